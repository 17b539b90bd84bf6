/-
  The document's Verb: MAIL and its options.
-/
import Derived.Test.YtcjljldknekhiaaGreatDoorKAR4
namespace Go.Proofs.YtcjljldknekhiaaGreatDoor.Ad
open Go.RowKit
set_option linter.unusedVariables false
set_option linter.unusedSimpArgs false

set_option maxHeartbeats 8000000 in
set_option maxRecDepth 100000 in
theorem refVerb_mailB (s : ByteArray) (hs : s.size ≤ 100000) (w : World) (N r : List UInt8) (hN : great (ahd 32 s.data.toList) = N) (hr : bhd 32 s.data.toList = r) (hX : N = nMail) (hk : keyed kFrom r = true) (hi : isPath (ahd 32 (r.drop 5)) = true) (he : ((bs (pathM (ahd 32 (r.drop 5)))).toList == []) = true) : Calls Tryz.prog 25 #[.string s] w fun e w' => e = .returned (cmdV (cmdOf N (mailM (bhd 32 s.data.toList)))) ∧ Below w.heap.size w w' := by
  have HX := Lib.hid hX
  have HNN := Lib.hid hN
  have HR := Lib.hid hr
  have HKD := Lib.hid hk
  clear hk
  have HIP := Lib.hid hi
  clear hi
  have HEE := Lib.hid he
  clear he
  clear hN hX hr
  have hlen := len_size s
  obtain ⟨r0, r1, b0⟩ := rows_new w
  have R0 := Lib.hid r0
  have R1 := Lib.hid r1
  have B0 := Lib.hid b0
  clear r0 r1 b0
  go_enter Tryz.func25, Tryz.ntmps25
  go_wp2
  go_loopw [5, 6, 7, 8] (fun z5 z6 z7 z8 wr => ∃ k : Nat, k ≤ s.size ∧ z5 = .string s ∧ z6 = .string { data := #[] } ∧ z7 = .bool false ∧ z8 = .int .i64 (k : Int) ∧ RowKit.Hid ((32 : UInt8) ∉ s.data.toList.take k) ∧ RowKit.Hid (Row3 wr w.heap.size { data := #[] } { data := #[] } 0) ∧ RowKit.Hid (Row3 wr (w.heap.size + 1) { data := #[] } { data := #[] } 0) ∧ RowKit.Hid (Below w.heap.size w wr)) (fun _ _ _ z _ => s.size - (Lib.intOf z).toNat)
  case atStart => exact ⟨0, by omega, rfl, rfl, rfl, rfl, Lib.hid (by simp), R0, R1, B0⟩
  case round =>
    obtain ⟨k, hk, rfl, rfl, rfl, rfl, hT, HR0, HR1, HB⟩ := hrel
    clear R0 R1 B0
    by_cases hlt : (k : Int) < (s.size : Int)
    · have hp : k < s.size := by omega
      have hg := get_list s k hp
      by_cases hq : ((s[k]'hp).toNat : Int) = 32
      · obtain ⟨e1, e2, e3⟩ := ahd_found (l := s.data.toList) (k := k) (by omega) (by rw [hg]; exact byte_32 hq) hT.out
        have et := take_bs s k
        have ed := drop_bs s (k + 1)
        rw [← e1] at et
        rw [← e2] at ed
        have hq2 : (((s[k]'hp).toNat : Int) == 32) = true := by rw [hq]; rfl
        have E3 := Lib.hid e3
        have hal := ahd_len 32 s.data.toList
        have hbl := bhd_len 32 s.data.toList
        rw [hlen] at hal hbl
        obtain ⟨Nm, hNm⟩ : ∃ Nm, bs (ahd 32 s.data.toList) = Nm := ⟨_, rfl⟩
        obtain ⟨Rs, hRs⟩ : ∃ Rs, bs (bhd 32 s.data.toList) = Rs := ⟨_, rfl⟩
        rw [hNm] at et
        rw [hRs] at ed
        have hNs : Nm.size ≤ s.size := by rw [← hNm, bs_size]; exact hal
        have hRz : Rs.size ≤ s.size := by rw [← hRs, bs_size]; exact hbl
        have HNM := Lib.hid hNm
        have HRS := Lib.hid hRs
        clear hg e1 e2 e3 hT hNm hRs hal hbl
        go_wp2_with fail
        go_quiet (fail)
        have HB' : RowKit.Hid (Below w.heap.size w (wr.drewN nq)) := Lib.hid (HB.out.trans ⟨rfl, rfl, rfl, Nat.le_refl _, fun _ _ => rfl⟩)
        have HR0' : RowKit.Hid (Row3 (wr.drewN nq) w.heap.size { data := #[] } { data := #[] } 0) := Lib.hid HR0.out
        have HR1' : RowKit.Hid (Row3 (wr.drewN nq) (w.heap.size + 1) { data := #[] } { data := #[] } 0) := Lib.hid HR1.out
        clear HB HR0 HR1
        generalize wr.drewN nq = wq at HB' HR0' HR1' ⊢
        have HB := HB'
        have HR0 := HR0'
        have HR1 := HR1'
        clear et ed hq hq2 HB' HR0' HR1'
        have cG := refGreat_walk Nm (by omega) wq
        obtain ⟨G, hG⟩ : ∃ G, bs (Nm.data.toList.map upper) = G := ⟨_, rfl⟩
        rw [hG] at cG
        have HG : RowKit.Hid (bs (great (ahd 32 s.data.toList)) = G) := Lib.hid (by
          rw [← hG]
          rw [← HNM.out, bs_data]; rfl)
        have CG := Lib.hid cG
        clear cG hG
        have HF : RowKit.Hid (((G.toList == [72, 69, 76, 79]) = false ∧ (G.toList == [69, 72, 76, 79]) = false ∧ (G.toList == [68, 65, 84, 65]) = false ∧ (G.toList == [82, 83, 69, 84]) = false ∧ (G.toList == [81, 85, 73, 84]) = false ∧ (G.toList == [78, 79, 79, 80]) = false ∧ (G.toList == [86, 82, 70, 89]) = false ∧ (G.toList == [77, 65, 73, 76]) = true ∧ (G.toList == [82, 67, 80, 84]) = false)) := Lib.hid (by
          have hGl : G.toList = N := by rw [← HG.out, ByteArray.toList_eq, bs_data, HNN.out]
          rcases HX.out with rfl
          · have h : G.toList = nMail := hGl
            exact ⟨by rw [h]; rfl, by rw [h]; rfl, by rw [h]; rfl, by rw [h]; rfl, by rw [h]; rfl, by rw [h]; rfl, by rw [h]; rfl, by rw [h]; rfl, by rw [h]; rfl⟩)
        have HGN : RowKit.Hid (bs N = G) := Lib.hid (by rw [← HG.out, HNN.out])
        have hRd : Rs.data.toList = bhd 32 s.data.toList := by rw [← HRS.out, bs_data]
        have hRl := len_size Rs
        rw [HR.out] at hRd
        have hge : ¬ (Rs.size : Int) < 5 := by
          have h := keyed_len HKD.out
          rw [← hRd] at h
          have h2 : 5 ≤ Rs.data.toList.length := h
          omega
        have et := take_list Rs 5
        have ed := drop_list Rs 5
        rw [hRd] at et ed
        have hts : (Rs.extract 0 5).size ≤ 100000 := by rw [et, bs_size, List.length_take]; omega
        have hds : (Rs.extract 5 Rs.size).size ≤ 100000 := by rw [ed, bs_size, List.length_drop, ← hRd]; omega
        have hdd : (Rs.extract 5 Rs.size).data.toList = r.drop 5 := by rw [ed, bs_data]
        have c3 := fun W => refGreat_walk (Rs.extract 0 5) (by omega) W
        obtain ⟨g, hg⟩ : ∃ g, bs ((Rs.extract 0 5).data.toList.map upper) = g := ⟨_, rfl⟩
        rw [hg] at c3
        have hkd2 : keyed kFrom r = (g.toList == [70, 82, 79, 77, 58]) := by
          rw [keyed, decide_eq_true (by rw [← hRd]; show 5 ≤ _; omega), Bool.true_and, ByteArray.toList_eq, ← hg, bs_data, et, bs_data]
          rfl
        have C3 := Lib.hid c3
        have HDD := Lib.hid hdd
        have HDS := Lib.hid hds
        clear c3 hg et ed hts hds hdd hRd
        have hq : (g.toList == [70, 82, 79, 77, 58]) = true := hkd2.symm.trans HKD.out
        clear hkd2
        obtain ⟨D, hD⟩ : ∃ D, Rs.extract 5 Rs.size = D := ⟨_, rfl⟩
        have cC : ∀ W, Calls Tryz.prog 43 #[.string (Rs.extract 5 Rs.size), .int .u8 32] W fun e w' => ∃ v, e = .returned v ∧ TextsN W.heap.size w' v (cuts 32 (r.drop 5)) ∧ Below W.heap.size W w' := fun W => by
          have c := refCutN_walk (Rs.extract 5 Rs.size) 32 HDS.out W
          rw [HDD.out] at c
          exact c
        obtain ⟨L, hL⟩ : ∃ L, cuts 32 (r.drop 5) = L := ⟨_, rfl⟩
        have hpos : 0 < L.length := by rw [← hL]; exact List.length_pos_iff.2 (cuts_ne 32 _)
        have hcs := cuts_short 32 (r.drop 5)
        have hrl : (r.drop 5).length ≤ 100000 := by have h1 := HDS.out; have h2 := HDD.out; have h3 := len_size (Rs.extract 5 Rs.size); rw [h2] at h3; omega
        rw [hL] at hcs cC
        have hL0 : L[0]'hpos = ahd 32 (r.drop 5) := by simp only [← hL]; exact cuts_first _ (by rw [hL]; exact hpos)
        have hLs : RowKit.Hid (∀ k (hk : k < L.length), (L[k]'hk).length ≤ 100000) := Lib.hid (fun k hk => Nat.le_trans (hcs.2 _ (List.getElem_mem hk)) hrl)
        have hLl : L.length ≤ 100001 := by have := hcs.1; omega
        have CC := Lib.hid cC
        have cP := fun W => refPath_walk (bs (ahd 32 (r.drop 5))) (by rw [bs_size, ← hL0]; exact hLs.out 0 hpos) W
        rw [bs_data] at cP
        unfold pathV at cP
        obtain ⟨X, hX⟩ : ∃ X, bs (pathM (ahd 32 (r.drop 5))) = X := ⟨_, rfl⟩
        obtain ⟨P0, hP0⟩ : ∃ P0, bs (ahd 32 (r.drop 5)) = P0 := ⟨_, rfl⟩
        rw [hX, hP0] at cP
        have HX0 := Lib.hid hX
        have HL0 : RowKit.Hid (bs (L[0]'hpos) = P0) := Lib.hid (by rw [hL0, hP0])
        have HL := Lib.hid hL
        clear hL hL0 hcs hrl hX hP0 cC hD
        obtain ⟨R, hRR⟩ : ∃ R, sizeGo (-1) 0 L.tail = R := ⟨_, rfl⟩
        have HVR : RowKit.Hid (cmdV (cmdOf N (mailM (bhd 32 s.data.toList))) = if R.2 = 0 then .tuple #[.agg (cells3 G X R.1), .int .i64 0] else .tuple #[.agg (cells3 { data := #[] } { data := #[] } 0), .int .i64 R.2]) := Lib.hid (by
          rw [HR.out, mailM_opts HKD.out HIP.out, HL.out, hRR, ← HX0.out, ← HGN.out]
          by_cases h : R.2 = 0
          · rw [if_pos h, if_pos h]; rfl
          · rw [if_neg h, if_neg h, cmdOf, if_neg (show ¬ (bad R.2).code = 0 from h)]; rfl)
        have HRR : RowKit.Hid (sizeGo (-1) 0 (L.drop 1) = R) := Lib.hid (by rw [List.drop_one]; exact hRR)
        have hE : (X.toList == []) = true := by rw [← HX0.out]; exact HEE.out
        rw [HIP.out] at cP
        have CP2 := Lib.hid cP
        clear cP hRR
        rcases HF.out with ⟨qHelo, qEhlo, qData, qRset, qQuit, qNoop, qVrfy, qMail, qRcpt⟩
        all_goals
          go_wp2_with fail
          refine CG.out.mono ?_
          rintro e w1 ⟨rfl, hb1⟩
          have HB1 := Lib.hid (HB.out.trans (hb1.mono HB.out.size))
          have S0 := Lib.hid (HR0.out.keep HR0.out.lt hb1)
          have S1 := Lib.hid (HR1.out.keep HR1.out.lt hb1)
          have hb2 := (Below.refl w1.heap.size w1).alloc (Nat.le_refl _) (.cells #[.string G, .string { data := #[] }, .int .i64 (-1)] 58)
          have T0 := Lib.hid (S0.out.keep S0.out.lt hb2)
          have T1 := Lib.hid (S1.out.keep S1.out.lt hb2)
          have T2 := Lib.hid (row3_new w1 G { data := #[] } (-1))
          have HB2 := Lib.hid (HB1.out.trans (hb2.mono HB1.out.size))
          have HLT : RowKit.Hid (w.heap.size < w1.heap.size ∧ w.heap.size + 1 < w1.heap.size) := Lib.hid ⟨S0.out.lt, S1.out.lt⟩
          clear hb1 hb2 CG
          go_wp2_with fail
          refine (C3.out _).mono ?_
          rintro e w3 ⟨rfl, hb3⟩
          have U0 := Lib.hid (T0.out.keep T0.out.lt hb3)
          have U1 := Lib.hid (T1.out.keep T1.out.lt hb3)
          have U2 := Lib.hid (T2.out.keep T2.out.lt hb3)
          have HB3 := Lib.hid (HB2.out.trans (hb3.mono HB2.out.size))
          have HLT3 : RowKit.Hid (w1.heap.size < w3.heap.size) := Lib.hid U2.out.lt
          clear hb3
          go_wp2_with fail
          refine (CC.out _).mono ?_
          rintro e w4 ⟨v, rfl, hTx, hb4⟩
          obtain ⟨gT, cap, rfl, hcap, hgT, hgT2, hTx⟩ := hTx
          have V0 := Lib.hid (U0.out.keep U0.out.lt hb4)
          have V1 := Lib.hid (U1.out.keep U1.out.lt hb4)
          have V2 := Lib.hid (U2.out.keep U2.out.lt hb4)
          have HB4 := Lib.hid (HB3.out.trans (hb4.mono HB3.out.size))
          have HGT : RowKit.Hid (w1.heap.size < gT ∧ w.heap.size < gT) := Lib.hid (by have h1 := HLT3.out; have h2 := HLT.out; omega)
          have TX := Lib.hid hTx
          have HGL := Lib.hid hgT2
          have t0 := hTx 0 hpos
          rw [HL0.out] at t0
          clear hb4 hTx hgT hgT2
          go_wp2_with fail
          refine (CP2.out _).mono ?_
          rintro e w5 ⟨rfl, hb5⟩
          have X0 := Lib.hid (V0.out.keep V0.out.lt hb5)
          have X1 := Lib.hid (V1.out.keep V1.out.lt hb5)
          have X2 := Lib.hid (V2.out.keep V2.out.lt hb5)
          have XT := Lib.hid (TX.out.keep HGL.out hb5)
          have HB5 := Lib.hid (HB4.out.trans (hb5.mono HB4.out.size))
          clear hb5 t0
          obtain ⟨k0, k1, k2⟩ := X2.out.cells
          have f1 := X2.out.frozen 1
          have Y0 := Lib.hid (X0.out.other ⟨w1.heap.size, 1, none⟩ (by have := HLT.out; show w.heap.size ≠ w1.heap.size; omega) (.string X))
          have Y1 := Lib.hid (X1.out.other ⟨w1.heap.size, 1, none⟩ (by have := HLT.out; show w.heap.size + 1 ≠ w1.heap.size; omega) (.string X))
          have Y2 := Lib.hid (X2.out.arg X)
          have YT : RowKit.Hid (Txt (w5.setCell ⟨w1.heap.size, 1, none⟩ (.string X)) gT L) := Lib.hid (XT.out.other (by have := HGT.out; omega) _ _)
          have HB6 := Lib.hid (HB5.out.setCell (p := ⟨w1.heap.size, 1, none⟩) (by have := HLT.out; show w.heap.size ≤ w1.heap.size; omega) (.string X))
          go_wp2
          go_loopw [14, 15] (fun z14 z15 wr => ∃ (k : Nat) (z : Int) (o : Bool), 1 ≤ k ∧ k ≤ L.length ∧ z14 = .bool o ∧ z15 = .int .i64 (k : Int) ∧ RowKit.Hid (sizeGo z (if o then 555 else 0) (L.drop k) = R) ∧ (z = -1 ∨ 0 ≤ z) ∧ RowKit.Hid (Row3 wr w.heap.size { data := #[] } { data := #[] } 0) ∧ RowKit.Hid (Row3 wr (w.heap.size + 1) { data := #[] } { data := #[] } 0) ∧ RowKit.Hid (Row3 wr w1.heap.size G X z) ∧ RowKit.Hid (Txt wr gT L) ∧ RowKit.Hid (gT < wr.heap.size) ∧ RowKit.Hid (Below w.heap.size w wr)) (fun _ z _ => L.length - (Lib.intOf z).toNat)
          case atStart => exact ⟨1, -1, false, by omega, by omega, rfl, rfl, HRR, .inl rfl, Y0, Y1, Y2, YT, Lib.hid (by have h1 := HB6.out; have h2 := XT.out 0 hpos; have := block_lt_of_cell (YT.out 0 hpos); exact this), HB6⟩
          case round =>
            obtain ⟨k, z, o, hk1, hk, rfl, rfl, hG0, hz, Z0, Z1, Z2, ZT, ZL, ZB⟩ := hrel
            clear X0 X1 X2 XT Y0 Y1 Y2 YT HB6 HB5 k0 k1 k2 f1 HRR
            obtain ⟨k0, k1, k2⟩ := Z2.out.cells
            have f2 := Z2.out.frozen 2
            by_cases hlt : (k : Int) < (L.length : Int)
            · have hkl : k < L.length := by omega
              have hc := ZT.out k hkl
              have hol := hLs.out k hkl
              have hG1 := hG0.out
              rw [List.drop_eq_getElem_cons hkl] at hG1
              clear hG0
              obtain ⟨p, hp⟩ : ∃ p, L[k]'hkl = p := ⟨_, rfl⟩
              rw [hp] at hc hol hG1
              obtain ⟨O, hO⟩ : ∃ O, bs p = O := ⟨_, rfl⟩
              have hOs : O.size = p.length := by rw [← hO, bs_size]
              have hOd : O.data.toList = p := by rw [← hO, bs_data]
              rw [hO] at hc
              have HOD := Lib.hid hOd
              have HOO : RowKit.Hid (bs (L[k]'hkl) = O) := Lib.hid (by rw [hp, hO])
              have HOS := Lib.hid hOs
              have HG1 := Lib.hid hG1
              have hO5 : O.size ≤ 100000 := by omega
              clear hp hO hOd hG1
              by_cases h5 : (O.size : Int) < 5
              · have HG2 : RowKit.Hid (sizeGo z 555 (L.drop (k + 1)) = R) := Lib.hid (by
                  rw [← HG1.out, sizeGo_other]
                  rw [keyed, decide_eq_false (show ¬ kSize.length ≤ p.length by have := HOS.out; show ¬ 5 ≤ p.length; omega), Bool.false_and])
                clear HG1 hOs
                go_wp2
                go_roundw
                case rel => exact ⟨k + 1, z, true, by omega, by omega, rfl, by simp, HG2, hz, Z0, Z1, Z2, ZT, ZL, ZB⟩
                case measure =>
                  simp [Lib.intOf]
                  omega
              · have et := take_list O 5
                have ed := drop_list O 5
                rw [HOD.out] at et ed
                have c6 := fun W => refGreat_walk (O.extract 0 5) (by rw [et, bs_size, List.length_take]; omega) W
                obtain ⟨g2, hg2⟩ : ∃ g2, bs ((O.extract 0 5).data.toList.map upper) = g2 := ⟨_, rfl⟩
                rw [hg2] at c6
                have hks : keyed kSize p = (g2.toList == [83, 73, 90, 69, 61]) := by
                  rw [keyed, decide_eq_true (show kSize.length ≤ p.length by have := HOS.out; show 5 ≤ p.length; omega), Bool.true_and, ByteArray.toList_eq, ← hg2, bs_data, et, bs_data]
                  rfl
                have c7 := fun W => refNum_walk (O.extract 5 O.size) (by rw [ed, bs_size, List.length_drop]; omega) W
                rw [show (O.extract 5 O.size).data.toList = p.drop 5 by rw [ed, bs_data]] at c7
                have C6 := Lib.hid c6
                have C7 := Lib.hid c7
                clear c6 c7 et ed hg2 hOs
                cases hq2 : (g2.toList == [83, 73, 90, 69, 61]) with
                | false =>
                  rw [hq2] at hks
                  have HG2 : RowKit.Hid (sizeGo z 555 (L.drop (k + 1)) = R) := Lib.hid (by rw [← HG1.out, sizeGo_other hks])
                  clear HG1 hks
                  go_wp2_with fail
                  refine (C6.out _).mono ?_
                  rintro e w7 ⟨rfl, hb7⟩
                  have Q0 := Lib.hid (Z0.out.keep Z0.out.lt hb7)
                  have Q1 := Lib.hid (Z1.out.keep Z1.out.lt hb7)
                  have Q2 := Lib.hid (Z2.out.keep Z2.out.lt hb7)
                  have QT := Lib.hid (ZT.out.keep ZL.out hb7)
                  have QL := Lib.hid (Nat.lt_of_lt_of_le ZL.out hb7.size)
                  have QB := Lib.hid (ZB.out.trans (hb7.mono ZB.out.size))
                  clear hb7
                  go_wp2
                  go_roundw
                  case rel => exact ⟨k + 1, z, true, by omega, by omega, rfl, by simp, HG2, hz, Q0, Q1, Q2, QT, QL, QB⟩
                  case measure =>
                    simp [Lib.intOf]
                    omega
                | true =>
                  rw [hq2] at hks
                  have HKS := Lib.hid hks
                  clear hks
                  cases hn : isNum (p.drop 5) with
                  | false =>
                    have HRE : RowKit.Hid ((0, 501) = R) := Lib.hid (by rw [← HG1.out, sizeGo_num HKS.out hn])
                    have HV : RowKit.Hid (cmdV (cmdOf N (mailM (bhd 32 s.data.toList))) = .tuple #[.agg (cells3 { data := #[] } { data := #[] } 0), .int .i64 501]) := Lib.hid (by rw [HVR.out, ← HRE.out]; rfl)
                    have c7 := C7.out
                    unfold numV at c7
                    rw [hn] at c7
                    have C72 := Lib.hid c7
                    clear c7 C7 HG1 hn
                    go_wp2_with fail
                    refine (C6.out _).mono ?_
                    rintro e w7 ⟨rfl, hb7⟩
                    have Q0 := Lib.hid (Z0.out.keep Z0.out.lt hb7)
                    have Q1 := Lib.hid (Z1.out.keep Z1.out.lt hb7)
                    have qc := (ZT.out.keep ZL.out hb7) k hkl
                    rw [HOO.out] at qc
                    have QB := Lib.hid (ZB.out.trans (hb7.mono ZB.out.size))
                    clear hb7
                    go_wp2_with fail
                    refine (C72.out _).mono ?_
                    rintro e w8 ⟨rfl, hw8⟩
                    obtain rfl : w7 = w8 := hw8.symm
                    go_wp2_with (first | (refine step_load (by rfl) (.tmp 4) (by rfl) (w.heap.size + 1) _ _ _ (by rfl) Q1.out ?_) | (refine step_row (by rfl) (.tmp 2) (.tmp 155) (by rfl) w.heap.size { data := #[] } { data := #[] } 0 (by rfl) (by rfl) _ _ _ Q0.out ?_))
                    (try simp only [Exit.inBlock, Exit.then])
                    refine bodyPost_ret (ret_row (fn := Tryz.f25) (p := 2) (u := 3) rfl _ _ w.heap.size { data := #[] } { data := #[] } 0 rfl (Q0.out.set _ _ _)) rfl ?_
                    exact ⟨by rw [HV.out]; rfl, below_setRow QB.out (Nat.le_refl _) _⟩
                  | true =>
                    have c7 := C7.out
                    unfold numV at c7
                    rw [hn, if_pos rfl] at c7
                    obtain ⟨nn, hnn⟩ : ∃ nn, num (p.drop 5) = nn := ⟨_, rfl⟩
                    rw [hnn] at c7
                    have C72 := Lib.hid c7
                    have HNN2 := Lib.hid hnn
                    have HNU := Lib.hid hn
                    clear c7 C7 hn hnn
                    rcases hz with rfl | hz0
                    · have HG2 : RowKit.Hid (sizeGo nn (if o then 555 else 0) (L.drop (k + 1)) = R) := Lib.hid (by rw [← HG1.out, sizeGo_good HKS.out HNU.out, HNN2.out])
                      clear HG1
                      go_wp2_with fail
                      refine (C6.out _).mono ?_
                      rintro e w7 ⟨rfl, hb7⟩
                      have Q0 := Lib.hid ((Z0.out.keep Z0.out.lt hb7).other ⟨w1.heap.size, 2, none⟩ (by have := HLT.out; show w.heap.size ≠ w1.heap.size; omega) (.int .i64 (nn : Int)))
                      have Q1 := Lib.hid ((Z1.out.keep Z1.out.lt hb7).other ⟨w1.heap.size, 2, none⟩ (by have := HLT.out; show w.heap.size + 1 ≠ w1.heap.size; omega) (.int .i64 (nn : Int)))
                      have q2 := Z2.out.keep Z2.out.lt hb7
                      have Q2 := Lib.hid (q2.siz (nn : Int))
                      have qt := ZT.out.keep ZL.out hb7
                      have QT : RowKit.Hid (Txt (w7.setCell ⟨w1.heap.size, 2, none⟩ (.int .i64 (nn : Int))) gT L) := Lib.hid (qt.other (by have := HGT.out; omega) _ _)
                      have QL : RowKit.Hid (gT < (w7.setCell ⟨w1.heap.size, 2, none⟩ (.int .i64 (nn : Int))).heap.size) := Lib.hid (block_lt_of_cell (QT.out 0 hpos))
                      have QB := Lib.hid ((ZB.out.trans (hb7.mono ZB.out.size)).setCell (p := ⟨w1.heap.size, 2, none⟩) (by have := HLT.out; show w.heap.size ≤ w1.heap.size; omega) (.int .i64 (nn : Int)))
                      have qc := qt k hkl
                      rw [HOO.out] at qc
                      obtain ⟨_, _, j2⟩ := q2.cells
                      have g2f := q2.frozen 2
                      clear hb7 q2 qt
                      go_wp2_with fail
                      refine (C72.out _).mono ?_
                      rintro e w8 ⟨rfl, hw8⟩
                      obtain rfl : w7 = w8 := hw8.symm
                      go_wp2
                      go_roundw
                      case rel => exact ⟨k + 1, nn, o, by omega, by omega, rfl, by simp, HG2, .inr (by omega), Q0, Q1, Q2, QT, QL, QB⟩
                      case measure =>
                        simp [Lib.intOf]
                        omega
                    · have HRE : RowKit.Hid ((0, 501) = R) := Lib.hid (by rw [← HG1.out, sizeGo_two HKS.out hz0])
                      have HV : RowKit.Hid (cmdV (cmdOf N (mailM (bhd 32 s.data.toList))) = .tuple #[.agg (cells3 { data := #[] } { data := #[] } 0), .int .i64 501]) := Lib.hid (by rw [HVR.out, ← HRE.out]; rfl)
                      clear HG1
                      go_wp2_with fail
                      refine (C6.out _).mono ?_
                      rintro e w7 ⟨rfl, hb7⟩
                      have Q0 := Lib.hid (Z0.out.keep Z0.out.lt hb7)
                      have Q1 := Lib.hid (Z1.out.keep Z1.out.lt hb7)
                      obtain ⟨_, _, j2⟩ := (Z2.out.keep Z2.out.lt hb7).cells
                      have qc := (ZT.out.keep ZL.out hb7) k hkl
                      rw [HOO.out] at qc
                      have QB := Lib.hid (ZB.out.trans (hb7.mono ZB.out.size))
                      clear hb7
                      go_wp2_with fail
                      refine (C72.out _).mono ?_
                      rintro e w8 ⟨rfl, hw8⟩
                      obtain rfl : w7 = w8 := hw8.symm
                      go_wp2_with (first | (refine step_load (by rfl) (.tmp 4) (by rfl) (w.heap.size + 1) _ _ _ (by rfl) Q1.out ?_) | (refine step_row (by rfl) (.tmp 2) (.tmp 155) (by rfl) w.heap.size { data := #[] } { data := #[] } 0 (by rfl) (by rfl) _ _ _ Q0.out ?_))
                      (try simp only [Exit.inBlock, Exit.then])
                      refine bodyPost_ret (ret_row (fn := Tryz.f25) (p := 2) (u := 3) rfl _ _ w.heap.size { data := #[] } { data := #[] } 0 rfl (Q0.out.set _ _ _)) rfl ?_
                      exact ⟨by rw [HV.out]; rfl, below_setRow QB.out (Nat.le_refl _) _⟩
            · have hG1 := hG0.out
              rw [List.drop_eq_nil_of_le (by omega), sizeGo_end] at hG1
              have HG1 := Lib.hid hG1
              clear hG0 hG1
              cases o with
              | true =>
                have HV : RowKit.Hid (cmdV (cmdOf N (mailM (bhd 32 s.data.toList))) = .tuple #[.agg (cells3 { data := #[] } { data := #[] } 0), .int .i64 555]) := Lib.hid (by rw [HVR.out, ← HG1.out]; rfl)
                go_wp2_with (first | (refine step_load (by rfl) (.tmp 4) (by rfl) (w.heap.size + 1) _ _ _ (by rfl) Z1.out ?_) | (refine step_row (by rfl) (.tmp 2) (.tmp 159) (by rfl) w.heap.size { data := #[] } { data := #[] } 0 (by rfl) (by rfl) _ _ _ Z0.out ?_))
                (try simp only [Exit.inBlock, Exit.then])
                refine bodyPost_ret (ret_row (fn := Tryz.f25) (p := 2) (u := 3) rfl _ _ w.heap.size { data := #[] } { data := #[] } 0 rfl (Z0.out.set _ _ _)) rfl ?_
                exact ⟨by rw [HV.out]; rfl, below_setRow ZB.out (Nat.le_refl _) _⟩
              | false =>
                have HV : RowKit.Hid (cmdV (cmdOf N (mailM (bhd 32 s.data.toList))) = .tuple #[.agg (cells3 G X z), .int .i64 0]) := Lib.hid (by rw [HVR.out, ← HG1.out]; rfl)
                go_wp2_with (first | (refine step_load (by rfl) (.tmp 9) (by rfl) w1.heap.size _ _ _ (by rfl) Z2.out ?_) | (refine step_row (by rfl) (.tmp 2) (.tmp 160) (by rfl) w.heap.size G X z (by rfl) (by rfl) _ _ _ Z0.out ?_))
                (try simp only [Exit.inBlock, Exit.then])
                refine bodyPost_ret (ret_row (fn := Tryz.f25) (p := 2) (u := 3) rfl _ _ w.heap.size G X z rfl (Z0.out.set _ _ _)) rfl ?_
                exact ⟨by rw [HV.out]; rfl, below_setRow ZB.out (Nat.le_refl _) _⟩
      · have hT2 := Lib.hid (no_more (l := s.data.toList) (k := k) (by omega) hT.out (by rw [hg]; exact byte_not hq))
        have hq2 : (((s[k]'hp).toNat : Int) == 32) = false := by rw [beq_eq_false_iff_ne]; exact hq
        clear hg
        go_wp2
        go_roundw
        case rel => exact ⟨k + 1, by omega, rfl, rfl, rfl, by simp, hT2, HR0, HR1, HB⟩
        case measure =>
          simp [Lib.intOf]
          omega
    · have hno : (32 : UInt8) ∉ s.data.toList := by
        have := hT.out
        rw [List.take_of_length_le (by omega)] at this
        exact this
      obtain ⟨e1, e2, e3⟩ := ahd_miss 32 hno
      have HNM : RowKit.Hid (bs (ahd 32 s.data.toList) = s) := Lib.hid (by rw [e1, bs_of])
      have HRS : RowKit.Hid (bs (bhd 32 s.data.toList) = { data := #[] }) := Lib.hid (by rw [e2]; rfl)
      have E3 := Lib.hid e3
      have hRz : ({ data := #[] } : ByteArray).size ≤ s.size := Nat.zero_le _
      clear hno e1 e2 e3 hT
      have hR : r = [] := by have h := congrArg (fun x : ByteArray => x.data.toList) HRS.out; simp only [bs_data] at h; rw [← HR.out]; exact h
      have h := HKD.out
      rw [hR] at h
      exact absurd h (by decide)
end Go.Proofs.YtcjljldknekhiaaGreatDoor.Ad
