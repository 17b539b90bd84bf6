/-
  The document's Verb: RCPT.
-/
import Derived.Test.YtcjljldknekhiaaGreatDoorKAR4
namespace Go.Proofs.YtcjljldknekhiaaGreatDoor.Ad
open Go.RowKit
set_option linter.unusedVariables false
set_option linter.unusedSimpArgs false

set_option maxHeartbeats 8000000 in
set_option maxRecDepth 100000 in
theorem refVerb_rcptS (s : ByteArray) (hs : s.size ≤ 100000) (w : World) (N r : List UInt8) (hN : great (ahd 32 s.data.toList) = N) (hr : bhd 32 s.data.toList = r) (hX : N = nRcpt) (hk : keyed kTo r = false) : Calls Tryz.prog 25 #[.string s] w fun e w' => e = .returned (cmdV (cmdOf N (rcptM (bhd 32 s.data.toList)))) ∧ Below w.heap.size w w' := by
  have HX := Lib.hid hX
  have HNN := Lib.hid hN
  have HR := Lib.hid hr
  have HKD := Lib.hid hk
  clear hk
  clear hN hX hr
  have hlen := len_size s
  obtain ⟨r0, r1, b0⟩ := rows_new w
  have R0 := Lib.hid r0
  have R1 := Lib.hid r1
  have B0 := Lib.hid b0
  clear r0 r1 b0
  go_enter Tryz.func25, Tryz.ntmps25
  go_wp2
  go_loopw [5, 6, 7, 8] (fun z5 z6 z7 z8 wr => ∃ k : Nat, k ≤ s.size ∧ z5 = .string s ∧ z6 = .string { data := #[] } ∧ z7 = .bool false ∧ z8 = .int .i64 (k : Int) ∧ RowKit.Hid ((32 : UInt8) ∉ s.data.toList.take k) ∧ RowKit.Hid (Row3 wr w.heap.size { data := #[] } { data := #[] } 0) ∧ RowKit.Hid (Row3 wr (w.heap.size + 1) { data := #[] } { data := #[] } 0) ∧ RowKit.Hid (Below w.heap.size w wr)) (fun _ _ _ z _ => s.size - (Lib.intOf z).toNat)
  case atStart => exact ⟨0, by omega, rfl, rfl, rfl, rfl, Lib.hid (by simp), R0, R1, B0⟩
  case round =>
    obtain ⟨k, hk, rfl, rfl, rfl, rfl, hT, HR0, HR1, HB⟩ := hrel
    clear R0 R1 B0
    by_cases hlt : (k : Int) < (s.size : Int)
    · have hp : k < s.size := by omega
      have hg := get_list s k hp
      by_cases hq : ((s[k]'hp).toNat : Int) = 32
      · obtain ⟨e1, e2, e3⟩ := ahd_found (l := s.data.toList) (k := k) (by omega) (by rw [hg]; exact byte_32 hq) hT.out
        have et := take_bs s k
        have ed := drop_bs s (k + 1)
        rw [← e1] at et
        rw [← e2] at ed
        have hq2 : (((s[k]'hp).toNat : Int) == 32) = true := by rw [hq]; rfl
        have E3 := Lib.hid e3
        have hal := ahd_len 32 s.data.toList
        have hbl := bhd_len 32 s.data.toList
        rw [hlen] at hal hbl
        obtain ⟨Nm, hNm⟩ : ∃ Nm, bs (ahd 32 s.data.toList) = Nm := ⟨_, rfl⟩
        obtain ⟨Rs, hRs⟩ : ∃ Rs, bs (bhd 32 s.data.toList) = Rs := ⟨_, rfl⟩
        rw [hNm] at et
        rw [hRs] at ed
        have hNs : Nm.size ≤ s.size := by rw [← hNm, bs_size]; exact hal
        have hRz : Rs.size ≤ s.size := by rw [← hRs, bs_size]; exact hbl
        have HNM := Lib.hid hNm
        have HRS := Lib.hid hRs
        clear hg e1 e2 e3 hT hNm hRs hal hbl
        go_wp2_with fail
        go_quiet (fail)
        have HB' : RowKit.Hid (Below w.heap.size w (wr.drewN nq)) := Lib.hid (HB.out.trans ⟨rfl, rfl, rfl, Nat.le_refl _, fun _ _ => rfl⟩)
        have HR0' : RowKit.Hid (Row3 (wr.drewN nq) w.heap.size { data := #[] } { data := #[] } 0) := Lib.hid HR0.out
        have HR1' : RowKit.Hid (Row3 (wr.drewN nq) (w.heap.size + 1) { data := #[] } { data := #[] } 0) := Lib.hid HR1.out
        clear HB HR0 HR1
        generalize wr.drewN nq = wq at HB' HR0' HR1' ⊢
        have HB := HB'
        have HR0 := HR0'
        have HR1 := HR1'
        clear et ed hq hq2 HB' HR0' HR1'
        have cG := refGreat_walk Nm (by omega) wq
        obtain ⟨G, hG⟩ : ∃ G, bs (Nm.data.toList.map upper) = G := ⟨_, rfl⟩
        rw [hG] at cG
        have HG : RowKit.Hid (bs (great (ahd 32 s.data.toList)) = G) := Lib.hid (by
          rw [← hG]
          rw [← HNM.out, bs_data]; rfl)
        have CG := Lib.hid cG
        clear cG hG
        have HF : RowKit.Hid (((G.toList == [72, 69, 76, 79]) = false ∧ (G.toList == [69, 72, 76, 79]) = false ∧ (G.toList == [68, 65, 84, 65]) = false ∧ (G.toList == [82, 83, 69, 84]) = false ∧ (G.toList == [81, 85, 73, 84]) = false ∧ (G.toList == [78, 79, 79, 80]) = false ∧ (G.toList == [86, 82, 70, 89]) = false ∧ (G.toList == [77, 65, 73, 76]) = false ∧ (G.toList == [82, 67, 80, 84]) = true)) := Lib.hid (by
          have hGl : G.toList = N := by rw [← HG.out, ByteArray.toList_eq, bs_data, HNN.out]
          rcases HX.out with rfl
          · have h : G.toList = nRcpt := hGl
            exact ⟨by rw [h]; rfl, by rw [h]; rfl, by rw [h]; rfl, by rw [h]; rfl, by rw [h]; rfl, by rw [h]; rfl, by rw [h]; rfl, by rw [h]; rfl, by rw [h]; rfl⟩)
        have HGN : RowKit.Hid (bs N = G) := Lib.hid (by rw [← HG.out, HNN.out])
        have HV : RowKit.Hid (cmdV (cmdOf N (rcptM (bhd 32 s.data.toList))) = .tuple #[.agg (cells3 { data := #[] } { data := #[] } 0), .int .i64 501]) := Lib.hid (by rw [HR.out, rcptM_short HKD.out]; rfl)
        have hRd : Rs.data.toList = bhd 32 s.data.toList := by rw [← HRS.out, bs_data]
        have hRl := len_size Rs
        rw [HR.out] at hRd
        by_cases hsh : (Rs.size : Int) < 3
        · clear hRd hRl
          rcases HF.out with ⟨qHelo, qEhlo, qData, qRset, qQuit, qNoop, qVrfy, qMail, qRcpt⟩
          all_goals
            go_wp2_with fail
            refine CG.out.mono ?_
            rintro e w1 ⟨rfl, hb1⟩
            have HB1 := Lib.hid (HB.out.trans (hb1.mono HB.out.size))
            have S0 := Lib.hid (HR0.out.keep HR0.out.lt hb1)
            have S1 := Lib.hid (HR1.out.keep HR1.out.lt hb1)
            have hb2 := (Below.refl w1.heap.size w1).alloc (Nat.le_refl _) (.cells #[.string G, .string { data := #[] }, .int .i64 (-1)] 58)
            have T0 := Lib.hid (S0.out.keep S0.out.lt hb2)
            have T1 := Lib.hid (S1.out.keep S1.out.lt hb2)
            have T2 := Lib.hid (row3_new w1 G { data := #[] } (-1))
            have HB2 := Lib.hid (HB1.out.trans (hb2.mono HB1.out.size))
            have HLT : RowKit.Hid (w.heap.size < w1.heap.size ∧ w.heap.size + 1 < w1.heap.size) := Lib.hid ⟨S0.out.lt, S1.out.lt⟩
            clear hb1 hb2 CG
            go_wp2_with (first | (refine step_load (by rfl) (.tmp 4) (by rfl) (w.heap.size + 1) _ _ _ (by rfl) T1.out ?_) | (refine step_row (by rfl) (.tmp 2) (.tmp 86) (by rfl) w.heap.size { data := #[] } { data := #[] } 0 (by rfl) (by rfl) _ _ _ T0.out ?_))
            (try simp only [Exit.inBlock, Exit.then])
            refine bodyPost_ret (ret_row (fn := Tryz.f25) (p := 2) (u := 3) rfl _ _ w.heap.size { data := #[] } { data := #[] } 0 rfl (T0.out.set _ _ _)) rfl ?_
            exact ⟨by rw [HV.out]; rfl, below_setRow HB2.out (Nat.le_refl _) _⟩
        · have et := take_list Rs 3
          have ed := drop_list Rs 3
          rw [hRd] at et ed
          have hts : (Rs.extract 0 3).size ≤ 100000 := by rw [et, bs_size, List.length_take]; omega
          have hds : (Rs.extract 3 Rs.size).size ≤ 100000 := by rw [ed, bs_size, List.length_drop, ← hRd]; omega
          have hdd : (Rs.extract 3 Rs.size).data.toList = r.drop 3 := by rw [ed, bs_data]
          have c3 := fun W => refGreat_walk (Rs.extract 0 3) (by omega) W
          obtain ⟨g, hg⟩ : ∃ g, bs ((Rs.extract 0 3).data.toList.map upper) = g := ⟨_, rfl⟩
          rw [hg] at c3
          have hkd2 : keyed kTo r = (g.toList == [84, 79, 58]) := by
            rw [keyed, decide_eq_true (by rw [← hRd]; show 3 ≤ _; omega), Bool.true_and, ByteArray.toList_eq, ← hg, bs_data, et, bs_data]
            rfl
          have C3 := Lib.hid c3
          have HDD := Lib.hid hdd
          have HDS := Lib.hid hds
          clear c3 hg et ed hts hds hdd hRd
          have hq : (g.toList == [84, 79, 58]) = false := hkd2.symm.trans HKD.out
          clear hkd2
          rcases HF.out with ⟨qHelo, qEhlo, qData, qRset, qQuit, qNoop, qVrfy, qMail, qRcpt⟩
          all_goals
            go_wp2_with fail
            refine CG.out.mono ?_
            rintro e w1 ⟨rfl, hb1⟩
            have HB1 := Lib.hid (HB.out.trans (hb1.mono HB.out.size))
            have S0 := Lib.hid (HR0.out.keep HR0.out.lt hb1)
            have S1 := Lib.hid (HR1.out.keep HR1.out.lt hb1)
            have hb2 := (Below.refl w1.heap.size w1).alloc (Nat.le_refl _) (.cells #[.string G, .string { data := #[] }, .int .i64 (-1)] 58)
            have T0 := Lib.hid (S0.out.keep S0.out.lt hb2)
            have T1 := Lib.hid (S1.out.keep S1.out.lt hb2)
            have T2 := Lib.hid (row3_new w1 G { data := #[] } (-1))
            have HB2 := Lib.hid (HB1.out.trans (hb2.mono HB1.out.size))
            have HLT : RowKit.Hid (w.heap.size < w1.heap.size ∧ w.heap.size + 1 < w1.heap.size) := Lib.hid ⟨S0.out.lt, S1.out.lt⟩
            clear hb1 hb2 CG
            go_wp2_with fail
            refine (C3.out _).mono ?_
            rintro e w3 ⟨rfl, hb3⟩
            have U0 := Lib.hid (T0.out.keep T0.out.lt hb3)
            have U1 := Lib.hid (T1.out.keep T1.out.lt hb3)
            have U2 := Lib.hid (T2.out.keep T2.out.lt hb3)
            have HB3 := Lib.hid (HB2.out.trans (hb3.mono HB2.out.size))
            have HLT3 : RowKit.Hid (w1.heap.size < w3.heap.size) := Lib.hid U2.out.lt
            clear hb3
            go_wp2_with (first | (refine step_load (by rfl) (.tmp 4) (by rfl) (w.heap.size + 1) _ _ _ (by rfl) U1.out ?_) | (refine step_row (by rfl) (.tmp 2) (.tmp 86) (by rfl) w.heap.size { data := #[] } { data := #[] } 0 (by rfl) (by rfl) _ _ _ U0.out ?_))
            (try simp only [Exit.inBlock, Exit.then])
            refine bodyPost_ret (ret_row (fn := Tryz.f25) (p := 2) (u := 3) rfl _ _ w.heap.size { data := #[] } { data := #[] } 0 rfl (U0.out.set _ _ _)) rfl ?_
            exact ⟨by rw [HV.out]; rfl, below_setRow HB3.out (Nat.le_refl _) _⟩
      · have hT2 := Lib.hid (no_more (l := s.data.toList) (k := k) (by omega) hT.out (by rw [hg]; exact byte_not hq))
        have hq2 : (((s[k]'hp).toNat : Int) == 32) = false := by rw [beq_eq_false_iff_ne]; exact hq
        clear hg
        go_wp2
        go_roundw
        case rel => exact ⟨k + 1, by omega, rfl, rfl, rfl, by simp, hT2, HR0, HR1, HB⟩
        case measure =>
          simp [Lib.intOf]
          omega
    · have hno : (32 : UInt8) ∉ s.data.toList := by
        have := hT.out
        rw [List.take_of_length_le (by omega)] at this
        exact this
      obtain ⟨e1, e2, e3⟩ := ahd_miss 32 hno
      have HNM : RowKit.Hid (bs (ahd 32 s.data.toList) = s) := Lib.hid (by rw [e1, bs_of])
      have HRS : RowKit.Hid (bs (bhd 32 s.data.toList) = { data := #[] }) := Lib.hid (by rw [e2]; rfl)
      have E3 := Lib.hid e3
      have hRz : ({ data := #[] } : ByteArray).size ≤ s.size := Nat.zero_le _
      clear hno e1 e2 e3 hT
      have cG := refGreat_walk s (by omega) wr
      obtain ⟨G, hG⟩ : ∃ G, bs (s.data.toList.map upper) = G := ⟨_, rfl⟩
      rw [hG] at cG
      have HG : RowKit.Hid (bs (great (ahd 32 s.data.toList)) = G) := Lib.hid (by
        rw [← hG]
        have h := congrArg (fun x : ByteArray => x.data.toList) HNM.out; simp only [bs_data] at h; rw [h]; rfl)
      have CG := Lib.hid cG
      clear cG hG
      have HF : RowKit.Hid (((G.toList == [72, 69, 76, 79]) = false ∧ (G.toList == [69, 72, 76, 79]) = false ∧ (G.toList == [68, 65, 84, 65]) = false ∧ (G.toList == [82, 83, 69, 84]) = false ∧ (G.toList == [81, 85, 73, 84]) = false ∧ (G.toList == [78, 79, 79, 80]) = false ∧ (G.toList == [86, 82, 70, 89]) = false ∧ (G.toList == [77, 65, 73, 76]) = false ∧ (G.toList == [82, 67, 80, 84]) = true)) := Lib.hid (by
        have hGl : G.toList = N := by rw [← HG.out, ByteArray.toList_eq, bs_data, HNN.out]
        rcases HX.out with rfl
        · have h : G.toList = nRcpt := hGl
          exact ⟨by rw [h]; rfl, by rw [h]; rfl, by rw [h]; rfl, by rw [h]; rfl, by rw [h]; rfl, by rw [h]; rfl, by rw [h]; rfl, by rw [h]; rfl, by rw [h]; rfl⟩)
      have HGN : RowKit.Hid (bs N = G) := Lib.hid (by rw [← HG.out, HNN.out])
      have HV : RowKit.Hid (cmdV (cmdOf N (rcptM (bhd 32 s.data.toList))) = .tuple #[.agg (cells3 { data := #[] } { data := #[] } 0), .int .i64 501]) := Lib.hid (by rw [HR.out, rcptM_short HKD.out]; rfl)
      rcases HF.out with ⟨qHelo, qEhlo, qData, qRset, qQuit, qNoop, qVrfy, qMail, qRcpt⟩
      all_goals
        go_wp2_with fail
        refine CG.out.mono ?_
        rintro e w1 ⟨rfl, hb1⟩
        have HB1 := Lib.hid (HB.out.trans (hb1.mono HB.out.size))
        have S0 := Lib.hid (HR0.out.keep HR0.out.lt hb1)
        have S1 := Lib.hid (HR1.out.keep HR1.out.lt hb1)
        have hb2 := (Below.refl w1.heap.size w1).alloc (Nat.le_refl _) (.cells #[.string G, .string { data := #[] }, .int .i64 (-1)] 58)
        have T0 := Lib.hid (S0.out.keep S0.out.lt hb2)
        have T1 := Lib.hid (S1.out.keep S1.out.lt hb2)
        have T2 := Lib.hid (row3_new w1 G { data := #[] } (-1))
        have HB2 := Lib.hid (HB1.out.trans (hb2.mono HB1.out.size))
        have HLT : RowKit.Hid (w.heap.size < w1.heap.size ∧ w.heap.size + 1 < w1.heap.size) := Lib.hid ⟨S0.out.lt, S1.out.lt⟩
        clear hb1 hb2 CG
        go_wp2_with (first | (refine step_load (by rfl) (.tmp 4) (by rfl) (w.heap.size + 1) _ _ _ (by rfl) T1.out ?_) | (refine step_row (by rfl) (.tmp 2) (.tmp 86) (by rfl) w.heap.size { data := #[] } { data := #[] } 0 (by rfl) (by rfl) _ _ _ T0.out ?_))
        (try simp only [Exit.inBlock, Exit.then])
        refine bodyPost_ret (ret_row (fn := Tryz.f25) (p := 2) (u := 3) rfl _ _ w.heap.size { data := #[] } { data := #[] } 0 rfl (T0.out.set _ _ _)) rfl ?_
        exact ⟨by rw [HV.out]; rfl, below_setRow HB2.out (Nat.le_refl _) _⟩

set_option maxHeartbeats 8000000 in
set_option maxRecDepth 100000 in
theorem refVerb_rcptP (s : ByteArray) (hs : s.size ≤ 100000) (w : World) (N r : List UInt8) (hN : great (ahd 32 s.data.toList) = N) (hr : bhd 32 s.data.toList = r) (hX : N = nRcpt) (hk : keyed kTo r = true) (hi : isPath (ahd 32 (r.drop 3)) = false ∨ pathM (ahd 32 (r.drop 3)) = []) : Calls Tryz.prog 25 #[.string s] w fun e w' => e = .returned (cmdV (cmdOf N (rcptM (bhd 32 s.data.toList)))) ∧ Below w.heap.size w w' := by
  have HX := Lib.hid hX
  have HNN := Lib.hid hN
  have HR := Lib.hid hr
  have HKD := Lib.hid hk
  clear hk
  have HIP := Lib.hid hi
  clear hi
  clear hN hX hr
  have hlen := len_size s
  obtain ⟨r0, r1, b0⟩ := rows_new w
  have R0 := Lib.hid r0
  have R1 := Lib.hid r1
  have B0 := Lib.hid b0
  clear r0 r1 b0
  go_enter Tryz.func25, Tryz.ntmps25
  go_wp2
  go_loopw [5, 6, 7, 8] (fun z5 z6 z7 z8 wr => ∃ k : Nat, k ≤ s.size ∧ z5 = .string s ∧ z6 = .string { data := #[] } ∧ z7 = .bool false ∧ z8 = .int .i64 (k : Int) ∧ RowKit.Hid ((32 : UInt8) ∉ s.data.toList.take k) ∧ RowKit.Hid (Row3 wr w.heap.size { data := #[] } { data := #[] } 0) ∧ RowKit.Hid (Row3 wr (w.heap.size + 1) { data := #[] } { data := #[] } 0) ∧ RowKit.Hid (Below w.heap.size w wr)) (fun _ _ _ z _ => s.size - (Lib.intOf z).toNat)
  case atStart => exact ⟨0, by omega, rfl, rfl, rfl, rfl, Lib.hid (by simp), R0, R1, B0⟩
  case round =>
    obtain ⟨k, hk, rfl, rfl, rfl, rfl, hT, HR0, HR1, HB⟩ := hrel
    clear R0 R1 B0
    by_cases hlt : (k : Int) < (s.size : Int)
    · have hp : k < s.size := by omega
      have hg := get_list s k hp
      by_cases hq : ((s[k]'hp).toNat : Int) = 32
      · obtain ⟨e1, e2, e3⟩ := ahd_found (l := s.data.toList) (k := k) (by omega) (by rw [hg]; exact byte_32 hq) hT.out
        have et := take_bs s k
        have ed := drop_bs s (k + 1)
        rw [← e1] at et
        rw [← e2] at ed
        have hq2 : (((s[k]'hp).toNat : Int) == 32) = true := by rw [hq]; rfl
        have E3 := Lib.hid e3
        have hal := ahd_len 32 s.data.toList
        have hbl := bhd_len 32 s.data.toList
        rw [hlen] at hal hbl
        obtain ⟨Nm, hNm⟩ : ∃ Nm, bs (ahd 32 s.data.toList) = Nm := ⟨_, rfl⟩
        obtain ⟨Rs, hRs⟩ : ∃ Rs, bs (bhd 32 s.data.toList) = Rs := ⟨_, rfl⟩
        rw [hNm] at et
        rw [hRs] at ed
        have hNs : Nm.size ≤ s.size := by rw [← hNm, bs_size]; exact hal
        have hRz : Rs.size ≤ s.size := by rw [← hRs, bs_size]; exact hbl
        have HNM := Lib.hid hNm
        have HRS := Lib.hid hRs
        clear hg e1 e2 e3 hT hNm hRs hal hbl
        go_wp2_with fail
        go_quiet (fail)
        have HB' : RowKit.Hid (Below w.heap.size w (wr.drewN nq)) := Lib.hid (HB.out.trans ⟨rfl, rfl, rfl, Nat.le_refl _, fun _ _ => rfl⟩)
        have HR0' : RowKit.Hid (Row3 (wr.drewN nq) w.heap.size { data := #[] } { data := #[] } 0) := Lib.hid HR0.out
        have HR1' : RowKit.Hid (Row3 (wr.drewN nq) (w.heap.size + 1) { data := #[] } { data := #[] } 0) := Lib.hid HR1.out
        clear HB HR0 HR1
        generalize wr.drewN nq = wq at HB' HR0' HR1' ⊢
        have HB := HB'
        have HR0 := HR0'
        have HR1 := HR1'
        clear et ed hq hq2 HB' HR0' HR1'
        have cG := refGreat_walk Nm (by omega) wq
        obtain ⟨G, hG⟩ : ∃ G, bs (Nm.data.toList.map upper) = G := ⟨_, rfl⟩
        rw [hG] at cG
        have HG : RowKit.Hid (bs (great (ahd 32 s.data.toList)) = G) := Lib.hid (by
          rw [← hG]
          rw [← HNM.out, bs_data]; rfl)
        have CG := Lib.hid cG
        clear cG hG
        have HF : RowKit.Hid (((G.toList == [72, 69, 76, 79]) = false ∧ (G.toList == [69, 72, 76, 79]) = false ∧ (G.toList == [68, 65, 84, 65]) = false ∧ (G.toList == [82, 83, 69, 84]) = false ∧ (G.toList == [81, 85, 73, 84]) = false ∧ (G.toList == [78, 79, 79, 80]) = false ∧ (G.toList == [86, 82, 70, 89]) = false ∧ (G.toList == [77, 65, 73, 76]) = false ∧ (G.toList == [82, 67, 80, 84]) = true)) := Lib.hid (by
          have hGl : G.toList = N := by rw [← HG.out, ByteArray.toList_eq, bs_data, HNN.out]
          rcases HX.out with rfl
          · have h : G.toList = nRcpt := hGl
            exact ⟨by rw [h]; rfl, by rw [h]; rfl, by rw [h]; rfl, by rw [h]; rfl, by rw [h]; rfl, by rw [h]; rfl, by rw [h]; rfl, by rw [h]; rfl, by rw [h]; rfl⟩)
        have HGN : RowKit.Hid (bs N = G) := Lib.hid (by rw [← HG.out, HNN.out])
        have hRd : Rs.data.toList = bhd 32 s.data.toList := by rw [← HRS.out, bs_data]
        have hRl := len_size Rs
        rw [HR.out] at hRd
        have hge : ¬ (Rs.size : Int) < 3 := by
          have h := keyed_len HKD.out
          rw [← hRd] at h
          have h2 : 3 ≤ Rs.data.toList.length := h
          omega
        have et := take_list Rs 3
        have ed := drop_list Rs 3
        rw [hRd] at et ed
        have hts : (Rs.extract 0 3).size ≤ 100000 := by rw [et, bs_size, List.length_take]; omega
        have hds : (Rs.extract 3 Rs.size).size ≤ 100000 := by rw [ed, bs_size, List.length_drop, ← hRd]; omega
        have hdd : (Rs.extract 3 Rs.size).data.toList = r.drop 3 := by rw [ed, bs_data]
        have c3 := fun W => refGreat_walk (Rs.extract 0 3) (by omega) W
        obtain ⟨g, hg⟩ : ∃ g, bs ((Rs.extract 0 3).data.toList.map upper) = g := ⟨_, rfl⟩
        rw [hg] at c3
        have hkd2 : keyed kTo r = (g.toList == [84, 79, 58]) := by
          rw [keyed, decide_eq_true (by rw [← hRd]; show 3 ≤ _; omega), Bool.true_and, ByteArray.toList_eq, ← hg, bs_data, et, bs_data]
          rfl
        have C3 := Lib.hid c3
        have HDD := Lib.hid hdd
        have HDS := Lib.hid hds
        clear c3 hg et ed hts hds hdd hRd
        have hq : (g.toList == [84, 79, 58]) = true := hkd2.symm.trans HKD.out
        clear hkd2
        obtain ⟨D, hD⟩ : ∃ D, Rs.extract 3 Rs.size = D := ⟨_, rfl⟩
        have cC : ∀ W, Calls Tryz.prog 43 #[.string (Rs.extract 3 Rs.size), .int .u8 32] W fun e w' => ∃ v, e = .returned v ∧ TextsN W.heap.size w' v (cuts 32 (r.drop 3)) ∧ Below W.heap.size W w' := fun W => by
          have c := refCutN_walk (Rs.extract 3 Rs.size) 32 HDS.out W
          rw [HDD.out] at c
          exact c
        obtain ⟨L, hL⟩ : ∃ L, cuts 32 (r.drop 3) = L := ⟨_, rfl⟩
        have hpos : 0 < L.length := by rw [← hL]; exact List.length_pos_iff.2 (cuts_ne 32 _)
        have hcs := cuts_short 32 (r.drop 3)
        have hrl : (r.drop 3).length ≤ 100000 := by have h1 := HDS.out; have h2 := HDD.out; have h3 := len_size (Rs.extract 3 Rs.size); rw [h2] at h3; omega
        rw [hL] at hcs cC
        have hL0 : L[0]'hpos = ahd 32 (r.drop 3) := by simp only [← hL]; exact cuts_first _ (by rw [hL]; exact hpos)
        have hLs : RowKit.Hid (∀ k (hk : k < L.length), (L[k]'hk).length ≤ 100000) := Lib.hid (fun k hk => Nat.le_trans (hcs.2 _ (List.getElem_mem hk)) hrl)
        have hLl : L.length ≤ 100001 := by have := hcs.1; omega
        have CC := Lib.hid cC
        have cP := fun W => refPath_walk (bs (ahd 32 (r.drop 3))) (by rw [bs_size, ← hL0]; exact hLs.out 0 hpos) W
        rw [bs_data] at cP
        unfold pathV at cP
        obtain ⟨X, hX⟩ : ∃ X, bs (pathM (ahd 32 (r.drop 3))) = X := ⟨_, rfl⟩
        obtain ⟨P0, hP0⟩ : ∃ P0, bs (ahd 32 (r.drop 3)) = P0 := ⟨_, rfl⟩
        rw [hX, hP0] at cP
        have HX0 := Lib.hid hX
        have HL0 : RowKit.Hid (bs (L[0]'hpos) = P0) := Lib.hid (by rw [hL0, hP0])
        have HL := Lib.hid hL
        clear hL hL0 hcs hrl hX hP0 cC hD
        have HV : RowKit.Hid (cmdV (cmdOf N (rcptM (bhd 32 s.data.toList))) = .tuple #[.agg (cells3 { data := #[] } { data := #[] } 0), .int .i64 501]) := Lib.hid (by rw [HR.out, rcptM_path HKD.out HIP.out]; rfl)
        cases hip : isPath (ahd 32 (r.drop 3)) with
        | false =>
          rw [hip] at cP
          have CP2 := Lib.hid cP
          clear cP hip
          rcases HF.out with ⟨qHelo, qEhlo, qData, qRset, qQuit, qNoop, qVrfy, qMail, qRcpt⟩
          all_goals
            go_wp2_with fail
            refine CG.out.mono ?_
            rintro e w1 ⟨rfl, hb1⟩
            have HB1 := Lib.hid (HB.out.trans (hb1.mono HB.out.size))
            have S0 := Lib.hid (HR0.out.keep HR0.out.lt hb1)
            have S1 := Lib.hid (HR1.out.keep HR1.out.lt hb1)
            have hb2 := (Below.refl w1.heap.size w1).alloc (Nat.le_refl _) (.cells #[.string G, .string { data := #[] }, .int .i64 (-1)] 58)
            have T0 := Lib.hid (S0.out.keep S0.out.lt hb2)
            have T1 := Lib.hid (S1.out.keep S1.out.lt hb2)
            have T2 := Lib.hid (row3_new w1 G { data := #[] } (-1))
            have HB2 := Lib.hid (HB1.out.trans (hb2.mono HB1.out.size))
            have HLT : RowKit.Hid (w.heap.size < w1.heap.size ∧ w.heap.size + 1 < w1.heap.size) := Lib.hid ⟨S0.out.lt, S1.out.lt⟩
            clear hb1 hb2 CG
            go_wp2_with fail
            refine (C3.out _).mono ?_
            rintro e w3 ⟨rfl, hb3⟩
            have U0 := Lib.hid (T0.out.keep T0.out.lt hb3)
            have U1 := Lib.hid (T1.out.keep T1.out.lt hb3)
            have U2 := Lib.hid (T2.out.keep T2.out.lt hb3)
            have HB3 := Lib.hid (HB2.out.trans (hb3.mono HB2.out.size))
            have HLT3 : RowKit.Hid (w1.heap.size < w3.heap.size) := Lib.hid U2.out.lt
            clear hb3
            go_wp2_with fail
            refine (CC.out _).mono ?_
            rintro e w4 ⟨v, rfl, hTx, hb4⟩
            obtain ⟨gT, cap, rfl, hcap, hgT, hgT2, hTx⟩ := hTx
            have V0 := Lib.hid (U0.out.keep U0.out.lt hb4)
            have V1 := Lib.hid (U1.out.keep U1.out.lt hb4)
            have V2 := Lib.hid (U2.out.keep U2.out.lt hb4)
            have HB4 := Lib.hid (HB3.out.trans (hb4.mono HB3.out.size))
            have HGT : RowKit.Hid (w1.heap.size < gT ∧ w.heap.size < gT) := Lib.hid (by have h1 := HLT3.out; have h2 := HLT.out; omega)
            have TX := Lib.hid hTx
            have HGL := Lib.hid hgT2
            have t0 := hTx 0 hpos
            rw [HL0.out] at t0
            clear hb4 hTx hgT hgT2
            go_wp2_with fail
            refine (CP2.out _).mono ?_
            rintro e w5 ⟨rfl, hb5⟩
            have X0 := Lib.hid (V0.out.keep V0.out.lt hb5)
            have X1 := Lib.hid (V1.out.keep V1.out.lt hb5)
            have X2 := Lib.hid (V2.out.keep V2.out.lt hb5)
            have XT := Lib.hid (TX.out.keep HGL.out hb5)
            have HB5 := Lib.hid (HB4.out.trans (hb5.mono HB4.out.size))
            clear hb5 t0
            obtain ⟨k0, k1, k2⟩ := X2.out.cells
            have f1 := X2.out.frozen 1
            go_wp2_with (first | (refine step_load (by rfl) (.tmp 4) (by rfl) (w.heap.size + 1) _ _ _ (by rfl) X1.out ?_) | (refine step_row (by rfl) (.tmp 2) (.tmp 110) (by rfl) w.heap.size { data := #[] } { data := #[] } 0 (by rfl) (by rfl) _ _ _ X0.out ?_))
            (try simp only [Exit.inBlock, Exit.then])
            refine bodyPost_ret (ret_row (fn := Tryz.f25) (p := 2) (u := 3) rfl _ _ w.heap.size { data := #[] } { data := #[] } 0 rfl (X0.out.set _ _ _)) rfl ?_
            exact ⟨by rw [HV.out]; rfl, below_setRow HB5.out (Nat.le_refl _) _⟩
        | true =>
          have hE : (X.toList == []) = true := by
            have hpm : pathM (ahd 32 (r.drop 3)) = [] := by
              rcases HIP.out with h | h
              · rw [hip] at h; cases h
              · exact h
            rw [← HX0.out, hpm, ByteArray.toList_eq, bs_data]; rfl
          rw [hip] at cP
          have CP2 := Lib.hid cP
          clear cP hip
          rcases HF.out with ⟨qHelo, qEhlo, qData, qRset, qQuit, qNoop, qVrfy, qMail, qRcpt⟩
          all_goals
            go_wp2_with fail
            refine CG.out.mono ?_
            rintro e w1 ⟨rfl, hb1⟩
            have HB1 := Lib.hid (HB.out.trans (hb1.mono HB.out.size))
            have S0 := Lib.hid (HR0.out.keep HR0.out.lt hb1)
            have S1 := Lib.hid (HR1.out.keep HR1.out.lt hb1)
            have hb2 := (Below.refl w1.heap.size w1).alloc (Nat.le_refl _) (.cells #[.string G, .string { data := #[] }, .int .i64 (-1)] 58)
            have T0 := Lib.hid (S0.out.keep S0.out.lt hb2)
            have T1 := Lib.hid (S1.out.keep S1.out.lt hb2)
            have T2 := Lib.hid (row3_new w1 G { data := #[] } (-1))
            have HB2 := Lib.hid (HB1.out.trans (hb2.mono HB1.out.size))
            have HLT : RowKit.Hid (w.heap.size < w1.heap.size ∧ w.heap.size + 1 < w1.heap.size) := Lib.hid ⟨S0.out.lt, S1.out.lt⟩
            clear hb1 hb2 CG
            go_wp2_with fail
            refine (C3.out _).mono ?_
            rintro e w3 ⟨rfl, hb3⟩
            have U0 := Lib.hid (T0.out.keep T0.out.lt hb3)
            have U1 := Lib.hid (T1.out.keep T1.out.lt hb3)
            have U2 := Lib.hid (T2.out.keep T2.out.lt hb3)
            have HB3 := Lib.hid (HB2.out.trans (hb3.mono HB2.out.size))
            have HLT3 : RowKit.Hid (w1.heap.size < w3.heap.size) := Lib.hid U2.out.lt
            clear hb3
            go_wp2_with fail
            refine (CC.out _).mono ?_
            rintro e w4 ⟨v, rfl, hTx, hb4⟩
            obtain ⟨gT, cap, rfl, hcap, hgT, hgT2, hTx⟩ := hTx
            have V0 := Lib.hid (U0.out.keep U0.out.lt hb4)
            have V1 := Lib.hid (U1.out.keep U1.out.lt hb4)
            have V2 := Lib.hid (U2.out.keep U2.out.lt hb4)
            have HB4 := Lib.hid (HB3.out.trans (hb4.mono HB3.out.size))
            have HGT : RowKit.Hid (w1.heap.size < gT ∧ w.heap.size < gT) := Lib.hid (by have h1 := HLT3.out; have h2 := HLT.out; omega)
            have TX := Lib.hid hTx
            have HGL := Lib.hid hgT2
            have t0 := hTx 0 hpos
            rw [HL0.out] at t0
            clear hb4 hTx hgT hgT2
            go_wp2_with fail
            refine (CP2.out _).mono ?_
            rintro e w5 ⟨rfl, hb5⟩
            have X0 := Lib.hid (V0.out.keep V0.out.lt hb5)
            have X1 := Lib.hid (V1.out.keep V1.out.lt hb5)
            have X2 := Lib.hid (V2.out.keep V2.out.lt hb5)
            have XT := Lib.hid (TX.out.keep HGL.out hb5)
            have HB5 := Lib.hid (HB4.out.trans (hb5.mono HB4.out.size))
            clear hb5 t0
            obtain ⟨k0, k1, k2⟩ := X2.out.cells
            have f1 := X2.out.frozen 1
            go_wp2_with (first | (refine step_load (by rfl) (.tmp 4) (by rfl) (w.heap.size + 1) _ _ _ (by rfl) X1.out ?_) | (refine step_row (by rfl) (.tmp 2) (.tmp 110) (by rfl) w.heap.size { data := #[] } { data := #[] } 0 (by rfl) (by rfl) _ _ _ X0.out ?_))
            (try simp only [Exit.inBlock, Exit.then])
            refine bodyPost_ret (ret_row (fn := Tryz.f25) (p := 2) (u := 3) rfl _ _ w.heap.size { data := #[] } { data := #[] } 0 rfl (X0.out.set _ _ _)) rfl ?_
            exact ⟨by rw [HV.out]; rfl, below_setRow HB5.out (Nat.le_refl _) _⟩
      · have hT2 := Lib.hid (no_more (l := s.data.toList) (k := k) (by omega) hT.out (by rw [hg]; exact byte_not hq))
        have hq2 : (((s[k]'hp).toNat : Int) == 32) = false := by rw [beq_eq_false_iff_ne]; exact hq
        clear hg
        go_wp2
        go_roundw
        case rel => exact ⟨k + 1, by omega, rfl, rfl, rfl, by simp, hT2, HR0, HR1, HB⟩
        case measure =>
          simp [Lib.intOf]
          omega
    · have hno : (32 : UInt8) ∉ s.data.toList := by
        have := hT.out
        rw [List.take_of_length_le (by omega)] at this
        exact this
      obtain ⟨e1, e2, e3⟩ := ahd_miss 32 hno
      have HNM : RowKit.Hid (bs (ahd 32 s.data.toList) = s) := Lib.hid (by rw [e1, bs_of])
      have HRS : RowKit.Hid (bs (bhd 32 s.data.toList) = { data := #[] }) := Lib.hid (by rw [e2]; rfl)
      have E3 := Lib.hid e3
      have hRz : ({ data := #[] } : ByteArray).size ≤ s.size := Nat.zero_le _
      clear hno e1 e2 e3 hT
      have hR : r = [] := by have h := congrArg (fun x : ByteArray => x.data.toList) HRS.out; simp only [bs_data] at h; rw [← HR.out]; exact h
      have h := HKD.out
      rw [hR] at h
      exact absurd h (by decide)
end Go.Proofs.YtcjljldknekhiaaGreatDoor.Ad
