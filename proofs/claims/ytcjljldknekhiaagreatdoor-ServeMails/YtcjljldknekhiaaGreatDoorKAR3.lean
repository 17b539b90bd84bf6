/-
  The document's Verb: HELO, EHLO, DATA, RSET, QUIT, NOOP, VRFY.
-/
import Derived.Test.YtcjljldknekhiaaGreatDoorKAR2
namespace Go.Proofs.YtcjljldknekhiaaGreatDoor.Ad
open Go.RowKit
set_option linter.unusedVariables false
set_option linter.unusedSimpArgs false

set_option maxHeartbeats 8000000 in
set_option maxRecDepth 100000 in
theorem refVerb_hello (s : ByteArray) (hs : s.size ≤ 100000) (w : World) (N : List UInt8) (hN : great (ahd 32 s.data.toList) = N) (hX : N = nHelo ∨ N = nEhlo) : Calls Tryz.prog 25 #[.string s] w fun e w' => e = .returned (cmdV (cmdOf N (helloM (bhd 32 s.data.toList)))) ∧ Below w.heap.size w w' := by
  have HX := Lib.hid hX
  have HNN := Lib.hid hN
  clear hN hX
  have hlen := len_size s
  obtain ⟨r0, r1, b0⟩ := rows_new w
  have R0 := Lib.hid r0
  have R1 := Lib.hid r1
  have B0 := Lib.hid b0
  clear r0 r1 b0
  go_enter Tryz.func25, Tryz.ntmps25
  go_wp2
  go_loopw [5, 6, 7, 8] (fun z5 z6 z7 z8 wr => ∃ k : Nat, k ≤ s.size ∧ z5 = .string s ∧ z6 = .string { data := #[] } ∧ z7 = .bool false ∧ z8 = .int .i64 (k : Int) ∧ RowKit.Hid ((32 : UInt8) ∉ s.data.toList.take k) ∧ RowKit.Hid (Row3 wr w.heap.size { data := #[] } { data := #[] } 0) ∧ RowKit.Hid (Row3 wr (w.heap.size + 1) { data := #[] } { data := #[] } 0) ∧ RowKit.Hid (Below w.heap.size w wr)) (fun _ _ _ z _ => s.size - (Lib.intOf z).toNat)
  case atStart => exact ⟨0, by omega, rfl, rfl, rfl, rfl, Lib.hid (by simp), R0, R1, B0⟩
  case round =>
    obtain ⟨k, hk, rfl, rfl, rfl, rfl, hT, HR0, HR1, HB⟩ := hrel
    clear R0 R1 B0
    by_cases hlt : (k : Int) < (s.size : Int)
    · have hp : k < s.size := by omega
      have hg := get_list s k hp
      by_cases hq : ((s[k]'hp).toNat : Int) = 32
      · obtain ⟨e1, e2, e3⟩ := ahd_found (l := s.data.toList) (k := k) (by omega) (by rw [hg]; exact byte_32 hq) hT.out
        have et := take_bs s k
        have ed := drop_bs s (k + 1)
        rw [← e1] at et
        rw [← e2] at ed
        have hq2 : (((s[k]'hp).toNat : Int) == 32) = true := by rw [hq]; rfl
        have E3 := Lib.hid e3
        have hal := ahd_len 32 s.data.toList
        have hbl := bhd_len 32 s.data.toList
        rw [hlen] at hal hbl
        obtain ⟨Nm, hNm⟩ : ∃ Nm, bs (ahd 32 s.data.toList) = Nm := ⟨_, rfl⟩
        obtain ⟨Rs, hRs⟩ : ∃ Rs, bs (bhd 32 s.data.toList) = Rs := ⟨_, rfl⟩
        rw [hNm] at et
        rw [hRs] at ed
        have hNs : Nm.size ≤ s.size := by rw [← hNm, bs_size]; exact hal
        have hRz : Rs.size ≤ s.size := by rw [← hRs, bs_size]; exact hbl
        have HNM := Lib.hid hNm
        have HRS := Lib.hid hRs
        clear hg e1 e2 e3 hT hNm hRs hal hbl
        go_wp2_with fail
        go_quiet (fail)
        have HB' : RowKit.Hid (Below w.heap.size w (wr.drewN nq)) := Lib.hid (HB.out.trans ⟨rfl, rfl, rfl, Nat.le_refl _, fun _ _ => rfl⟩)
        have HR0' : RowKit.Hid (Row3 (wr.drewN nq) w.heap.size { data := #[] } { data := #[] } 0) := Lib.hid HR0.out
        have HR1' : RowKit.Hid (Row3 (wr.drewN nq) (w.heap.size + 1) { data := #[] } { data := #[] } 0) := Lib.hid HR1.out
        clear HB HR0 HR1
        generalize wr.drewN nq = wq at HB' HR0' HR1' ⊢
        have HB := HB'
        have HR0 := HR0'
        have HR1 := HR1'
        clear et ed hq hq2 HB' HR0' HR1'
        have cG := refGreat_walk Nm (by omega) wq
        obtain ⟨G, hG⟩ : ∃ G, bs (Nm.data.toList.map upper) = G := ⟨_, rfl⟩
        rw [hG] at cG
        have HG : RowKit.Hid (bs (great (ahd 32 s.data.toList)) = G) := Lib.hid (by
          rw [← hG]
          rw [← HNM.out, bs_data]; rfl)
        have CG := Lib.hid cG
        clear cG hG
        have HF : RowKit.Hid (((G.toList == [72, 69, 76, 79]) = true) ∨ ((G.toList == [72, 69, 76, 79]) = false ∧ (G.toList == [69, 72, 76, 79]) = true)) := Lib.hid (by
          have hGl : G.toList = N := by rw [← HG.out, ByteArray.toList_eq, bs_data, HNN.out]
          rcases HX.out with rfl | rfl
          · have h : G.toList = nHelo := hGl
            exact (.inl (by rw [h]; rfl))
          · have h : G.toList = nEhlo := hGl
            exact (.inr ⟨by rw [h]; rfl, by rw [h]; rfl⟩))
        have HGN : RowKit.Hid (bs N = G) := Lib.hid (by rw [← HG.out, HNN.out])
        have hRd : (Rs : ByteArray).data.toList = bhd 32 s.data.toList := by rw [← HRS.out, bs_data]
        have cD := fun W => refDomain_walk Rs (by omega) W
        have cS := fun W => refSmall_walk Rs (by omega) W
        rw [hRd] at cD cS
        have CD := Lib.hid cD
        have CS := Lib.hid cS
        clear cD cS hRd
        cases hd : domain (bhd 32 s.data.toList) with
        | false =>
          have HV : RowKit.Hid (cmdV (cmdOf N (helloM (bhd 32 s.data.toList))) = .tuple #[.agg (cells3 { data := #[] } { data := #[] } 0), .int .i64 501]) := Lib.hid (by rw [helloM, hd]; rfl)
          have cD := CD.out
          rw [hd] at cD
          have CD2 := Lib.hid cD
          clear cD CD CS hd
          rcases HF.out with qHelo | ⟨qHelo, qEhlo⟩
          all_goals
            go_wp2_with fail
            refine CG.out.mono ?_
            rintro e w1 ⟨rfl, hb1⟩
            have HB1 := Lib.hid (HB.out.trans (hb1.mono HB.out.size))
            have S0 := Lib.hid (HR0.out.keep HR0.out.lt hb1)
            have S1 := Lib.hid (HR1.out.keep HR1.out.lt hb1)
            have hb2 := (Below.refl w1.heap.size w1).alloc (Nat.le_refl _) (.cells #[.string G, .string { data := #[] }, .int .i64 (-1)] 58)
            have T0 := Lib.hid (S0.out.keep S0.out.lt hb2)
            have T1 := Lib.hid (S1.out.keep S1.out.lt hb2)
            have T2 := Lib.hid (row3_new w1 G { data := #[] } (-1))
            have HB2 := Lib.hid (HB1.out.trans (hb2.mono HB1.out.size))
            have HLT : RowKit.Hid (w.heap.size < w1.heap.size ∧ w.heap.size + 1 < w1.heap.size) := Lib.hid ⟨S0.out.lt, S1.out.lt⟩
            clear hb1 hb2 CG
            go_wp2_with fail
            refine (CD2.out _).mono ?_
            rintro e w3 ⟨rfl, hb3⟩
            have U0 := Lib.hid (T0.out.keep T0.out.lt hb3)
            have U1 := Lib.hid (T1.out.keep T1.out.lt hb3)
            have HB3 := Lib.hid (HB2.out.trans (hb3.mono HB2.out.size))
            clear hb3
            go_wp2_with (first | (refine step_load (by rfl) (.tmp 4) (by rfl) (w.heap.size + 1) _ _ _ (by rfl) U1.out ?_) | (refine step_row (by rfl) (.tmp 2) (.tmp 49) (by rfl) w.heap.size { data := #[] } { data := #[] } 0 (by rfl) (by rfl) _ _ _ U0.out ?_))
            (try simp only [Exit.inBlock, Exit.then])
            refine bodyPost_ret (ret_row (fn := Tryz.f25) (p := 2) (u := 3) rfl _ _ w.heap.size { data := #[] } { data := #[] } 0 rfl (U0.out.set _ _ _)) rfl ?_
            exact ⟨by rw [HV.out]; rfl, below_setRow HB3.out (Nat.le_refl _) _⟩
        | true =>
          obtain ⟨X, hX⟩ : ∃ X, bs ((bhd 32 s.data.toList).map lower) = X := ⟨_, rfl⟩
          have HV : RowKit.Hid (cmdV (cmdOf N (helloM (bhd 32 s.data.toList))) = .tuple #[.agg (cells3 G X (-1)), .int .i64 0]) := Lib.hid (by
            rw [helloM, hd, ← HGN.out, ← hX]; rfl)
          have cD := CD.out
          rw [hd] at cD
          have cS := CS.out
          rw [hX] at cS
          have CD2 := Lib.hid cD
          have CS2 := Lib.hid cS
          clear cD cS CD CS hd hX
          rcases HF.out with qHelo | ⟨qHelo, qEhlo⟩
          all_goals
            go_wp2_with fail
            refine CG.out.mono ?_
            rintro e w1 ⟨rfl, hb1⟩
            have HB1 := Lib.hid (HB.out.trans (hb1.mono HB.out.size))
            have S0 := Lib.hid (HR0.out.keep HR0.out.lt hb1)
            have S1 := Lib.hid (HR1.out.keep HR1.out.lt hb1)
            have hb2 := (Below.refl w1.heap.size w1).alloc (Nat.le_refl _) (.cells #[.string G, .string { data := #[] }, .int .i64 (-1)] 58)
            have T0 := Lib.hid (S0.out.keep S0.out.lt hb2)
            have T1 := Lib.hid (S1.out.keep S1.out.lt hb2)
            have T2 := Lib.hid (row3_new w1 G { data := #[] } (-1))
            have HB2 := Lib.hid (HB1.out.trans (hb2.mono HB1.out.size))
            have HLT : RowKit.Hid (w.heap.size < w1.heap.size ∧ w.heap.size + 1 < w1.heap.size) := Lib.hid ⟨S0.out.lt, S1.out.lt⟩
            clear hb1 hb2 CG
            go_wp2_with fail
            refine (CD2.out _).mono ?_
            rintro e w3 ⟨rfl, hb3⟩
            have U0 := Lib.hid (T0.out.keep T0.out.lt hb3)
            have U2 := Lib.hid (T2.out.keep T2.out.lt hb3)
            have HB3 := Lib.hid (HB2.out.trans (hb3.mono HB2.out.size))
            clear hb3
            go_wp2_with fail
            refine (CS2.out _).mono ?_
            rintro e w4 ⟨rfl, hb4⟩
            have V0 := Lib.hid ((U0.out.keep U0.out.lt hb4).other ⟨w1.heap.size, 1, none⟩ (by have := HLT.out; show w.heap.size ≠ w1.heap.size; omega) (.string X))
            have V2a := U2.out.keep U2.out.lt hb4
            have V2 := Lib.hid (V2a.arg X)
            have HB4 := Lib.hid ((HB3.out.trans (hb4.mono HB3.out.size)).setCell (p := ⟨w1.heap.size, 1, none⟩) (by have := HLT.out; show w.heap.size ≤ w1.heap.size; omega) (.string X))
            obtain ⟨_, k1, _⟩ := V2a.cells
            have f1 := V2a.frozen 1
            clear hb4 V2a
            go_wp2_with (first | (refine step_load (by rfl) (.tmp 9) (by rfl) w1.heap.size _ _ _ (by rfl) V2.out ?_) | (refine step_row (by rfl) (.tmp 2) (.tmp 160) (by rfl) w.heap.size G X (-1) (by rfl) (by rfl) _ _ _ V0.out ?_))
            (try simp only [Exit.inBlock, Exit.then])
            refine bodyPost_ret (ret_row (fn := Tryz.f25) (p := 2) (u := 3) rfl _ _ w.heap.size G X (-1) rfl (V0.out.set _ _ _)) rfl ?_
            exact ⟨by rw [HV.out]; rfl, below_setRow HB4.out (Nat.le_refl _) _⟩
      · have hT2 := Lib.hid (no_more (l := s.data.toList) (k := k) (by omega) hT.out (by rw [hg]; exact byte_not hq))
        have hq2 : (((s[k]'hp).toNat : Int) == 32) = false := by rw [beq_eq_false_iff_ne]; exact hq
        clear hg
        go_wp2
        go_roundw
        case rel => exact ⟨k + 1, by omega, rfl, rfl, rfl, by simp, hT2, HR0, HR1, HB⟩
        case measure =>
          simp [Lib.intOf]
          omega
    · have hno : (32 : UInt8) ∉ s.data.toList := by
        have := hT.out
        rw [List.take_of_length_le (by omega)] at this
        exact this
      obtain ⟨e1, e2, e3⟩ := ahd_miss 32 hno
      have HNM : RowKit.Hid (bs (ahd 32 s.data.toList) = s) := Lib.hid (by rw [e1, bs_of])
      have HRS : RowKit.Hid (bs (bhd 32 s.data.toList) = { data := #[] }) := Lib.hid (by rw [e2]; rfl)
      have E3 := Lib.hid e3
      have hRz : ({ data := #[] } : ByteArray).size ≤ s.size := Nat.zero_le _
      clear hno e1 e2 e3 hT
      have cG := refGreat_walk s (by omega) wr
      obtain ⟨G, hG⟩ : ∃ G, bs (s.data.toList.map upper) = G := ⟨_, rfl⟩
      rw [hG] at cG
      have HG : RowKit.Hid (bs (great (ahd 32 s.data.toList)) = G) := Lib.hid (by
        rw [← hG]
        have h := congrArg (fun x : ByteArray => x.data.toList) HNM.out; simp only [bs_data] at h; rw [h]; rfl)
      have CG := Lib.hid cG
      clear cG hG
      have HF : RowKit.Hid (((G.toList == [72, 69, 76, 79]) = true) ∨ ((G.toList == [72, 69, 76, 79]) = false ∧ (G.toList == [69, 72, 76, 79]) = true)) := Lib.hid (by
        have hGl : G.toList = N := by rw [← HG.out, ByteArray.toList_eq, bs_data, HNN.out]
        rcases HX.out with rfl | rfl
        · have h : G.toList = nHelo := hGl
          exact (.inl (by rw [h]; rfl))
        · have h : G.toList = nEhlo := hGl
          exact (.inr ⟨by rw [h]; rfl, by rw [h]; rfl⟩))
      have HGN : RowKit.Hid (bs N = G) := Lib.hid (by rw [← HG.out, HNN.out])
      have hRd : ({ data := #[] } : ByteArray).data.toList = bhd 32 s.data.toList := by rw [← HRS.out, bs_data]
      have cD := fun W => refDomain_walk { data := #[] } (by omega) W
      have cS := fun W => refSmall_walk { data := #[] } (by omega) W
      rw [hRd] at cD cS
      have CD := Lib.hid cD
      have CS := Lib.hid cS
      clear cD cS hRd
      cases hd : domain (bhd 32 s.data.toList) with
      | false =>
        have HV : RowKit.Hid (cmdV (cmdOf N (helloM (bhd 32 s.data.toList))) = .tuple #[.agg (cells3 { data := #[] } { data := #[] } 0), .int .i64 501]) := Lib.hid (by rw [helloM, hd]; rfl)
        have cD := CD.out
        rw [hd] at cD
        have CD2 := Lib.hid cD
        clear cD CD CS hd
        rcases HF.out with qHelo | ⟨qHelo, qEhlo⟩
        all_goals
          go_wp2_with fail
          refine CG.out.mono ?_
          rintro e w1 ⟨rfl, hb1⟩
          have HB1 := Lib.hid (HB.out.trans (hb1.mono HB.out.size))
          have S0 := Lib.hid (HR0.out.keep HR0.out.lt hb1)
          have S1 := Lib.hid (HR1.out.keep HR1.out.lt hb1)
          have hb2 := (Below.refl w1.heap.size w1).alloc (Nat.le_refl _) (.cells #[.string G, .string { data := #[] }, .int .i64 (-1)] 58)
          have T0 := Lib.hid (S0.out.keep S0.out.lt hb2)
          have T1 := Lib.hid (S1.out.keep S1.out.lt hb2)
          have T2 := Lib.hid (row3_new w1 G { data := #[] } (-1))
          have HB2 := Lib.hid (HB1.out.trans (hb2.mono HB1.out.size))
          have HLT : RowKit.Hid (w.heap.size < w1.heap.size ∧ w.heap.size + 1 < w1.heap.size) := Lib.hid ⟨S0.out.lt, S1.out.lt⟩
          clear hb1 hb2 CG
          go_wp2_with fail
          refine (CD2.out _).mono ?_
          rintro e w3 ⟨rfl, hb3⟩
          have U0 := Lib.hid (T0.out.keep T0.out.lt hb3)
          have U1 := Lib.hid (T1.out.keep T1.out.lt hb3)
          have HB3 := Lib.hid (HB2.out.trans (hb3.mono HB2.out.size))
          clear hb3
          go_wp2_with (first | (refine step_load (by rfl) (.tmp 4) (by rfl) (w.heap.size + 1) _ _ _ (by rfl) U1.out ?_) | (refine step_row (by rfl) (.tmp 2) (.tmp 49) (by rfl) w.heap.size { data := #[] } { data := #[] } 0 (by rfl) (by rfl) _ _ _ U0.out ?_))
          (try simp only [Exit.inBlock, Exit.then])
          refine bodyPost_ret (ret_row (fn := Tryz.f25) (p := 2) (u := 3) rfl _ _ w.heap.size { data := #[] } { data := #[] } 0 rfl (U0.out.set _ _ _)) rfl ?_
          exact ⟨by rw [HV.out]; rfl, below_setRow HB3.out (Nat.le_refl _) _⟩
      | true =>
        obtain ⟨X, hX⟩ : ∃ X, bs ((bhd 32 s.data.toList).map lower) = X := ⟨_, rfl⟩
        have HV : RowKit.Hid (cmdV (cmdOf N (helloM (bhd 32 s.data.toList))) = .tuple #[.agg (cells3 G X (-1)), .int .i64 0]) := Lib.hid (by
          rw [helloM, hd, ← HGN.out, ← hX]; rfl)
        have cD := CD.out
        rw [hd] at cD
        have cS := CS.out
        rw [hX] at cS
        have CD2 := Lib.hid cD
        have CS2 := Lib.hid cS
        clear cD cS CD CS hd hX
        rcases HF.out with qHelo | ⟨qHelo, qEhlo⟩
        all_goals
          go_wp2_with fail
          refine CG.out.mono ?_
          rintro e w1 ⟨rfl, hb1⟩
          have HB1 := Lib.hid (HB.out.trans (hb1.mono HB.out.size))
          have S0 := Lib.hid (HR0.out.keep HR0.out.lt hb1)
          have S1 := Lib.hid (HR1.out.keep HR1.out.lt hb1)
          have hb2 := (Below.refl w1.heap.size w1).alloc (Nat.le_refl _) (.cells #[.string G, .string { data := #[] }, .int .i64 (-1)] 58)
          have T0 := Lib.hid (S0.out.keep S0.out.lt hb2)
          have T1 := Lib.hid (S1.out.keep S1.out.lt hb2)
          have T2 := Lib.hid (row3_new w1 G { data := #[] } (-1))
          have HB2 := Lib.hid (HB1.out.trans (hb2.mono HB1.out.size))
          have HLT : RowKit.Hid (w.heap.size < w1.heap.size ∧ w.heap.size + 1 < w1.heap.size) := Lib.hid ⟨S0.out.lt, S1.out.lt⟩
          clear hb1 hb2 CG
          go_wp2_with fail
          refine (CD2.out _).mono ?_
          rintro e w3 ⟨rfl, hb3⟩
          have U0 := Lib.hid (T0.out.keep T0.out.lt hb3)
          have U2 := Lib.hid (T2.out.keep T2.out.lt hb3)
          have HB3 := Lib.hid (HB2.out.trans (hb3.mono HB2.out.size))
          clear hb3
          go_wp2_with fail
          refine (CS2.out _).mono ?_
          rintro e w4 ⟨rfl, hb4⟩
          have V0 := Lib.hid ((U0.out.keep U0.out.lt hb4).other ⟨w1.heap.size, 1, none⟩ (by have := HLT.out; show w.heap.size ≠ w1.heap.size; omega) (.string X))
          have V2a := U2.out.keep U2.out.lt hb4
          have V2 := Lib.hid (V2a.arg X)
          have HB4 := Lib.hid ((HB3.out.trans (hb4.mono HB3.out.size)).setCell (p := ⟨w1.heap.size, 1, none⟩) (by have := HLT.out; show w.heap.size ≤ w1.heap.size; omega) (.string X))
          obtain ⟨_, k1, _⟩ := V2a.cells
          have f1 := V2a.frozen 1
          clear hb4 V2a
          go_wp2_with (first | (refine step_load (by rfl) (.tmp 9) (by rfl) w1.heap.size _ _ _ (by rfl) V2.out ?_) | (refine step_row (by rfl) (.tmp 2) (.tmp 160) (by rfl) w.heap.size G X (-1) (by rfl) (by rfl) _ _ _ V0.out ?_))
          (try simp only [Exit.inBlock, Exit.then])
          refine bodyPost_ret (ret_row (fn := Tryz.f25) (p := 2) (u := 3) rfl _ _ w.heap.size G X (-1) rfl (V0.out.set _ _ _)) rfl ?_
          exact ⟨by rw [HV.out]; rfl, below_setRow HB4.out (Nat.le_refl _) _⟩

set_option maxHeartbeats 8000000 in
set_option maxRecDepth 100000 in
theorem refVerb_alone (s : ByteArray) (hs : s.size ≤ 100000) (w : World) (N : List UInt8) (hN : great (ahd 32 s.data.toList) = N) (hX : N = nData ∨ N = nRset ∨ N = nQuit) : Calls Tryz.prog 25 #[.string s] w fun e w' => e = .returned (cmdV (cmdOf N (aloneM (s.data.toList.contains 32)))) ∧ Below w.heap.size w w' := by
  have HX := Lib.hid hX
  have HNN := Lib.hid hN
  clear hN hX
  have hlen := len_size s
  obtain ⟨r0, r1, b0⟩ := rows_new w
  have R0 := Lib.hid r0
  have R1 := Lib.hid r1
  have B0 := Lib.hid b0
  clear r0 r1 b0
  go_enter Tryz.func25, Tryz.ntmps25
  go_wp2
  go_loopw [5, 6, 7, 8] (fun z5 z6 z7 z8 wr => ∃ k : Nat, k ≤ s.size ∧ z5 = .string s ∧ z6 = .string { data := #[] } ∧ z7 = .bool false ∧ z8 = .int .i64 (k : Int) ∧ RowKit.Hid ((32 : UInt8) ∉ s.data.toList.take k) ∧ RowKit.Hid (Row3 wr w.heap.size { data := #[] } { data := #[] } 0) ∧ RowKit.Hid (Row3 wr (w.heap.size + 1) { data := #[] } { data := #[] } 0) ∧ RowKit.Hid (Below w.heap.size w wr)) (fun _ _ _ z _ => s.size - (Lib.intOf z).toNat)
  case atStart => exact ⟨0, by omega, rfl, rfl, rfl, rfl, Lib.hid (by simp), R0, R1, B0⟩
  case round =>
    obtain ⟨k, hk, rfl, rfl, rfl, rfl, hT, HR0, HR1, HB⟩ := hrel
    clear R0 R1 B0
    by_cases hlt : (k : Int) < (s.size : Int)
    · have hp : k < s.size := by omega
      have hg := get_list s k hp
      by_cases hq : ((s[k]'hp).toNat : Int) = 32
      · obtain ⟨e1, e2, e3⟩ := ahd_found (l := s.data.toList) (k := k) (by omega) (by rw [hg]; exact byte_32 hq) hT.out
        have et := take_bs s k
        have ed := drop_bs s (k + 1)
        rw [← e1] at et
        rw [← e2] at ed
        have hq2 : (((s[k]'hp).toNat : Int) == 32) = true := by rw [hq]; rfl
        have E3 := Lib.hid e3
        have hal := ahd_len 32 s.data.toList
        have hbl := bhd_len 32 s.data.toList
        rw [hlen] at hal hbl
        obtain ⟨Nm, hNm⟩ : ∃ Nm, bs (ahd 32 s.data.toList) = Nm := ⟨_, rfl⟩
        obtain ⟨Rs, hRs⟩ : ∃ Rs, bs (bhd 32 s.data.toList) = Rs := ⟨_, rfl⟩
        rw [hNm] at et
        rw [hRs] at ed
        have hNs : Nm.size ≤ s.size := by rw [← hNm, bs_size]; exact hal
        have hRz : Rs.size ≤ s.size := by rw [← hRs, bs_size]; exact hbl
        have HNM := Lib.hid hNm
        have HRS := Lib.hid hRs
        clear hg e1 e2 e3 hT hNm hRs hal hbl
        go_wp2_with fail
        go_quiet (fail)
        have HB' : RowKit.Hid (Below w.heap.size w (wr.drewN nq)) := Lib.hid (HB.out.trans ⟨rfl, rfl, rfl, Nat.le_refl _, fun _ _ => rfl⟩)
        have HR0' : RowKit.Hid (Row3 (wr.drewN nq) w.heap.size { data := #[] } { data := #[] } 0) := Lib.hid HR0.out
        have HR1' : RowKit.Hid (Row3 (wr.drewN nq) (w.heap.size + 1) { data := #[] } { data := #[] } 0) := Lib.hid HR1.out
        clear HB HR0 HR1
        generalize wr.drewN nq = wq at HB' HR0' HR1' ⊢
        have HB := HB'
        have HR0 := HR0'
        have HR1 := HR1'
        clear et ed hq hq2 HB' HR0' HR1'
        have cG := refGreat_walk Nm (by omega) wq
        obtain ⟨G, hG⟩ : ∃ G, bs (Nm.data.toList.map upper) = G := ⟨_, rfl⟩
        rw [hG] at cG
        have HG : RowKit.Hid (bs (great (ahd 32 s.data.toList)) = G) := Lib.hid (by
          rw [← hG]
          rw [← HNM.out, bs_data]; rfl)
        have CG := Lib.hid cG
        clear cG hG
        have HF : RowKit.Hid (((G.toList == [72, 69, 76, 79]) = false ∧ (G.toList == [69, 72, 76, 79]) = false ∧ (G.toList == [68, 65, 84, 65]) = true) ∨ ((G.toList == [72, 69, 76, 79]) = false ∧ (G.toList == [69, 72, 76, 79]) = false ∧ (G.toList == [68, 65, 84, 65]) = false ∧ (G.toList == [82, 83, 69, 84]) = true) ∨ ((G.toList == [72, 69, 76, 79]) = false ∧ (G.toList == [69, 72, 76, 79]) = false ∧ (G.toList == [68, 65, 84, 65]) = false ∧ (G.toList == [82, 83, 69, 84]) = false ∧ (G.toList == [81, 85, 73, 84]) = true)) := Lib.hid (by
          have hGl : G.toList = N := by rw [← HG.out, ByteArray.toList_eq, bs_data, HNN.out]
          rcases HX.out with rfl | rfl | rfl
          · have h : G.toList = nData := hGl
            exact (.inl ⟨by rw [h]; rfl, by rw [h]; rfl, by rw [h]; rfl⟩)
          · have h : G.toList = nRset := hGl
            exact (.inr (.inl ⟨by rw [h]; rfl, by rw [h]; rfl, by rw [h]; rfl, by rw [h]; rfl⟩))
          · have h : G.toList = nQuit := hGl
            exact (.inr (.inr ⟨by rw [h]; rfl, by rw [h]; rfl, by rw [h]; rfl, by rw [h]; rfl, by rw [h]; rfl⟩)))
        have HGN : RowKit.Hid (bs N = G) := Lib.hid (by rw [← HG.out, HNN.out])
        have HV : RowKit.Hid (cmdV (cmdOf N (aloneM (s.data.toList.contains 32))) = .tuple #[.agg (cells3 { data := #[] } { data := #[] } 0), .int .i64 501]) := Lib.hid (by rw [E3.out]; rfl)
        rcases HF.out with ⟨qHelo, qEhlo, qData⟩ | ⟨qHelo, qEhlo, qData, qRset⟩ | ⟨qHelo, qEhlo, qData, qRset, qQuit⟩
        all_goals
          go_wp2_with fail
          refine CG.out.mono ?_
          rintro e w1 ⟨rfl, hb1⟩
          have HB1 := Lib.hid (HB.out.trans (hb1.mono HB.out.size))
          have S0 := Lib.hid (HR0.out.keep HR0.out.lt hb1)
          have S1 := Lib.hid (HR1.out.keep HR1.out.lt hb1)
          have hb2 := (Below.refl w1.heap.size w1).alloc (Nat.le_refl _) (.cells #[.string G, .string { data := #[] }, .int .i64 (-1)] 58)
          have T0 := Lib.hid (S0.out.keep S0.out.lt hb2)
          have T1 := Lib.hid (S1.out.keep S1.out.lt hb2)
          have T2 := Lib.hid (row3_new w1 G { data := #[] } (-1))
          have HB2 := Lib.hid (HB1.out.trans (hb2.mono HB1.out.size))
          have HLT : RowKit.Hid (w.heap.size < w1.heap.size ∧ w.heap.size + 1 < w1.heap.size) := Lib.hid ⟨S0.out.lt, S1.out.lt⟩
          clear hb1 hb2 CG
          go_wp2_with (first | (refine step_load (by rfl) (.tmp 4) (by rfl) (w.heap.size + 1) _ _ _ (by rfl) T1.out ?_) | (refine step_row (by rfl) (.tmp 2) (.tmp 58) (by rfl) w.heap.size { data := #[] } { data := #[] } 0 (by rfl) (by rfl) _ _ _ T0.out ?_))
          (try simp only [Exit.inBlock, Exit.then])
          refine bodyPost_ret (ret_row (fn := Tryz.f25) (p := 2) (u := 3) rfl _ _ w.heap.size { data := #[] } { data := #[] } 0 rfl (T0.out.set _ _ _)) rfl ?_
          exact ⟨by rw [HV.out]; rfl, below_setRow HB2.out (Nat.le_refl _) _⟩
      · have hT2 := Lib.hid (no_more (l := s.data.toList) (k := k) (by omega) hT.out (by rw [hg]; exact byte_not hq))
        have hq2 : (((s[k]'hp).toNat : Int) == 32) = false := by rw [beq_eq_false_iff_ne]; exact hq
        clear hg
        go_wp2
        go_roundw
        case rel => exact ⟨k + 1, by omega, rfl, rfl, rfl, by simp, hT2, HR0, HR1, HB⟩
        case measure =>
          simp [Lib.intOf]
          omega
    · have hno : (32 : UInt8) ∉ s.data.toList := by
        have := hT.out
        rw [List.take_of_length_le (by omega)] at this
        exact this
      obtain ⟨e1, e2, e3⟩ := ahd_miss 32 hno
      have HNM : RowKit.Hid (bs (ahd 32 s.data.toList) = s) := Lib.hid (by rw [e1, bs_of])
      have HRS : RowKit.Hid (bs (bhd 32 s.data.toList) = { data := #[] }) := Lib.hid (by rw [e2]; rfl)
      have E3 := Lib.hid e3
      have hRz : ({ data := #[] } : ByteArray).size ≤ s.size := Nat.zero_le _
      clear hno e1 e2 e3 hT
      have cG := refGreat_walk s (by omega) wr
      obtain ⟨G, hG⟩ : ∃ G, bs (s.data.toList.map upper) = G := ⟨_, rfl⟩
      rw [hG] at cG
      have HG : RowKit.Hid (bs (great (ahd 32 s.data.toList)) = G) := Lib.hid (by
        rw [← hG]
        have h := congrArg (fun x : ByteArray => x.data.toList) HNM.out; simp only [bs_data] at h; rw [h]; rfl)
      have CG := Lib.hid cG
      clear cG hG
      have HF : RowKit.Hid (((G.toList == [72, 69, 76, 79]) = false ∧ (G.toList == [69, 72, 76, 79]) = false ∧ (G.toList == [68, 65, 84, 65]) = true) ∨ ((G.toList == [72, 69, 76, 79]) = false ∧ (G.toList == [69, 72, 76, 79]) = false ∧ (G.toList == [68, 65, 84, 65]) = false ∧ (G.toList == [82, 83, 69, 84]) = true) ∨ ((G.toList == [72, 69, 76, 79]) = false ∧ (G.toList == [69, 72, 76, 79]) = false ∧ (G.toList == [68, 65, 84, 65]) = false ∧ (G.toList == [82, 83, 69, 84]) = false ∧ (G.toList == [81, 85, 73, 84]) = true)) := Lib.hid (by
        have hGl : G.toList = N := by rw [← HG.out, ByteArray.toList_eq, bs_data, HNN.out]
        rcases HX.out with rfl | rfl | rfl
        · have h : G.toList = nData := hGl
          exact (.inl ⟨by rw [h]; rfl, by rw [h]; rfl, by rw [h]; rfl⟩)
        · have h : G.toList = nRset := hGl
          exact (.inr (.inl ⟨by rw [h]; rfl, by rw [h]; rfl, by rw [h]; rfl, by rw [h]; rfl⟩))
        · have h : G.toList = nQuit := hGl
          exact (.inr (.inr ⟨by rw [h]; rfl, by rw [h]; rfl, by rw [h]; rfl, by rw [h]; rfl, by rw [h]; rfl⟩)))
      have HGN : RowKit.Hid (bs N = G) := Lib.hid (by rw [← HG.out, HNN.out])
      have HV : RowKit.Hid (cmdV (cmdOf N (aloneM (s.data.toList.contains 32))) = .tuple #[.agg (cells3 G { data := #[] } (-1)), .int .i64 0]) := Lib.hid (by rw [E3.out, ← HGN.out]; rfl)
      rcases HF.out with ⟨qHelo, qEhlo, qData⟩ | ⟨qHelo, qEhlo, qData, qRset⟩ | ⟨qHelo, qEhlo, qData, qRset, qQuit⟩
      all_goals
        go_wp2_with fail
        refine CG.out.mono ?_
        rintro e w1 ⟨rfl, hb1⟩
        have HB1 := Lib.hid (HB.out.trans (hb1.mono HB.out.size))
        have S0 := Lib.hid (HR0.out.keep HR0.out.lt hb1)
        have S1 := Lib.hid (HR1.out.keep HR1.out.lt hb1)
        have hb2 := (Below.refl w1.heap.size w1).alloc (Nat.le_refl _) (.cells #[.string G, .string { data := #[] }, .int .i64 (-1)] 58)
        have T0 := Lib.hid (S0.out.keep S0.out.lt hb2)
        have T1 := Lib.hid (S1.out.keep S1.out.lt hb2)
        have T2 := Lib.hid (row3_new w1 G { data := #[] } (-1))
        have HB2 := Lib.hid (HB1.out.trans (hb2.mono HB1.out.size))
        have HLT : RowKit.Hid (w.heap.size < w1.heap.size ∧ w.heap.size + 1 < w1.heap.size) := Lib.hid ⟨S0.out.lt, S1.out.lt⟩
        clear hb1 hb2 CG
        go_wp2_with (first | (refine step_load (by rfl) (.tmp 9) (by rfl) w1.heap.size _ _ _ (by rfl) T2.out ?_) | (refine step_row (by rfl) (.tmp 2) (.tmp 160) (by rfl) w.heap.size G { data := #[] } (-1) (by rfl) (by rfl) _ _ _ T0.out ?_))
        (try simp only [Exit.inBlock, Exit.then])
        refine bodyPost_ret (ret_row (fn := Tryz.f25) (p := 2) (u := 3) rfl _ _ w.heap.size G { data := #[] } (-1) rfl (T0.out.set _ _ _)) rfl ?_
        exact ⟨by rw [HV.out]; rfl, below_setRow HB2.out (Nat.le_refl _) _⟩

set_option maxHeartbeats 8000000 in
set_option maxRecDepth 100000 in
theorem refVerb_noop (s : ByteArray) (hs : s.size ≤ 100000) (w : World) (N : List UInt8) (hN : great (ahd 32 s.data.toList) = N) (hX : N = nNoop) : Calls Tryz.prog 25 #[.string s] w fun e w' => e = .returned (cmdV (cmdOf N (noopM))) ∧ Below w.heap.size w w' := by
  have HX := Lib.hid hX
  have HNN := Lib.hid hN
  clear hN hX
  have hlen := len_size s
  obtain ⟨r0, r1, b0⟩ := rows_new w
  have R0 := Lib.hid r0
  have R1 := Lib.hid r1
  have B0 := Lib.hid b0
  clear r0 r1 b0
  go_enter Tryz.func25, Tryz.ntmps25
  go_wp2
  go_loopw [5, 6, 7, 8] (fun z5 z6 z7 z8 wr => ∃ k : Nat, k ≤ s.size ∧ z5 = .string s ∧ z6 = .string { data := #[] } ∧ z7 = .bool false ∧ z8 = .int .i64 (k : Int) ∧ RowKit.Hid ((32 : UInt8) ∉ s.data.toList.take k) ∧ RowKit.Hid (Row3 wr w.heap.size { data := #[] } { data := #[] } 0) ∧ RowKit.Hid (Row3 wr (w.heap.size + 1) { data := #[] } { data := #[] } 0) ∧ RowKit.Hid (Below w.heap.size w wr)) (fun _ _ _ z _ => s.size - (Lib.intOf z).toNat)
  case atStart => exact ⟨0, by omega, rfl, rfl, rfl, rfl, Lib.hid (by simp), R0, R1, B0⟩
  case round =>
    obtain ⟨k, hk, rfl, rfl, rfl, rfl, hT, HR0, HR1, HB⟩ := hrel
    clear R0 R1 B0
    by_cases hlt : (k : Int) < (s.size : Int)
    · have hp : k < s.size := by omega
      have hg := get_list s k hp
      by_cases hq : ((s[k]'hp).toNat : Int) = 32
      · obtain ⟨e1, e2, e3⟩ := ahd_found (l := s.data.toList) (k := k) (by omega) (by rw [hg]; exact byte_32 hq) hT.out
        have et := take_bs s k
        have ed := drop_bs s (k + 1)
        rw [← e1] at et
        rw [← e2] at ed
        have hq2 : (((s[k]'hp).toNat : Int) == 32) = true := by rw [hq]; rfl
        have E3 := Lib.hid e3
        have hal := ahd_len 32 s.data.toList
        have hbl := bhd_len 32 s.data.toList
        rw [hlen] at hal hbl
        obtain ⟨Nm, hNm⟩ : ∃ Nm, bs (ahd 32 s.data.toList) = Nm := ⟨_, rfl⟩
        obtain ⟨Rs, hRs⟩ : ∃ Rs, bs (bhd 32 s.data.toList) = Rs := ⟨_, rfl⟩
        rw [hNm] at et
        rw [hRs] at ed
        have hNs : Nm.size ≤ s.size := by rw [← hNm, bs_size]; exact hal
        have hRz : Rs.size ≤ s.size := by rw [← hRs, bs_size]; exact hbl
        have HNM := Lib.hid hNm
        have HRS := Lib.hid hRs
        clear hg e1 e2 e3 hT hNm hRs hal hbl
        go_wp2_with fail
        go_quiet (fail)
        have HB' : RowKit.Hid (Below w.heap.size w (wr.drewN nq)) := Lib.hid (HB.out.trans ⟨rfl, rfl, rfl, Nat.le_refl _, fun _ _ => rfl⟩)
        have HR0' : RowKit.Hid (Row3 (wr.drewN nq) w.heap.size { data := #[] } { data := #[] } 0) := Lib.hid HR0.out
        have HR1' : RowKit.Hid (Row3 (wr.drewN nq) (w.heap.size + 1) { data := #[] } { data := #[] } 0) := Lib.hid HR1.out
        clear HB HR0 HR1
        generalize wr.drewN nq = wq at HB' HR0' HR1' ⊢
        have HB := HB'
        have HR0 := HR0'
        have HR1 := HR1'
        clear et ed hq hq2 HB' HR0' HR1'
        have cG := refGreat_walk Nm (by omega) wq
        obtain ⟨G, hG⟩ : ∃ G, bs (Nm.data.toList.map upper) = G := ⟨_, rfl⟩
        rw [hG] at cG
        have HG : RowKit.Hid (bs (great (ahd 32 s.data.toList)) = G) := Lib.hid (by
          rw [← hG]
          rw [← HNM.out, bs_data]; rfl)
        have CG := Lib.hid cG
        clear cG hG
        have HF : RowKit.Hid (((G.toList == [72, 69, 76, 79]) = false ∧ (G.toList == [69, 72, 76, 79]) = false ∧ (G.toList == [68, 65, 84, 65]) = false ∧ (G.toList == [82, 83, 69, 84]) = false ∧ (G.toList == [81, 85, 73, 84]) = false ∧ (G.toList == [78, 79, 79, 80]) = true)) := Lib.hid (by
          have hGl : G.toList = N := by rw [← HG.out, ByteArray.toList_eq, bs_data, HNN.out]
          rcases HX.out with rfl
          · have h : G.toList = nNoop := hGl
            exact ⟨by rw [h]; rfl, by rw [h]; rfl, by rw [h]; rfl, by rw [h]; rfl, by rw [h]; rfl, by rw [h]; rfl⟩)
        have HGN : RowKit.Hid (bs N = G) := Lib.hid (by rw [← HG.out, HNN.out])
        have HV : RowKit.Hid (cmdV (cmdOf N noopM) = .tuple #[.agg (cells3 G { data := #[] } (-1)), .int .i64 0]) := Lib.hid (by rw [← HGN.out]; rfl)
        rcases HF.out with ⟨qHelo, qEhlo, qData, qRset, qQuit, qNoop⟩
        all_goals
          go_wp2_with fail
          refine CG.out.mono ?_
          rintro e w1 ⟨rfl, hb1⟩
          have HB1 := Lib.hid (HB.out.trans (hb1.mono HB.out.size))
          have S0 := Lib.hid (HR0.out.keep HR0.out.lt hb1)
          have S1 := Lib.hid (HR1.out.keep HR1.out.lt hb1)
          have hb2 := (Below.refl w1.heap.size w1).alloc (Nat.le_refl _) (.cells #[.string G, .string { data := #[] }, .int .i64 (-1)] 58)
          have T0 := Lib.hid (S0.out.keep S0.out.lt hb2)
          have T1 := Lib.hid (S1.out.keep S1.out.lt hb2)
          have T2 := Lib.hid (row3_new w1 G { data := #[] } (-1))
          have HB2 := Lib.hid (HB1.out.trans (hb2.mono HB1.out.size))
          have HLT : RowKit.Hid (w.heap.size < w1.heap.size ∧ w.heap.size + 1 < w1.heap.size) := Lib.hid ⟨S0.out.lt, S1.out.lt⟩
          clear hb1 hb2 CG
          go_wp2_with (first | (refine step_load (by rfl) (.tmp 9) (by rfl) w1.heap.size _ _ _ (by rfl) T2.out ?_) | (refine step_row (by rfl) (.tmp 2) (.tmp 160) (by rfl) w.heap.size G { data := #[] } (-1) (by rfl) (by rfl) _ _ _ T0.out ?_))
          (try simp only [Exit.inBlock, Exit.then])
          refine bodyPost_ret (ret_row (fn := Tryz.f25) (p := 2) (u := 3) rfl _ _ w.heap.size G { data := #[] } (-1) rfl (T0.out.set _ _ _)) rfl ?_
          exact ⟨by rw [HV.out]; rfl, below_setRow HB2.out (Nat.le_refl _) _⟩
      · have hT2 := Lib.hid (no_more (l := s.data.toList) (k := k) (by omega) hT.out (by rw [hg]; exact byte_not hq))
        have hq2 : (((s[k]'hp).toNat : Int) == 32) = false := by rw [beq_eq_false_iff_ne]; exact hq
        clear hg
        go_wp2
        go_roundw
        case rel => exact ⟨k + 1, by omega, rfl, rfl, rfl, by simp, hT2, HR0, HR1, HB⟩
        case measure =>
          simp [Lib.intOf]
          omega
    · have hno : (32 : UInt8) ∉ s.data.toList := by
        have := hT.out
        rw [List.take_of_length_le (by omega)] at this
        exact this
      obtain ⟨e1, e2, e3⟩ := ahd_miss 32 hno
      have HNM : RowKit.Hid (bs (ahd 32 s.data.toList) = s) := Lib.hid (by rw [e1, bs_of])
      have HRS : RowKit.Hid (bs (bhd 32 s.data.toList) = { data := #[] }) := Lib.hid (by rw [e2]; rfl)
      have E3 := Lib.hid e3
      have hRz : ({ data := #[] } : ByteArray).size ≤ s.size := Nat.zero_le _
      clear hno e1 e2 e3 hT
      have cG := refGreat_walk s (by omega) wr
      obtain ⟨G, hG⟩ : ∃ G, bs (s.data.toList.map upper) = G := ⟨_, rfl⟩
      rw [hG] at cG
      have HG : RowKit.Hid (bs (great (ahd 32 s.data.toList)) = G) := Lib.hid (by
        rw [← hG]
        have h := congrArg (fun x : ByteArray => x.data.toList) HNM.out; simp only [bs_data] at h; rw [h]; rfl)
      have CG := Lib.hid cG
      clear cG hG
      have HF : RowKit.Hid (((G.toList == [72, 69, 76, 79]) = false ∧ (G.toList == [69, 72, 76, 79]) = false ∧ (G.toList == [68, 65, 84, 65]) = false ∧ (G.toList == [82, 83, 69, 84]) = false ∧ (G.toList == [81, 85, 73, 84]) = false ∧ (G.toList == [78, 79, 79, 80]) = true)) := Lib.hid (by
        have hGl : G.toList = N := by rw [← HG.out, ByteArray.toList_eq, bs_data, HNN.out]
        rcases HX.out with rfl
        · have h : G.toList = nNoop := hGl
          exact ⟨by rw [h]; rfl, by rw [h]; rfl, by rw [h]; rfl, by rw [h]; rfl, by rw [h]; rfl, by rw [h]; rfl⟩)
      have HGN : RowKit.Hid (bs N = G) := Lib.hid (by rw [← HG.out, HNN.out])
      have HV : RowKit.Hid (cmdV (cmdOf N noopM) = .tuple #[.agg (cells3 G { data := #[] } (-1)), .int .i64 0]) := Lib.hid (by rw [← HGN.out]; rfl)
      rcases HF.out with ⟨qHelo, qEhlo, qData, qRset, qQuit, qNoop⟩
      all_goals
        go_wp2_with fail
        refine CG.out.mono ?_
        rintro e w1 ⟨rfl, hb1⟩
        have HB1 := Lib.hid (HB.out.trans (hb1.mono HB.out.size))
        have S0 := Lib.hid (HR0.out.keep HR0.out.lt hb1)
        have S1 := Lib.hid (HR1.out.keep HR1.out.lt hb1)
        have hb2 := (Below.refl w1.heap.size w1).alloc (Nat.le_refl _) (.cells #[.string G, .string { data := #[] }, .int .i64 (-1)] 58)
        have T0 := Lib.hid (S0.out.keep S0.out.lt hb2)
        have T1 := Lib.hid (S1.out.keep S1.out.lt hb2)
        have T2 := Lib.hid (row3_new w1 G { data := #[] } (-1))
        have HB2 := Lib.hid (HB1.out.trans (hb2.mono HB1.out.size))
        have HLT : RowKit.Hid (w.heap.size < w1.heap.size ∧ w.heap.size + 1 < w1.heap.size) := Lib.hid ⟨S0.out.lt, S1.out.lt⟩
        clear hb1 hb2 CG
        go_wp2_with (first | (refine step_load (by rfl) (.tmp 9) (by rfl) w1.heap.size _ _ _ (by rfl) T2.out ?_) | (refine step_row (by rfl) (.tmp 2) (.tmp 160) (by rfl) w.heap.size G { data := #[] } (-1) (by rfl) (by rfl) _ _ _ T0.out ?_))
        (try simp only [Exit.inBlock, Exit.then])
        refine bodyPost_ret (ret_row (fn := Tryz.f25) (p := 2) (u := 3) rfl _ _ w.heap.size G { data := #[] } (-1) rfl (T0.out.set _ _ _)) rfl ?_
        exact ⟨by rw [HV.out]; rfl, below_setRow HB2.out (Nat.le_refl _) _⟩

set_option maxHeartbeats 8000000 in
set_option maxRecDepth 100000 in
theorem refVerb_vrfy (s : ByteArray) (hs : s.size ≤ 100000) (w : World) (N : List UInt8) (hN : great (ahd 32 s.data.toList) = N) (hX : N = nVrfy) : Calls Tryz.prog 25 #[.string s] w fun e w' => e = .returned (cmdV (cmdOf N (vrfyM (bhd 32 s.data.toList)))) ∧ Below w.heap.size w w' := by
  have HX := Lib.hid hX
  have HNN := Lib.hid hN
  clear hN hX
  have hlen := len_size s
  obtain ⟨r0, r1, b0⟩ := rows_new w
  have R0 := Lib.hid r0
  have R1 := Lib.hid r1
  have B0 := Lib.hid b0
  clear r0 r1 b0
  go_enter Tryz.func25, Tryz.ntmps25
  go_wp2
  go_loopw [5, 6, 7, 8] (fun z5 z6 z7 z8 wr => ∃ k : Nat, k ≤ s.size ∧ z5 = .string s ∧ z6 = .string { data := #[] } ∧ z7 = .bool false ∧ z8 = .int .i64 (k : Int) ∧ RowKit.Hid ((32 : UInt8) ∉ s.data.toList.take k) ∧ RowKit.Hid (Row3 wr w.heap.size { data := #[] } { data := #[] } 0) ∧ RowKit.Hid (Row3 wr (w.heap.size + 1) { data := #[] } { data := #[] } 0) ∧ RowKit.Hid (Below w.heap.size w wr)) (fun _ _ _ z _ => s.size - (Lib.intOf z).toNat)
  case atStart => exact ⟨0, by omega, rfl, rfl, rfl, rfl, Lib.hid (by simp), R0, R1, B0⟩
  case round =>
    obtain ⟨k, hk, rfl, rfl, rfl, rfl, hT, HR0, HR1, HB⟩ := hrel
    clear R0 R1 B0
    by_cases hlt : (k : Int) < (s.size : Int)
    · have hp : k < s.size := by omega
      have hg := get_list s k hp
      by_cases hq : ((s[k]'hp).toNat : Int) = 32
      · obtain ⟨e1, e2, e3⟩ := ahd_found (l := s.data.toList) (k := k) (by omega) (by rw [hg]; exact byte_32 hq) hT.out
        have et := take_bs s k
        have ed := drop_bs s (k + 1)
        rw [← e1] at et
        rw [← e2] at ed
        have hq2 : (((s[k]'hp).toNat : Int) == 32) = true := by rw [hq]; rfl
        have E3 := Lib.hid e3
        have hal := ahd_len 32 s.data.toList
        have hbl := bhd_len 32 s.data.toList
        rw [hlen] at hal hbl
        obtain ⟨Nm, hNm⟩ : ∃ Nm, bs (ahd 32 s.data.toList) = Nm := ⟨_, rfl⟩
        obtain ⟨Rs, hRs⟩ : ∃ Rs, bs (bhd 32 s.data.toList) = Rs := ⟨_, rfl⟩
        rw [hNm] at et
        rw [hRs] at ed
        have hNs : Nm.size ≤ s.size := by rw [← hNm, bs_size]; exact hal
        have hRz : Rs.size ≤ s.size := by rw [← hRs, bs_size]; exact hbl
        have HNM := Lib.hid hNm
        have HRS := Lib.hid hRs
        clear hg e1 e2 e3 hT hNm hRs hal hbl
        go_wp2_with fail
        go_quiet (fail)
        have HB' : RowKit.Hid (Below w.heap.size w (wr.drewN nq)) := Lib.hid (HB.out.trans ⟨rfl, rfl, rfl, Nat.le_refl _, fun _ _ => rfl⟩)
        have HR0' : RowKit.Hid (Row3 (wr.drewN nq) w.heap.size { data := #[] } { data := #[] } 0) := Lib.hid HR0.out
        have HR1' : RowKit.Hid (Row3 (wr.drewN nq) (w.heap.size + 1) { data := #[] } { data := #[] } 0) := Lib.hid HR1.out
        clear HB HR0 HR1
        generalize wr.drewN nq = wq at HB' HR0' HR1' ⊢
        have HB := HB'
        have HR0 := HR0'
        have HR1 := HR1'
        clear et ed hq hq2 HB' HR0' HR1'
        have cG := refGreat_walk Nm (by omega) wq
        obtain ⟨G, hG⟩ : ∃ G, bs (Nm.data.toList.map upper) = G := ⟨_, rfl⟩
        rw [hG] at cG
        have HG : RowKit.Hid (bs (great (ahd 32 s.data.toList)) = G) := Lib.hid (by
          rw [← hG]
          rw [← HNM.out, bs_data]; rfl)
        have CG := Lib.hid cG
        clear cG hG
        have HF : RowKit.Hid (((G.toList == [72, 69, 76, 79]) = false ∧ (G.toList == [69, 72, 76, 79]) = false ∧ (G.toList == [68, 65, 84, 65]) = false ∧ (G.toList == [82, 83, 69, 84]) = false ∧ (G.toList == [81, 85, 73, 84]) = false ∧ (G.toList == [78, 79, 79, 80]) = false ∧ (G.toList == [86, 82, 70, 89]) = true)) := Lib.hid (by
          have hGl : G.toList = N := by rw [← HG.out, ByteArray.toList_eq, bs_data, HNN.out]
          rcases HX.out with rfl
          · have h : G.toList = nVrfy := hGl
            exact ⟨by rw [h]; rfl, by rw [h]; rfl, by rw [h]; rfl, by rw [h]; rfl, by rw [h]; rfl, by rw [h]; rfl, by rw [h]; rfl⟩)
        have HGN : RowKit.Hid (bs N = G) := Lib.hid (by rw [← HG.out, HNN.out])
        have hRd : Rs.toList = bhd 32 s.data.toList := by rw [← HRS.out, ByteArray.toList_eq, bs_data]
        by_cases hR : bhd 32 s.data.toList = []
        · have hE : (Rs.toList == []) = true := by rw [hRd, hR]; rfl
          have HV : RowKit.Hid (cmdV (cmdOf N (vrfyM (bhd 32 s.data.toList))) = .tuple #[.agg (cells3 { data := #[] } { data := #[] } 0), .int .i64 501]) := Lib.hid (by rw [vrfyM, if_pos hR]; rfl)
          clear hR hRd
          rcases HF.out with ⟨qHelo, qEhlo, qData, qRset, qQuit, qNoop, qVrfy⟩
          all_goals
            go_wp2_with fail
            refine CG.out.mono ?_
            rintro e w1 ⟨rfl, hb1⟩
            have HB1 := Lib.hid (HB.out.trans (hb1.mono HB.out.size))
            have S0 := Lib.hid (HR0.out.keep HR0.out.lt hb1)
            have S1 := Lib.hid (HR1.out.keep HR1.out.lt hb1)
            have hb2 := (Below.refl w1.heap.size w1).alloc (Nat.le_refl _) (.cells #[.string G, .string { data := #[] }, .int .i64 (-1)] 58)
            have T0 := Lib.hid (S0.out.keep S0.out.lt hb2)
            have T1 := Lib.hid (S1.out.keep S1.out.lt hb2)
            have T2 := Lib.hid (row3_new w1 G { data := #[] } (-1))
            have HB2 := Lib.hid (HB1.out.trans (hb2.mono HB1.out.size))
            have HLT : RowKit.Hid (w.heap.size < w1.heap.size ∧ w.heap.size + 1 < w1.heap.size) := Lib.hid ⟨S0.out.lt, S1.out.lt⟩
            clear hb1 hb2 CG
            go_wp2_with (first | (refine step_load (by rfl) (.tmp 4) (by rfl) (w.heap.size + 1) _ _ _ (by rfl) T1.out ?_) | (refine step_row (by rfl) (.tmp 2) (.tmp 65) (by rfl) w.heap.size { data := #[] } { data := #[] } 0 (by rfl) (by rfl) _ _ _ T0.out ?_))
            (try simp only [Exit.inBlock, Exit.then])
            refine bodyPost_ret (ret_row (fn := Tryz.f25) (p := 2) (u := 3) rfl _ _ w.heap.size { data := #[] } { data := #[] } 0 rfl (T0.out.set _ _ _)) rfl ?_
            exact ⟨by rw [HV.out]; rfl, below_setRow HB2.out (Nat.le_refl _) _⟩
        · have hE : (Rs.toList == []) = false := by rw [hRd, beq_eq_false_iff_ne]; exact hR
          have HV : RowKit.Hid (cmdV (cmdOf N (vrfyM (bhd 32 s.data.toList))) = .tuple #[.agg (cells3 G { data := #[] } (-1)), .int .i64 0]) := Lib.hid (by rw [vrfyM, if_neg hR, ← HGN.out]; rfl)
          clear hR hRd
          rcases HF.out with ⟨qHelo, qEhlo, qData, qRset, qQuit, qNoop, qVrfy⟩
          all_goals
            go_wp2_with fail
            refine CG.out.mono ?_
            rintro e w1 ⟨rfl, hb1⟩
            have HB1 := Lib.hid (HB.out.trans (hb1.mono HB.out.size))
            have S0 := Lib.hid (HR0.out.keep HR0.out.lt hb1)
            have S1 := Lib.hid (HR1.out.keep HR1.out.lt hb1)
            have hb2 := (Below.refl w1.heap.size w1).alloc (Nat.le_refl _) (.cells #[.string G, .string { data := #[] }, .int .i64 (-1)] 58)
            have T0 := Lib.hid (S0.out.keep S0.out.lt hb2)
            have T1 := Lib.hid (S1.out.keep S1.out.lt hb2)
            have T2 := Lib.hid (row3_new w1 G { data := #[] } (-1))
            have HB2 := Lib.hid (HB1.out.trans (hb2.mono HB1.out.size))
            have HLT : RowKit.Hid (w.heap.size < w1.heap.size ∧ w.heap.size + 1 < w1.heap.size) := Lib.hid ⟨S0.out.lt, S1.out.lt⟩
            clear hb1 hb2 CG
            go_wp2_with (first | (refine step_load (by rfl) (.tmp 9) (by rfl) w1.heap.size _ _ _ (by rfl) T2.out ?_) | (refine step_row (by rfl) (.tmp 2) (.tmp 160) (by rfl) w.heap.size G { data := #[] } (-1) (by rfl) (by rfl) _ _ _ T0.out ?_))
            (try simp only [Exit.inBlock, Exit.then])
            refine bodyPost_ret (ret_row (fn := Tryz.f25) (p := 2) (u := 3) rfl _ _ w.heap.size G { data := #[] } (-1) rfl (T0.out.set _ _ _)) rfl ?_
            exact ⟨by rw [HV.out]; rfl, below_setRow HB2.out (Nat.le_refl _) _⟩
      · have hT2 := Lib.hid (no_more (l := s.data.toList) (k := k) (by omega) hT.out (by rw [hg]; exact byte_not hq))
        have hq2 : (((s[k]'hp).toNat : Int) == 32) = false := by rw [beq_eq_false_iff_ne]; exact hq
        clear hg
        go_wp2
        go_roundw
        case rel => exact ⟨k + 1, by omega, rfl, rfl, rfl, by simp, hT2, HR0, HR1, HB⟩
        case measure =>
          simp [Lib.intOf]
          omega
    · have hno : (32 : UInt8) ∉ s.data.toList := by
        have := hT.out
        rw [List.take_of_length_le (by omega)] at this
        exact this
      obtain ⟨e1, e2, e3⟩ := ahd_miss 32 hno
      have HNM : RowKit.Hid (bs (ahd 32 s.data.toList) = s) := Lib.hid (by rw [e1, bs_of])
      have HRS : RowKit.Hid (bs (bhd 32 s.data.toList) = { data := #[] }) := Lib.hid (by rw [e2]; rfl)
      have E3 := Lib.hid e3
      have hRz : ({ data := #[] } : ByteArray).size ≤ s.size := Nat.zero_le _
      clear hno e1 e2 e3 hT
      have cG := refGreat_walk s (by omega) wr
      obtain ⟨G, hG⟩ : ∃ G, bs (s.data.toList.map upper) = G := ⟨_, rfl⟩
      rw [hG] at cG
      have HG : RowKit.Hid (bs (great (ahd 32 s.data.toList)) = G) := Lib.hid (by
        rw [← hG]
        have h := congrArg (fun x : ByteArray => x.data.toList) HNM.out; simp only [bs_data] at h; rw [h]; rfl)
      have CG := Lib.hid cG
      clear cG hG
      have HF : RowKit.Hid (((G.toList == [72, 69, 76, 79]) = false ∧ (G.toList == [69, 72, 76, 79]) = false ∧ (G.toList == [68, 65, 84, 65]) = false ∧ (G.toList == [82, 83, 69, 84]) = false ∧ (G.toList == [81, 85, 73, 84]) = false ∧ (G.toList == [78, 79, 79, 80]) = false ∧ (G.toList == [86, 82, 70, 89]) = true)) := Lib.hid (by
        have hGl : G.toList = N := by rw [← HG.out, ByteArray.toList_eq, bs_data, HNN.out]
        rcases HX.out with rfl
        · have h : G.toList = nVrfy := hGl
          exact ⟨by rw [h]; rfl, by rw [h]; rfl, by rw [h]; rfl, by rw [h]; rfl, by rw [h]; rfl, by rw [h]; rfl, by rw [h]; rfl⟩)
      have HGN : RowKit.Hid (bs N = G) := Lib.hid (by rw [← HG.out, HNN.out])
      have hR : bhd 32 s.data.toList = [] := by have h := congrArg (fun x : ByteArray => x.data.toList) HRS.out; simp only [bs_data] at h; exact h
      have HV : RowKit.Hid (cmdV (cmdOf N (vrfyM (bhd 32 s.data.toList))) = .tuple #[.agg (cells3 { data := #[] } { data := #[] } 0), .int .i64 501]) := Lib.hid (by rw [vrfyM, if_pos hR]; rfl)
      clear hR
      rcases HF.out with ⟨qHelo, qEhlo, qData, qRset, qQuit, qNoop, qVrfy⟩
      all_goals
        go_wp2_with fail
        refine CG.out.mono ?_
        rintro e w1 ⟨rfl, hb1⟩
        have HB1 := Lib.hid (HB.out.trans (hb1.mono HB.out.size))
        have S0 := Lib.hid (HR0.out.keep HR0.out.lt hb1)
        have S1 := Lib.hid (HR1.out.keep HR1.out.lt hb1)
        have hb2 := (Below.refl w1.heap.size w1).alloc (Nat.le_refl _) (.cells #[.string G, .string { data := #[] }, .int .i64 (-1)] 58)
        have T0 := Lib.hid (S0.out.keep S0.out.lt hb2)
        have T1 := Lib.hid (S1.out.keep S1.out.lt hb2)
        have T2 := Lib.hid (row3_new w1 G { data := #[] } (-1))
        have HB2 := Lib.hid (HB1.out.trans (hb2.mono HB1.out.size))
        have HLT : RowKit.Hid (w.heap.size < w1.heap.size ∧ w.heap.size + 1 < w1.heap.size) := Lib.hid ⟨S0.out.lt, S1.out.lt⟩
        clear hb1 hb2 CG
        go_wp2_with (first | (refine step_load (by rfl) (.tmp 4) (by rfl) (w.heap.size + 1) _ _ _ (by rfl) T1.out ?_) | (refine step_row (by rfl) (.tmp 2) (.tmp 65) (by rfl) w.heap.size { data := #[] } { data := #[] } 0 (by rfl) (by rfl) _ _ _ T0.out ?_))
        (try simp only [Exit.inBlock, Exit.then])
        refine bodyPost_ret (ret_row (fn := Tryz.f25) (p := 2) (u := 3) rfl _ _ w.heap.size { data := #[] } { data := #[] } 0 rfl (T0.out.set _ _ _)) rfl ?_
        exact ⟨by rw [HV.out]; rfl, below_setRow HB2.out (Nat.le_refl _) _⟩
end Go.Proofs.YtcjljldknekhiaaGreatDoor.Ad
