/-
  What the document's 'Crash' does.
-/
import Derived.Test.YtgjkocjgkbjciaaRefH
namespace Go.Proofs.Ytgjkocjgkbjciaa.Fs
open Go.RowKit Go.Maps
set_option linter.unusedVariables false
set_option linter.unusedSimpArgs false


set_option maxHeartbeats 8000000 in
set_option maxRecDepth 100000 in
theorem refCrashB (r : Nat) (T : Nat → Prop) (s : St) (dirs : Int) (M : Nat) (w : World) (h : Ref w T r s) :
    Calls Try.prog 33 #[.pointer (some ⟨r, 0, none⟩), .int .i64 dirs, .int .i64 (M : Int)] w (CrashedR w T r (crashR s dirs (M : Int))) := by
  have HGd := Lib.hid (crashR_good h.2.1 dirs (M : Int))
  have HRd := Lib.hid (crashR_rising h.2.2 dirs (M : Int))
  obtain ⟨⟨vs, vl, vf, fl, hp⟩, hG, hRi⟩ := h
  obtain ⟨xl, cl, rfl, hcl, _⟩ := ownsRow_shape hp.loose.1
  have c0 := hp.fs.cell 0
  have c1 := hp.fs.cell 1
  have f1 := hp.fs.frozen 1
  have hlt := hp.fs.lt
  simp at c0 c1
  obtain ⟨L, hL⟩ : ∃ L, L = s.loose.length := ⟨_, rfl⟩
  rw [← hL] at c1 hcl
  have HL := Lib.hid hL
  have HP := Lib.hid hp
  have HG := Lib.hid hG
  have HRi := Lib.hid hRi
  have hbk := hG.bulk
  have hLl : L ≤ 1000000 := by unfold St.bulk at hbk; omega
  clear hp hG hRi hL hbk
  by_cases hd : dirs < 0
  · by_cases h0 : (0 : Int) < (L : Int)
    · obtain ⟨s1, s2⟩ := cut_preT 28 71 Try.underlying28 info71 xl L cl 0 (by omega)
      go_enter Try.func33, Try.ntmps33
      have HPc : Hid (RP (w.setCell ⟨r, 1, none⟩ (.slice xl 0 cl)) T r (cutS s 0) vs (.slice xl 0 cl) vf fl) := HP.out.cut (by have := HL.out; omega)
      have HGc : Hid (Good (cutS s 0)) := cut_good HG.out 0
      have HKc : Hid (Keep (· = r) w (w.setCell ⟨r, 1, none⟩ (.slice xl 0 cl))) := keep_put _ _
      have cD := refDir r T (cutS s 0) (w.setCell ⟨r, 1, none⟩ (.slice xl 0 cl)) ⟨⟨_, _, _, _, HPc.out⟩, HGc.out, HRi.out⟩
      go_wp2_with fail
      refine cD.mono ?_
      rintro e w3 ⟨du, rfl, hR3, k3⟩
      have HR3 := Lib.hid hR3
      have HK3 := Lib.hid k3
      obtain ⟨xu, cu, hu, _, _⟩ := ownsRow_shape hR3.1
      obtain ⟨EE, hEE⟩ : ∃ EE, EE = (ents (cutS s 0).now).length := ⟨_, rfl⟩
      rw [← hEE] at hu
      subst hu
      have hA3 := HPc.out.fs.keep k3 (fun h => h)
      have d0 := hA3.cell 0
      have d1 := hA3.cell 1
      have g0 := hA3.frozen 0
      have g1 := hA3.frozen 1
      have hlt3 := hA3.lt
      simp at d0 d1
      clear hA3 hR3 k3 cD c0 c1 f1 hlt hEE
      go_wp2
      obtain ⟨wq, hwq⟩ : ∃ wq, wq = (w3.setCell ⟨r, 0, none⟩ (.slice xu EE cu)).setCell ⟨r, 1, none⟩ (.slice none 0 0) := ⟨_, rfl⟩
      rw [← hwq]
      obtain ⟨hpq, kq⟩ := HPc.out.settle HK3.out HR3.out
      rw [← hwq] at hpq kq
      obtain ⟨t, ht⟩ : ∃ t : St, t = { cutS s 0 with sure := (cutS s 0).now, loose := [] } := ⟨_, rfl⟩
      rw [← ht] at hpq
      have hszq : wq.heap.size = w3.heap.size := by rw [hwq]; simp [World.setCell]
      have HTq := Lib.hid (show t.files = s.files ∧ t.sure = (cutS s 0).now ∧ t.loose = [] ∧ t.room = s.room from by rw [ht]; exact ⟨rfl, rfl, rfl, rfl⟩)
      have hGt : ∀ x ∈ t.files, x.sure ≤ x.bytes.length ∧ x.bytes.length ≤ 16777216 := fun x hx => ⟨HG.out.sure x (by rw [HTq.out.1] at hx; exact hx), HG.out.len x (by rw [HTq.out.1] at hx; exact hx)⟩
      have HGt := Lib.hid hGt
      obtain ⟨N, hN⟩ : ∃ N, N = t.files.length := ⟨_, rfl⟩
      have hNl : N ≤ 1000000 := by have h1 := HG.out.bulk; unfold St.bulk at h1; rw [hN, HTq.out.1]; omega
      have HN := Lib.hid hN
      have HKq : Hid (Keep T w wq) := ((HKc.out.mono (T := T) (fun b _ e => by rw [e]; exact HPc.out.inT)).trans (HK3.out.mono (T := T) (fun _ _ h => h.elim)) (fun _ _ h => h)).trans (kq.mono (T := T) (fun b _ e => by rw [e]; exact HPc.out.inT)) (fun _ _ h => h)
      have HPq : Hid (RP wq (Up T w wq) r t (.slice xu EE cu) (.slice none 0 0) vf fl) := hpq.mono (fun b _ h => by
        have h1 := HKc.out.size
        have h2 := HK3.out.size
        rcases h with h | ⟨h3, h4⟩
        · exact .inl h
        · exact .inr ⟨by omega, by omega⟩)
      clear hpq kq hwq hszq hGt ht hN d0 d1 g0 g1 hlt3 HR3 HK3
      obtain ⟨xf, cf, hvf, hcf, _⟩ := ownsRow_shape HPq.out.files.1
      rw [← HN.out] at hvf hcf
      subst hvf
      go_loopw [6, 7] (fun z _ wr => ∃ i : Nat, i ≤ N ∧ z = .int .i64 (i : Int) ∧ Hid (∃ fl, RP wr (Up T w wr) r (kfS t M i) (.slice xu EE cu) (.slice none 0 0) (.slice xf N cf) fl) ∧ Hid (Keep T w wr)) (fun z _ _ => N - (intOf z).toNat)
      case atStart => exact ⟨0, by omega, rfl, ⟨fl, by unfold kfS; rw [kf_zero]; exact HPq.out⟩, HKq.out⟩
      case round =>
        obtain ⟨i, hi, rfl, HX, HKr⟩ := hrel
        obtain ⟨fl, hpr⟩ := HX.out
        have HPr := Lib.hid hpr
        have f2 := hpr.fs.cell 2
        simp at f2
        by_cases h8 : (i : Int) < (N : Int)
        · have hil : i < t.files.length := by have := HN.out; omega
          obtain ⟨v, hv, hO⟩ := hpr.fat (i := i) (by show i < (kf t.files M i).length; rw [kf_length]; exact hil)
          rw [kfS_file hil] at hv hO
          obtain ⟨g, cap, hvf, hnc, hgT, ⟨cs, hat⟩, hcell⟩ := row_cells hpr.files (by show 0 < (kf t.files M i).length; rw [kf_length]; omega)
          injection hvf with hxf _ _
          subst hxf
          have hr0 := hcell _ _ (fileCells_at hv).1
          have hr1 := hcell _ _ (fileCells_at hv).2
          obtain ⟨y, cy, hvy, _⟩ := hO.shape
          have hXm := HGt.out _ (file_mem hil)
          simp only at hr0 hr1
          rw [hvy] at hv hO hr0
          obtain ⟨X, hX⟩ : ∃ X, X = t.file i := ⟨_, rfl⟩
          rw [← hX] at hv hO hr0 hr1 hXm
          have HXe := Lib.hid hX
          obtain ⟨B, hB2⟩ : ∃ B, B = X.bytes.length := ⟨_, rfl⟩
          obtain ⟨Z, hZ⟩ : ∃ Z, Z = X.sure := ⟨_, rfl⟩
          rw [← hB2] at hv hO hr0 hXm
          rw [← hZ] at hr1 hXm
          have hZB := hXm.1
          have hBm := hXm.2
          have hcy := hO.cap_le
          have HV2 := Lib.hid hv
          have HBl := Lib.hid hB2
          have HZl := Lib.hid hZ
          have HOw := Lib.hid hO
          have HAT := Lib.hid hat
          have hgl := hat.lt
          have HIL := Lib.hid hil
          clear hv hO hat hcell hX hB2 hZ hil hXm hpr HX hvy hnc hgT
          by_cases hmore : ((B : Int) - (Z : Int)) < (M : Int)
          · have hq : min M (B - Z) = B - Z := by omega
            go_wp2
            have HQQ := Lib.hid hq
            have HVV := Lib.hid hZB
            clear hq hmore
            obtain ⟨s1, s2⟩ := cut_preT 32 5 Try.underlying32 info5 y B cy B (by omega)
            refine wp_region_noPanic ?_
            refine wp_region_held_drew (S := fun w' => w'.cell? ⟨r, 2, none⟩ = some (.slice (some ⟨g, 0, none⟩) N cf)) (by kernel_rfl) f2 (fun hHeld => ?_)
            refine wpAnyH_take (i := 0) (v := ?_) rfl (by kernel_rfl) (by kernel_rfl) (by kernel_rfl) (fun _ _ _ h => h) (Or.inl ⟨by rfl, ?_⟩) (by assumption) ?_
            rotate_left
            · (intro wS hSw; (try dsimp only at hSw); (try simp only [List.getElem_toArray, List.getElem_cons_succ, List.getElem_cons_zero]); go_simp; try (with_reducible rfl))
            try simp only [Act.put, List.getElem_toArray, List.getElem_cons_succ, List.getElem_cons_zero, List.setIfInBounds_toArray, List.set_cons_zero, List.set_cons_succ]
            refine wpAnyH_take (i := 1) (v := ?_) rfl (by kernel_rfl) (by kernel_rfl) (by kernel_rfl) (fun _ _ _ h => h) (Or.inl ⟨by rfl, ?_⟩) (by assumption) ?_
            rotate_left
            · (intro wS hSw; (try dsimp only at hSw); (try simp only [List.getElem_toArray, List.getElem_cons_succ, List.getElem_cons_zero]); go_simp; try (with_reducible rfl))
            try simp only [Act.put, List.getElem_toArray, List.getElem_cons_succ, List.getElem_cons_zero, List.setIfInBounds_toArray, List.set_cons_zero, List.set_cons_succ]
            refine wpAnyH_take (i := 2) (v := ?_) rfl (by kernel_rfl) (by kernel_rfl) (by kernel_rfl) (fun _ _ _ h => h) (Or.inl ⟨by rfl, ?_⟩) (by assumption) ?_
            rotate_left
            · (intro wS hSw; (try dsimp only at hSw); (try simp only [List.getElem_toArray, List.getElem_cons_succ, List.getElem_cons_zero]); go_simp; try (with_reducible rfl))
            try simp only [Act.put, List.getElem_toArray, List.getElem_cons_succ, List.getElem_cons_zero, List.setIfInBounds_toArray, List.set_cons_zero, List.set_cons_succ]
            refine wpAnyH_take (i := 3) (v := ?_) rfl (by kernel_rfl) (by kernel_rfl) (by kernel_rfl) (fun _ _ _ h => h) (Or.inl ⟨by rfl, ?_⟩) (by assumption) ?_
            rotate_left
            · (intro wS hSw; (try dsimp only at hSw); (try simp only [List.getElem_toArray, List.getElem_cons_succ, List.getElem_cons_zero]); go_simp; try (with_reducible rfl))
            try simp only [Act.put, List.getElem_toArray, List.getElem_cons_succ, List.getElem_cons_zero, List.setIfInBounds_toArray, List.set_cons_zero, List.set_cons_succ]
            refine wpAnyH_take (i := 4) (v := ?_) rfl (by kernel_rfl) (by kernel_rfl) (by kernel_rfl) (fun _ _ _ h => h) (Or.inl ⟨by rfl, ?_⟩) (by assumption) ?_
            rotate_left
            · (intro wS hSw; (try dsimp only at hSw); (try simp only [List.getElem_toArray, List.getElem_cons_succ, List.getElem_cons_zero]); go_simp; try (with_reducible rfl))
            try simp only [Act.put, List.getElem_toArray, List.getElem_cons_succ, List.getElem_cons_zero, List.setIfInBounds_toArray, List.set_cons_zero, List.set_cons_succ]
            refine wpAnyH_take (i := 6) (v := ?_) rfl (by kernel_rfl) (by kernel_rfl) (by kernel_rfl) (fun _ _ _ h => h) (Or.inl ⟨by rfl, ?_⟩) (by assumption) ?_
            rotate_left
            · (intro wS hSw; (try dsimp only at hSw); (try simp only [List.getElem_toArray, List.getElem_cons_succ, List.getElem_cons_zero]); go_simp; try (with_reducible rfl))
            try simp only [Act.put, List.getElem_toArray, List.getElem_cons_succ, List.getElem_cons_zero, List.setIfInBounds_toArray, List.set_cons_zero, List.set_cons_succ]
            refine wpAnyH_take (i := 7) (v := ?_) rfl (by kernel_rfl) (by kernel_rfl) (by kernel_rfl) (fun _ _ _ h => h) (Or.inl ⟨by rfl, ?_⟩) (by assumption) ?_
            rotate_left
            · (intro wS hSw; (try dsimp only at hSw); (try simp only [List.getElem_toArray, List.getElem_cons_succ, List.getElem_cons_zero]); go_simp; try (with_reducible rfl))
            try simp only [Act.put, List.getElem_toArray, List.getElem_cons_succ, List.getElem_cons_zero, List.setIfInBounds_toArray, List.set_cons_zero, List.set_cons_succ]
            refine wpAnyH_take (i := 8) (v := ?_) rfl (by kernel_rfl) (by kernel_rfl) (by kernel_rfl) (fun _ _ _ h => h) (Or.inl ⟨by rfl, ?_⟩) (by assumption) ?_
            rotate_left
            · (intro wS hSw; (try dsimp only at hSw); (try simp only [List.getElem_toArray, List.getElem_cons_succ, List.getElem_cons_zero]); go_simp; try (with_reducible rfl))
            try simp only [Act.put, List.getElem_toArray, List.getElem_cons_succ, List.getElem_cons_zero, List.setIfInBounds_toArray, List.set_cons_zero, List.set_cons_succ]
            refine wpAnyH_take (i := 9) (v := ?_) rfl (by kernel_rfl) (by kernel_rfl) (by kernel_rfl) (fun _ _ _ h => h) (Or.inl ⟨by rfl, ?_⟩) (by assumption) ?_
            rotate_left
            · (intro wS hSw; (try dsimp only at hSw); (try simp only [List.getElem_toArray, List.getElem_cons_succ, List.getElem_cons_zero]); go_simp; try (with_reducible rfl))
            try simp only [Act.put, List.getElem_toArray, List.getElem_cons_succ, List.getElem_cons_zero, List.setIfInBounds_toArray, List.set_cons_zero, List.set_cons_succ]
            refine wpAnyH_take (i := 10) (v := ?_) rfl (by kernel_rfl) (by kernel_rfl) (by kernel_rfl) (fun _ _ _ h => h) (Or.inl ⟨by rfl, ?_⟩) (by assumption) ?_
            rotate_left
            · (intro wS hSw; (try dsimp only at hSw); (try simp only [List.getElem_toArray, List.getElem_cons_succ, List.getElem_cons_zero]); go_simp; try (with_reducible rfl))
            try simp only [Act.put, List.getElem_toArray, List.getElem_cons_succ, List.getElem_cons_zero, List.setIfInBounds_toArray, List.set_cons_zero, List.set_cons_succ]
            refine wpAnyH_take (i := 11) (v := ?_) rfl (by kernel_rfl) (by kernel_rfl) (by kernel_rfl) (fun _ _ _ h => h) (Or.inl ⟨by rfl, ?_⟩) (by assumption) ?_
            rotate_left
            · (intro wS hSw; (try dsimp only at hSw); (try simp only [List.getElem_toArray, List.getElem_cons_succ, List.getElem_cons_zero]); go_simp; try (with_reducible rfl))
            try simp only [Act.put, List.getElem_toArray, List.getElem_cons_succ, List.getElem_cons_zero, List.setIfInBounds_toArray, List.set_cons_zero, List.set_cons_succ]
            refine wpAnyH_take (i := 12) (v := ?_) rfl (by kernel_rfl) (by kernel_rfl) (by kernel_rfl) (fun _ _ _ h => h) (Or.inl ⟨by rfl, ?_⟩) (by assumption) ?_
            rotate_left
            · (intro wS hSw; (try dsimp only at hSw); (try simp only [List.getElem_toArray, List.getElem_cons_succ, List.getElem_cons_zero]); go_simp; try (with_reducible rfl))
            try simp only [Act.put, List.getElem_toArray, List.getElem_cons_succ, List.getElem_cons_zero, List.setIfInBounds_toArray, List.set_cons_zero, List.set_cons_succ]
            refine wpAnyH_take (i := 14) (v := ?_) rfl (by kernel_rfl) (by kernel_rfl) (by kernel_rfl) (fun _ _ _ h => h) (Or.inl ⟨by rfl, ?_⟩) (by assumption) ?_
            rotate_left
            · (intro wS hSw; (try dsimp only at hSw); (try simp only [List.getElem_toArray, List.getElem_cons_succ, List.getElem_cons_zero]); go_simp; try (with_reducible rfl))
            try simp only [Act.put, List.getElem_toArray, List.getElem_cons_succ, List.getElem_cons_zero, List.setIfInBounds_toArray, List.set_cons_zero, List.set_cons_succ]
            refine wpAnyH_take (i := 17) (v := ?_) rfl (by kernel_rfl) (by kernel_rfl) (by kernel_rfl) (fun _ _ _ h => h) (Or.inl ⟨by rfl, ?_⟩) (by assumption) ?_
            rotate_left
            · (intro wS hSw; (try dsimp only at hSw); (try simp only [List.getElem_toArray, List.getElem_cons_succ, List.getElem_cons_zero]); go_simp; try (with_reducible rfl))
            try simp only [Act.put, List.getElem_toArray, List.getElem_cons_succ, List.getElem_cons_zero, List.setIfInBounds_toArray, List.set_cons_zero, List.set_cons_succ]
            have hr0a : ((wr.alloc (.cells #[] 5)).drew).cell? ⟨g, i * 2, none⟩ = some (.slice y B cy) := ((Keep.refl (fun _ => False) wr).alloc (.cells #[] 5)).drew.cell hr0 (fun h => h)
            have hr0d : wr.drew.cell? ⟨g, i * 2, none⟩ = some (.slice y B cy) := hr0
            have f2a : ((wr.alloc (.cells #[] 5)).drew).cell? ⟨r, 2, none⟩ = some (.slice (some ⟨g, 0, none⟩) N cf) := ((Keep.refl (fun _ => False) wr).alloc (.cells #[] 5)).drew.cell f2 (fun h => h)
            have hln : (X.bytes.take B).length = B := by rw [List.length_take, ← HBl.out]; omega
            obtain ⟨y4, c4, w4, hra, hOa, ka, hNa⟩ := run_append_bytes 32 ((wr.alloc (.cells #[] 5)).drew) (.slice (some ⟨wr.heap.size, 0, none⟩) 0 0) [] (empty_row wr) (fun _ => True) y B cy (X.bytes.take B) hln (((HOw.out.bytes.take B).mono (fun _ _ _ => trivial)).quiet ((Keep.refl (fun _ => False) wr).alloc (.cells #[] 5)).drew) (by simp only [List.length_nil]; omega)
            simp only [List.length_nil, Nat.zero_add, List.nil_append] at hra hOa hNa
            have HK4 : Hid (Keep (fun _ => False) wr w4) := ((Keep.refl (fun _ => False) wr).alloc (.cells #[] 5)).drew.trans ka (fun b hb e => by simp [Value.ownBlock] at e; omega)
            have HNB4 : Hid (∀ b, (Value.slice y4 B c4).ownBlock = some b → wr.heap.size ≤ b) := fun b hb => by
              rcases hNa b hb with h1 | h1
              · simp [Value.ownBlock] at h1; omega
              · simp at h1; omega
            have HO4 := Lib.hid hOa
            have f24 := HK4.out.cell f2 (fun h => h)
            have hr04 := HK4.out.cell hr0 (fun h => h)
            have hr14 := HK4.out.cell hr1 (fun h => h)
            have hat4 := HAT.out.keep HK4.out (fun h => h)
            have hfr4 := hat4.frozen (i * 2)
            have hfr5 := hat4.frozen (i * 2 + 1)
            have hgr : g ≠ r := fun e => At.ne HAT.out HPr.out.fs (by decide) e
            have hlt4 := hat4.lt
            obtain ⟨w5, hw5⟩ : ∃ w5, w5 = (w4.setCell ⟨g, i * 2, none⟩ (.slice y4 B c4)).setCell ⟨g, i * 2 + 1, none⟩ (.int .i64 (B : Int)) := ⟨_, rfl⟩
            have HK5 : Hid (Keep (· = g) w4 w5) := by rw [hw5]; exact ((Keep.refl (· = g) w4).setCell (p := ⟨g, i * 2, none⟩) (fun _ => rfl) _).setCell (p := ⟨g, i * 2 + 1, none⟩) (fun _ => rfl) _
            have f25 := HK5.out.cell f24 (fun e => hgr e.symm)
            have HW5 := Lib.hid hw5
            clear hOa ka hNa hat4 hw5
            refine wpAnyH_ready (rs := [5, 13]) (by kernel_rfl) (by simp) ?_
            refine AllReadyH.cons rfl (fun K hK => ?_) (AllReadyH.cons rfl (fun K hK => ?_) AllReadyH.nil)
            · go_simp
              refine hK.out _ _ f2a (fun hHeld => ?_)
              clear hK K
              try simp only [Act.put, List.getElem_toArray, List.getElem_cons_succ, List.getElem_cons_zero, List.setIfInBounds_toArray, List.set_cons_zero, List.set_cons_succ]
              refine wpAnyH_ready (rs := [13]) (by kernel_rfl) (by simp) ?_
              refine AllReadyH.cons rfl (fun K hK => ?_) AllReadyH.nil
              go_simp
              refine hK.out _ _ f2a (fun hHeld => ?_)
              clear hK K
              try simp only [Act.put, List.getElem_toArray, List.getElem_cons_succ, List.getElem_cons_zero, List.setIfInBounds_toArray, List.set_cons_zero, List.set_cons_succ]
              refine wpAnyH_take (i := 15) (v := ?_) rfl (by kernel_rfl) (by kernel_rfl) (by kernel_rfl) (fun _ _ _ h => h) (Or.inl ⟨by rfl, ?_⟩) (by assumption) ?_
              rotate_left
              · (intro wS hSw; (try dsimp only at hSw); (try simp only [List.getElem_toArray, List.getElem_cons_succ, List.getElem_cons_zero]); go_simp; try (with_reducible rfl))
              try simp only [Act.put, List.getElem_toArray, List.getElem_cons_succ, List.getElem_cons_zero, List.setIfInBounds_toArray, List.set_cons_zero, List.set_cons_succ]
              refine wpAnyH_ready (rs := [16]) (by kernel_rfl) (by simp) ?_
              refine AllReadyH.cons rfl (fun K hK => ?_) AllReadyH.nil
              refine wp_append_run (by rfl) (by rfl) (by rfl) hra ?_
              refine hK.out _ _ f24 (fun hHeld => ?_)
              clear hK K
              try simp only [Act.put, List.getElem_toArray, List.getElem_cons_succ, List.getElem_cons_zero, List.setIfInBounds_toArray, List.set_cons_zero, List.set_cons_succ]
              refine wpAnyH_take (i := 18) (v := ?_) rfl (by kernel_rfl) (by kernel_rfl) (by kernel_rfl) (fun _ _ _ h => h) (Or.inl ⟨by rfl, ?_⟩) (by assumption) ?_
              rotate_left
              · (intro wS hSw; (try dsimp only at hSw); (try simp only [List.getElem_toArray, List.getElem_cons_succ, List.getElem_cons_zero]); go_simp; try (with_reducible rfl))
              try simp only [Act.put, List.getElem_toArray, List.getElem_cons_succ, List.getElem_cons_zero, List.setIfInBounds_toArray, List.set_cons_zero, List.set_cons_succ]
              refine wpAnyH_take (i := 19) (v := ?_) rfl (by kernel_rfl) (by kernel_rfl) (by kernel_rfl) (fun _ _ _ h => h) (Or.inl ⟨by rfl, ?_⟩) (by assumption) ?_
              rotate_left
              · (intro wS hSw; (try dsimp only at hSw); (try simp only [List.getElem_toArray, List.getElem_cons_succ, List.getElem_cons_zero]); go_simp; try (with_reducible rfl))
              try simp only [Act.put, List.getElem_toArray, List.getElem_cons_succ, List.getElem_cons_zero, List.setIfInBounds_toArray, List.set_cons_zero, List.set_cons_succ]
              refine wpAnyH_ready (rs := [20]) (by kernel_rfl) (by simp) ?_
              refine AllReadyH.cons rfl (fun K hK => ?_) AllReadyH.nil
              go_simp
              rw [← HW5.out]
              refine hK.out _ _ f25 (fun hHeld => ?_)
              clear hK K
              try simp only [Act.put, List.getElem_toArray, List.getElem_cons_succ, List.getElem_cons_zero, List.setIfInBounds_toArray, List.set_cons_zero, List.set_cons_succ]
              refine wpAnyH_done (by kernel_rfl) ?_ _
              refine NoPanic.normal ?_
              go_wp2
              go_roundw
              case rel =>
                have h4 := HPr.out.keep HK4.out (fun _ _ h => h)
                have hN' : (kfS t M i).files.length = N := by show (kf t.files M i).length = N; rw [kf_length, HN.out]
                have hfil := h4.files
                rw [hN'] at hfil
                have hrow := (hfil.put (x := none) (i * 2) (.slice y4 B c4)).put (x := none) (i * 2 + 1) (.int .i64 (B : Int))
                rw [← HW5.out] at hrow
                have hkf : keepF X M = ⟨X.bytes.take B, B⟩ := by
                  unfold keepF
                  rw [← HBl.out, ← HZl.out, HQQ.out, show Z + (B - Z) = B by have := HVV.out; omega]
                have hfc : ((fileCells fl).set (i * 2) (.slice y4 B c4)).set (i * 2 + 1) (.int .i64 (B : Int)) = fileCells (fl.set i (.slice y4 B c4, keepF X M)) := by rw [fileCells_set HV2.out, hkf]
                rw [hfc] at hrow
                have hsz : w5.heap.size = w4.heap.size := by rw [HW5.out]; simp [World.setCell]
                have hw0 := HKr.out.size
                have hw4 := HK4.out.size
                have hO5 : Own w5 (.slice y4 B c4) (keepF X M).bytes := by
                  rw [hkf]
                  exact HO4.out.keep HK5.out (fun b hb e => HO4.out.ne (HAT.out.keep HK4.out (fun h => h)) (by decide) (e ▸ hb))
                have hst := h4.store (w' := w5) (T' := Up T w w5) (q := (.slice y4 B c4, keepF X M)) HV2.out (fun b _ h => Up.more (by omega) h) (by rw [hN']; exact hrow.mono (fun b _ h => Up.more (by omega) h)) HK5.out hO5 (fun b hb => .inr ⟨by have := HNB4.out b hb; omega, hO5.lt b hb⟩)
                rw [HXe.out, kfS_set HIL.out] at hst
                refine ⟨i + 1, by omega, by go_num, ⟨_, hst⟩, ?_⟩
                exact (HKr.out.trans (HK4.out.mono (T := T) (fun _ _ h => h.elim)) (fun _ _ h => h)).trans HK5.out (fun b hb e => by
                  rcases HPr.out.files.2 g rfl with h | ⟨h, _⟩
                  · rw [e]; exact h
                  · omega)
              case measure => simp [intOf]; omega
            · go_simp
              refine hK.out _ _ f2 (fun hHeld => ?_)
              clear hK K
              try simp only [Act.put, List.getElem_toArray, List.getElem_cons_succ, List.getElem_cons_zero, List.setIfInBounds_toArray, List.set_cons_zero, List.set_cons_succ]
              refine wpAnyH_take (i := 15) (v := ?_) rfl (by kernel_rfl) (by kernel_rfl) (by kernel_rfl) (fun _ _ _ h => h) (Or.inl ⟨by rfl, ?_⟩) (by assumption) ?_
              rotate_left
              · (intro wS hSw; (try dsimp only at hSw); (try simp only [List.getElem_toArray, List.getElem_cons_succ, List.getElem_cons_zero]); go_simp; try (with_reducible rfl))
              try simp only [Act.put, List.getElem_toArray, List.getElem_cons_succ, List.getElem_cons_zero, List.setIfInBounds_toArray, List.set_cons_zero, List.set_cons_succ]
              refine wpAnyH_ready (rs := [5]) (by kernel_rfl) (by simp) ?_
              refine AllReadyH.cons rfl (fun K hK => ?_) AllReadyH.nil
              go_simp
              refine hK.out _ _ f2a (fun hHeld => ?_)
              clear hK K
              try simp only [Act.put, List.getElem_toArray, List.getElem_cons_succ, List.getElem_cons_zero, List.setIfInBounds_toArray, List.set_cons_zero, List.set_cons_succ]
              refine wpAnyH_ready (rs := [16]) (by kernel_rfl) (by simp) ?_
              refine AllReadyH.cons rfl (fun K hK => ?_) AllReadyH.nil
              refine wp_append_run (by rfl) (by rfl) (by rfl) hra ?_
              refine hK.out _ _ f24 (fun hHeld => ?_)
              clear hK K
              try simp only [Act.put, List.getElem_toArray, List.getElem_cons_succ, List.getElem_cons_zero, List.setIfInBounds_toArray, List.set_cons_zero, List.set_cons_succ]
              refine wpAnyH_take (i := 18) (v := ?_) rfl (by kernel_rfl) (by kernel_rfl) (by kernel_rfl) (fun _ _ _ h => h) (Or.inl ⟨by rfl, ?_⟩) (by assumption) ?_
              rotate_left
              · (intro wS hSw; (try dsimp only at hSw); (try simp only [List.getElem_toArray, List.getElem_cons_succ, List.getElem_cons_zero]); go_simp; try (with_reducible rfl))
              try simp only [Act.put, List.getElem_toArray, List.getElem_cons_succ, List.getElem_cons_zero, List.setIfInBounds_toArray, List.set_cons_zero, List.set_cons_succ]
              refine wpAnyH_take (i := 19) (v := ?_) rfl (by kernel_rfl) (by kernel_rfl) (by kernel_rfl) (fun _ _ _ h => h) (Or.inl ⟨by rfl, ?_⟩) (by assumption) ?_
              rotate_left
              · (intro wS hSw; (try dsimp only at hSw); (try simp only [List.getElem_toArray, List.getElem_cons_succ, List.getElem_cons_zero]); go_simp; try (with_reducible rfl))
              try simp only [Act.put, List.getElem_toArray, List.getElem_cons_succ, List.getElem_cons_zero, List.setIfInBounds_toArray, List.set_cons_zero, List.set_cons_succ]
              refine wpAnyH_ready (rs := [20]) (by kernel_rfl) (by simp) ?_
              refine AllReadyH.cons rfl (fun K hK => ?_) AllReadyH.nil
              go_simp
              rw [← HW5.out]
              refine hK.out _ _ f25 (fun hHeld => ?_)
              clear hK K
              try simp only [Act.put, List.getElem_toArray, List.getElem_cons_succ, List.getElem_cons_zero, List.setIfInBounds_toArray, List.set_cons_zero, List.set_cons_succ]
              refine wpAnyH_done (by kernel_rfl) ?_ _
              refine NoPanic.normal ?_
              go_wp2
              go_roundw
              case rel =>
                have h4 := HPr.out.keep HK4.out (fun _ _ h => h)
                have hN' : (kfS t M i).files.length = N := by show (kf t.files M i).length = N; rw [kf_length, HN.out]
                have hfil := h4.files
                rw [hN'] at hfil
                have hrow := (hfil.put (x := none) (i * 2) (.slice y4 B c4)).put (x := none) (i * 2 + 1) (.int .i64 (B : Int))
                rw [← HW5.out] at hrow
                have hkf : keepF X M = ⟨X.bytes.take B, B⟩ := by
                  unfold keepF
                  rw [← HBl.out, ← HZl.out, HQQ.out, show Z + (B - Z) = B by have := HVV.out; omega]
                have hfc : ((fileCells fl).set (i * 2) (.slice y4 B c4)).set (i * 2 + 1) (.int .i64 (B : Int)) = fileCells (fl.set i (.slice y4 B c4, keepF X M)) := by rw [fileCells_set HV2.out, hkf]
                rw [hfc] at hrow
                have hsz : w5.heap.size = w4.heap.size := by rw [HW5.out]; simp [World.setCell]
                have hw0 := HKr.out.size
                have hw4 := HK4.out.size
                have hO5 : Own w5 (.slice y4 B c4) (keepF X M).bytes := by
                  rw [hkf]
                  exact HO4.out.keep HK5.out (fun b hb e => HO4.out.ne (HAT.out.keep HK4.out (fun h => h)) (by decide) (e ▸ hb))
                have hst := h4.store (w' := w5) (T' := Up T w w5) (q := (.slice y4 B c4, keepF X M)) HV2.out (fun b _ h => Up.more (by omega) h) (by rw [hN']; exact hrow.mono (fun b _ h => Up.more (by omega) h)) HK5.out hO5 (fun b hb => .inr ⟨by have := HNB4.out b hb; omega, hO5.lt b hb⟩)
                rw [HXe.out, kfS_set HIL.out] at hst
                refine ⟨i + 1, by omega, by go_num, ⟨_, hst⟩, ?_⟩
                exact (HKr.out.trans (HK4.out.mono (T := T) (fun _ _ h => h.elim)) (fun _ _ h => h)).trans HK5.out (fun b hb e => by
                  rcases HPr.out.files.2 g rfl with h | ⟨h, _⟩
                  · rw [e]; exact h
                  · omega)
              case measure => simp [intOf]; omega
          · have hq : min M (B - Z) = M := by omega
            go_wp2
            have HQQ := Lib.hid hq
            obtain ⟨VV, hVV⟩ : ∃ VV : Nat, VV = Z + M := ⟨_, rfl⟩
            have hNB : VV ≤ B := by omega
            clear hq hmore
            rw [show (Z : Int) + (M : Int) = (VV : Int) by omega]
            have HVV := Lib.hid hVV
            clear hVV
            obtain ⟨s1, s2⟩ := cut_preT 32 5 Try.underlying32 info5 y B cy VV (by omega)
            refine wp_region_noPanic ?_
            refine wp_region_held_drew (S := fun w' => w'.cell? ⟨r, 2, none⟩ = some (.slice (some ⟨g, 0, none⟩) N cf)) (by kernel_rfl) f2 (fun hHeld => ?_)
            refine wpAnyH_take (i := 0) (v := ?_) rfl (by kernel_rfl) (by kernel_rfl) (by kernel_rfl) (fun _ _ _ h => h) (Or.inl ⟨by rfl, ?_⟩) (by assumption) ?_
            rotate_left
            · (intro wS hSw; (try dsimp only at hSw); (try simp only [List.getElem_toArray, List.getElem_cons_succ, List.getElem_cons_zero]); go_simp; try (with_reducible rfl))
            try simp only [Act.put, List.getElem_toArray, List.getElem_cons_succ, List.getElem_cons_zero, List.setIfInBounds_toArray, List.set_cons_zero, List.set_cons_succ]
            refine wpAnyH_take (i := 1) (v := ?_) rfl (by kernel_rfl) (by kernel_rfl) (by kernel_rfl) (fun _ _ _ h => h) (Or.inl ⟨by rfl, ?_⟩) (by assumption) ?_
            rotate_left
            · (intro wS hSw; (try dsimp only at hSw); (try simp only [List.getElem_toArray, List.getElem_cons_succ, List.getElem_cons_zero]); go_simp; try (with_reducible rfl))
            try simp only [Act.put, List.getElem_toArray, List.getElem_cons_succ, List.getElem_cons_zero, List.setIfInBounds_toArray, List.set_cons_zero, List.set_cons_succ]
            refine wpAnyH_take (i := 2) (v := ?_) rfl (by kernel_rfl) (by kernel_rfl) (by kernel_rfl) (fun _ _ _ h => h) (Or.inl ⟨by rfl, ?_⟩) (by assumption) ?_
            rotate_left
            · (intro wS hSw; (try dsimp only at hSw); (try simp only [List.getElem_toArray, List.getElem_cons_succ, List.getElem_cons_zero]); go_simp; try (with_reducible rfl))
            try simp only [Act.put, List.getElem_toArray, List.getElem_cons_succ, List.getElem_cons_zero, List.setIfInBounds_toArray, List.set_cons_zero, List.set_cons_succ]
            refine wpAnyH_take (i := 3) (v := ?_) rfl (by kernel_rfl) (by kernel_rfl) (by kernel_rfl) (fun _ _ _ h => h) (Or.inl ⟨by rfl, ?_⟩) (by assumption) ?_
            rotate_left
            · (intro wS hSw; (try dsimp only at hSw); (try simp only [List.getElem_toArray, List.getElem_cons_succ, List.getElem_cons_zero]); go_simp; try (with_reducible rfl))
            try simp only [Act.put, List.getElem_toArray, List.getElem_cons_succ, List.getElem_cons_zero, List.setIfInBounds_toArray, List.set_cons_zero, List.set_cons_succ]
            refine wpAnyH_take (i := 4) (v := ?_) rfl (by kernel_rfl) (by kernel_rfl) (by kernel_rfl) (fun _ _ _ h => h) (Or.inl ⟨by rfl, ?_⟩) (by assumption) ?_
            rotate_left
            · (intro wS hSw; (try dsimp only at hSw); (try simp only [List.getElem_toArray, List.getElem_cons_succ, List.getElem_cons_zero]); go_simp; try (with_reducible rfl))
            try simp only [Act.put, List.getElem_toArray, List.getElem_cons_succ, List.getElem_cons_zero, List.setIfInBounds_toArray, List.set_cons_zero, List.set_cons_succ]
            refine wpAnyH_take (i := 6) (v := ?_) rfl (by kernel_rfl) (by kernel_rfl) (by kernel_rfl) (fun _ _ _ h => h) (Or.inl ⟨by rfl, ?_⟩) (by assumption) ?_
            rotate_left
            · (intro wS hSw; (try dsimp only at hSw); (try simp only [List.getElem_toArray, List.getElem_cons_succ, List.getElem_cons_zero]); go_simp; try (with_reducible rfl))
            try simp only [Act.put, List.getElem_toArray, List.getElem_cons_succ, List.getElem_cons_zero, List.setIfInBounds_toArray, List.set_cons_zero, List.set_cons_succ]
            refine wpAnyH_take (i := 7) (v := ?_) rfl (by kernel_rfl) (by kernel_rfl) (by kernel_rfl) (fun _ _ _ h => h) (Or.inl ⟨by rfl, ?_⟩) (by assumption) ?_
            rotate_left
            · (intro wS hSw; (try dsimp only at hSw); (try simp only [List.getElem_toArray, List.getElem_cons_succ, List.getElem_cons_zero]); go_simp; try (with_reducible rfl))
            try simp only [Act.put, List.getElem_toArray, List.getElem_cons_succ, List.getElem_cons_zero, List.setIfInBounds_toArray, List.set_cons_zero, List.set_cons_succ]
            refine wpAnyH_take (i := 8) (v := ?_) rfl (by kernel_rfl) (by kernel_rfl) (by kernel_rfl) (fun _ _ _ h => h) (Or.inl ⟨by rfl, ?_⟩) (by assumption) ?_
            rotate_left
            · (intro wS hSw; (try dsimp only at hSw); (try simp only [List.getElem_toArray, List.getElem_cons_succ, List.getElem_cons_zero]); go_simp; try (with_reducible rfl))
            try simp only [Act.put, List.getElem_toArray, List.getElem_cons_succ, List.getElem_cons_zero, List.setIfInBounds_toArray, List.set_cons_zero, List.set_cons_succ]
            refine wpAnyH_take (i := 9) (v := ?_) rfl (by kernel_rfl) (by kernel_rfl) (by kernel_rfl) (fun _ _ _ h => h) (Or.inl ⟨by rfl, ?_⟩) (by assumption) ?_
            rotate_left
            · (intro wS hSw; (try dsimp only at hSw); (try simp only [List.getElem_toArray, List.getElem_cons_succ, List.getElem_cons_zero]); go_simp; try (with_reducible rfl))
            try simp only [Act.put, List.getElem_toArray, List.getElem_cons_succ, List.getElem_cons_zero, List.setIfInBounds_toArray, List.set_cons_zero, List.set_cons_succ]
            refine wpAnyH_take (i := 10) (v := ?_) rfl (by kernel_rfl) (by kernel_rfl) (by kernel_rfl) (fun _ _ _ h => h) (Or.inl ⟨by rfl, ?_⟩) (by assumption) ?_
            rotate_left
            · (intro wS hSw; (try dsimp only at hSw); (try simp only [List.getElem_toArray, List.getElem_cons_succ, List.getElem_cons_zero]); go_simp; try (with_reducible rfl))
            try simp only [Act.put, List.getElem_toArray, List.getElem_cons_succ, List.getElem_cons_zero, List.setIfInBounds_toArray, List.set_cons_zero, List.set_cons_succ]
            refine wpAnyH_take (i := 11) (v := ?_) rfl (by kernel_rfl) (by kernel_rfl) (by kernel_rfl) (fun _ _ _ h => h) (Or.inl ⟨by rfl, ?_⟩) (by assumption) ?_
            rotate_left
            · (intro wS hSw; (try dsimp only at hSw); (try simp only [List.getElem_toArray, List.getElem_cons_succ, List.getElem_cons_zero]); go_simp; try (with_reducible rfl))
            try simp only [Act.put, List.getElem_toArray, List.getElem_cons_succ, List.getElem_cons_zero, List.setIfInBounds_toArray, List.set_cons_zero, List.set_cons_succ]
            refine wpAnyH_take (i := 12) (v := ?_) rfl (by kernel_rfl) (by kernel_rfl) (by kernel_rfl) (fun _ _ _ h => h) (Or.inl ⟨by rfl, ?_⟩) (by assumption) ?_
            rotate_left
            · (intro wS hSw; (try dsimp only at hSw); (try simp only [List.getElem_toArray, List.getElem_cons_succ, List.getElem_cons_zero]); go_simp; try (with_reducible rfl))
            try simp only [Act.put, List.getElem_toArray, List.getElem_cons_succ, List.getElem_cons_zero, List.setIfInBounds_toArray, List.set_cons_zero, List.set_cons_succ]
            refine wpAnyH_take (i := 14) (v := ?_) rfl (by kernel_rfl) (by kernel_rfl) (by kernel_rfl) (fun _ _ _ h => h) (Or.inl ⟨by rfl, ?_⟩) (by assumption) ?_
            rotate_left
            · (intro wS hSw; (try dsimp only at hSw); (try simp only [List.getElem_toArray, List.getElem_cons_succ, List.getElem_cons_zero]); go_simp; try (with_reducible rfl))
            try simp only [Act.put, List.getElem_toArray, List.getElem_cons_succ, List.getElem_cons_zero, List.setIfInBounds_toArray, List.set_cons_zero, List.set_cons_succ]
            refine wpAnyH_take (i := 17) (v := ?_) rfl (by kernel_rfl) (by kernel_rfl) (by kernel_rfl) (fun _ _ _ h => h) (Or.inl ⟨by rfl, ?_⟩) (by assumption) ?_
            rotate_left
            · (intro wS hSw; (try dsimp only at hSw); (try simp only [List.getElem_toArray, List.getElem_cons_succ, List.getElem_cons_zero]); go_simp; try (with_reducible rfl))
            try simp only [Act.put, List.getElem_toArray, List.getElem_cons_succ, List.getElem_cons_zero, List.setIfInBounds_toArray, List.set_cons_zero, List.set_cons_succ]
            have hr0a : ((wr.alloc (.cells #[] 5)).drew).cell? ⟨g, i * 2, none⟩ = some (.slice y B cy) := ((Keep.refl (fun _ => False) wr).alloc (.cells #[] 5)).drew.cell hr0 (fun h => h)
            have hr0d : wr.drew.cell? ⟨g, i * 2, none⟩ = some (.slice y B cy) := hr0
            have f2a : ((wr.alloc (.cells #[] 5)).drew).cell? ⟨r, 2, none⟩ = some (.slice (some ⟨g, 0, none⟩) N cf) := ((Keep.refl (fun _ => False) wr).alloc (.cells #[] 5)).drew.cell f2 (fun h => h)
            have hln : (X.bytes.take VV).length = VV := by rw [List.length_take, ← HBl.out]; omega
            obtain ⟨y4, c4, w4, hra, hOa, ka, hNa⟩ := run_append_bytes 32 ((wr.alloc (.cells #[] 5)).drew) (.slice (some ⟨wr.heap.size, 0, none⟩) 0 0) [] (empty_row wr) (fun _ => True) y VV cy (X.bytes.take VV) hln (((HOw.out.bytes.take VV).mono (fun _ _ _ => trivial)).quiet ((Keep.refl (fun _ => False) wr).alloc (.cells #[] 5)).drew) (by simp only [List.length_nil]; omega)
            simp only [List.length_nil, Nat.zero_add, List.nil_append] at hra hOa hNa
            have HK4 : Hid (Keep (fun _ => False) wr w4) := ((Keep.refl (fun _ => False) wr).alloc (.cells #[] 5)).drew.trans ka (fun b hb e => by simp [Value.ownBlock] at e; omega)
            have HNB4 : Hid (∀ b, (Value.slice y4 VV c4).ownBlock = some b → wr.heap.size ≤ b) := fun b hb => by
              rcases hNa b hb with h1 | h1
              · simp [Value.ownBlock] at h1; omega
              · simp at h1; omega
            have HO4 := Lib.hid hOa
            have f24 := HK4.out.cell f2 (fun h => h)
            have hr04 := HK4.out.cell hr0 (fun h => h)
            have hr14 := HK4.out.cell hr1 (fun h => h)
            have hat4 := HAT.out.keep HK4.out (fun h => h)
            have hfr4 := hat4.frozen (i * 2)
            have hfr5 := hat4.frozen (i * 2 + 1)
            have hgr : g ≠ r := fun e => At.ne HAT.out HPr.out.fs (by decide) e
            have hlt4 := hat4.lt
            obtain ⟨w5, hw5⟩ : ∃ w5, w5 = (w4.setCell ⟨g, i * 2, none⟩ (.slice y4 VV c4)).setCell ⟨g, i * 2 + 1, none⟩ (.int .i64 (VV : Int)) := ⟨_, rfl⟩
            have HK5 : Hid (Keep (· = g) w4 w5) := by rw [hw5]; exact ((Keep.refl (· = g) w4).setCell (p := ⟨g, i * 2, none⟩) (fun _ => rfl) _).setCell (p := ⟨g, i * 2 + 1, none⟩) (fun _ => rfl) _
            have f25 := HK5.out.cell f24 (fun e => hgr e.symm)
            have HW5 := Lib.hid hw5
            clear hOa ka hNa hat4 hw5
            refine wpAnyH_ready (rs := [5, 13]) (by kernel_rfl) (by simp) ?_
            refine AllReadyH.cons rfl (fun K hK => ?_) (AllReadyH.cons rfl (fun K hK => ?_) AllReadyH.nil)
            · go_simp
              refine hK.out _ _ f2a (fun hHeld => ?_)
              clear hK K
              try simp only [Act.put, List.getElem_toArray, List.getElem_cons_succ, List.getElem_cons_zero, List.setIfInBounds_toArray, List.set_cons_zero, List.set_cons_succ]
              refine wpAnyH_ready (rs := [13]) (by kernel_rfl) (by simp) ?_
              refine AllReadyH.cons rfl (fun K hK => ?_) AllReadyH.nil
              go_simp
              refine hK.out _ _ f2a (fun hHeld => ?_)
              clear hK K
              try simp only [Act.put, List.getElem_toArray, List.getElem_cons_succ, List.getElem_cons_zero, List.setIfInBounds_toArray, List.set_cons_zero, List.set_cons_succ]
              refine wpAnyH_take (i := 15) (v := ?_) rfl (by kernel_rfl) (by kernel_rfl) (by kernel_rfl) (fun _ _ _ h => h) (Or.inl ⟨by rfl, ?_⟩) (by assumption) ?_
              rotate_left
              · (intro wS hSw; (try dsimp only at hSw); (try simp only [List.getElem_toArray, List.getElem_cons_succ, List.getElem_cons_zero]); go_simp; try (with_reducible rfl))
              try simp only [Act.put, List.getElem_toArray, List.getElem_cons_succ, List.getElem_cons_zero, List.setIfInBounds_toArray, List.set_cons_zero, List.set_cons_succ]
              refine wpAnyH_ready (rs := [16]) (by kernel_rfl) (by simp) ?_
              refine AllReadyH.cons rfl (fun K hK => ?_) AllReadyH.nil
              refine wp_append_run (by rfl) (by rfl) (by rfl) hra ?_
              refine hK.out _ _ f24 (fun hHeld => ?_)
              clear hK K
              try simp only [Act.put, List.getElem_toArray, List.getElem_cons_succ, List.getElem_cons_zero, List.setIfInBounds_toArray, List.set_cons_zero, List.set_cons_succ]
              refine wpAnyH_take (i := 18) (v := ?_) rfl (by kernel_rfl) (by kernel_rfl) (by kernel_rfl) (fun _ _ _ h => h) (Or.inl ⟨by rfl, ?_⟩) (by assumption) ?_
              rotate_left
              · (intro wS hSw; (try dsimp only at hSw); (try simp only [List.getElem_toArray, List.getElem_cons_succ, List.getElem_cons_zero]); go_simp; try (with_reducible rfl))
              try simp only [Act.put, List.getElem_toArray, List.getElem_cons_succ, List.getElem_cons_zero, List.setIfInBounds_toArray, List.set_cons_zero, List.set_cons_succ]
              refine wpAnyH_take (i := 19) (v := ?_) rfl (by kernel_rfl) (by kernel_rfl) (by kernel_rfl) (fun _ _ _ h => h) (Or.inl ⟨by rfl, ?_⟩) (by assumption) ?_
              rotate_left
              · (intro wS hSw; (try dsimp only at hSw); (try simp only [List.getElem_toArray, List.getElem_cons_succ, List.getElem_cons_zero]); go_simp; try (with_reducible rfl))
              try simp only [Act.put, List.getElem_toArray, List.getElem_cons_succ, List.getElem_cons_zero, List.setIfInBounds_toArray, List.set_cons_zero, List.set_cons_succ]
              refine wpAnyH_ready (rs := [20]) (by kernel_rfl) (by simp) ?_
              refine AllReadyH.cons rfl (fun K hK => ?_) AllReadyH.nil
              go_simp
              rw [← HW5.out]
              refine hK.out _ _ f25 (fun hHeld => ?_)
              clear hK K
              try simp only [Act.put, List.getElem_toArray, List.getElem_cons_succ, List.getElem_cons_zero, List.setIfInBounds_toArray, List.set_cons_zero, List.set_cons_succ]
              refine wpAnyH_done (by kernel_rfl) ?_ _
              refine NoPanic.normal ?_
              go_wp2
              go_roundw
              case rel =>
                have h4 := HPr.out.keep HK4.out (fun _ _ h => h)
                have hN' : (kfS t M i).files.length = N := by show (kf t.files M i).length = N; rw [kf_length, HN.out]
                have hfil := h4.files
                rw [hN'] at hfil
                have hrow := (hfil.put (x := none) (i * 2) (.slice y4 VV c4)).put (x := none) (i * 2 + 1) (.int .i64 (VV : Int))
                rw [← HW5.out] at hrow
                have hkf : keepF X M = ⟨X.bytes.take VV, VV⟩ := by
                  unfold keepF
                  rw [← HBl.out, ← HZl.out, HQQ.out, show Z + M = VV by have := HVV.out; omega]
                have hfc : ((fileCells fl).set (i * 2) (.slice y4 VV c4)).set (i * 2 + 1) (.int .i64 (VV : Int)) = fileCells (fl.set i (.slice y4 VV c4, keepF X M)) := by rw [fileCells_set HV2.out, hkf]
                rw [hfc] at hrow
                have hsz : w5.heap.size = w4.heap.size := by rw [HW5.out]; simp [World.setCell]
                have hw0 := HKr.out.size
                have hw4 := HK4.out.size
                have hO5 : Own w5 (.slice y4 VV c4) (keepF X M).bytes := by
                  rw [hkf]
                  exact HO4.out.keep HK5.out (fun b hb e => HO4.out.ne (HAT.out.keep HK4.out (fun h => h)) (by decide) (e ▸ hb))
                have hst := h4.store (w' := w5) (T' := Up T w w5) (q := (.slice y4 VV c4, keepF X M)) HV2.out (fun b _ h => Up.more (by omega) h) (by rw [hN']; exact hrow.mono (fun b _ h => Up.more (by omega) h)) HK5.out hO5 (fun b hb => .inr ⟨by have := HNB4.out b hb; omega, hO5.lt b hb⟩)
                rw [HXe.out, kfS_set HIL.out] at hst
                refine ⟨i + 1, by omega, by go_num, ⟨_, hst⟩, ?_⟩
                exact (HKr.out.trans (HK4.out.mono (T := T) (fun _ _ h => h.elim)) (fun _ _ h => h)).trans HK5.out (fun b hb e => by
                  rcases HPr.out.files.2 g rfl with h | ⟨h, _⟩
                  · rw [e]; exact h
                  · omega)
              case measure => simp [intOf]; omega
            · go_simp
              refine hK.out _ _ f2 (fun hHeld => ?_)
              clear hK K
              try simp only [Act.put, List.getElem_toArray, List.getElem_cons_succ, List.getElem_cons_zero, List.setIfInBounds_toArray, List.set_cons_zero, List.set_cons_succ]
              refine wpAnyH_take (i := 15) (v := ?_) rfl (by kernel_rfl) (by kernel_rfl) (by kernel_rfl) (fun _ _ _ h => h) (Or.inl ⟨by rfl, ?_⟩) (by assumption) ?_
              rotate_left
              · (intro wS hSw; (try dsimp only at hSw); (try simp only [List.getElem_toArray, List.getElem_cons_succ, List.getElem_cons_zero]); go_simp; try (with_reducible rfl))
              try simp only [Act.put, List.getElem_toArray, List.getElem_cons_succ, List.getElem_cons_zero, List.setIfInBounds_toArray, List.set_cons_zero, List.set_cons_succ]
              refine wpAnyH_ready (rs := [5]) (by kernel_rfl) (by simp) ?_
              refine AllReadyH.cons rfl (fun K hK => ?_) AllReadyH.nil
              go_simp
              refine hK.out _ _ f2a (fun hHeld => ?_)
              clear hK K
              try simp only [Act.put, List.getElem_toArray, List.getElem_cons_succ, List.getElem_cons_zero, List.setIfInBounds_toArray, List.set_cons_zero, List.set_cons_succ]
              refine wpAnyH_ready (rs := [16]) (by kernel_rfl) (by simp) ?_
              refine AllReadyH.cons rfl (fun K hK => ?_) AllReadyH.nil
              refine wp_append_run (by rfl) (by rfl) (by rfl) hra ?_
              refine hK.out _ _ f24 (fun hHeld => ?_)
              clear hK K
              try simp only [Act.put, List.getElem_toArray, List.getElem_cons_succ, List.getElem_cons_zero, List.setIfInBounds_toArray, List.set_cons_zero, List.set_cons_succ]
              refine wpAnyH_take (i := 18) (v := ?_) rfl (by kernel_rfl) (by kernel_rfl) (by kernel_rfl) (fun _ _ _ h => h) (Or.inl ⟨by rfl, ?_⟩) (by assumption) ?_
              rotate_left
              · (intro wS hSw; (try dsimp only at hSw); (try simp only [List.getElem_toArray, List.getElem_cons_succ, List.getElem_cons_zero]); go_simp; try (with_reducible rfl))
              try simp only [Act.put, List.getElem_toArray, List.getElem_cons_succ, List.getElem_cons_zero, List.setIfInBounds_toArray, List.set_cons_zero, List.set_cons_succ]
              refine wpAnyH_take (i := 19) (v := ?_) rfl (by kernel_rfl) (by kernel_rfl) (by kernel_rfl) (fun _ _ _ h => h) (Or.inl ⟨by rfl, ?_⟩) (by assumption) ?_
              rotate_left
              · (intro wS hSw; (try dsimp only at hSw); (try simp only [List.getElem_toArray, List.getElem_cons_succ, List.getElem_cons_zero]); go_simp; try (with_reducible rfl))
              try simp only [Act.put, List.getElem_toArray, List.getElem_cons_succ, List.getElem_cons_zero, List.setIfInBounds_toArray, List.set_cons_zero, List.set_cons_succ]
              refine wpAnyH_ready (rs := [20]) (by kernel_rfl) (by simp) ?_
              refine AllReadyH.cons rfl (fun K hK => ?_) AllReadyH.nil
              go_simp
              rw [← HW5.out]
              refine hK.out _ _ f25 (fun hHeld => ?_)
              clear hK K
              try simp only [Act.put, List.getElem_toArray, List.getElem_cons_succ, List.getElem_cons_zero, List.setIfInBounds_toArray, List.set_cons_zero, List.set_cons_succ]
              refine wpAnyH_done (by kernel_rfl) ?_ _
              refine NoPanic.normal ?_
              go_wp2
              go_roundw
              case rel =>
                have h4 := HPr.out.keep HK4.out (fun _ _ h => h)
                have hN' : (kfS t M i).files.length = N := by show (kf t.files M i).length = N; rw [kf_length, HN.out]
                have hfil := h4.files
                rw [hN'] at hfil
                have hrow := (hfil.put (x := none) (i * 2) (.slice y4 VV c4)).put (x := none) (i * 2 + 1) (.int .i64 (VV : Int))
                rw [← HW5.out] at hrow
                have hkf : keepF X M = ⟨X.bytes.take VV, VV⟩ := by
                  unfold keepF
                  rw [← HBl.out, ← HZl.out, HQQ.out, show Z + M = VV by have := HVV.out; omega]
                have hfc : ((fileCells fl).set (i * 2) (.slice y4 VV c4)).set (i * 2 + 1) (.int .i64 (VV : Int)) = fileCells (fl.set i (.slice y4 VV c4, keepF X M)) := by rw [fileCells_set HV2.out, hkf]
                rw [hfc] at hrow
                have hsz : w5.heap.size = w4.heap.size := by rw [HW5.out]; simp [World.setCell]
                have hw0 := HKr.out.size
                have hw4 := HK4.out.size
                have hO5 : Own w5 (.slice y4 VV c4) (keepF X M).bytes := by
                  rw [hkf]
                  exact HO4.out.keep HK5.out (fun b hb e => HO4.out.ne (HAT.out.keep HK4.out (fun h => h)) (by decide) (e ▸ hb))
                have hst := h4.store (w' := w5) (T' := Up T w w5) (q := (.slice y4 VV c4, keepF X M)) HV2.out (fun b _ h => Up.more (by omega) h) (by rw [hN']; exact hrow.mono (fun b _ h => Up.more (by omega) h)) HK5.out hO5 (fun b hb => .inr ⟨by have := HNB4.out b hb; omega, hO5.lt b hb⟩)
                rw [HXe.out, kfS_set HIL.out] at hst
                refine ⟨i + 1, by omega, by go_num, ⟨_, hst⟩, ?_⟩
                exact (HKr.out.trans (HK4.out.mono (T := T) (fun _ _ h => h.elim)) (fun _ _ h => h)).trans HK5.out (fun b hb e => by
                  rcases HPr.out.files.2 g rfl with h | ⟨h, _⟩
                  · rw [e]; exact h
                  · omega)
              case measure => simp [intOf]; omega
        · have hiN : i = t.files.length := by have := HN.out; omega
          have HI := Lib.hid hiN
          have r4 := hpr.fs.cell 4
          have r5 := hpr.fs.cell 5
          have z4 := hpr.fs.frozen 4
          have z5 := hpr.fs.frozen 5
          have hltr := hpr.fs.lt
          simp at r4 r5
          clear hiN hpr
          go_wp2
          (try simp only [Exit.inBlock, Exit.then])
          refine bodyPost_ret (results_none rfl _ _ _) rfl ?_
          obtain ⟨fl, hpr⟩ := HX.out
          obtain ⟨W, hW⟩ : ∃ W, W = (wr.setCell ⟨r, 5, none⟩ (.bool false)).setCell ⟨r, 4, none⟩ (.int .i64 (-1)) := ⟨_, rfl⟩
          have kW : Keep (· = r) wr W := by rw [hW]; exact ((Keep.refl (· = r) wr).setCell (p := ⟨r, 5, none⟩) (fun _ => rfl) _).setCell (p := ⟨r, 4, none⟩) (fun _ => rfl) _
          have hsz : W.heap.size = wr.heap.size := by rw [hW]; simp [World.setCell]
          rw [← hW]
          have hq := hpr.turn (t := crashR s dirs (M : Int)) kW (by rw [hW]; have := (hpr.fs.put 5 (.bool false)).put 4 (.int .i64 (-1)); rw [show (kfS t M i).room = s.room from HTq.out.2.2.2] at this; exact this) (by
              show (s.loose.take (min (dirs).toNat s.loose.length)).foldl app s.sure = t.sure
              rw [HTq.out.2.1]
              show _ = (s.loose.take 0).foldl app s.sure
              rw [show min (dirs).toNat s.loose.length = 0 by have := HL.out; omega]) (by show ([] : List Chg) = t.loose; rw [HTq.out.2.2.1]) (by
              show s.files.map (keepF · ((M : Int)).toNat) = kf t.files M i
              rw [HI.out, kf_all, HTq.out.1]
              rw [show ((M : Int)).toNat = M by omega])
          refine ⟨rfl, ⟨⟨_, _, _, _, hq.mono (fun b _ h => Up.more (by omega) h)⟩, HGd.out, HRd.out⟩, ?_⟩
          exact HKr.out.trans kW (fun b hb e => by
            rcases HPq.out.inT with h | ⟨h, _⟩
            · rw [e]; exact h
            · omega)
    · go_enter Try.func33, Try.ntmps33
      have HPc : Hid (RP (w) T r (s) vs (.slice xl s.loose.length cl) vf fl) := HP.out
      have HGc : Hid (Good (s)) := HG.out
      have HKc : Hid (Keep (· = r) w (w)) := Keep.refl _ _
      have cD := refDir r T (s) (w) ⟨⟨_, _, _, _, HPc.out⟩, HGc.out, HRi.out⟩
      go_wp2_with fail
      refine cD.mono ?_
      rintro e w3 ⟨du, rfl, hR3, k3⟩
      have HR3 := Lib.hid hR3
      have HK3 := Lib.hid k3
      obtain ⟨xu, cu, hu, _, _⟩ := ownsRow_shape hR3.1
      obtain ⟨EE, hEE⟩ : ∃ EE, EE = (ents (s).now).length := ⟨_, rfl⟩
      rw [← hEE] at hu
      subst hu
      have hA3 := HPc.out.fs.keep k3 (fun h => h)
      have d0 := hA3.cell 0
      have d1 := hA3.cell 1
      have g0 := hA3.frozen 0
      have g1 := hA3.frozen 1
      have hlt3 := hA3.lt
      simp at d0 d1
      clear hA3 hR3 k3 cD c0 c1 f1 hlt hEE
      go_wp2
      obtain ⟨wq, hwq⟩ : ∃ wq, wq = (w3.setCell ⟨r, 0, none⟩ (.slice xu EE cu)).setCell ⟨r, 1, none⟩ (.slice none 0 0) := ⟨_, rfl⟩
      rw [← hwq]
      obtain ⟨hpq, kq⟩ := HPc.out.settle HK3.out HR3.out
      rw [← hwq] at hpq kq
      obtain ⟨t, ht⟩ : ∃ t : St, t = { s with sure := (s).now, loose := [] } := ⟨_, rfl⟩
      rw [← ht] at hpq
      have hszq : wq.heap.size = w3.heap.size := by rw [hwq]; simp [World.setCell]
      have HTq := Lib.hid (show t.files = s.files ∧ t.sure = (s).now ∧ t.loose = [] ∧ t.room = s.room from by rw [ht]; exact ⟨rfl, rfl, rfl, rfl⟩)
      have hGt : ∀ x ∈ t.files, x.sure ≤ x.bytes.length ∧ x.bytes.length ≤ 16777216 := fun x hx => ⟨HG.out.sure x (by rw [HTq.out.1] at hx; exact hx), HG.out.len x (by rw [HTq.out.1] at hx; exact hx)⟩
      have HGt := Lib.hid hGt
      obtain ⟨N, hN⟩ : ∃ N, N = t.files.length := ⟨_, rfl⟩
      have hNl : N ≤ 1000000 := by have h1 := HG.out.bulk; unfold St.bulk at h1; rw [hN, HTq.out.1]; omega
      have HN := Lib.hid hN
      have HKq : Hid (Keep T w wq) := ((HKc.out.mono (T := T) (fun b _ e => by rw [e]; exact HPc.out.inT)).trans (HK3.out.mono (T := T) (fun _ _ h => h.elim)) (fun _ _ h => h)).trans (kq.mono (T := T) (fun b _ e => by rw [e]; exact HPc.out.inT)) (fun _ _ h => h)
      have HPq : Hid (RP wq (Up T w wq) r t (.slice xu EE cu) (.slice none 0 0) vf fl) := hpq.mono (fun b _ h => by
        have h1 := HKc.out.size
        have h2 := HK3.out.size
        rcases h with h | ⟨h3, h4⟩
        · exact .inl h
        · exact .inr ⟨by omega, by omega⟩)
      clear hpq kq hwq hszq hGt ht hN d0 d1 g0 g1 hlt3 HR3 HK3
      obtain ⟨xf, cf, hvf, hcf, _⟩ := ownsRow_shape HPq.out.files.1
      rw [← HN.out] at hvf hcf
      subst hvf
      go_loopw [6, 7] (fun z _ wr => ∃ i : Nat, i ≤ N ∧ z = .int .i64 (i : Int) ∧ Hid (∃ fl, RP wr (Up T w wr) r (kfS t M i) (.slice xu EE cu) (.slice none 0 0) (.slice xf N cf) fl) ∧ Hid (Keep T w wr)) (fun z _ _ => N - (intOf z).toNat)
      case atStart => exact ⟨0, by omega, rfl, ⟨fl, by unfold kfS; rw [kf_zero]; exact HPq.out⟩, HKq.out⟩
      case round =>
        obtain ⟨i, hi, rfl, HX, HKr⟩ := hrel
        obtain ⟨fl, hpr⟩ := HX.out
        have HPr := Lib.hid hpr
        have f2 := hpr.fs.cell 2
        simp at f2
        by_cases h8 : (i : Int) < (N : Int)
        · have hil : i < t.files.length := by have := HN.out; omega
          obtain ⟨v, hv, hO⟩ := hpr.fat (i := i) (by show i < (kf t.files M i).length; rw [kf_length]; exact hil)
          rw [kfS_file hil] at hv hO
          obtain ⟨g, cap, hvf, hnc, hgT, ⟨cs, hat⟩, hcell⟩ := row_cells hpr.files (by show 0 < (kf t.files M i).length; rw [kf_length]; omega)
          injection hvf with hxf _ _
          subst hxf
          have hr0 := hcell _ _ (fileCells_at hv).1
          have hr1 := hcell _ _ (fileCells_at hv).2
          obtain ⟨y, cy, hvy, _⟩ := hO.shape
          have hXm := HGt.out _ (file_mem hil)
          simp only at hr0 hr1
          rw [hvy] at hv hO hr0
          obtain ⟨X, hX⟩ : ∃ X, X = t.file i := ⟨_, rfl⟩
          rw [← hX] at hv hO hr0 hr1 hXm
          have HXe := Lib.hid hX
          obtain ⟨B, hB2⟩ : ∃ B, B = X.bytes.length := ⟨_, rfl⟩
          obtain ⟨Z, hZ⟩ : ∃ Z, Z = X.sure := ⟨_, rfl⟩
          rw [← hB2] at hv hO hr0 hXm
          rw [← hZ] at hr1 hXm
          have hZB := hXm.1
          have hBm := hXm.2
          have hcy := hO.cap_le
          have HV2 := Lib.hid hv
          have HBl := Lib.hid hB2
          have HZl := Lib.hid hZ
          have HOw := Lib.hid hO
          have HAT := Lib.hid hat
          have hgl := hat.lt
          have HIL := Lib.hid hil
          clear hv hO hat hcell hX hB2 hZ hil hXm hpr HX hvy hnc hgT
          by_cases hmore : ((B : Int) - (Z : Int)) < (M : Int)
          · have hq : min M (B - Z) = B - Z := by omega
            go_wp2
            have HQQ := Lib.hid hq
            have HVV := Lib.hid hZB
            clear hq hmore
            obtain ⟨s1, s2⟩ := cut_preT 32 5 Try.underlying32 info5 y B cy B (by omega)
            refine wp_region_noPanic ?_
            refine wp_region_held_drew (S := fun w' => w'.cell? ⟨r, 2, none⟩ = some (.slice (some ⟨g, 0, none⟩) N cf)) (by kernel_rfl) f2 (fun hHeld => ?_)
            refine wpAnyH_take (i := 0) (v := ?_) rfl (by kernel_rfl) (by kernel_rfl) (by kernel_rfl) (fun _ _ _ h => h) (Or.inl ⟨by rfl, ?_⟩) (by assumption) ?_
            rotate_left
            · (intro wS hSw; (try dsimp only at hSw); (try simp only [List.getElem_toArray, List.getElem_cons_succ, List.getElem_cons_zero]); go_simp; try (with_reducible rfl))
            try simp only [Act.put, List.getElem_toArray, List.getElem_cons_succ, List.getElem_cons_zero, List.setIfInBounds_toArray, List.set_cons_zero, List.set_cons_succ]
            refine wpAnyH_take (i := 1) (v := ?_) rfl (by kernel_rfl) (by kernel_rfl) (by kernel_rfl) (fun _ _ _ h => h) (Or.inl ⟨by rfl, ?_⟩) (by assumption) ?_
            rotate_left
            · (intro wS hSw; (try dsimp only at hSw); (try simp only [List.getElem_toArray, List.getElem_cons_succ, List.getElem_cons_zero]); go_simp; try (with_reducible rfl))
            try simp only [Act.put, List.getElem_toArray, List.getElem_cons_succ, List.getElem_cons_zero, List.setIfInBounds_toArray, List.set_cons_zero, List.set_cons_succ]
            refine wpAnyH_take (i := 2) (v := ?_) rfl (by kernel_rfl) (by kernel_rfl) (by kernel_rfl) (fun _ _ _ h => h) (Or.inl ⟨by rfl, ?_⟩) (by assumption) ?_
            rotate_left
            · (intro wS hSw; (try dsimp only at hSw); (try simp only [List.getElem_toArray, List.getElem_cons_succ, List.getElem_cons_zero]); go_simp; try (with_reducible rfl))
            try simp only [Act.put, List.getElem_toArray, List.getElem_cons_succ, List.getElem_cons_zero, List.setIfInBounds_toArray, List.set_cons_zero, List.set_cons_succ]
            refine wpAnyH_take (i := 3) (v := ?_) rfl (by kernel_rfl) (by kernel_rfl) (by kernel_rfl) (fun _ _ _ h => h) (Or.inl ⟨by rfl, ?_⟩) (by assumption) ?_
            rotate_left
            · (intro wS hSw; (try dsimp only at hSw); (try simp only [List.getElem_toArray, List.getElem_cons_succ, List.getElem_cons_zero]); go_simp; try (with_reducible rfl))
            try simp only [Act.put, List.getElem_toArray, List.getElem_cons_succ, List.getElem_cons_zero, List.setIfInBounds_toArray, List.set_cons_zero, List.set_cons_succ]
            refine wpAnyH_take (i := 4) (v := ?_) rfl (by kernel_rfl) (by kernel_rfl) (by kernel_rfl) (fun _ _ _ h => h) (Or.inl ⟨by rfl, ?_⟩) (by assumption) ?_
            rotate_left
            · (intro wS hSw; (try dsimp only at hSw); (try simp only [List.getElem_toArray, List.getElem_cons_succ, List.getElem_cons_zero]); go_simp; try (with_reducible rfl))
            try simp only [Act.put, List.getElem_toArray, List.getElem_cons_succ, List.getElem_cons_zero, List.setIfInBounds_toArray, List.set_cons_zero, List.set_cons_succ]
            refine wpAnyH_take (i := 6) (v := ?_) rfl (by kernel_rfl) (by kernel_rfl) (by kernel_rfl) (fun _ _ _ h => h) (Or.inl ⟨by rfl, ?_⟩) (by assumption) ?_
            rotate_left
            · (intro wS hSw; (try dsimp only at hSw); (try simp only [List.getElem_toArray, List.getElem_cons_succ, List.getElem_cons_zero]); go_simp; try (with_reducible rfl))
            try simp only [Act.put, List.getElem_toArray, List.getElem_cons_succ, List.getElem_cons_zero, List.setIfInBounds_toArray, List.set_cons_zero, List.set_cons_succ]
            refine wpAnyH_take (i := 7) (v := ?_) rfl (by kernel_rfl) (by kernel_rfl) (by kernel_rfl) (fun _ _ _ h => h) (Or.inl ⟨by rfl, ?_⟩) (by assumption) ?_
            rotate_left
            · (intro wS hSw; (try dsimp only at hSw); (try simp only [List.getElem_toArray, List.getElem_cons_succ, List.getElem_cons_zero]); go_simp; try (with_reducible rfl))
            try simp only [Act.put, List.getElem_toArray, List.getElem_cons_succ, List.getElem_cons_zero, List.setIfInBounds_toArray, List.set_cons_zero, List.set_cons_succ]
            refine wpAnyH_take (i := 8) (v := ?_) rfl (by kernel_rfl) (by kernel_rfl) (by kernel_rfl) (fun _ _ _ h => h) (Or.inl ⟨by rfl, ?_⟩) (by assumption) ?_
            rotate_left
            · (intro wS hSw; (try dsimp only at hSw); (try simp only [List.getElem_toArray, List.getElem_cons_succ, List.getElem_cons_zero]); go_simp; try (with_reducible rfl))
            try simp only [Act.put, List.getElem_toArray, List.getElem_cons_succ, List.getElem_cons_zero, List.setIfInBounds_toArray, List.set_cons_zero, List.set_cons_succ]
            refine wpAnyH_take (i := 9) (v := ?_) rfl (by kernel_rfl) (by kernel_rfl) (by kernel_rfl) (fun _ _ _ h => h) (Or.inl ⟨by rfl, ?_⟩) (by assumption) ?_
            rotate_left
            · (intro wS hSw; (try dsimp only at hSw); (try simp only [List.getElem_toArray, List.getElem_cons_succ, List.getElem_cons_zero]); go_simp; try (with_reducible rfl))
            try simp only [Act.put, List.getElem_toArray, List.getElem_cons_succ, List.getElem_cons_zero, List.setIfInBounds_toArray, List.set_cons_zero, List.set_cons_succ]
            refine wpAnyH_take (i := 10) (v := ?_) rfl (by kernel_rfl) (by kernel_rfl) (by kernel_rfl) (fun _ _ _ h => h) (Or.inl ⟨by rfl, ?_⟩) (by assumption) ?_
            rotate_left
            · (intro wS hSw; (try dsimp only at hSw); (try simp only [List.getElem_toArray, List.getElem_cons_succ, List.getElem_cons_zero]); go_simp; try (with_reducible rfl))
            try simp only [Act.put, List.getElem_toArray, List.getElem_cons_succ, List.getElem_cons_zero, List.setIfInBounds_toArray, List.set_cons_zero, List.set_cons_succ]
            refine wpAnyH_take (i := 11) (v := ?_) rfl (by kernel_rfl) (by kernel_rfl) (by kernel_rfl) (fun _ _ _ h => h) (Or.inl ⟨by rfl, ?_⟩) (by assumption) ?_
            rotate_left
            · (intro wS hSw; (try dsimp only at hSw); (try simp only [List.getElem_toArray, List.getElem_cons_succ, List.getElem_cons_zero]); go_simp; try (with_reducible rfl))
            try simp only [Act.put, List.getElem_toArray, List.getElem_cons_succ, List.getElem_cons_zero, List.setIfInBounds_toArray, List.set_cons_zero, List.set_cons_succ]
            refine wpAnyH_take (i := 12) (v := ?_) rfl (by kernel_rfl) (by kernel_rfl) (by kernel_rfl) (fun _ _ _ h => h) (Or.inl ⟨by rfl, ?_⟩) (by assumption) ?_
            rotate_left
            · (intro wS hSw; (try dsimp only at hSw); (try simp only [List.getElem_toArray, List.getElem_cons_succ, List.getElem_cons_zero]); go_simp; try (with_reducible rfl))
            try simp only [Act.put, List.getElem_toArray, List.getElem_cons_succ, List.getElem_cons_zero, List.setIfInBounds_toArray, List.set_cons_zero, List.set_cons_succ]
            refine wpAnyH_take (i := 14) (v := ?_) rfl (by kernel_rfl) (by kernel_rfl) (by kernel_rfl) (fun _ _ _ h => h) (Or.inl ⟨by rfl, ?_⟩) (by assumption) ?_
            rotate_left
            · (intro wS hSw; (try dsimp only at hSw); (try simp only [List.getElem_toArray, List.getElem_cons_succ, List.getElem_cons_zero]); go_simp; try (with_reducible rfl))
            try simp only [Act.put, List.getElem_toArray, List.getElem_cons_succ, List.getElem_cons_zero, List.setIfInBounds_toArray, List.set_cons_zero, List.set_cons_succ]
            refine wpAnyH_take (i := 17) (v := ?_) rfl (by kernel_rfl) (by kernel_rfl) (by kernel_rfl) (fun _ _ _ h => h) (Or.inl ⟨by rfl, ?_⟩) (by assumption) ?_
            rotate_left
            · (intro wS hSw; (try dsimp only at hSw); (try simp only [List.getElem_toArray, List.getElem_cons_succ, List.getElem_cons_zero]); go_simp; try (with_reducible rfl))
            try simp only [Act.put, List.getElem_toArray, List.getElem_cons_succ, List.getElem_cons_zero, List.setIfInBounds_toArray, List.set_cons_zero, List.set_cons_succ]
            have hr0a : ((wr.alloc (.cells #[] 5)).drew).cell? ⟨g, i * 2, none⟩ = some (.slice y B cy) := ((Keep.refl (fun _ => False) wr).alloc (.cells #[] 5)).drew.cell hr0 (fun h => h)
            have hr0d : wr.drew.cell? ⟨g, i * 2, none⟩ = some (.slice y B cy) := hr0
            have f2a : ((wr.alloc (.cells #[] 5)).drew).cell? ⟨r, 2, none⟩ = some (.slice (some ⟨g, 0, none⟩) N cf) := ((Keep.refl (fun _ => False) wr).alloc (.cells #[] 5)).drew.cell f2 (fun h => h)
            have hln : (X.bytes.take B).length = B := by rw [List.length_take, ← HBl.out]; omega
            obtain ⟨y4, c4, w4, hra, hOa, ka, hNa⟩ := run_append_bytes 32 ((wr.alloc (.cells #[] 5)).drew) (.slice (some ⟨wr.heap.size, 0, none⟩) 0 0) [] (empty_row wr) (fun _ => True) y B cy (X.bytes.take B) hln (((HOw.out.bytes.take B).mono (fun _ _ _ => trivial)).quiet ((Keep.refl (fun _ => False) wr).alloc (.cells #[] 5)).drew) (by simp only [List.length_nil]; omega)
            simp only [List.length_nil, Nat.zero_add, List.nil_append] at hra hOa hNa
            have HK4 : Hid (Keep (fun _ => False) wr w4) := ((Keep.refl (fun _ => False) wr).alloc (.cells #[] 5)).drew.trans ka (fun b hb e => by simp [Value.ownBlock] at e; omega)
            have HNB4 : Hid (∀ b, (Value.slice y4 B c4).ownBlock = some b → wr.heap.size ≤ b) := fun b hb => by
              rcases hNa b hb with h1 | h1
              · simp [Value.ownBlock] at h1; omega
              · simp at h1; omega
            have HO4 := Lib.hid hOa
            have f24 := HK4.out.cell f2 (fun h => h)
            have hr04 := HK4.out.cell hr0 (fun h => h)
            have hr14 := HK4.out.cell hr1 (fun h => h)
            have hat4 := HAT.out.keep HK4.out (fun h => h)
            have hfr4 := hat4.frozen (i * 2)
            have hfr5 := hat4.frozen (i * 2 + 1)
            have hgr : g ≠ r := fun e => At.ne HAT.out HPr.out.fs (by decide) e
            have hlt4 := hat4.lt
            obtain ⟨w5, hw5⟩ : ∃ w5, w5 = (w4.setCell ⟨g, i * 2, none⟩ (.slice y4 B c4)).setCell ⟨g, i * 2 + 1, none⟩ (.int .i64 (B : Int)) := ⟨_, rfl⟩
            have HK5 : Hid (Keep (· = g) w4 w5) := by rw [hw5]; exact ((Keep.refl (· = g) w4).setCell (p := ⟨g, i * 2, none⟩) (fun _ => rfl) _).setCell (p := ⟨g, i * 2 + 1, none⟩) (fun _ => rfl) _
            have f25 := HK5.out.cell f24 (fun e => hgr e.symm)
            have HW5 := Lib.hid hw5
            clear hOa ka hNa hat4 hw5
            refine wpAnyH_ready (rs := [5, 13]) (by kernel_rfl) (by simp) ?_
            refine AllReadyH.cons rfl (fun K hK => ?_) (AllReadyH.cons rfl (fun K hK => ?_) AllReadyH.nil)
            · go_simp
              refine hK.out _ _ f2a (fun hHeld => ?_)
              clear hK K
              try simp only [Act.put, List.getElem_toArray, List.getElem_cons_succ, List.getElem_cons_zero, List.setIfInBounds_toArray, List.set_cons_zero, List.set_cons_succ]
              refine wpAnyH_ready (rs := [13]) (by kernel_rfl) (by simp) ?_
              refine AllReadyH.cons rfl (fun K hK => ?_) AllReadyH.nil
              go_simp
              refine hK.out _ _ f2a (fun hHeld => ?_)
              clear hK K
              try simp only [Act.put, List.getElem_toArray, List.getElem_cons_succ, List.getElem_cons_zero, List.setIfInBounds_toArray, List.set_cons_zero, List.set_cons_succ]
              refine wpAnyH_take (i := 15) (v := ?_) rfl (by kernel_rfl) (by kernel_rfl) (by kernel_rfl) (fun _ _ _ h => h) (Or.inl ⟨by rfl, ?_⟩) (by assumption) ?_
              rotate_left
              · (intro wS hSw; (try dsimp only at hSw); (try simp only [List.getElem_toArray, List.getElem_cons_succ, List.getElem_cons_zero]); go_simp; try (with_reducible rfl))
              try simp only [Act.put, List.getElem_toArray, List.getElem_cons_succ, List.getElem_cons_zero, List.setIfInBounds_toArray, List.set_cons_zero, List.set_cons_succ]
              refine wpAnyH_ready (rs := [16]) (by kernel_rfl) (by simp) ?_
              refine AllReadyH.cons rfl (fun K hK => ?_) AllReadyH.nil
              refine wp_append_run (by rfl) (by rfl) (by rfl) hra ?_
              refine hK.out _ _ f24 (fun hHeld => ?_)
              clear hK K
              try simp only [Act.put, List.getElem_toArray, List.getElem_cons_succ, List.getElem_cons_zero, List.setIfInBounds_toArray, List.set_cons_zero, List.set_cons_succ]
              refine wpAnyH_take (i := 18) (v := ?_) rfl (by kernel_rfl) (by kernel_rfl) (by kernel_rfl) (fun _ _ _ h => h) (Or.inl ⟨by rfl, ?_⟩) (by assumption) ?_
              rotate_left
              · (intro wS hSw; (try dsimp only at hSw); (try simp only [List.getElem_toArray, List.getElem_cons_succ, List.getElem_cons_zero]); go_simp; try (with_reducible rfl))
              try simp only [Act.put, List.getElem_toArray, List.getElem_cons_succ, List.getElem_cons_zero, List.setIfInBounds_toArray, List.set_cons_zero, List.set_cons_succ]
              refine wpAnyH_take (i := 19) (v := ?_) rfl (by kernel_rfl) (by kernel_rfl) (by kernel_rfl) (fun _ _ _ h => h) (Or.inl ⟨by rfl, ?_⟩) (by assumption) ?_
              rotate_left
              · (intro wS hSw; (try dsimp only at hSw); (try simp only [List.getElem_toArray, List.getElem_cons_succ, List.getElem_cons_zero]); go_simp; try (with_reducible rfl))
              try simp only [Act.put, List.getElem_toArray, List.getElem_cons_succ, List.getElem_cons_zero, List.setIfInBounds_toArray, List.set_cons_zero, List.set_cons_succ]
              refine wpAnyH_ready (rs := [20]) (by kernel_rfl) (by simp) ?_
              refine AllReadyH.cons rfl (fun K hK => ?_) AllReadyH.nil
              go_simp
              rw [← HW5.out]
              refine hK.out _ _ f25 (fun hHeld => ?_)
              clear hK K
              try simp only [Act.put, List.getElem_toArray, List.getElem_cons_succ, List.getElem_cons_zero, List.setIfInBounds_toArray, List.set_cons_zero, List.set_cons_succ]
              refine wpAnyH_done (by kernel_rfl) ?_ _
              refine NoPanic.normal ?_
              go_wp2
              go_roundw
              case rel =>
                have h4 := HPr.out.keep HK4.out (fun _ _ h => h)
                have hN' : (kfS t M i).files.length = N := by show (kf t.files M i).length = N; rw [kf_length, HN.out]
                have hfil := h4.files
                rw [hN'] at hfil
                have hrow := (hfil.put (x := none) (i * 2) (.slice y4 B c4)).put (x := none) (i * 2 + 1) (.int .i64 (B : Int))
                rw [← HW5.out] at hrow
                have hkf : keepF X M = ⟨X.bytes.take B, B⟩ := by
                  unfold keepF
                  rw [← HBl.out, ← HZl.out, HQQ.out, show Z + (B - Z) = B by have := HVV.out; omega]
                have hfc : ((fileCells fl).set (i * 2) (.slice y4 B c4)).set (i * 2 + 1) (.int .i64 (B : Int)) = fileCells (fl.set i (.slice y4 B c4, keepF X M)) := by rw [fileCells_set HV2.out, hkf]
                rw [hfc] at hrow
                have hsz : w5.heap.size = w4.heap.size := by rw [HW5.out]; simp [World.setCell]
                have hw0 := HKr.out.size
                have hw4 := HK4.out.size
                have hO5 : Own w5 (.slice y4 B c4) (keepF X M).bytes := by
                  rw [hkf]
                  exact HO4.out.keep HK5.out (fun b hb e => HO4.out.ne (HAT.out.keep HK4.out (fun h => h)) (by decide) (e ▸ hb))
                have hst := h4.store (w' := w5) (T' := Up T w w5) (q := (.slice y4 B c4, keepF X M)) HV2.out (fun b _ h => Up.more (by omega) h) (by rw [hN']; exact hrow.mono (fun b _ h => Up.more (by omega) h)) HK5.out hO5 (fun b hb => .inr ⟨by have := HNB4.out b hb; omega, hO5.lt b hb⟩)
                rw [HXe.out, kfS_set HIL.out] at hst
                refine ⟨i + 1, by omega, by go_num, ⟨_, hst⟩, ?_⟩
                exact (HKr.out.trans (HK4.out.mono (T := T) (fun _ _ h => h.elim)) (fun _ _ h => h)).trans HK5.out (fun b hb e => by
                  rcases HPr.out.files.2 g rfl with h | ⟨h, _⟩
                  · rw [e]; exact h
                  · omega)
              case measure => simp [intOf]; omega
            · go_simp
              refine hK.out _ _ f2 (fun hHeld => ?_)
              clear hK K
              try simp only [Act.put, List.getElem_toArray, List.getElem_cons_succ, List.getElem_cons_zero, List.setIfInBounds_toArray, List.set_cons_zero, List.set_cons_succ]
              refine wpAnyH_take (i := 15) (v := ?_) rfl (by kernel_rfl) (by kernel_rfl) (by kernel_rfl) (fun _ _ _ h => h) (Or.inl ⟨by rfl, ?_⟩) (by assumption) ?_
              rotate_left
              · (intro wS hSw; (try dsimp only at hSw); (try simp only [List.getElem_toArray, List.getElem_cons_succ, List.getElem_cons_zero]); go_simp; try (with_reducible rfl))
              try simp only [Act.put, List.getElem_toArray, List.getElem_cons_succ, List.getElem_cons_zero, List.setIfInBounds_toArray, List.set_cons_zero, List.set_cons_succ]
              refine wpAnyH_ready (rs := [5]) (by kernel_rfl) (by simp) ?_
              refine AllReadyH.cons rfl (fun K hK => ?_) AllReadyH.nil
              go_simp
              refine hK.out _ _ f2a (fun hHeld => ?_)
              clear hK K
              try simp only [Act.put, List.getElem_toArray, List.getElem_cons_succ, List.getElem_cons_zero, List.setIfInBounds_toArray, List.set_cons_zero, List.set_cons_succ]
              refine wpAnyH_ready (rs := [16]) (by kernel_rfl) (by simp) ?_
              refine AllReadyH.cons rfl (fun K hK => ?_) AllReadyH.nil
              refine wp_append_run (by rfl) (by rfl) (by rfl) hra ?_
              refine hK.out _ _ f24 (fun hHeld => ?_)
              clear hK K
              try simp only [Act.put, List.getElem_toArray, List.getElem_cons_succ, List.getElem_cons_zero, List.setIfInBounds_toArray, List.set_cons_zero, List.set_cons_succ]
              refine wpAnyH_take (i := 18) (v := ?_) rfl (by kernel_rfl) (by kernel_rfl) (by kernel_rfl) (fun _ _ _ h => h) (Or.inl ⟨by rfl, ?_⟩) (by assumption) ?_
              rotate_left
              · (intro wS hSw; (try dsimp only at hSw); (try simp only [List.getElem_toArray, List.getElem_cons_succ, List.getElem_cons_zero]); go_simp; try (with_reducible rfl))
              try simp only [Act.put, List.getElem_toArray, List.getElem_cons_succ, List.getElem_cons_zero, List.setIfInBounds_toArray, List.set_cons_zero, List.set_cons_succ]
              refine wpAnyH_take (i := 19) (v := ?_) rfl (by kernel_rfl) (by kernel_rfl) (by kernel_rfl) (fun _ _ _ h => h) (Or.inl ⟨by rfl, ?_⟩) (by assumption) ?_
              rotate_left
              · (intro wS hSw; (try dsimp only at hSw); (try simp only [List.getElem_toArray, List.getElem_cons_succ, List.getElem_cons_zero]); go_simp; try (with_reducible rfl))
              try simp only [Act.put, List.getElem_toArray, List.getElem_cons_succ, List.getElem_cons_zero, List.setIfInBounds_toArray, List.set_cons_zero, List.set_cons_succ]
              refine wpAnyH_ready (rs := [20]) (by kernel_rfl) (by simp) ?_
              refine AllReadyH.cons rfl (fun K hK => ?_) AllReadyH.nil
              go_simp
              rw [← HW5.out]
              refine hK.out _ _ f25 (fun hHeld => ?_)
              clear hK K
              try simp only [Act.put, List.getElem_toArray, List.getElem_cons_succ, List.getElem_cons_zero, List.setIfInBounds_toArray, List.set_cons_zero, List.set_cons_succ]
              refine wpAnyH_done (by kernel_rfl) ?_ _
              refine NoPanic.normal ?_
              go_wp2
              go_roundw
              case rel =>
                have h4 := HPr.out.keep HK4.out (fun _ _ h => h)
                have hN' : (kfS t M i).files.length = N := by show (kf t.files M i).length = N; rw [kf_length, HN.out]
                have hfil := h4.files
                rw [hN'] at hfil
                have hrow := (hfil.put (x := none) (i * 2) (.slice y4 B c4)).put (x := none) (i * 2 + 1) (.int .i64 (B : Int))
                rw [← HW5.out] at hrow
                have hkf : keepF X M = ⟨X.bytes.take B, B⟩ := by
                  unfold keepF
                  rw [← HBl.out, ← HZl.out, HQQ.out, show Z + (B - Z) = B by have := HVV.out; omega]
                have hfc : ((fileCells fl).set (i * 2) (.slice y4 B c4)).set (i * 2 + 1) (.int .i64 (B : Int)) = fileCells (fl.set i (.slice y4 B c4, keepF X M)) := by rw [fileCells_set HV2.out, hkf]
                rw [hfc] at hrow
                have hsz : w5.heap.size = w4.heap.size := by rw [HW5.out]; simp [World.setCell]
                have hw0 := HKr.out.size
                have hw4 := HK4.out.size
                have hO5 : Own w5 (.slice y4 B c4) (keepF X M).bytes := by
                  rw [hkf]
                  exact HO4.out.keep HK5.out (fun b hb e => HO4.out.ne (HAT.out.keep HK4.out (fun h => h)) (by decide) (e ▸ hb))
                have hst := h4.store (w' := w5) (T' := Up T w w5) (q := (.slice y4 B c4, keepF X M)) HV2.out (fun b _ h => Up.more (by omega) h) (by rw [hN']; exact hrow.mono (fun b _ h => Up.more (by omega) h)) HK5.out hO5 (fun b hb => .inr ⟨by have := HNB4.out b hb; omega, hO5.lt b hb⟩)
                rw [HXe.out, kfS_set HIL.out] at hst
                refine ⟨i + 1, by omega, by go_num, ⟨_, hst⟩, ?_⟩
                exact (HKr.out.trans (HK4.out.mono (T := T) (fun _ _ h => h.elim)) (fun _ _ h => h)).trans HK5.out (fun b hb e => by
                  rcases HPr.out.files.2 g rfl with h | ⟨h, _⟩
                  · rw [e]; exact h
                  · omega)
              case measure => simp [intOf]; omega
          · have hq : min M (B - Z) = M := by omega
            go_wp2
            have HQQ := Lib.hid hq
            obtain ⟨VV, hVV⟩ : ∃ VV : Nat, VV = Z + M := ⟨_, rfl⟩
            have hNB : VV ≤ B := by omega
            clear hq hmore
            rw [show (Z : Int) + (M : Int) = (VV : Int) by omega]
            have HVV := Lib.hid hVV
            clear hVV
            obtain ⟨s1, s2⟩ := cut_preT 32 5 Try.underlying32 info5 y B cy VV (by omega)
            refine wp_region_noPanic ?_
            refine wp_region_held_drew (S := fun w' => w'.cell? ⟨r, 2, none⟩ = some (.slice (some ⟨g, 0, none⟩) N cf)) (by kernel_rfl) f2 (fun hHeld => ?_)
            refine wpAnyH_take (i := 0) (v := ?_) rfl (by kernel_rfl) (by kernel_rfl) (by kernel_rfl) (fun _ _ _ h => h) (Or.inl ⟨by rfl, ?_⟩) (by assumption) ?_
            rotate_left
            · (intro wS hSw; (try dsimp only at hSw); (try simp only [List.getElem_toArray, List.getElem_cons_succ, List.getElem_cons_zero]); go_simp; try (with_reducible rfl))
            try simp only [Act.put, List.getElem_toArray, List.getElem_cons_succ, List.getElem_cons_zero, List.setIfInBounds_toArray, List.set_cons_zero, List.set_cons_succ]
            refine wpAnyH_take (i := 1) (v := ?_) rfl (by kernel_rfl) (by kernel_rfl) (by kernel_rfl) (fun _ _ _ h => h) (Or.inl ⟨by rfl, ?_⟩) (by assumption) ?_
            rotate_left
            · (intro wS hSw; (try dsimp only at hSw); (try simp only [List.getElem_toArray, List.getElem_cons_succ, List.getElem_cons_zero]); go_simp; try (with_reducible rfl))
            try simp only [Act.put, List.getElem_toArray, List.getElem_cons_succ, List.getElem_cons_zero, List.setIfInBounds_toArray, List.set_cons_zero, List.set_cons_succ]
            refine wpAnyH_take (i := 2) (v := ?_) rfl (by kernel_rfl) (by kernel_rfl) (by kernel_rfl) (fun _ _ _ h => h) (Or.inl ⟨by rfl, ?_⟩) (by assumption) ?_
            rotate_left
            · (intro wS hSw; (try dsimp only at hSw); (try simp only [List.getElem_toArray, List.getElem_cons_succ, List.getElem_cons_zero]); go_simp; try (with_reducible rfl))
            try simp only [Act.put, List.getElem_toArray, List.getElem_cons_succ, List.getElem_cons_zero, List.setIfInBounds_toArray, List.set_cons_zero, List.set_cons_succ]
            refine wpAnyH_take (i := 3) (v := ?_) rfl (by kernel_rfl) (by kernel_rfl) (by kernel_rfl) (fun _ _ _ h => h) (Or.inl ⟨by rfl, ?_⟩) (by assumption) ?_
            rotate_left
            · (intro wS hSw; (try dsimp only at hSw); (try simp only [List.getElem_toArray, List.getElem_cons_succ, List.getElem_cons_zero]); go_simp; try (with_reducible rfl))
            try simp only [Act.put, List.getElem_toArray, List.getElem_cons_succ, List.getElem_cons_zero, List.setIfInBounds_toArray, List.set_cons_zero, List.set_cons_succ]
            refine wpAnyH_take (i := 4) (v := ?_) rfl (by kernel_rfl) (by kernel_rfl) (by kernel_rfl) (fun _ _ _ h => h) (Or.inl ⟨by rfl, ?_⟩) (by assumption) ?_
            rotate_left
            · (intro wS hSw; (try dsimp only at hSw); (try simp only [List.getElem_toArray, List.getElem_cons_succ, List.getElem_cons_zero]); go_simp; try (with_reducible rfl))
            try simp only [Act.put, List.getElem_toArray, List.getElem_cons_succ, List.getElem_cons_zero, List.setIfInBounds_toArray, List.set_cons_zero, List.set_cons_succ]
            refine wpAnyH_take (i := 6) (v := ?_) rfl (by kernel_rfl) (by kernel_rfl) (by kernel_rfl) (fun _ _ _ h => h) (Or.inl ⟨by rfl, ?_⟩) (by assumption) ?_
            rotate_left
            · (intro wS hSw; (try dsimp only at hSw); (try simp only [List.getElem_toArray, List.getElem_cons_succ, List.getElem_cons_zero]); go_simp; try (with_reducible rfl))
            try simp only [Act.put, List.getElem_toArray, List.getElem_cons_succ, List.getElem_cons_zero, List.setIfInBounds_toArray, List.set_cons_zero, List.set_cons_succ]
            refine wpAnyH_take (i := 7) (v := ?_) rfl (by kernel_rfl) (by kernel_rfl) (by kernel_rfl) (fun _ _ _ h => h) (Or.inl ⟨by rfl, ?_⟩) (by assumption) ?_
            rotate_left
            · (intro wS hSw; (try dsimp only at hSw); (try simp only [List.getElem_toArray, List.getElem_cons_succ, List.getElem_cons_zero]); go_simp; try (with_reducible rfl))
            try simp only [Act.put, List.getElem_toArray, List.getElem_cons_succ, List.getElem_cons_zero, List.setIfInBounds_toArray, List.set_cons_zero, List.set_cons_succ]
            refine wpAnyH_take (i := 8) (v := ?_) rfl (by kernel_rfl) (by kernel_rfl) (by kernel_rfl) (fun _ _ _ h => h) (Or.inl ⟨by rfl, ?_⟩) (by assumption) ?_
            rotate_left
            · (intro wS hSw; (try dsimp only at hSw); (try simp only [List.getElem_toArray, List.getElem_cons_succ, List.getElem_cons_zero]); go_simp; try (with_reducible rfl))
            try simp only [Act.put, List.getElem_toArray, List.getElem_cons_succ, List.getElem_cons_zero, List.setIfInBounds_toArray, List.set_cons_zero, List.set_cons_succ]
            refine wpAnyH_take (i := 9) (v := ?_) rfl (by kernel_rfl) (by kernel_rfl) (by kernel_rfl) (fun _ _ _ h => h) (Or.inl ⟨by rfl, ?_⟩) (by assumption) ?_
            rotate_left
            · (intro wS hSw; (try dsimp only at hSw); (try simp only [List.getElem_toArray, List.getElem_cons_succ, List.getElem_cons_zero]); go_simp; try (with_reducible rfl))
            try simp only [Act.put, List.getElem_toArray, List.getElem_cons_succ, List.getElem_cons_zero, List.setIfInBounds_toArray, List.set_cons_zero, List.set_cons_succ]
            refine wpAnyH_take (i := 10) (v := ?_) rfl (by kernel_rfl) (by kernel_rfl) (by kernel_rfl) (fun _ _ _ h => h) (Or.inl ⟨by rfl, ?_⟩) (by assumption) ?_
            rotate_left
            · (intro wS hSw; (try dsimp only at hSw); (try simp only [List.getElem_toArray, List.getElem_cons_succ, List.getElem_cons_zero]); go_simp; try (with_reducible rfl))
            try simp only [Act.put, List.getElem_toArray, List.getElem_cons_succ, List.getElem_cons_zero, List.setIfInBounds_toArray, List.set_cons_zero, List.set_cons_succ]
            refine wpAnyH_take (i := 11) (v := ?_) rfl (by kernel_rfl) (by kernel_rfl) (by kernel_rfl) (fun _ _ _ h => h) (Or.inl ⟨by rfl, ?_⟩) (by assumption) ?_
            rotate_left
            · (intro wS hSw; (try dsimp only at hSw); (try simp only [List.getElem_toArray, List.getElem_cons_succ, List.getElem_cons_zero]); go_simp; try (with_reducible rfl))
            try simp only [Act.put, List.getElem_toArray, List.getElem_cons_succ, List.getElem_cons_zero, List.setIfInBounds_toArray, List.set_cons_zero, List.set_cons_succ]
            refine wpAnyH_take (i := 12) (v := ?_) rfl (by kernel_rfl) (by kernel_rfl) (by kernel_rfl) (fun _ _ _ h => h) (Or.inl ⟨by rfl, ?_⟩) (by assumption) ?_
            rotate_left
            · (intro wS hSw; (try dsimp only at hSw); (try simp only [List.getElem_toArray, List.getElem_cons_succ, List.getElem_cons_zero]); go_simp; try (with_reducible rfl))
            try simp only [Act.put, List.getElem_toArray, List.getElem_cons_succ, List.getElem_cons_zero, List.setIfInBounds_toArray, List.set_cons_zero, List.set_cons_succ]
            refine wpAnyH_take (i := 14) (v := ?_) rfl (by kernel_rfl) (by kernel_rfl) (by kernel_rfl) (fun _ _ _ h => h) (Or.inl ⟨by rfl, ?_⟩) (by assumption) ?_
            rotate_left
            · (intro wS hSw; (try dsimp only at hSw); (try simp only [List.getElem_toArray, List.getElem_cons_succ, List.getElem_cons_zero]); go_simp; try (with_reducible rfl))
            try simp only [Act.put, List.getElem_toArray, List.getElem_cons_succ, List.getElem_cons_zero, List.setIfInBounds_toArray, List.set_cons_zero, List.set_cons_succ]
            refine wpAnyH_take (i := 17) (v := ?_) rfl (by kernel_rfl) (by kernel_rfl) (by kernel_rfl) (fun _ _ _ h => h) (Or.inl ⟨by rfl, ?_⟩) (by assumption) ?_
            rotate_left
            · (intro wS hSw; (try dsimp only at hSw); (try simp only [List.getElem_toArray, List.getElem_cons_succ, List.getElem_cons_zero]); go_simp; try (with_reducible rfl))
            try simp only [Act.put, List.getElem_toArray, List.getElem_cons_succ, List.getElem_cons_zero, List.setIfInBounds_toArray, List.set_cons_zero, List.set_cons_succ]
            have hr0a : ((wr.alloc (.cells #[] 5)).drew).cell? ⟨g, i * 2, none⟩ = some (.slice y B cy) := ((Keep.refl (fun _ => False) wr).alloc (.cells #[] 5)).drew.cell hr0 (fun h => h)
            have hr0d : wr.drew.cell? ⟨g, i * 2, none⟩ = some (.slice y B cy) := hr0
            have f2a : ((wr.alloc (.cells #[] 5)).drew).cell? ⟨r, 2, none⟩ = some (.slice (some ⟨g, 0, none⟩) N cf) := ((Keep.refl (fun _ => False) wr).alloc (.cells #[] 5)).drew.cell f2 (fun h => h)
            have hln : (X.bytes.take VV).length = VV := by rw [List.length_take, ← HBl.out]; omega
            obtain ⟨y4, c4, w4, hra, hOa, ka, hNa⟩ := run_append_bytes 32 ((wr.alloc (.cells #[] 5)).drew) (.slice (some ⟨wr.heap.size, 0, none⟩) 0 0) [] (empty_row wr) (fun _ => True) y VV cy (X.bytes.take VV) hln (((HOw.out.bytes.take VV).mono (fun _ _ _ => trivial)).quiet ((Keep.refl (fun _ => False) wr).alloc (.cells #[] 5)).drew) (by simp only [List.length_nil]; omega)
            simp only [List.length_nil, Nat.zero_add, List.nil_append] at hra hOa hNa
            have HK4 : Hid (Keep (fun _ => False) wr w4) := ((Keep.refl (fun _ => False) wr).alloc (.cells #[] 5)).drew.trans ka (fun b hb e => by simp [Value.ownBlock] at e; omega)
            have HNB4 : Hid (∀ b, (Value.slice y4 VV c4).ownBlock = some b → wr.heap.size ≤ b) := fun b hb => by
              rcases hNa b hb with h1 | h1
              · simp [Value.ownBlock] at h1; omega
              · simp at h1; omega
            have HO4 := Lib.hid hOa
            have f24 := HK4.out.cell f2 (fun h => h)
            have hr04 := HK4.out.cell hr0 (fun h => h)
            have hr14 := HK4.out.cell hr1 (fun h => h)
            have hat4 := HAT.out.keep HK4.out (fun h => h)
            have hfr4 := hat4.frozen (i * 2)
            have hfr5 := hat4.frozen (i * 2 + 1)
            have hgr : g ≠ r := fun e => At.ne HAT.out HPr.out.fs (by decide) e
            have hlt4 := hat4.lt
            obtain ⟨w5, hw5⟩ : ∃ w5, w5 = (w4.setCell ⟨g, i * 2, none⟩ (.slice y4 VV c4)).setCell ⟨g, i * 2 + 1, none⟩ (.int .i64 (VV : Int)) := ⟨_, rfl⟩
            have HK5 : Hid (Keep (· = g) w4 w5) := by rw [hw5]; exact ((Keep.refl (· = g) w4).setCell (p := ⟨g, i * 2, none⟩) (fun _ => rfl) _).setCell (p := ⟨g, i * 2 + 1, none⟩) (fun _ => rfl) _
            have f25 := HK5.out.cell f24 (fun e => hgr e.symm)
            have HW5 := Lib.hid hw5
            clear hOa ka hNa hat4 hw5
            refine wpAnyH_ready (rs := [5, 13]) (by kernel_rfl) (by simp) ?_
            refine AllReadyH.cons rfl (fun K hK => ?_) (AllReadyH.cons rfl (fun K hK => ?_) AllReadyH.nil)
            · go_simp
              refine hK.out _ _ f2a (fun hHeld => ?_)
              clear hK K
              try simp only [Act.put, List.getElem_toArray, List.getElem_cons_succ, List.getElem_cons_zero, List.setIfInBounds_toArray, List.set_cons_zero, List.set_cons_succ]
              refine wpAnyH_ready (rs := [13]) (by kernel_rfl) (by simp) ?_
              refine AllReadyH.cons rfl (fun K hK => ?_) AllReadyH.nil
              go_simp
              refine hK.out _ _ f2a (fun hHeld => ?_)
              clear hK K
              try simp only [Act.put, List.getElem_toArray, List.getElem_cons_succ, List.getElem_cons_zero, List.setIfInBounds_toArray, List.set_cons_zero, List.set_cons_succ]
              refine wpAnyH_take (i := 15) (v := ?_) rfl (by kernel_rfl) (by kernel_rfl) (by kernel_rfl) (fun _ _ _ h => h) (Or.inl ⟨by rfl, ?_⟩) (by assumption) ?_
              rotate_left
              · (intro wS hSw; (try dsimp only at hSw); (try simp only [List.getElem_toArray, List.getElem_cons_succ, List.getElem_cons_zero]); go_simp; try (with_reducible rfl))
              try simp only [Act.put, List.getElem_toArray, List.getElem_cons_succ, List.getElem_cons_zero, List.setIfInBounds_toArray, List.set_cons_zero, List.set_cons_succ]
              refine wpAnyH_ready (rs := [16]) (by kernel_rfl) (by simp) ?_
              refine AllReadyH.cons rfl (fun K hK => ?_) AllReadyH.nil
              refine wp_append_run (by rfl) (by rfl) (by rfl) hra ?_
              refine hK.out _ _ f24 (fun hHeld => ?_)
              clear hK K
              try simp only [Act.put, List.getElem_toArray, List.getElem_cons_succ, List.getElem_cons_zero, List.setIfInBounds_toArray, List.set_cons_zero, List.set_cons_succ]
              refine wpAnyH_take (i := 18) (v := ?_) rfl (by kernel_rfl) (by kernel_rfl) (by kernel_rfl) (fun _ _ _ h => h) (Or.inl ⟨by rfl, ?_⟩) (by assumption) ?_
              rotate_left
              · (intro wS hSw; (try dsimp only at hSw); (try simp only [List.getElem_toArray, List.getElem_cons_succ, List.getElem_cons_zero]); go_simp; try (with_reducible rfl))
              try simp only [Act.put, List.getElem_toArray, List.getElem_cons_succ, List.getElem_cons_zero, List.setIfInBounds_toArray, List.set_cons_zero, List.set_cons_succ]
              refine wpAnyH_take (i := 19) (v := ?_) rfl (by kernel_rfl) (by kernel_rfl) (by kernel_rfl) (fun _ _ _ h => h) (Or.inl ⟨by rfl, ?_⟩) (by assumption) ?_
              rotate_left
              · (intro wS hSw; (try dsimp only at hSw); (try simp only [List.getElem_toArray, List.getElem_cons_succ, List.getElem_cons_zero]); go_simp; try (with_reducible rfl))
              try simp only [Act.put, List.getElem_toArray, List.getElem_cons_succ, List.getElem_cons_zero, List.setIfInBounds_toArray, List.set_cons_zero, List.set_cons_succ]
              refine wpAnyH_ready (rs := [20]) (by kernel_rfl) (by simp) ?_
              refine AllReadyH.cons rfl (fun K hK => ?_) AllReadyH.nil
              go_simp
              rw [← HW5.out]
              refine hK.out _ _ f25 (fun hHeld => ?_)
              clear hK K
              try simp only [Act.put, List.getElem_toArray, List.getElem_cons_succ, List.getElem_cons_zero, List.setIfInBounds_toArray, List.set_cons_zero, List.set_cons_succ]
              refine wpAnyH_done (by kernel_rfl) ?_ _
              refine NoPanic.normal ?_
              go_wp2
              go_roundw
              case rel =>
                have h4 := HPr.out.keep HK4.out (fun _ _ h => h)
                have hN' : (kfS t M i).files.length = N := by show (kf t.files M i).length = N; rw [kf_length, HN.out]
                have hfil := h4.files
                rw [hN'] at hfil
                have hrow := (hfil.put (x := none) (i * 2) (.slice y4 VV c4)).put (x := none) (i * 2 + 1) (.int .i64 (VV : Int))
                rw [← HW5.out] at hrow
                have hkf : keepF X M = ⟨X.bytes.take VV, VV⟩ := by
                  unfold keepF
                  rw [← HBl.out, ← HZl.out, HQQ.out, show Z + M = VV by have := HVV.out; omega]
                have hfc : ((fileCells fl).set (i * 2) (.slice y4 VV c4)).set (i * 2 + 1) (.int .i64 (VV : Int)) = fileCells (fl.set i (.slice y4 VV c4, keepF X M)) := by rw [fileCells_set HV2.out, hkf]
                rw [hfc] at hrow
                have hsz : w5.heap.size = w4.heap.size := by rw [HW5.out]; simp [World.setCell]
                have hw0 := HKr.out.size
                have hw4 := HK4.out.size
                have hO5 : Own w5 (.slice y4 VV c4) (keepF X M).bytes := by
                  rw [hkf]
                  exact HO4.out.keep HK5.out (fun b hb e => HO4.out.ne (HAT.out.keep HK4.out (fun h => h)) (by decide) (e ▸ hb))
                have hst := h4.store (w' := w5) (T' := Up T w w5) (q := (.slice y4 VV c4, keepF X M)) HV2.out (fun b _ h => Up.more (by omega) h) (by rw [hN']; exact hrow.mono (fun b _ h => Up.more (by omega) h)) HK5.out hO5 (fun b hb => .inr ⟨by have := HNB4.out b hb; omega, hO5.lt b hb⟩)
                rw [HXe.out, kfS_set HIL.out] at hst
                refine ⟨i + 1, by omega, by go_num, ⟨_, hst⟩, ?_⟩
                exact (HKr.out.trans (HK4.out.mono (T := T) (fun _ _ h => h.elim)) (fun _ _ h => h)).trans HK5.out (fun b hb e => by
                  rcases HPr.out.files.2 g rfl with h | ⟨h, _⟩
                  · rw [e]; exact h
                  · omega)
              case measure => simp [intOf]; omega
            · go_simp
              refine hK.out _ _ f2 (fun hHeld => ?_)
              clear hK K
              try simp only [Act.put, List.getElem_toArray, List.getElem_cons_succ, List.getElem_cons_zero, List.setIfInBounds_toArray, List.set_cons_zero, List.set_cons_succ]
              refine wpAnyH_take (i := 15) (v := ?_) rfl (by kernel_rfl) (by kernel_rfl) (by kernel_rfl) (fun _ _ _ h => h) (Or.inl ⟨by rfl, ?_⟩) (by assumption) ?_
              rotate_left
              · (intro wS hSw; (try dsimp only at hSw); (try simp only [List.getElem_toArray, List.getElem_cons_succ, List.getElem_cons_zero]); go_simp; try (with_reducible rfl))
              try simp only [Act.put, List.getElem_toArray, List.getElem_cons_succ, List.getElem_cons_zero, List.setIfInBounds_toArray, List.set_cons_zero, List.set_cons_succ]
              refine wpAnyH_ready (rs := [5]) (by kernel_rfl) (by simp) ?_
              refine AllReadyH.cons rfl (fun K hK => ?_) AllReadyH.nil
              go_simp
              refine hK.out _ _ f2a (fun hHeld => ?_)
              clear hK K
              try simp only [Act.put, List.getElem_toArray, List.getElem_cons_succ, List.getElem_cons_zero, List.setIfInBounds_toArray, List.set_cons_zero, List.set_cons_succ]
              refine wpAnyH_ready (rs := [16]) (by kernel_rfl) (by simp) ?_
              refine AllReadyH.cons rfl (fun K hK => ?_) AllReadyH.nil
              refine wp_append_run (by rfl) (by rfl) (by rfl) hra ?_
              refine hK.out _ _ f24 (fun hHeld => ?_)
              clear hK K
              try simp only [Act.put, List.getElem_toArray, List.getElem_cons_succ, List.getElem_cons_zero, List.setIfInBounds_toArray, List.set_cons_zero, List.set_cons_succ]
              refine wpAnyH_take (i := 18) (v := ?_) rfl (by kernel_rfl) (by kernel_rfl) (by kernel_rfl) (fun _ _ _ h => h) (Or.inl ⟨by rfl, ?_⟩) (by assumption) ?_
              rotate_left
              · (intro wS hSw; (try dsimp only at hSw); (try simp only [List.getElem_toArray, List.getElem_cons_succ, List.getElem_cons_zero]); go_simp; try (with_reducible rfl))
              try simp only [Act.put, List.getElem_toArray, List.getElem_cons_succ, List.getElem_cons_zero, List.setIfInBounds_toArray, List.set_cons_zero, List.set_cons_succ]
              refine wpAnyH_take (i := 19) (v := ?_) rfl (by kernel_rfl) (by kernel_rfl) (by kernel_rfl) (fun _ _ _ h => h) (Or.inl ⟨by rfl, ?_⟩) (by assumption) ?_
              rotate_left
              · (intro wS hSw; (try dsimp only at hSw); (try simp only [List.getElem_toArray, List.getElem_cons_succ, List.getElem_cons_zero]); go_simp; try (with_reducible rfl))
              try simp only [Act.put, List.getElem_toArray, List.getElem_cons_succ, List.getElem_cons_zero, List.setIfInBounds_toArray, List.set_cons_zero, List.set_cons_succ]
              refine wpAnyH_ready (rs := [20]) (by kernel_rfl) (by simp) ?_
              refine AllReadyH.cons rfl (fun K hK => ?_) AllReadyH.nil
              go_simp
              rw [← HW5.out]
              refine hK.out _ _ f25 (fun hHeld => ?_)
              clear hK K
              try simp only [Act.put, List.getElem_toArray, List.getElem_cons_succ, List.getElem_cons_zero, List.setIfInBounds_toArray, List.set_cons_zero, List.set_cons_succ]
              refine wpAnyH_done (by kernel_rfl) ?_ _
              refine NoPanic.normal ?_
              go_wp2
              go_roundw
              case rel =>
                have h4 := HPr.out.keep HK4.out (fun _ _ h => h)
                have hN' : (kfS t M i).files.length = N := by show (kf t.files M i).length = N; rw [kf_length, HN.out]
                have hfil := h4.files
                rw [hN'] at hfil
                have hrow := (hfil.put (x := none) (i * 2) (.slice y4 VV c4)).put (x := none) (i * 2 + 1) (.int .i64 (VV : Int))
                rw [← HW5.out] at hrow
                have hkf : keepF X M = ⟨X.bytes.take VV, VV⟩ := by
                  unfold keepF
                  rw [← HBl.out, ← HZl.out, HQQ.out, show Z + M = VV by have := HVV.out; omega]
                have hfc : ((fileCells fl).set (i * 2) (.slice y4 VV c4)).set (i * 2 + 1) (.int .i64 (VV : Int)) = fileCells (fl.set i (.slice y4 VV c4, keepF X M)) := by rw [fileCells_set HV2.out, hkf]
                rw [hfc] at hrow
                have hsz : w5.heap.size = w4.heap.size := by rw [HW5.out]; simp [World.setCell]
                have hw0 := HKr.out.size
                have hw4 := HK4.out.size
                have hO5 : Own w5 (.slice y4 VV c4) (keepF X M).bytes := by
                  rw [hkf]
                  exact HO4.out.keep HK5.out (fun b hb e => HO4.out.ne (HAT.out.keep HK4.out (fun h => h)) (by decide) (e ▸ hb))
                have hst := h4.store (w' := w5) (T' := Up T w w5) (q := (.slice y4 VV c4, keepF X M)) HV2.out (fun b _ h => Up.more (by omega) h) (by rw [hN']; exact hrow.mono (fun b _ h => Up.more (by omega) h)) HK5.out hO5 (fun b hb => .inr ⟨by have := HNB4.out b hb; omega, hO5.lt b hb⟩)
                rw [HXe.out, kfS_set HIL.out] at hst
                refine ⟨i + 1, by omega, by go_num, ⟨_, hst⟩, ?_⟩
                exact (HKr.out.trans (HK4.out.mono (T := T) (fun _ _ h => h.elim)) (fun _ _ h => h)).trans HK5.out (fun b hb e => by
                  rcases HPr.out.files.2 g rfl with h | ⟨h, _⟩
                  · rw [e]; exact h
                  · omega)
              case measure => simp [intOf]; omega
        · have hiN : i = t.files.length := by have := HN.out; omega
          have HI := Lib.hid hiN
          have r4 := hpr.fs.cell 4
          have r5 := hpr.fs.cell 5
          have z4 := hpr.fs.frozen 4
          have z5 := hpr.fs.frozen 5
          have hltr := hpr.fs.lt
          simp at r4 r5
          clear hiN hpr
          go_wp2
          (try simp only [Exit.inBlock, Exit.then])
          refine bodyPost_ret (results_none rfl _ _ _) rfl ?_
          obtain ⟨fl, hpr⟩ := HX.out
          obtain ⟨W, hW⟩ : ∃ W, W = (wr.setCell ⟨r, 5, none⟩ (.bool false)).setCell ⟨r, 4, none⟩ (.int .i64 (-1)) := ⟨_, rfl⟩
          have kW : Keep (· = r) wr W := by rw [hW]; exact ((Keep.refl (· = r) wr).setCell (p := ⟨r, 5, none⟩) (fun _ => rfl) _).setCell (p := ⟨r, 4, none⟩) (fun _ => rfl) _
          have hsz : W.heap.size = wr.heap.size := by rw [hW]; simp [World.setCell]
          rw [← hW]
          have hq := hpr.turn (t := crashR s dirs (M : Int)) kW (by rw [hW]; have := (hpr.fs.put 5 (.bool false)).put 4 (.int .i64 (-1)); rw [show (kfS t M i).room = s.room from HTq.out.2.2.2] at this; exact this) (by
              show (s.loose.take (min (dirs).toNat s.loose.length)).foldl app s.sure = t.sure
              rw [HTq.out.2.1]
              rw [show min (dirs).toNat s.loose.length = s.loose.length by have := HL.out; omega, List.take_length]
              rfl) (by show ([] : List Chg) = t.loose; rw [HTq.out.2.2.1]) (by
              show s.files.map (keepF · ((M : Int)).toNat) = kf t.files M i
              rw [HI.out, kf_all, HTq.out.1]
              rw [show ((M : Int)).toNat = M by omega])
          refine ⟨rfl, ⟨⟨_, _, _, _, hq.mono (fun b _ h => Up.more (by omega) h)⟩, HGd.out, HRd.out⟩, ?_⟩
          exact HKr.out.trans kW (fun b hb e => by
            rcases HPq.out.inT with h | ⟨h, _⟩
            · rw [e]; exact h
            · omega)
  · obtain ⟨D, rfl⟩ : ∃ D : Nat, dirs = (D : Int) := ⟨dirs.toNat, by omega⟩
    by_cases h0 : (D : Int) < (L : Int)
    · obtain ⟨s1, s2⟩ := cut_preT 28 71 Try.underlying28 info71 xl L cl D (by omega)
      go_enter Try.func33, Try.ntmps33
      have HPc : Hid (RP (w.setCell ⟨r, 1, none⟩ (.slice xl D cl)) T r (cutS s D) vs (.slice xl D cl) vf fl) := HP.out.cut (by have := HL.out; omega)
      have HGc : Hid (Good (cutS s D)) := cut_good HG.out D
      have HKc : Hid (Keep (· = r) w (w.setCell ⟨r, 1, none⟩ (.slice xl D cl))) := keep_put _ _
      have cD := refDir r T (cutS s D) (w.setCell ⟨r, 1, none⟩ (.slice xl D cl)) ⟨⟨_, _, _, _, HPc.out⟩, HGc.out, HRi.out⟩
      go_wp2_with fail
      refine cD.mono ?_
      rintro e w3 ⟨du, rfl, hR3, k3⟩
      have HR3 := Lib.hid hR3
      have HK3 := Lib.hid k3
      obtain ⟨xu, cu, hu, _, _⟩ := ownsRow_shape hR3.1
      obtain ⟨EE, hEE⟩ : ∃ EE, EE = (ents (cutS s D).now).length := ⟨_, rfl⟩
      rw [← hEE] at hu
      subst hu
      have hA3 := HPc.out.fs.keep k3 (fun h => h)
      have d0 := hA3.cell 0
      have d1 := hA3.cell 1
      have g0 := hA3.frozen 0
      have g1 := hA3.frozen 1
      have hlt3 := hA3.lt
      simp at d0 d1
      clear hA3 hR3 k3 cD c0 c1 f1 hlt hEE
      go_wp2
      obtain ⟨wq, hwq⟩ : ∃ wq, wq = (w3.setCell ⟨r, 0, none⟩ (.slice xu EE cu)).setCell ⟨r, 1, none⟩ (.slice none 0 0) := ⟨_, rfl⟩
      rw [← hwq]
      obtain ⟨hpq, kq⟩ := HPc.out.settle HK3.out HR3.out
      rw [← hwq] at hpq kq
      obtain ⟨t, ht⟩ : ∃ t : St, t = { cutS s D with sure := (cutS s D).now, loose := [] } := ⟨_, rfl⟩
      rw [← ht] at hpq
      have hszq : wq.heap.size = w3.heap.size := by rw [hwq]; simp [World.setCell]
      have HTq := Lib.hid (show t.files = s.files ∧ t.sure = (cutS s D).now ∧ t.loose = [] ∧ t.room = s.room from by rw [ht]; exact ⟨rfl, rfl, rfl, rfl⟩)
      have hGt : ∀ x ∈ t.files, x.sure ≤ x.bytes.length ∧ x.bytes.length ≤ 16777216 := fun x hx => ⟨HG.out.sure x (by rw [HTq.out.1] at hx; exact hx), HG.out.len x (by rw [HTq.out.1] at hx; exact hx)⟩
      have HGt := Lib.hid hGt
      obtain ⟨N, hN⟩ : ∃ N, N = t.files.length := ⟨_, rfl⟩
      have hNl : N ≤ 1000000 := by have h1 := HG.out.bulk; unfold St.bulk at h1; rw [hN, HTq.out.1]; omega
      have HN := Lib.hid hN
      have HKq : Hid (Keep T w wq) := ((HKc.out.mono (T := T) (fun b _ e => by rw [e]; exact HPc.out.inT)).trans (HK3.out.mono (T := T) (fun _ _ h => h.elim)) (fun _ _ h => h)).trans (kq.mono (T := T) (fun b _ e => by rw [e]; exact HPc.out.inT)) (fun _ _ h => h)
      have HPq : Hid (RP wq (Up T w wq) r t (.slice xu EE cu) (.slice none 0 0) vf fl) := hpq.mono (fun b _ h => by
        have h1 := HKc.out.size
        have h2 := HK3.out.size
        rcases h with h | ⟨h3, h4⟩
        · exact .inl h
        · exact .inr ⟨by omega, by omega⟩)
      clear hpq kq hwq hszq hGt ht hN d0 d1 g0 g1 hlt3 HR3 HK3
      obtain ⟨xf, cf, hvf, hcf, _⟩ := ownsRow_shape HPq.out.files.1
      rw [← HN.out] at hvf hcf
      subst hvf
      go_loopw [6, 7] (fun z _ wr => ∃ i : Nat, i ≤ N ∧ z = .int .i64 (i : Int) ∧ Hid (∃ fl, RP wr (Up T w wr) r (kfS t M i) (.slice xu EE cu) (.slice none 0 0) (.slice xf N cf) fl) ∧ Hid (Keep T w wr)) (fun z _ _ => N - (intOf z).toNat)
      case atStart => exact ⟨0, by omega, rfl, ⟨fl, by unfold kfS; rw [kf_zero]; exact HPq.out⟩, HKq.out⟩
      case round =>
        obtain ⟨i, hi, rfl, HX, HKr⟩ := hrel
        obtain ⟨fl, hpr⟩ := HX.out
        have HPr := Lib.hid hpr
        have f2 := hpr.fs.cell 2
        simp at f2
        by_cases h8 : (i : Int) < (N : Int)
        · have hil : i < t.files.length := by have := HN.out; omega
          obtain ⟨v, hv, hO⟩ := hpr.fat (i := i) (by show i < (kf t.files M i).length; rw [kf_length]; exact hil)
          rw [kfS_file hil] at hv hO
          obtain ⟨g, cap, hvf, hnc, hgT, ⟨cs, hat⟩, hcell⟩ := row_cells hpr.files (by show 0 < (kf t.files M i).length; rw [kf_length]; omega)
          injection hvf with hxf _ _
          subst hxf
          have hr0 := hcell _ _ (fileCells_at hv).1
          have hr1 := hcell _ _ (fileCells_at hv).2
          obtain ⟨y, cy, hvy, _⟩ := hO.shape
          have hXm := HGt.out _ (file_mem hil)
          simp only at hr0 hr1
          rw [hvy] at hv hO hr0
          obtain ⟨X, hX⟩ : ∃ X, X = t.file i := ⟨_, rfl⟩
          rw [← hX] at hv hO hr0 hr1 hXm
          have HXe := Lib.hid hX
          obtain ⟨B, hB2⟩ : ∃ B, B = X.bytes.length := ⟨_, rfl⟩
          obtain ⟨Z, hZ⟩ : ∃ Z, Z = X.sure := ⟨_, rfl⟩
          rw [← hB2] at hv hO hr0 hXm
          rw [← hZ] at hr1 hXm
          have hZB := hXm.1
          have hBm := hXm.2
          have hcy := hO.cap_le
          have HV2 := Lib.hid hv
          have HBl := Lib.hid hB2
          have HZl := Lib.hid hZ
          have HOw := Lib.hid hO
          have HAT := Lib.hid hat
          have hgl := hat.lt
          have HIL := Lib.hid hil
          clear hv hO hat hcell hX hB2 hZ hil hXm hpr HX hvy hnc hgT
          by_cases hmore : ((B : Int) - (Z : Int)) < (M : Int)
          · have hq : min M (B - Z) = B - Z := by omega
            go_wp2
            have HQQ := Lib.hid hq
            have HVV := Lib.hid hZB
            clear hq hmore
            obtain ⟨s1, s2⟩ := cut_preT 32 5 Try.underlying32 info5 y B cy B (by omega)
            refine wp_region_noPanic ?_
            refine wp_region_held_drew (S := fun w' => w'.cell? ⟨r, 2, none⟩ = some (.slice (some ⟨g, 0, none⟩) N cf)) (by kernel_rfl) f2 (fun hHeld => ?_)
            refine wpAnyH_take (i := 0) (v := ?_) rfl (by kernel_rfl) (by kernel_rfl) (by kernel_rfl) (fun _ _ _ h => h) (Or.inl ⟨by rfl, ?_⟩) (by assumption) ?_
            rotate_left
            · (intro wS hSw; (try dsimp only at hSw); (try simp only [List.getElem_toArray, List.getElem_cons_succ, List.getElem_cons_zero]); go_simp; try (with_reducible rfl))
            try simp only [Act.put, List.getElem_toArray, List.getElem_cons_succ, List.getElem_cons_zero, List.setIfInBounds_toArray, List.set_cons_zero, List.set_cons_succ]
            refine wpAnyH_take (i := 1) (v := ?_) rfl (by kernel_rfl) (by kernel_rfl) (by kernel_rfl) (fun _ _ _ h => h) (Or.inl ⟨by rfl, ?_⟩) (by assumption) ?_
            rotate_left
            · (intro wS hSw; (try dsimp only at hSw); (try simp only [List.getElem_toArray, List.getElem_cons_succ, List.getElem_cons_zero]); go_simp; try (with_reducible rfl))
            try simp only [Act.put, List.getElem_toArray, List.getElem_cons_succ, List.getElem_cons_zero, List.setIfInBounds_toArray, List.set_cons_zero, List.set_cons_succ]
            refine wpAnyH_take (i := 2) (v := ?_) rfl (by kernel_rfl) (by kernel_rfl) (by kernel_rfl) (fun _ _ _ h => h) (Or.inl ⟨by rfl, ?_⟩) (by assumption) ?_
            rotate_left
            · (intro wS hSw; (try dsimp only at hSw); (try simp only [List.getElem_toArray, List.getElem_cons_succ, List.getElem_cons_zero]); go_simp; try (with_reducible rfl))
            try simp only [Act.put, List.getElem_toArray, List.getElem_cons_succ, List.getElem_cons_zero, List.setIfInBounds_toArray, List.set_cons_zero, List.set_cons_succ]
            refine wpAnyH_take (i := 3) (v := ?_) rfl (by kernel_rfl) (by kernel_rfl) (by kernel_rfl) (fun _ _ _ h => h) (Or.inl ⟨by rfl, ?_⟩) (by assumption) ?_
            rotate_left
            · (intro wS hSw; (try dsimp only at hSw); (try simp only [List.getElem_toArray, List.getElem_cons_succ, List.getElem_cons_zero]); go_simp; try (with_reducible rfl))
            try simp only [Act.put, List.getElem_toArray, List.getElem_cons_succ, List.getElem_cons_zero, List.setIfInBounds_toArray, List.set_cons_zero, List.set_cons_succ]
            refine wpAnyH_take (i := 4) (v := ?_) rfl (by kernel_rfl) (by kernel_rfl) (by kernel_rfl) (fun _ _ _ h => h) (Or.inl ⟨by rfl, ?_⟩) (by assumption) ?_
            rotate_left
            · (intro wS hSw; (try dsimp only at hSw); (try simp only [List.getElem_toArray, List.getElem_cons_succ, List.getElem_cons_zero]); go_simp; try (with_reducible rfl))
            try simp only [Act.put, List.getElem_toArray, List.getElem_cons_succ, List.getElem_cons_zero, List.setIfInBounds_toArray, List.set_cons_zero, List.set_cons_succ]
            refine wpAnyH_take (i := 6) (v := ?_) rfl (by kernel_rfl) (by kernel_rfl) (by kernel_rfl) (fun _ _ _ h => h) (Or.inl ⟨by rfl, ?_⟩) (by assumption) ?_
            rotate_left
            · (intro wS hSw; (try dsimp only at hSw); (try simp only [List.getElem_toArray, List.getElem_cons_succ, List.getElem_cons_zero]); go_simp; try (with_reducible rfl))
            try simp only [Act.put, List.getElem_toArray, List.getElem_cons_succ, List.getElem_cons_zero, List.setIfInBounds_toArray, List.set_cons_zero, List.set_cons_succ]
            refine wpAnyH_take (i := 7) (v := ?_) rfl (by kernel_rfl) (by kernel_rfl) (by kernel_rfl) (fun _ _ _ h => h) (Or.inl ⟨by rfl, ?_⟩) (by assumption) ?_
            rotate_left
            · (intro wS hSw; (try dsimp only at hSw); (try simp only [List.getElem_toArray, List.getElem_cons_succ, List.getElem_cons_zero]); go_simp; try (with_reducible rfl))
            try simp only [Act.put, List.getElem_toArray, List.getElem_cons_succ, List.getElem_cons_zero, List.setIfInBounds_toArray, List.set_cons_zero, List.set_cons_succ]
            refine wpAnyH_take (i := 8) (v := ?_) rfl (by kernel_rfl) (by kernel_rfl) (by kernel_rfl) (fun _ _ _ h => h) (Or.inl ⟨by rfl, ?_⟩) (by assumption) ?_
            rotate_left
            · (intro wS hSw; (try dsimp only at hSw); (try simp only [List.getElem_toArray, List.getElem_cons_succ, List.getElem_cons_zero]); go_simp; try (with_reducible rfl))
            try simp only [Act.put, List.getElem_toArray, List.getElem_cons_succ, List.getElem_cons_zero, List.setIfInBounds_toArray, List.set_cons_zero, List.set_cons_succ]
            refine wpAnyH_take (i := 9) (v := ?_) rfl (by kernel_rfl) (by kernel_rfl) (by kernel_rfl) (fun _ _ _ h => h) (Or.inl ⟨by rfl, ?_⟩) (by assumption) ?_
            rotate_left
            · (intro wS hSw; (try dsimp only at hSw); (try simp only [List.getElem_toArray, List.getElem_cons_succ, List.getElem_cons_zero]); go_simp; try (with_reducible rfl))
            try simp only [Act.put, List.getElem_toArray, List.getElem_cons_succ, List.getElem_cons_zero, List.setIfInBounds_toArray, List.set_cons_zero, List.set_cons_succ]
            refine wpAnyH_take (i := 10) (v := ?_) rfl (by kernel_rfl) (by kernel_rfl) (by kernel_rfl) (fun _ _ _ h => h) (Or.inl ⟨by rfl, ?_⟩) (by assumption) ?_
            rotate_left
            · (intro wS hSw; (try dsimp only at hSw); (try simp only [List.getElem_toArray, List.getElem_cons_succ, List.getElem_cons_zero]); go_simp; try (with_reducible rfl))
            try simp only [Act.put, List.getElem_toArray, List.getElem_cons_succ, List.getElem_cons_zero, List.setIfInBounds_toArray, List.set_cons_zero, List.set_cons_succ]
            refine wpAnyH_take (i := 11) (v := ?_) rfl (by kernel_rfl) (by kernel_rfl) (by kernel_rfl) (fun _ _ _ h => h) (Or.inl ⟨by rfl, ?_⟩) (by assumption) ?_
            rotate_left
            · (intro wS hSw; (try dsimp only at hSw); (try simp only [List.getElem_toArray, List.getElem_cons_succ, List.getElem_cons_zero]); go_simp; try (with_reducible rfl))
            try simp only [Act.put, List.getElem_toArray, List.getElem_cons_succ, List.getElem_cons_zero, List.setIfInBounds_toArray, List.set_cons_zero, List.set_cons_succ]
            refine wpAnyH_take (i := 12) (v := ?_) rfl (by kernel_rfl) (by kernel_rfl) (by kernel_rfl) (fun _ _ _ h => h) (Or.inl ⟨by rfl, ?_⟩) (by assumption) ?_
            rotate_left
            · (intro wS hSw; (try dsimp only at hSw); (try simp only [List.getElem_toArray, List.getElem_cons_succ, List.getElem_cons_zero]); go_simp; try (with_reducible rfl))
            try simp only [Act.put, List.getElem_toArray, List.getElem_cons_succ, List.getElem_cons_zero, List.setIfInBounds_toArray, List.set_cons_zero, List.set_cons_succ]
            refine wpAnyH_take (i := 14) (v := ?_) rfl (by kernel_rfl) (by kernel_rfl) (by kernel_rfl) (fun _ _ _ h => h) (Or.inl ⟨by rfl, ?_⟩) (by assumption) ?_
            rotate_left
            · (intro wS hSw; (try dsimp only at hSw); (try simp only [List.getElem_toArray, List.getElem_cons_succ, List.getElem_cons_zero]); go_simp; try (with_reducible rfl))
            try simp only [Act.put, List.getElem_toArray, List.getElem_cons_succ, List.getElem_cons_zero, List.setIfInBounds_toArray, List.set_cons_zero, List.set_cons_succ]
            refine wpAnyH_take (i := 17) (v := ?_) rfl (by kernel_rfl) (by kernel_rfl) (by kernel_rfl) (fun _ _ _ h => h) (Or.inl ⟨by rfl, ?_⟩) (by assumption) ?_
            rotate_left
            · (intro wS hSw; (try dsimp only at hSw); (try simp only [List.getElem_toArray, List.getElem_cons_succ, List.getElem_cons_zero]); go_simp; try (with_reducible rfl))
            try simp only [Act.put, List.getElem_toArray, List.getElem_cons_succ, List.getElem_cons_zero, List.setIfInBounds_toArray, List.set_cons_zero, List.set_cons_succ]
            have hr0a : ((wr.alloc (.cells #[] 5)).drew).cell? ⟨g, i * 2, none⟩ = some (.slice y B cy) := ((Keep.refl (fun _ => False) wr).alloc (.cells #[] 5)).drew.cell hr0 (fun h => h)
            have hr0d : wr.drew.cell? ⟨g, i * 2, none⟩ = some (.slice y B cy) := hr0
            have f2a : ((wr.alloc (.cells #[] 5)).drew).cell? ⟨r, 2, none⟩ = some (.slice (some ⟨g, 0, none⟩) N cf) := ((Keep.refl (fun _ => False) wr).alloc (.cells #[] 5)).drew.cell f2 (fun h => h)
            have hln : (X.bytes.take B).length = B := by rw [List.length_take, ← HBl.out]; omega
            obtain ⟨y4, c4, w4, hra, hOa, ka, hNa⟩ := run_append_bytes 32 ((wr.alloc (.cells #[] 5)).drew) (.slice (some ⟨wr.heap.size, 0, none⟩) 0 0) [] (empty_row wr) (fun _ => True) y B cy (X.bytes.take B) hln (((HOw.out.bytes.take B).mono (fun _ _ _ => trivial)).quiet ((Keep.refl (fun _ => False) wr).alloc (.cells #[] 5)).drew) (by simp only [List.length_nil]; omega)
            simp only [List.length_nil, Nat.zero_add, List.nil_append] at hra hOa hNa
            have HK4 : Hid (Keep (fun _ => False) wr w4) := ((Keep.refl (fun _ => False) wr).alloc (.cells #[] 5)).drew.trans ka (fun b hb e => by simp [Value.ownBlock] at e; omega)
            have HNB4 : Hid (∀ b, (Value.slice y4 B c4).ownBlock = some b → wr.heap.size ≤ b) := fun b hb => by
              rcases hNa b hb with h1 | h1
              · simp [Value.ownBlock] at h1; omega
              · simp at h1; omega
            have HO4 := Lib.hid hOa
            have f24 := HK4.out.cell f2 (fun h => h)
            have hr04 := HK4.out.cell hr0 (fun h => h)
            have hr14 := HK4.out.cell hr1 (fun h => h)
            have hat4 := HAT.out.keep HK4.out (fun h => h)
            have hfr4 := hat4.frozen (i * 2)
            have hfr5 := hat4.frozen (i * 2 + 1)
            have hgr : g ≠ r := fun e => At.ne HAT.out HPr.out.fs (by decide) e
            have hlt4 := hat4.lt
            obtain ⟨w5, hw5⟩ : ∃ w5, w5 = (w4.setCell ⟨g, i * 2, none⟩ (.slice y4 B c4)).setCell ⟨g, i * 2 + 1, none⟩ (.int .i64 (B : Int)) := ⟨_, rfl⟩
            have HK5 : Hid (Keep (· = g) w4 w5) := by rw [hw5]; exact ((Keep.refl (· = g) w4).setCell (p := ⟨g, i * 2, none⟩) (fun _ => rfl) _).setCell (p := ⟨g, i * 2 + 1, none⟩) (fun _ => rfl) _
            have f25 := HK5.out.cell f24 (fun e => hgr e.symm)
            have HW5 := Lib.hid hw5
            clear hOa ka hNa hat4 hw5
            refine wpAnyH_ready (rs := [5, 13]) (by kernel_rfl) (by simp) ?_
            refine AllReadyH.cons rfl (fun K hK => ?_) (AllReadyH.cons rfl (fun K hK => ?_) AllReadyH.nil)
            · go_simp
              refine hK.out _ _ f2a (fun hHeld => ?_)
              clear hK K
              try simp only [Act.put, List.getElem_toArray, List.getElem_cons_succ, List.getElem_cons_zero, List.setIfInBounds_toArray, List.set_cons_zero, List.set_cons_succ]
              refine wpAnyH_ready (rs := [13]) (by kernel_rfl) (by simp) ?_
              refine AllReadyH.cons rfl (fun K hK => ?_) AllReadyH.nil
              go_simp
              refine hK.out _ _ f2a (fun hHeld => ?_)
              clear hK K
              try simp only [Act.put, List.getElem_toArray, List.getElem_cons_succ, List.getElem_cons_zero, List.setIfInBounds_toArray, List.set_cons_zero, List.set_cons_succ]
              refine wpAnyH_take (i := 15) (v := ?_) rfl (by kernel_rfl) (by kernel_rfl) (by kernel_rfl) (fun _ _ _ h => h) (Or.inl ⟨by rfl, ?_⟩) (by assumption) ?_
              rotate_left
              · (intro wS hSw; (try dsimp only at hSw); (try simp only [List.getElem_toArray, List.getElem_cons_succ, List.getElem_cons_zero]); go_simp; try (with_reducible rfl))
              try simp only [Act.put, List.getElem_toArray, List.getElem_cons_succ, List.getElem_cons_zero, List.setIfInBounds_toArray, List.set_cons_zero, List.set_cons_succ]
              refine wpAnyH_ready (rs := [16]) (by kernel_rfl) (by simp) ?_
              refine AllReadyH.cons rfl (fun K hK => ?_) AllReadyH.nil
              refine wp_append_run (by rfl) (by rfl) (by rfl) hra ?_
              refine hK.out _ _ f24 (fun hHeld => ?_)
              clear hK K
              try simp only [Act.put, List.getElem_toArray, List.getElem_cons_succ, List.getElem_cons_zero, List.setIfInBounds_toArray, List.set_cons_zero, List.set_cons_succ]
              refine wpAnyH_take (i := 18) (v := ?_) rfl (by kernel_rfl) (by kernel_rfl) (by kernel_rfl) (fun _ _ _ h => h) (Or.inl ⟨by rfl, ?_⟩) (by assumption) ?_
              rotate_left
              · (intro wS hSw; (try dsimp only at hSw); (try simp only [List.getElem_toArray, List.getElem_cons_succ, List.getElem_cons_zero]); go_simp; try (with_reducible rfl))
              try simp only [Act.put, List.getElem_toArray, List.getElem_cons_succ, List.getElem_cons_zero, List.setIfInBounds_toArray, List.set_cons_zero, List.set_cons_succ]
              refine wpAnyH_take (i := 19) (v := ?_) rfl (by kernel_rfl) (by kernel_rfl) (by kernel_rfl) (fun _ _ _ h => h) (Or.inl ⟨by rfl, ?_⟩) (by assumption) ?_
              rotate_left
              · (intro wS hSw; (try dsimp only at hSw); (try simp only [List.getElem_toArray, List.getElem_cons_succ, List.getElem_cons_zero]); go_simp; try (with_reducible rfl))
              try simp only [Act.put, List.getElem_toArray, List.getElem_cons_succ, List.getElem_cons_zero, List.setIfInBounds_toArray, List.set_cons_zero, List.set_cons_succ]
              refine wpAnyH_ready (rs := [20]) (by kernel_rfl) (by simp) ?_
              refine AllReadyH.cons rfl (fun K hK => ?_) AllReadyH.nil
              go_simp
              rw [← HW5.out]
              refine hK.out _ _ f25 (fun hHeld => ?_)
              clear hK K
              try simp only [Act.put, List.getElem_toArray, List.getElem_cons_succ, List.getElem_cons_zero, List.setIfInBounds_toArray, List.set_cons_zero, List.set_cons_succ]
              refine wpAnyH_done (by kernel_rfl) ?_ _
              refine NoPanic.normal ?_
              go_wp2
              go_roundw
              case rel =>
                have h4 := HPr.out.keep HK4.out (fun _ _ h => h)
                have hN' : (kfS t M i).files.length = N := by show (kf t.files M i).length = N; rw [kf_length, HN.out]
                have hfil := h4.files
                rw [hN'] at hfil
                have hrow := (hfil.put (x := none) (i * 2) (.slice y4 B c4)).put (x := none) (i * 2 + 1) (.int .i64 (B : Int))
                rw [← HW5.out] at hrow
                have hkf : keepF X M = ⟨X.bytes.take B, B⟩ := by
                  unfold keepF
                  rw [← HBl.out, ← HZl.out, HQQ.out, show Z + (B - Z) = B by have := HVV.out; omega]
                have hfc : ((fileCells fl).set (i * 2) (.slice y4 B c4)).set (i * 2 + 1) (.int .i64 (B : Int)) = fileCells (fl.set i (.slice y4 B c4, keepF X M)) := by rw [fileCells_set HV2.out, hkf]
                rw [hfc] at hrow
                have hsz : w5.heap.size = w4.heap.size := by rw [HW5.out]; simp [World.setCell]
                have hw0 := HKr.out.size
                have hw4 := HK4.out.size
                have hO5 : Own w5 (.slice y4 B c4) (keepF X M).bytes := by
                  rw [hkf]
                  exact HO4.out.keep HK5.out (fun b hb e => HO4.out.ne (HAT.out.keep HK4.out (fun h => h)) (by decide) (e ▸ hb))
                have hst := h4.store (w' := w5) (T' := Up T w w5) (q := (.slice y4 B c4, keepF X M)) HV2.out (fun b _ h => Up.more (by omega) h) (by rw [hN']; exact hrow.mono (fun b _ h => Up.more (by omega) h)) HK5.out hO5 (fun b hb => .inr ⟨by have := HNB4.out b hb; omega, hO5.lt b hb⟩)
                rw [HXe.out, kfS_set HIL.out] at hst
                refine ⟨i + 1, by omega, by go_num, ⟨_, hst⟩, ?_⟩
                exact (HKr.out.trans (HK4.out.mono (T := T) (fun _ _ h => h.elim)) (fun _ _ h => h)).trans HK5.out (fun b hb e => by
                  rcases HPr.out.files.2 g rfl with h | ⟨h, _⟩
                  · rw [e]; exact h
                  · omega)
              case measure => simp [intOf]; omega
            · go_simp
              refine hK.out _ _ f2 (fun hHeld => ?_)
              clear hK K
              try simp only [Act.put, List.getElem_toArray, List.getElem_cons_succ, List.getElem_cons_zero, List.setIfInBounds_toArray, List.set_cons_zero, List.set_cons_succ]
              refine wpAnyH_take (i := 15) (v := ?_) rfl (by kernel_rfl) (by kernel_rfl) (by kernel_rfl) (fun _ _ _ h => h) (Or.inl ⟨by rfl, ?_⟩) (by assumption) ?_
              rotate_left
              · (intro wS hSw; (try dsimp only at hSw); (try simp only [List.getElem_toArray, List.getElem_cons_succ, List.getElem_cons_zero]); go_simp; try (with_reducible rfl))
              try simp only [Act.put, List.getElem_toArray, List.getElem_cons_succ, List.getElem_cons_zero, List.setIfInBounds_toArray, List.set_cons_zero, List.set_cons_succ]
              refine wpAnyH_ready (rs := [5]) (by kernel_rfl) (by simp) ?_
              refine AllReadyH.cons rfl (fun K hK => ?_) AllReadyH.nil
              go_simp
              refine hK.out _ _ f2a (fun hHeld => ?_)
              clear hK K
              try simp only [Act.put, List.getElem_toArray, List.getElem_cons_succ, List.getElem_cons_zero, List.setIfInBounds_toArray, List.set_cons_zero, List.set_cons_succ]
              refine wpAnyH_ready (rs := [16]) (by kernel_rfl) (by simp) ?_
              refine AllReadyH.cons rfl (fun K hK => ?_) AllReadyH.nil
              refine wp_append_run (by rfl) (by rfl) (by rfl) hra ?_
              refine hK.out _ _ f24 (fun hHeld => ?_)
              clear hK K
              try simp only [Act.put, List.getElem_toArray, List.getElem_cons_succ, List.getElem_cons_zero, List.setIfInBounds_toArray, List.set_cons_zero, List.set_cons_succ]
              refine wpAnyH_take (i := 18) (v := ?_) rfl (by kernel_rfl) (by kernel_rfl) (by kernel_rfl) (fun _ _ _ h => h) (Or.inl ⟨by rfl, ?_⟩) (by assumption) ?_
              rotate_left
              · (intro wS hSw; (try dsimp only at hSw); (try simp only [List.getElem_toArray, List.getElem_cons_succ, List.getElem_cons_zero]); go_simp; try (with_reducible rfl))
              try simp only [Act.put, List.getElem_toArray, List.getElem_cons_succ, List.getElem_cons_zero, List.setIfInBounds_toArray, List.set_cons_zero, List.set_cons_succ]
              refine wpAnyH_take (i := 19) (v := ?_) rfl (by kernel_rfl) (by kernel_rfl) (by kernel_rfl) (fun _ _ _ h => h) (Or.inl ⟨by rfl, ?_⟩) (by assumption) ?_
              rotate_left
              · (intro wS hSw; (try dsimp only at hSw); (try simp only [List.getElem_toArray, List.getElem_cons_succ, List.getElem_cons_zero]); go_simp; try (with_reducible rfl))
              try simp only [Act.put, List.getElem_toArray, List.getElem_cons_succ, List.getElem_cons_zero, List.setIfInBounds_toArray, List.set_cons_zero, List.set_cons_succ]
              refine wpAnyH_ready (rs := [20]) (by kernel_rfl) (by simp) ?_
              refine AllReadyH.cons rfl (fun K hK => ?_) AllReadyH.nil
              go_simp
              rw [← HW5.out]
              refine hK.out _ _ f25 (fun hHeld => ?_)
              clear hK K
              try simp only [Act.put, List.getElem_toArray, List.getElem_cons_succ, List.getElem_cons_zero, List.setIfInBounds_toArray, List.set_cons_zero, List.set_cons_succ]
              refine wpAnyH_done (by kernel_rfl) ?_ _
              refine NoPanic.normal ?_
              go_wp2
              go_roundw
              case rel =>
                have h4 := HPr.out.keep HK4.out (fun _ _ h => h)
                have hN' : (kfS t M i).files.length = N := by show (kf t.files M i).length = N; rw [kf_length, HN.out]
                have hfil := h4.files
                rw [hN'] at hfil
                have hrow := (hfil.put (x := none) (i * 2) (.slice y4 B c4)).put (x := none) (i * 2 + 1) (.int .i64 (B : Int))
                rw [← HW5.out] at hrow
                have hkf : keepF X M = ⟨X.bytes.take B, B⟩ := by
                  unfold keepF
                  rw [← HBl.out, ← HZl.out, HQQ.out, show Z + (B - Z) = B by have := HVV.out; omega]
                have hfc : ((fileCells fl).set (i * 2) (.slice y4 B c4)).set (i * 2 + 1) (.int .i64 (B : Int)) = fileCells (fl.set i (.slice y4 B c4, keepF X M)) := by rw [fileCells_set HV2.out, hkf]
                rw [hfc] at hrow
                have hsz : w5.heap.size = w4.heap.size := by rw [HW5.out]; simp [World.setCell]
                have hw0 := HKr.out.size
                have hw4 := HK4.out.size
                have hO5 : Own w5 (.slice y4 B c4) (keepF X M).bytes := by
                  rw [hkf]
                  exact HO4.out.keep HK5.out (fun b hb e => HO4.out.ne (HAT.out.keep HK4.out (fun h => h)) (by decide) (e ▸ hb))
                have hst := h4.store (w' := w5) (T' := Up T w w5) (q := (.slice y4 B c4, keepF X M)) HV2.out (fun b _ h => Up.more (by omega) h) (by rw [hN']; exact hrow.mono (fun b _ h => Up.more (by omega) h)) HK5.out hO5 (fun b hb => .inr ⟨by have := HNB4.out b hb; omega, hO5.lt b hb⟩)
                rw [HXe.out, kfS_set HIL.out] at hst
                refine ⟨i + 1, by omega, by go_num, ⟨_, hst⟩, ?_⟩
                exact (HKr.out.trans (HK4.out.mono (T := T) (fun _ _ h => h.elim)) (fun _ _ h => h)).trans HK5.out (fun b hb e => by
                  rcases HPr.out.files.2 g rfl with h | ⟨h, _⟩
                  · rw [e]; exact h
                  · omega)
              case measure => simp [intOf]; omega
          · have hq : min M (B - Z) = M := by omega
            go_wp2
            have HQQ := Lib.hid hq
            obtain ⟨VV, hVV⟩ : ∃ VV : Nat, VV = Z + M := ⟨_, rfl⟩
            have hNB : VV ≤ B := by omega
            clear hq hmore
            rw [show (Z : Int) + (M : Int) = (VV : Int) by omega]
            have HVV := Lib.hid hVV
            clear hVV
            obtain ⟨s1, s2⟩ := cut_preT 32 5 Try.underlying32 info5 y B cy VV (by omega)
            refine wp_region_noPanic ?_
            refine wp_region_held_drew (S := fun w' => w'.cell? ⟨r, 2, none⟩ = some (.slice (some ⟨g, 0, none⟩) N cf)) (by kernel_rfl) f2 (fun hHeld => ?_)
            refine wpAnyH_take (i := 0) (v := ?_) rfl (by kernel_rfl) (by kernel_rfl) (by kernel_rfl) (fun _ _ _ h => h) (Or.inl ⟨by rfl, ?_⟩) (by assumption) ?_
            rotate_left
            · (intro wS hSw; (try dsimp only at hSw); (try simp only [List.getElem_toArray, List.getElem_cons_succ, List.getElem_cons_zero]); go_simp; try (with_reducible rfl))
            try simp only [Act.put, List.getElem_toArray, List.getElem_cons_succ, List.getElem_cons_zero, List.setIfInBounds_toArray, List.set_cons_zero, List.set_cons_succ]
            refine wpAnyH_take (i := 1) (v := ?_) rfl (by kernel_rfl) (by kernel_rfl) (by kernel_rfl) (fun _ _ _ h => h) (Or.inl ⟨by rfl, ?_⟩) (by assumption) ?_
            rotate_left
            · (intro wS hSw; (try dsimp only at hSw); (try simp only [List.getElem_toArray, List.getElem_cons_succ, List.getElem_cons_zero]); go_simp; try (with_reducible rfl))
            try simp only [Act.put, List.getElem_toArray, List.getElem_cons_succ, List.getElem_cons_zero, List.setIfInBounds_toArray, List.set_cons_zero, List.set_cons_succ]
            refine wpAnyH_take (i := 2) (v := ?_) rfl (by kernel_rfl) (by kernel_rfl) (by kernel_rfl) (fun _ _ _ h => h) (Or.inl ⟨by rfl, ?_⟩) (by assumption) ?_
            rotate_left
            · (intro wS hSw; (try dsimp only at hSw); (try simp only [List.getElem_toArray, List.getElem_cons_succ, List.getElem_cons_zero]); go_simp; try (with_reducible rfl))
            try simp only [Act.put, List.getElem_toArray, List.getElem_cons_succ, List.getElem_cons_zero, List.setIfInBounds_toArray, List.set_cons_zero, List.set_cons_succ]
            refine wpAnyH_take (i := 3) (v := ?_) rfl (by kernel_rfl) (by kernel_rfl) (by kernel_rfl) (fun _ _ _ h => h) (Or.inl ⟨by rfl, ?_⟩) (by assumption) ?_
            rotate_left
            · (intro wS hSw; (try dsimp only at hSw); (try simp only [List.getElem_toArray, List.getElem_cons_succ, List.getElem_cons_zero]); go_simp; try (with_reducible rfl))
            try simp only [Act.put, List.getElem_toArray, List.getElem_cons_succ, List.getElem_cons_zero, List.setIfInBounds_toArray, List.set_cons_zero, List.set_cons_succ]
            refine wpAnyH_take (i := 4) (v := ?_) rfl (by kernel_rfl) (by kernel_rfl) (by kernel_rfl) (fun _ _ _ h => h) (Or.inl ⟨by rfl, ?_⟩) (by assumption) ?_
            rotate_left
            · (intro wS hSw; (try dsimp only at hSw); (try simp only [List.getElem_toArray, List.getElem_cons_succ, List.getElem_cons_zero]); go_simp; try (with_reducible rfl))
            try simp only [Act.put, List.getElem_toArray, List.getElem_cons_succ, List.getElem_cons_zero, List.setIfInBounds_toArray, List.set_cons_zero, List.set_cons_succ]
            refine wpAnyH_take (i := 6) (v := ?_) rfl (by kernel_rfl) (by kernel_rfl) (by kernel_rfl) (fun _ _ _ h => h) (Or.inl ⟨by rfl, ?_⟩) (by assumption) ?_
            rotate_left
            · (intro wS hSw; (try dsimp only at hSw); (try simp only [List.getElem_toArray, List.getElem_cons_succ, List.getElem_cons_zero]); go_simp; try (with_reducible rfl))
            try simp only [Act.put, List.getElem_toArray, List.getElem_cons_succ, List.getElem_cons_zero, List.setIfInBounds_toArray, List.set_cons_zero, List.set_cons_succ]
            refine wpAnyH_take (i := 7) (v := ?_) rfl (by kernel_rfl) (by kernel_rfl) (by kernel_rfl) (fun _ _ _ h => h) (Or.inl ⟨by rfl, ?_⟩) (by assumption) ?_
            rotate_left
            · (intro wS hSw; (try dsimp only at hSw); (try simp only [List.getElem_toArray, List.getElem_cons_succ, List.getElem_cons_zero]); go_simp; try (with_reducible rfl))
            try simp only [Act.put, List.getElem_toArray, List.getElem_cons_succ, List.getElem_cons_zero, List.setIfInBounds_toArray, List.set_cons_zero, List.set_cons_succ]
            refine wpAnyH_take (i := 8) (v := ?_) rfl (by kernel_rfl) (by kernel_rfl) (by kernel_rfl) (fun _ _ _ h => h) (Or.inl ⟨by rfl, ?_⟩) (by assumption) ?_
            rotate_left
            · (intro wS hSw; (try dsimp only at hSw); (try simp only [List.getElem_toArray, List.getElem_cons_succ, List.getElem_cons_zero]); go_simp; try (with_reducible rfl))
            try simp only [Act.put, List.getElem_toArray, List.getElem_cons_succ, List.getElem_cons_zero, List.setIfInBounds_toArray, List.set_cons_zero, List.set_cons_succ]
            refine wpAnyH_take (i := 9) (v := ?_) rfl (by kernel_rfl) (by kernel_rfl) (by kernel_rfl) (fun _ _ _ h => h) (Or.inl ⟨by rfl, ?_⟩) (by assumption) ?_
            rotate_left
            · (intro wS hSw; (try dsimp only at hSw); (try simp only [List.getElem_toArray, List.getElem_cons_succ, List.getElem_cons_zero]); go_simp; try (with_reducible rfl))
            try simp only [Act.put, List.getElem_toArray, List.getElem_cons_succ, List.getElem_cons_zero, List.setIfInBounds_toArray, List.set_cons_zero, List.set_cons_succ]
            refine wpAnyH_take (i := 10) (v := ?_) rfl (by kernel_rfl) (by kernel_rfl) (by kernel_rfl) (fun _ _ _ h => h) (Or.inl ⟨by rfl, ?_⟩) (by assumption) ?_
            rotate_left
            · (intro wS hSw; (try dsimp only at hSw); (try simp only [List.getElem_toArray, List.getElem_cons_succ, List.getElem_cons_zero]); go_simp; try (with_reducible rfl))
            try simp only [Act.put, List.getElem_toArray, List.getElem_cons_succ, List.getElem_cons_zero, List.setIfInBounds_toArray, List.set_cons_zero, List.set_cons_succ]
            refine wpAnyH_take (i := 11) (v := ?_) rfl (by kernel_rfl) (by kernel_rfl) (by kernel_rfl) (fun _ _ _ h => h) (Or.inl ⟨by rfl, ?_⟩) (by assumption) ?_
            rotate_left
            · (intro wS hSw; (try dsimp only at hSw); (try simp only [List.getElem_toArray, List.getElem_cons_succ, List.getElem_cons_zero]); go_simp; try (with_reducible rfl))
            try simp only [Act.put, List.getElem_toArray, List.getElem_cons_succ, List.getElem_cons_zero, List.setIfInBounds_toArray, List.set_cons_zero, List.set_cons_succ]
            refine wpAnyH_take (i := 12) (v := ?_) rfl (by kernel_rfl) (by kernel_rfl) (by kernel_rfl) (fun _ _ _ h => h) (Or.inl ⟨by rfl, ?_⟩) (by assumption) ?_
            rotate_left
            · (intro wS hSw; (try dsimp only at hSw); (try simp only [List.getElem_toArray, List.getElem_cons_succ, List.getElem_cons_zero]); go_simp; try (with_reducible rfl))
            try simp only [Act.put, List.getElem_toArray, List.getElem_cons_succ, List.getElem_cons_zero, List.setIfInBounds_toArray, List.set_cons_zero, List.set_cons_succ]
            refine wpAnyH_take (i := 14) (v := ?_) rfl (by kernel_rfl) (by kernel_rfl) (by kernel_rfl) (fun _ _ _ h => h) (Or.inl ⟨by rfl, ?_⟩) (by assumption) ?_
            rotate_left
            · (intro wS hSw; (try dsimp only at hSw); (try simp only [List.getElem_toArray, List.getElem_cons_succ, List.getElem_cons_zero]); go_simp; try (with_reducible rfl))
            try simp only [Act.put, List.getElem_toArray, List.getElem_cons_succ, List.getElem_cons_zero, List.setIfInBounds_toArray, List.set_cons_zero, List.set_cons_succ]
            refine wpAnyH_take (i := 17) (v := ?_) rfl (by kernel_rfl) (by kernel_rfl) (by kernel_rfl) (fun _ _ _ h => h) (Or.inl ⟨by rfl, ?_⟩) (by assumption) ?_
            rotate_left
            · (intro wS hSw; (try dsimp only at hSw); (try simp only [List.getElem_toArray, List.getElem_cons_succ, List.getElem_cons_zero]); go_simp; try (with_reducible rfl))
            try simp only [Act.put, List.getElem_toArray, List.getElem_cons_succ, List.getElem_cons_zero, List.setIfInBounds_toArray, List.set_cons_zero, List.set_cons_succ]
            have hr0a : ((wr.alloc (.cells #[] 5)).drew).cell? ⟨g, i * 2, none⟩ = some (.slice y B cy) := ((Keep.refl (fun _ => False) wr).alloc (.cells #[] 5)).drew.cell hr0 (fun h => h)
            have hr0d : wr.drew.cell? ⟨g, i * 2, none⟩ = some (.slice y B cy) := hr0
            have f2a : ((wr.alloc (.cells #[] 5)).drew).cell? ⟨r, 2, none⟩ = some (.slice (some ⟨g, 0, none⟩) N cf) := ((Keep.refl (fun _ => False) wr).alloc (.cells #[] 5)).drew.cell f2 (fun h => h)
            have hln : (X.bytes.take VV).length = VV := by rw [List.length_take, ← HBl.out]; omega
            obtain ⟨y4, c4, w4, hra, hOa, ka, hNa⟩ := run_append_bytes 32 ((wr.alloc (.cells #[] 5)).drew) (.slice (some ⟨wr.heap.size, 0, none⟩) 0 0) [] (empty_row wr) (fun _ => True) y VV cy (X.bytes.take VV) hln (((HOw.out.bytes.take VV).mono (fun _ _ _ => trivial)).quiet ((Keep.refl (fun _ => False) wr).alloc (.cells #[] 5)).drew) (by simp only [List.length_nil]; omega)
            simp only [List.length_nil, Nat.zero_add, List.nil_append] at hra hOa hNa
            have HK4 : Hid (Keep (fun _ => False) wr w4) := ((Keep.refl (fun _ => False) wr).alloc (.cells #[] 5)).drew.trans ka (fun b hb e => by simp [Value.ownBlock] at e; omega)
            have HNB4 : Hid (∀ b, (Value.slice y4 VV c4).ownBlock = some b → wr.heap.size ≤ b) := fun b hb => by
              rcases hNa b hb with h1 | h1
              · simp [Value.ownBlock] at h1; omega
              · simp at h1; omega
            have HO4 := Lib.hid hOa
            have f24 := HK4.out.cell f2 (fun h => h)
            have hr04 := HK4.out.cell hr0 (fun h => h)
            have hr14 := HK4.out.cell hr1 (fun h => h)
            have hat4 := HAT.out.keep HK4.out (fun h => h)
            have hfr4 := hat4.frozen (i * 2)
            have hfr5 := hat4.frozen (i * 2 + 1)
            have hgr : g ≠ r := fun e => At.ne HAT.out HPr.out.fs (by decide) e
            have hlt4 := hat4.lt
            obtain ⟨w5, hw5⟩ : ∃ w5, w5 = (w4.setCell ⟨g, i * 2, none⟩ (.slice y4 VV c4)).setCell ⟨g, i * 2 + 1, none⟩ (.int .i64 (VV : Int)) := ⟨_, rfl⟩
            have HK5 : Hid (Keep (· = g) w4 w5) := by rw [hw5]; exact ((Keep.refl (· = g) w4).setCell (p := ⟨g, i * 2, none⟩) (fun _ => rfl) _).setCell (p := ⟨g, i * 2 + 1, none⟩) (fun _ => rfl) _
            have f25 := HK5.out.cell f24 (fun e => hgr e.symm)
            have HW5 := Lib.hid hw5
            clear hOa ka hNa hat4 hw5
            refine wpAnyH_ready (rs := [5, 13]) (by kernel_rfl) (by simp) ?_
            refine AllReadyH.cons rfl (fun K hK => ?_) (AllReadyH.cons rfl (fun K hK => ?_) AllReadyH.nil)
            · go_simp
              refine hK.out _ _ f2a (fun hHeld => ?_)
              clear hK K
              try simp only [Act.put, List.getElem_toArray, List.getElem_cons_succ, List.getElem_cons_zero, List.setIfInBounds_toArray, List.set_cons_zero, List.set_cons_succ]
              refine wpAnyH_ready (rs := [13]) (by kernel_rfl) (by simp) ?_
              refine AllReadyH.cons rfl (fun K hK => ?_) AllReadyH.nil
              go_simp
              refine hK.out _ _ f2a (fun hHeld => ?_)
              clear hK K
              try simp only [Act.put, List.getElem_toArray, List.getElem_cons_succ, List.getElem_cons_zero, List.setIfInBounds_toArray, List.set_cons_zero, List.set_cons_succ]
              refine wpAnyH_take (i := 15) (v := ?_) rfl (by kernel_rfl) (by kernel_rfl) (by kernel_rfl) (fun _ _ _ h => h) (Or.inl ⟨by rfl, ?_⟩) (by assumption) ?_
              rotate_left
              · (intro wS hSw; (try dsimp only at hSw); (try simp only [List.getElem_toArray, List.getElem_cons_succ, List.getElem_cons_zero]); go_simp; try (with_reducible rfl))
              try simp only [Act.put, List.getElem_toArray, List.getElem_cons_succ, List.getElem_cons_zero, List.setIfInBounds_toArray, List.set_cons_zero, List.set_cons_succ]
              refine wpAnyH_ready (rs := [16]) (by kernel_rfl) (by simp) ?_
              refine AllReadyH.cons rfl (fun K hK => ?_) AllReadyH.nil
              refine wp_append_run (by rfl) (by rfl) (by rfl) hra ?_
              refine hK.out _ _ f24 (fun hHeld => ?_)
              clear hK K
              try simp only [Act.put, List.getElem_toArray, List.getElem_cons_succ, List.getElem_cons_zero, List.setIfInBounds_toArray, List.set_cons_zero, List.set_cons_succ]
              refine wpAnyH_take (i := 18) (v := ?_) rfl (by kernel_rfl) (by kernel_rfl) (by kernel_rfl) (fun _ _ _ h => h) (Or.inl ⟨by rfl, ?_⟩) (by assumption) ?_
              rotate_left
              · (intro wS hSw; (try dsimp only at hSw); (try simp only [List.getElem_toArray, List.getElem_cons_succ, List.getElem_cons_zero]); go_simp; try (with_reducible rfl))
              try simp only [Act.put, List.getElem_toArray, List.getElem_cons_succ, List.getElem_cons_zero, List.setIfInBounds_toArray, List.set_cons_zero, List.set_cons_succ]
              refine wpAnyH_take (i := 19) (v := ?_) rfl (by kernel_rfl) (by kernel_rfl) (by kernel_rfl) (fun _ _ _ h => h) (Or.inl ⟨by rfl, ?_⟩) (by assumption) ?_
              rotate_left
              · (intro wS hSw; (try dsimp only at hSw); (try simp only [List.getElem_toArray, List.getElem_cons_succ, List.getElem_cons_zero]); go_simp; try (with_reducible rfl))
              try simp only [Act.put, List.getElem_toArray, List.getElem_cons_succ, List.getElem_cons_zero, List.setIfInBounds_toArray, List.set_cons_zero, List.set_cons_succ]
              refine wpAnyH_ready (rs := [20]) (by kernel_rfl) (by simp) ?_
              refine AllReadyH.cons rfl (fun K hK => ?_) AllReadyH.nil
              go_simp
              rw [← HW5.out]
              refine hK.out _ _ f25 (fun hHeld => ?_)
              clear hK K
              try simp only [Act.put, List.getElem_toArray, List.getElem_cons_succ, List.getElem_cons_zero, List.setIfInBounds_toArray, List.set_cons_zero, List.set_cons_succ]
              refine wpAnyH_done (by kernel_rfl) ?_ _
              refine NoPanic.normal ?_
              go_wp2
              go_roundw
              case rel =>
                have h4 := HPr.out.keep HK4.out (fun _ _ h => h)
                have hN' : (kfS t M i).files.length = N := by show (kf t.files M i).length = N; rw [kf_length, HN.out]
                have hfil := h4.files
                rw [hN'] at hfil
                have hrow := (hfil.put (x := none) (i * 2) (.slice y4 VV c4)).put (x := none) (i * 2 + 1) (.int .i64 (VV : Int))
                rw [← HW5.out] at hrow
                have hkf : keepF X M = ⟨X.bytes.take VV, VV⟩ := by
                  unfold keepF
                  rw [← HBl.out, ← HZl.out, HQQ.out, show Z + M = VV by have := HVV.out; omega]
                have hfc : ((fileCells fl).set (i * 2) (.slice y4 VV c4)).set (i * 2 + 1) (.int .i64 (VV : Int)) = fileCells (fl.set i (.slice y4 VV c4, keepF X M)) := by rw [fileCells_set HV2.out, hkf]
                rw [hfc] at hrow
                have hsz : w5.heap.size = w4.heap.size := by rw [HW5.out]; simp [World.setCell]
                have hw0 := HKr.out.size
                have hw4 := HK4.out.size
                have hO5 : Own w5 (.slice y4 VV c4) (keepF X M).bytes := by
                  rw [hkf]
                  exact HO4.out.keep HK5.out (fun b hb e => HO4.out.ne (HAT.out.keep HK4.out (fun h => h)) (by decide) (e ▸ hb))
                have hst := h4.store (w' := w5) (T' := Up T w w5) (q := (.slice y4 VV c4, keepF X M)) HV2.out (fun b _ h => Up.more (by omega) h) (by rw [hN']; exact hrow.mono (fun b _ h => Up.more (by omega) h)) HK5.out hO5 (fun b hb => .inr ⟨by have := HNB4.out b hb; omega, hO5.lt b hb⟩)
                rw [HXe.out, kfS_set HIL.out] at hst
                refine ⟨i + 1, by omega, by go_num, ⟨_, hst⟩, ?_⟩
                exact (HKr.out.trans (HK4.out.mono (T := T) (fun _ _ h => h.elim)) (fun _ _ h => h)).trans HK5.out (fun b hb e => by
                  rcases HPr.out.files.2 g rfl with h | ⟨h, _⟩
                  · rw [e]; exact h
                  · omega)
              case measure => simp [intOf]; omega
            · go_simp
              refine hK.out _ _ f2 (fun hHeld => ?_)
              clear hK K
              try simp only [Act.put, List.getElem_toArray, List.getElem_cons_succ, List.getElem_cons_zero, List.setIfInBounds_toArray, List.set_cons_zero, List.set_cons_succ]
              refine wpAnyH_take (i := 15) (v := ?_) rfl (by kernel_rfl) (by kernel_rfl) (by kernel_rfl) (fun _ _ _ h => h) (Or.inl ⟨by rfl, ?_⟩) (by assumption) ?_
              rotate_left
              · (intro wS hSw; (try dsimp only at hSw); (try simp only [List.getElem_toArray, List.getElem_cons_succ, List.getElem_cons_zero]); go_simp; try (with_reducible rfl))
              try simp only [Act.put, List.getElem_toArray, List.getElem_cons_succ, List.getElem_cons_zero, List.setIfInBounds_toArray, List.set_cons_zero, List.set_cons_succ]
              refine wpAnyH_ready (rs := [5]) (by kernel_rfl) (by simp) ?_
              refine AllReadyH.cons rfl (fun K hK => ?_) AllReadyH.nil
              go_simp
              refine hK.out _ _ f2a (fun hHeld => ?_)
              clear hK K
              try simp only [Act.put, List.getElem_toArray, List.getElem_cons_succ, List.getElem_cons_zero, List.setIfInBounds_toArray, List.set_cons_zero, List.set_cons_succ]
              refine wpAnyH_ready (rs := [16]) (by kernel_rfl) (by simp) ?_
              refine AllReadyH.cons rfl (fun K hK => ?_) AllReadyH.nil
              refine wp_append_run (by rfl) (by rfl) (by rfl) hra ?_
              refine hK.out _ _ f24 (fun hHeld => ?_)
              clear hK K
              try simp only [Act.put, List.getElem_toArray, List.getElem_cons_succ, List.getElem_cons_zero, List.setIfInBounds_toArray, List.set_cons_zero, List.set_cons_succ]
              refine wpAnyH_take (i := 18) (v := ?_) rfl (by kernel_rfl) (by kernel_rfl) (by kernel_rfl) (fun _ _ _ h => h) (Or.inl ⟨by rfl, ?_⟩) (by assumption) ?_
              rotate_left
              · (intro wS hSw; (try dsimp only at hSw); (try simp only [List.getElem_toArray, List.getElem_cons_succ, List.getElem_cons_zero]); go_simp; try (with_reducible rfl))
              try simp only [Act.put, List.getElem_toArray, List.getElem_cons_succ, List.getElem_cons_zero, List.setIfInBounds_toArray, List.set_cons_zero, List.set_cons_succ]
              refine wpAnyH_take (i := 19) (v := ?_) rfl (by kernel_rfl) (by kernel_rfl) (by kernel_rfl) (fun _ _ _ h => h) (Or.inl ⟨by rfl, ?_⟩) (by assumption) ?_
              rotate_left
              · (intro wS hSw; (try dsimp only at hSw); (try simp only [List.getElem_toArray, List.getElem_cons_succ, List.getElem_cons_zero]); go_simp; try (with_reducible rfl))
              try simp only [Act.put, List.getElem_toArray, List.getElem_cons_succ, List.getElem_cons_zero, List.setIfInBounds_toArray, List.set_cons_zero, List.set_cons_succ]
              refine wpAnyH_ready (rs := [20]) (by kernel_rfl) (by simp) ?_
              refine AllReadyH.cons rfl (fun K hK => ?_) AllReadyH.nil
              go_simp
              rw [← HW5.out]
              refine hK.out _ _ f25 (fun hHeld => ?_)
              clear hK K
              try simp only [Act.put, List.getElem_toArray, List.getElem_cons_succ, List.getElem_cons_zero, List.setIfInBounds_toArray, List.set_cons_zero, List.set_cons_succ]
              refine wpAnyH_done (by kernel_rfl) ?_ _
              refine NoPanic.normal ?_
              go_wp2
              go_roundw
              case rel =>
                have h4 := HPr.out.keep HK4.out (fun _ _ h => h)
                have hN' : (kfS t M i).files.length = N := by show (kf t.files M i).length = N; rw [kf_length, HN.out]
                have hfil := h4.files
                rw [hN'] at hfil
                have hrow := (hfil.put (x := none) (i * 2) (.slice y4 VV c4)).put (x := none) (i * 2 + 1) (.int .i64 (VV : Int))
                rw [← HW5.out] at hrow
                have hkf : keepF X M = ⟨X.bytes.take VV, VV⟩ := by
                  unfold keepF
                  rw [← HBl.out, ← HZl.out, HQQ.out, show Z + M = VV by have := HVV.out; omega]
                have hfc : ((fileCells fl).set (i * 2) (.slice y4 VV c4)).set (i * 2 + 1) (.int .i64 (VV : Int)) = fileCells (fl.set i (.slice y4 VV c4, keepF X M)) := by rw [fileCells_set HV2.out, hkf]
                rw [hfc] at hrow
                have hsz : w5.heap.size = w4.heap.size := by rw [HW5.out]; simp [World.setCell]
                have hw0 := HKr.out.size
                have hw4 := HK4.out.size
                have hO5 : Own w5 (.slice y4 VV c4) (keepF X M).bytes := by
                  rw [hkf]
                  exact HO4.out.keep HK5.out (fun b hb e => HO4.out.ne (HAT.out.keep HK4.out (fun h => h)) (by decide) (e ▸ hb))
                have hst := h4.store (w' := w5) (T' := Up T w w5) (q := (.slice y4 VV c4, keepF X M)) HV2.out (fun b _ h => Up.more (by omega) h) (by rw [hN']; exact hrow.mono (fun b _ h => Up.more (by omega) h)) HK5.out hO5 (fun b hb => .inr ⟨by have := HNB4.out b hb; omega, hO5.lt b hb⟩)
                rw [HXe.out, kfS_set HIL.out] at hst
                refine ⟨i + 1, by omega, by go_num, ⟨_, hst⟩, ?_⟩
                exact (HKr.out.trans (HK4.out.mono (T := T) (fun _ _ h => h.elim)) (fun _ _ h => h)).trans HK5.out (fun b hb e => by
                  rcases HPr.out.files.2 g rfl with h | ⟨h, _⟩
                  · rw [e]; exact h
                  · omega)
              case measure => simp [intOf]; omega
        · have hiN : i = t.files.length := by have := HN.out; omega
          have HI := Lib.hid hiN
          have r4 := hpr.fs.cell 4
          have r5 := hpr.fs.cell 5
          have z4 := hpr.fs.frozen 4
          have z5 := hpr.fs.frozen 5
          have hltr := hpr.fs.lt
          simp at r4 r5
          clear hiN hpr
          go_wp2
          (try simp only [Exit.inBlock, Exit.then])
          refine bodyPost_ret (results_none rfl _ _ _) rfl ?_
          obtain ⟨fl, hpr⟩ := HX.out
          obtain ⟨W, hW⟩ : ∃ W, W = (wr.setCell ⟨r, 5, none⟩ (.bool false)).setCell ⟨r, 4, none⟩ (.int .i64 (-1)) := ⟨_, rfl⟩
          have kW : Keep (· = r) wr W := by rw [hW]; exact ((Keep.refl (· = r) wr).setCell (p := ⟨r, 5, none⟩) (fun _ => rfl) _).setCell (p := ⟨r, 4, none⟩) (fun _ => rfl) _
          have hsz : W.heap.size = wr.heap.size := by rw [hW]; simp [World.setCell]
          rw [← hW]
          have hq := hpr.turn (t := crashR s (D : Int) (M : Int)) kW (by rw [hW]; have := (hpr.fs.put 5 (.bool false)).put 4 (.int .i64 (-1)); rw [show (kfS t M i).room = s.room from HTq.out.2.2.2] at this; exact this) (by
              show (s.loose.take (min ((D : Int)).toNat s.loose.length)).foldl app s.sure = t.sure
              rw [HTq.out.2.1]
              show _ = (s.loose.take D).foldl app s.sure
              rw [show min ((D : Int)).toNat s.loose.length = D by have := HL.out; omega]) (by show ([] : List Chg) = t.loose; rw [HTq.out.2.2.1]) (by
              show s.files.map (keepF · ((M : Int)).toNat) = kf t.files M i
              rw [HI.out, kf_all, HTq.out.1]
              rw [show ((M : Int)).toNat = M by omega])
          refine ⟨rfl, ⟨⟨_, _, _, _, hq.mono (fun b _ h => Up.more (by omega) h)⟩, HGd.out, HRd.out⟩, ?_⟩
          exact HKr.out.trans kW (fun b hb e => by
            rcases HPq.out.inT with h | ⟨h, _⟩
            · rw [e]; exact h
            · omega)
    · go_enter Try.func33, Try.ntmps33
      have HPc : Hid (RP (w) T r (s) vs (.slice xl s.loose.length cl) vf fl) := HP.out
      have HGc : Hid (Good (s)) := HG.out
      have HKc : Hid (Keep (· = r) w (w)) := Keep.refl _ _
      have cD := refDir r T (s) (w) ⟨⟨_, _, _, _, HPc.out⟩, HGc.out, HRi.out⟩
      go_wp2_with fail
      refine cD.mono ?_
      rintro e w3 ⟨du, rfl, hR3, k3⟩
      have HR3 := Lib.hid hR3
      have HK3 := Lib.hid k3
      obtain ⟨xu, cu, hu, _, _⟩ := ownsRow_shape hR3.1
      obtain ⟨EE, hEE⟩ : ∃ EE, EE = (ents (s).now).length := ⟨_, rfl⟩
      rw [← hEE] at hu
      subst hu
      have hA3 := HPc.out.fs.keep k3 (fun h => h)
      have d0 := hA3.cell 0
      have d1 := hA3.cell 1
      have g0 := hA3.frozen 0
      have g1 := hA3.frozen 1
      have hlt3 := hA3.lt
      simp at d0 d1
      clear hA3 hR3 k3 cD c0 c1 f1 hlt hEE
      go_wp2
      obtain ⟨wq, hwq⟩ : ∃ wq, wq = (w3.setCell ⟨r, 0, none⟩ (.slice xu EE cu)).setCell ⟨r, 1, none⟩ (.slice none 0 0) := ⟨_, rfl⟩
      rw [← hwq]
      obtain ⟨hpq, kq⟩ := HPc.out.settle HK3.out HR3.out
      rw [← hwq] at hpq kq
      obtain ⟨t, ht⟩ : ∃ t : St, t = { s with sure := (s).now, loose := [] } := ⟨_, rfl⟩
      rw [← ht] at hpq
      have hszq : wq.heap.size = w3.heap.size := by rw [hwq]; simp [World.setCell]
      have HTq := Lib.hid (show t.files = s.files ∧ t.sure = (s).now ∧ t.loose = [] ∧ t.room = s.room from by rw [ht]; exact ⟨rfl, rfl, rfl, rfl⟩)
      have hGt : ∀ x ∈ t.files, x.sure ≤ x.bytes.length ∧ x.bytes.length ≤ 16777216 := fun x hx => ⟨HG.out.sure x (by rw [HTq.out.1] at hx; exact hx), HG.out.len x (by rw [HTq.out.1] at hx; exact hx)⟩
      have HGt := Lib.hid hGt
      obtain ⟨N, hN⟩ : ∃ N, N = t.files.length := ⟨_, rfl⟩
      have hNl : N ≤ 1000000 := by have h1 := HG.out.bulk; unfold St.bulk at h1; rw [hN, HTq.out.1]; omega
      have HN := Lib.hid hN
      have HKq : Hid (Keep T w wq) := ((HKc.out.mono (T := T) (fun b _ e => by rw [e]; exact HPc.out.inT)).trans (HK3.out.mono (T := T) (fun _ _ h => h.elim)) (fun _ _ h => h)).trans (kq.mono (T := T) (fun b _ e => by rw [e]; exact HPc.out.inT)) (fun _ _ h => h)
      have HPq : Hid (RP wq (Up T w wq) r t (.slice xu EE cu) (.slice none 0 0) vf fl) := hpq.mono (fun b _ h => by
        have h1 := HKc.out.size
        have h2 := HK3.out.size
        rcases h with h | ⟨h3, h4⟩
        · exact .inl h
        · exact .inr ⟨by omega, by omega⟩)
      clear hpq kq hwq hszq hGt ht hN d0 d1 g0 g1 hlt3 HR3 HK3
      obtain ⟨xf, cf, hvf, hcf, _⟩ := ownsRow_shape HPq.out.files.1
      rw [← HN.out] at hvf hcf
      subst hvf
      go_loopw [6, 7] (fun z _ wr => ∃ i : Nat, i ≤ N ∧ z = .int .i64 (i : Int) ∧ Hid (∃ fl, RP wr (Up T w wr) r (kfS t M i) (.slice xu EE cu) (.slice none 0 0) (.slice xf N cf) fl) ∧ Hid (Keep T w wr)) (fun z _ _ => N - (intOf z).toNat)
      case atStart => exact ⟨0, by omega, rfl, ⟨fl, by unfold kfS; rw [kf_zero]; exact HPq.out⟩, HKq.out⟩
      case round =>
        obtain ⟨i, hi, rfl, HX, HKr⟩ := hrel
        obtain ⟨fl, hpr⟩ := HX.out
        have HPr := Lib.hid hpr
        have f2 := hpr.fs.cell 2
        simp at f2
        by_cases h8 : (i : Int) < (N : Int)
        · have hil : i < t.files.length := by have := HN.out; omega
          obtain ⟨v, hv, hO⟩ := hpr.fat (i := i) (by show i < (kf t.files M i).length; rw [kf_length]; exact hil)
          rw [kfS_file hil] at hv hO
          obtain ⟨g, cap, hvf, hnc, hgT, ⟨cs, hat⟩, hcell⟩ := row_cells hpr.files (by show 0 < (kf t.files M i).length; rw [kf_length]; omega)
          injection hvf with hxf _ _
          subst hxf
          have hr0 := hcell _ _ (fileCells_at hv).1
          have hr1 := hcell _ _ (fileCells_at hv).2
          obtain ⟨y, cy, hvy, _⟩ := hO.shape
          have hXm := HGt.out _ (file_mem hil)
          simp only at hr0 hr1
          rw [hvy] at hv hO hr0
          obtain ⟨X, hX⟩ : ∃ X, X = t.file i := ⟨_, rfl⟩
          rw [← hX] at hv hO hr0 hr1 hXm
          have HXe := Lib.hid hX
          obtain ⟨B, hB2⟩ : ∃ B, B = X.bytes.length := ⟨_, rfl⟩
          obtain ⟨Z, hZ⟩ : ∃ Z, Z = X.sure := ⟨_, rfl⟩
          rw [← hB2] at hv hO hr0 hXm
          rw [← hZ] at hr1 hXm
          have hZB := hXm.1
          have hBm := hXm.2
          have hcy := hO.cap_le
          have HV2 := Lib.hid hv
          have HBl := Lib.hid hB2
          have HZl := Lib.hid hZ
          have HOw := Lib.hid hO
          have HAT := Lib.hid hat
          have hgl := hat.lt
          have HIL := Lib.hid hil
          clear hv hO hat hcell hX hB2 hZ hil hXm hpr HX hvy hnc hgT
          by_cases hmore : ((B : Int) - (Z : Int)) < (M : Int)
          · have hq : min M (B - Z) = B - Z := by omega
            go_wp2
            have HQQ := Lib.hid hq
            have HVV := Lib.hid hZB
            clear hq hmore
            obtain ⟨s1, s2⟩ := cut_preT 32 5 Try.underlying32 info5 y B cy B (by omega)
            refine wp_region_noPanic ?_
            refine wp_region_held_drew (S := fun w' => w'.cell? ⟨r, 2, none⟩ = some (.slice (some ⟨g, 0, none⟩) N cf)) (by kernel_rfl) f2 (fun hHeld => ?_)
            refine wpAnyH_take (i := 0) (v := ?_) rfl (by kernel_rfl) (by kernel_rfl) (by kernel_rfl) (fun _ _ _ h => h) (Or.inl ⟨by rfl, ?_⟩) (by assumption) ?_
            rotate_left
            · (intro wS hSw; (try dsimp only at hSw); (try simp only [List.getElem_toArray, List.getElem_cons_succ, List.getElem_cons_zero]); go_simp; try (with_reducible rfl))
            try simp only [Act.put, List.getElem_toArray, List.getElem_cons_succ, List.getElem_cons_zero, List.setIfInBounds_toArray, List.set_cons_zero, List.set_cons_succ]
            refine wpAnyH_take (i := 1) (v := ?_) rfl (by kernel_rfl) (by kernel_rfl) (by kernel_rfl) (fun _ _ _ h => h) (Or.inl ⟨by rfl, ?_⟩) (by assumption) ?_
            rotate_left
            · (intro wS hSw; (try dsimp only at hSw); (try simp only [List.getElem_toArray, List.getElem_cons_succ, List.getElem_cons_zero]); go_simp; try (with_reducible rfl))
            try simp only [Act.put, List.getElem_toArray, List.getElem_cons_succ, List.getElem_cons_zero, List.setIfInBounds_toArray, List.set_cons_zero, List.set_cons_succ]
            refine wpAnyH_take (i := 2) (v := ?_) rfl (by kernel_rfl) (by kernel_rfl) (by kernel_rfl) (fun _ _ _ h => h) (Or.inl ⟨by rfl, ?_⟩) (by assumption) ?_
            rotate_left
            · (intro wS hSw; (try dsimp only at hSw); (try simp only [List.getElem_toArray, List.getElem_cons_succ, List.getElem_cons_zero]); go_simp; try (with_reducible rfl))
            try simp only [Act.put, List.getElem_toArray, List.getElem_cons_succ, List.getElem_cons_zero, List.setIfInBounds_toArray, List.set_cons_zero, List.set_cons_succ]
            refine wpAnyH_take (i := 3) (v := ?_) rfl (by kernel_rfl) (by kernel_rfl) (by kernel_rfl) (fun _ _ _ h => h) (Or.inl ⟨by rfl, ?_⟩) (by assumption) ?_
            rotate_left
            · (intro wS hSw; (try dsimp only at hSw); (try simp only [List.getElem_toArray, List.getElem_cons_succ, List.getElem_cons_zero]); go_simp; try (with_reducible rfl))
            try simp only [Act.put, List.getElem_toArray, List.getElem_cons_succ, List.getElem_cons_zero, List.setIfInBounds_toArray, List.set_cons_zero, List.set_cons_succ]
            refine wpAnyH_take (i := 4) (v := ?_) rfl (by kernel_rfl) (by kernel_rfl) (by kernel_rfl) (fun _ _ _ h => h) (Or.inl ⟨by rfl, ?_⟩) (by assumption) ?_
            rotate_left
            · (intro wS hSw; (try dsimp only at hSw); (try simp only [List.getElem_toArray, List.getElem_cons_succ, List.getElem_cons_zero]); go_simp; try (with_reducible rfl))
            try simp only [Act.put, List.getElem_toArray, List.getElem_cons_succ, List.getElem_cons_zero, List.setIfInBounds_toArray, List.set_cons_zero, List.set_cons_succ]
            refine wpAnyH_take (i := 6) (v := ?_) rfl (by kernel_rfl) (by kernel_rfl) (by kernel_rfl) (fun _ _ _ h => h) (Or.inl ⟨by rfl, ?_⟩) (by assumption) ?_
            rotate_left
            · (intro wS hSw; (try dsimp only at hSw); (try simp only [List.getElem_toArray, List.getElem_cons_succ, List.getElem_cons_zero]); go_simp; try (with_reducible rfl))
            try simp only [Act.put, List.getElem_toArray, List.getElem_cons_succ, List.getElem_cons_zero, List.setIfInBounds_toArray, List.set_cons_zero, List.set_cons_succ]
            refine wpAnyH_take (i := 7) (v := ?_) rfl (by kernel_rfl) (by kernel_rfl) (by kernel_rfl) (fun _ _ _ h => h) (Or.inl ⟨by rfl, ?_⟩) (by assumption) ?_
            rotate_left
            · (intro wS hSw; (try dsimp only at hSw); (try simp only [List.getElem_toArray, List.getElem_cons_succ, List.getElem_cons_zero]); go_simp; try (with_reducible rfl))
            try simp only [Act.put, List.getElem_toArray, List.getElem_cons_succ, List.getElem_cons_zero, List.setIfInBounds_toArray, List.set_cons_zero, List.set_cons_succ]
            refine wpAnyH_take (i := 8) (v := ?_) rfl (by kernel_rfl) (by kernel_rfl) (by kernel_rfl) (fun _ _ _ h => h) (Or.inl ⟨by rfl, ?_⟩) (by assumption) ?_
            rotate_left
            · (intro wS hSw; (try dsimp only at hSw); (try simp only [List.getElem_toArray, List.getElem_cons_succ, List.getElem_cons_zero]); go_simp; try (with_reducible rfl))
            try simp only [Act.put, List.getElem_toArray, List.getElem_cons_succ, List.getElem_cons_zero, List.setIfInBounds_toArray, List.set_cons_zero, List.set_cons_succ]
            refine wpAnyH_take (i := 9) (v := ?_) rfl (by kernel_rfl) (by kernel_rfl) (by kernel_rfl) (fun _ _ _ h => h) (Or.inl ⟨by rfl, ?_⟩) (by assumption) ?_
            rotate_left
            · (intro wS hSw; (try dsimp only at hSw); (try simp only [List.getElem_toArray, List.getElem_cons_succ, List.getElem_cons_zero]); go_simp; try (with_reducible rfl))
            try simp only [Act.put, List.getElem_toArray, List.getElem_cons_succ, List.getElem_cons_zero, List.setIfInBounds_toArray, List.set_cons_zero, List.set_cons_succ]
            refine wpAnyH_take (i := 10) (v := ?_) rfl (by kernel_rfl) (by kernel_rfl) (by kernel_rfl) (fun _ _ _ h => h) (Or.inl ⟨by rfl, ?_⟩) (by assumption) ?_
            rotate_left
            · (intro wS hSw; (try dsimp only at hSw); (try simp only [List.getElem_toArray, List.getElem_cons_succ, List.getElem_cons_zero]); go_simp; try (with_reducible rfl))
            try simp only [Act.put, List.getElem_toArray, List.getElem_cons_succ, List.getElem_cons_zero, List.setIfInBounds_toArray, List.set_cons_zero, List.set_cons_succ]
            refine wpAnyH_take (i := 11) (v := ?_) rfl (by kernel_rfl) (by kernel_rfl) (by kernel_rfl) (fun _ _ _ h => h) (Or.inl ⟨by rfl, ?_⟩) (by assumption) ?_
            rotate_left
            · (intro wS hSw; (try dsimp only at hSw); (try simp only [List.getElem_toArray, List.getElem_cons_succ, List.getElem_cons_zero]); go_simp; try (with_reducible rfl))
            try simp only [Act.put, List.getElem_toArray, List.getElem_cons_succ, List.getElem_cons_zero, List.setIfInBounds_toArray, List.set_cons_zero, List.set_cons_succ]
            refine wpAnyH_take (i := 12) (v := ?_) rfl (by kernel_rfl) (by kernel_rfl) (by kernel_rfl) (fun _ _ _ h => h) (Or.inl ⟨by rfl, ?_⟩) (by assumption) ?_
            rotate_left
            · (intro wS hSw; (try dsimp only at hSw); (try simp only [List.getElem_toArray, List.getElem_cons_succ, List.getElem_cons_zero]); go_simp; try (with_reducible rfl))
            try simp only [Act.put, List.getElem_toArray, List.getElem_cons_succ, List.getElem_cons_zero, List.setIfInBounds_toArray, List.set_cons_zero, List.set_cons_succ]
            refine wpAnyH_take (i := 14) (v := ?_) rfl (by kernel_rfl) (by kernel_rfl) (by kernel_rfl) (fun _ _ _ h => h) (Or.inl ⟨by rfl, ?_⟩) (by assumption) ?_
            rotate_left
            · (intro wS hSw; (try dsimp only at hSw); (try simp only [List.getElem_toArray, List.getElem_cons_succ, List.getElem_cons_zero]); go_simp; try (with_reducible rfl))
            try simp only [Act.put, List.getElem_toArray, List.getElem_cons_succ, List.getElem_cons_zero, List.setIfInBounds_toArray, List.set_cons_zero, List.set_cons_succ]
            refine wpAnyH_take (i := 17) (v := ?_) rfl (by kernel_rfl) (by kernel_rfl) (by kernel_rfl) (fun _ _ _ h => h) (Or.inl ⟨by rfl, ?_⟩) (by assumption) ?_
            rotate_left
            · (intro wS hSw; (try dsimp only at hSw); (try simp only [List.getElem_toArray, List.getElem_cons_succ, List.getElem_cons_zero]); go_simp; try (with_reducible rfl))
            try simp only [Act.put, List.getElem_toArray, List.getElem_cons_succ, List.getElem_cons_zero, List.setIfInBounds_toArray, List.set_cons_zero, List.set_cons_succ]
            have hr0a : ((wr.alloc (.cells #[] 5)).drew).cell? ⟨g, i * 2, none⟩ = some (.slice y B cy) := ((Keep.refl (fun _ => False) wr).alloc (.cells #[] 5)).drew.cell hr0 (fun h => h)
            have hr0d : wr.drew.cell? ⟨g, i * 2, none⟩ = some (.slice y B cy) := hr0
            have f2a : ((wr.alloc (.cells #[] 5)).drew).cell? ⟨r, 2, none⟩ = some (.slice (some ⟨g, 0, none⟩) N cf) := ((Keep.refl (fun _ => False) wr).alloc (.cells #[] 5)).drew.cell f2 (fun h => h)
            have hln : (X.bytes.take B).length = B := by rw [List.length_take, ← HBl.out]; omega
            obtain ⟨y4, c4, w4, hra, hOa, ka, hNa⟩ := run_append_bytes 32 ((wr.alloc (.cells #[] 5)).drew) (.slice (some ⟨wr.heap.size, 0, none⟩) 0 0) [] (empty_row wr) (fun _ => True) y B cy (X.bytes.take B) hln (((HOw.out.bytes.take B).mono (fun _ _ _ => trivial)).quiet ((Keep.refl (fun _ => False) wr).alloc (.cells #[] 5)).drew) (by simp only [List.length_nil]; omega)
            simp only [List.length_nil, Nat.zero_add, List.nil_append] at hra hOa hNa
            have HK4 : Hid (Keep (fun _ => False) wr w4) := ((Keep.refl (fun _ => False) wr).alloc (.cells #[] 5)).drew.trans ka (fun b hb e => by simp [Value.ownBlock] at e; omega)
            have HNB4 : Hid (∀ b, (Value.slice y4 B c4).ownBlock = some b → wr.heap.size ≤ b) := fun b hb => by
              rcases hNa b hb with h1 | h1
              · simp [Value.ownBlock] at h1; omega
              · simp at h1; omega
            have HO4 := Lib.hid hOa
            have f24 := HK4.out.cell f2 (fun h => h)
            have hr04 := HK4.out.cell hr0 (fun h => h)
            have hr14 := HK4.out.cell hr1 (fun h => h)
            have hat4 := HAT.out.keep HK4.out (fun h => h)
            have hfr4 := hat4.frozen (i * 2)
            have hfr5 := hat4.frozen (i * 2 + 1)
            have hgr : g ≠ r := fun e => At.ne HAT.out HPr.out.fs (by decide) e
            have hlt4 := hat4.lt
            obtain ⟨w5, hw5⟩ : ∃ w5, w5 = (w4.setCell ⟨g, i * 2, none⟩ (.slice y4 B c4)).setCell ⟨g, i * 2 + 1, none⟩ (.int .i64 (B : Int)) := ⟨_, rfl⟩
            have HK5 : Hid (Keep (· = g) w4 w5) := by rw [hw5]; exact ((Keep.refl (· = g) w4).setCell (p := ⟨g, i * 2, none⟩) (fun _ => rfl) _).setCell (p := ⟨g, i * 2 + 1, none⟩) (fun _ => rfl) _
            have f25 := HK5.out.cell f24 (fun e => hgr e.symm)
            have HW5 := Lib.hid hw5
            clear hOa ka hNa hat4 hw5
            refine wpAnyH_ready (rs := [5, 13]) (by kernel_rfl) (by simp) ?_
            refine AllReadyH.cons rfl (fun K hK => ?_) (AllReadyH.cons rfl (fun K hK => ?_) AllReadyH.nil)
            · go_simp
              refine hK.out _ _ f2a (fun hHeld => ?_)
              clear hK K
              try simp only [Act.put, List.getElem_toArray, List.getElem_cons_succ, List.getElem_cons_zero, List.setIfInBounds_toArray, List.set_cons_zero, List.set_cons_succ]
              refine wpAnyH_ready (rs := [13]) (by kernel_rfl) (by simp) ?_
              refine AllReadyH.cons rfl (fun K hK => ?_) AllReadyH.nil
              go_simp
              refine hK.out _ _ f2a (fun hHeld => ?_)
              clear hK K
              try simp only [Act.put, List.getElem_toArray, List.getElem_cons_succ, List.getElem_cons_zero, List.setIfInBounds_toArray, List.set_cons_zero, List.set_cons_succ]
              refine wpAnyH_take (i := 15) (v := ?_) rfl (by kernel_rfl) (by kernel_rfl) (by kernel_rfl) (fun _ _ _ h => h) (Or.inl ⟨by rfl, ?_⟩) (by assumption) ?_
              rotate_left
              · (intro wS hSw; (try dsimp only at hSw); (try simp only [List.getElem_toArray, List.getElem_cons_succ, List.getElem_cons_zero]); go_simp; try (with_reducible rfl))
              try simp only [Act.put, List.getElem_toArray, List.getElem_cons_succ, List.getElem_cons_zero, List.setIfInBounds_toArray, List.set_cons_zero, List.set_cons_succ]
              refine wpAnyH_ready (rs := [16]) (by kernel_rfl) (by simp) ?_
              refine AllReadyH.cons rfl (fun K hK => ?_) AllReadyH.nil
              refine wp_append_run (by rfl) (by rfl) (by rfl) hra ?_
              refine hK.out _ _ f24 (fun hHeld => ?_)
              clear hK K
              try simp only [Act.put, List.getElem_toArray, List.getElem_cons_succ, List.getElem_cons_zero, List.setIfInBounds_toArray, List.set_cons_zero, List.set_cons_succ]
              refine wpAnyH_take (i := 18) (v := ?_) rfl (by kernel_rfl) (by kernel_rfl) (by kernel_rfl) (fun _ _ _ h => h) (Or.inl ⟨by rfl, ?_⟩) (by assumption) ?_
              rotate_left
              · (intro wS hSw; (try dsimp only at hSw); (try simp only [List.getElem_toArray, List.getElem_cons_succ, List.getElem_cons_zero]); go_simp; try (with_reducible rfl))
              try simp only [Act.put, List.getElem_toArray, List.getElem_cons_succ, List.getElem_cons_zero, List.setIfInBounds_toArray, List.set_cons_zero, List.set_cons_succ]
              refine wpAnyH_take (i := 19) (v := ?_) rfl (by kernel_rfl) (by kernel_rfl) (by kernel_rfl) (fun _ _ _ h => h) (Or.inl ⟨by rfl, ?_⟩) (by assumption) ?_
              rotate_left
              · (intro wS hSw; (try dsimp only at hSw); (try simp only [List.getElem_toArray, List.getElem_cons_succ, List.getElem_cons_zero]); go_simp; try (with_reducible rfl))
              try simp only [Act.put, List.getElem_toArray, List.getElem_cons_succ, List.getElem_cons_zero, List.setIfInBounds_toArray, List.set_cons_zero, List.set_cons_succ]
              refine wpAnyH_ready (rs := [20]) (by kernel_rfl) (by simp) ?_
              refine AllReadyH.cons rfl (fun K hK => ?_) AllReadyH.nil
              go_simp
              rw [← HW5.out]
              refine hK.out _ _ f25 (fun hHeld => ?_)
              clear hK K
              try simp only [Act.put, List.getElem_toArray, List.getElem_cons_succ, List.getElem_cons_zero, List.setIfInBounds_toArray, List.set_cons_zero, List.set_cons_succ]
              refine wpAnyH_done (by kernel_rfl) ?_ _
              refine NoPanic.normal ?_
              go_wp2
              go_roundw
              case rel =>
                have h4 := HPr.out.keep HK4.out (fun _ _ h => h)
                have hN' : (kfS t M i).files.length = N := by show (kf t.files M i).length = N; rw [kf_length, HN.out]
                have hfil := h4.files
                rw [hN'] at hfil
                have hrow := (hfil.put (x := none) (i * 2) (.slice y4 B c4)).put (x := none) (i * 2 + 1) (.int .i64 (B : Int))
                rw [← HW5.out] at hrow
                have hkf : keepF X M = ⟨X.bytes.take B, B⟩ := by
                  unfold keepF
                  rw [← HBl.out, ← HZl.out, HQQ.out, show Z + (B - Z) = B by have := HVV.out; omega]
                have hfc : ((fileCells fl).set (i * 2) (.slice y4 B c4)).set (i * 2 + 1) (.int .i64 (B : Int)) = fileCells (fl.set i (.slice y4 B c4, keepF X M)) := by rw [fileCells_set HV2.out, hkf]
                rw [hfc] at hrow
                have hsz : w5.heap.size = w4.heap.size := by rw [HW5.out]; simp [World.setCell]
                have hw0 := HKr.out.size
                have hw4 := HK4.out.size
                have hO5 : Own w5 (.slice y4 B c4) (keepF X M).bytes := by
                  rw [hkf]
                  exact HO4.out.keep HK5.out (fun b hb e => HO4.out.ne (HAT.out.keep HK4.out (fun h => h)) (by decide) (e ▸ hb))
                have hst := h4.store (w' := w5) (T' := Up T w w5) (q := (.slice y4 B c4, keepF X M)) HV2.out (fun b _ h => Up.more (by omega) h) (by rw [hN']; exact hrow.mono (fun b _ h => Up.more (by omega) h)) HK5.out hO5 (fun b hb => .inr ⟨by have := HNB4.out b hb; omega, hO5.lt b hb⟩)
                rw [HXe.out, kfS_set HIL.out] at hst
                refine ⟨i + 1, by omega, by go_num, ⟨_, hst⟩, ?_⟩
                exact (HKr.out.trans (HK4.out.mono (T := T) (fun _ _ h => h.elim)) (fun _ _ h => h)).trans HK5.out (fun b hb e => by
                  rcases HPr.out.files.2 g rfl with h | ⟨h, _⟩
                  · rw [e]; exact h
                  · omega)
              case measure => simp [intOf]; omega
            · go_simp
              refine hK.out _ _ f2 (fun hHeld => ?_)
              clear hK K
              try simp only [Act.put, List.getElem_toArray, List.getElem_cons_succ, List.getElem_cons_zero, List.setIfInBounds_toArray, List.set_cons_zero, List.set_cons_succ]
              refine wpAnyH_take (i := 15) (v := ?_) rfl (by kernel_rfl) (by kernel_rfl) (by kernel_rfl) (fun _ _ _ h => h) (Or.inl ⟨by rfl, ?_⟩) (by assumption) ?_
              rotate_left
              · (intro wS hSw; (try dsimp only at hSw); (try simp only [List.getElem_toArray, List.getElem_cons_succ, List.getElem_cons_zero]); go_simp; try (with_reducible rfl))
              try simp only [Act.put, List.getElem_toArray, List.getElem_cons_succ, List.getElem_cons_zero, List.setIfInBounds_toArray, List.set_cons_zero, List.set_cons_succ]
              refine wpAnyH_ready (rs := [5]) (by kernel_rfl) (by simp) ?_
              refine AllReadyH.cons rfl (fun K hK => ?_) AllReadyH.nil
              go_simp
              refine hK.out _ _ f2a (fun hHeld => ?_)
              clear hK K
              try simp only [Act.put, List.getElem_toArray, List.getElem_cons_succ, List.getElem_cons_zero, List.setIfInBounds_toArray, List.set_cons_zero, List.set_cons_succ]
              refine wpAnyH_ready (rs := [16]) (by kernel_rfl) (by simp) ?_
              refine AllReadyH.cons rfl (fun K hK => ?_) AllReadyH.nil
              refine wp_append_run (by rfl) (by rfl) (by rfl) hra ?_
              refine hK.out _ _ f24 (fun hHeld => ?_)
              clear hK K
              try simp only [Act.put, List.getElem_toArray, List.getElem_cons_succ, List.getElem_cons_zero, List.setIfInBounds_toArray, List.set_cons_zero, List.set_cons_succ]
              refine wpAnyH_take (i := 18) (v := ?_) rfl (by kernel_rfl) (by kernel_rfl) (by kernel_rfl) (fun _ _ _ h => h) (Or.inl ⟨by rfl, ?_⟩) (by assumption) ?_
              rotate_left
              · (intro wS hSw; (try dsimp only at hSw); (try simp only [List.getElem_toArray, List.getElem_cons_succ, List.getElem_cons_zero]); go_simp; try (with_reducible rfl))
              try simp only [Act.put, List.getElem_toArray, List.getElem_cons_succ, List.getElem_cons_zero, List.setIfInBounds_toArray, List.set_cons_zero, List.set_cons_succ]
              refine wpAnyH_take (i := 19) (v := ?_) rfl (by kernel_rfl) (by kernel_rfl) (by kernel_rfl) (fun _ _ _ h => h) (Or.inl ⟨by rfl, ?_⟩) (by assumption) ?_
              rotate_left
              · (intro wS hSw; (try dsimp only at hSw); (try simp only [List.getElem_toArray, List.getElem_cons_succ, List.getElem_cons_zero]); go_simp; try (with_reducible rfl))
              try simp only [Act.put, List.getElem_toArray, List.getElem_cons_succ, List.getElem_cons_zero, List.setIfInBounds_toArray, List.set_cons_zero, List.set_cons_succ]
              refine wpAnyH_ready (rs := [20]) (by kernel_rfl) (by simp) ?_
              refine AllReadyH.cons rfl (fun K hK => ?_) AllReadyH.nil
              go_simp
              rw [← HW5.out]
              refine hK.out _ _ f25 (fun hHeld => ?_)
              clear hK K
              try simp only [Act.put, List.getElem_toArray, List.getElem_cons_succ, List.getElem_cons_zero, List.setIfInBounds_toArray, List.set_cons_zero, List.set_cons_succ]
              refine wpAnyH_done (by kernel_rfl) ?_ _
              refine NoPanic.normal ?_
              go_wp2
              go_roundw
              case rel =>
                have h4 := HPr.out.keep HK4.out (fun _ _ h => h)
                have hN' : (kfS t M i).files.length = N := by show (kf t.files M i).length = N; rw [kf_length, HN.out]
                have hfil := h4.files
                rw [hN'] at hfil
                have hrow := (hfil.put (x := none) (i * 2) (.slice y4 B c4)).put (x := none) (i * 2 + 1) (.int .i64 (B : Int))
                rw [← HW5.out] at hrow
                have hkf : keepF X M = ⟨X.bytes.take B, B⟩ := by
                  unfold keepF
                  rw [← HBl.out, ← HZl.out, HQQ.out, show Z + (B - Z) = B by have := HVV.out; omega]
                have hfc : ((fileCells fl).set (i * 2) (.slice y4 B c4)).set (i * 2 + 1) (.int .i64 (B : Int)) = fileCells (fl.set i (.slice y4 B c4, keepF X M)) := by rw [fileCells_set HV2.out, hkf]
                rw [hfc] at hrow
                have hsz : w5.heap.size = w4.heap.size := by rw [HW5.out]; simp [World.setCell]
                have hw0 := HKr.out.size
                have hw4 := HK4.out.size
                have hO5 : Own w5 (.slice y4 B c4) (keepF X M).bytes := by
                  rw [hkf]
                  exact HO4.out.keep HK5.out (fun b hb e => HO4.out.ne (HAT.out.keep HK4.out (fun h => h)) (by decide) (e ▸ hb))
                have hst := h4.store (w' := w5) (T' := Up T w w5) (q := (.slice y4 B c4, keepF X M)) HV2.out (fun b _ h => Up.more (by omega) h) (by rw [hN']; exact hrow.mono (fun b _ h => Up.more (by omega) h)) HK5.out hO5 (fun b hb => .inr ⟨by have := HNB4.out b hb; omega, hO5.lt b hb⟩)
                rw [HXe.out, kfS_set HIL.out] at hst
                refine ⟨i + 1, by omega, by go_num, ⟨_, hst⟩, ?_⟩
                exact (HKr.out.trans (HK4.out.mono (T := T) (fun _ _ h => h.elim)) (fun _ _ h => h)).trans HK5.out (fun b hb e => by
                  rcases HPr.out.files.2 g rfl with h | ⟨h, _⟩
                  · rw [e]; exact h
                  · omega)
              case measure => simp [intOf]; omega
          · have hq : min M (B - Z) = M := by omega
            go_wp2
            have HQQ := Lib.hid hq
            obtain ⟨VV, hVV⟩ : ∃ VV : Nat, VV = Z + M := ⟨_, rfl⟩
            have hNB : VV ≤ B := by omega
            clear hq hmore
            rw [show (Z : Int) + (M : Int) = (VV : Int) by omega]
            have HVV := Lib.hid hVV
            clear hVV
            obtain ⟨s1, s2⟩ := cut_preT 32 5 Try.underlying32 info5 y B cy VV (by omega)
            refine wp_region_noPanic ?_
            refine wp_region_held_drew (S := fun w' => w'.cell? ⟨r, 2, none⟩ = some (.slice (some ⟨g, 0, none⟩) N cf)) (by kernel_rfl) f2 (fun hHeld => ?_)
            refine wpAnyH_take (i := 0) (v := ?_) rfl (by kernel_rfl) (by kernel_rfl) (by kernel_rfl) (fun _ _ _ h => h) (Or.inl ⟨by rfl, ?_⟩) (by assumption) ?_
            rotate_left
            · (intro wS hSw; (try dsimp only at hSw); (try simp only [List.getElem_toArray, List.getElem_cons_succ, List.getElem_cons_zero]); go_simp; try (with_reducible rfl))
            try simp only [Act.put, List.getElem_toArray, List.getElem_cons_succ, List.getElem_cons_zero, List.setIfInBounds_toArray, List.set_cons_zero, List.set_cons_succ]
            refine wpAnyH_take (i := 1) (v := ?_) rfl (by kernel_rfl) (by kernel_rfl) (by kernel_rfl) (fun _ _ _ h => h) (Or.inl ⟨by rfl, ?_⟩) (by assumption) ?_
            rotate_left
            · (intro wS hSw; (try dsimp only at hSw); (try simp only [List.getElem_toArray, List.getElem_cons_succ, List.getElem_cons_zero]); go_simp; try (with_reducible rfl))
            try simp only [Act.put, List.getElem_toArray, List.getElem_cons_succ, List.getElem_cons_zero, List.setIfInBounds_toArray, List.set_cons_zero, List.set_cons_succ]
            refine wpAnyH_take (i := 2) (v := ?_) rfl (by kernel_rfl) (by kernel_rfl) (by kernel_rfl) (fun _ _ _ h => h) (Or.inl ⟨by rfl, ?_⟩) (by assumption) ?_
            rotate_left
            · (intro wS hSw; (try dsimp only at hSw); (try simp only [List.getElem_toArray, List.getElem_cons_succ, List.getElem_cons_zero]); go_simp; try (with_reducible rfl))
            try simp only [Act.put, List.getElem_toArray, List.getElem_cons_succ, List.getElem_cons_zero, List.setIfInBounds_toArray, List.set_cons_zero, List.set_cons_succ]
            refine wpAnyH_take (i := 3) (v := ?_) rfl (by kernel_rfl) (by kernel_rfl) (by kernel_rfl) (fun _ _ _ h => h) (Or.inl ⟨by rfl, ?_⟩) (by assumption) ?_
            rotate_left
            · (intro wS hSw; (try dsimp only at hSw); (try simp only [List.getElem_toArray, List.getElem_cons_succ, List.getElem_cons_zero]); go_simp; try (with_reducible rfl))
            try simp only [Act.put, List.getElem_toArray, List.getElem_cons_succ, List.getElem_cons_zero, List.setIfInBounds_toArray, List.set_cons_zero, List.set_cons_succ]
            refine wpAnyH_take (i := 4) (v := ?_) rfl (by kernel_rfl) (by kernel_rfl) (by kernel_rfl) (fun _ _ _ h => h) (Or.inl ⟨by rfl, ?_⟩) (by assumption) ?_
            rotate_left
            · (intro wS hSw; (try dsimp only at hSw); (try simp only [List.getElem_toArray, List.getElem_cons_succ, List.getElem_cons_zero]); go_simp; try (with_reducible rfl))
            try simp only [Act.put, List.getElem_toArray, List.getElem_cons_succ, List.getElem_cons_zero, List.setIfInBounds_toArray, List.set_cons_zero, List.set_cons_succ]
            refine wpAnyH_take (i := 6) (v := ?_) rfl (by kernel_rfl) (by kernel_rfl) (by kernel_rfl) (fun _ _ _ h => h) (Or.inl ⟨by rfl, ?_⟩) (by assumption) ?_
            rotate_left
            · (intro wS hSw; (try dsimp only at hSw); (try simp only [List.getElem_toArray, List.getElem_cons_succ, List.getElem_cons_zero]); go_simp; try (with_reducible rfl))
            try simp only [Act.put, List.getElem_toArray, List.getElem_cons_succ, List.getElem_cons_zero, List.setIfInBounds_toArray, List.set_cons_zero, List.set_cons_succ]
            refine wpAnyH_take (i := 7) (v := ?_) rfl (by kernel_rfl) (by kernel_rfl) (by kernel_rfl) (fun _ _ _ h => h) (Or.inl ⟨by rfl, ?_⟩) (by assumption) ?_
            rotate_left
            · (intro wS hSw; (try dsimp only at hSw); (try simp only [List.getElem_toArray, List.getElem_cons_succ, List.getElem_cons_zero]); go_simp; try (with_reducible rfl))
            try simp only [Act.put, List.getElem_toArray, List.getElem_cons_succ, List.getElem_cons_zero, List.setIfInBounds_toArray, List.set_cons_zero, List.set_cons_succ]
            refine wpAnyH_take (i := 8) (v := ?_) rfl (by kernel_rfl) (by kernel_rfl) (by kernel_rfl) (fun _ _ _ h => h) (Or.inl ⟨by rfl, ?_⟩) (by assumption) ?_
            rotate_left
            · (intro wS hSw; (try dsimp only at hSw); (try simp only [List.getElem_toArray, List.getElem_cons_succ, List.getElem_cons_zero]); go_simp; try (with_reducible rfl))
            try simp only [Act.put, List.getElem_toArray, List.getElem_cons_succ, List.getElem_cons_zero, List.setIfInBounds_toArray, List.set_cons_zero, List.set_cons_succ]
            refine wpAnyH_take (i := 9) (v := ?_) rfl (by kernel_rfl) (by kernel_rfl) (by kernel_rfl) (fun _ _ _ h => h) (Or.inl ⟨by rfl, ?_⟩) (by assumption) ?_
            rotate_left
            · (intro wS hSw; (try dsimp only at hSw); (try simp only [List.getElem_toArray, List.getElem_cons_succ, List.getElem_cons_zero]); go_simp; try (with_reducible rfl))
            try simp only [Act.put, List.getElem_toArray, List.getElem_cons_succ, List.getElem_cons_zero, List.setIfInBounds_toArray, List.set_cons_zero, List.set_cons_succ]
            refine wpAnyH_take (i := 10) (v := ?_) rfl (by kernel_rfl) (by kernel_rfl) (by kernel_rfl) (fun _ _ _ h => h) (Or.inl ⟨by rfl, ?_⟩) (by assumption) ?_
            rotate_left
            · (intro wS hSw; (try dsimp only at hSw); (try simp only [List.getElem_toArray, List.getElem_cons_succ, List.getElem_cons_zero]); go_simp; try (with_reducible rfl))
            try simp only [Act.put, List.getElem_toArray, List.getElem_cons_succ, List.getElem_cons_zero, List.setIfInBounds_toArray, List.set_cons_zero, List.set_cons_succ]
            refine wpAnyH_take (i := 11) (v := ?_) rfl (by kernel_rfl) (by kernel_rfl) (by kernel_rfl) (fun _ _ _ h => h) (Or.inl ⟨by rfl, ?_⟩) (by assumption) ?_
            rotate_left
            · (intro wS hSw; (try dsimp only at hSw); (try simp only [List.getElem_toArray, List.getElem_cons_succ, List.getElem_cons_zero]); go_simp; try (with_reducible rfl))
            try simp only [Act.put, List.getElem_toArray, List.getElem_cons_succ, List.getElem_cons_zero, List.setIfInBounds_toArray, List.set_cons_zero, List.set_cons_succ]
            refine wpAnyH_take (i := 12) (v := ?_) rfl (by kernel_rfl) (by kernel_rfl) (by kernel_rfl) (fun _ _ _ h => h) (Or.inl ⟨by rfl, ?_⟩) (by assumption) ?_
            rotate_left
            · (intro wS hSw; (try dsimp only at hSw); (try simp only [List.getElem_toArray, List.getElem_cons_succ, List.getElem_cons_zero]); go_simp; try (with_reducible rfl))
            try simp only [Act.put, List.getElem_toArray, List.getElem_cons_succ, List.getElem_cons_zero, List.setIfInBounds_toArray, List.set_cons_zero, List.set_cons_succ]
            refine wpAnyH_take (i := 14) (v := ?_) rfl (by kernel_rfl) (by kernel_rfl) (by kernel_rfl) (fun _ _ _ h => h) (Or.inl ⟨by rfl, ?_⟩) (by assumption) ?_
            rotate_left
            · (intro wS hSw; (try dsimp only at hSw); (try simp only [List.getElem_toArray, List.getElem_cons_succ, List.getElem_cons_zero]); go_simp; try (with_reducible rfl))
            try simp only [Act.put, List.getElem_toArray, List.getElem_cons_succ, List.getElem_cons_zero, List.setIfInBounds_toArray, List.set_cons_zero, List.set_cons_succ]
            refine wpAnyH_take (i := 17) (v := ?_) rfl (by kernel_rfl) (by kernel_rfl) (by kernel_rfl) (fun _ _ _ h => h) (Or.inl ⟨by rfl, ?_⟩) (by assumption) ?_
            rotate_left
            · (intro wS hSw; (try dsimp only at hSw); (try simp only [List.getElem_toArray, List.getElem_cons_succ, List.getElem_cons_zero]); go_simp; try (with_reducible rfl))
            try simp only [Act.put, List.getElem_toArray, List.getElem_cons_succ, List.getElem_cons_zero, List.setIfInBounds_toArray, List.set_cons_zero, List.set_cons_succ]
            have hr0a : ((wr.alloc (.cells #[] 5)).drew).cell? ⟨g, i * 2, none⟩ = some (.slice y B cy) := ((Keep.refl (fun _ => False) wr).alloc (.cells #[] 5)).drew.cell hr0 (fun h => h)
            have hr0d : wr.drew.cell? ⟨g, i * 2, none⟩ = some (.slice y B cy) := hr0
            have f2a : ((wr.alloc (.cells #[] 5)).drew).cell? ⟨r, 2, none⟩ = some (.slice (some ⟨g, 0, none⟩) N cf) := ((Keep.refl (fun _ => False) wr).alloc (.cells #[] 5)).drew.cell f2 (fun h => h)
            have hln : (X.bytes.take VV).length = VV := by rw [List.length_take, ← HBl.out]; omega
            obtain ⟨y4, c4, w4, hra, hOa, ka, hNa⟩ := run_append_bytes 32 ((wr.alloc (.cells #[] 5)).drew) (.slice (some ⟨wr.heap.size, 0, none⟩) 0 0) [] (empty_row wr) (fun _ => True) y VV cy (X.bytes.take VV) hln (((HOw.out.bytes.take VV).mono (fun _ _ _ => trivial)).quiet ((Keep.refl (fun _ => False) wr).alloc (.cells #[] 5)).drew) (by simp only [List.length_nil]; omega)
            simp only [List.length_nil, Nat.zero_add, List.nil_append] at hra hOa hNa
            have HK4 : Hid (Keep (fun _ => False) wr w4) := ((Keep.refl (fun _ => False) wr).alloc (.cells #[] 5)).drew.trans ka (fun b hb e => by simp [Value.ownBlock] at e; omega)
            have HNB4 : Hid (∀ b, (Value.slice y4 VV c4).ownBlock = some b → wr.heap.size ≤ b) := fun b hb => by
              rcases hNa b hb with h1 | h1
              · simp [Value.ownBlock] at h1; omega
              · simp at h1; omega
            have HO4 := Lib.hid hOa
            have f24 := HK4.out.cell f2 (fun h => h)
            have hr04 := HK4.out.cell hr0 (fun h => h)
            have hr14 := HK4.out.cell hr1 (fun h => h)
            have hat4 := HAT.out.keep HK4.out (fun h => h)
            have hfr4 := hat4.frozen (i * 2)
            have hfr5 := hat4.frozen (i * 2 + 1)
            have hgr : g ≠ r := fun e => At.ne HAT.out HPr.out.fs (by decide) e
            have hlt4 := hat4.lt
            obtain ⟨w5, hw5⟩ : ∃ w5, w5 = (w4.setCell ⟨g, i * 2, none⟩ (.slice y4 VV c4)).setCell ⟨g, i * 2 + 1, none⟩ (.int .i64 (VV : Int)) := ⟨_, rfl⟩
            have HK5 : Hid (Keep (· = g) w4 w5) := by rw [hw5]; exact ((Keep.refl (· = g) w4).setCell (p := ⟨g, i * 2, none⟩) (fun _ => rfl) _).setCell (p := ⟨g, i * 2 + 1, none⟩) (fun _ => rfl) _
            have f25 := HK5.out.cell f24 (fun e => hgr e.symm)
            have HW5 := Lib.hid hw5
            clear hOa ka hNa hat4 hw5
            refine wpAnyH_ready (rs := [5, 13]) (by kernel_rfl) (by simp) ?_
            refine AllReadyH.cons rfl (fun K hK => ?_) (AllReadyH.cons rfl (fun K hK => ?_) AllReadyH.nil)
            · go_simp
              refine hK.out _ _ f2a (fun hHeld => ?_)
              clear hK K
              try simp only [Act.put, List.getElem_toArray, List.getElem_cons_succ, List.getElem_cons_zero, List.setIfInBounds_toArray, List.set_cons_zero, List.set_cons_succ]
              refine wpAnyH_ready (rs := [13]) (by kernel_rfl) (by simp) ?_
              refine AllReadyH.cons rfl (fun K hK => ?_) AllReadyH.nil
              go_simp
              refine hK.out _ _ f2a (fun hHeld => ?_)
              clear hK K
              try simp only [Act.put, List.getElem_toArray, List.getElem_cons_succ, List.getElem_cons_zero, List.setIfInBounds_toArray, List.set_cons_zero, List.set_cons_succ]
              refine wpAnyH_take (i := 15) (v := ?_) rfl (by kernel_rfl) (by kernel_rfl) (by kernel_rfl) (fun _ _ _ h => h) (Or.inl ⟨by rfl, ?_⟩) (by assumption) ?_
              rotate_left
              · (intro wS hSw; (try dsimp only at hSw); (try simp only [List.getElem_toArray, List.getElem_cons_succ, List.getElem_cons_zero]); go_simp; try (with_reducible rfl))
              try simp only [Act.put, List.getElem_toArray, List.getElem_cons_succ, List.getElem_cons_zero, List.setIfInBounds_toArray, List.set_cons_zero, List.set_cons_succ]
              refine wpAnyH_ready (rs := [16]) (by kernel_rfl) (by simp) ?_
              refine AllReadyH.cons rfl (fun K hK => ?_) AllReadyH.nil
              refine wp_append_run (by rfl) (by rfl) (by rfl) hra ?_
              refine hK.out _ _ f24 (fun hHeld => ?_)
              clear hK K
              try simp only [Act.put, List.getElem_toArray, List.getElem_cons_succ, List.getElem_cons_zero, List.setIfInBounds_toArray, List.set_cons_zero, List.set_cons_succ]
              refine wpAnyH_take (i := 18) (v := ?_) rfl (by kernel_rfl) (by kernel_rfl) (by kernel_rfl) (fun _ _ _ h => h) (Or.inl ⟨by rfl, ?_⟩) (by assumption) ?_
              rotate_left
              · (intro wS hSw; (try dsimp only at hSw); (try simp only [List.getElem_toArray, List.getElem_cons_succ, List.getElem_cons_zero]); go_simp; try (with_reducible rfl))
              try simp only [Act.put, List.getElem_toArray, List.getElem_cons_succ, List.getElem_cons_zero, List.setIfInBounds_toArray, List.set_cons_zero, List.set_cons_succ]
              refine wpAnyH_take (i := 19) (v := ?_) rfl (by kernel_rfl) (by kernel_rfl) (by kernel_rfl) (fun _ _ _ h => h) (Or.inl ⟨by rfl, ?_⟩) (by assumption) ?_
              rotate_left
              · (intro wS hSw; (try dsimp only at hSw); (try simp only [List.getElem_toArray, List.getElem_cons_succ, List.getElem_cons_zero]); go_simp; try (with_reducible rfl))
              try simp only [Act.put, List.getElem_toArray, List.getElem_cons_succ, List.getElem_cons_zero, List.setIfInBounds_toArray, List.set_cons_zero, List.set_cons_succ]
              refine wpAnyH_ready (rs := [20]) (by kernel_rfl) (by simp) ?_
              refine AllReadyH.cons rfl (fun K hK => ?_) AllReadyH.nil
              go_simp
              rw [← HW5.out]
              refine hK.out _ _ f25 (fun hHeld => ?_)
              clear hK K
              try simp only [Act.put, List.getElem_toArray, List.getElem_cons_succ, List.getElem_cons_zero, List.setIfInBounds_toArray, List.set_cons_zero, List.set_cons_succ]
              refine wpAnyH_done (by kernel_rfl) ?_ _
              refine NoPanic.normal ?_
              go_wp2
              go_roundw
              case rel =>
                have h4 := HPr.out.keep HK4.out (fun _ _ h => h)
                have hN' : (kfS t M i).files.length = N := by show (kf t.files M i).length = N; rw [kf_length, HN.out]
                have hfil := h4.files
                rw [hN'] at hfil
                have hrow := (hfil.put (x := none) (i * 2) (.slice y4 VV c4)).put (x := none) (i * 2 + 1) (.int .i64 (VV : Int))
                rw [← HW5.out] at hrow
                have hkf : keepF X M = ⟨X.bytes.take VV, VV⟩ := by
                  unfold keepF
                  rw [← HBl.out, ← HZl.out, HQQ.out, show Z + M = VV by have := HVV.out; omega]
                have hfc : ((fileCells fl).set (i * 2) (.slice y4 VV c4)).set (i * 2 + 1) (.int .i64 (VV : Int)) = fileCells (fl.set i (.slice y4 VV c4, keepF X M)) := by rw [fileCells_set HV2.out, hkf]
                rw [hfc] at hrow
                have hsz : w5.heap.size = w4.heap.size := by rw [HW5.out]; simp [World.setCell]
                have hw0 := HKr.out.size
                have hw4 := HK4.out.size
                have hO5 : Own w5 (.slice y4 VV c4) (keepF X M).bytes := by
                  rw [hkf]
                  exact HO4.out.keep HK5.out (fun b hb e => HO4.out.ne (HAT.out.keep HK4.out (fun h => h)) (by decide) (e ▸ hb))
                have hst := h4.store (w' := w5) (T' := Up T w w5) (q := (.slice y4 VV c4, keepF X M)) HV2.out (fun b _ h => Up.more (by omega) h) (by rw [hN']; exact hrow.mono (fun b _ h => Up.more (by omega) h)) HK5.out hO5 (fun b hb => .inr ⟨by have := HNB4.out b hb; omega, hO5.lt b hb⟩)
                rw [HXe.out, kfS_set HIL.out] at hst
                refine ⟨i + 1, by omega, by go_num, ⟨_, hst⟩, ?_⟩
                exact (HKr.out.trans (HK4.out.mono (T := T) (fun _ _ h => h.elim)) (fun _ _ h => h)).trans HK5.out (fun b hb e => by
                  rcases HPr.out.files.2 g rfl with h | ⟨h, _⟩
                  · rw [e]; exact h
                  · omega)
              case measure => simp [intOf]; omega
            · go_simp
              refine hK.out _ _ f2 (fun hHeld => ?_)
              clear hK K
              try simp only [Act.put, List.getElem_toArray, List.getElem_cons_succ, List.getElem_cons_zero, List.setIfInBounds_toArray, List.set_cons_zero, List.set_cons_succ]
              refine wpAnyH_take (i := 15) (v := ?_) rfl (by kernel_rfl) (by kernel_rfl) (by kernel_rfl) (fun _ _ _ h => h) (Or.inl ⟨by rfl, ?_⟩) (by assumption) ?_
              rotate_left
              · (intro wS hSw; (try dsimp only at hSw); (try simp only [List.getElem_toArray, List.getElem_cons_succ, List.getElem_cons_zero]); go_simp; try (with_reducible rfl))
              try simp only [Act.put, List.getElem_toArray, List.getElem_cons_succ, List.getElem_cons_zero, List.setIfInBounds_toArray, List.set_cons_zero, List.set_cons_succ]
              refine wpAnyH_ready (rs := [5]) (by kernel_rfl) (by simp) ?_
              refine AllReadyH.cons rfl (fun K hK => ?_) AllReadyH.nil
              go_simp
              refine hK.out _ _ f2a (fun hHeld => ?_)
              clear hK K
              try simp only [Act.put, List.getElem_toArray, List.getElem_cons_succ, List.getElem_cons_zero, List.setIfInBounds_toArray, List.set_cons_zero, List.set_cons_succ]
              refine wpAnyH_ready (rs := [16]) (by kernel_rfl) (by simp) ?_
              refine AllReadyH.cons rfl (fun K hK => ?_) AllReadyH.nil
              refine wp_append_run (by rfl) (by rfl) (by rfl) hra ?_
              refine hK.out _ _ f24 (fun hHeld => ?_)
              clear hK K
              try simp only [Act.put, List.getElem_toArray, List.getElem_cons_succ, List.getElem_cons_zero, List.setIfInBounds_toArray, List.set_cons_zero, List.set_cons_succ]
              refine wpAnyH_take (i := 18) (v := ?_) rfl (by kernel_rfl) (by kernel_rfl) (by kernel_rfl) (fun _ _ _ h => h) (Or.inl ⟨by rfl, ?_⟩) (by assumption) ?_
              rotate_left
              · (intro wS hSw; (try dsimp only at hSw); (try simp only [List.getElem_toArray, List.getElem_cons_succ, List.getElem_cons_zero]); go_simp; try (with_reducible rfl))
              try simp only [Act.put, List.getElem_toArray, List.getElem_cons_succ, List.getElem_cons_zero, List.setIfInBounds_toArray, List.set_cons_zero, List.set_cons_succ]
              refine wpAnyH_take (i := 19) (v := ?_) rfl (by kernel_rfl) (by kernel_rfl) (by kernel_rfl) (fun _ _ _ h => h) (Or.inl ⟨by rfl, ?_⟩) (by assumption) ?_
              rotate_left
              · (intro wS hSw; (try dsimp only at hSw); (try simp only [List.getElem_toArray, List.getElem_cons_succ, List.getElem_cons_zero]); go_simp; try (with_reducible rfl))
              try simp only [Act.put, List.getElem_toArray, List.getElem_cons_succ, List.getElem_cons_zero, List.setIfInBounds_toArray, List.set_cons_zero, List.set_cons_succ]
              refine wpAnyH_ready (rs := [20]) (by kernel_rfl) (by simp) ?_
              refine AllReadyH.cons rfl (fun K hK => ?_) AllReadyH.nil
              go_simp
              rw [← HW5.out]
              refine hK.out _ _ f25 (fun hHeld => ?_)
              clear hK K
              try simp only [Act.put, List.getElem_toArray, List.getElem_cons_succ, List.getElem_cons_zero, List.setIfInBounds_toArray, List.set_cons_zero, List.set_cons_succ]
              refine wpAnyH_done (by kernel_rfl) ?_ _
              refine NoPanic.normal ?_
              go_wp2
              go_roundw
              case rel =>
                have h4 := HPr.out.keep HK4.out (fun _ _ h => h)
                have hN' : (kfS t M i).files.length = N := by show (kf t.files M i).length = N; rw [kf_length, HN.out]
                have hfil := h4.files
                rw [hN'] at hfil
                have hrow := (hfil.put (x := none) (i * 2) (.slice y4 VV c4)).put (x := none) (i * 2 + 1) (.int .i64 (VV : Int))
                rw [← HW5.out] at hrow
                have hkf : keepF X M = ⟨X.bytes.take VV, VV⟩ := by
                  unfold keepF
                  rw [← HBl.out, ← HZl.out, HQQ.out, show Z + M = VV by have := HVV.out; omega]
                have hfc : ((fileCells fl).set (i * 2) (.slice y4 VV c4)).set (i * 2 + 1) (.int .i64 (VV : Int)) = fileCells (fl.set i (.slice y4 VV c4, keepF X M)) := by rw [fileCells_set HV2.out, hkf]
                rw [hfc] at hrow
                have hsz : w5.heap.size = w4.heap.size := by rw [HW5.out]; simp [World.setCell]
                have hw0 := HKr.out.size
                have hw4 := HK4.out.size
                have hO5 : Own w5 (.slice y4 VV c4) (keepF X M).bytes := by
                  rw [hkf]
                  exact HO4.out.keep HK5.out (fun b hb e => HO4.out.ne (HAT.out.keep HK4.out (fun h => h)) (by decide) (e ▸ hb))
                have hst := h4.store (w' := w5) (T' := Up T w w5) (q := (.slice y4 VV c4, keepF X M)) HV2.out (fun b _ h => Up.more (by omega) h) (by rw [hN']; exact hrow.mono (fun b _ h => Up.more (by omega) h)) HK5.out hO5 (fun b hb => .inr ⟨by have := HNB4.out b hb; omega, hO5.lt b hb⟩)
                rw [HXe.out, kfS_set HIL.out] at hst
                refine ⟨i + 1, by omega, by go_num, ⟨_, hst⟩, ?_⟩
                exact (HKr.out.trans (HK4.out.mono (T := T) (fun _ _ h => h.elim)) (fun _ _ h => h)).trans HK5.out (fun b hb e => by
                  rcases HPr.out.files.2 g rfl with h | ⟨h, _⟩
                  · rw [e]; exact h
                  · omega)
              case measure => simp [intOf]; omega
        · have hiN : i = t.files.length := by have := HN.out; omega
          have HI := Lib.hid hiN
          have r4 := hpr.fs.cell 4
          have r5 := hpr.fs.cell 5
          have z4 := hpr.fs.frozen 4
          have z5 := hpr.fs.frozen 5
          have hltr := hpr.fs.lt
          simp at r4 r5
          clear hiN hpr
          go_wp2
          (try simp only [Exit.inBlock, Exit.then])
          refine bodyPost_ret (results_none rfl _ _ _) rfl ?_
          obtain ⟨fl, hpr⟩ := HX.out
          obtain ⟨W, hW⟩ : ∃ W, W = (wr.setCell ⟨r, 5, none⟩ (.bool false)).setCell ⟨r, 4, none⟩ (.int .i64 (-1)) := ⟨_, rfl⟩
          have kW : Keep (· = r) wr W := by rw [hW]; exact ((Keep.refl (· = r) wr).setCell (p := ⟨r, 5, none⟩) (fun _ => rfl) _).setCell (p := ⟨r, 4, none⟩) (fun _ => rfl) _
          have hsz : W.heap.size = wr.heap.size := by rw [hW]; simp [World.setCell]
          rw [← hW]
          have hq := hpr.turn (t := crashR s (D : Int) (M : Int)) kW (by rw [hW]; have := (hpr.fs.put 5 (.bool false)).put 4 (.int .i64 (-1)); rw [show (kfS t M i).room = s.room from HTq.out.2.2.2] at this; exact this) (by
              show (s.loose.take (min ((D : Int)).toNat s.loose.length)).foldl app s.sure = t.sure
              rw [HTq.out.2.1]
              rw [show min ((D : Int)).toNat s.loose.length = s.loose.length by have := HL.out; omega, List.take_length]
              rfl) (by show ([] : List Chg) = t.loose; rw [HTq.out.2.2.1]) (by
              show s.files.map (keepF · ((M : Int)).toNat) = kf t.files M i
              rw [HI.out, kf_all, HTq.out.1]
              rw [show ((M : Int)).toNat = M by omega])
          refine ⟨rfl, ⟨⟨_, _, _, _, hq.mono (fun b _ h => Up.more (by omega) h)⟩, HGd.out, HRd.out⟩, ?_⟩
          exact HKr.out.trans kW (fun b hb e => by
            rcases HPq.out.inT with h | ⟨h, _⟩
            · rw [e]; exact h
            · omega)

end Go.Proofs.Ytgjkocjgkbjciaa.Fs
