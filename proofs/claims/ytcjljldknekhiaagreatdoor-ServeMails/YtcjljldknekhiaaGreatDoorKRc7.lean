/-
  What the document's own command returns and does.
-/
import Derived.Test.YtcjljldknekhiaaGreatDoorKg2
import Derived.Deep.RegionHeld3
namespace Go.Proofs.YtcjljldknekhiaaGreatDoor.Ln
open Go.RowKit
set_option linter.unusedVariables false
set_option linter.unusedSimpArgs false

theorem More.up {F F' : Nat → Prop} {w W : World} (m : More F F' W) (h : w.heap.size ≤ W.heap.size) : More F F' w := fun i hi => (m i hi).elim .inl (fun h' => .inr (Nat.le_trans h h'))
set_option maxHeartbeats 4000000 in
set_option maxRecDepth 100000 in
theorem cmd_rcpt2 {F : Nat → Prop} {w : World} {g : Nat} {s : Se} (h : RS F w g s) (hok : Ok s) (ho : s.out.length + 2 ≤ 1000000) (l : ByteArray) (hl : l.size ≤ 512) (A : ByteArray) (z : Int) (h1 : ¬ ((s.st : Int) < 2)) (h8 : s.rcpts.length < 8)
    (hv : ∀ w, Calls Tryz.prog 25 #[.string l] w fun e w' => e = .returned (.tuple #[.agg #[.string { data := #[82, 67, 80, 84] }, .string A, .int .i64 z], .int .i64 0]) ∧ Keep (fun _ => False) w w') :
    Calls Tryz.prog 38 #[.pointer (some ⟨g, 0, none⟩), .string l] w (Did F g ({ s with st := 3, rcpts := s.rcpts ++ [A] }.say (reply 250)) w) := by
  have N0 := Lib.hid (Now.start h)
  have HV := Lib.hid hv
  have HOK := Lib.hid hok
  have hst := hok.st
  have hsz := hok.size
  have hl' : (l.size : Int) ≤ 512 := by omega
  clear h hv hok
  go_enter Tryz.func38, Tryz.ntmps38
  go_wp2_with fail
  refine (HV.out _).mono ?_
  rintro e w1 ⟨rfl, hk1⟩
  have N1 := Lib.hid (N0.out.quiet (hk1.trans (laidV_keep w1 { data := #[82, 67, 80, 84] } A z) (fun _ _ h => h)))
  obtain ⟨v0, v1, v2⟩ := laidV_cells w1 { data := #[82, 67, 80, 84] } A z
  obtain ⟨c0, c1, c4, c5, c8, fz⟩ := N1.out.cells
  have f4 := fz 4
  obtain ⟨wv, ov, rv, bv, qo, qb, xs, hR1⟩ := N1.out.rs
  obtain ⟨rx, rc, hrv, hrc, _⟩ := hR1.rc
  subst hrv
  obtain ⟨_, _, _, _, _, _, c6, _⟩ := hR1.cells
  obtain ⟨n, hn⟩ : ∃ n, n = s.rcpts.length := ⟨_, rfl⟩
  rw [← hn] at c6 hrc hR1
  have h8' : (n : Int) < 8 := by omega
  have hR2 := hR1.put (s' := s.to 3) 4 (.int .i64 3) (by rfl) rfl rfl rfl rfl
  have hK2 : Keep F w ((laidV w1 { data := #[82, 67, 80, 84] } A z).setCell ⟨g, 4, none⟩ (.int .i64 3)) := keep_more N1.out.kp (put_keep hR1.fg 4 _) (More.refl _ _)
  have hgv : g ≠ w1.heap.size := by
    have := (N0.out.rs).lt
    obtain ⟨_, _, _, _, _, _, _, hR⟩ := N0.out.rs
    have := hR.flt g hR.fg
    have := hk1.size
    omega
  have HR2 := Lib.hid hR2
  have HK2 := Lib.hid hK2
  have vW : ((laidV w1 { data := #[82, 67, 80, 84] } A z).setCell ⟨g, 4, none⟩ (.int .i64 3)).cell? ⟨w1.heap.size, 1, none⟩ = some (.string A) := ((Keep.refl (fun k => k = g) _).setCell (p := ⟨g, 4, none⟩) (fun _ => rfl) _).cell v1 (fun e => hgv e.symm)
  clear hR1 hR2 hK2
  clear hk1 fz
  go_wp2_with (refine step_laidV (by rfl) (.tmp 4) (.tmp 15) (by rfl) { data := #[82, 67, 80, 84] } A z (by rfl) (by rfl) ?_)
  generalize (laidV w1 { data := #[82, 67, 80, 84] } A z).setCell ⟨g, 4, none⟩ (.int .i64 3) = W at HR2 HK2 vW ⊢
  obtain ⟨_, _, _, _, _, _, k6, _⟩ := HR2.out.cells
  have kf6 := HR2.out.frozen 6
  have hsW := HK2.out.size
  have kA : Keep (fun _ => False) W (W.alloc (.cells #[] 9)) := (Keep.refl _ W).alloc _
  have kB : Keep (fun _ => False) W (W.alloc (.cells #[.string A] 9)) := (Keep.refl _ W).alloc _
  have kAB : Keep (fun _ => False) W ((W.alloc (.cells #[] 9)).alloc (.cells #[.string A] 9)) := kA.alloc _
  have kBA : Keep (fun _ => False) W ((W.alloc (.cells #[.string A] 9)).alloc (.cells #[] 9)) := kB.alloc _
  have a6 := kA.cell k6 (fun h => h)
  have a6b := kB.cell k6 (fun h => h)
  have a6ab := kAB.cell k6 (fun h => h)
  have a6ba := kBA.cell k6 (fun h => h)
  have av := kA.cell vW (fun h => h)
  have avb := kB.cell vW (fun h => h)
  have avab := kAB.cell vW (fun h => h)
  have avba := kBA.cell vW (fun h => h)
  have hLn : s.rcpts.length ≤ 1000000 := by omega
  have hrc' : (s.to 3).rcpts = s.rcpts := rfl
  have cA : ((W.alloc (.cells #[] 9)).alloc (.cells #[.string A] 9)).drew.cell? ⟨W.heap.size + 1, 0, none⟩ = some (.string A) := by
    simp
  have cB : ((W.alloc (.cells #[.string A] 9)).alloc (.cells #[] 9)).drew.cell? ⟨W.heap.size, 0, none⟩ = some (.string A) := ((Keep.refl (fun _ => False) (W.alloc (.cells #[.string A] 9))).alloc (.cells #[] 9)).cell (cell_of_row _ _ 0 _ _ (0, 0) (heap_alloc_new W _)) (fun h => h)
  obtain ⟨y1, j1, d1, q1, u1, r1, m1, k1, nw1⟩ := app_txt (HR2.out.rc.keep (R' := fun _ => True) kA.drew (fun b _ _ => ⟨fun h => h, trivial⟩)) (some ⟨W.heap.size, 0, none⟩) 36 hLn
  obtain ⟨y2, j2, d2, q2, u2, r2, m2, k2, nw2⟩ := app_txt (HR2.out.rc.keep (R' := fun _ => True) kAB.drew (fun b _ _ => ⟨fun h => h, trivial⟩)) (some ⟨W.heap.size, 0, none⟩) 36 hLn
  obtain ⟨y3, j3, d3, q3, u3, r3, m3, k3, nw3⟩ := app_txt (HR2.out.rc.keep (R' := fun _ => True) kBA.drew (fun b _ _ => ⟨fun h => h, trivial⟩)) (some ⟨W.heap.size + 1, 0, none⟩) 36 hLn
  rw [hrc', ← hn] at m1 m2 m3
  have K1 := kA.drew.trans k1 (fun _ _ h => h)
  have K2 := kAB.drew.trans k2 (fun _ _ h => h)
  have K3 := kBA.drew.trans k3 (fun _ _ h => h)
  have b1 := K1.cell vW (fun h => h)
  have b1a := (K1.alloc (.cells #[.string A] 9)).cell vW (fun h => h)
  have b2 := K2.cell vW (fun h => h)
  have b3 := K3.cell vW (fun h => h)
  have m1' := m1.keep ((Keep.refl (fun _ => False) u1).alloc (.cells #[.string A] 9)) (fun _ _ h => h)
  obtain ⟨y4, j4, d4, q4, u4, r4, m4, k4, nw4⟩ := app_one m1' ⟨u1.heap.size, 0, none⟩ A (cell_of_row _ _ 0 _ _ (0, 0) (heap_alloc_new u1 _)) 36 (by omega)
  obtain ⟨y5, j5, d5, q5, u5, r5, m5, k5, nw5⟩ := app_one m2 ⟨W.heap.size + 1, 0, none⟩ A (k2.cell cA (fun h => h)) 36 (by omega)
  obtain ⟨y6, j6, d6, q6, u6, r6, m6, k6', nw6⟩ := app_one m3 ⟨W.heap.size, 0, none⟩ A (k3.cell cB (fun h => h)) 36 (by omega)
  have new1 : ∀ b, q1 = some b → W.heap.size ≤ b := fun b hb => by rcases nw1 b hb with h | h; · cases h
                                                                   · have := kA.size; simp at h; omega
  have new2 : ∀ b, q2 = some b → W.heap.size ≤ b := fun b hb => by rcases nw2 b hb with h | h; · cases h
                                                                   · have := kAB.size; simp at h; omega
  have new3 : ∀ b, q3 = some b → W.heap.size ≤ b := fun b hb => by rcases nw3 b hb with h | h; · cases h
                                                                   · have := kBA.size; simp at h; omega
  have K4 : Keep (fun _ => False) W u4 := (K1.alloc (.cells #[.string A] 9)).trans k4 (fun i hi e => by have := new1 i e; omega)
  have K5 : Keep (fun _ => False) W u5 := K2.trans k5 (fun i hi e => by have := new2 i e; omega)
  have K6 : Keep (fun _ => False) W u6 := K3.trans k6' (fun i hi e => by have := new3 i e; omega)
  have new4 : ∀ b, q4 = some b → W.heap.size ≤ b := fun b hb => by rcases nw4 b hb with h | h; · exact new1 b h
                                                                   · have := K1.size; simp at h; omega
  have new5 : ∀ b, q5 = some b → W.heap.size ≤ b := fun b hb => by rcases nw5 b hb with h | h; · exact new2 b h
                                                                   · have := K2.size; omega
  have new6 : ∀ b, q6 = some b → W.heap.size ≤ b := fun b hb => by rcases nw6 b hb with h | h; · exact new3 b h
                                                                   · have := K3.size; omega
  have b4 := K4.cell vW (fun h => h)
  have b5 := K5.cell vW (fun h => h)
  have b6 := K6.cell vW (fun h => h)
  have put6 : ∀ (X : World) (u : Value), X.cell? ⟨w1.heap.size, 1, none⟩ = some (.string A) → (X.setCell ⟨g, 6, none⟩ u).cell? ⟨w1.heap.size, 1, none⟩ = some (.string A) := fun X u hX => ((Keep.refl (fun k => k = g) X).setCell (p := ⟨g, 6, none⟩) (fun _ => rfl) u).cell hX (fun e => hgv e.symm)
  have e4 := put6 u4 (.slice y4 j4 d4) b4
  have e5 := put6 u5 (.slice y5 j5 d5) b5
  have e6 := put6 u6 (.slice y6 j6 d6) b6
  clear put6
  have hstr : strV s.rcpts ++ [.string A] = strV (s.rcpts ++ [A]) := by simp [strV]
  rw [hstr] at m4 m5 m6
  obtain ⟨z4, zf4, F4, S4, T4, M4⟩ := HR2.out.rcpt K4 (by simp [hn]) m4 new4
  obtain ⟨z5, zf5, F5, S5, T5, M5⟩ := HR2.out.rcpt K5 (by simp [hn]) m5 new5
  obtain ⟨z6, zf6, F6, S6, T6, M6⟩ := HR2.out.rcpt K6 (by simp [hn]) m6 new6
  have E4 := Lib.hid (show Now F w g F4 (u4.setCell ⟨g, 6, none⟩ (.slice y4 j4 d4)) { s with st := 3, rcpts := s.rcpts ++ [A] } from ⟨⟨_, _, _, _, _, _, _, S4⟩, keep_more HK2.out T4 (More.refl _ _), M4.up hsW⟩)
  have E5 := Lib.hid (show Now F w g F5 (u5.setCell ⟨g, 6, none⟩ (.slice y5 j5 d5)) { s with st := 3, rcpts := s.rcpts ++ [A] } from ⟨⟨_, _, _, _, _, _, _, S5⟩, keep_more HK2.out T5 (More.refl _ _), M5.up hsW⟩)
  have E6 := Lib.hid (show Now F w g F6 (u6.setCell ⟨g, 6, none⟩ (.slice y6 j6 d6)) { s with st := 3, rcpts := s.rcpts ++ [A] } from ⟨⟨_, _, _, _, _, _, _, S6⟩, keep_more HK2.out T6 (More.refl _ _), M6.up hsW⟩)
  clear m1 m2 m3 m4 m5 m6 m1' k1 k2 k3 k4 k5 k6' nw1 nw2 nw3 nw4 nw5 nw6 new1 new2 new3 new4 new5 new6 K1 K2 K3 K4 K5 K6 S4 S5 S6 T4 T5 T6 M4 M5 M6 kA kB kAB kBA hstr cA cB hrc' hn hLn h8
  refine wp_region_noPanic ?_
  refine wp_region_held_drew (S := fun w' => w'.cell? ⟨w1.heap.size, 1, none⟩ = some (.string A)) (by kernel_rfl) vW (fun hHeld => ?_)
  refine wpAnyH_take (i := 0) (v := ?_) rfl (by kernel_rfl) (by kernel_rfl) (by kernel_rfl) (fun _ _ _ h => h) (Or.inl ⟨by rfl, ?_⟩) (by assumption) ?_
  rotate_left
  · (intro wS hSw; (try dsimp only at hSw); (try simp only [List.getElem_toArray, List.getElem_cons_succ, List.getElem_cons_zero]); go_simp; try (with_reducible rfl))
  try simp only [Act.put, List.getElem_toArray, List.getElem_cons_succ, List.getElem_cons_zero, List.setIfInBounds_toArray, List.set_cons_zero, List.set_cons_succ]
  refine wpAnyH_take (i := 2) (v := ?_) rfl (by kernel_rfl) (by kernel_rfl) (by kernel_rfl) (fun _ _ _ h => h) (Or.inl ⟨by rfl, ?_⟩) (by assumption) ?_
  rotate_left
  · (intro wS hSw; (try dsimp only at hSw); (try simp only [List.getElem_toArray, List.getElem_cons_succ, List.getElem_cons_zero]); go_simp; try (with_reducible rfl))
  try simp only [Act.put, List.getElem_toArray, List.getElem_cons_succ, List.getElem_cons_zero, List.setIfInBounds_toArray, List.set_cons_zero, List.set_cons_succ]
  refine wpAnyH_take (i := 3) (v := ?_) rfl (by kernel_rfl) (by kernel_rfl) (by kernel_rfl) (fun _ _ _ h => h) (Or.inl ⟨by rfl, ?_⟩) (by assumption) ?_
  rotate_left
  · (intro wS hSw; (try dsimp only at hSw); (try simp only [List.getElem_toArray, List.getElem_cons_succ, List.getElem_cons_zero]); go_simp; try (with_reducible rfl))
  try simp only [Act.put, List.getElem_toArray, List.getElem_cons_succ, List.getElem_cons_zero, List.setIfInBounds_toArray, List.set_cons_zero, List.set_cons_succ]
  refine wpAnyH_take (i := 4) (v := ?_) rfl (by kernel_rfl) (by kernel_rfl) (by kernel_rfl) (fun _ _ _ h => h) (Or.inl ⟨by rfl, ?_⟩) (by assumption) ?_
  rotate_left
  · (intro wS hSw; (try dsimp only at hSw); (try simp only [List.getElem_toArray, List.getElem_cons_succ, List.getElem_cons_zero]); go_simp; try (with_reducible rfl))
  try simp only [Act.put, List.getElem_toArray, List.getElem_cons_succ, List.getElem_cons_zero, List.setIfInBounds_toArray, List.set_cons_zero, List.set_cons_succ]
  refine wpAnyH_take (i := 7) (v := ?_) rfl (by kernel_rfl) (by kernel_rfl) (by kernel_rfl) (fun _ _ _ h => h) (Or.inl ⟨by rfl, ?_⟩) (by assumption) ?_
  rotate_left
  · (intro wS hSw; (try dsimp only at hSw); (try simp only [List.getElem_toArray, List.getElem_cons_succ, List.getElem_cons_zero]); go_simp; try (with_reducible rfl))
  try simp only [Act.put, List.getElem_toArray, List.getElem_cons_succ, List.getElem_cons_zero, List.setIfInBounds_toArray, List.set_cons_zero, List.set_cons_succ]
  refine wpAnyH_take (i := 8) (v := ?_) rfl (by kernel_rfl) (by kernel_rfl) (by kernel_rfl) (fun _ _ _ h => h) (Or.inl ⟨by rfl, ?_⟩) (by assumption) ?_
  rotate_left
  · (intro wS hSw; (try dsimp only at hSw); (try simp only [List.getElem_toArray, List.getElem_cons_succ, List.getElem_cons_zero]); go_simp; try (with_reducible rfl))
  try simp only [Act.put, List.getElem_toArray, List.getElem_cons_succ, List.getElem_cons_zero, List.setIfInBounds_toArray, List.set_cons_zero, List.set_cons_succ]
  refine wpAnyH_ready (rs := [1, 5, 9]) (by kernel_rfl) (by simp) ?_
  refine AllReadyH.cons rfl (fun K hK => ?_) (AllReadyH.cons rfl (fun K hK => ?_) (AllReadyH.cons rfl (fun K hK => ?_) AllReadyH.nil))
  · go_simp
    refine hK.out _ _ av (fun hHeld => ?_)
    clear hK K
    try simp only [Act.put, List.getElem_toArray, List.getElem_cons_succ, List.getElem_cons_zero, List.setIfInBounds_toArray, List.set_cons_zero, List.set_cons_succ]
    refine wpAnyH_ready (rs := [5, 9]) (by kernel_rfl) (by simp) ?_
    refine AllReadyH.cons rfl (fun K hK => ?_) (AllReadyH.cons rfl (fun K hK => ?_) AllReadyH.nil)
    · go_simp
      refine hK.out _ _ av (fun hHeld => ?_)
      clear hK K
      try simp only [Act.put, List.getElem_toArray, List.getElem_cons_succ, List.getElem_cons_zero, List.setIfInBounds_toArray, List.set_cons_zero, List.set_cons_succ]
      refine wpAnyH_ready (rs := [6, 9]) (by kernel_rfl) (by simp) ?_
      refine AllReadyH.cons rfl (fun K hK => ?_) (AllReadyH.cons rfl (fun K hK => ?_) AllReadyH.nil)
      · refine wp_append_runT (by rfl) (by rfl) (by rfl) r1 ?_
        refine hK.out _ _ b1 (fun hHeld => ?_)
        clear hK K
        try simp only [Act.put, List.getElem_toArray, List.getElem_cons_succ, List.getElem_cons_zero, List.setIfInBounds_toArray, List.set_cons_zero, List.set_cons_succ]
        refine wpAnyH_ready (rs := [9]) (by kernel_rfl) (by simp) ?_
        refine AllReadyH.cons rfl (fun K hK => ?_) AllReadyH.nil
        · go_simp
          refine hK.out _ _ b1a (fun hHeld => ?_)
          clear hK K
          try simp only [Act.put, List.getElem_toArray, List.getElem_cons_succ, List.getElem_cons_zero, List.setIfInBounds_toArray, List.set_cons_zero, List.set_cons_succ]
          refine wpAnyH_ready (rs := [10]) (by kernel_rfl) (by simp) ?_
          refine AllReadyH.cons rfl (fun K hK => ?_) AllReadyH.nil
          · refine wp_append_runT (by rfl) (by rfl) (by rfl) r4 ?_
            refine hK.out _ _ b4 (fun hHeld => ?_)
            clear hK K
            try simp only [Act.put, List.getElem_toArray, List.getElem_cons_succ, List.getElem_cons_zero, List.setIfInBounds_toArray, List.set_cons_zero, List.set_cons_succ]
            refine wpAnyH_take (i := 11) (v := ?_) rfl (by kernel_rfl) (by kernel_rfl) (by kernel_rfl) (fun _ _ _ h => h) (Or.inl ⟨by rfl, ?_⟩) (by assumption) ?_
            rotate_left
            · (intro wS hSw; (try dsimp only at hSw); (try simp only [List.getElem_toArray, List.getElem_cons_succ, List.getElem_cons_zero]); go_simp; try (with_reducible rfl))
            try simp only [Act.put, List.getElem_toArray, List.getElem_cons_succ, List.getElem_cons_zero, List.setIfInBounds_toArray, List.set_cons_zero, List.set_cons_succ]
            refine wpAnyH_take (i := 12) (v := ?_) rfl (by kernel_rfl) (by kernel_rfl) (by kernel_rfl) (fun _ _ _ h => h) (Or.inl ⟨by rfl, ?_⟩) (by assumption) ?_
            rotate_left
            · (intro wS hSw; (try dsimp only at hSw); (try simp only [List.getElem_toArray, List.getElem_cons_succ, List.getElem_cons_zero]); go_simp; try (with_reducible rfl))
            try simp only [Act.put, List.getElem_toArray, List.getElem_cons_succ, List.getElem_cons_zero, List.setIfInBounds_toArray, List.set_cons_zero, List.set_cons_succ]
            refine wpAnyH_ready (rs := [13]) (by kernel_rfl) (by simp) ?_
            refine AllReadyH.cons rfl (fun K hK => ?_) AllReadyH.nil
            go_simp
            refine hK.out _ _ e4 (fun hHeld => ?_)
            clear hK K
            try simp only [Act.put, List.getElem_toArray, List.getElem_cons_succ, List.getElem_cons_zero, List.setIfInBounds_toArray, List.set_cons_zero, List.set_cons_succ]
            refine wpAnyH_done (by kernel_rfl) ?_ _
            refine NoPanic.normal ?_
            have N2 := E4
            go_wp2_with fail
            refine (refText 250 (by decide) (by decide) _).mono ?_
            rintro e w3 ⟨rfl, hk3⟩
            have N3 := Lib.hid (N2.out.quiet hk3)
            clear hk3
            go_wp2_with fail
            refine (refSay N3.out.rs _ (by have : s.out.length + 2 ≤ 1000000 := ho; show s.out.length ≤ 1000000; omega)).mono ?_
            rintro e w4 hd
            obtain ⟨rfl, F4, hN4⟩ := N3.out.did hd
            have N4 := Lib.hid hN4
            clear hd hN4
            go_wp2_with fail
            (try simp only [Exit.inBlock, Exit.then])
            first | go_end0 | refine bodyPost_ret (results_none rfl _ _ _) rfl ?_
            exact N4.out.done
      · go_simp
        refine hK.out _ _ avab (fun hHeld => ?_)
        clear hK K
        try simp only [Act.put, List.getElem_toArray, List.getElem_cons_succ, List.getElem_cons_zero, List.setIfInBounds_toArray, List.set_cons_zero, List.set_cons_succ]
        refine wpAnyH_ready (rs := [6]) (by kernel_rfl) (by simp) ?_
        refine AllReadyH.cons rfl (fun K hK => ?_) AllReadyH.nil
        · refine wp_append_runT (by rfl) (by rfl) (by rfl) r2 ?_
          refine hK.out _ _ b2 (fun hHeld => ?_)
          clear hK K
          try simp only [Act.put, List.getElem_toArray, List.getElem_cons_succ, List.getElem_cons_zero, List.setIfInBounds_toArray, List.set_cons_zero, List.set_cons_succ]
          refine wpAnyH_ready (rs := [10]) (by kernel_rfl) (by simp) ?_
          refine AllReadyH.cons rfl (fun K hK => ?_) AllReadyH.nil
          · refine wp_append_runT (by rfl) (by rfl) (by rfl) r5 ?_
            refine hK.out _ _ b5 (fun hHeld => ?_)
            clear hK K
            try simp only [Act.put, List.getElem_toArray, List.getElem_cons_succ, List.getElem_cons_zero, List.setIfInBounds_toArray, List.set_cons_zero, List.set_cons_succ]
            refine wpAnyH_take (i := 11) (v := ?_) rfl (by kernel_rfl) (by kernel_rfl) (by kernel_rfl) (fun _ _ _ h => h) (Or.inl ⟨by rfl, ?_⟩) (by assumption) ?_
            rotate_left
            · (intro wS hSw; (try dsimp only at hSw); (try simp only [List.getElem_toArray, List.getElem_cons_succ, List.getElem_cons_zero]); go_simp; try (with_reducible rfl))
            try simp only [Act.put, List.getElem_toArray, List.getElem_cons_succ, List.getElem_cons_zero, List.setIfInBounds_toArray, List.set_cons_zero, List.set_cons_succ]
            refine wpAnyH_take (i := 12) (v := ?_) rfl (by kernel_rfl) (by kernel_rfl) (by kernel_rfl) (fun _ _ _ h => h) (Or.inl ⟨by rfl, ?_⟩) (by assumption) ?_
            rotate_left
            · (intro wS hSw; (try dsimp only at hSw); (try simp only [List.getElem_toArray, List.getElem_cons_succ, List.getElem_cons_zero]); go_simp; try (with_reducible rfl))
            try simp only [Act.put, List.getElem_toArray, List.getElem_cons_succ, List.getElem_cons_zero, List.setIfInBounds_toArray, List.set_cons_zero, List.set_cons_succ]
            refine wpAnyH_ready (rs := [13]) (by kernel_rfl) (by simp) ?_
            refine AllReadyH.cons rfl (fun K hK => ?_) AllReadyH.nil
            go_simp
            refine hK.out _ _ e5 (fun hHeld => ?_)
            clear hK K
            try simp only [Act.put, List.getElem_toArray, List.getElem_cons_succ, List.getElem_cons_zero, List.setIfInBounds_toArray, List.set_cons_zero, List.set_cons_succ]
            refine wpAnyH_done (by kernel_rfl) ?_ _
            refine NoPanic.normal ?_
            have N2 := E5
            go_wp2_with fail
            refine (refText 250 (by decide) (by decide) _).mono ?_
            rintro e w3 ⟨rfl, hk3⟩
            have N3 := Lib.hid (N2.out.quiet hk3)
            clear hk3
            go_wp2_with fail
            refine (refSay N3.out.rs _ (by have : s.out.length + 2 ≤ 1000000 := ho; show s.out.length ≤ 1000000; omega)).mono ?_
            rintro e w4 hd
            obtain ⟨rfl, F4, hN4⟩ := N3.out.did hd
            have N4 := Lib.hid hN4
            clear hd hN4
            go_wp2_with fail
            (try simp only [Exit.inBlock, Exit.then])
            first | go_end0 | refine bodyPost_ret (results_none rfl _ _ _) rfl ?_
            exact N4.out.done
    · go_simp
      refine hK.out _ _ avab (fun hHeld => ?_)
      clear hK K
      try simp only [Act.put, List.getElem_toArray, List.getElem_cons_succ, List.getElem_cons_zero, List.setIfInBounds_toArray, List.set_cons_zero, List.set_cons_succ]
      refine wpAnyH_ready (rs := [5]) (by kernel_rfl) (by simp) ?_
      refine AllReadyH.cons rfl (fun K hK => ?_) AllReadyH.nil
      · go_simp
        refine hK.out _ _ avab (fun hHeld => ?_)
        clear hK K
        try simp only [Act.put, List.getElem_toArray, List.getElem_cons_succ, List.getElem_cons_zero, List.setIfInBounds_toArray, List.set_cons_zero, List.set_cons_succ]
        refine wpAnyH_ready (rs := [6]) (by kernel_rfl) (by simp) ?_
        refine AllReadyH.cons rfl (fun K hK => ?_) AllReadyH.nil
        · refine wp_append_runT (by rfl) (by rfl) (by rfl) r2 ?_
          refine hK.out _ _ b2 (fun hHeld => ?_)
          clear hK K
          try simp only [Act.put, List.getElem_toArray, List.getElem_cons_succ, List.getElem_cons_zero, List.setIfInBounds_toArray, List.set_cons_zero, List.set_cons_succ]
          refine wpAnyH_ready (rs := [10]) (by kernel_rfl) (by simp) ?_
          refine AllReadyH.cons rfl (fun K hK => ?_) AllReadyH.nil
          · refine wp_append_runT (by rfl) (by rfl) (by rfl) r5 ?_
            refine hK.out _ _ b5 (fun hHeld => ?_)
            clear hK K
            try simp only [Act.put, List.getElem_toArray, List.getElem_cons_succ, List.getElem_cons_zero, List.setIfInBounds_toArray, List.set_cons_zero, List.set_cons_succ]
            refine wpAnyH_take (i := 11) (v := ?_) rfl (by kernel_rfl) (by kernel_rfl) (by kernel_rfl) (fun _ _ _ h => h) (Or.inl ⟨by rfl, ?_⟩) (by assumption) ?_
            rotate_left
            · (intro wS hSw; (try dsimp only at hSw); (try simp only [List.getElem_toArray, List.getElem_cons_succ, List.getElem_cons_zero]); go_simp; try (with_reducible rfl))
            try simp only [Act.put, List.getElem_toArray, List.getElem_cons_succ, List.getElem_cons_zero, List.setIfInBounds_toArray, List.set_cons_zero, List.set_cons_succ]
            refine wpAnyH_take (i := 12) (v := ?_) rfl (by kernel_rfl) (by kernel_rfl) (by kernel_rfl) (fun _ _ _ h => h) (Or.inl ⟨by rfl, ?_⟩) (by assumption) ?_
            rotate_left
            · (intro wS hSw; (try dsimp only at hSw); (try simp only [List.getElem_toArray, List.getElem_cons_succ, List.getElem_cons_zero]); go_simp; try (with_reducible rfl))
            try simp only [Act.put, List.getElem_toArray, List.getElem_cons_succ, List.getElem_cons_zero, List.setIfInBounds_toArray, List.set_cons_zero, List.set_cons_succ]
            refine wpAnyH_ready (rs := [13]) (by kernel_rfl) (by simp) ?_
            refine AllReadyH.cons rfl (fun K hK => ?_) AllReadyH.nil
            go_simp
            refine hK.out _ _ e5 (fun hHeld => ?_)
            clear hK K
            try simp only [Act.put, List.getElem_toArray, List.getElem_cons_succ, List.getElem_cons_zero, List.setIfInBounds_toArray, List.set_cons_zero, List.set_cons_succ]
            refine wpAnyH_done (by kernel_rfl) ?_ _
            refine NoPanic.normal ?_
            have N2 := E5
            go_wp2_with fail
            refine (refText 250 (by decide) (by decide) _).mono ?_
            rintro e w3 ⟨rfl, hk3⟩
            have N3 := Lib.hid (N2.out.quiet hk3)
            clear hk3
            go_wp2_with fail
            refine (refSay N3.out.rs _ (by have : s.out.length + 2 ≤ 1000000 := ho; show s.out.length ≤ 1000000; omega)).mono ?_
            rintro e w4 hd
            obtain ⟨rfl, F4, hN4⟩ := N3.out.did hd
            have N4 := Lib.hid hN4
            clear hd hN4
            go_wp2_with fail
            (try simp only [Exit.inBlock, Exit.then])
            first | go_end0 | refine bodyPost_ret (results_none rfl _ _ _) rfl ?_
            exact N4.out.done
  · go_simp
    refine hK.out _ _ vW (fun hHeld => ?_)
    clear hK K
    try simp only [Act.put, List.getElem_toArray, List.getElem_cons_succ, List.getElem_cons_zero, List.setIfInBounds_toArray, List.set_cons_zero, List.set_cons_succ]
    refine wpAnyH_ready (rs := [1, 9]) (by kernel_rfl) (by simp) ?_
    refine AllReadyH.cons rfl (fun K hK => ?_) (AllReadyH.cons rfl (fun K hK => ?_) AllReadyH.nil)
    · go_simp
      refine hK.out _ _ av (fun hHeld => ?_)
      clear hK K
      try simp only [Act.put, List.getElem_toArray, List.getElem_cons_succ, List.getElem_cons_zero, List.setIfInBounds_toArray, List.set_cons_zero, List.set_cons_succ]
      refine wpAnyH_ready (rs := [6, 9]) (by kernel_rfl) (by simp) ?_
      refine AllReadyH.cons rfl (fun K hK => ?_) (AllReadyH.cons rfl (fun K hK => ?_) AllReadyH.nil)
      · refine wp_append_runT (by rfl) (by rfl) (by rfl) r1 ?_
        refine hK.out _ _ b1 (fun hHeld => ?_)
        clear hK K
        try simp only [Act.put, List.getElem_toArray, List.getElem_cons_succ, List.getElem_cons_zero, List.setIfInBounds_toArray, List.set_cons_zero, List.set_cons_succ]
        refine wpAnyH_ready (rs := [9]) (by kernel_rfl) (by simp) ?_
        refine AllReadyH.cons rfl (fun K hK => ?_) AllReadyH.nil
        · go_simp
          refine hK.out _ _ b1a (fun hHeld => ?_)
          clear hK K
          try simp only [Act.put, List.getElem_toArray, List.getElem_cons_succ, List.getElem_cons_zero, List.setIfInBounds_toArray, List.set_cons_zero, List.set_cons_succ]
          refine wpAnyH_ready (rs := [10]) (by kernel_rfl) (by simp) ?_
          refine AllReadyH.cons rfl (fun K hK => ?_) AllReadyH.nil
          · refine wp_append_runT (by rfl) (by rfl) (by rfl) r4 ?_
            refine hK.out _ _ b4 (fun hHeld => ?_)
            clear hK K
            try simp only [Act.put, List.getElem_toArray, List.getElem_cons_succ, List.getElem_cons_zero, List.setIfInBounds_toArray, List.set_cons_zero, List.set_cons_succ]
            refine wpAnyH_take (i := 11) (v := ?_) rfl (by kernel_rfl) (by kernel_rfl) (by kernel_rfl) (fun _ _ _ h => h) (Or.inl ⟨by rfl, ?_⟩) (by assumption) ?_
            rotate_left
            · (intro wS hSw; (try dsimp only at hSw); (try simp only [List.getElem_toArray, List.getElem_cons_succ, List.getElem_cons_zero]); go_simp; try (with_reducible rfl))
            try simp only [Act.put, List.getElem_toArray, List.getElem_cons_succ, List.getElem_cons_zero, List.setIfInBounds_toArray, List.set_cons_zero, List.set_cons_succ]
            refine wpAnyH_take (i := 12) (v := ?_) rfl (by kernel_rfl) (by kernel_rfl) (by kernel_rfl) (fun _ _ _ h => h) (Or.inl ⟨by rfl, ?_⟩) (by assumption) ?_
            rotate_left
            · (intro wS hSw; (try dsimp only at hSw); (try simp only [List.getElem_toArray, List.getElem_cons_succ, List.getElem_cons_zero]); go_simp; try (with_reducible rfl))
            try simp only [Act.put, List.getElem_toArray, List.getElem_cons_succ, List.getElem_cons_zero, List.setIfInBounds_toArray, List.set_cons_zero, List.set_cons_succ]
            refine wpAnyH_ready (rs := [13]) (by kernel_rfl) (by simp) ?_
            refine AllReadyH.cons rfl (fun K hK => ?_) AllReadyH.nil
            go_simp
            refine hK.out _ _ e4 (fun hHeld => ?_)
            clear hK K
            try simp only [Act.put, List.getElem_toArray, List.getElem_cons_succ, List.getElem_cons_zero, List.setIfInBounds_toArray, List.set_cons_zero, List.set_cons_succ]
            refine wpAnyH_done (by kernel_rfl) ?_ _
            refine NoPanic.normal ?_
            have N2 := E4
            go_wp2_with fail
            refine (refText 250 (by decide) (by decide) _).mono ?_
            rintro e w3 ⟨rfl, hk3⟩
            have N3 := Lib.hid (N2.out.quiet hk3)
            clear hk3
            go_wp2_with fail
            refine (refSay N3.out.rs _ (by have : s.out.length + 2 ≤ 1000000 := ho; show s.out.length ≤ 1000000; omega)).mono ?_
            rintro e w4 hd
            obtain ⟨rfl, F4, hN4⟩ := N3.out.did hd
            have N4 := Lib.hid hN4
            clear hd hN4
            go_wp2_with fail
            (try simp only [Exit.inBlock, Exit.then])
            first | go_end0 | refine bodyPost_ret (results_none rfl _ _ _) rfl ?_
            exact N4.out.done
      · go_simp
        refine hK.out _ _ avab (fun hHeld => ?_)
        clear hK K
        try simp only [Act.put, List.getElem_toArray, List.getElem_cons_succ, List.getElem_cons_zero, List.setIfInBounds_toArray, List.set_cons_zero, List.set_cons_succ]
        refine wpAnyH_ready (rs := [6]) (by kernel_rfl) (by simp) ?_
        refine AllReadyH.cons rfl (fun K hK => ?_) AllReadyH.nil
        · refine wp_append_runT (by rfl) (by rfl) (by rfl) r2 ?_
          refine hK.out _ _ b2 (fun hHeld => ?_)
          clear hK K
          try simp only [Act.put, List.getElem_toArray, List.getElem_cons_succ, List.getElem_cons_zero, List.setIfInBounds_toArray, List.set_cons_zero, List.set_cons_succ]
          refine wpAnyH_ready (rs := [10]) (by kernel_rfl) (by simp) ?_
          refine AllReadyH.cons rfl (fun K hK => ?_) AllReadyH.nil
          · refine wp_append_runT (by rfl) (by rfl) (by rfl) r5 ?_
            refine hK.out _ _ b5 (fun hHeld => ?_)
            clear hK K
            try simp only [Act.put, List.getElem_toArray, List.getElem_cons_succ, List.getElem_cons_zero, List.setIfInBounds_toArray, List.set_cons_zero, List.set_cons_succ]
            refine wpAnyH_take (i := 11) (v := ?_) rfl (by kernel_rfl) (by kernel_rfl) (by kernel_rfl) (fun _ _ _ h => h) (Or.inl ⟨by rfl, ?_⟩) (by assumption) ?_
            rotate_left
            · (intro wS hSw; (try dsimp only at hSw); (try simp only [List.getElem_toArray, List.getElem_cons_succ, List.getElem_cons_zero]); go_simp; try (with_reducible rfl))
            try simp only [Act.put, List.getElem_toArray, List.getElem_cons_succ, List.getElem_cons_zero, List.setIfInBounds_toArray, List.set_cons_zero, List.set_cons_succ]
            refine wpAnyH_take (i := 12) (v := ?_) rfl (by kernel_rfl) (by kernel_rfl) (by kernel_rfl) (fun _ _ _ h => h) (Or.inl ⟨by rfl, ?_⟩) (by assumption) ?_
            rotate_left
            · (intro wS hSw; (try dsimp only at hSw); (try simp only [List.getElem_toArray, List.getElem_cons_succ, List.getElem_cons_zero]); go_simp; try (with_reducible rfl))
            try simp only [Act.put, List.getElem_toArray, List.getElem_cons_succ, List.getElem_cons_zero, List.setIfInBounds_toArray, List.set_cons_zero, List.set_cons_succ]
            refine wpAnyH_ready (rs := [13]) (by kernel_rfl) (by simp) ?_
            refine AllReadyH.cons rfl (fun K hK => ?_) AllReadyH.nil
            go_simp
            refine hK.out _ _ e5 (fun hHeld => ?_)
            clear hK K
            try simp only [Act.put, List.getElem_toArray, List.getElem_cons_succ, List.getElem_cons_zero, List.setIfInBounds_toArray, List.set_cons_zero, List.set_cons_succ]
            refine wpAnyH_done (by kernel_rfl) ?_ _
            refine NoPanic.normal ?_
            have N2 := E5
            go_wp2_with fail
            refine (refText 250 (by decide) (by decide) _).mono ?_
            rintro e w3 ⟨rfl, hk3⟩
            have N3 := Lib.hid (N2.out.quiet hk3)
            clear hk3
            go_wp2_with fail
            refine (refSay N3.out.rs _ (by have : s.out.length + 2 ≤ 1000000 := ho; show s.out.length ≤ 1000000; omega)).mono ?_
            rintro e w4 hd
            obtain ⟨rfl, F4, hN4⟩ := N3.out.did hd
            have N4 := Lib.hid hN4
            clear hd hN4
            go_wp2_with fail
            (try simp only [Exit.inBlock, Exit.then])
            first | go_end0 | refine bodyPost_ret (results_none rfl _ _ _) rfl ?_
            exact N4.out.done
    · go_simp
      refine hK.out _ _ avb (fun hHeld => ?_)
      clear hK K
      try simp only [Act.put, List.getElem_toArray, List.getElem_cons_succ, List.getElem_cons_zero, List.setIfInBounds_toArray, List.set_cons_zero, List.set_cons_succ]
      refine wpAnyH_ready (rs := [1]) (by kernel_rfl) (by simp) ?_
      refine AllReadyH.cons rfl (fun K hK => ?_) AllReadyH.nil
      · go_simp
        refine hK.out _ _ avba (fun hHeld => ?_)
        clear hK K
        try simp only [Act.put, List.getElem_toArray, List.getElem_cons_succ, List.getElem_cons_zero, List.setIfInBounds_toArray, List.set_cons_zero, List.set_cons_succ]
        refine wpAnyH_ready (rs := [6]) (by kernel_rfl) (by simp) ?_
        refine AllReadyH.cons rfl (fun K hK => ?_) AllReadyH.nil
        · refine wp_append_runT (by rfl) (by rfl) (by rfl) r3 ?_
          refine hK.out _ _ b3 (fun hHeld => ?_)
          clear hK K
          try simp only [Act.put, List.getElem_toArray, List.getElem_cons_succ, List.getElem_cons_zero, List.setIfInBounds_toArray, List.set_cons_zero, List.set_cons_succ]
          refine wpAnyH_ready (rs := [10]) (by kernel_rfl) (by simp) ?_
          refine AllReadyH.cons rfl (fun K hK => ?_) AllReadyH.nil
          · refine wp_append_runT (by rfl) (by rfl) (by rfl) r6 ?_
            refine hK.out _ _ b6 (fun hHeld => ?_)
            clear hK K
            try simp only [Act.put, List.getElem_toArray, List.getElem_cons_succ, List.getElem_cons_zero, List.setIfInBounds_toArray, List.set_cons_zero, List.set_cons_succ]
            refine wpAnyH_take (i := 11) (v := ?_) rfl (by kernel_rfl) (by kernel_rfl) (by kernel_rfl) (fun _ _ _ h => h) (Or.inl ⟨by rfl, ?_⟩) (by assumption) ?_
            rotate_left
            · (intro wS hSw; (try dsimp only at hSw); (try simp only [List.getElem_toArray, List.getElem_cons_succ, List.getElem_cons_zero]); go_simp; try (with_reducible rfl))
            try simp only [Act.put, List.getElem_toArray, List.getElem_cons_succ, List.getElem_cons_zero, List.setIfInBounds_toArray, List.set_cons_zero, List.set_cons_succ]
            refine wpAnyH_take (i := 12) (v := ?_) rfl (by kernel_rfl) (by kernel_rfl) (by kernel_rfl) (fun _ _ _ h => h) (Or.inl ⟨by rfl, ?_⟩) (by assumption) ?_
            rotate_left
            · (intro wS hSw; (try dsimp only at hSw); (try simp only [List.getElem_toArray, List.getElem_cons_succ, List.getElem_cons_zero]); go_simp; try (with_reducible rfl))
            try simp only [Act.put, List.getElem_toArray, List.getElem_cons_succ, List.getElem_cons_zero, List.setIfInBounds_toArray, List.set_cons_zero, List.set_cons_succ]
            refine wpAnyH_ready (rs := [13]) (by kernel_rfl) (by simp) ?_
            refine AllReadyH.cons rfl (fun K hK => ?_) AllReadyH.nil
            go_simp
            refine hK.out _ _ e6 (fun hHeld => ?_)
            clear hK K
            try simp only [Act.put, List.getElem_toArray, List.getElem_cons_succ, List.getElem_cons_zero, List.setIfInBounds_toArray, List.set_cons_zero, List.set_cons_succ]
            refine wpAnyH_done (by kernel_rfl) ?_ _
            refine NoPanic.normal ?_
            have N2 := E6
            go_wp2_with fail
            refine (refText 250 (by decide) (by decide) _).mono ?_
            rintro e w3 ⟨rfl, hk3⟩
            have N3 := Lib.hid (N2.out.quiet hk3)
            clear hk3
            go_wp2_with fail
            refine (refSay N3.out.rs _ (by have : s.out.length + 2 ≤ 1000000 := ho; show s.out.length ≤ 1000000; omega)).mono ?_
            rintro e w4 hd
            obtain ⟨rfl, F4, hN4⟩ := N3.out.did hd
            have N4 := Lib.hid hN4
            clear hd hN4
            go_wp2_with fail
            (try simp only [Exit.inBlock, Exit.then])
            first | go_end0 | refine bodyPost_ret (results_none rfl _ _ _) rfl ?_
            exact N4.out.done
  · go_simp
    refine hK.out _ _ avb (fun hHeld => ?_)
    clear hK K
    try simp only [Act.put, List.getElem_toArray, List.getElem_cons_succ, List.getElem_cons_zero, List.setIfInBounds_toArray, List.set_cons_zero, List.set_cons_succ]
    refine wpAnyH_ready (rs := [1, 5]) (by kernel_rfl) (by simp) ?_
    refine AllReadyH.cons rfl (fun K hK => ?_) (AllReadyH.cons rfl (fun K hK => ?_) AllReadyH.nil)
    · go_simp
      refine hK.out _ _ avba (fun hHeld => ?_)
      clear hK K
      try simp only [Act.put, List.getElem_toArray, List.getElem_cons_succ, List.getElem_cons_zero, List.setIfInBounds_toArray, List.set_cons_zero, List.set_cons_succ]
      refine wpAnyH_ready (rs := [5]) (by kernel_rfl) (by simp) ?_
      refine AllReadyH.cons rfl (fun K hK => ?_) AllReadyH.nil
      · go_simp
        refine hK.out _ _ avba (fun hHeld => ?_)
        clear hK K
        try simp only [Act.put, List.getElem_toArray, List.getElem_cons_succ, List.getElem_cons_zero, List.setIfInBounds_toArray, List.set_cons_zero, List.set_cons_succ]
        refine wpAnyH_ready (rs := [6]) (by kernel_rfl) (by simp) ?_
        refine AllReadyH.cons rfl (fun K hK => ?_) AllReadyH.nil
        · refine wp_append_runT (by rfl) (by rfl) (by rfl) r3 ?_
          refine hK.out _ _ b3 (fun hHeld => ?_)
          clear hK K
          try simp only [Act.put, List.getElem_toArray, List.getElem_cons_succ, List.getElem_cons_zero, List.setIfInBounds_toArray, List.set_cons_zero, List.set_cons_succ]
          refine wpAnyH_ready (rs := [10]) (by kernel_rfl) (by simp) ?_
          refine AllReadyH.cons rfl (fun K hK => ?_) AllReadyH.nil
          · refine wp_append_runT (by rfl) (by rfl) (by rfl) r6 ?_
            refine hK.out _ _ b6 (fun hHeld => ?_)
            clear hK K
            try simp only [Act.put, List.getElem_toArray, List.getElem_cons_succ, List.getElem_cons_zero, List.setIfInBounds_toArray, List.set_cons_zero, List.set_cons_succ]
            refine wpAnyH_take (i := 11) (v := ?_) rfl (by kernel_rfl) (by kernel_rfl) (by kernel_rfl) (fun _ _ _ h => h) (Or.inl ⟨by rfl, ?_⟩) (by assumption) ?_
            rotate_left
            · (intro wS hSw; (try dsimp only at hSw); (try simp only [List.getElem_toArray, List.getElem_cons_succ, List.getElem_cons_zero]); go_simp; try (with_reducible rfl))
            try simp only [Act.put, List.getElem_toArray, List.getElem_cons_succ, List.getElem_cons_zero, List.setIfInBounds_toArray, List.set_cons_zero, List.set_cons_succ]
            refine wpAnyH_take (i := 12) (v := ?_) rfl (by kernel_rfl) (by kernel_rfl) (by kernel_rfl) (fun _ _ _ h => h) (Or.inl ⟨by rfl, ?_⟩) (by assumption) ?_
            rotate_left
            · (intro wS hSw; (try dsimp only at hSw); (try simp only [List.getElem_toArray, List.getElem_cons_succ, List.getElem_cons_zero]); go_simp; try (with_reducible rfl))
            try simp only [Act.put, List.getElem_toArray, List.getElem_cons_succ, List.getElem_cons_zero, List.setIfInBounds_toArray, List.set_cons_zero, List.set_cons_succ]
            refine wpAnyH_ready (rs := [13]) (by kernel_rfl) (by simp) ?_
            refine AllReadyH.cons rfl (fun K hK => ?_) AllReadyH.nil
            go_simp
            refine hK.out _ _ e6 (fun hHeld => ?_)
            clear hK K
            try simp only [Act.put, List.getElem_toArray, List.getElem_cons_succ, List.getElem_cons_zero, List.setIfInBounds_toArray, List.set_cons_zero, List.set_cons_succ]
            refine wpAnyH_done (by kernel_rfl) ?_ _
            refine NoPanic.normal ?_
            have N2 := E6
            go_wp2_with fail
            refine (refText 250 (by decide) (by decide) _).mono ?_
            rintro e w3 ⟨rfl, hk3⟩
            have N3 := Lib.hid (N2.out.quiet hk3)
            clear hk3
            go_wp2_with fail
            refine (refSay N3.out.rs _ (by have : s.out.length + 2 ≤ 1000000 := ho; show s.out.length ≤ 1000000; omega)).mono ?_
            rintro e w4 hd
            obtain ⟨rfl, F4, hN4⟩ := N3.out.did hd
            have N4 := Lib.hid hN4
            clear hd hN4
            go_wp2_with fail
            (try simp only [Exit.inBlock, Exit.then])
            first | go_end0 | refine bodyPost_ret (results_none rfl _ _ _) rfl ?_
            exact N4.out.done
    · go_simp
      refine hK.out _ _ avb (fun hHeld => ?_)
      clear hK K
      try simp only [Act.put, List.getElem_toArray, List.getElem_cons_succ, List.getElem_cons_zero, List.setIfInBounds_toArray, List.set_cons_zero, List.set_cons_succ]
      refine wpAnyH_ready (rs := [1]) (by kernel_rfl) (by simp) ?_
      refine AllReadyH.cons rfl (fun K hK => ?_) AllReadyH.nil
      · go_simp
        refine hK.out _ _ avba (fun hHeld => ?_)
        clear hK K
        try simp only [Act.put, List.getElem_toArray, List.getElem_cons_succ, List.getElem_cons_zero, List.setIfInBounds_toArray, List.set_cons_zero, List.set_cons_succ]
        refine wpAnyH_ready (rs := [6]) (by kernel_rfl) (by simp) ?_
        refine AllReadyH.cons rfl (fun K hK => ?_) AllReadyH.nil
        · refine wp_append_runT (by rfl) (by rfl) (by rfl) r3 ?_
          refine hK.out _ _ b3 (fun hHeld => ?_)
          clear hK K
          try simp only [Act.put, List.getElem_toArray, List.getElem_cons_succ, List.getElem_cons_zero, List.setIfInBounds_toArray, List.set_cons_zero, List.set_cons_succ]
          refine wpAnyH_ready (rs := [10]) (by kernel_rfl) (by simp) ?_
          refine AllReadyH.cons rfl (fun K hK => ?_) AllReadyH.nil
          · refine wp_append_runT (by rfl) (by rfl) (by rfl) r6 ?_
            refine hK.out _ _ b6 (fun hHeld => ?_)
            clear hK K
            try simp only [Act.put, List.getElem_toArray, List.getElem_cons_succ, List.getElem_cons_zero, List.setIfInBounds_toArray, List.set_cons_zero, List.set_cons_succ]
            refine wpAnyH_take (i := 11) (v := ?_) rfl (by kernel_rfl) (by kernel_rfl) (by kernel_rfl) (fun _ _ _ h => h) (Or.inl ⟨by rfl, ?_⟩) (by assumption) ?_
            rotate_left
            · (intro wS hSw; (try dsimp only at hSw); (try simp only [List.getElem_toArray, List.getElem_cons_succ, List.getElem_cons_zero]); go_simp; try (with_reducible rfl))
            try simp only [Act.put, List.getElem_toArray, List.getElem_cons_succ, List.getElem_cons_zero, List.setIfInBounds_toArray, List.set_cons_zero, List.set_cons_succ]
            refine wpAnyH_take (i := 12) (v := ?_) rfl (by kernel_rfl) (by kernel_rfl) (by kernel_rfl) (fun _ _ _ h => h) (Or.inl ⟨by rfl, ?_⟩) (by assumption) ?_
            rotate_left
            · (intro wS hSw; (try dsimp only at hSw); (try simp only [List.getElem_toArray, List.getElem_cons_succ, List.getElem_cons_zero]); go_simp; try (with_reducible rfl))
            try simp only [Act.put, List.getElem_toArray, List.getElem_cons_succ, List.getElem_cons_zero, List.setIfInBounds_toArray, List.set_cons_zero, List.set_cons_succ]
            refine wpAnyH_ready (rs := [13]) (by kernel_rfl) (by simp) ?_
            refine AllReadyH.cons rfl (fun K hK => ?_) AllReadyH.nil
            go_simp
            refine hK.out _ _ e6 (fun hHeld => ?_)
            clear hK K
            try simp only [Act.put, List.getElem_toArray, List.getElem_cons_succ, List.getElem_cons_zero, List.setIfInBounds_toArray, List.set_cons_zero, List.set_cons_succ]
            refine wpAnyH_done (by kernel_rfl) ?_ _
            refine NoPanic.normal ?_
            have N2 := E6
            go_wp2_with fail
            refine (refText 250 (by decide) (by decide) _).mono ?_
            rintro e w3 ⟨rfl, hk3⟩
            have N3 := Lib.hid (N2.out.quiet hk3)
            clear hk3
            go_wp2_with fail
            refine (refSay N3.out.rs _ (by have : s.out.length + 2 ≤ 1000000 := ho; show s.out.length ≤ 1000000; omega)).mono ?_
            rintro e w4 hd
            obtain ⟨rfl, F4, hN4⟩ := N3.out.did hd
            have N4 := Lib.hid hN4
            clear hd hN4
            go_wp2_with fail
            (try simp only [Exit.inBlock, Exit.then])
            first | go_end0 | refine bodyPost_ret (results_none rfl _ _ _) rfl ?_
            exact N4.out.done

end Go.Proofs.YtcjljldknekhiaaGreatDoor.Ln
