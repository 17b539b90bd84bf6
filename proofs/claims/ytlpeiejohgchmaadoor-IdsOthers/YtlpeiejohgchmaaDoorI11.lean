/-
  Stage 13: Next, Open, and all that is asked of the program.
-/
import Derived.Test.YtlpeiejohgchmaaDoorI10
import Derived.Test.YtlpeiejohgchmaaDoorI9
namespace Go.Proofs.YtlpeiejohgchmaaDoor.Fs
open Go.RowKit Go.Shelf Go.Maps
set_option linter.unusedVariables false
set_option linter.unusedSimpArgs false

theorem sys_last {base f X : Nat} {w w' : World} {s : St} {x : Ix} (h : Sys base w' f X s x) (hb : Below base w w') (n : Nat) (hn : n ≤ 999999999) :
    Sys base (w'.setCell ⟨X, 1, none⟩ (.int .i64 (n : Int))) f X s ⟨n, x.most, x.has⟩ ∧ Below base w (w'.setCell ⟨X, 1, none⟩ (.int .i64 (n : Int))) := by
  have k : Keep (fun b => b = X) w' (w'.setCell ⟨X, 1, none⟩ (.int .i64 (n : Int))) := (Keep.refl (fun b => b = X) w').setCell (p := ⟨X, 1, none⟩) (fun _ => rfl) _
  obtain ⟨h1, h2⟩ := h.cells k (y := ⟨n, x.most, x.has⟩) ⟨At.put h.xa 1 (.int .i64 (n : Int)), hn⟩
  exact ⟨h1, hb.trans h2⟩
theorem raise_ok {s : St} {x : Ix} (h : raiseE s x = 0) : upX s x = ⟨x.last, upN x, true⟩ := by
  unfold raiseE at h
  unfold upX
  split at h
  · rename_i h1; exact absurd h h1
  · rename_i h1
    split at h
    · rename_i h2; exact absurd h h2
    · rename_i h2
      rw [if_neg h1, if_neg h2]
set_option maxRecDepth 100000 in
set_option maxHeartbeats 8000000 in
theorem nextC : NextC := fun base w f X s x h hb => by
  obtain ⟨NE, hNE⟩ : ∃ r, r = nextE s x := ⟨_, rfl⟩
  obtain ⟨NN, hNN⟩ : ∃ r, r = nextN s x := ⟨_, rfl⟩
  obtain ⟨NS, hNS⟩ : ∃ r, r = nextS s x := ⟨_, rfl⟩
  obtain ⟨y, hy⟩ : ∃ r, r = nextX s x := ⟨_, rfl⟩
  rw [← hNE, ← hNN, ← hNS, ← hy]
  have HNE := Lib.hid hNE
  have HNN := Lib.hid hNN
  have HNS := Lib.hid hNS
  have HY := Lib.hid hy
  have hx0 := At.cell h.xa 0
  have hx1 := At.cell h.xa 1
  have hx2 := At.cell h.xa 2
  have hy1 := At.frozen h.xa 1
  simp [idsC] at hx0 hx1 hx2
  have cD := sDown h
  have HS := Lib.hid h
  have HTP := Lib.hid h.top
  have HS0 : Hid (base ≤ w.heap.size) := Lib.hid h.size
  clear h hNE hNN hNS hy
  cases hd : s.down with
  | true =>
    rw [hd] at cD
    have HD := Lib.hid hd
    clear hd
    go_enter Tryd.func14, Tryd.ntmps14
    go_wp2_with fail
    refine cD.mono ?_
    rintro e w1 ⟨rfl, rfl⟩
    go_wp2
    go_ret2
    have e1 : NE = 2 := by rw [HNE.out, nextE, if_pos HD.out]
    have e2 : NN = 0 := by rw [HNN.out, nextN, ← HNE.out, e1, if_pos (by decide)]
    have e3 : y = x := by rw [HY.out, nextX, ← HNE.out, e1, if_pos (by decide), leftX, if_pos HD.out]
    have e4 : NS = s := by rw [HNS.out, nextS, if_pos HD.out]
    rw [e1, e2, e3, e4]
    exact ⟨rfl, HS.out, Below.refl _ _⟩
  | false =>
    rw [hd] at cD
    have hd' : ¬ s.down = true := by simp [hd]
    have HD := Lib.hid hd'
    clear hd hd'
    by_cases htop : topN ≤ x.last
    · have HT := Lib.hid htop
      have ht : (x.last : Int) = 999999999 := by have := HTP.out; unfold topN at htop; omega
      rw [ht] at hx1
      clear htop ht
      go_enter Tryd.func14, Tryd.ntmps14
      go_wp2_with fail
      refine cD.mono ?_
      rintro e w1 ⟨rfl, rfl⟩
      go_wp2
      go_ret2
      have e1 : NE = 3 := by rw [HNE.out, nextE, if_neg HD.out, if_pos HT.out]
      have e2 : NN = 0 := by rw [HNN.out, nextN, ← HNE.out, e1, if_pos (by decide)]
      have e3 : y = x := by rw [HY.out, nextX, ← HNE.out, e1, if_pos (by decide), leftX, if_neg HD.out, if_pos HT.out]
      have e4 : NS = s := by rw [HNS.out, nextS, if_neg HD.out, if_pos HT.out]
      rw [e1, e2, e3, e4]
      exact ⟨rfl, HS.out, Below.refl _ _⟩
    · have HT := Lib.hid htop
      have ht : (x.last : Int) < 999999999 := by unfold topN at htop; omega
      have HL9 : Hid (x.last < 999999999) := Lib.hid (by show x.last < 999999999; unfold topN at htop; omega)
      have hE : NE = if x.most ≤ x.last then raiseE s x else 0 := by rw [HNE.out, nextE, if_neg HD.out, if_neg htop]
      have hS : NS = if x.most ≤ x.last then raiseS s x else s := by rw [HNS.out, nextS, if_neg HD.out, if_neg htop]
      have HE := Lib.hid hE
      have HSS := Lib.hid hS
      obtain ⟨l, hl⟩ : ∃ l : Int, l = (x.last : Int) := ⟨_, rfl⟩
      rw [← hl] at hx1 ht
      have HLl := Lib.hid hl
      have HBU := Lib.hid hb
      have hl0 : 0 ≤ l := by rw [hl]; omega
      have ht1 : (l == 999999999) = false := by simp; omega
      have ht2 : ¬ l = 999999999 := by omega
      clear htop hE hS hl hb
      go_enter Tryd.func14, Tryd.ntmps14
      go_wp2_with fail
      refine cD.mono ?_
      rintro e w1 ⟨rfl, rfl⟩
      go_wp2_with fail
      have kD : Keep (fun _ => False) w w.drew := (Keep.refl _ w).drew
      have HKD := Lib.hid kD
      refine wp_region_noPanic ?_
      refine wp_region_held_drew (S := fun Z => Z.cell? ⟨X, 1, none⟩ = some (.int .i64 l) ∧ Z.cell? ⟨X, 2, none⟩ = some (.int .i64 (x.most : Int))) (by kernel_rfl) ⟨kD.cell hx1 (fun h => h), kD.cell hx2 (fun h => h)⟩ (fun hHeld => ?_)
      have hw1 : IntKind.i64.wrap (l + 1) = l + 1 := wrap_small _ (by omega) (by omega)
      refine wpAnyH_take (i := 0) (v := ?_) rfl (by kernel_rfl) (by kernel_rfl) (by kernel_rfl) (fun _ _ _ h => h) (Or.inl ⟨by rfl, ?_⟩) (by assumption) ?_
      rotate_left
      · (intro wS hSw; (try dsimp only at hSw); obtain ⟨hS1, hS2⟩ := hSw; (try simp only [List.getElem_toArray, List.getElem_cons_succ, List.getElem_cons_zero]); go_simp; try (with_reducible rfl))
      try simp only [Act.put, List.getElem_toArray, List.getElem_cons_succ, List.getElem_cons_zero, List.setIfInBounds_toArray, List.set_cons_zero, List.set_cons_succ]
      refine wpAnyH_take (i := 1) (v := ?_) rfl (by kernel_rfl) (by kernel_rfl) (by kernel_rfl) (fun _ _ _ h => h) (Or.inl ⟨by rfl, ?_⟩) (by assumption) ?_
      rotate_left
      · (intro wS hSw; (try dsimp only at hSw); obtain ⟨hS1, hS2⟩ := hSw; (try simp only [List.getElem_toArray, List.getElem_cons_succ, List.getElem_cons_zero]); go_simp; try (with_reducible rfl))
      try simp only [Act.put, List.getElem_toArray, List.getElem_cons_succ, List.getElem_cons_zero, List.setIfInBounds_toArray, List.set_cons_zero, List.set_cons_succ]
      refine wpAnyH_take (i := 2) (v := ?_) rfl (by kernel_rfl) (by kernel_rfl) (by kernel_rfl) (fun _ _ _ h => h) (Or.inl ⟨by rfl, ?_⟩) (by assumption) ?_
      rotate_left
      · (intro wS hSw; (try dsimp only at hSw); obtain ⟨hS1, hS2⟩ := hSw; (try simp only [List.getElem_toArray, List.getElem_cons_succ, List.getElem_cons_zero]); go_simp; try (with_reducible rfl))
      try simp only [Act.put, List.getElem_toArray, List.getElem_cons_succ, List.getElem_cons_zero, List.setIfInBounds_toArray, List.set_cons_zero, List.set_cons_succ]
      refine wpAnyH_take (i := 3) (v := ?_) rfl (by kernel_rfl) (by kernel_rfl) (by kernel_rfl) (fun _ _ _ h => h) (Or.inl ⟨by rfl, ?_⟩) (by assumption) ?_
      rotate_left
      · (intro wS hSw; (try dsimp only at hSw); obtain ⟨hS1, hS2⟩ := hSw; (try simp only [List.getElem_toArray, List.getElem_cons_succ, List.getElem_cons_zero]); go_simp; try (with_reducible rfl))
      try simp only [Act.put, List.getElem_toArray, List.getElem_cons_succ, List.getElem_cons_zero, List.setIfInBounds_toArray, List.set_cons_zero, List.set_cons_succ]
      refine wpAnyH_take (i := 4) (v := ?_) rfl (by kernel_rfl) (by kernel_rfl) (by kernel_rfl) (fun _ _ _ h => h) (Or.inl ⟨by rfl, ?_⟩) (by assumption) ?_
      rotate_left
      · (intro wS hSw; (try dsimp only at hSw); obtain ⟨hS1, hS2⟩ := hSw; (try simp only [List.getElem_toArray, List.getElem_cons_succ, List.getElem_cons_zero]); go_simp; try (with_reducible rfl))
      try simp only [Act.put, List.getElem_toArray, List.getElem_cons_succ, List.getElem_cons_zero, List.setIfInBounds_toArray, List.set_cons_zero, List.set_cons_succ]
      refine wpAnyH_take (i := 5) (v := ?_) rfl (by kernel_rfl) (by kernel_rfl) (by kernel_rfl) (fun _ _ _ h => h) (Or.inl ⟨by rfl, ?_⟩) (by assumption) ?_
      rotate_left
      · (intro wS hSw; (try dsimp only at hSw); obtain ⟨hS1, hS2⟩ := hSw; (try simp only [List.getElem_toArray, List.getElem_cons_succ, List.getElem_cons_zero]); go_simp; try (with_reducible rfl))
      try simp only [Act.put, List.getElem_toArray, List.getElem_cons_succ, List.getElem_cons_zero, List.setIfInBounds_toArray, List.set_cons_zero, List.set_cons_succ]
      refine wpAnyH_take (i := 6) (v := ?_) rfl (by kernel_rfl) (by kernel_rfl) (by kernel_rfl) (fun _ _ _ h => h) (Or.inl ⟨by rfl, ?_⟩) (by assumption) ?_
      rotate_left
      · (intro wS hSw; (try dsimp only at hSw); obtain ⟨hS1, hS2⟩ := hSw; (try simp only [List.getElem_toArray, List.getElem_cons_succ, List.getElem_cons_zero]); go_simp; try (with_reducible rfl))
      try simp only [Act.put, List.getElem_toArray, List.getElem_cons_succ, List.getElem_cons_zero, List.setIfInBounds_toArray, List.set_cons_zero, List.set_cons_succ]
      refine wpAnyH_take (i := 7) (v := ?_) rfl (by kernel_rfl) (by kernel_rfl) (by kernel_rfl) (fun _ _ _ h => h) (Or.inl ⟨by rfl, ?_⟩) (by assumption) ?_
      rotate_left
      · (intro wS hSw; (try dsimp only at hSw); obtain ⟨hS1, hS2⟩ := hSw; (try simp only [List.getElem_toArray, List.getElem_cons_succ, List.getElem_cons_zero]); go_simp; try (with_reducible rfl))
      try simp only [Act.put, List.getElem_toArray, List.getElem_cons_succ, List.getElem_cons_zero, List.setIfInBounds_toArray, List.set_cons_zero, List.set_cons_succ]
      refine wpAnyH_take (i := 8) (v := ?_) rfl (by kernel_rfl) (by kernel_rfl) (by kernel_rfl) (fun _ _ _ h => h) (Or.inl ⟨by rfl, ?_⟩) (by assumption) ?_
      rotate_left
      · (intro wS hSw; (try dsimp only at hSw); obtain ⟨hS1, hS2⟩ := hSw; (try simp only [List.getElem_toArray, List.getElem_cons_succ, List.getElem_cons_zero]); go_simp; try (with_reducible rfl))
      try simp only [Act.put, List.getElem_toArray, List.getElem_cons_succ, List.getElem_cons_zero, List.setIfInBounds_toArray, List.set_cons_zero, List.set_cons_succ]
      refine wpAnyH_take (i := 9) (v := ?_) rfl (by kernel_rfl) (by kernel_rfl) (by kernel_rfl) (fun _ _ _ h => h) (Or.inl ⟨by rfl, ?_⟩) (by assumption) ?_
      rotate_left
      · (intro wS hSw; (try dsimp only at hSw); obtain ⟨hS1, hS2⟩ := hSw; (try simp only [List.getElem_toArray, List.getElem_cons_succ, List.getElem_cons_zero]); go_simp; try (with_reducible rfl))
      try simp only [Act.put, List.getElem_toArray, List.getElem_cons_succ, List.getElem_cons_zero, List.setIfInBounds_toArray, List.set_cons_zero, List.set_cons_succ]
      refine wpAnyH_done (by kernel_rfl) ?_ _
      refine NoPanic.normal ?_
      have hz1 : w.drew.cell? ⟨X, 1, none⟩ = some (.int .i64 l) := kD.cell hx1 (fun h => h)
      have hf1 := At.frozen (HS.out.quiet kD).xa 1
      clear hHeld kD hx0 hx2 cD
      by_cases hx : x.most ≤ x.last
      · have cR := raiseC base w.drew f X s x (HS.out.quiet HKD.out) HBU.out
        have hxi : (x.most : Int) < l + 1 := by rw [HLl.out]; omega
        have HX := Lib.hid hx
        clear hx
        go_wp2_with fail
        refine cR.mono ?_
        rintro e w2 ⟨rfl, hs2, b2⟩
        have HS2 := Lib.hid hs2
        have HB2 : Hid (Below base w w2) := Lib.hid ((quiet_below HKD.out HS0.out).trans b2)
        clear cR hs2 b2 hz1 hf1
        by_cases hr : raiseE s x = 0
        · rw [hr]
          have hs3 := HS2.out
          rw [raise_ok hr] at hs3
          have hc1 := At.cell hs3.xa 1
          have hg1 := At.frozen hs3.xa 1
          simp [idsC] at hc1
          rw [← HLl.out] at hc1
          have HS3 := Lib.hid hs3
          have HR := Lib.hid hr
          clear hr hs3 HS2
          go_wp2
          go_ret2
          have e1 : NE = 0 := by rw [HE.out, if_pos HX.out, HR.out]
          have e2 : NN = x.last + 1 := by rw [HNN.out, nextN, ← HNE.out, e1]; rfl
          have e3 : y = ⟨x.last + 1, upN x, true⟩ := by rw [HY.out, nextX, ← HNE.out, e1, if_neg (by decide), if_pos HX.out]
          have e4 : NS = raiseS s x := by rw [HSS.out, if_pos HX.out]
          have e5 : l + 1 = ((x.last + 1 : Nat) : Int) := by rw [HLl.out]; omega
          rw [e1, e2, e3, e4]
          refine ⟨by simp [e5], ?_⟩
          rw [e5]
          exact sys_last HS3.out HB2.out (x.last + 1) (by have := HL9.out; omega)
        · have HR := Lib.hid hr
          obtain ⟨E, hEe⟩ : ∃ E, E = raiseE s x := ⟨_, rfl⟩
          rw [← hEe] at hr ⊢
          have HEE := Lib.hid hEe
          have c4 : ((E : Int) == 0) = false := by simp; omega
          have c5 : ((E : Int) != 0) = true := by simp; omega
          have c6 : ¬ ((E : Int) = 0) := by omega
          clear hr hEe
          go_wp2
          go_ret2
          have e1 : NE = E := by rw [HE.out, if_pos HX.out, HEE.out]
          have e0 : NE ≠ 0 := by rw [e1, HEE.out]; exact HR.out
          have e2 : NN = 0 := by rw [HNN.out, nextN, ← HNE.out, if_pos e0]
          have e3 : y = upX s x := by rw [HY.out, nextX, ← HNE.out, if_pos e0, leftX, if_neg HD.out, if_neg HT.out, if_pos HX.out]
          have e4 : NS = raiseS s x := by rw [HSS.out, if_pos HX.out]
          rw [e1, e2, e3, e4]
          exact ⟨rfl, HS2.out, HB2.out⟩
      · have hxi : ¬ (x.most : Int) < l + 1 := by rw [HLl.out]; omega
        have hxj : l + 1 ≤ (x.most : Int) := by rw [HLl.out]; omega
        have HX := Lib.hid hx
        clear hx
        go_wp2
        go_ret2
        have e1 : NE = 0 := by rw [HE.out, if_neg HX.out]
        have e2 : NN = x.last + 1 := by rw [HNN.out, nextN, ← HNE.out, e1]; rfl
        have e3 : y = ⟨x.last + 1, x.most, x.has⟩ := by rw [HY.out, nextX, ← HNE.out, e1, if_neg (by decide), if_neg HX.out]
        have e4 : NS = s := by rw [HSS.out, if_neg HX.out]
        have e5 : l + 1 = ((x.last + 1 : Nat) : Int) := by rw [HLl.out]; omega
        rw [e1, e2, e3, e4]
        refine ⟨by simp [e5], ?_⟩
        rw [e5]
        exact sys_last (HS.out.quiet HKD.out) (quiet_below HKD.out HS0.out) (x.last + 1) (by have := HL9.out; omega)

/-! ### Open -/
theorem openC : OpenC := fun base w f s h hd hsh => by
  obtain ⟨⟨hb, hD⟩, h5, hG⟩ := h
  refine (openUp hD hd hsh hG).mono ?_
  rintro e w' ⟨X, hX, rfl, hA, hB⟩
  have hri := now_rising hD
  rw [lastI_most hri, lastT_most hri] at hA
  have hm : mostD s.now ≤ 999999999 := most_le s.now
  have k : Keep (fun _ => False) w w' := Keep.of_below hB
  refine ⟨X, rfl, ⟨Iv base w, fun b hb' => ⟨hb'.1, Nat.lt_of_lt_of_le hb'.2 hB.size⟩, by omega, fun hb' => by have := hb'.2; omega, hD.keep k (fun _ _ h => h), ⟨hA, hm⟩, h5, hG.quiet k⟩, hB.mono hb⟩
set_option maxHeartbeats 2000000 in
theorem openDownC : OpenDownC := fun base w f s h hd => by
  obtain ⟨⟨hb, hD⟩, h5, hG⟩ := h
  have cD := Lib.hid (down f _ s w hD)
  rw [hd] at cD
  clear hD hG h5 hb hd
  have h20 : Fence.wide.fn 21 := trivial
  refine (callsIn_wide (n := 6)).1 ?_
  refine callsIn_of_wp_marks Tryd.func12 rfl trivial ?_ rfl
  simp only [Tryd.ntmps12, List.size_toArray, List.length_cons, List.length_nil, Nat.reduceAdd, Nat.reduceSub, Array.replicate_succ, Array.replicate_zero, List.push_toArray, List.append_toArray, List.nil_append, List.cons_append]
  gi_wp2_with (gi_at_call 21; refine (callsIn_wide.2 cD.out).mono ?_; rintro e w' ⟨rfl, rfl⟩)
  exact ⟨_, results_tmp2 rfl _ _ _, rfl, Keep.refl _ _⟩
set_option maxHeartbeats 2000000 in
theorem openNoneC : OpenNoneC := fun w => by
  refine (callsIn_wide (n := 6)).1 ?_
  refine callsIn_of_wp_marks Tryd.func12 rfl trivial ?_ rfl
  simp only [Tryd.ntmps12, List.size_toArray, List.length_cons, List.length_nil, Nat.reduceAdd, Nat.reduceSub, Array.replicate_succ, Array.replicate_zero, List.push_toArray, List.append_toArray, List.nil_append, List.cons_append]
  gi_wp2
  exact ⟨_, results_tmp2 rfl _ _ _, rfl, Keep.refl _ _⟩
theorem allC : IdsC := ⟨openC, openDownC, openNoneC, nextC, nextNoneC, lastC, lastNoneC, nameC, digitsC⟩
end Go.Proofs.YtlpeiejohgchmaaDoor.Fs
