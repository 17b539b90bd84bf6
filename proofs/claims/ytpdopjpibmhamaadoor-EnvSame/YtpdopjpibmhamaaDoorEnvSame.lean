/-
  Proved here: which mails are the same, for the program as for the document's own Same; a mail is the same as one of its own making (the law EnvSame returns true). Conditions: the card's own (variables of Go's library as its text lays them); the law itself asks for light mails.
-/
import Derived.Test.YtpdopjpibmhamaaDoorRows
import Derived.Test.YtpdopjpibmhamaaDoorCards
import Derived.Test.YtpdopjpibmhamaaDoorTie
import Derived.Test.YtpdopjpibmhamaaDoorEs
import Derived.Lib.Hide
import Derived.WalkKit
import Derived.ProofKit
import Derived.OpenShut
import Derived.ShutString
import Derived.ChangeOld
import Derived.Below
import Derived.Lay
import Derived.SevenTiedAt
import Derived.Stop.Joined
import Derived.Deep.DeepHandedRow
namespace Go.Proofs.YtpdopjpibmhamaaDoor.envSame
open Go.ChangeShapes Go.WideShapes Go.ChangeAt Go.RowKit
set_option linter.unusedVariables false
set_option linter.unusedSimpArgs false
open Ln
theorem own : ownKnob Tryd.prog.godebug = none := by kernel_rfl

/-! ### The walk -/
set_option maxHeartbeats 4000000 in
set_option maxRecDepth 100000 in
theorem walk (m0 : Ln.Ml) (rx0 : Option Addr) (rc0 : Nat) (bx0 : Option Addr) (bc0 : Nat) (m1 : Ln.Ml) (rx1 : Option Addr) (rc1 : Nat) (bx1 : Option Addr) (bc1 : Nat) (w : World) (M0 : Ln.MlAt (fun k => k < w.heap.size) w m0 rx0 m0.rcpts.length rc0 bx0 m0.body.length bc0) (M1 : Ln.MlAt (fun k => k < w.heap.size) w m1 rx1 m1.rcpts.length rc1 bx1 m1.body.length bc1) (hE : Ln.Env w) :
    Calls Tryd.prog 3 #[.agg (Ln.mlC m0 rx0 m0.rcpts.length rc0 bx0 m0.body.length bc0), .agg (Ln.mlC m1 rx1 m1.rcpts.length rc1 bx1 m1.body.length bc1)] w fun e w' => e = .returned (.bool true) ∧ Below w.heap.size w w' := by
  have k0 := (keep_new w (.cells (mlC m0 rx0 m0.rcpts.length rc0 bx0 m0.body.length bc0) 25)).alloc (.cells (mlC m1 rx1 m1.rcpts.length rc1 bx1 m1.body.length bc1) 25)
  have HA := Lib.hid (fun W e => answersC W e)
  have HM := Lib.hid (M0.quiet k0)
  have HN := Lib.hid (M1.quiet k0)
  have HE := Lib.hid (hE.quiet k0)
  have K0 := Lib.hid k0
  have HCE : Hid (∀ X, Keep (fun _ => False) ((w.alloc (.cells (mlC m0 rx0 m0.rcpts.length rc0 bx0 m0.body.length bc0) 25)).alloc (.cells (mlC m1 rx1 m1.rcpts.length rc1 bx1 m1.body.length bc1) 25)) X → Cells X w.heap.size m0 rx0 m0.rcpts.length rc0 bx0 m0.body.length bc0 ∧ Cells X (w.heap.size + 1) m1 rx1 m1.rcpts.length rc1 bx1 m1.body.length bc1) := Lib.hid (fun X k => by
    have h1 := (At.new w 25 (mlC m0 rx0 m0.rcpts.length rc0 bx0 m0.body.length bc0)).alloc (.cells (mlC m1 rx1 m1.rcpts.length rc1 bx1 m1.body.length bc1) 25)
    have h2 := At.new (w.alloc (.cells (mlC m0 rx0 m0.rcpts.length rc0 bx0 m0.body.length bc0) 25)) 25 (mlC m1 rx1 m1.rcpts.length rc1 bx1 m1.body.length bc1)
    rw [show (w.alloc (.cells (mlC m0 rx0 m0.rcpts.length rc0 bx0 m0.body.length bc0) 25)).heap.size = w.heap.size + 1 by simp] at h2
    exact ⟨cells_of (h1.keep k (fun h => h)), cells_of (h2.keep k (fun h => h))⟩)
  obtain ⟨z, hz⟩ : ∃ z, z = ((w.alloc (.cells (mlC m0 rx0 m0.rcpts.length rc0 bx0 m0.body.length bc0) 25)).alloc (.cells (mlC m1 rx1 m1.rcpts.length rc1 bx1 m1.body.length bc1) 25)) := ⟨_, rfl⟩
  obtain ⟨⟨c0, c1, c2, c3, c4, c5⟩, ⟨d0, d1, d2, d3, d4, d5⟩⟩ := HCE.out _ (Keep.refl _ _)
  have HLI := Lib.hid (lightC HM.out)
  clear k0 M0 M1 hE hz z
  unfold mlC at HM HN HE K0 HCE HLI c0 c1 c2 c3 c4 c5 d0 d1 d2 d3 d4 d5 ⊢
  cases hl : lightB m0 with
  | false =>
    rw [hl] at HLI
    go_enter Tryd.func3, Tryd.ntmps3
    go_wp2_with fail
    refine HLI.out.mono ?_
    rintro e u1 ⟨rfl, hk1⟩
    clear c0 c1 c2 c3 c4 c5 d0 d1 d2 d3 d4 d5
    go_wp2_with fail
    refine (HA.out _ (HE.out.quiet hk1)).mono ?_
    rintro e u9 ⟨rfl, hk9⟩
    go_wp2
    go_ret
    exact ⟨rfl, ((K0.out.trans hk1 (fun _ _ h => h)).trans hk9 (fun _ _ h => h)).below (Nat.le_refl _) (fun _ h => h.elim)⟩
  | true =>
  rw [hl] at HLI
  have HLL := Lib.hid hl
  clear hl
  cases hl : lightB m1 with
  | false =>
    go_enter Tryd.func3, Tryd.ntmps3
    go_wp2_with fail
    refine HLI.out.mono ?_
    rintro e u1 ⟨rfl, hk1⟩
    clear c0 c1 c2 c3 c4 c5 d0 d1 d2 d3 d4 d5
    obtain ⟨⟨c0, c1, c2, c3, c4, c5⟩, ⟨d0, d1, d2, d3, d4, d5⟩⟩ := HCE.out u1 hk1
    go_wp2_with fail
    refine (lightC (HN.out.quiet hk1)).mono ?_
    rintro e u2 ⟨rfl, hk2⟩
    rw [hl]
    have hk12 := hk1.trans hk2 (fun _ _ h => h)
    clear c0 c1 c2 c3 c4 c5 d0 d1 d2 d3 d4 d5
    go_wp2_with fail
    refine (HA.out _ (HE.out.quiet hk12)).mono ?_
    rintro e u9 ⟨rfl, hk9⟩
    go_wp2
    go_ret
    exact ⟨rfl, ((K0.out.trans hk12 (fun _ _ h => h)).trans hk9 (fun _ _ h => h)).below (Nat.le_refl _) (fun _ h => h.elim)⟩
  | true =>
  have HL2 := Lib.hid hl
  clear hl
  go_enter Tryd.func3, Tryd.ntmps3
  go_wp2_with fail
  refine HLI.out.mono ?_
  rintro e u1 ⟨rfl, hk1⟩
  clear c0 c1 c2 c3 c4 c5 d0 d1 d2 d3 d4 d5
  obtain ⟨⟨c0, c1, c2, c3, c4, c5⟩, ⟨d0, d1, d2, d3, d4, d5⟩⟩ := HCE.out u1 hk1
  go_wp2_with fail
  refine (lightC (HN.out.quiet hk1)).mono ?_
  rintro e u2 ⟨rfl, hk2⟩
  rw [HL2.out]
  have K2 := Lib.hid (hk1.trans hk2 (fun _ _ h => h))
  clear c0 c1 c2 c3 c4 c5 d0 d1 d2 d3 d4 d5 hk1 hk2
  have hr0 : m0.rcpts.length ≤ 1000000 := by have := (light_parts HLL.out).2.2.1; omega
  have hb0 : m0.body.length ≤ 1000000 := by have := (light_parts HLL.out).2.2.2; omega
  have HR := Lib.hid (And.intro hr0 hb0)
  clear hr0 hb0
  go_wp2_with fail
  have kD := Lib.hid (K2.out.trans ((Keep.refl _ u2).drew) (fun _ _ h => h))
  refine wp_region_noPanic ?_
  refine wp_region_held_drew (S := fun X => Cells X w.heap.size m0 rx0 m0.rcpts.length rc0 bx0 m0.body.length bc0 ∧ Cells X (w.heap.size + 1) m1 rx1 m1.rcpts.length rc1 bx1 m1.body.length bc1) (by kernel_rfl) (HCE.out _ kD.out) (fun hHeld => ?_)
  refine wpAnyH_ready (rs := [0]) (by kernel_rfl) (by simp) ?_
  refine AllReadyH.cons rfl (fun K hK => ?_) AllReadyH.nil
  go_simp
  refine (HA.out _ (HE.out.quiet kD.out)).mono ?_
  rintro e X1 ⟨rfl, k1⟩
  have kX1 := kD.out.trans k1 (fun _ _ h => h)
  clear k1
  go_wp2_with fail
  refine hK.out _ _ (HCE.out _ kX1) (fun hHeld => ?_)
  clear hK K
  try simp only [Act.put, List.getElem_toArray, List.getElem_cons_succ, List.getElem_cons_zero, List.setIfInBounds_toArray, List.set_cons_zero, List.set_cons_succ]
  refine wpAnyH_take (i := 1) (v := ?_) rfl (by kernel_rfl) (by kernel_rfl) (by kernel_rfl) (fun _ _ _ h => h) (Or.inl ⟨by rfl, ?_⟩) (by assumption) ?_
  rotate_left
  · (intro wS hSw; (try dsimp only at hSw); (try simp only [List.getElem_toArray, List.getElem_cons_succ, List.getElem_cons_zero]); go_simp; try (with_reducible rfl))
  try simp only [Act.put, List.getElem_toArray, List.getElem_cons_succ, List.getElem_cons_zero, List.setIfInBounds_toArray, List.set_cons_zero, List.set_cons_succ]
  refine wpAnyH_take (i := 2) (v := ?_) rfl (by kernel_rfl) (by kernel_rfl) (by kernel_rfl) (fun _ _ _ h => h) (Or.inl ⟨by rfl, ?_⟩) (by assumption) ?_
  rotate_left
  · (intro wS hSw; (try dsimp only at hSw); obtain ⟨⟨s0, s1, s2, s3, s4, s5⟩, _⟩ := hSw; (try simp only [List.getElem_toArray, List.getElem_cons_succ, List.getElem_cons_zero]); go_simp; try (with_reducible rfl))
  try simp only [Act.put, List.getElem_toArray, List.getElem_cons_succ, List.getElem_cons_zero, List.setIfInBounds_toArray, List.set_cons_zero, List.set_cons_succ]
  refine wpAnyH_take (i := 3) (v := ?_) rfl (by kernel_rfl) (by kernel_rfl) (by kernel_rfl) (fun _ _ _ h => h) (Or.inl ⟨by rfl, ?_⟩) (by assumption) ?_
  rotate_left
  · (intro wS hSw; (try dsimp only at hSw); obtain ⟨_, ⟨s0, s1, s2, s3, s4, s5⟩⟩ := hSw; (try simp only [List.getElem_toArray, List.getElem_cons_succ, List.getElem_cons_zero]); go_simp; try (with_reducible rfl))
  try simp only [Act.put, List.getElem_toArray, List.getElem_cons_succ, List.getElem_cons_zero, List.setIfInBounds_toArray, List.set_cons_zero, List.set_cons_succ]
  refine wpAnyH_take (i := 5) (v := ?_) rfl (by kernel_rfl) (by kernel_rfl) (by kernel_rfl) (fun _ _ _ h => h) (Or.inl ⟨by rfl, ?_⟩) (by assumption) ?_
  rotate_left
  · (intro wS hSw; (try dsimp only at hSw); obtain ⟨⟨s0, s1, s2, s3, s4, s5⟩, _⟩ := hSw; (try simp only [List.getElem_toArray, List.getElem_cons_succ, List.getElem_cons_zero]); go_simp; try (with_reducible rfl))
  try simp only [Act.put, List.getElem_toArray, List.getElem_cons_succ, List.getElem_cons_zero, List.setIfInBounds_toArray, List.set_cons_zero, List.set_cons_succ]
  refine wpAnyH_take (i := 6) (v := ?_) rfl (by kernel_rfl) (by kernel_rfl) (by kernel_rfl) (fun _ _ _ h => h) (Or.inl ⟨by rfl, ?_⟩) (by assumption) ?_
  rotate_left
  · (intro wS hSw; (try dsimp only at hSw); obtain ⟨_, ⟨s0, s1, s2, s3, s4, s5⟩⟩ := hSw; (try simp only [List.getElem_toArray, List.getElem_cons_succ, List.getElem_cons_zero]); go_simp; try (with_reducible rfl))
  try simp only [Act.put, List.getElem_toArray, List.getElem_cons_succ, List.getElem_cons_zero, List.setIfInBounds_toArray, List.set_cons_zero, List.set_cons_succ]
  refine wpAnyH_ready (rs := [4]) (by kernel_rfl) (by simp) ?_
  refine AllReadyH.cons rfl (fun K hK => ?_) AllReadyH.nil
  go_simp
  refine (sameC (HM.out.quiet kX1) (HN.out.quiet kX1) HR.out.1).mono ?_
  rintro e X2 ⟨rfl, k2⟩
  have kX2 := kX1.trans k2 (fun _ _ h => h)
  clear k2
  go_wp2_with fail
  refine hK.out _ _ (HCE.out _ kX2) (fun hHeld => ?_)
  clear hK K
  try simp only [Act.put, List.getElem_toArray, List.getElem_cons_succ, List.getElem_cons_zero, List.setIfInBounds_toArray, List.set_cons_zero, List.set_cons_succ]
  refine wpAnyH_ready (rs := [7]) (by kernel_rfl) (by simp) ?_
  refine AllReadyH.cons rfl (fun K hK => ?_) AllReadyH.nil
  go_simp
  refine (refSameC (HM.out.quiet kX2).it (HN.out.quiet kX2).it HR.out.1).mono ?_
  rintro e X3 ⟨rfl, k3⟩
  have kX3 := kX2.trans k3 (fun _ _ h => h)
  clear k3
  go_wp2_with fail
  refine hK.out _ _ (HCE.out _ kX3) (fun hHeld => ?_)
  clear hK K
  try simp only [Act.put, List.getElem_toArray, List.getElem_cons_succ, List.getElem_cons_zero, List.setIfInBounds_toArray, List.set_cons_zero, List.set_cons_succ]
  refine wpAnyH_take (i := 8) (v := ?_) rfl (by kernel_rfl) (by kernel_rfl) (by kernel_rfl) (fun _ _ _ h => h) (Or.inl ⟨by rfl, ?_⟩) (by assumption) ?_
  rotate_left
  · (intro wS hSw; (try dsimp only at hSw); (try simp only [List.getElem_toArray, List.getElem_cons_succ, List.getElem_cons_zero]); go_simp; try (with_reducible rfl))
  try simp only [Act.put, List.getElem_toArray, List.getElem_cons_succ, List.getElem_cons_zero, List.setIfInBounds_toArray, List.set_cons_zero, List.set_cons_succ]
  refine wpAnyH_take (i := 9) (v := ?_) rfl (by kernel_rfl) (by kernel_rfl) (by kernel_rfl) (fun _ _ _ h => h) (Or.inl ⟨by rfl, ?_⟩) (by assumption) ?_
  rotate_left
  · (intro wS hSw; (try dsimp only at hSw); (try simp only [List.getElem_toArray, List.getElem_cons_succ, List.getElem_cons_zero]); go_simp; try (with_reducible rfl))
  try simp only [Act.put, List.getElem_toArray, List.getElem_cons_succ, List.getElem_cons_zero, List.setIfInBounds_toArray, List.set_cons_zero, List.set_cons_succ]
  refine wpAnyH_take (i := 10) (v := ?_) rfl (by kernel_rfl) (by kernel_rfl) (by kernel_rfl) (fun _ _ _ h => h) (Or.inl ⟨by rfl, ?_⟩) (by assumption) ?_
  rotate_left
  · (intro wS hSw; (try dsimp only at hSw); (try simp only [List.getElem_toArray, List.getElem_cons_succ, List.getElem_cons_zero]); go_simp; try (with_reducible rfl))
  try simp only [Act.put, List.getElem_toArray, List.getElem_cons_succ, List.getElem_cons_zero, List.setIfInBounds_toArray, List.set_cons_zero, List.set_cons_succ]
  refine wpAnyH_take (i := 11) (v := ?_) rfl (by kernel_rfl) (by kernel_rfl) (by kernel_rfl) (fun _ _ _ h => h) (Or.inl ⟨by rfl, ?_⟩) (by assumption) ?_
  rotate_left
  · (intro wS hSw; (try dsimp only at hSw); obtain ⟨⟨s0, s1, s2, s3, s4, s5⟩, _⟩ := hSw; (try simp only [List.getElem_toArray, List.getElem_cons_succ, List.getElem_cons_zero]); go_simp; try (with_reducible rfl))
  try simp only [Act.put, List.getElem_toArray, List.getElem_cons_succ, List.getElem_cons_zero, List.setIfInBounds_toArray, List.set_cons_zero, List.set_cons_succ]
  refine wpAnyH_take (i := 12) (v := ?_) rfl (by kernel_rfl) (by kernel_rfl) (by kernel_rfl) (fun _ _ _ h => h) (Or.inl ⟨by rfl, ?_⟩) (by assumption) ?_
  rotate_left
  · (intro wS hSw; (try dsimp only at hSw); obtain ⟨⟨s0, s1, s2, s3, s4, s5⟩, _⟩ := hSw; (try simp only [List.getElem_toArray, List.getElem_cons_succ, List.getElem_cons_zero]); go_simp; try (with_reducible rfl))
  try simp only [Act.put, List.getElem_toArray, List.getElem_cons_succ, List.getElem_cons_zero, List.setIfInBounds_toArray, List.set_cons_zero, List.set_cons_succ]
  refine wpAnyH_ready (rs := [13]) (by kernel_rfl) (by simp) ?_
  refine AllReadyH.cons rfl (fun K hK => ?_) AllReadyH.nil
  go_simp
  refine (ownC (HM.out.quiet kX3) HR.out.1 HR.out.2).mono ?_
  rintro e X4 ⟨rx, rn, rc, bx, bn, bc, rfl, hM4, k4⟩
  have kX4 := kX3.trans k4 (fun _ _ h => h)
  have HM4 := Lib.hid hM4
  clear hM4 k4
  go_wp2_with fail
  refine hK.out _ _ (HCE.out _ kX4) (fun hHeld => ?_)
  clear hK K
  try simp only [Act.put, List.getElem_toArray, List.getElem_cons_succ, List.getElem_cons_zero, List.setIfInBounds_toArray, List.set_cons_zero, List.set_cons_succ]
  refine wpAnyH_ready (rs := [14]) (by kernel_rfl) (by simp) ?_
  refine AllReadyH.cons rfl (fun K hK => ?_) AllReadyH.nil
  go_simp
  refine (sameC (HM.out.quiet kX4) HM4.out HR.out.1).mono ?_
  rintro e X5 ⟨rfl, k5⟩
  rw [sameB_self]
  have kX5 := kX4.trans k5 (fun _ _ h => h)
  clear k5
  go_wp2_with fail
  refine hK.out _ _ (HCE.out _ kX5) (fun hHeld => ?_)
  clear hK K
  try simp only [Act.put, List.getElem_toArray, List.getElem_cons_succ, List.getElem_cons_zero, List.setIfInBounds_toArray, List.set_cons_zero, List.set_cons_succ]
  refine wpAnyH_take (i := 15) (v := ?_) rfl (by kernel_rfl) (by kernel_rfl) (by kernel_rfl) (fun _ _ _ h => h) (Or.inl ⟨by rfl, ?_⟩) (by assumption) ?_
  rotate_left
  · (intro wS hSw; (try dsimp only at hSw); (try simp only [List.getElem_toArray, List.getElem_cons_succ, List.getElem_cons_zero]); go_simp; try (with_reducible rfl))
  try simp only [Act.put, List.getElem_toArray, List.getElem_cons_succ, List.getElem_cons_zero, List.setIfInBounds_toArray, List.set_cons_zero, List.set_cons_succ]
  refine wpAnyH_take (i := 16) (v := ?_) rfl (by kernel_rfl) (by kernel_rfl) (by kernel_rfl) (fun _ _ _ h => h) (Or.inl ⟨by rfl, ?_⟩) (by assumption) ?_
  rotate_left
  · (intro wS hSw; (try dsimp only at hSw); (try simp only [List.getElem_toArray, List.getElem_cons_succ, List.getElem_cons_zero]); go_simp; try (with_reducible rfl))
  try simp only [Act.put, List.getElem_toArray, List.getElem_cons_succ, List.getElem_cons_zero, List.setIfInBounds_toArray, List.set_cons_zero, List.set_cons_succ]
  refine wpAnyH_done (by kernel_rfl) ?_ _
  refine NoPanic.normal ?_
  go_wp2
  go_ret
  exact ⟨rfl, (K0.out.trans kX5 (fun _ _ h => h)).below (Nat.le_refl _) (fun _ h => h.elim)⟩

/-! ### The row's step -/
theorem met (os : Os) : laidMetH Tryd.prog Rows.envSameRow.laid ((World.laidAll Tryd.prog os Rows.envSameRow.laid).forCall (fun _ _ => 0) ⟨#[], #[.agg #[.int .i64 0, .int .i64 0, .int .i64 0, .string { data := #[] }, .slice none 0 0, .slice none 0 0], .agg #[.int .i64 0, .int .i64 0, .int .i64 0, .string { data := #[] }, .slice none 0 0, .slice none 0 0]], []⟩).memory := by
  rw [MakeChecks.laidMetH_plain _ _ _ (by kernel_rfl)]; exact laidMet_laidAll _ (by kernel_rfl) (by kernel_rfl)
theorem reads (os : Os) {H : Type} (enc : TypeId × Value → H) : ∃ places, DataW.whole enc Tryd.prog ((World.laidAll Tryd.prog os Rows.envSameRow.laid).forCall (fun _ _ => 0) ⟨#[], #[.agg #[.int .i64 0, .int .i64 0, .int .i64 0, .string { data := #[] }, .slice none 0 0, .slice none 0 0], .agg #[.int .i64 0, .int .i64 0, .int .i64 0, .string { data := #[] }, .slice none 0 0, .slice none 0 0]], []⟩).memory Tryd.f3.params.toList Rows.envSameSpec.vars false (#[.agg #[.int .i64 0, .int .i64 0, .int .i64 0, .string { data := #[] }, .slice none 0 0, .slice none 0 0], .agg #[.int .i64 0, .int .i64 0, .int .i64 0, .string { data := #[] }, .slice none 0 0, .slice none 0 0]] : Array Value).toList 8 = some ([.agg [.lit (.int .i64 0), .lit (.int .i64 0), .lit (.int .i64 0), .lit (.string []), .nil, .nil], .agg [.lit (.int .i64 0), .lit (.int .i64 0), .lit (.int .i64 0), .lit (.string []), .nil, .nil]], [], places) :=
  ⟨[], by kernel_rfl⟩
set_option maxRecDepth 100000 in
theorem fits (os : Os) {H : Type} (enc : TypeId × Value → H) : ∃ (w : World) (tape : Tape) (i : Input), w.os = os ∧ (w.forCall tape i).Shaped Tryd.checked.prog ∧ i.vars = [] ∧ Input.okWide Tryd.checked.prog (w.forCall tape i) .any w.heap.size 3 i ∧
    (OpenSpec.ofChange Rows.envSameSpec).preRow enc Tryd.checked.prog Tryd.f3 Rows.envSameRow.domain false Rows.envSameRow.laid (w.forCall tape i).memory i.args ∧ ({} : Assume).holds Tryd.checked.prog (lone (Frame.enter Tryd.checked.prog 3 i.args .normal) [] (w.forCall tape i)) := by
  obtain ⟨places, hx⟩ := reads os enc
  have hok : Input.okWideB Tryd.checked.prog ((World.laidAll Tryd.prog os Rows.envSameRow.laid).forCall (fun _ _ => 0) ⟨#[], #[.agg #[.int .i64 0, .int .i64 0, .int .i64 0, .string { data := #[] }, .slice none 0 0, .slice none 0 0], .agg #[.int .i64 0, .int .i64 0, .int .i64 0, .string { data := #[] }, .slice none 0 0, .slice none 0 0]], []⟩) 3 ⟨#[], #[.agg #[.int .i64 0, .int .i64 0, .int .i64 0, .string { data := #[] }, .slice none 0 0, .slice none 0 0], .agg #[.int .i64 0, .int .i64 0, .int .i64 0, .string { data := #[] }, .slice none 0 0, .slice none 0 0]], []⟩ = true := by kernel_rfl
  exact ⟨(World.laidAll Tryd.prog os Rows.envSameRow.laid), fun _ _ => 0, ⟨#[], #[.agg #[.int .i64 0, .int .i64 0, .int .i64 0, .string { data := #[] }, .slice none 0 0, .slice none 0 0], .agg #[.int .i64 0, .int .i64 0, .int .i64 0, .string { data := #[] }, .slice none 0 0, .slice none 0 0]], []⟩, World.laidAll_os _ _ _, World.shaped_of_ZipB (by kernel_rfl) (by kernel_rfl), (Input.okWide_of_okWideB (base := 0) hok).1, (Input.okWide_of_okWideB hok).2,
    OpenSpec.preRow_of_cond 8 hx (by kernel_rfl) (fun k hk => by cases hk) (by kernel_rfl) (met os), by
      simp only [Assume.holds]
      exact ⟨by simp, by simp, fun _ => Modest.zero, by simp, by simp⟩⟩

set_option maxRecDepth 100000 in
theorem lifted (os : Os) (started : os.Started) (H : Type) (enc : TypeId × Value → H) (F : Stop.Interp) :
    ReturnsInHanded {} Tryd.checked os 3 .any ((OpenSpec.ofChange Rows.envSameSpec).preRow enc Tryd.prog Tryd.f3 Rows.envSameRow.domain false Rows.envSameRow.laid) (((OpenSpec.ofChange Rows.envSameSpec).at F).post enc Tryd.prog Tryd.f3 false true false false) := by
  refine returnsInHanded_of_row (C := Tryd.checked) (s := OpenSpec.ofChange Rows.envSameSpec) own started (by kernel_rfl) Tryd.func3 (fits os enc) ?_
  intro W base args ds gs before hval0 hW0 _ hcond hsz hL shape _
  show Calls Tryd.prog 3 args W fun e W' => ∃ v, e = .returned v ∧ Rows.envSameSpec.post enc Tryd.prog Tryd.f3 false true false false W args v W'
  have hval : ∀ (j : Nat) t v, Tryd.f3.params[j]? = some t → args[j]? = some v → Value.okWide Tryd.prog W .any base t v := hval0
  have hW : DataW.Whole enc Tryd.prog Tryd.f3.params.toList Rows.envSameSpec.vars false W args.toList ds gs before := hW0
  have hW' := hW
  obtain ⟨p, q, hA0, hV, rfl, hfz, hnd⟩ := hW
  have hA : DataW.TrodAll enc Tryd.prog W 0 (fun _ => true) true Tryd.f3.params.toList args.toList ds p := hA0
  rw [Tryd.params3] at hA hval
  obtain ⟨v0, vs0, d0, ds0, p0, q0, hargs, rfl, rfl, h0, r0⟩ := trodAll_cons hA
  obtain ⟨v1, vs1, d1, ds1, p1, q1, rfl, rfl, rfl, h1, r1⟩ := trodAll_cons r0
  obtain ⟨rfl, rfl, rfl⟩ := trodAll_nil r1
  obtain rfl : args = #[v0, v1] := by cases args; simp_all
  obtain ⟨rfl, rfl⟩ := trodVars_none hV
  obtain ⟨c0, rfl, _⟩ := okWide_struct Tryd.underlying25 (hval 0 25 v0 rfl rfl)
  have k0 := h0
  have lt0 : ∀ x ∈ p0, x.block < W.heap.size := by obtain ⟨m, hm⟩ := k0; exact DataW.trod_lt m _ _ _ hm
  obtain ⟨m0, rx0, rc0, bx0, bc0, e0, M0⟩ : ∃ m rx rc bx bc, c0 = Ln.mlC m rx m.rcpts.length rc bx m.body.length bc ∧ Ln.MlAt (fun k => k < W.heap.size) W m rx m.rcpts.length rc bx m.body.length bc := by
    obtain ⟨fuel, hf⟩ := h0
    exact Ln.arg_mail hf
  subst e0
  obtain ⟨c1, rfl, _⟩ := okWide_struct Tryd.underlying25 (hval 1 25 v1 rfl rfl)
  have k1 := h1
  have lt1 : ∀ x ∈ p1, x.block < W.heap.size := by obtain ⟨m, hm⟩ := k1; exact DataW.trod_lt m _ _ _ hm
  obtain ⟨m1, rx1, rc1, bx1, bc1, e1, M1⟩ : ∃ m rx rc bx bc, c1 = Ln.mlC m rx m.rcpts.length rc bx m.body.length bc ∧ Ln.MlAt (fun k => k < W.heap.size) W m rx m.rcpts.length rc bx m.body.length bc := by
    obtain ⟨fuel, hf⟩ := h1
    exact Ln.arg_mail hf
  subst e1
  have hE := Ln.env9 W shape
  clear hA0 hval0
  refine (walk m0 rx0 rc0 bx0 bc0 m1 rx1 rc1 bx1 bc1 W M0 M1 hE).mono fun e W' ⟨he, bel⟩ => ?_
  subst he
  exact ⟨_, rfl, _, _, _, [], _, [], hW', trodAll_mk1 (shut_bool Tryd.underlying4 _), (trodAll_cons_mk (Below.trod (by kernel_rfl) (by kernel_rfl) (of_decide_eq_true (by kernel_rfl)) k0 bel lt0) (trodAll_cons_mk (Below.trod (by kernel_rfl) (by kernel_rfl) (of_decide_eq_true (by kernel_rfl)) k1 bel lt1) trodAll_mk0)), rfl, bel.frame _, fun h => by cases h⟩

theorem over : Rows.EnvSameSaid :=
  OpenClaim.holds_of_cond 3 Tryd.f3 rfl rfl rfl rfl rfl rfl rfl ⟨rfl, rfl, rfl, rfl, rfl⟩ rfl rfl rfl rfl rfl (by kernel_rfl) Tryd.func3 (by kernel_rfl)
    (of_decide_eq_true (by kernel_rfl)) (by unfold Func.isWrapper; first | (rw [if_pos (by decide +kernel)]; kernel_rfl) | (rw [if_neg (by decide +kernel)]; exact ⟨rfl, rfl⟩))
    (fun os started H enc _ F => by rw [OpenClaim.pre_eq_preRow]; exact lifted os started H enc F)

theorem plain (f : FuncId) (fn : Func) (hf : Tryd.pinned.checked.prog.funcNamed "pillarbox/pillarboxlaw10.EnvSame" = some f) (hfn : Tryd.pinned.checked.prog.funcs[f]? = some fn) :
    false = Tryd.pinned.checked.prog.looks [] ∧ ∀ (j : Nat) t, fn.params[j]? = some t → Tryd.pinned.checked.prog.wantsStandIn t = false := by
  obtain rfl : f = 3 := Option.some.inj ((show Tryd.prog.funcNamed "pillarbox/pillarboxlaw10.EnvSame" = some 3 by kernel_rfl).symm.trans hf) |>.symm
  obtain rfl : fn = Tryd.f3 := (Option.some.inj (Tryd.func3.symm.trans hfn)).symm
  refine ⟨by kernel_rfl, fun j t ht => ?_⟩
  rw [Tryd.params3] at ht
  have hm : t ∈ [25, 25] := by simpa using Array.mem_of_getElem? ht
  have hall : ([25, 25].all fun u => !Tryd.prog.wantsStandIn u) = true := by kernel_rfl
  exact (show Tryd.prog.wantsStandIn t = false by simpa using List.all_eq_true.1 hall t hm)

/-- The statement: the tied card. -/
theorem proved : Rows.EnvSameCardSaid :=
  Claim7.holds_tied_plain_at .later [] _ _ _ _ over (fun _ h => by cases h) (by kernel_rfl) (fun _ h => by cases h) envSame_row_tie rfl ⟨rfl, rfl⟩ (by kernel_rfl) rfl plain (by kernel_rfl)
#print axioms proved
end Go.Proofs.YtpdopjpibmhamaaDoor.envSame
