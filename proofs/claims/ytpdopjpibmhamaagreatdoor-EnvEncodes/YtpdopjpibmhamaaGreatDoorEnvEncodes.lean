/-
  Proved here: which mails are good, and their records, byte by byte; the program reads each again, whatever stands behind (the law EnvEncodes returns true). Conditions: the card's own (variables of Go's library as its text lays them); the law itself asks for a light mail and at most 500 bytes behind.
-/
import Derived.Test.YtpdopjpibmhamaaGreatDoorRows
import Derived.Test.YtpdopjpibmhamaaGreatDoorCards
import Derived.Test.YtpdopjpibmhamaaGreatDoorTie
import Derived.Test.YtpdopjpibmhamaaGreatDoorEi
import Derived.Lib.Hide
import Derived.WalkKit
import Derived.ProofKit
import Derived.OpenShut
import Derived.ShutString
import Derived.ChangeOld
import Derived.Below
import Derived.Lay
import Derived.SevenTiedAt
import Derived.Stop.Joined
import Derived.Deep.DeepHandedRow
namespace Go.Proofs.YtpdopjpibmhamaaGreatDoor.envEncodes
open Go.ChangeShapes Go.WideShapes Go.ChangeAt Go.RowKit
set_option linter.unusedVariables false
set_option linter.unusedSimpArgs false
open Ln
theorem own : ownKnob Tryz.prog.godebug = none := by kernel_rfl

/-! ### The walk -/
set_option maxHeartbeats 4000000 in
set_option maxRecDepth 100000 in
theorem walk (m0 : Ln.Ml) (rx0 : Option Addr) (rc0 : Nat) (bx0 : Option Addr) (bc0 : Nat) (a1 : Option Addr) (x1 : List Nat) (cap1 : Nat) (w : World) (M0 : Ln.MlAt (fun k => k < w.heap.size) w m0 rx0 m0.rcpts.length rc0 bx0 m0.body.length bc0) (l1 : x1.length ≤ cap1) (m1 : cap1 ≤ 9223372036854775807) (B1 : Ln.Bytes (fun k => k < w.heap.size) w a1 x1) (hE : Ln.Env w) :
    Calls Tryz.prog 3 #[.agg (Ln.mlC m0 rx0 m0.rcpts.length rc0 bx0 m0.body.length bc0), .slice a1 x1.length cap1] w fun e w' => e = .returned (.bool true) ∧ Below w.heap.size w w' := by
  have k0 := keep_new w (.cells (mlC m0 rx0 m0.rcpts.length rc0 bx0 m0.body.length bc0) 25)
  have HA := Lib.hid (fun W e => answersC W e)
  have HAT : Hid (At (w.alloc (.cells (mlC m0 rx0 m0.rcpts.length rc0 bx0 m0.body.length bc0) 25)) w.heap.size 25 (mlC m0 rx0 m0.rcpts.length rc0 bx0 m0.body.length bc0)) := Lib.hid (At.new w _ _)
  have HM := Lib.hid (M0.quiet k0)
  have HE := Lib.hid (hE.quiet k0)
  have K0 := Lib.hid k0
  have HB8 := Lib.hid M0.bs.1
  have HLI := Lib.hid (lightC HM.out)
  have HGO : Hid (∀ W, Keep (fun _ => False) (w.alloc (.cells (mlC m0 rx0 m0.rcpts.length rc0 bx0 m0.body.length bc0) 25)) W → lightB m0 = true → Calls Tryz.prog 11 #[.agg (mlC m0 rx0 m0.rcpts.length rc0 bx0 m0.body.length bc0)] W (Quiet (.bool (goodM m0)) W)) := Lib.hid (fun W k hl => refGoodC (HM.out.quiet k).it (light_parts hl).1 (light_parts hl).2.1)
  have HRE : Hid (∀ W, Keep (fun _ => False) (w.alloc (.cells (mlC m0 rx0 m0.rcpts.length rc0 bx0 m0.body.length bc0) 25)) W → goodM m0 = true → Calls Tryz.prog 14 #[.agg (mlC m0 rx0 m0.rcpts.length rc0 bx0 m0.body.length bc0)] W (Recorded m0 W)) := Lib.hid (fun W k hg => refRecordC (HM.out.quiet k) (goodM_fine hg))
  have HCE : Hid (∀ W, Keep (fun _ => False) (w.alloc (.cells (mlC m0 rx0 m0.rcpts.length rc0 bx0 m0.body.length bc0) 25)) W → Cells W w.heap.size m0 rx0 m0.rcpts.length rc0 bx0 m0.body.length bc0) := Lib.hid (fun W k => cells_of (HAT.out.keep k (fun h => h)))
  have HX := Lib.hid (B1.quiet k0)
  clear k0 M0 hE m1 B1
  unfold mlC at HAT HM HE K0 HLI HGO HRE HCE ⊢
  cases hl : lightB m0 with
  | false =>
    rw [hl] at HLI
    go_enter Tryz.func3, Tryz.ntmps3
    go_wp2_with fail
    refine HLI.out.mono ?_
    rintro e u1 ⟨rfl, hk1⟩
    go_wp2_with fail
    refine (HA.out _ (HE.out.quiet hk1)).mono ?_
    rintro e u2 ⟨rfl, hk2⟩
    go_wp2
    go_ret
    exact ⟨rfl, ((K0.out.trans hk1 (fun _ _ h => h)).trans hk2 (fun _ _ h => h)).below (Nat.le_refl _) (fun _ h => h.elim)⟩
  | true =>
  rw [hl] at HLI
  have HLL := Lib.hid hl
  clear hl
  by_cases hbig : (500 : Int) < (x1.length : Int)
  · go_enter Tryz.func3, Tryz.ntmps3
    go_wp2_with fail
    refine HLI.out.mono ?_
    rintro e u1 ⟨rfl, hk1⟩
    go_wp2_with fail
    refine (HA.out _ (HE.out.quiet hk1)).mono ?_
    rintro e u2 ⟨rfl, hk2⟩
    go_wp2
    go_ret
    exact ⟨rfl, ((K0.out.trans hk1 (fun _ _ h => h)).trans hk2 (fun _ _ h => h)).below (Nat.le_refl _) (fun _ h => h.elim)⟩
  have hx5 : x1.length ≤ 500 := by omega
  have HX5 := Lib.hid hx5
  clear hx5
  go_enter Tryz.func3, Tryz.ntmps3
  go_wp2_with fail
  refine HLI.out.mono ?_
  rintro e u1 ⟨rfl, hk1⟩
  have K1 := Lib.hid hk1
  obtain ⟨c0, c1, c2, c3, c4, c5⟩ := HCE.out u1 hk1
  clear hk1
  go_wp2_with fail
  refine (ownC (HM.out.quiet K1.out) (by have := (light_parts HLL.out).2.2.1; omega) (by have := (light_parts HLL.out).2.2.2; omega)).mono ?_
  rintro e u2 ⟨rx2, rn2, rc2, bx2, bn2, bc2, rfl, hM2, hk2⟩
  have K2 := Lib.hid (K1.out.trans hk2 (fun _ _ h => h))
  have HM2 := Lib.hid hM2
  clear hM2 hk2 c0 c1 c2 c3 c4 c5
  go_wp2_with fail
  refine (encodeC boxC linesC (HE.out.quiet K2.out) HM2.out).mono ?_
  rintro e u3 ⟨hk3, hif⟩
  have K3 := Lib.hid (K2.out.trans hk3 (fun _ _ h => h))
  obtain ⟨c0, c1, c2, c3, c4, c5⟩ := HCE.out u3 K3.out
  clear HM2
  cases hg : goodM m0 with
  | false =>
    rw [hg] at hif HGO
    have he : e = _ := hif
    subst he
    have HGG := Lib.hid hg
    clear hif hk3 hg
    go_wp2_with fail
    refine (HGO.out u3 K3.out HLL.out).mono ?_
    rintro e u4 ⟨rfl, hk4⟩
    have K4 := Lib.hid (K3.out.trans hk4 (fun _ _ h => h))
    clear hk4 c0 c1 c2 c3 c4 c5
    go_wp2_with fail
    refine (HA.out _ (HE.out.quiet K4.out)).mono ?_
    rintro e u5 ⟨rfl, hk5⟩
    have K5 := Lib.hid (K4.out.trans hk5 (fun _ _ h => h))
    obtain ⟨c0, c1, c2, c3, c4, c5⟩ := HCE.out u5 K5.out
    clear hk5
    go_wp2_with fail
    refine (goodC boxC linesC (HE.out.quiet K5.out) (HM.out.quiet K5.out)).mono ?_
    rintro e u6 ⟨rfl, hk6⟩
    rw [HGG.out]
    go_wp2
    go_ret
    exact ⟨rfl, ((K0.out.trans K5.out (fun _ _ h => h)).trans hk6 (fun _ _ h => h)).below (Nat.le_refl _) (fun _ h => h.elim)⟩
  | true =>
  rw [hg] at HGO
  rw [hg, if_pos rfl] at hif
  obtain ⟨y, n, cap, hn, rfl, hO, hnew⟩ := hif
  have HGG := Lib.hid hg
  have HO := Lib.hid hO.bytesO
  have HN := Lib.hid hn
  have HRS := Lib.hid (record_small (goodM_fine hg))
  clear hk3 hg hO hnew hn
  go_wp2_with fail
  refine (HGO.out u3 K3.out HLL.out).mono ?_
  rintro e u4 ⟨rfl, hk4⟩
  have K4 := Lib.hid (K3.out.trans hk4 (fun _ _ h => h))
  have HO4 := Lib.hid ((HO.out.1.quiet hk4).quiet (keep_new u4 (.cells #[] 5)))
  have HX4 := Lib.hid ((HX.out.quiet K4.out).quiet (keep_new u4 (.cells #[] 5)))
  have HOO := Lib.hid (HO.out.1.quiet hk4)
  clear hk4 c0 c1 c2 c3 c4 c5
  go_wp2_with (first
    | (at_builtin
       refine wpList_app (by rfl) (.tmp 44) (.tmp 45) (by rfl) (.slice (some ⟨u4.heap.size, 0, none⟩) 0 0) [] (by rfl) (gr_none u4) _ y n cap (record m0) (by rfl) HN.out.symm HO4.out (by have := HRS.out; have := HN.out; simp; omega) ?_
       intro y5 n5 c5 w5 hn5 hG5
       rw [List.nil_append] at hG5
       have G5 := Lib.hid hG5
       have HX5' := Lib.hid (HX.out.quiet (K4.out.trans hG5.kp (fun _ _ h => h)))
       clear hn5 hG5)
    | (at_builtin
       refine wpList_app (by rfl) (.tmp 46) (.tmp 47) (by rfl) (.slice y5 n5 c5) (record m0) (by rfl) G5.out _ a1 x1.length cap1 x1 (by rfl) rfl HX5'.out (by have := HRS.out; have := HX5.out; omega) ?_
       intro y6 n6 c6 w6 hn6 hG6
       have G6 := Lib.hid hG6
       have HN6 := Lib.hid hn6.out
       have HB6 := Lib.hid hG6.own.bytesO
       have K6 := Lib.hid (K4.out.trans hG6.kp (fun _ _ h => h))
       have HS6 : Hid (n6 ≤ 1000000) := Lib.hid (by have h := hn6.out; rw [h, List.length_append]; have := HRS.out; have := HX5.out; omega)
       clear hn6 hG6))
  refine (decodeC boxC linesC (HE.out.quiet K6.out) y6 n6 c6 (record m0 ++ x1) HN6.out.symm HB6.out.2.2 HS6.out HB6.out.1).mono ?_
  rintro e u7 ⟨mx, nx, rx7, rn7, rc7, bx7, bn7, bc7, rfl, hM7, hk7, hif7⟩
  obtain ⟨b1, b2, b3⟩ := begins_record HGG.out HB8.out x1
  rw [b1, if_pos rfl, b2, b3] at hif7
  obtain ⟨rfl, hnx⟩ := hif7
  rw [b1]
  have hnn : nx = n := by rw [hnx, HN.out, record_length]
  subst hnn
  obtain ⟨W8, hW8, hk8, hA8, hs8⟩ := put_mail u7 mx rx7 rn7 rc7 bx7 bn7 bc7
  have hk78 := hk7.trans hk8 (fun _ _ h => h)
  have K8 := Lib.hid (K6.out.trans hk78 (fun _ _ h => h))
  have HM8 := Lib.hid (hM7.quiet hk8)
  have HO8 := Lib.hid ((HOO.out.quiet G6.out.kp).quiet hk78)
  have HZ7 := Lib.hid (mz_new u7)
  have HW8 := Lib.hid hW8
  obtain ⟨B, hB⟩ : ∃ B, B = u7.heap.size := ⟨_, rfl⟩
  rw [← hB] at hA8 HZ7
  have HA8 := Lib.hid hA8
  have HBB := Lib.hid hB
  have hrn7 : rn7 ≤ 1000000 := by rw [hM7.hrn]; have := good_rn HGG.out; omega
  have HRN := Lib.hid hrn7
  obtain ⟨T, hT⟩ : ∃ T, T = str (record mx) := ⟨_, rfl⟩
  have HC9 : Hid (∀ X, Keep (fun _ => False) W8 X → True ∧ Cells X w.heap.size mx rx0 mx.rcpts.length rc0 bx0 mx.body.length bc0 ∧ Cells X B mx rx7 rn7 rc7 bx7 bn7 bc7 ∧ (convert 23 9 (.slice y nx cap)).run Tryz.prog X = .ok (.string T) X) := Lib.hid (fun X k =>
    ⟨trivial, HCE.out X (K8.out.trans k (fun _ _ h => h)), cells_of (hA8.keep k (fun h => h)), by rw [hT]; exact run_str (HO8.out.quiet k) nx cap HN.out.symm⟩)
  have HT := Lib.hid hT
  clear hM7 hk7 hnx hW8 hk8 hA8 hs8 hB hk78 b1 b2 b3 hrn7 hT HX4 HO4 HOO HB6 HO
  go_wp2_with (rw [← HBB.out]; refine wpList_store_row (by rfl) 25 (.tmp 7) (.tmp 50) (by rfl) B (mlC mx rx7 rn7 rc7 bx7 bn7 bc7) (by rfl) (by rfl) 25 _ HZ7.out infoM rfl (one_ml _ _ _ _ _ _ _ _ _ _) ?_; rw [HBB.out, ← HW8.out, ← HBB.out])
  have kD : Keep (fun _ => False) W8 W8.drew := (Keep.refl _ W8).drew
  refine wp_region_noPanic ?_
  refine wp_region_held_drew (S := fun X => True ∧ Cells X w.heap.size mx rx0 mx.rcpts.length rc0 bx0 mx.body.length bc0 ∧ Cells X B mx rx7 rn7 rc7 bx7 bn7 bc7 ∧ (convert 23 9 (.slice y nx cap)).run Tryz.prog X = .ok (.string T) X) (by kernel_rfl) (HC9.out _ kD) (fun hHeld => ?_)
  refine wpAnyH_ready (rs := [0]) (by kernel_rfl) (by simp) ?_
  refine AllReadyH.cons rfl (fun K hK => ?_) AllReadyH.nil
  go_simp
  refine (HA.out _ (HE.out.quiet (K8.out.trans kD (fun _ _ h => h)))).mono ?_
  rintro e X1 ⟨rfl, k1⟩
  have kX1 := kD.trans k1 (fun _ _ h => h)
  clear k1
  go_wp2_with fail
  refine hK.out _ _ (HC9.out _ kX1) (fun hHeld => ?_)
  clear hK K
  try simp only [Act.put, List.getElem_toArray, List.getElem_cons_succ, List.getElem_cons_zero, List.setIfInBounds_toArray, List.set_cons_zero, List.set_cons_succ]
  refine wpAnyH_take (i := 1) (v := ?_) rfl (by kernel_rfl) (by kernel_rfl) (by kernel_rfl) (fun _ _ _ h => h) (Or.inl ⟨by rfl, ?_⟩) (by assumption) ?_
  rotate_left
  · (intro wS hSw; (try dsimp only at hSw); (try simp only [List.getElem_toArray, List.getElem_cons_succ, List.getElem_cons_zero]); go_simp; try (with_reducible rfl))
  try simp only [Act.put, List.getElem_toArray, List.getElem_cons_succ, List.getElem_cons_zero, List.setIfInBounds_toArray, List.set_cons_zero, List.set_cons_succ]
  refine wpAnyH_take (i := 2) (v := ?_) rfl (by kernel_rfl) (by kernel_rfl) (by kernel_rfl) (fun _ _ _ h => h) (Or.inl ⟨by rfl, ?_⟩) (by assumption) ?_
  rotate_left
  · (intro wS hSw; (try dsimp only at hSw); (try simp only [List.getElem_toArray, List.getElem_cons_succ, List.getElem_cons_zero]); go_simp; try (with_reducible rfl))
  try simp only [Act.put, List.getElem_toArray, List.getElem_cons_succ, List.getElem_cons_zero, List.setIfInBounds_toArray, List.set_cons_zero, List.set_cons_succ]
  refine wpAnyH_take (i := 3) (v := ?_) rfl (by kernel_rfl) (by kernel_rfl) (by kernel_rfl) (fun _ _ _ h => h) (Or.inl ⟨by rfl, ?_⟩) (by assumption) ?_
  rotate_left
  · (intro wS hSw; (try dsimp only at hSw); (try simp only [List.getElem_toArray, List.getElem_cons_succ, List.getElem_cons_zero]); go_simp; try (with_reducible rfl))
  try simp only [Act.put, List.getElem_toArray, List.getElem_cons_succ, List.getElem_cons_zero, List.setIfInBounds_toArray, List.set_cons_zero, List.set_cons_succ]
  refine wpAnyH_take (i := 4) (v := ?_) rfl (by kernel_rfl) (by kernel_rfl) (by kernel_rfl) (fun _ _ _ h => h) (Or.inl ⟨by rfl, ?_⟩) (by assumption) ?_
  rotate_left
  · (intro wS hSw; (try dsimp only at hSw); (try simp only [List.getElem_toArray, List.getElem_cons_succ, List.getElem_cons_zero]); go_simp; try (with_reducible rfl))
  try simp only [Act.put, List.getElem_toArray, List.getElem_cons_succ, List.getElem_cons_zero, List.setIfInBounds_toArray, List.set_cons_zero, List.set_cons_succ]
  refine wpAnyH_take (i := 5) (v := ?_) rfl (by kernel_rfl) (by kernel_rfl) (by kernel_rfl) (fun _ _ _ h => h) (Or.inl ⟨by rfl, ?_⟩) (by assumption) ?_
  rotate_left
  · (intro wS hSw; (try dsimp only at hSw); obtain ⟨_, ⟨s0, s1, s2, s3, s4, s5⟩, _, _⟩ := hSw; (try simp only [List.getElem_toArray, List.getElem_cons_succ, List.getElem_cons_zero]); go_simp; try (with_reducible rfl))
  try simp only [Act.put, List.getElem_toArray, List.getElem_cons_succ, List.getElem_cons_zero, List.setIfInBounds_toArray, List.set_cons_zero, List.set_cons_succ]
  refine wpAnyH_ready (rs := [6]) (by kernel_rfl) (by simp) ?_
  refine AllReadyH.cons rfl (fun K hK => ?_) AllReadyH.nil
  go_simp
  refine (goodC boxC linesC (HE.out.quiet (K8.out.trans kX1 (fun _ _ h => h))) (HM.out.quiet (K8.out.trans kX1 (fun _ _ h => h)))).mono ?_
  rintro e X2 ⟨rfl, k2⟩
  rw [HGG.out]
  have kX2 := kX1.trans k2 (fun _ _ h => h)
  clear k2
  go_wp2_with fail
  refine hK.out _ _ (HC9.out _ kX2) (fun hHeld => ?_)
  clear hK K
  try simp only [Act.put, List.getElem_toArray, List.getElem_cons_succ, List.getElem_cons_zero, List.setIfInBounds_toArray, List.set_cons_zero, List.set_cons_succ]
  refine wpAnyH_take (i := 7) (v := ?_) rfl (by kernel_rfl) (by kernel_rfl) (by kernel_rfl) (fun _ _ _ h => h) (Or.inl ⟨by rfl, ?_⟩) (by assumption) ?_
  rotate_left
  · (intro wS hSw; (try dsimp only at hSw); (try simp only [List.getElem_toArray, List.getElem_cons_succ, List.getElem_cons_zero]); go_simp; try (with_reducible rfl))
  try simp only [Act.put, List.getElem_toArray, List.getElem_cons_succ, List.getElem_cons_zero, List.setIfInBounds_toArray, List.set_cons_zero, List.set_cons_succ]
  refine wpAnyH_take (i := 8) (v := ?_) rfl (by kernel_rfl) (by kernel_rfl) (by kernel_rfl) (fun _ _ _ h => h) (Or.inl ⟨by rfl, ?_⟩) (by assumption) ?_
  rotate_left
  · (intro wS hSw; (try dsimp only at hSw); (try simp only [List.getElem_toArray, List.getElem_cons_succ, List.getElem_cons_zero]); go_simp; try (with_reducible rfl))
  try simp only [Act.put, List.getElem_toArray, List.getElem_cons_succ, List.getElem_cons_zero, List.setIfInBounds_toArray, List.set_cons_zero, List.set_cons_succ]
  refine wpAnyH_take (i := 9) (v := ?_) rfl (by kernel_rfl) (by kernel_rfl) (by kernel_rfl) (fun _ _ _ h => h) (Or.inl ⟨by rfl, ?_⟩) (by assumption) ?_
  rotate_left
  · (intro wS hSw; (try dsimp only at hSw); (try simp only [List.getElem_toArray, List.getElem_cons_succ, List.getElem_cons_zero]); go_simp; try (with_reducible rfl))
  try simp only [Act.put, List.getElem_toArray, List.getElem_cons_succ, List.getElem_cons_zero, List.setIfInBounds_toArray, List.set_cons_zero, List.set_cons_succ]
  refine wpAnyH_take (i := 10) (v := ?_) rfl (by kernel_rfl) (by kernel_rfl) (by kernel_rfl) (fun _ _ _ h => h) (Or.inl ⟨by rfl, ?_⟩) (by assumption) ?_
  rotate_left
  · (intro wS hSw; (try dsimp only at hSw); obtain ⟨_, _, _, hcv⟩ := hSw; (try simp only [List.getElem_toArray, List.getElem_cons_succ, List.getElem_cons_zero]); go_simp; try (with_reducible rfl))
  try simp only [Act.put, List.getElem_toArray, List.getElem_cons_succ, List.getElem_cons_zero, List.setIfInBounds_toArray, List.set_cons_zero, List.set_cons_succ]
  refine wpAnyH_take (i := 11) (v := ?_) rfl (by kernel_rfl) (by kernel_rfl) (by kernel_rfl) (fun _ _ _ h => h) (Or.inl ⟨by rfl, ?_⟩) (by assumption) ?_
  rotate_left
  · (intro wS hSw; (try dsimp only at hSw); obtain ⟨_, ⟨s0, s1, s2, s3, s4, s5⟩, _, _⟩ := hSw; (try simp only [List.getElem_toArray, List.getElem_cons_succ, List.getElem_cons_zero]); go_simp; try (with_reducible rfl))
  try simp only [Act.put, List.getElem_toArray, List.getElem_cons_succ, List.getElem_cons_zero, List.setIfInBounds_toArray, List.set_cons_zero, List.set_cons_succ]
  refine wpAnyH_ready (rs := [12]) (by kernel_rfl) (by simp) ?_
  refine AllReadyH.cons rfl (fun K hK => ?_) AllReadyH.nil
  go_simp
  refine (HRE.out _ (K8.out.trans kX2 (fun _ _ h => h)) HGG.out).mono ?_
  rintro e X4 ⟨y', n', c', hn', rfl, hG'⟩
  have kX4 := kX2.trans hG'.kp (fun _ _ h => h)
  have hcv : (convert 23 9 (.slice y' n' c')).run Tryz.prog X4 = .ok (.string T) X4 := by rw [HT.out]; exact run_str hG'.own.bytesO.1 n' c' hn'.symm
  clear hG' hn'
  go_wp2_with fail
  refine hK.out _ _ (HC9.out _ kX4) (fun hHeld => ?_)
  clear hK K
  try simp only [Act.put, List.getElem_toArray, List.getElem_cons_succ, List.getElem_cons_zero, List.setIfInBounds_toArray, List.set_cons_zero, List.set_cons_succ]
  refine wpAnyH_ready (rs := [13]) (by kernel_rfl) (by simp) ?_
  refine AllReadyH.cons rfl (fun K hK => ?_) AllReadyH.nil
  go_simp
  refine hK.out _ _ (HC9.out _ kX4) (fun hHeld => ?_)
  clear hK K
  try simp only [Act.put, List.getElem_toArray, List.getElem_cons_succ, List.getElem_cons_zero, List.setIfInBounds_toArray, List.set_cons_zero, List.set_cons_succ]
  refine wpAnyH_take (i := 14) (v := ?_) rfl (by kernel_rfl) (by kernel_rfl) (by kernel_rfl) (fun _ _ _ h => h) (Or.inl ⟨by rfl, ?_⟩) (by assumption) ?_
  rotate_left
  · (intro wS hSw; (try dsimp only at hSw); (try simp only [List.getElem_toArray, List.getElem_cons_succ, List.getElem_cons_zero]); go_simp; try (with_reducible rfl))
  try simp only [Act.put, List.getElem_toArray, List.getElem_cons_succ, List.getElem_cons_zero, List.setIfInBounds_toArray, List.set_cons_zero, List.set_cons_succ]
  refine wpAnyH_take (i := 15) (v := ?_) rfl (by kernel_rfl) (by kernel_rfl) (by kernel_rfl) (fun _ _ _ h => h) (Or.inl ⟨by rfl, ?_⟩) (by assumption) ?_
  rotate_left
  · (intro wS hSw; (try dsimp only at hSw); (try simp only [List.getElem_toArray, List.getElem_cons_succ, List.getElem_cons_zero]); go_simp; try (with_reducible rfl))
  try simp only [Act.put, List.getElem_toArray, List.getElem_cons_succ, List.getElem_cons_zero, List.setIfInBounds_toArray, List.set_cons_zero, List.set_cons_succ]
  refine wpAnyH_take (i := 16) (v := ?_) rfl (by kernel_rfl) (by kernel_rfl) (by kernel_rfl) (fun _ _ _ h => h) (Or.inl ⟨by rfl, ?_⟩) (by assumption) ?_
  rotate_left
  · (intro wS hSw; (try dsimp only at hSw); (try simp only [List.getElem_toArray, List.getElem_cons_succ, List.getElem_cons_zero]); go_simp; try (with_reducible rfl))
  try simp only [Act.put, List.getElem_toArray, List.getElem_cons_succ, List.getElem_cons_zero, List.setIfInBounds_toArray, List.set_cons_zero, List.set_cons_succ]
  refine wpAnyH_take (i := 17) (v := ?_) rfl (by kernel_rfl) (by kernel_rfl) (by kernel_rfl) (fun _ _ _ h => h) (Or.inl ⟨by rfl, ?_⟩) (by assumption) ?_
  rotate_left
  · (intro wS hSw; (try dsimp only at hSw); (try simp only [List.getElem_toArray, List.getElem_cons_succ, List.getElem_cons_zero]); go_simp; try (with_reducible rfl))
  try simp only [Act.put, List.getElem_toArray, List.getElem_cons_succ, List.getElem_cons_zero, List.setIfInBounds_toArray, List.set_cons_zero, List.set_cons_succ]
  refine wpAnyH_take (i := 18) (v := ?_) rfl (by kernel_rfl) (by kernel_rfl) (by kernel_rfl) (fun _ _ _ h => h) (Or.inl ⟨by rfl, ?_⟩) (by assumption) ?_
  rotate_left
  · (intro wS hSw; (try dsimp only at hSw); (try simp only [List.getElem_toArray, List.getElem_cons_succ, List.getElem_cons_zero]); go_simp; try (with_reducible rfl))
  try simp only [Act.put, List.getElem_toArray, List.getElem_cons_succ, List.getElem_cons_zero, List.setIfInBounds_toArray, List.set_cons_zero, List.set_cons_succ]
  refine wpAnyH_take (i := 19) (v := ?_) rfl (by kernel_rfl) (by kernel_rfl) (by kernel_rfl) (fun _ _ _ h => h) (Or.inl ⟨by rfl, ?_⟩) (by assumption) ?_
  rotate_left
  · (intro wS hSw; (try dsimp only at hSw); (try simp only [List.getElem_toArray, List.getElem_cons_succ, List.getElem_cons_zero]); go_simp; try (with_reducible rfl))
  try simp only [Act.put, List.getElem_toArray, List.getElem_cons_succ, List.getElem_cons_zero, List.setIfInBounds_toArray, List.set_cons_zero, List.set_cons_succ]
  refine wpAnyH_take (i := 20) (v := ?_) rfl (by kernel_rfl) (by kernel_rfl) (by kernel_rfl) (fun _ _ _ h => h) (Or.inl ⟨by rfl, ?_⟩) (by assumption) ?_
  rotate_left
  · (intro wS hSw; (try dsimp only at hSw); (try simp only [List.getElem_toArray, List.getElem_cons_succ, List.getElem_cons_zero]); go_simp; try (with_reducible rfl))
  try simp only [Act.put, List.getElem_toArray, List.getElem_cons_succ, List.getElem_cons_zero, List.setIfInBounds_toArray, List.set_cons_zero, List.set_cons_succ]
  refine wpAnyH_take (i := 21) (v := ?_) rfl (by kernel_rfl) (by kernel_rfl) (by kernel_rfl) (fun _ _ _ h => h) (Or.inl ⟨by rfl, ?_⟩) (by assumption) ?_
  rotate_left
  · (intro wS hSw; (try dsimp only at hSw); (try simp only [List.getElem_toArray, List.getElem_cons_succ, List.getElem_cons_zero]); go_simp; try (with_reducible rfl))
  try simp only [Act.put, List.getElem_toArray, List.getElem_cons_succ, List.getElem_cons_zero, List.setIfInBounds_toArray, List.set_cons_zero, List.set_cons_succ]
  refine wpAnyH_take (i := 22) (v := ?_) rfl (by kernel_rfl) (by kernel_rfl) (by kernel_rfl) (fun _ _ _ h => h) (Or.inl ⟨by rfl, ?_⟩) (by assumption) ?_
  rotate_left
  · (intro wS hSw; (try dsimp only at hSw); (try simp only [List.getElem_toArray, List.getElem_cons_succ, List.getElem_cons_zero]); go_simp; try (with_reducible rfl))
  try simp only [Act.put, List.getElem_toArray, List.getElem_cons_succ, List.getElem_cons_zero, List.setIfInBounds_toArray, List.set_cons_zero, List.set_cons_succ]
  refine wpAnyH_take (i := 23) (v := ?_) rfl (by kernel_rfl) (by kernel_rfl) (by kernel_rfl) (fun _ _ _ h => h) (Or.inl ⟨by rfl, ?_⟩) (by assumption) ?_
  rotate_left
  · (intro wS hSw; (try dsimp only at hSw); (try simp only [List.getElem_toArray, List.getElem_cons_succ, List.getElem_cons_zero]); go_simp; try (with_reducible rfl))
  try simp only [Act.put, List.getElem_toArray, List.getElem_cons_succ, List.getElem_cons_zero, List.setIfInBounds_toArray, List.set_cons_zero, List.set_cons_succ]
  refine wpAnyH_take (i := 24) (v := ?_) rfl (by kernel_rfl) (by kernel_rfl) (by kernel_rfl) (fun _ _ _ h => h) (Or.inl ⟨by rfl, ?_⟩) (by assumption) ?_
  rotate_left
  · (intro wS hSw; (try dsimp only at hSw); (try simp only [List.getElem_toArray, List.getElem_cons_succ, List.getElem_cons_zero]); go_simp; try (with_reducible rfl))
  try simp only [Act.put, List.getElem_toArray, List.getElem_cons_succ, List.getElem_cons_zero, List.setIfInBounds_toArray, List.set_cons_zero, List.set_cons_succ]
  refine wpAnyH_take (i := 25) (v := ?_) rfl (by kernel_rfl) (by kernel_rfl) (by kernel_rfl) (fun _ _ _ h => h) (Or.inl ⟨by rfl, ?_⟩) (by assumption) ?_
  rotate_left
  · (intro wS hSw; (try dsimp only at hSw); (try simp only [List.getElem_toArray, List.getElem_cons_succ, List.getElem_cons_zero]); go_simp; try (with_reducible rfl))
  try simp only [Act.put, List.getElem_toArray, List.getElem_cons_succ, List.getElem_cons_zero, List.setIfInBounds_toArray, List.set_cons_zero, List.set_cons_succ]
  refine wpAnyH_take (i := 26) (v := ?_) rfl (by kernel_rfl) (by kernel_rfl) (by kernel_rfl) (fun _ _ _ h => h) (Or.inl ⟨by rfl, ?_⟩) (by assumption) ?_
  rotate_left
  · (intro wS hSw; (try dsimp only at hSw); obtain ⟨_, _, ⟨s0, s1, s2, s3, s4, s5⟩, _⟩ := hSw; (try simp only [List.getElem_toArray, List.getElem_cons_succ, List.getElem_cons_zero]); go_simp; try (with_reducible rfl))
  try simp only [Act.put, List.getElem_toArray, List.getElem_cons_succ, List.getElem_cons_zero, List.setIfInBounds_toArray, List.set_cons_zero, List.set_cons_succ]
  refine wpAnyH_take (i := 27) (v := ?_) rfl (by kernel_rfl) (by kernel_rfl) (by kernel_rfl) (fun _ _ _ h => h) (Or.inl ⟨by rfl, ?_⟩) (by assumption) ?_
  rotate_left
  · (intro wS hSw; (try dsimp only at hSw); obtain ⟨_, ⟨s0, s1, s2, s3, s4, s5⟩, _, _⟩ := hSw; (try simp only [List.getElem_toArray, List.getElem_cons_succ, List.getElem_cons_zero]); go_simp; try (with_reducible rfl))
  try simp only [Act.put, List.getElem_toArray, List.getElem_cons_succ, List.getElem_cons_zero, List.setIfInBounds_toArray, List.set_cons_zero, List.set_cons_succ]
  refine wpAnyH_ready (rs := [28]) (by kernel_rfl) (by simp) ?_
  refine AllReadyH.cons rfl (fun K hK => ?_) AllReadyH.nil
  go_simp
  refine (refSameC (HM8.out.quiet kX4).it (HM.out.quiet (K8.out.trans kX4 (fun _ _ h => h))).it HRN.out).mono ?_
  rintro e X5 ⟨rfl, k5⟩
  rw [sameB_self]
  have kX5 := kX4.trans k5 (fun _ _ h => h)
  clear k5
  go_wp2_with fail
  refine hK.out _ _ (HC9.out _ kX5) (fun hHeld => ?_)
  clear hK K
  try simp only [Act.put, List.getElem_toArray, List.getElem_cons_succ, List.getElem_cons_zero, List.setIfInBounds_toArray, List.set_cons_zero, List.set_cons_succ]
  refine wpAnyH_take (i := 29) (v := ?_) rfl (by kernel_rfl) (by kernel_rfl) (by kernel_rfl) (fun _ _ _ h => h) (Or.inl ⟨by rfl, ?_⟩) (by assumption) ?_
  rotate_left
  · (intro wS hSw; (try dsimp only at hSw); (try simp only [List.getElem_toArray, List.getElem_cons_succ, List.getElem_cons_zero]); go_simp; try (with_reducible rfl))
  try simp only [Act.put, List.getElem_toArray, List.getElem_cons_succ, List.getElem_cons_zero, List.setIfInBounds_toArray, List.set_cons_zero, List.set_cons_succ]
  refine wpAnyH_take (i := 30) (v := ?_) rfl (by kernel_rfl) (by kernel_rfl) (by kernel_rfl) (fun _ _ _ h => h) (Or.inl ⟨by rfl, ?_⟩) (by assumption) ?_
  rotate_left
  · (intro wS hSw; (try dsimp only at hSw); (try simp only [List.getElem_toArray, List.getElem_cons_succ, List.getElem_cons_zero]); go_simp; try (with_reducible rfl))
  try simp only [Act.put, List.getElem_toArray, List.getElem_cons_succ, List.getElem_cons_zero, List.setIfInBounds_toArray, List.set_cons_zero, List.set_cons_succ]
  refine wpAnyH_done (by kernel_rfl) ?_ _
  refine NoPanic.normal ?_
  go_wp2
  go_ret
  exact ⟨rfl, ((K0.out.trans K8.out (fun _ _ h => h)).trans kX5 (fun _ _ h => h)).below (Nat.le_refl _) (fun _ h => h.elim)⟩

/-! ### The row's step -/
theorem met (os : Os) : laidMetH Tryz.prog Rows.envEncodesRow.laid ((World.laidAll Tryz.prog os Rows.envEncodesRow.laid).forCall (fun _ _ => 0) ⟨#[], #[.agg #[.int .i64 0, .int .i64 0, .int .i64 0, .string { data := #[] }, .slice none 0 0, .slice none 0 0], .slice none 0 0], []⟩).memory := by
  rw [MakeChecks.laidMetH_plain _ _ _ (by kernel_rfl)]; exact laidMet_laidAll _ (by kernel_rfl) (by kernel_rfl)
theorem reads (os : Os) {H : Type} (enc : TypeId × Value → H) : ∃ places, DataW.whole enc Tryz.prog ((World.laidAll Tryz.prog os Rows.envEncodesRow.laid).forCall (fun _ _ => 0) ⟨#[], #[.agg #[.int .i64 0, .int .i64 0, .int .i64 0, .string { data := #[] }, .slice none 0 0, .slice none 0 0], .slice none 0 0], []⟩).memory Tryz.f3.params.toList Rows.envEncodesSpec.vars false (#[.agg #[.int .i64 0, .int .i64 0, .int .i64 0, .string { data := #[] }, .slice none 0 0, .slice none 0 0], .slice none 0 0] : Array Value).toList 8 = some ([.agg [.lit (.int .i64 0), .lit (.int .i64 0), .lit (.int .i64 0), .lit (.string []), .nil, .nil], .nil], [], places) :=
  ⟨[], by kernel_rfl⟩
set_option maxRecDepth 100000 in
theorem fits (os : Os) {H : Type} (enc : TypeId × Value → H) : ∃ (w : World) (tape : Tape) (i : Input), w.os = os ∧ (w.forCall tape i).Shaped Tryz.checked.prog ∧ i.vars = [] ∧ Input.okWide Tryz.checked.prog (w.forCall tape i) .any w.heap.size 3 i ∧
    (OpenSpec.ofChange Rows.envEncodesSpec).preRow enc Tryz.checked.prog Tryz.f3 Rows.envEncodesRow.domain false Rows.envEncodesRow.laid (w.forCall tape i).memory i.args ∧ ({} : Assume).holds Tryz.checked.prog (lone (Frame.enter Tryz.checked.prog 3 i.args .normal) [] (w.forCall tape i)) := by
  obtain ⟨places, hx⟩ := reads os enc
  have hok : Input.okWideB Tryz.checked.prog ((World.laidAll Tryz.prog os Rows.envEncodesRow.laid).forCall (fun _ _ => 0) ⟨#[], #[.agg #[.int .i64 0, .int .i64 0, .int .i64 0, .string { data := #[] }, .slice none 0 0, .slice none 0 0], .slice none 0 0], []⟩) 3 ⟨#[], #[.agg #[.int .i64 0, .int .i64 0, .int .i64 0, .string { data := #[] }, .slice none 0 0, .slice none 0 0], .slice none 0 0], []⟩ = true := by kernel_rfl
  exact ⟨(World.laidAll Tryz.prog os Rows.envEncodesRow.laid), fun _ _ => 0, ⟨#[], #[.agg #[.int .i64 0, .int .i64 0, .int .i64 0, .string { data := #[] }, .slice none 0 0, .slice none 0 0], .slice none 0 0], []⟩, World.laidAll_os _ _ _, World.shaped_of_ZipB (by kernel_rfl) (by kernel_rfl), (Input.okWide_of_okWideB (base := 0) hok).1, (Input.okWide_of_okWideB hok).2,
    OpenSpec.preRow_of_cond 8 hx (by kernel_rfl) (fun k hk => by cases hk) (by kernel_rfl) (met os), by
      simp only [Assume.holds]
      exact ⟨by simp, by simp, fun _ => Modest.zero, by simp, by simp⟩⟩

set_option maxRecDepth 100000 in
theorem lifted (os : Os) (started : os.Started) (H : Type) (enc : TypeId × Value → H) (F : Stop.Interp) :
    ReturnsInHanded {} Tryz.checked os 3 .any ((OpenSpec.ofChange Rows.envEncodesSpec).preRow enc Tryz.prog Tryz.f3 Rows.envEncodesRow.domain false Rows.envEncodesRow.laid) (((OpenSpec.ofChange Rows.envEncodesSpec).at F).post enc Tryz.prog Tryz.f3 false true false false) := by
  refine returnsInHanded_of_row (C := Tryz.checked) (s := OpenSpec.ofChange Rows.envEncodesSpec) own started (by kernel_rfl) Tryz.func3 (fits os enc) ?_
  intro W base args ds gs before hval0 hW0 _ hcond hsz hL shape _
  show Calls Tryz.prog 3 args W fun e W' => ∃ v, e = .returned v ∧ Rows.envEncodesSpec.post enc Tryz.prog Tryz.f3 false true false false W args v W'
  have hval : ∀ (j : Nat) t v, Tryz.f3.params[j]? = some t → args[j]? = some v → Value.okWide Tryz.prog W .any base t v := hval0
  have hW : DataW.Whole enc Tryz.prog Tryz.f3.params.toList Rows.envEncodesSpec.vars false W args.toList ds gs before := hW0
  have hW' := hW
  obtain ⟨p, q, hA0, hV, rfl, hfz, hnd⟩ := hW
  have hA : DataW.TrodAll enc Tryz.prog W 0 (fun _ => true) true Tryz.f3.params.toList args.toList ds p := hA0
  rw [Tryz.params3] at hA hval
  obtain ⟨v0, vs0, d0, ds0, p0, q0, hargs, rfl, rfl, h0, r0⟩ := trodAll_cons hA
  obtain ⟨v1, vs1, d1, ds1, p1, q1, rfl, rfl, rfl, h1, r1⟩ := trodAll_cons r0
  obtain ⟨rfl, rfl, rfl⟩ := trodAll_nil r1
  obtain rfl : args = #[v0, v1] := by cases args; simp_all
  obtain ⟨rfl, rfl⟩ := trodVars_none hV
  obtain ⟨c0, rfl, _⟩ := okWide_struct Tryz.underlying25 (hval 0 25 v0 rfl rfl)
  have k0 := h0
  have lt0 : ∀ x ∈ p0, x.block < W.heap.size := by obtain ⟨m, hm⟩ := k0; exact DataW.trod_lt m _ _ _ hm
  obtain ⟨m0, rx0, rc0, bx0, bc0, e0, M0⟩ : ∃ m rx rc bx bc, c0 = Ln.mlC m rx m.rcpts.length rc bx m.body.length bc ∧ Ln.MlAt (fun k => k < W.heap.size) W m rx m.rcpts.length rc bx m.body.length bc := by
    obtain ⟨fuel, hf⟩ := h0
    exact Ln.arg_mail hf
  subst e0
  obtain ⟨a1, len1, cap1, rfl⟩ := okWide_slice Tryz.underlying23 (hval 1 23 v1 rfl rfl)
  have k1 := h1
  have lt1 : ∀ x ∈ p1, x.block < W.heap.size := by obtain ⟨m, hm⟩ := k1; exact DataW.trod_lt m _ _ _ hm
  obtain ⟨b1, x1, c1, e1, l1, m1, B1⟩ : ∃ a L cap, Value.slice a1 len1 cap1 = .slice a L.length cap ∧ L.length ≤ cap ∧ cap ≤ 9223372036854775807 ∧ Ln.Bytes (fun k => k < W.heap.size) W a L := by
    obtain ⟨fuel, hf⟩ := h1
    exact Ln.arg_bytes hf
  injection e1 with e1 f1 g1
  subst e1 f1 g1
  have hE := Ln.env9 W shape
  clear hA0 hval0
  refine (walk m0 rx0 rc0 bx0 bc0 a1 x1 cap1 W M0 l1 m1 B1 hE).mono fun e W' ⟨he, bel⟩ => ?_
  subst he
  exact ⟨_, rfl, _, _, _, [], _, [], hW', trodAll_mk1 (shut_bool Tryz.underlying4 _), (trodAll_cons_mk (Below.trod (by kernel_rfl) (by kernel_rfl) (of_decide_eq_true (by kernel_rfl)) k0 bel lt0) (trodAll_cons_mk (Below.trod (by kernel_rfl) (by kernel_rfl) (of_decide_eq_true (by kernel_rfl)) k1 bel lt1) trodAll_mk0)), rfl, bel.frame _, fun h => by cases h⟩

theorem over : Rows.EnvEncodesSaid :=
  OpenClaim.holds_of_cond 3 Tryz.f3 rfl rfl rfl rfl rfl rfl rfl ⟨rfl, rfl, rfl, rfl, rfl⟩ rfl rfl rfl rfl rfl (by kernel_rfl) Tryz.func3 (by kernel_rfl)
    (of_decide_eq_true (by kernel_rfl)) (by unfold Func.isWrapper; first | (rw [if_pos (by decide +kernel)]; kernel_rfl) | (rw [if_neg (by decide +kernel)]; exact ⟨rfl, rfl⟩))
    (fun os started H enc _ F => by rw [OpenClaim.pre_eq_preRow]; exact lifted os started H enc F)

theorem plain (f : FuncId) (fn : Func) (hf : Tryz.pinned.checked.prog.funcNamed "pillarbox/pillarboxlaw10.EnvEncodes" = some f) (hfn : Tryz.pinned.checked.prog.funcs[f]? = some fn) :
    false = Tryz.pinned.checked.prog.looks [] ∧ ∀ (j : Nat) t, fn.params[j]? = some t → Tryz.pinned.checked.prog.wantsStandIn t = false := by
  obtain rfl : f = 3 := Option.some.inj ((show Tryz.prog.funcNamed "pillarbox/pillarboxlaw10.EnvEncodes" = some 3 by kernel_rfl).symm.trans hf) |>.symm
  obtain rfl : fn = Tryz.f3 := (Option.some.inj (Tryz.func3.symm.trans hfn)).symm
  refine ⟨by kernel_rfl, fun j t ht => ?_⟩
  rw [Tryz.params3] at ht
  have hm : t ∈ [25, 23] := by simpa using Array.mem_of_getElem? ht
  have hall : ([25, 23].all fun u => !Tryz.prog.wantsStandIn u) = true := by kernel_rfl
  exact (show Tryz.prog.wantsStandIn t = false by simpa using List.all_eq_true.1 hall t hm)

/-- The statement: the tied card. -/
theorem proved : Rows.EnvEncodesCardSaid :=
  Claim7.holds_tied_plain_at .later [] _ _ _ _ over (fun _ h => by cases h) (by kernel_rfl) (fun _ h => by cases h) envEncodes_row_tie rfl ⟨rfl, rfl⟩ (by kernel_rfl) rfl plain (by kernel_rfl)
#print axioms proved
end Go.Proofs.YtpdopjpibmhamaaGreatDoor.envEncodes
