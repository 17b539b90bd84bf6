/-
  Proved here: one mark more behind a file changes the fate of its recipient alone.
-/
import Derived.Test.YtimoebicacnihaaGreatDoorRows
import Derived.Test.YtimoebicacnihaaGreatDoorCards
import Derived.Test.YtimoebicacnihaaGreatDoorTie
import Derived.Test.YtimoebicacnihaaGreatDoorKg16
import Derived.Test.YtimoebicacnihaaGreatDoorKF1
import Derived.Lib.Hide
import Derived.WalkKit
import Derived.ProofKit
import Derived.OpenShut
import Derived.ShutString
import Derived.ChangeOld
import Derived.Below
import Derived.Lay
import Derived.SevenTiedAt
import Derived.Stop.Joined
import Derived.Deep.DeepHandedRow
namespace Go.Proofs.YtimoebicacnihaaGreatDoor.qfileMore
open Go.ChangeShapes Go.WideShapes Go.ChangeAt Go.RowKit
set_option linter.unusedVariables false
set_option linter.unusedSimpArgs false
open Ln
theorem own : ownKnob Tryz.prog.godebug = none := by kernel_rfl

/-! ### The walk -/
set_option maxHeartbeats 16000000 in
set_option maxRecDepth 100000 in
theorem walk (m0 : Ln.Ml) (rx0 : Option Addr) (rc0 : Nat) (bx0 : Option Addr) (bc0 : Nat) (a1 : Option Addr) (x1 : List Ln.Mk) (cap1 : Nat) (k2 : Ln.Mk) (w : World) (M0 : Ln.MlAt (fun k => k < w.heap.size) w m0 rx0 m0.rcpts.length rc0 bx0 m0.body.length bc0) (F0 : m0.frm.size ≤ 9223372036854775807) (R0 : ∀ s ∈ m0.rcpts, s.size ≤ 9223372036854775807) (l1 : x1.length ≤ cap1) (m1 : cap1 * 24 ≤ 140737488351232) (B1 : Ln.MkP (fun k => k < w.heap.size) w a1 x1) (hE : Ln.Env w) :
    Calls Tryz.prog 7 #[.agg (Ln.mlC m0 rx0 m0.rcpts.length rc0 bx0 m0.body.length bc0), .slice a1 x1.length cap1, .agg (Ln.mkC k2)] w fun e w' => e = .returned (.bool true) ∧ Below w.heap.size w w' := by
  obtain ⟨kd, rc, kn⟩ := k2
  have k0 := (keep_new w (.cells (mlC m0 rx0 m0.rcpts.length rc0 bx0 m0.body.length bc0) 25)).alloc (.cells (mkC ⟨kd, rc, kn⟩) 57)
  have HA := Lib.hid (fun W e => answers12C W e)
  obtain ⟨W0, hW0⟩ : ∃ W0, W0 = (w.alloc (.cells (mlC m0 rx0 m0.rcpts.length rc0 bx0 m0.body.length bc0) 25)).alloc (.cells (mkC ⟨kd, rc, kn⟩) 57) := ⟨_, rfl⟩
  have HAT : Hid (At W0 w.heap.size 25 (mlC m0 rx0 m0.rcpts.length rc0 bx0 m0.body.length bc0)) := Lib.hid (by rw [hW0]; exact (At.new w _ _).alloc _)
  have HKT : Hid (At W0 (w.heap.size + 1) 57 (mkC ⟨kd, rc, kn⟩)) := Lib.hid (by
    rw [hW0]
    have h := At.new (w.alloc (.cells (mlC m0 rx0 m0.rcpts.length rc0 bx0 m0.body.length bc0) 25)) 57 (mkC ⟨kd, rc, kn⟩)
    rw [show (w.alloc (.cells (mlC m0 rx0 m0.rcpts.length rc0 bx0 m0.body.length bc0) 25)).heap.size = w.heap.size + 1 by simp] at h
    exact h)
  rw [← hW0] at k0
  have HM := Lib.hid (M0.quiet k0)
  have HX := Lib.hid (mk_quiet B1 k0)
  have HE := Lib.hid (hE.quiet k0)
  have K0 := Lib.hid k0
  have HB8 := Lib.hid M0.bs.1
  obtain ⟨gq, hgq⟩ : ∃ gq, gq = goodQ m0 (x1 ++ [⟨kd, rc, kn⟩]) := ⟨_, rfl⟩
  have HGO : Hid (∀ W y n c q, Keep (fun _ => False) W0 W → Mo W0 W y n c q (([] ++ x1) ++ [⟨kd, rc, kn⟩]) → Calls Tryz.prog 8 #[.agg (mlC m0 rx0 m0.rcpts.length rc0 bx0 m0.body.length bc0), .slice y n c] W (Quiet (.bool gq) W)) := Lib.hid (fun W y n c q k hMo => by
    rw [hgq]
    rw [List.nil_append] at hMo
    obtain ⟨h1, _, h3⟩ := hMo.row
    exact good12C (HM.out.quiet k) F0 R0 h1 h3)
  have HSC : Hid (∀ Z, Keep (fun _ => False) W0 Z → Cells Z w.heap.size m0 rx0 m0.rcpts.length rc0 bx0 m0.body.length bc0 ∧ K3 Z (w.heap.size + 1) kd rc kn) := Lib.hid (fun Z k => ⟨cells_of (HAT.out.keep k (fun h => h)), k3_of (k := ⟨kd, rc, kn⟩) (HKT.out.keep k (fun h => h))⟩)
  have HGQ := Lib.hid hgq
  have HW0 := Lib.hid hW0
  have hcap := m1
  clear k0 M0 hE F0 R0 B1 hW0 hgq m1
  unfold mlC mkC at HW0
  unfold mlC at HAT HGO
  unfold mkC at HKT
  unfold mlC mkC
  go_enter Tryz.func7, Tryz.ntmps7
  go_upto_region 1 with fail
  rw [← HW0.out]
  go_cut [22] from 14 (fun v wx => v = .bool (!gq) ∧ Hid (Keep (fun _ => False) W0 wx))
  case first =>
    have kD : Keep (fun _ => False) W0 W0.drew := (Keep.refl _ W0).drew
    obtain ⟨⟨c0, c1, c2, c3, c4, c5⟩, e0, e1, e2⟩ := HSC.out _ kD
    refine wp_region_noPanic ?_
    refine wp_region_held_drew (S := fun Z => Z.cell? ⟨w.heap.size, 0, none⟩ = some (.int .i64 m0.id) ∧ Z.cell? ⟨w.heap.size, 1, none⟩ = some (.int .i64 m0.parent) ∧ Z.cell? ⟨w.heap.size, 2, none⟩ = some (.int .i64 m0.born) ∧ Z.cell? ⟨w.heap.size, 3, none⟩ = some (.string m0.frm) ∧ Z.cell? ⟨w.heap.size, 4, none⟩ = some (.slice rx0 m0.rcpts.length rc0) ∧ Z.cell? ⟨w.heap.size, 5, none⟩ = some (.slice bx0 m0.body.length bc0) ∧ Z.cell? ⟨w.heap.size + 1, 0, none⟩ = some (.int .i64 kd) ∧ Z.cell? ⟨w.heap.size + 1, 1, none⟩ = some (.int .i64 rc) ∧ Z.cell? ⟨w.heap.size + 1, 2, none⟩ = some (.int .i64 kn)) (by kernel_rfl) ⟨c0, c1, c2, c3, c4, c5, e0, e1, e2⟩ (fun hHeld => ?_)
    clear c0 c1 c2 c3 c4 c5 e0 e1 e2
    refine wpAnyH_take (i := 0) (v := ?_) rfl (by kernel_rfl) (by kernel_rfl) (by kernel_rfl) (fun _ _ _ h => h) (Or.inl ⟨by rfl, ?_⟩) (by assumption) ?_
    rotate_left
    · (intro wS hSw; (try dsimp only at hSw); obtain ⟨hS1, hS2, hS3, hS4, hS5, hS6, hS7, hS8, hS9⟩ := hSw; (try simp only [List.getElem_toArray, List.getElem_cons_succ, List.getElem_cons_zero]); go_simp; try (with_reducible rfl))
    try simp only [Act.put, List.getElem_toArray, List.getElem_cons_succ, List.getElem_cons_zero, List.setIfInBounds_toArray, List.set_cons_zero, List.set_cons_succ]
    refine wpAnyH_take (i := 2) (v := ?_) rfl (by kernel_rfl) (by kernel_rfl) (by kernel_rfl) (fun _ _ _ h => h) (Or.inl ⟨by rfl, ?_⟩) (by assumption) ?_
    rotate_left
    · (intro wS hSw; (try dsimp only at hSw); obtain ⟨hS1, hS2, hS3, hS4, hS5, hS6, hS7, hS8, hS9⟩ := hSw; (try simp only [List.getElem_toArray, List.getElem_cons_succ, List.getElem_cons_zero]); go_simp; try (with_reducible rfl))
    try simp only [Act.put, List.getElem_toArray, List.getElem_cons_succ, List.getElem_cons_zero, List.setIfInBounds_toArray, List.set_cons_zero, List.set_cons_succ]
    refine wpAnyH_take (i := 4) (v := ?_) rfl (by kernel_rfl) (by kernel_rfl) (by kernel_rfl) (fun _ _ _ h => h) (Or.inl ⟨by rfl, ?_⟩) (by assumption) ?_
    rotate_left
    · (intro wS hSw; (try dsimp only at hSw); obtain ⟨hS1, hS2, hS3, hS4, hS5, hS6, hS7, hS8, hS9⟩ := hSw; (try simp only [List.getElem_toArray, List.getElem_cons_succ, List.getElem_cons_zero]); go_simp; try (with_reducible rfl))
    try simp only [Act.put, List.getElem_toArray, List.getElem_cons_succ, List.getElem_cons_zero, List.setIfInBounds_toArray, List.set_cons_zero, List.set_cons_succ]
    refine wpAnyH_ready (rs := [1, 5]) (by kernel_rfl) (by simp) ?_
    refine AllReadyH.cons rfl (fun K hK => ?_) (AllReadyH.cons rfl (fun K hK => ?_) AllReadyH.nil)
    · go_simp
      have k1 := kD.trans (keep_new W0.drew (.cells #[] 57)) (fun _ _ h => h)
      have M1 : Hid (Mo W0 (W0.drew.alloc (.cells #[] 57)) (some ⟨W0.heap.size, 0, none⟩) 0 0 none []) := Lib.hid (Mo.start k1 _)
      obtain ⟨⟨c0, c1, c2, c3, c4, c5⟩, e0, e1, e2⟩ := HSC.out _ k1
      refine hK.out _ _ ⟨c0, c1, c2, c3, c4, c5, e0, e1, e2⟩ (fun hHeld => ?_)
      clear hK K
      try simp only [Act.put, List.getElem_toArray, List.getElem_cons_succ, List.getElem_cons_zero, List.setIfInBounds_toArray, List.set_cons_zero, List.set_cons_succ]
      clear c0 c1 c2 c3 c4 c5 e0 e1 e2
      refine wpAnyH_ready (rs := [3, 5]) (by kernel_rfl) (by simp) ?_
      refine AllReadyH.cons rfl (fun K hK => ?_) (AllReadyH.cons rfl (fun K hK => ?_) AllReadyH.nil)
      · obtain ⟨y3, n3, c3, q3, w3, hr3, hn3, ho3, hk3, hw3⟩ := app_mkW (c := cap1) M1.out.own rfl (mk_quiet HX.out k1) 26 (by simp only [List.length_nil]; omega)
        refine wp_append_runB (by rfl) (by rfl) (by rfl) hr3 ?_
        have M3 := Lib.hid (M1.out.app ho3 hk3 hw3)
        have k3 := M3.out.kp
        obtain ⟨⟨c0, c1, c2, c3, c4, c5⟩, e0, e1, e2⟩ := HSC.out _ k3
        clear ho3 hk3 hw3 hr3 hn3
        refine hK.out _ _ ⟨c0, c1, c2, c3, c4, c5, e0, e1, e2⟩ (fun hHeld => ?_)
        clear hK K
        try simp only [Act.put, List.getElem_toArray, List.getElem_cons_succ, List.getElem_cons_zero, List.setIfInBounds_toArray, List.set_cons_zero, List.set_cons_succ]
        clear c0 c1 c2 c3 c4 c5 e0 e1 e2
        refine wpAnyH_ready (rs := [5]) (by kernel_rfl) (by simp) ?_
        refine AllReadyH.cons rfl (fun K hK => ?_) AllReadyH.nil
        go_simp
        have O5 : Hid (MkP (fun _ => True) (w3.alloc (.cells #[.int .i64 kd, .int .i64 rc, .int .i64 kn] 57)) (some ⟨w3.heap.size, 0, none⟩) [⟨kd, rc, kn⟩]) := Lib.hid (by
          have h := StP.mono (mk_one w3 ⟨kd, rc, kn⟩) (Q := fun _ => True) (fun _ _ _ => trivial)
          rw [show w3.heap.size = w3.heap.size by simp] at h
          exact h)
        have M5 := Lib.hid (M3.out.quiet (keep_new w3 (.cells #[.int .i64 kd, .int .i64 rc, .int .i64 kn] 57)))
        have k5 := M5.out.kp
        obtain ⟨⟨c0, c1, c2, c3, c4, c5⟩, e0, e1, e2⟩ := HSC.out _ k5
        refine hK.out _ _ ⟨c0, c1, c2, c3, c4, c5, e0, e1, e2⟩ (fun hHeld => ?_)
        clear hK K
        try simp only [Act.put, List.getElem_toArray, List.getElem_cons_succ, List.getElem_cons_zero, List.setIfInBounds_toArray, List.set_cons_zero, List.set_cons_succ]
        clear c0 c1 c2 c3 c4 c5 e0 e1 e2
        refine wpAnyH_ready (rs := [6]) (by kernel_rfl) (by simp) ?_
        refine AllReadyH.cons rfl (fun K hK => ?_) AllReadyH.nil
        obtain ⟨y6, n6, c6, q6, w6, hr6, hn6, ho6, hk6, hw6⟩ := app_mkW (x := some ⟨w3.heap.size, 0, none⟩) (n := 1) (c := 1) M5.out.own rfl O5.out 26 (by rw [List.nil_append]; omega)
        refine wp_append_runB (by rfl) (by rfl) (by rfl) hr6 ?_
        have MX := M5
        have M6 := Lib.hid (MX.out.app ho6 hk6 hw6)
        have k6 := M6.out.kp
        obtain ⟨⟨c0, c1, c2, c3, c4, c5⟩, e0, e1, e2⟩ := HSC.out _ k6
        clear ho6 hk6 hw6 hr6 hn6
        refine hK.out _ _ ⟨c0, c1, c2, c3, c4, c5, e0, e1, e2⟩ (fun hHeld => ?_)
        clear hK K
        try simp only [Act.put, List.getElem_toArray, List.getElem_cons_succ, List.getElem_cons_zero, List.setIfInBounds_toArray, List.set_cons_zero, List.set_cons_succ]
        clear c0 c1 c2 c3 c4 c5 e0 e1 e2
        refine wpAnyH_ready (rs := [7]) (by kernel_rfl) (by simp) ?_
        refine AllReadyH.cons rfl (fun K hK => ?_) AllReadyH.nil
        go_simp
        refine (HGO.out w6 y6 n6 c6 q6 k6 M6.out).mono ?_
        rintro e u7 ⟨rfl, hk7⟩
        have k7 := k6.trans hk7 (fun _ _ h => h)
        obtain ⟨⟨c0, c1, c2, c3, c4, c5⟩, e0, e1, e2⟩ := HSC.out _ k7
        go_wp2_with fail
        refine hK.out _ _ ⟨c0, c1, c2, c3, c4, c5, e0, e1, e2⟩ (fun hHeld => ?_)
        clear hK K
        try simp only [Act.put, List.getElem_toArray, List.getElem_cons_succ, List.getElem_cons_zero, List.setIfInBounds_toArray, List.set_cons_zero, List.set_cons_succ]
        clear c0 c1 c2 c3 c4 c5 e0 e1 e2
        refine wpAnyH_take (i := 8) (v := ?_) rfl (by kernel_rfl) (by kernel_rfl) (by kernel_rfl) (fun _ _ _ h => h) (Or.inl ⟨by rfl, ?_⟩) (by assumption) ?_
        rotate_left
        · (intro wS hSw; (try dsimp only at hSw); obtain ⟨hS1, hS2, hS3, hS4, hS5, hS6, hS7, hS8, hS9⟩ := hSw; (try simp only [List.getElem_toArray, List.getElem_cons_succ, List.getElem_cons_zero]); go_simp; try (with_reducible rfl))
        try simp only [Act.put, List.getElem_toArray, List.getElem_cons_succ, List.getElem_cons_zero, List.setIfInBounds_toArray, List.set_cons_zero, List.set_cons_succ]
        refine wpAnyH_done (by kernel_rfl) ?_ _
        refine NoPanic.normal ?_
        go_wp2_with fail
        go_meet
        case rel => exact ⟨by rfl, Lib.hid k7⟩

      · go_simp
        have O5 : Hid (MkP (fun _ => True) ((W0.drew.alloc (.cells #[] 57)).alloc (.cells #[.int .i64 kd, .int .i64 rc, .int .i64 kn] 57)) (some ⟨W0.heap.size + 1, 0, none⟩) [⟨kd, rc, kn⟩]) := Lib.hid (by
          have h := StP.mono (mk_one (W0.drew.alloc (.cells #[] 57)) ⟨kd, rc, kn⟩) (Q := fun _ => True) (fun _ _ _ => trivial)
          rw [show (W0.drew.alloc (.cells #[] 57)).heap.size = W0.heap.size + 1 by simp] at h
          exact h)
        have M5 := Lib.hid (M1.out.quiet (keep_new (W0.drew.alloc (.cells #[] 57)) (.cells #[.int .i64 kd, .int .i64 rc, .int .i64 kn] 57)))
        have k5 := M5.out.kp
        obtain ⟨⟨c0, c1, c2, c3, c4, c5⟩, e0, e1, e2⟩ := HSC.out _ k5
        refine hK.out _ _ ⟨c0, c1, c2, c3, c4, c5, e0, e1, e2⟩ (fun hHeld => ?_)
        clear hK K
        try simp only [Act.put, List.getElem_toArray, List.getElem_cons_succ, List.getElem_cons_zero, List.setIfInBounds_toArray, List.set_cons_zero, List.set_cons_succ]
        clear c0 c1 c2 c3 c4 c5 e0 e1 e2
        refine wpAnyH_ready (rs := [3]) (by kernel_rfl) (by simp) ?_
        refine AllReadyH.cons rfl (fun K hK => ?_) AllReadyH.nil
        obtain ⟨y3, n3, c3, q3, w3, hr3, hn3, ho3, hk3, hw3⟩ := app_mkW (c := cap1) M5.out.own rfl (mk_quiet HX.out k5) 26 (by simp only [List.length_nil]; omega)
        refine wp_append_runB (by rfl) (by rfl) (by rfl) hr3 ?_
        have M3 := Lib.hid (M5.out.app ho3 hk3 hw3)
        have k3 := M3.out.kp
        have O3 := Lib.hid (StP.keep O5.out mkL_len hk3 (fun _ _ _ h => by cases h))
        obtain ⟨⟨c0, c1, c2, c3, c4, c5⟩, e0, e1, e2⟩ := HSC.out _ k3
        clear ho3 hk3 hw3 hr3 hn3
        refine hK.out _ _ ⟨c0, c1, c2, c3, c4, c5, e0, e1, e2⟩ (fun hHeld => ?_)
        clear hK K
        try simp only [Act.put, List.getElem_toArray, List.getElem_cons_succ, List.getElem_cons_zero, List.setIfInBounds_toArray, List.set_cons_zero, List.set_cons_succ]
        clear c0 c1 c2 c3 c4 c5 e0 e1 e2
        refine wpAnyH_ready (rs := [6]) (by kernel_rfl) (by simp) ?_
        refine AllReadyH.cons rfl (fun K hK => ?_) AllReadyH.nil
        obtain ⟨y6, n6, c6, q6, w6, hr6, hn6, ho6, hk6, hw6⟩ := app_mkW (x := some ⟨W0.heap.size + 1, 0, none⟩) (n := 1) (c := 1) M3.out.own rfl O3.out 26 (by rw [List.nil_append]; omega)
        refine wp_append_runB (by rfl) (by rfl) (by rfl) hr6 ?_
        have MX := M3
        have M6 := Lib.hid (MX.out.app ho6 hk6 hw6)
        have k6 := M6.out.kp
        obtain ⟨⟨c0, c1, c2, c3, c4, c5⟩, e0, e1, e2⟩ := HSC.out _ k6
        clear ho6 hk6 hw6 hr6 hn6
        refine hK.out _ _ ⟨c0, c1, c2, c3, c4, c5, e0, e1, e2⟩ (fun hHeld => ?_)
        clear hK K
        try simp only [Act.put, List.getElem_toArray, List.getElem_cons_succ, List.getElem_cons_zero, List.setIfInBounds_toArray, List.set_cons_zero, List.set_cons_succ]
        clear c0 c1 c2 c3 c4 c5 e0 e1 e2
        refine wpAnyH_ready (rs := [7]) (by kernel_rfl) (by simp) ?_
        refine AllReadyH.cons rfl (fun K hK => ?_) AllReadyH.nil
        go_simp
        refine (HGO.out w6 y6 n6 c6 q6 k6 M6.out).mono ?_
        rintro e u7 ⟨rfl, hk7⟩
        have k7 := k6.trans hk7 (fun _ _ h => h)
        obtain ⟨⟨c0, c1, c2, c3, c4, c5⟩, e0, e1, e2⟩ := HSC.out _ k7
        go_wp2_with fail
        refine hK.out _ _ ⟨c0, c1, c2, c3, c4, c5, e0, e1, e2⟩ (fun hHeld => ?_)
        clear hK K
        try simp only [Act.put, List.getElem_toArray, List.getElem_cons_succ, List.getElem_cons_zero, List.setIfInBounds_toArray, List.set_cons_zero, List.set_cons_succ]
        clear c0 c1 c2 c3 c4 c5 e0 e1 e2
        refine wpAnyH_take (i := 8) (v := ?_) rfl (by kernel_rfl) (by kernel_rfl) (by kernel_rfl) (fun _ _ _ h => h) (Or.inl ⟨by rfl, ?_⟩) (by assumption) ?_
        rotate_left
        · (intro wS hSw; (try dsimp only at hSw); obtain ⟨hS1, hS2, hS3, hS4, hS5, hS6, hS7, hS8, hS9⟩ := hSw; (try simp only [List.getElem_toArray, List.getElem_cons_succ, List.getElem_cons_zero]); go_simp; try (with_reducible rfl))
        try simp only [Act.put, List.getElem_toArray, List.getElem_cons_succ, List.getElem_cons_zero, List.setIfInBounds_toArray, List.set_cons_zero, List.set_cons_succ]
        refine wpAnyH_done (by kernel_rfl) ?_ _
        refine NoPanic.normal ?_
        go_wp2_with fail
        go_meet
        case rel => exact ⟨by rfl, Lib.hid k7⟩


    · go_simp
      have O5 : Hid (MkP (fun _ => True) (W0.drew.alloc (.cells #[.int .i64 kd, .int .i64 rc, .int .i64 kn] 57)) (some ⟨W0.heap.size, 0, none⟩) [⟨kd, rc, kn⟩]) := Lib.hid (by
        have h := StP.mono (mk_one W0.drew ⟨kd, rc, kn⟩) (Q := fun _ => True) (fun _ _ _ => trivial)
        rw [show W0.drew.heap.size = W0.heap.size by simp] at h
        exact h)
      have k5 := kD.trans (keep_new W0.drew (.cells #[.int .i64 kd, .int .i64 rc, .int .i64 kn] 57)) (fun _ _ h => h)
      obtain ⟨⟨c0, c1, c2, c3, c4, c5⟩, e0, e1, e2⟩ := HSC.out _ k5
      refine hK.out _ _ ⟨c0, c1, c2, c3, c4, c5, e0, e1, e2⟩ (fun hHeld => ?_)
      clear hK K
      try simp only [Act.put, List.getElem_toArray, List.getElem_cons_succ, List.getElem_cons_zero, List.setIfInBounds_toArray, List.set_cons_zero, List.set_cons_succ]
      clear c0 c1 c2 c3 c4 c5 e0 e1 e2
      refine wpAnyH_ready (rs := [1]) (by kernel_rfl) (by simp) ?_
      refine AllReadyH.cons rfl (fun K hK => ?_) AllReadyH.nil
      go_simp
      have k1 := k5.trans (keep_new (W0.drew.alloc (.cells #[.int .i64 kd, .int .i64 rc, .int .i64 kn] 57)) (.cells #[] 57)) (fun _ _ h => h)
      have M1 : Hid (Mo W0 ((W0.drew.alloc (.cells #[.int .i64 kd, .int .i64 rc, .int .i64 kn] 57)).alloc (.cells #[] 57)) (some ⟨W0.heap.size + 1, 0, none⟩) 0 0 none []) := Lib.hid (Mo.start k1 _)
      have O1 := Lib.hid (mk_quiet O5.out (keep_new (W0.drew.alloc (.cells #[.int .i64 kd, .int .i64 rc, .int .i64 kn] 57)) (.cells #[] 57)))
      obtain ⟨⟨c0, c1, c2, c3, c4, c5⟩, e0, e1, e2⟩ := HSC.out _ k1
      refine hK.out _ _ ⟨c0, c1, c2, c3, c4, c5, e0, e1, e2⟩ (fun hHeld => ?_)
      clear hK K
      try simp only [Act.put, List.getElem_toArray, List.getElem_cons_succ, List.getElem_cons_zero, List.setIfInBounds_toArray, List.set_cons_zero, List.set_cons_succ]
      clear c0 c1 c2 c3 c4 c5 e0 e1 e2
      refine wpAnyH_ready (rs := [3]) (by kernel_rfl) (by simp) ?_
      refine AllReadyH.cons rfl (fun K hK => ?_) AllReadyH.nil
      obtain ⟨y3, n3, c3, q3, w3, hr3, hn3, ho3, hk3, hw3⟩ := app_mkW (c := cap1) M1.out.own rfl (mk_quiet HX.out k1) 26 (by simp only [List.length_nil]; omega)
      refine wp_append_runB (by rfl) (by rfl) (by rfl) hr3 ?_
      have M3 := Lib.hid (M1.out.app ho3 hk3 hw3)
      have k3 := M3.out.kp
      have O3 := Lib.hid (StP.keep O1.out mkL_len hk3 (fun _ _ _ h => by cases h))
      obtain ⟨⟨c0, c1, c2, c3, c4, c5⟩, e0, e1, e2⟩ := HSC.out _ k3
      clear ho3 hk3 hw3 hr3 hn3
      refine hK.out _ _ ⟨c0, c1, c2, c3, c4, c5, e0, e1, e2⟩ (fun hHeld => ?_)
      clear hK K
      try simp only [Act.put, List.getElem_toArray, List.getElem_cons_succ, List.getElem_cons_zero, List.setIfInBounds_toArray, List.set_cons_zero, List.set_cons_succ]
      clear c0 c1 c2 c3 c4 c5 e0 e1 e2
      refine wpAnyH_ready (rs := [6]) (by kernel_rfl) (by simp) ?_
      refine AllReadyH.cons rfl (fun K hK => ?_) AllReadyH.nil
      obtain ⟨y6, n6, c6, q6, w6, hr6, hn6, ho6, hk6, hw6⟩ := app_mkW (x := some ⟨W0.heap.size, 0, none⟩) (n := 1) (c := 1) M3.out.own rfl O3.out 26 (by rw [List.nil_append]; omega)
      refine wp_append_runB (by rfl) (by rfl) (by rfl) hr6 ?_
      have MX := M3
      have M6 := Lib.hid (MX.out.app ho6 hk6 hw6)
      have k6 := M6.out.kp
      obtain ⟨⟨c0, c1, c2, c3, c4, c5⟩, e0, e1, e2⟩ := HSC.out _ k6
      clear ho6 hk6 hw6 hr6 hn6
      refine hK.out _ _ ⟨c0, c1, c2, c3, c4, c5, e0, e1, e2⟩ (fun hHeld => ?_)
      clear hK K
      try simp only [Act.put, List.getElem_toArray, List.getElem_cons_succ, List.getElem_cons_zero, List.setIfInBounds_toArray, List.set_cons_zero, List.set_cons_succ]
      clear c0 c1 c2 c3 c4 c5 e0 e1 e2
      refine wpAnyH_ready (rs := [7]) (by kernel_rfl) (by simp) ?_
      refine AllReadyH.cons rfl (fun K hK => ?_) AllReadyH.nil
      go_simp
      refine (HGO.out w6 y6 n6 c6 q6 k6 M6.out).mono ?_
      rintro e u7 ⟨rfl, hk7⟩
      have k7 := k6.trans hk7 (fun _ _ h => h)
      obtain ⟨⟨c0, c1, c2, c3, c4, c5⟩, e0, e1, e2⟩ := HSC.out _ k7
      go_wp2_with fail
      refine hK.out _ _ ⟨c0, c1, c2, c3, c4, c5, e0, e1, e2⟩ (fun hHeld => ?_)
      clear hK K
      try simp only [Act.put, List.getElem_toArray, List.getElem_cons_succ, List.getElem_cons_zero, List.setIfInBounds_toArray, List.set_cons_zero, List.set_cons_succ]
      clear c0 c1 c2 c3 c4 c5 e0 e1 e2
      refine wpAnyH_take (i := 8) (v := ?_) rfl (by kernel_rfl) (by kernel_rfl) (by kernel_rfl) (fun _ _ _ h => h) (Or.inl ⟨by rfl, ?_⟩) (by assumption) ?_
      rotate_left
      · (intro wS hSw; (try dsimp only at hSw); obtain ⟨hS1, hS2, hS3, hS4, hS5, hS6, hS7, hS8, hS9⟩ := hSw; (try simp only [List.getElem_toArray, List.getElem_cons_succ, List.getElem_cons_zero]); go_simp; try (with_reducible rfl))
      try simp only [Act.put, List.getElem_toArray, List.getElem_cons_succ, List.getElem_cons_zero, List.setIfInBounds_toArray, List.set_cons_zero, List.set_cons_succ]
      refine wpAnyH_done (by kernel_rfl) ?_ _
      refine NoPanic.normal ?_
      go_wp2_with fail
      go_meet
      case rel => exact ⟨by rfl, Lib.hid k7⟩
  case rest =>
    obtain ⟨rfl, K1⟩ := hcut
    cases gq with
    | false =>
      go_wp2_with fail
      refine (HA.out _ (HE.out.quiet K1.out)).mono ?_
      rintro e u2 ⟨rfl, hk2⟩
      go_wp2
      go_ret
      exact ⟨rfl, ((K0.out.trans K1.out (fun _ _ h => h)).trans hk2 (fun _ _ h => h)).below (Nat.le_refl _) (fun _ h => h.elim)⟩
    | true =>
      obtain ⟨g1, g2, g3, g4⟩ := goodQ_parts HGQ.out.symm
      have HGK : Hid (goodK ⟨kd, rc, kn⟩ = true) := Lib.hid (g1 _ (by simp))
      have H60 : Hid (x1.length ≤ 59) := Lib.hid (by rw [List.length_append] at g2; simp only [List.length_cons, List.length_nil] at g2; omega)
      have HQQ : Hid (goodQ m0 x1 = true) := Lib.hid (by
        rw [goodQ, List.all_eq_true.2 (fun k hk => g1 k (List.mem_append_left _ hk)), decide_eq_true (by have := H60.out; omega), g3, decide_eq_true g4]
        rfl)
      have HRN8 : Hid (m0.rcpts.length ≤ 8) := Lib.hid (goodM_fine g3).n.2
      have HFI : Hid (∀ W, Keep (fun _ => False) W0 W → Calls Tryz.prog 10 #[.agg (mlC m0 rx0 m0.rcpts.length rc0 bx0 m0.body.length bc0), .slice a1 x1.length cap1] W (Filed m0 x1 W)) := Lib.hid (fun W k => file12C (HM.out.quiet k) rfl (mk_quiet HX.out k) HQQ.out)
      unfold mlC at HFI
      have HFd : Hid (∀ W e w', Filed m0 x1 W e w' → ∃ y n cap, n = (fileB m0 x1).length ∧ e = .returned (.slice y n cap) ∧ Gr W w' (.slice y n cap) (fileB m0 x1)) := Lib.hid (fun _ _ _ h => h)
      have HFS := Lib.hid (fileB_small HQQ.out)
      have HPF : Hid (∀ W e w', Parsed (fileB m0 x1) W e w' → PQ m0 x1 ((fileB m0 x1).length : Int) true W e w') := Lib.hid (fun W e w' h => parsed_file (r := []) HQQ.out HB8.out (by decide) (by rw [List.append_nil]; exact h))
      have HPF2 : Hid (∀ W e w', Parsed (fileB m0 x1 ++ markB ⟨kd, rc, kn⟩) W e w' → PQ m0 (x1 ++ [⟨kd, rc, kn⟩]) ((fileB m0 (x1 ++ [⟨kd, rc, kn⟩])).length : Int) true W e w') := Lib.hid (fun W e w' h => parsed_file (r := []) HGQ.out.symm HB8.out (by decide) (by
        rw [List.append_nil, fileB, flatK_append, flatK_cons, ← List.append_assoc]
        simpa [flatK, fileB] using h))
      have HMark : Hid (∀ W, Calls Tryz.prog 25 #[.agg #[.int .i64 kd, .int .i64 rc, .int .i64 kn]] W (Marked ⟨kd, rc, kn⟩ W)) := Lib.hid (fun W => refMarkC HGK.out)
      have HMb : Hid (∀ W e w', Marked ⟨kd, rc, kn⟩ W e w' → ∃ y n cap, n = 28 ∧ e = .returned (.slice y n cap) ∧ Gr W w' (.slice y n cap) (markB ⟨kd, rc, kn⟩)) := Lib.hid (fun _ _ _ h => h)
      obtain ⟨FB, hFB⟩ : ∃ FB, FB = fileB m0 x1 := ⟨_, rfl⟩
      obtain ⟨MB, hMB⟩ : ∃ MB, MB = markB ⟨kd, rc, kn⟩ := ⟨_, rfl⟩
      have HMBl : Hid (MB.length = 28) := Lib.hid (by rw [hMB, markB_length])
      rw [← hFB] at HFd HFS HPF HPF2
      rw [← hMB] at HPF2 HMb
      obtain ⟨MQ, hMQ⟩ : ∃ MQ, MQ = Marked ⟨kd, rc, kn⟩ := ⟨_, rfl⟩
      rw [← hMQ] at HMark HMb
      obtain ⟨gl2, hgl2⟩ : ∃ gl2 : Int, gl2 = ((fileB m0 (x1 ++ [⟨kd, rc, kn⟩])).length : Int) := ⟨_, rfl⟩
      rw [← hgl2] at HPF2
      clear hFB hMB hMQ hgl2 g1 g2 g3 g4
      obtain ⟨⟨c0, c1, c2, c3, c4, c5⟩, e0, e1, e2⟩ := HSC.out _ K1.out
      go_wp2_with fail
      refine (HFI.out _ K1.out).mono ?_
      rintro e u2 h2
      obtain ⟨yf, nf, cf, hnf, rfl, hGf⟩ := HFd.out _ _ _ h2
      have K2 := Lib.hid (K1.out.trans hGf.kp (fun _ _ h => h))
      have HBf := Lib.hid hGf.own.bytesO
      have HNF := Lib.hid hnf
      clear h2 hnf hGf c0 c1 c2 c3 c4 c5 e0 e1 e2
      go_wp2_with fail
      refine (parseQ (HE.out.quiet K2.out) yf nf cf FB HNF.out.symm HBf.out.2.2 (by have := HNF.out; have := HFS.out; omega) HBf.out.1).mono ?_
      rintro e u3 h3
      obtain ⟨rx, rn, rc1, bx, bn, bc, y, k, c, rfl, hQ3, hk3⟩ := HPF.out _ _ _ h3
      obtain ⟨W4, hW4, kW4, hA4, hs4⟩ := put_file u3 m0 rx rn rc1 bx bn bc y k c (FB.length : Int)
      have K4 := Lib.hid ((K2.out.trans hk3 (fun _ _ h => h)).trans kW4 (fun _ _ h => h))
      have HQ4 : Hid (QAt (fun _ => True) W4 m0 x1 rx rn rc1 bx bn bc y k c) := Lib.hid ((hQ3.quiet kW4).mono (fun _ _ _ => trivial))
      have HZ3 := Lib.hid (qz_new u3)
      have HW4 := Lib.hid hW4
      obtain ⟨G, hG⟩ : ∃ G, G = u3.heap.size := ⟨_, rfl⟩
      rw [← hG] at hA4 HZ3
      have HA4 := Lib.hid hA4
      have HGG := Lib.hid hG
      clear h3 hQ3 hk3 hW4 kW4 hA4 hs4 hG HGO
      go_upto_region 4 with (rw [← HGG.out]; refine wpList_store_row (by rfl) 31 (.tmp 7) (.tmp 29) (by rfl) G (qC m0 rx rn rc1 bx bn bc y k c (FB.length : Int)) (by rfl) (by rfl) 31 _ HZ3.out infoQ rfl (one_q _ _ _ _ _ _ _ _ _ _ _ _ _ _) ?_; rw [HGG.out, ← HW4.out, ← HGG.out])
      go_cut [9, 10] from 14 (fun a b wx => ∃ (H : Nat) (rx' : Option Addr) (rn' rc' : Nat) (bx' : Option Addr) (bn' bc' : Nat) (y' : Option Addr) (k' c' : Nat), a = .pointer (some ⟨H, 0, none⟩) ∧ b = .bool true ∧ Hid (Keep (fun _ => False) W4 wx) ∧ Hid (At wx H 31 (qC m0 rx' rn' rc' bx' bn' bc' y' k' c' gl2)) ∧ Hid (QAt (fun b => ¬ b = H) wx m0 (x1 ++ [⟨kd, rc, kn⟩]) rx' rn' rc' bx' bn' bc' y' k' c'))
      case first =>
        have kD4 : Keep (fun _ => False) W4 W4.drew := (Keep.refl _ W4).drew
        obtain ⟨⟨c0, c1, c2, c3, c4, c5⟩, e0, e1, e2⟩ := HSC.out _ (K4.out.trans kD4 (fun _ _ h => h))
        refine wp_region_noPanic ?_
        refine wp_region_held_drew (S := fun Z => Z.cell? ⟨w.heap.size, 0, none⟩ = some (.int .i64 m0.id) ∧ Z.cell? ⟨w.heap.size, 1, none⟩ = some (.int .i64 m0.parent) ∧ Z.cell? ⟨w.heap.size, 2, none⟩ = some (.int .i64 m0.born) ∧ Z.cell? ⟨w.heap.size, 3, none⟩ = some (.string m0.frm) ∧ Z.cell? ⟨w.heap.size, 4, none⟩ = some (.slice rx0 m0.rcpts.length rc0) ∧ Z.cell? ⟨w.heap.size, 5, none⟩ = some (.slice bx0 m0.body.length bc0) ∧ Z.cell? ⟨w.heap.size + 1, 0, none⟩ = some (.int .i64 kd) ∧ Z.cell? ⟨w.heap.size + 1, 1, none⟩ = some (.int .i64 rc) ∧ Z.cell? ⟨w.heap.size + 1, 2, none⟩ = some (.int .i64 kn)) (by kernel_rfl) ⟨c0, c1, c2, c3, c4, c5, e0, e1, e2⟩ (fun hHeld => ?_)
        clear c0 c1 c2 c3 c4 c5 e0 e1 e2
        refine wpAnyH_take (i := 0) (v := ?_) rfl (by kernel_rfl) (by kernel_rfl) (by kernel_rfl) (fun _ _ _ h => h) (Or.inl ⟨by rfl, ?_⟩) (by assumption) ?_
        rotate_left
        · (intro wS hSw; (try dsimp only at hSw); obtain ⟨hS1, hS2, hS3, hS4, hS5, hS6, hS7, hS8, hS9⟩ := hSw; (try simp only [List.getElem_toArray, List.getElem_cons_succ, List.getElem_cons_zero]); go_simp; try (with_reducible rfl))
        try simp only [Act.put, List.getElem_toArray, List.getElem_cons_succ, List.getElem_cons_zero, List.setIfInBounds_toArray, List.set_cons_zero, List.set_cons_succ]
        refine wpAnyH_take (i := 1) (v := ?_) rfl (by kernel_rfl) (by kernel_rfl) (by kernel_rfl) (fun _ _ _ h => h) (Or.inl ⟨by rfl, ?_⟩) (by assumption) ?_
        rotate_left
        · (intro wS hSw; (try dsimp only at hSw); obtain ⟨hS1, hS2, hS3, hS4, hS5, hS6, hS7, hS8, hS9⟩ := hSw; (try simp only [List.getElem_toArray, List.getElem_cons_succ, List.getElem_cons_zero]); go_simp; try (with_reducible rfl))
        try simp only [Act.put, List.getElem_toArray, List.getElem_cons_succ, List.getElem_cons_zero, List.setIfInBounds_toArray, List.set_cons_zero, List.set_cons_succ]
        refine wpAnyH_take (i := 3) (v := ?_) rfl (by kernel_rfl) (by kernel_rfl) (by kernel_rfl) (fun _ _ _ h => h) (Or.inl ⟨by rfl, ?_⟩) (by assumption) ?_
        rotate_left
        · (intro wS hSw; (try dsimp only at hSw); obtain ⟨hS1, hS2, hS3, hS4, hS5, hS6, hS7, hS8, hS9⟩ := hSw; (try simp only [List.getElem_toArray, List.getElem_cons_succ, List.getElem_cons_zero]); go_simp; try (with_reducible rfl))
        try simp only [Act.put, List.getElem_toArray, List.getElem_cons_succ, List.getElem_cons_zero, List.setIfInBounds_toArray, List.set_cons_zero, List.set_cons_succ]
        refine wpAnyH_ready (rs := [2, 10]) (by kernel_rfl) (by simp) ?_
        refine AllReadyH.cons rfl (fun K hK => ?_) (AllReadyH.cons rfl (fun K hK => ?_) AllReadyH.nil)
        · go_simp
          refine (HFI.out _ (K4.out.trans kD4 (fun _ _ h => h))).mono ?_
          rintro e v1x h1x
          obtain ⟨yf1, nf1, cf1, hnf1, rfl, hGf1⟩ := HFd.out _ _ _ h1x
          have k1x := kD4.trans hGf1.kp (fun _ _ h => h)
          have G1x : Hid (Gr W4 v1x (.slice yf1 nf1 cf1) FB) := Lib.hid ⟨hGf1.own, fun b hb => Nat.le_trans kD4.size (hGf1.new b hb), k1x⟩
          obtain ⟨⟨c0, c1, c2, c3, c4, c5⟩, e0, e1, e2⟩ := HSC.out _ (K4.out.trans k1x (fun _ _ h => h))
          clear h1x hnf1 hGf1
          go_wp2_with fail
          refine hK.out _ _ ⟨c0, c1, c2, c3, c4, c5, e0, e1, e2⟩ (fun hHeld => ?_)
          clear hK K
          try simp only [Act.put, List.getElem_toArray, List.getElem_cons_succ, List.getElem_cons_zero, List.setIfInBounds_toArray, List.set_cons_zero, List.set_cons_succ]
          clear c0 c1 c2 c3 c4 c5 e0 e1 e2
          refine wpAnyH_ready (rs := [4, 10]) (by kernel_rfl) (by simp) ?_
          refine AllReadyH.cons rfl (fun K hK => ?_) (AllReadyH.cons rfl (fun K hK => ?_) AllReadyH.nil)
          · go_simp
            refine (HMark.out _).mono ?_
            rintro e v2x h2x
            obtain ⟨ym2, nm2, cm2, rfl, rfl, hGm2⟩ := HMb.out _ _ _ h2x
            have k2x := k1x.trans hGm2.kp (fun _ _ h => h)
            have G2x := Lib.hid (G1x.out.quiet hGm2.kp)
            have B2x := Lib.hid hGm2.own.bytesO.1
            obtain ⟨⟨c0, c1, c2, c3, c4, c5⟩, e0, e1, e2⟩ := HSC.out _ (K4.out.trans k2x (fun _ _ h => h))
            clear h2x hGm2
            go_wp2_with fail
            refine hK.out _ _ ⟨c0, c1, c2, c3, c4, c5, e0, e1, e2⟩ (fun hHeld => ?_)
            clear hK K
            try simp only [Act.put, List.getElem_toArray, List.getElem_cons_succ, List.getElem_cons_zero, List.setIfInBounds_toArray, List.set_cons_zero, List.set_cons_succ]
            clear c0 c1 c2 c3 c4 c5 e0 e1 e2
            refine wpAnyH_ready (rs := [5, 10]) (by kernel_rfl) (by simp) ?_
            refine AllReadyH.cons rfl (fun K hK => ?_) (AllReadyH.cons rfl (fun K hK => ?_) AllReadyH.nil)
            · obtain ⟨ya3, na3, ca3, v3x, hr3, hna3, hGa3, hka3⟩ := G2x.out.app 23 _ ym2 28 cm2 MB HMBl.out B2x.out (by have := HFS.out; omega)
              refine wp_append_runB (by rfl) (by rfl) (by rfl) hr3 ?_
              have k3x := hGa3.kp
              have G3x := Lib.hid hGa3
              obtain ⟨⟨c0, c1, c2, c3, c4, c5⟩, e0, e1, e2⟩ := HSC.out _ (K4.out.trans k3x (fun _ _ h => h))
              clear hr3 hna3 hGa3 hka3
              refine hK.out _ _ ⟨c0, c1, c2, c3, c4, c5, e0, e1, e2⟩ (fun hHeld => ?_)
              clear hK K
              try simp only [Act.put, List.getElem_toArray, List.getElem_cons_succ, List.getElem_cons_zero, List.setIfInBounds_toArray, List.set_cons_zero, List.set_cons_succ]
              clear c0 c1 c2 c3 c4 c5 e0 e1 e2
              refine wpAnyH_ready (rs := [6, 10]) (by kernel_rfl) (by simp) ?_
              refine AllReadyH.cons rfl (fun K hK => ?_) (AllReadyH.cons rfl (fun K hK => ?_) AllReadyH.nil)
              · go_simp
                refine (parseQ (HE.out.quiet (K4.out.trans k3x (fun _ _ h => h))) ya3 na3 ca3 (FB ++ MB) G3x.out.own.bytesO.2.1.symm G3x.out.own.bytesO.2.2 (by have h1 := G3x.out.own.bytesO.2.1; have := HFS.out; have := HMBl.out; rw [List.length_append] at h1; omega) G3x.out.own.bytesO.1).mono ?_
                rintro e v4x h4x
                obtain ⟨rx4, rn4, rc4, bx4, bn4, bc4, y4, k4, c4, rfl, hQ4, hk4⟩ := HPF2.out _ _ _ h4x
                have k4x := k3x.trans hk4 (fun _ _ h => h)
                have Q4x : Hid (QAt (fun b => True) v4x m0 (x1 ++ [⟨kd, rc, kn⟩]) rx4 rn4 rc4 bx4 bn4 bc4 y4 k4 c4) := Lib.hid (hQ4.mono (fun _ _ _ => trivial))
                obtain ⟨⟨c0, c1, c2, c3, c4, c5⟩, e0, e1, e2⟩ := HSC.out _ (K4.out.trans k4x (fun _ _ h => h))
                clear h4x hQ4 hk4
                go_wp2_with fail
                refine hK.out _ _ ⟨c0, c1, c2, c3, c4, c5, e0, e1, e2⟩ (fun hHeld => ?_)
                clear hK K
                try simp only [Act.put, List.getElem_toArray, List.getElem_cons_succ, List.getElem_cons_zero, List.setIfInBounds_toArray, List.set_cons_zero, List.set_cons_succ]
                clear c0 c1 c2 c3 c4 c5 e0 e1 e2
                refine wpAnyH_take (i := 7) (v := ?_) rfl (by kernel_rfl) (by kernel_rfl) (by kernel_rfl) (fun _ _ _ h => h) (Or.inl ⟨by rfl, ?_⟩) (by assumption) ?_
                rotate_left
                · (intro wS hSw; (try dsimp only at hSw); obtain ⟨hS1, hS2, hS3, hS4, hS5, hS6, hS7, hS8, hS9⟩ := hSw; (try simp only [List.getElem_toArray, List.getElem_cons_succ, List.getElem_cons_zero]); go_simp; try (with_reducible rfl))
                try simp only [Act.put, List.getElem_toArray, List.getElem_cons_succ, List.getElem_cons_zero, List.setIfInBounds_toArray, List.set_cons_zero, List.set_cons_succ]
                refine wpAnyH_take (i := 8) (v := ?_) rfl (by kernel_rfl) (by kernel_rfl) (by kernel_rfl) (fun _ _ _ h => h) (Or.inl ⟨by rfl, ?_⟩) (by assumption) ?_
                rotate_left
                · (intro wS hSw; (try dsimp only at hSw); obtain ⟨hS1, hS2, hS3, hS4, hS5, hS6, hS7, hS8, hS9⟩ := hSw; (try simp only [List.getElem_toArray, List.getElem_cons_succ, List.getElem_cons_zero]); go_simp; try (with_reducible rfl))
                try simp only [Act.put, List.getElem_toArray, List.getElem_cons_succ, List.getElem_cons_zero, List.setIfInBounds_toArray, List.set_cons_zero, List.set_cons_succ]
                refine wpAnyH_take (i := 9) (v := ?_) rfl (by kernel_rfl) (by kernel_rfl) (by kernel_rfl) (fun _ _ _ h => h) (Or.inl ⟨by rfl, ?_⟩) (by assumption) ?_
                rotate_left
                · (intro wS hSw; (try dsimp only at hSw); obtain ⟨hS1, hS2, hS3, hS4, hS5, hS6, hS7, hS8, hS9⟩ := hSw; (try simp only [List.getElem_toArray, List.getElem_cons_succ, List.getElem_cons_zero]); go_simp; try (with_reducible rfl))
                try simp only [Act.put, List.getElem_toArray, List.getElem_cons_succ, List.getElem_cons_zero, List.setIfInBounds_toArray, List.set_cons_zero, List.set_cons_succ]
                refine wpAnyH_ready (rs := [10]) (by kernel_rfl) (by simp) ?_
                refine AllReadyH.cons rfl (fun K hK => ?_) AllReadyH.nil
                go_simp
                have hkz5 := keep_new v4x (.cells #[.int .i64 0, .int .i64 0, .int .i64 0, .string { data := #[] }, .slice none 0 0, .slice none 0 0, .slice none 0 0, .int .i64 0] 31)
                have k5x := k4x.trans hkz5 (fun _ _ h => h)
                have R5x : Hid (QAt (fun b => ¬ b = v4x.heap.size) v4x m0 (x1 ++ [⟨kd, rc, kn⟩]) rx4 rn4 rc4 bx4 bn4 bc4 y4 k4 c4) := Lib.hid (Q4x.out.mono (fun b hb _ e => by omega))
                have Q5x := Lib.hid (R5x.out.quiet hkz5)
                have Z5x := Lib.hid (qz_new v4x)
                obtain ⟨⟨c0, c1, c2, c3, c4, c5⟩, e0, e1, e2⟩ := HSC.out _ (K4.out.trans k5x (fun _ _ h => h))
                clear hkz5
                refine hK.out _ _ ⟨c0, c1, c2, c3, c4, c5, e0, e1, e2⟩ (fun hHeld => ?_)
                clear hK K
                try simp only [Act.put, List.getElem_toArray, List.getElem_cons_succ, List.getElem_cons_zero, List.setIfInBounds_toArray, List.set_cons_zero, List.set_cons_succ]
                clear c0 c1 c2 c3 c4 c5 e0 e1 e2
                refine wpAnyH_ready (rs := [11]) (by kernel_rfl) (by simp) ?_
                refine AllReadyH.cons rfl (fun K hK => ?_) AllReadyH.nil
                refine wp_store_row 31 (.tmp 9) (.tmp 39) (by rfl) (v4x.heap.size) (qC m0 rx4 rn4 rc4 bx4 bn4 bc4 y4 k4 c4 gl2) (by rfl) (by rfl) 31 _ Z5x.out infoQ rfl (one_q _ _ _ _ _ _ _ _ _ _ _ _ _ _) ?_
                have kS : Keep (fun b => b = v4x.heap.size) (v4x.alloc (.cells #[.int .i64 0, .int .i64 0, .int .i64 0, .string { data := #[] }, .slice none 0 0, .slice none 0 0, .slice none 0 0, .int .i64 0] 31)) ((v4x.alloc (.cells #[.int .i64 0, .int .i64 0, .int .i64 0, .string { data := #[] }, .slice none 0 0, .slice none 0 0, .slice none 0 0, .int .i64 0] 31)).setRow (v4x.heap.size) (qC m0 rx4 rn4 rc4 bx4 bn4 bc4 y4 k4 c4 gl2)) := (Keep.refl (fun b => b = v4x.heap.size) (v4x.alloc (.cells #[.int .i64 0, .int .i64 0, .int .i64 0, .string { data := #[] }, .slice none 0 0, .slice none 0 0, .slice none 0 0, .int .i64 0] 31))).setRow (fun _ => rfl) _
                have hHn : W4.heap.size ≤ v4x.heap.size := by first | exact k4x.size | (have := k4x.size; simpa using this)
                have kE : Keep (fun _ => False) W4 ((v4x.alloc (.cells #[.int .i64 0, .int .i64 0, .int .i64 0, .string { data := #[] }, .slice none 0 0, .slice none 0 0, .slice none 0 0, .int .i64 0] 31)).setRow (v4x.heap.size) (qC m0 rx4 rn4 rc4 bx4 bn4 bc4 y4 k4 c4 gl2)) := k5x.setRow (fun h => by omega) _
                have AE := Lib.hid (Z5x.out.setRow (qC m0 rx4 rn4 rc4 bx4 bn4 bc4 y4 k4 c4 gl2))
                have QE := Lib.hid (Q5x.out.keep kS (fun b _ hb e => hb e))
                obtain ⟨⟨c0, c1, c2, c3, c4, c5⟩, e0, e1, e2⟩ := HSC.out _ (K4.out.trans kE (fun _ _ h => h))
                refine hK.out _ _ ⟨c0, c1, c2, c3, c4, c5, e0, e1, e2⟩ (fun hHeld => ?_)
                clear hK K
                try simp only [Act.put, List.getElem_toArray, List.getElem_cons_succ, List.getElem_cons_zero, List.setIfInBounds_toArray, List.set_cons_zero, List.set_cons_succ]
                clear c0 c1 c2 c3 c4 c5 e0 e1 e2
                refine wpAnyH_take (i := 12) (v := ?_) rfl (by kernel_rfl) (by kernel_rfl) (by kernel_rfl) (fun _ _ _ h => h) (Or.inl ⟨by rfl, ?_⟩) (by assumption) ?_
                rotate_left
                · (intro wS hSw; (try dsimp only at hSw); obtain ⟨hS1, hS2, hS3, hS4, hS5, hS6, hS7, hS8, hS9⟩ := hSw; (try simp only [List.getElem_toArray, List.getElem_cons_succ, List.getElem_cons_zero]); go_simp; try (with_reducible rfl))
                try simp only [Act.put, List.getElem_toArray, List.getElem_cons_succ, List.getElem_cons_zero, List.setIfInBounds_toArray, List.set_cons_zero, List.set_cons_succ]
                refine wpAnyH_done (by kernel_rfl) ?_ _
                refine NoPanic.normal ?_
                go_wp2_with fail
                go_meet
                case rel => exact ⟨v4x.heap.size, rx4, rn4, rc4, bx4, bn4, bc4, y4, k4, c4, by rfl, by rfl, Lib.hid kE, AE, QE⟩

              · go_simp
                have hkz6 := keep_new v3x (.cells #[.int .i64 0, .int .i64 0, .int .i64 0, .string { data := #[] }, .slice none 0 0, .slice none 0 0, .slice none 0 0, .int .i64 0] 31)
                have k6x := k3x.trans hkz6 (fun _ _ h => h)
                have G6x := Lib.hid (G3x.out.quiet hkz6)
                have Z6x := Lib.hid (qz_new v3x)
                obtain ⟨⟨c0, c1, c2, c3, c4, c5⟩, e0, e1, e2⟩ := HSC.out _ (K4.out.trans k6x (fun _ _ h => h))
                clear hkz6
                refine hK.out _ _ ⟨c0, c1, c2, c3, c4, c5, e0, e1, e2⟩ (fun hHeld => ?_)
                clear hK K
                try simp only [Act.put, List.getElem_toArray, List.getElem_cons_succ, List.getElem_cons_zero, List.setIfInBounds_toArray, List.set_cons_zero, List.set_cons_succ]
                clear c0 c1 c2 c3 c4 c5 e0 e1 e2
                refine wpAnyH_ready (rs := [6]) (by kernel_rfl) (by simp) ?_
                refine AllReadyH.cons rfl (fun K hK => ?_) AllReadyH.nil
                go_simp
                refine (parseQ (HE.out.quiet (K4.out.trans k6x (fun _ _ h => h))) ya3 na3 ca3 (FB ++ MB) G6x.out.own.bytesO.2.1.symm G6x.out.own.bytesO.2.2 (by have h1 := G6x.out.own.bytesO.2.1; have := HFS.out; have := HMBl.out; rw [List.length_append] at h1; omega) G6x.out.own.bytesO.1).mono ?_
                rintro e v7x h7x
                obtain ⟨rx7, rn7, rc7, bx7, bn7, bc7, y7, k7, c7, rfl, hQ7, hk7⟩ := HPF2.out _ _ _ h7x
                have k7x := k6x.trans hk7 (fun _ _ h => h)
                have hzl7 := Z6x.out.lt
                have Z7x := Lib.hid (Z6x.out.keep hk7 (fun h => h))
                have Q7x : Hid (QAt (fun b => ¬ b = v3x.heap.size) v7x m0 (x1 ++ [⟨kd, rc, kn⟩]) rx7 rn7 rc7 bx7 bn7 bc7 y7 k7 c7) := Lib.hid (hQ7.mono (fun b _ hb e => by omega))
                clear hzl7
                obtain ⟨⟨c0, c1, c2, c3, c4, c5⟩, e0, e1, e2⟩ := HSC.out _ (K4.out.trans k7x (fun _ _ h => h))
                clear h7x hQ7 hk7
                go_wp2_with fail
                refine hK.out _ _ ⟨c0, c1, c2, c3, c4, c5, e0, e1, e2⟩ (fun hHeld => ?_)
                clear hK K
                try simp only [Act.put, List.getElem_toArray, List.getElem_cons_succ, List.getElem_cons_zero, List.setIfInBounds_toArray, List.set_cons_zero, List.set_cons_succ]
                clear c0 c1 c2 c3 c4 c5 e0 e1 e2
                refine wpAnyH_take (i := 7) (v := ?_) rfl (by kernel_rfl) (by kernel_rfl) (by kernel_rfl) (fun _ _ _ h => h) (Or.inl ⟨by rfl, ?_⟩) (by assumption) ?_
                rotate_left
                · (intro wS hSw; (try dsimp only at hSw); obtain ⟨hS1, hS2, hS3, hS4, hS5, hS6, hS7, hS8, hS9⟩ := hSw; (try simp only [List.getElem_toArray, List.getElem_cons_succ, List.getElem_cons_zero]); go_simp; try (with_reducible rfl))
                try simp only [Act.put, List.getElem_toArray, List.getElem_cons_succ, List.getElem_cons_zero, List.setIfInBounds_toArray, List.set_cons_zero, List.set_cons_succ]
                refine wpAnyH_take (i := 8) (v := ?_) rfl (by kernel_rfl) (by kernel_rfl) (by kernel_rfl) (fun _ _ _ h => h) (Or.inl ⟨by rfl, ?_⟩) (by assumption) ?_
                rotate_left
                · (intro wS hSw; (try dsimp only at hSw); obtain ⟨hS1, hS2, hS3, hS4, hS5, hS6, hS7, hS8, hS9⟩ := hSw; (try simp only [List.getElem_toArray, List.getElem_cons_succ, List.getElem_cons_zero]); go_simp; try (with_reducible rfl))
                try simp only [Act.put, List.getElem_toArray, List.getElem_cons_succ, List.getElem_cons_zero, List.setIfInBounds_toArray, List.set_cons_zero, List.set_cons_succ]
                refine wpAnyH_take (i := 9) (v := ?_) rfl (by kernel_rfl) (by kernel_rfl) (by kernel_rfl) (fun _ _ _ h => h) (Or.inl ⟨by rfl, ?_⟩) (by assumption) ?_
                rotate_left
                · (intro wS hSw; (try dsimp only at hSw); obtain ⟨hS1, hS2, hS3, hS4, hS5, hS6, hS7, hS8, hS9⟩ := hSw; (try simp only [List.getElem_toArray, List.getElem_cons_succ, List.getElem_cons_zero]); go_simp; try (with_reducible rfl))
                try simp only [Act.put, List.getElem_toArray, List.getElem_cons_succ, List.getElem_cons_zero, List.setIfInBounds_toArray, List.set_cons_zero, List.set_cons_succ]
                refine wpAnyH_ready (rs := [11]) (by kernel_rfl) (by simp) ?_
                refine AllReadyH.cons rfl (fun K hK => ?_) AllReadyH.nil
                refine wp_store_row 31 (.tmp 9) (.tmp 39) (by rfl) (v3x.heap.size) (qC m0 rx7 rn7 rc7 bx7 bn7 bc7 y7 k7 c7 gl2) (by rfl) (by rfl) 31 _ Z7x.out infoQ rfl (one_q _ _ _ _ _ _ _ _ _ _ _ _ _ _) ?_
                have kS : Keep (fun b => b = v3x.heap.size) v7x (v7x.setRow (v3x.heap.size) (qC m0 rx7 rn7 rc7 bx7 bn7 bc7 y7 k7 c7 gl2)) := (Keep.refl (fun b => b = v3x.heap.size) v7x).setRow (fun _ => rfl) _
                have hHn : W4.heap.size ≤ v3x.heap.size := by first | exact k3x.size | (have := k3x.size; simpa using this)
                have kE : Keep (fun _ => False) W4 (v7x.setRow (v3x.heap.size) (qC m0 rx7 rn7 rc7 bx7 bn7 bc7 y7 k7 c7 gl2)) := k7x.setRow (fun h => by omega) _
                have AE := Lib.hid (Z7x.out.setRow (qC m0 rx7 rn7 rc7 bx7 bn7 bc7 y7 k7 c7 gl2))
                have QE := Lib.hid (Q7x.out.keep kS (fun b _ hb e => hb e))
                obtain ⟨⟨c0, c1, c2, c3, c4, c5⟩, e0, e1, e2⟩ := HSC.out _ (K4.out.trans kE (fun _ _ h => h))
                refine hK.out _ _ ⟨c0, c1, c2, c3, c4, c5, e0, e1, e2⟩ (fun hHeld => ?_)
                clear hK K
                try simp only [Act.put, List.getElem_toArray, List.getElem_cons_succ, List.getElem_cons_zero, List.setIfInBounds_toArray, List.set_cons_zero, List.set_cons_succ]
                clear c0 c1 c2 c3 c4 c5 e0 e1 e2
                refine wpAnyH_take (i := 12) (v := ?_) rfl (by kernel_rfl) (by kernel_rfl) (by kernel_rfl) (fun _ _ _ h => h) (Or.inl ⟨by rfl, ?_⟩) (by assumption) ?_
                rotate_left
                · (intro wS hSw; (try dsimp only at hSw); obtain ⟨hS1, hS2, hS3, hS4, hS5, hS6, hS7, hS8, hS9⟩ := hSw; (try simp only [List.getElem_toArray, List.getElem_cons_succ, List.getElem_cons_zero]); go_simp; try (with_reducible rfl))
                try simp only [Act.put, List.getElem_toArray, List.getElem_cons_succ, List.getElem_cons_zero, List.setIfInBounds_toArray, List.set_cons_zero, List.set_cons_succ]
                refine wpAnyH_done (by kernel_rfl) ?_ _
                refine NoPanic.normal ?_
                go_wp2_with fail
                go_meet
                case rel => exact ⟨v3x.heap.size, rx7, rn7, rc7, bx7, bn7, bc7, y7, k7, c7, by rfl, by rfl, Lib.hid kE, AE, QE⟩


            · go_simp
              have hkz8 := keep_new v2x (.cells #[.int .i64 0, .int .i64 0, .int .i64 0, .string { data := #[] }, .slice none 0 0, .slice none 0 0, .slice none 0 0, .int .i64 0] 31)
              have k8x := k2x.trans hkz8 (fun _ _ h => h)
              have G8x := Lib.hid (G2x.out.quiet hkz8)
              have B8x := Lib.hid (B2x.out.quiet hkz8)
              have Z8x := Lib.hid (qz_new v2x)
              obtain ⟨⟨c0, c1, c2, c3, c4, c5⟩, e0, e1, e2⟩ := HSC.out _ (K4.out.trans k8x (fun _ _ h => h))
              clear hkz8
              refine hK.out _ _ ⟨c0, c1, c2, c3, c4, c5, e0, e1, e2⟩ (fun hHeld => ?_)
              clear hK K
              try simp only [Act.put, List.getElem_toArray, List.getElem_cons_succ, List.getElem_cons_zero, List.setIfInBounds_toArray, List.set_cons_zero, List.set_cons_succ]
              clear c0 c1 c2 c3 c4 c5 e0 e1 e2
              refine wpAnyH_ready (rs := [5]) (by kernel_rfl) (by simp) ?_
              refine AllReadyH.cons rfl (fun K hK => ?_) AllReadyH.nil
              obtain ⟨ya9, na9, ca9, v9x, hr9, hna9, hGa9, hka9⟩ := G8x.out.app 23 _ ym2 28 cm2 MB HMBl.out B8x.out (by have := HFS.out; omega)
              refine wp_append_runB (by rfl) (by rfl) (by rfl) hr9 ?_
              have k9x := hGa9.kp
              have Z9x := Lib.hid (Z8x.out.keep hka9 (fun e => G8x.out.own.ne Z8x.out (by decide) e))
              have G9x := Lib.hid hGa9
              obtain ⟨⟨c0, c1, c2, c3, c4, c5⟩, e0, e1, e2⟩ := HSC.out _ (K4.out.trans k9x (fun _ _ h => h))
              clear hr9 hna9 hGa9 hka9
              refine hK.out _ _ ⟨c0, c1, c2, c3, c4, c5, e0, e1, e2⟩ (fun hHeld => ?_)
              clear hK K
              try simp only [Act.put, List.getElem_toArray, List.getElem_cons_succ, List.getElem_cons_zero, List.setIfInBounds_toArray, List.set_cons_zero, List.set_cons_succ]
              clear c0 c1 c2 c3 c4 c5 e0 e1 e2
              refine wpAnyH_ready (rs := [6]) (by kernel_rfl) (by simp) ?_
              refine AllReadyH.cons rfl (fun K hK => ?_) AllReadyH.nil
              go_simp
              refine (parseQ (HE.out.quiet (K4.out.trans k9x (fun _ _ h => h))) ya9 na9 ca9 (FB ++ MB) G9x.out.own.bytesO.2.1.symm G9x.out.own.bytesO.2.2 (by have h1 := G9x.out.own.bytesO.2.1; have := HFS.out; have := HMBl.out; rw [List.length_append] at h1; omega) G9x.out.own.bytesO.1).mono ?_
              rintro e v10x h10x
              obtain ⟨rx10, rn10, rc10, bx10, bn10, bc10, y10, k10, c10, rfl, hQ10, hk10⟩ := HPF2.out _ _ _ h10x
              have k10x := k9x.trans hk10 (fun _ _ h => h)
              have hzl10 := Z9x.out.lt
              have Z10x := Lib.hid (Z9x.out.keep hk10 (fun h => h))
              have Q10x : Hid (QAt (fun b => ¬ b = v2x.heap.size) v10x m0 (x1 ++ [⟨kd, rc, kn⟩]) rx10 rn10 rc10 bx10 bn10 bc10 y10 k10 c10) := Lib.hid (hQ10.mono (fun b _ hb e => by omega))
              clear hzl10
              obtain ⟨⟨c0, c1, c2, c3, c4, c5⟩, e0, e1, e2⟩ := HSC.out _ (K4.out.trans k10x (fun _ _ h => h))
              clear h10x hQ10 hk10
              go_wp2_with fail
              refine hK.out _ _ ⟨c0, c1, c2, c3, c4, c5, e0, e1, e2⟩ (fun hHeld => ?_)
              clear hK K
              try simp only [Act.put, List.getElem_toArray, List.getElem_cons_succ, List.getElem_cons_zero, List.setIfInBounds_toArray, List.set_cons_zero, List.set_cons_succ]
              clear c0 c1 c2 c3 c4 c5 e0 e1 e2
              refine wpAnyH_take (i := 7) (v := ?_) rfl (by kernel_rfl) (by kernel_rfl) (by kernel_rfl) (fun _ _ _ h => h) (Or.inl ⟨by rfl, ?_⟩) (by assumption) ?_
              rotate_left
              · (intro wS hSw; (try dsimp only at hSw); obtain ⟨hS1, hS2, hS3, hS4, hS5, hS6, hS7, hS8, hS9⟩ := hSw; (try simp only [List.getElem_toArray, List.getElem_cons_succ, List.getElem_cons_zero]); go_simp; try (with_reducible rfl))
              try simp only [Act.put, List.getElem_toArray, List.getElem_cons_succ, List.getElem_cons_zero, List.setIfInBounds_toArray, List.set_cons_zero, List.set_cons_succ]
              refine wpAnyH_take (i := 8) (v := ?_) rfl (by kernel_rfl) (by kernel_rfl) (by kernel_rfl) (fun _ _ _ h => h) (Or.inl ⟨by rfl, ?_⟩) (by assumption) ?_
              rotate_left
              · (intro wS hSw; (try dsimp only at hSw); obtain ⟨hS1, hS2, hS3, hS4, hS5, hS6, hS7, hS8, hS9⟩ := hSw; (try simp only [List.getElem_toArray, List.getElem_cons_succ, List.getElem_cons_zero]); go_simp; try (with_reducible rfl))
              try simp only [Act.put, List.getElem_toArray, List.getElem_cons_succ, List.getElem_cons_zero, List.setIfInBounds_toArray, List.set_cons_zero, List.set_cons_succ]
              refine wpAnyH_take (i := 9) (v := ?_) rfl (by kernel_rfl) (by kernel_rfl) (by kernel_rfl) (fun _ _ _ h => h) (Or.inl ⟨by rfl, ?_⟩) (by assumption) ?_
              rotate_left
              · (intro wS hSw; (try dsimp only at hSw); obtain ⟨hS1, hS2, hS3, hS4, hS5, hS6, hS7, hS8, hS9⟩ := hSw; (try simp only [List.getElem_toArray, List.getElem_cons_succ, List.getElem_cons_zero]); go_simp; try (with_reducible rfl))
              try simp only [Act.put, List.getElem_toArray, List.getElem_cons_succ, List.getElem_cons_zero, List.setIfInBounds_toArray, List.set_cons_zero, List.set_cons_succ]
              refine wpAnyH_ready (rs := [11]) (by kernel_rfl) (by simp) ?_
              refine AllReadyH.cons rfl (fun K hK => ?_) AllReadyH.nil
              refine wp_store_row 31 (.tmp 9) (.tmp 39) (by rfl) (v2x.heap.size) (qC m0 rx10 rn10 rc10 bx10 bn10 bc10 y10 k10 c10 gl2) (by rfl) (by rfl) 31 _ Z10x.out infoQ rfl (one_q _ _ _ _ _ _ _ _ _ _ _ _ _ _) ?_
              have kS : Keep (fun b => b = v2x.heap.size) v10x (v10x.setRow (v2x.heap.size) (qC m0 rx10 rn10 rc10 bx10 bn10 bc10 y10 k10 c10 gl2)) := (Keep.refl (fun b => b = v2x.heap.size) v10x).setRow (fun _ => rfl) _
              have hHn : W4.heap.size ≤ v2x.heap.size := by first | exact k2x.size | (have := k2x.size; simpa using this)
              have kE : Keep (fun _ => False) W4 (v10x.setRow (v2x.heap.size) (qC m0 rx10 rn10 rc10 bx10 bn10 bc10 y10 k10 c10 gl2)) := k10x.setRow (fun h => by omega) _
              have AE := Lib.hid (Z10x.out.setRow (qC m0 rx10 rn10 rc10 bx10 bn10 bc10 y10 k10 c10 gl2))
              have QE := Lib.hid (Q10x.out.keep kS (fun b _ hb e => hb e))
              obtain ⟨⟨c0, c1, c2, c3, c4, c5⟩, e0, e1, e2⟩ := HSC.out _ (K4.out.trans kE (fun _ _ h => h))
              refine hK.out _ _ ⟨c0, c1, c2, c3, c4, c5, e0, e1, e2⟩ (fun hHeld => ?_)
              clear hK K
              try simp only [Act.put, List.getElem_toArray, List.getElem_cons_succ, List.getElem_cons_zero, List.setIfInBounds_toArray, List.set_cons_zero, List.set_cons_succ]
              clear c0 c1 c2 c3 c4 c5 e0 e1 e2
              refine wpAnyH_take (i := 12) (v := ?_) rfl (by kernel_rfl) (by kernel_rfl) (by kernel_rfl) (fun _ _ _ h => h) (Or.inl ⟨by rfl, ?_⟩) (by assumption) ?_
              rotate_left
              · (intro wS hSw; (try dsimp only at hSw); obtain ⟨hS1, hS2, hS3, hS4, hS5, hS6, hS7, hS8, hS9⟩ := hSw; (try simp only [List.getElem_toArray, List.getElem_cons_succ, List.getElem_cons_zero]); go_simp; try (with_reducible rfl))
              try simp only [Act.put, List.getElem_toArray, List.getElem_cons_succ, List.getElem_cons_zero, List.setIfInBounds_toArray, List.set_cons_zero, List.set_cons_succ]
              refine wpAnyH_done (by kernel_rfl) ?_ _
              refine NoPanic.normal ?_
              go_wp2_with fail
              go_meet
              case rel => exact ⟨v2x.heap.size, rx10, rn10, rc10, bx10, bn10, bc10, y10, k10, c10, by rfl, by rfl, Lib.hid kE, AE, QE⟩


          · go_simp
            have hkz11 := keep_new v1x (.cells #[.int .i64 0, .int .i64 0, .int .i64 0, .string { data := #[] }, .slice none 0 0, .slice none 0 0, .slice none 0 0, .int .i64 0] 31)
            have k11x := k1x.trans hkz11 (fun _ _ h => h)
            have G11x := Lib.hid (G1x.out.quiet hkz11)
            have Z11x := Lib.hid (qz_new v1x)
            obtain ⟨⟨c0, c1, c2, c3, c4, c5⟩, e0, e1, e2⟩ := HSC.out _ (K4.out.trans k11x (fun _ _ h => h))
            clear hkz11
            refine hK.out _ _ ⟨c0, c1, c2, c3, c4, c5, e0, e1, e2⟩ (fun hHeld => ?_)
            clear hK K
            try simp only [Act.put, List.getElem_toArray, List.getElem_cons_succ, List.getElem_cons_zero, List.setIfInBounds_toArray, List.set_cons_zero, List.set_cons_succ]
            clear c0 c1 c2 c3 c4 c5 e0 e1 e2
            refine wpAnyH_ready (rs := [4]) (by kernel_rfl) (by simp) ?_
            refine AllReadyH.cons rfl (fun K hK => ?_) AllReadyH.nil
            go_simp
            refine (HMark.out _).mono ?_
            rintro e v12x h12x
            obtain ⟨ym12, nm12, cm12, rfl, rfl, hGm12⟩ := HMb.out _ _ _ h12x
            have k12x := k11x.trans hGm12.kp (fun _ _ h => h)
            have G12x := Lib.hid (G11x.out.quiet hGm12.kp)
            have Z12x := Lib.hid (Z11x.out.keep hGm12.kp (fun h => h))
            have B12x := Lib.hid hGm12.own.bytesO.1
            obtain ⟨⟨c0, c1, c2, c3, c4, c5⟩, e0, e1, e2⟩ := HSC.out _ (K4.out.trans k12x (fun _ _ h => h))
            clear h12x hGm12
            go_wp2_with fail
            refine hK.out _ _ ⟨c0, c1, c2, c3, c4, c5, e0, e1, e2⟩ (fun hHeld => ?_)
            clear hK K
            try simp only [Act.put, List.getElem_toArray, List.getElem_cons_succ, List.getElem_cons_zero, List.setIfInBounds_toArray, List.set_cons_zero, List.set_cons_succ]
            clear c0 c1 c2 c3 c4 c5 e0 e1 e2
            refine wpAnyH_ready (rs := [5]) (by kernel_rfl) (by simp) ?_
            refine AllReadyH.cons rfl (fun K hK => ?_) AllReadyH.nil
            obtain ⟨ya13, na13, ca13, v13x, hr13, hna13, hGa13, hka13⟩ := G12x.out.app 23 _ ym12 28 cm12 MB HMBl.out B12x.out (by have := HFS.out; omega)
            refine wp_append_runB (by rfl) (by rfl) (by rfl) hr13 ?_
            have k13x := hGa13.kp
            have Z13x := Lib.hid (Z12x.out.keep hka13 (fun e => G12x.out.own.ne Z12x.out (by decide) e))
            have G13x := Lib.hid hGa13
            obtain ⟨⟨c0, c1, c2, c3, c4, c5⟩, e0, e1, e2⟩ := HSC.out _ (K4.out.trans k13x (fun _ _ h => h))
            clear hr13 hna13 hGa13 hka13
            refine hK.out _ _ ⟨c0, c1, c2, c3, c4, c5, e0, e1, e2⟩ (fun hHeld => ?_)
            clear hK K
            try simp only [Act.put, List.getElem_toArray, List.getElem_cons_succ, List.getElem_cons_zero, List.setIfInBounds_toArray, List.set_cons_zero, List.set_cons_succ]
            clear c0 c1 c2 c3 c4 c5 e0 e1 e2
            refine wpAnyH_ready (rs := [6]) (by kernel_rfl) (by simp) ?_
            refine AllReadyH.cons rfl (fun K hK => ?_) AllReadyH.nil
            go_simp
            refine (parseQ (HE.out.quiet (K4.out.trans k13x (fun _ _ h => h))) ya13 na13 ca13 (FB ++ MB) G13x.out.own.bytesO.2.1.symm G13x.out.own.bytesO.2.2 (by have h1 := G13x.out.own.bytesO.2.1; have := HFS.out; have := HMBl.out; rw [List.length_append] at h1; omega) G13x.out.own.bytesO.1).mono ?_
            rintro e v14x h14x
            obtain ⟨rx14, rn14, rc14, bx14, bn14, bc14, y14, k14, c14, rfl, hQ14, hk14⟩ := HPF2.out _ _ _ h14x
            have k14x := k13x.trans hk14 (fun _ _ h => h)
            have hzl14 := Z13x.out.lt
            have Z14x := Lib.hid (Z13x.out.keep hk14 (fun h => h))
            have Q14x : Hid (QAt (fun b => ¬ b = v1x.heap.size) v14x m0 (x1 ++ [⟨kd, rc, kn⟩]) rx14 rn14 rc14 bx14 bn14 bc14 y14 k14 c14) := Lib.hid (hQ14.mono (fun b _ hb e => by omega))
            clear hzl14
            obtain ⟨⟨c0, c1, c2, c3, c4, c5⟩, e0, e1, e2⟩ := HSC.out _ (K4.out.trans k14x (fun _ _ h => h))
            clear h14x hQ14 hk14
            go_wp2_with fail
            refine hK.out _ _ ⟨c0, c1, c2, c3, c4, c5, e0, e1, e2⟩ (fun hHeld => ?_)
            clear hK K
            try simp only [Act.put, List.getElem_toArray, List.getElem_cons_succ, List.getElem_cons_zero, List.setIfInBounds_toArray, List.set_cons_zero, List.set_cons_succ]
            clear c0 c1 c2 c3 c4 c5 e0 e1 e2
            refine wpAnyH_take (i := 7) (v := ?_) rfl (by kernel_rfl) (by kernel_rfl) (by kernel_rfl) (fun _ _ _ h => h) (Or.inl ⟨by rfl, ?_⟩) (by assumption) ?_
            rotate_left
            · (intro wS hSw; (try dsimp only at hSw); obtain ⟨hS1, hS2, hS3, hS4, hS5, hS6, hS7, hS8, hS9⟩ := hSw; (try simp only [List.getElem_toArray, List.getElem_cons_succ, List.getElem_cons_zero]); go_simp; try (with_reducible rfl))
            try simp only [Act.put, List.getElem_toArray, List.getElem_cons_succ, List.getElem_cons_zero, List.setIfInBounds_toArray, List.set_cons_zero, List.set_cons_succ]
            refine wpAnyH_take (i := 8) (v := ?_) rfl (by kernel_rfl) (by kernel_rfl) (by kernel_rfl) (fun _ _ _ h => h) (Or.inl ⟨by rfl, ?_⟩) (by assumption) ?_
            rotate_left
            · (intro wS hSw; (try dsimp only at hSw); obtain ⟨hS1, hS2, hS3, hS4, hS5, hS6, hS7, hS8, hS9⟩ := hSw; (try simp only [List.getElem_toArray, List.getElem_cons_succ, List.getElem_cons_zero]); go_simp; try (with_reducible rfl))
            try simp only [Act.put, List.getElem_toArray, List.getElem_cons_succ, List.getElem_cons_zero, List.setIfInBounds_toArray, List.set_cons_zero, List.set_cons_succ]
            refine wpAnyH_take (i := 9) (v := ?_) rfl (by kernel_rfl) (by kernel_rfl) (by kernel_rfl) (fun _ _ _ h => h) (Or.inl ⟨by rfl, ?_⟩) (by assumption) ?_
            rotate_left
            · (intro wS hSw; (try dsimp only at hSw); obtain ⟨hS1, hS2, hS3, hS4, hS5, hS6, hS7, hS8, hS9⟩ := hSw; (try simp only [List.getElem_toArray, List.getElem_cons_succ, List.getElem_cons_zero]); go_simp; try (with_reducible rfl))
            try simp only [Act.put, List.getElem_toArray, List.getElem_cons_succ, List.getElem_cons_zero, List.setIfInBounds_toArray, List.set_cons_zero, List.set_cons_succ]
            refine wpAnyH_ready (rs := [11]) (by kernel_rfl) (by simp) ?_
            refine AllReadyH.cons rfl (fun K hK => ?_) AllReadyH.nil
            refine wp_store_row 31 (.tmp 9) (.tmp 39) (by rfl) (v1x.heap.size) (qC m0 rx14 rn14 rc14 bx14 bn14 bc14 y14 k14 c14 gl2) (by rfl) (by rfl) 31 _ Z14x.out infoQ rfl (one_q _ _ _ _ _ _ _ _ _ _ _ _ _ _) ?_
            have kS : Keep (fun b => b = v1x.heap.size) v14x (v14x.setRow (v1x.heap.size) (qC m0 rx14 rn14 rc14 bx14 bn14 bc14 y14 k14 c14 gl2)) := (Keep.refl (fun b => b = v1x.heap.size) v14x).setRow (fun _ => rfl) _
            have hHn : W4.heap.size ≤ v1x.heap.size := by first | exact k1x.size | (have := k1x.size; simpa using this)
            have kE : Keep (fun _ => False) W4 (v14x.setRow (v1x.heap.size) (qC m0 rx14 rn14 rc14 bx14 bn14 bc14 y14 k14 c14 gl2)) := k14x.setRow (fun h => by omega) _
            have AE := Lib.hid (Z14x.out.setRow (qC m0 rx14 rn14 rc14 bx14 bn14 bc14 y14 k14 c14 gl2))
            have QE := Lib.hid (Q14x.out.keep kS (fun b _ hb e => hb e))
            obtain ⟨⟨c0, c1, c2, c3, c4, c5⟩, e0, e1, e2⟩ := HSC.out _ (K4.out.trans kE (fun _ _ h => h))
            refine hK.out _ _ ⟨c0, c1, c2, c3, c4, c5, e0, e1, e2⟩ (fun hHeld => ?_)
            clear hK K
            try simp only [Act.put, List.getElem_toArray, List.getElem_cons_succ, List.getElem_cons_zero, List.setIfInBounds_toArray, List.set_cons_zero, List.set_cons_succ]
            clear c0 c1 c2 c3 c4 c5 e0 e1 e2
            refine wpAnyH_take (i := 12) (v := ?_) rfl (by kernel_rfl) (by kernel_rfl) (by kernel_rfl) (fun _ _ _ h => h) (Or.inl ⟨by rfl, ?_⟩) (by assumption) ?_
            rotate_left
            · (intro wS hSw; (try dsimp only at hSw); obtain ⟨hS1, hS2, hS3, hS4, hS5, hS6, hS7, hS8, hS9⟩ := hSw; (try simp only [List.getElem_toArray, List.getElem_cons_succ, List.getElem_cons_zero]); go_simp; try (with_reducible rfl))
            try simp only [Act.put, List.getElem_toArray, List.getElem_cons_succ, List.getElem_cons_zero, List.setIfInBounds_toArray, List.set_cons_zero, List.set_cons_succ]
            refine wpAnyH_done (by kernel_rfl) ?_ _
            refine NoPanic.normal ?_
            go_wp2_with fail
            go_meet
            case rel => exact ⟨v1x.heap.size, rx14, rn14, rc14, bx14, bn14, bc14, y14, k14, c14, by rfl, by rfl, Lib.hid kE, AE, QE⟩


        · go_simp
          have hkz15 := keep_new W4.drew (.cells #[.int .i64 0, .int .i64 0, .int .i64 0, .string { data := #[] }, .slice none 0 0, .slice none 0 0, .slice none 0 0, .int .i64 0] 31)
          have k15x := kD4.trans hkz15 (fun _ _ h => h)
          have Z15x := Lib.hid (qz_new W4.drew)
          obtain ⟨⟨c0, c1, c2, c3, c4, c5⟩, e0, e1, e2⟩ := HSC.out _ (K4.out.trans k15x (fun _ _ h => h))
          clear hkz15
          refine hK.out _ _ ⟨c0, c1, c2, c3, c4, c5, e0, e1, e2⟩ (fun hHeld => ?_)
          clear hK K
          try simp only [Act.put, List.getElem_toArray, List.getElem_cons_succ, List.getElem_cons_zero, List.setIfInBounds_toArray, List.set_cons_zero, List.set_cons_succ]
          clear c0 c1 c2 c3 c4 c5 e0 e1 e2
          refine wpAnyH_ready (rs := [2]) (by kernel_rfl) (by simp) ?_
          refine AllReadyH.cons rfl (fun K hK => ?_) AllReadyH.nil
          go_simp
          refine (HFI.out _ (K4.out.trans k15x (fun _ _ h => h))).mono ?_
          rintro e v16x h16x
          obtain ⟨yf16, nf16, cf16, hnf16, rfl, hGf16⟩ := HFd.out _ _ _ h16x
          have k16x := k15x.trans hGf16.kp (fun _ _ h => h)
          have Z16x := Lib.hid (Z15x.out.keep hGf16.kp (fun h => h))
          have G16x : Hid (Gr W4 v16x (.slice yf16 nf16 cf16) FB) := Lib.hid ⟨hGf16.own, fun b hb => Nat.le_trans k15x.size (hGf16.new b hb), k16x⟩
          obtain ⟨⟨c0, c1, c2, c3, c4, c5⟩, e0, e1, e2⟩ := HSC.out _ (K4.out.trans k16x (fun _ _ h => h))
          clear h16x hnf16 hGf16
          go_wp2_with fail
          refine hK.out _ _ ⟨c0, c1, c2, c3, c4, c5, e0, e1, e2⟩ (fun hHeld => ?_)
          clear hK K
          try simp only [Act.put, List.getElem_toArray, List.getElem_cons_succ, List.getElem_cons_zero, List.setIfInBounds_toArray, List.set_cons_zero, List.set_cons_succ]
          clear c0 c1 c2 c3 c4 c5 e0 e1 e2
          refine wpAnyH_ready (rs := [4]) (by kernel_rfl) (by simp) ?_
          refine AllReadyH.cons rfl (fun K hK => ?_) AllReadyH.nil
          go_simp
          refine (HMark.out _).mono ?_
          rintro e v17x h17x
          obtain ⟨ym17, nm17, cm17, rfl, rfl, hGm17⟩ := HMb.out _ _ _ h17x
          have k17x := k16x.trans hGm17.kp (fun _ _ h => h)
          have G17x := Lib.hid (G16x.out.quiet hGm17.kp)
          have Z17x := Lib.hid (Z16x.out.keep hGm17.kp (fun h => h))
          have B17x := Lib.hid hGm17.own.bytesO.1
          obtain ⟨⟨c0, c1, c2, c3, c4, c5⟩, e0, e1, e2⟩ := HSC.out _ (K4.out.trans k17x (fun _ _ h => h))
          clear h17x hGm17
          go_wp2_with fail
          refine hK.out _ _ ⟨c0, c1, c2, c3, c4, c5, e0, e1, e2⟩ (fun hHeld => ?_)
          clear hK K
          try simp only [Act.put, List.getElem_toArray, List.getElem_cons_succ, List.getElem_cons_zero, List.setIfInBounds_toArray, List.set_cons_zero, List.set_cons_succ]
          clear c0 c1 c2 c3 c4 c5 e0 e1 e2
          refine wpAnyH_ready (rs := [5]) (by kernel_rfl) (by simp) ?_
          refine AllReadyH.cons rfl (fun K hK => ?_) AllReadyH.nil
          obtain ⟨ya18, na18, ca18, v18x, hr18, hna18, hGa18, hka18⟩ := G17x.out.app 23 _ ym17 28 cm17 MB HMBl.out B17x.out (by have := HFS.out; omega)
          refine wp_append_runB (by rfl) (by rfl) (by rfl) hr18 ?_
          have k18x := hGa18.kp
          have Z18x := Lib.hid (Z17x.out.keep hka18 (fun e => G17x.out.own.ne Z17x.out (by decide) e))
          have G18x := Lib.hid hGa18
          obtain ⟨⟨c0, c1, c2, c3, c4, c5⟩, e0, e1, e2⟩ := HSC.out _ (K4.out.trans k18x (fun _ _ h => h))
          clear hr18 hna18 hGa18 hka18
          refine hK.out _ _ ⟨c0, c1, c2, c3, c4, c5, e0, e1, e2⟩ (fun hHeld => ?_)
          clear hK K
          try simp only [Act.put, List.getElem_toArray, List.getElem_cons_succ, List.getElem_cons_zero, List.setIfInBounds_toArray, List.set_cons_zero, List.set_cons_succ]
          clear c0 c1 c2 c3 c4 c5 e0 e1 e2
          refine wpAnyH_ready (rs := [6]) (by kernel_rfl) (by simp) ?_
          refine AllReadyH.cons rfl (fun K hK => ?_) AllReadyH.nil
          go_simp
          refine (parseQ (HE.out.quiet (K4.out.trans k18x (fun _ _ h => h))) ya18 na18 ca18 (FB ++ MB) G18x.out.own.bytesO.2.1.symm G18x.out.own.bytesO.2.2 (by have h1 := G18x.out.own.bytesO.2.1; have := HFS.out; have := HMBl.out; rw [List.length_append] at h1; omega) G18x.out.own.bytesO.1).mono ?_
          rintro e v19x h19x
          obtain ⟨rx19, rn19, rc19, bx19, bn19, bc19, y19, k19, c19, rfl, hQ19, hk19⟩ := HPF2.out _ _ _ h19x
          have k19x := k18x.trans hk19 (fun _ _ h => h)
          have hzl19 := Z18x.out.lt
          have Z19x := Lib.hid (Z18x.out.keep hk19 (fun h => h))
          have Q19x : Hid (QAt (fun b => ¬ b = W4.drew.heap.size) v19x m0 (x1 ++ [⟨kd, rc, kn⟩]) rx19 rn19 rc19 bx19 bn19 bc19 y19 k19 c19) := Lib.hid (hQ19.mono (fun b _ hb e => by omega))
          clear hzl19
          obtain ⟨⟨c0, c1, c2, c3, c4, c5⟩, e0, e1, e2⟩ := HSC.out _ (K4.out.trans k19x (fun _ _ h => h))
          clear h19x hQ19 hk19
          go_wp2_with fail
          refine hK.out _ _ ⟨c0, c1, c2, c3, c4, c5, e0, e1, e2⟩ (fun hHeld => ?_)
          clear hK K
          try simp only [Act.put, List.getElem_toArray, List.getElem_cons_succ, List.getElem_cons_zero, List.setIfInBounds_toArray, List.set_cons_zero, List.set_cons_succ]
          clear c0 c1 c2 c3 c4 c5 e0 e1 e2
          refine wpAnyH_take (i := 7) (v := ?_) rfl (by kernel_rfl) (by kernel_rfl) (by kernel_rfl) (fun _ _ _ h => h) (Or.inl ⟨by rfl, ?_⟩) (by assumption) ?_
          rotate_left
          · (intro wS hSw; (try dsimp only at hSw); obtain ⟨hS1, hS2, hS3, hS4, hS5, hS6, hS7, hS8, hS9⟩ := hSw; (try simp only [List.getElem_toArray, List.getElem_cons_succ, List.getElem_cons_zero]); go_simp; try (with_reducible rfl))
          try simp only [Act.put, List.getElem_toArray, List.getElem_cons_succ, List.getElem_cons_zero, List.setIfInBounds_toArray, List.set_cons_zero, List.set_cons_succ]
          refine wpAnyH_take (i := 8) (v := ?_) rfl (by kernel_rfl) (by kernel_rfl) (by kernel_rfl) (fun _ _ _ h => h) (Or.inl ⟨by rfl, ?_⟩) (by assumption) ?_
          rotate_left
          · (intro wS hSw; (try dsimp only at hSw); obtain ⟨hS1, hS2, hS3, hS4, hS5, hS6, hS7, hS8, hS9⟩ := hSw; (try simp only [List.getElem_toArray, List.getElem_cons_succ, List.getElem_cons_zero]); go_simp; try (with_reducible rfl))
          try simp only [Act.put, List.getElem_toArray, List.getElem_cons_succ, List.getElem_cons_zero, List.setIfInBounds_toArray, List.set_cons_zero, List.set_cons_succ]
          refine wpAnyH_take (i := 9) (v := ?_) rfl (by kernel_rfl) (by kernel_rfl) (by kernel_rfl) (fun _ _ _ h => h) (Or.inl ⟨by rfl, ?_⟩) (by assumption) ?_
          rotate_left
          · (intro wS hSw; (try dsimp only at hSw); obtain ⟨hS1, hS2, hS3, hS4, hS5, hS6, hS7, hS8, hS9⟩ := hSw; (try simp only [List.getElem_toArray, List.getElem_cons_succ, List.getElem_cons_zero]); go_simp; try (with_reducible rfl))
          try simp only [Act.put, List.getElem_toArray, List.getElem_cons_succ, List.getElem_cons_zero, List.setIfInBounds_toArray, List.set_cons_zero, List.set_cons_succ]
          refine wpAnyH_ready (rs := [11]) (by kernel_rfl) (by simp) ?_
          refine AllReadyH.cons rfl (fun K hK => ?_) AllReadyH.nil
          refine wp_store_row 31 (.tmp 9) (.tmp 39) (by rfl) (W4.heap.size) (qC m0 rx19 rn19 rc19 bx19 bn19 bc19 y19 k19 c19 gl2) (by rfl) (by rfl) 31 _ Z19x.out infoQ rfl (one_q _ _ _ _ _ _ _ _ _ _ _ _ _ _) ?_
          have kS : Keep (fun b => b = W4.heap.size) v19x (v19x.setRow (W4.heap.size) (qC m0 rx19 rn19 rc19 bx19 bn19 bc19 y19 k19 c19 gl2)) := (Keep.refl (fun b => b = W4.heap.size) v19x).setRow (fun _ => rfl) _
          have hHn : W4.heap.size ≤ W4.heap.size := by first | exact kD4.size | (have := kD4.size; simpa using this)
          have kE : Keep (fun _ => False) W4 (v19x.setRow (W4.heap.size) (qC m0 rx19 rn19 rc19 bx19 bn19 bc19 y19 k19 c19 gl2)) := k19x.setRow (fun h => by omega) _
          have AE := Lib.hid (Z19x.out.setRow (qC m0 rx19 rn19 rc19 bx19 bn19 bc19 y19 k19 c19 gl2))
          have QE := Lib.hid (Q19x.out.keep kS (fun b _ hb e => hb e))
          obtain ⟨⟨c0, c1, c2, c3, c4, c5⟩, e0, e1, e2⟩ := HSC.out _ (K4.out.trans kE (fun _ _ h => h))
          refine hK.out _ _ ⟨c0, c1, c2, c3, c4, c5, e0, e1, e2⟩ (fun hHeld => ?_)
          clear hK K
          try simp only [Act.put, List.getElem_toArray, List.getElem_cons_succ, List.getElem_cons_zero, List.setIfInBounds_toArray, List.set_cons_zero, List.set_cons_succ]
          clear c0 c1 c2 c3 c4 c5 e0 e1 e2
          refine wpAnyH_take (i := 12) (v := ?_) rfl (by kernel_rfl) (by kernel_rfl) (by kernel_rfl) (fun _ _ _ h => h) (Or.inl ⟨by rfl, ?_⟩) (by assumption) ?_
          rotate_left
          · (intro wS hSw; (try dsimp only at hSw); obtain ⟨hS1, hS2, hS3, hS4, hS5, hS6, hS7, hS8, hS9⟩ := hSw; (try simp only [List.getElem_toArray, List.getElem_cons_succ, List.getElem_cons_zero]); go_simp; try (with_reducible rfl))
          try simp only [Act.put, List.getElem_toArray, List.getElem_cons_succ, List.getElem_cons_zero, List.setIfInBounds_toArray, List.set_cons_zero, List.set_cons_succ]
          refine wpAnyH_done (by kernel_rfl) ?_ _
          refine NoPanic.normal ?_
          go_wp2_with fail
          go_meet
          case rel => exact ⟨W4.heap.size, rx19, rn19, rc19, bx19, bn19, bc19, y19, k19, c19, by rfl, by rfl, Lib.hid kE, AE, QE⟩
      case rest =>
        obtain ⟨H, rx', rn', rc', bx', bn', bc', y', k', c', rfl, rfl, K5, HA5, HQ5⟩ := hcut
        have hrn : rn = m0.rcpts.length := HQ4.out.ml.hrn
        have hrn' : rn' = m0.rcpts.length := HQ5.out.ml.hrn
        subst hrn hrn'
        have hk60 : k ≤ 1000000000 := by have := HQ4.out.hk; have := H60.out; omega
        have hk60' : k' ≤ 1000000000 := by have h := HQ5.out.hk; rw [List.length_append] at h; simp only [List.length_cons, List.length_nil] at h; have := H60.out; omega
        have HFA : Hid (∀ Z, Keep (fun _ => False) wc Z → Calls Tryz.prog 18 #[.agg (qC m0 rx m0.rcpts.length rc1 bx bn bc y k c (FB.length : Int))] Z (FatP m0.rcpts.length x1 Z)) := Lib.hid (fun Z kk => fatesQ _ (HQ4.out.quiet (K5.out.trans kk (fun _ _ h => h))) hk60 HRN8.out)
        have HFB : Hid (∀ Z, Keep (fun _ => False) wc Z → Calls Tryz.prog 18 #[.agg (qC m0 rx' m0.rcpts.length rc' bx' bn' bc' y' k' c' gl2)] Z (FatP m0.rcpts.length (x1 ++ [⟨kd, rc, kn⟩]) Z)) := Lib.hid (fun Z kk => fatesQ _ (HQ5.out.quiet kk) hk60' HRN8.out)
        have HQC : Hid (∀ Z, Keep (fun _ => False) wc Z → QCells Z G m0 rx m0.rcpts.length rc1 bx bn bc y k c (FB.length : Int) ∧ QCells Z H m0 rx' m0.rcpts.length rc' bx' bn' bc' y' k' c' gl2) := Lib.hid (fun Z kk => ⟨qcells_of (HA4.out.keep (K5.out.trans kk (fun _ _ h => h)) (fun h => h)), qcells_of (HA5.out.keep kk (fun h => h))⟩)
        obtain ⟨FA, hFA⟩ : ∃ F, F = fatesM m0.rcpts.length x1 := ⟨_, rfl⟩
        obtain ⟨FC, hFC⟩ : ∃ F, F = fatesM m0.rcpts.length (x1 ++ [⟨kd, rc, kn⟩]) := ⟨_, rfl⟩
        have HFPa : Hid (∀ W e W', FatP m0.rcpts.length x1 W e W' → ∃ gg, e = .returned (.slice (some ⟨gg, 0, none⟩) m0.rcpts.length m0.rcpts.length) ∧ FtR W' gg FA ∧ Keep (fun _ => False) W W') := Lib.hid (fun W e W' ⟨gg, _, he, hR, hk⟩ => ⟨gg, he, by rw [hFA]; exact hR, hk⟩)
        have HFPb : Hid (∀ W e W', FatP m0.rcpts.length (x1 ++ [⟨kd, rc, kn⟩]) W e W' → ∃ gg, e = .returned (.slice (some ⟨gg, 0, none⟩) m0.rcpts.length m0.rcpts.length) ∧ FtR W' gg FC ∧ Keep (fun _ => False) W W') := Lib.hid (fun W e W' ⟨gg, _, he, hR, hk⟩ => ⟨gg, he, by rw [hFC]; exact hR, hk⟩)
        have HLa : Hid (FA.length = m0.rcpts.length) := Lib.hid (by rw [hFA, fatesM_length])
        have HLc : Hid (FC.length = m0.rcpts.length) := Lib.hid (by rw [hFC, fatesM_length])
        have HMo : Hid (∀ i (hi : i < m0.rcpts.length) (ha : i < FA.length) (hc : i < FC.length), FC[i] = if rc = (i : Int) then stepF FA[i] ⟨kd, rc, kn⟩ else FA[i]) := Lib.hid (fun i hi ha hc => by
          have h := fates_more m0.rcpts.length x1 ⟨kd, rc, kn⟩ HGK.out i hi
          rw [← hFA, ← hFC] at h
          have e1 : FC[i] = FC.getD i ft0 := by simp [List.getD_eq_getElem?_getD, hc]
          have e2 : FA[i] = FA.getD i ft0 := by simp [List.getD_eq_getElem?_getD, ha]
          rw [e1, e2]
          exact h)
        have HSm : Hid (∀ i (ha : i < FA.length), Small 4611686018427387904 FA[i]) := Lib.hid (fun i ha => by
          have e2 : FA[i] = (fatesM m0.rcpts.length x1).getD i ft0 := by rw [← hFA]; simp [List.getD_eq_getElem?_getD, ha]
          rw [e2]
          exact (fatesM_small m0.rcpts.length x1 i (by have := HLa.out; omega)).mono (by have := H60.out; omega))
        unfold qC at HFA HFB
        clear hFA hFC hk60 hk60'
        go_upto_region 5 with fail
        have kD5 : Keep (fun _ => False) wc wc.drew := (Keep.refl _ wc).drew
        obtain ⟨⟨z0, z1, z2, z3, z4, z5, z6, z7⟩, v0, v1, v2, v3, v4, v5, v6, v7⟩ := HQC.out _ kD5
        refine wp_region_noPanic ?_
        refine wp_region_held_drew (S := fun Z => Z.cell? ⟨G, 0, none⟩ = some (.int .i64 m0.id) ∧ Z.cell? ⟨G, 1, none⟩ = some (.int .i64 m0.parent) ∧ Z.cell? ⟨G, 2, none⟩ = some (.int .i64 m0.born) ∧ Z.cell? ⟨G, 3, none⟩ = some (.string m0.frm) ∧ Z.cell? ⟨G, 4, none⟩ = some (.slice rx m0.rcpts.length rc1) ∧ Z.cell? ⟨G, 5, none⟩ = some (.slice bx bn bc) ∧ Z.cell? ⟨G, 6, none⟩ = some (.slice y k c) ∧ Z.cell? ⟨G, 7, none⟩ = some (.int .i64 (FB.length : Int)) ∧ Z.cell? ⟨H, 0, none⟩ = some (.int .i64 m0.id) ∧ Z.cell? ⟨H, 1, none⟩ = some (.int .i64 m0.parent) ∧ Z.cell? ⟨H, 2, none⟩ = some (.int .i64 m0.born) ∧ Z.cell? ⟨H, 3, none⟩ = some (.string m0.frm) ∧ Z.cell? ⟨H, 4, none⟩ = some (.slice rx' m0.rcpts.length rc') ∧ Z.cell? ⟨H, 5, none⟩ = some (.slice bx' bn' bc') ∧ Z.cell? ⟨H, 6, none⟩ = some (.slice y' k' c') ∧ Z.cell? ⟨H, 7, none⟩ = some (.int .i64 gl2)) (by kernel_rfl) ⟨z0, z1, z2, z3, z4, z5, z6, z7, v0, v1, v2, v3, v4, v5, v6, v7⟩ (fun hHeld => ?_)
        clear z0 z1 z2 z3 z4 z5 z6 z7 v0 v1 v2 v3 v4 v5 v6 v7
        refine wpAnyH_take (i := 0) (v := ?_) rfl (by kernel_rfl) (by kernel_rfl) (by kernel_rfl) (fun _ _ _ h => h) (Or.inl ⟨by rfl, ?_⟩) (by assumption) ?_
        rotate_left
        · (intro wS hSw; (try dsimp only at hSw); obtain ⟨hS1, hS2, hS3, hS4, hS5, hS6, hS7, hS8, hS9, hS10, hS11, hS12, hS13, hS14, hS15, hS16⟩ := hSw; (try simp only [List.getElem_toArray, List.getElem_cons_succ, List.getElem_cons_zero]); go_simp; try (with_reducible rfl))
        try simp only [Act.put, List.getElem_toArray, List.getElem_cons_succ, List.getElem_cons_zero, List.setIfInBounds_toArray, List.set_cons_zero, List.set_cons_succ]
        refine wpAnyH_take (i := 2) (v := ?_) rfl (by kernel_rfl) (by kernel_rfl) (by kernel_rfl) (fun _ _ _ h => h) (Or.inl ⟨by rfl, ?_⟩) (by assumption) ?_
        rotate_left
        · (intro wS hSw; (try dsimp only at hSw); obtain ⟨hS1, hS2, hS3, hS4, hS5, hS6, hS7, hS8, hS9, hS10, hS11, hS12, hS13, hS14, hS15, hS16⟩ := hSw; (try simp only [List.getElem_toArray, List.getElem_cons_succ, List.getElem_cons_zero]); go_simp; try (with_reducible rfl))
        try simp only [Act.put, List.getElem_toArray, List.getElem_cons_succ, List.getElem_cons_zero, List.setIfInBounds_toArray, List.set_cons_zero, List.set_cons_succ]
        refine wpAnyH_ready (rs := [1]) (by kernel_rfl) (by simp) ?_
        refine AllReadyH.cons rfl (fun K hK => ?_) AllReadyH.nil
        go_simp
        refine (HFA.out _ kD5).mono ?_
        rintro e w6 h6
        obtain ⟨ga, rfl, hRa, hk6⟩ := HFPa.out _ _ _ h6
        have k6 := kD5.trans hk6 (fun _ _ h => h)
        have HRa := Lib.hid hRa
        obtain ⟨⟨z0, z1, z2, z3, z4, z5, z6, z7⟩, v0, v1, v2, v3, v4, v5, v6, v7⟩ := HQC.out _ k6
        clear h6 hRa hk6
        go_wp2_with fail
        refine hK.out _ _ ⟨z0, z1, z2, z3, z4, z5, z6, z7, v0, v1, v2, v3, v4, v5, v6, v7⟩ (fun hHeld => ?_)
        clear hK K
        try simp only [Act.put, List.getElem_toArray, List.getElem_cons_succ, List.getElem_cons_zero, List.setIfInBounds_toArray, List.set_cons_zero, List.set_cons_succ]
        clear z0 z1 z2 z3 z4 z5 z6 z7 v0 v1 v2 v3 v4 v5 v6 v7
        refine wpAnyH_ready (rs := [3]) (by kernel_rfl) (by simp) ?_
        refine AllReadyH.cons rfl (fun K hK => ?_) AllReadyH.nil
        go_simp
        refine (HFB.out _ k6).mono ?_
        rintro e w7 h7
        obtain ⟨gb, rfl, hRb, hk7⟩ := HFPb.out _ _ _ h7
        have k7 := k6.trans hk7 (fun _ _ h => h)
        have HRa7 := Lib.hid (StR.keep HRa.out hk7 (fun h => h))
        have HRb7 := Lib.hid hRb
        obtain ⟨⟨z0, z1, z2, z3, z4, z5, z6, z7⟩, v0, v1, v2, v3, v4, v5, v6, v7⟩ := HQC.out _ k7
        clear h7 hRb hk7
        go_wp2_with fail
        refine hK.out _ _ ⟨z0, z1, z2, z3, z4, z5, z6, z7, v0, v1, v2, v3, v4, v5, v6, v7⟩ (fun hHeld => ?_)
        clear hK K
        try simp only [Act.put, List.getElem_toArray, List.getElem_cons_succ, List.getElem_cons_zero, List.setIfInBounds_toArray, List.set_cons_zero, List.set_cons_succ]
        clear z0 z1 z2 z3 z4 z5 z6 z7 v0 v1 v2 v3 v4 v5 v6 v7
        refine wpAnyH_take (i := 4) (v := ?_) rfl (by kernel_rfl) (by kernel_rfl) (by kernel_rfl) (fun _ _ _ h => h) (Or.inl ⟨by rfl, ?_⟩) (by assumption) ?_
        rotate_left
        · (intro wS hSw; (try dsimp only at hSw); obtain ⟨hS1, hS2, hS3, hS4, hS5, hS6, hS7, hS8, hS9, hS10, hS11, hS12, hS13, hS14, hS15, hS16⟩ := hSw; (try simp only [List.getElem_toArray, List.getElem_cons_succ, List.getElem_cons_zero]); go_simp; try (with_reducible rfl))
        try simp only [Act.put, List.getElem_toArray, List.getElem_cons_succ, List.getElem_cons_zero, List.setIfInBounds_toArray, List.set_cons_zero, List.set_cons_succ]
        refine wpAnyH_take (i := 5) (v := ?_) rfl (by kernel_rfl) (by kernel_rfl) (by kernel_rfl) (fun _ _ _ h => h) (Or.inl ⟨by rfl, ?_⟩) (by assumption) ?_
        rotate_left
        · (intro wS hSw; (try dsimp only at hSw); obtain ⟨hS1, hS2, hS3, hS4, hS5, hS6, hS7, hS8, hS9, hS10, hS11, hS12, hS13, hS14, hS15, hS16⟩ := hSw; (try simp only [List.getElem_toArray, List.getElem_cons_succ, List.getElem_cons_zero]); go_simp; try (with_reducible rfl))
        try simp only [Act.put, List.getElem_toArray, List.getElem_cons_succ, List.getElem_cons_zero, List.setIfInBounds_toArray, List.set_cons_zero, List.set_cons_succ]
        refine wpAnyH_done (by kernel_rfl) ?_ _
        refine NoPanic.normal ?_
        have K7 := Lib.hid ((K4.out.trans K5.out (fun _ _ h => h)).trans k7 (fun _ _ h => h))
        obtain ⟨⟨_, _, _, _, c4, _⟩, _⟩ := HSC.out _ K7.out
        have HStep : Hid (∀ i (ha : i < FA.length) Z, Calls Tryz.prog 26 #[.agg (ftC FA[i]), .agg (mkC ⟨kd, rc, kn⟩)] Z (Quiet (.agg (ftC (stepF FA[i] ⟨kd, rc, kn⟩))) Z)) := Lib.hid (fun i ha Z => stepC _ _ Z HGK.out (HSm.out i ha))
        clear k6 k7 kD5
        go_wp2
        clear c4
        have hN8 : m0.rcpts.length ≤ 8 := HRN8.out
        go_loopw [13] (fun i wr => ∃ k : Nat, k ≤ m0.rcpts.length ∧ i = .int .i64 (k : Int) ∧ Hid (Keep (fun _ => False) w7 wr)) (fun i _ => m0.rcpts.length - (intOf i).toNat)
        case atStart => exact ⟨0, by omega, rfl, Lib.hid (Keep.refl _ _)⟩
        case round =>
          obtain ⟨i, hi, rfl, KR⟩ := hrel
          by_cases hlt : (i : Int) < (m0.rcpts.length : Int)
          · have hia : i < FA.length := by have := HLa.out; omega
            have hic : i < FC.length := by have := HLc.out; omega
            have i0 : (0 : Int) ≤ (i : Int) := by omega
            have HN1 : Hid (i + 1 ≤ m0.rcpts.length) := Lib.hid (by omega)
            have kD8 : Keep (fun _ => False) w7 wr.drew := KR.out.drew
            have FSa : Hid (∀ Z, Keep (fun _ => False) w7 Z → Fs w7 Z ga FA) := Lib.hid (fun Z kk => ⟨StR.keep HRa7.out kk (fun h => h), kk⟩)
            have FSb : Hid (∀ Z, Keep (fun _ => False) w7 Z → Fs w7 Z gb FC) := Lib.hid (fun Z kk => ⟨StR.keep HRb7.out kk (fun h => h), kk⟩)
            have hmo := HMo.out i (by omega) hia hic
            have hst := HStep.out i hia
            obtain ⟨f, hf⟩ : ∃ f, f = FA[i] := ⟨_, rfl⟩
            obtain ⟨g, hg⟩ : ∃ g, g = FC[i] := ⟨_, rfl⟩
            have HC13 : Hid (∀ Z, Keep (fun _ => False) w7 Z → F5 Z ga (i * 5) f ∧ F5 Z gb (i * 5) g ∧ K3 Z (w.heap.size + 1) kd rc kn) := Lib.hid (fun Z kk => ⟨by rw [hf]; exact (FSa.out Z kk).at i hia, by rw [hg]; exact (FSb.out Z kk).at i hic, (HSC.out Z (K7.out.trans kk (fun _ _ h => h))).2⟩)
            rw [← hf] at hmo hst
            rw [← hg] at hmo
            clear hf hg FSa FSb
            by_cases hrc : rc = (i : Int)
            · rw [if_pos hrc] at hmo
              rw [← hmo, hrc] at hst
              have HST := Lib.hid hst
              unfold ftC mkC at HST
              obtain ⟨st, tr, nx, cr, op⟩ := f
              obtain ⟨st', tr', nx', cr', op'⟩ := g
              simp only at HST
              have HC := Lib.hid (fun Z kk => HC13.out Z kk)
              rw [hrc] at HC
              clear hmo hst hrc HC13
              obtain ⟨⟨p0, p1, p2, p3, p4⟩, ⟨q0, q1, q2, q3, q4⟩, e0, e1, e2⟩ := HC.out _ kD8
              simp only at p0 p1 p2 p3 p4 q0 q1 q2 q3 q4
              go_upto_region 11 with fail
              refine wp_region_noPanic ?_
              refine wp_region_held_drew (S := fun Z => Z.cell? ⟨ga, i * 5, none⟩ = some (.int .i64 st) ∧ Z.cell? ⟨ga, i * 5 + 1, none⟩ = some (.int .i64 tr) ∧ Z.cell? ⟨ga, i * 5 + 2, none⟩ = some (.int .i64 nx) ∧ Z.cell? ⟨ga, i * 5 + 3, none⟩ = some (.int .i64 cr) ∧ Z.cell? ⟨ga, i * 5 + 4, none⟩ = some (.bool op) ∧ Z.cell? ⟨gb, i * 5, none⟩ = some (.int .i64 st') ∧ Z.cell? ⟨gb, i * 5 + 1, none⟩ = some (.int .i64 tr') ∧ Z.cell? ⟨gb, i * 5 + 2, none⟩ = some (.int .i64 nx') ∧ Z.cell? ⟨gb, i * 5 + 3, none⟩ = some (.int .i64 cr') ∧ Z.cell? ⟨gb, i * 5 + 4, none⟩ = some (.bool op') ∧ Z.cell? ⟨w.heap.size + 1, 0, none⟩ = some (.int .i64 kd) ∧ Z.cell? ⟨w.heap.size + 1, 1, none⟩ = some (.int .i64 (i : Int)) ∧ Z.cell? ⟨w.heap.size + 1, 2, none⟩ = some (.int .i64 kn)) (by kernel_rfl) ⟨p0, p1, p2, p3, p4, q0, q1, q2, q3, q4, e0, e1, e2⟩ (fun hHeld => ?_)
              clear p0 p1 p2 p3 p4 q0 q1 q2 q3 q4 e0 e1 e2
              refine wpAnyH_take (i := 0) (v := ?_) rfl (by kernel_rfl) (by kernel_rfl) (by kernel_rfl) (fun _ _ _ h => h) (Or.inl ⟨by rfl, ?_⟩) (by assumption) ?_
              rotate_left
              · (intro wS hSw; (try dsimp only at hSw); obtain ⟨hS1, hS2, hS3, hS4, hS5, hS6, hS7, hS8, hS9, hS10, hS11, hS12, hS13⟩ := hSw; (try simp only [List.getElem_toArray, List.getElem_cons_succ, List.getElem_cons_zero]); go_simp; try (with_reducible rfl))
              try simp only [Act.put, List.getElem_toArray, List.getElem_cons_succ, List.getElem_cons_zero, List.setIfInBounds_toArray, List.set_cons_zero, List.set_cons_succ]
              refine wpAnyH_take (i := 1) (v := ?_) rfl (by kernel_rfl) (by kernel_rfl) (by kernel_rfl) (fun _ _ _ h => h) (Or.inl ⟨by rfl, ?_⟩) (by assumption) ?_
              rotate_left
              · (intro wS hSw; (try dsimp only at hSw); obtain ⟨hS1, hS2, hS3, hS4, hS5, hS6, hS7, hS8, hS9, hS10, hS11, hS12, hS13⟩ := hSw; (try simp only [List.getElem_toArray, List.getElem_cons_succ, List.getElem_cons_zero]); go_simp; try (with_reducible rfl))
              try simp only [Act.put, List.getElem_toArray, List.getElem_cons_succ, List.getElem_cons_zero, List.setIfInBounds_toArray, List.set_cons_zero, List.set_cons_succ]
              refine wpAnyH_take (i := 2) (v := ?_) rfl (by kernel_rfl) (by kernel_rfl) (by kernel_rfl) (fun _ _ _ h => h) (Or.inl ⟨by rfl, ?_⟩) (by assumption) ?_
              rotate_left
              · (intro wS hSw; (try dsimp only at hSw); obtain ⟨hS1, hS2, hS3, hS4, hS5, hS6, hS7, hS8, hS9, hS10, hS11, hS12, hS13⟩ := hSw; (try simp only [List.getElem_toArray, List.getElem_cons_succ, List.getElem_cons_zero]); go_simp; try (with_reducible rfl))
              try simp only [Act.put, List.getElem_toArray, List.getElem_cons_succ, List.getElem_cons_zero, List.setIfInBounds_toArray, List.set_cons_zero, List.set_cons_succ]
              refine wpAnyH_take (i := 3) (v := ?_) rfl (by kernel_rfl) (by kernel_rfl) (by kernel_rfl) (fun _ _ _ h => h) (Or.inl ⟨by rfl, ?_⟩) (by assumption) ?_
              rotate_left
              · (intro wS hSw; (try dsimp only at hSw); obtain ⟨hS1, hS2, hS3, hS4, hS5, hS6, hS7, hS8, hS9, hS10, hS11, hS12, hS13⟩ := hSw; (try simp only [List.getElem_toArray, List.getElem_cons_succ, List.getElem_cons_zero]); go_simp; try (with_reducible rfl))
              try simp only [Act.put, List.getElem_toArray, List.getElem_cons_succ, List.getElem_cons_zero, List.setIfInBounds_toArray, List.set_cons_zero, List.set_cons_succ]
              refine wpAnyH_take (i := 4) (v := ?_) rfl (by kernel_rfl) (by kernel_rfl) (by kernel_rfl) (fun _ _ _ h => h) (Or.inl ⟨by rfl, ?_⟩) (by assumption) ?_
              rotate_left
              · (intro wS hSw; (try dsimp only at hSw); obtain ⟨hS1, hS2, hS3, hS4, hS5, hS6, hS7, hS8, hS9, hS10, hS11, hS12, hS13⟩ := hSw; (try simp only [List.getElem_toArray, List.getElem_cons_succ, List.getElem_cons_zero]); go_simp; try (with_reducible rfl))
              try simp only [Act.put, List.getElem_toArray, List.getElem_cons_succ, List.getElem_cons_zero, List.setIfInBounds_toArray, List.set_cons_zero, List.set_cons_succ]
              refine wpAnyH_take (i := 5) (v := undef) rfl (by kernel_rfl) (by kernel_rfl) (by kernel_rfl) (fun _ _ _ h => h) (Or.inr ⟨by rfl, rfl⟩) (by assumption) ?_
              try simp only [Act.put, List.getElem_toArray, List.getElem_cons_succ, List.getElem_cons_zero, List.setIfInBounds_toArray, List.set_cons_zero, List.set_cons_succ]
              refine wpAnyH_take (i := 6) (v := undef) rfl (by kernel_rfl) (by kernel_rfl) (by kernel_rfl) (fun _ _ _ h => h) (Or.inr ⟨by rfl, rfl⟩) (by assumption) ?_
              try simp only [Act.put, List.getElem_toArray, List.getElem_cons_succ, List.getElem_cons_zero, List.setIfInBounds_toArray, List.set_cons_zero, List.set_cons_succ]
              refine wpAnyH_take (i := 7) (v := undef) rfl (by kernel_rfl) (by kernel_rfl) (by kernel_rfl) (fun _ _ _ h => h) (Or.inr ⟨by rfl, rfl⟩) (by assumption) ?_
              try simp only [Act.put, List.getElem_toArray, List.getElem_cons_succ, List.getElem_cons_zero, List.setIfInBounds_toArray, List.set_cons_zero, List.set_cons_succ]
              refine wpAnyH_take (i := 8) (v := undef) rfl (by kernel_rfl) (by kernel_rfl) (by kernel_rfl) (fun _ _ _ h => h) (Or.inr ⟨by rfl, rfl⟩) (by assumption) ?_
              try simp only [Act.put, List.getElem_toArray, List.getElem_cons_succ, List.getElem_cons_zero, List.setIfInBounds_toArray, List.set_cons_zero, List.set_cons_succ]
              refine wpAnyH_take (i := 9) (v := undef) rfl (by kernel_rfl) (by kernel_rfl) (by kernel_rfl) (fun _ _ _ h => h) (Or.inr ⟨by rfl, rfl⟩) (by assumption) ?_
              try simp only [Act.put, List.getElem_toArray, List.getElem_cons_succ, List.getElem_cons_zero, List.setIfInBounds_toArray, List.set_cons_zero, List.set_cons_succ]
              refine wpAnyH_take (i := 10) (v := undef) rfl (by kernel_rfl) (by kernel_rfl) (by kernel_rfl) (fun _ _ _ h => h) (Or.inr ⟨by rfl, rfl⟩) (by assumption) ?_
              try simp only [Act.put, List.getElem_toArray, List.getElem_cons_succ, List.getElem_cons_zero, List.setIfInBounds_toArray, List.set_cons_zero, List.set_cons_succ]
              refine wpAnyH_take (i := 11) (v := undef) rfl (by kernel_rfl) (by kernel_rfl) (by kernel_rfl) (fun _ _ _ h => h) (Or.inr ⟨by rfl, rfl⟩) (by assumption) ?_
              try simp only [Act.put, List.getElem_toArray, List.getElem_cons_succ, List.getElem_cons_zero, List.setIfInBounds_toArray, List.set_cons_zero, List.set_cons_succ]
              refine wpAnyH_take (i := 12) (v := undef) rfl (by kernel_rfl) (by kernel_rfl) (by kernel_rfl) (fun _ _ _ h => h) (Or.inr ⟨by rfl, rfl⟩) (by assumption) ?_
              try simp only [Act.put, List.getElem_toArray, List.getElem_cons_succ, List.getElem_cons_zero, List.setIfInBounds_toArray, List.set_cons_zero, List.set_cons_succ]
              refine wpAnyH_take (i := 13) (v := undef) rfl (by kernel_rfl) (by kernel_rfl) (by kernel_rfl) (fun _ _ _ h => h) (Or.inr ⟨by rfl, rfl⟩) (by assumption) ?_
              try simp only [Act.put, List.getElem_toArray, List.getElem_cons_succ, List.getElem_cons_zero, List.setIfInBounds_toArray, List.set_cons_zero, List.set_cons_succ]
              refine wpAnyH_take (i := 14) (v := ?_) rfl (by kernel_rfl) (by kernel_rfl) (by kernel_rfl) (fun _ _ _ h => h) (Or.inl ⟨by rfl, ?_⟩) (by assumption) ?_
              rotate_left
              · (intro wS hSw; (try dsimp only at hSw); obtain ⟨hS1, hS2, hS3, hS4, hS5, hS6, hS7, hS8, hS9, hS10, hS11, hS12, hS13⟩ := hSw; (try simp only [List.getElem_toArray, List.getElem_cons_succ, List.getElem_cons_zero]); go_simp; try (with_reducible rfl))
              try simp only [Act.put, List.getElem_toArray, List.getElem_cons_succ, List.getElem_cons_zero, List.setIfInBounds_toArray, List.set_cons_zero, List.set_cons_succ]
              refine wpAnyH_take (i := 15) (v := ?_) rfl (by kernel_rfl) (by kernel_rfl) (by kernel_rfl) (fun _ _ _ h => h) (Or.inl ⟨by rfl, ?_⟩) (by assumption) ?_
              rotate_left
              · (intro wS hSw; (try dsimp only at hSw); obtain ⟨hS1, hS2, hS3, hS4, hS5, hS6, hS7, hS8, hS9, hS10, hS11, hS12, hS13⟩ := hSw; (try simp only [List.getElem_toArray, List.getElem_cons_succ, List.getElem_cons_zero]); go_simp; try (with_reducible rfl))
              try simp only [Act.put, List.getElem_toArray, List.getElem_cons_succ, List.getElem_cons_zero, List.setIfInBounds_toArray, List.set_cons_zero, List.set_cons_succ]
              refine wpAnyH_take (i := 16) (v := ?_) rfl (by kernel_rfl) (by kernel_rfl) (by kernel_rfl) (fun _ _ _ h => h) (Or.inl ⟨by rfl, ?_⟩) (by assumption) ?_
              rotate_left
              · (intro wS hSw; (try dsimp only at hSw); obtain ⟨hS1, hS2, hS3, hS4, hS5, hS6, hS7, hS8, hS9, hS10, hS11, hS12, hS13⟩ := hSw; (try simp only [List.getElem_toArray, List.getElem_cons_succ, List.getElem_cons_zero]); go_simp; try (with_reducible rfl))
              try simp only [Act.put, List.getElem_toArray, List.getElem_cons_succ, List.getElem_cons_zero, List.setIfInBounds_toArray, List.set_cons_zero, List.set_cons_succ]
              refine wpAnyH_take (i := 17) (v := ?_) rfl (by kernel_rfl) (by kernel_rfl) (by kernel_rfl) (fun _ _ _ h => h) (Or.inl ⟨by rfl, ?_⟩) (by assumption) ?_
              rotate_left
              · (intro wS hSw; (try dsimp only at hSw); obtain ⟨hS1, hS2, hS3, hS4, hS5, hS6, hS7, hS8, hS9, hS10, hS11, hS12, hS13⟩ := hSw; (try simp only [List.getElem_toArray, List.getElem_cons_succ, List.getElem_cons_zero]); go_simp; try (with_reducible rfl))
              try simp only [Act.put, List.getElem_toArray, List.getElem_cons_succ, List.getElem_cons_zero, List.setIfInBounds_toArray, List.set_cons_zero, List.set_cons_succ]
              refine wpAnyH_take (i := 18) (v := ?_) rfl (by kernel_rfl) (by kernel_rfl) (by kernel_rfl) (fun _ _ _ h => h) (Or.inl ⟨by rfl, ?_⟩) (by assumption) ?_
              rotate_left
              · (intro wS hSw; (try dsimp only at hSw); obtain ⟨hS1, hS2, hS3, hS4, hS5, hS6, hS7, hS8, hS9, hS10, hS11, hS12, hS13⟩ := hSw; (try simp only [List.getElem_toArray, List.getElem_cons_succ, List.getElem_cons_zero]); go_simp; try (with_reducible rfl))
              try simp only [Act.put, List.getElem_toArray, List.getElem_cons_succ, List.getElem_cons_zero, List.setIfInBounds_toArray, List.set_cons_zero, List.set_cons_succ]
              refine wpAnyH_take (i := 19) (v := ?_) rfl (by kernel_rfl) (by kernel_rfl) (by kernel_rfl) (fun _ _ _ h => h) (Or.inl ⟨by rfl, ?_⟩) (by assumption) ?_
              rotate_left
              · (intro wS hSw; (try dsimp only at hSw); obtain ⟨hS1, hS2, hS3, hS4, hS5, hS6, hS7, hS8, hS9, hS10, hS11, hS12, hS13⟩ := hSw; (try simp only [List.getElem_toArray, List.getElem_cons_succ, List.getElem_cons_zero]); go_simp; try (with_reducible rfl))
              try simp only [Act.put, List.getElem_toArray, List.getElem_cons_succ, List.getElem_cons_zero, List.setIfInBounds_toArray, List.set_cons_zero, List.set_cons_succ]
              refine wpAnyH_take (i := 20) (v := ?_) rfl (by kernel_rfl) (by kernel_rfl) (by kernel_rfl) (fun _ _ _ h => h) (Or.inl ⟨by rfl, ?_⟩) (by assumption) ?_
              rotate_left
              · (intro wS hSw; (try dsimp only at hSw); obtain ⟨hS1, hS2, hS3, hS4, hS5, hS6, hS7, hS8, hS9, hS10, hS11, hS12, hS13⟩ := hSw; (try simp only [List.getElem_toArray, List.getElem_cons_succ, List.getElem_cons_zero]); go_simp; try (with_reducible rfl))
              try simp only [Act.put, List.getElem_toArray, List.getElem_cons_succ, List.getElem_cons_zero, List.setIfInBounds_toArray, List.set_cons_zero, List.set_cons_succ]
              refine wpAnyH_take (i := 21) (v := ?_) rfl (by kernel_rfl) (by kernel_rfl) (by kernel_rfl) (fun _ _ _ h => h) (Or.inl ⟨by rfl, ?_⟩) (by assumption) ?_
              rotate_left
              · (intro wS hSw; (try dsimp only at hSw); obtain ⟨hS1, hS2, hS3, hS4, hS5, hS6, hS7, hS8, hS9, hS10, hS11, hS12, hS13⟩ := hSw; (try simp only [List.getElem_toArray, List.getElem_cons_succ, List.getElem_cons_zero]); go_simp; try (with_reducible rfl))
              try simp only [Act.put, List.getElem_toArray, List.getElem_cons_succ, List.getElem_cons_zero, List.setIfInBounds_toArray, List.set_cons_zero, List.set_cons_succ]
              refine wpAnyH_take (i := 22) (v := ?_) rfl (by kernel_rfl) (by kernel_rfl) (by kernel_rfl) (fun _ _ _ h => h) (Or.inl ⟨by rfl, ?_⟩) (by assumption) ?_
              rotate_left
              · (intro wS hSw; (try dsimp only at hSw); obtain ⟨hS1, hS2, hS3, hS4, hS5, hS6, hS7, hS8, hS9, hS10, hS11, hS12, hS13⟩ := hSw; (try simp only [List.getElem_toArray, List.getElem_cons_succ, List.getElem_cons_zero]); go_simp; try (with_reducible rfl))
              try simp only [Act.put, List.getElem_toArray, List.getElem_cons_succ, List.getElem_cons_zero, List.setIfInBounds_toArray, List.set_cons_zero, List.set_cons_succ]
              refine wpAnyH_take (i := 23) (v := ?_) rfl (by kernel_rfl) (by kernel_rfl) (by kernel_rfl) (fun _ _ _ h => h) (Or.inl ⟨by rfl, ?_⟩) (by assumption) ?_
              rotate_left
              · (intro wS hSw; (try dsimp only at hSw); obtain ⟨hS1, hS2, hS3, hS4, hS5, hS6, hS7, hS8, hS9, hS10, hS11, hS12, hS13⟩ := hSw; (try simp only [List.getElem_toArray, List.getElem_cons_succ, List.getElem_cons_zero]); go_simp; try (with_reducible rfl))
              try simp only [Act.put, List.getElem_toArray, List.getElem_cons_succ, List.getElem_cons_zero, List.setIfInBounds_toArray, List.set_cons_zero, List.set_cons_succ]
              refine wpAnyH_take (i := 24) (v := ?_) rfl (by kernel_rfl) (by kernel_rfl) (by kernel_rfl) (fun _ _ _ h => h) (Or.inl ⟨by rfl, ?_⟩) (by assumption) ?_
              rotate_left
              · (intro wS hSw; (try dsimp only at hSw); obtain ⟨hS1, hS2, hS3, hS4, hS5, hS6, hS7, hS8, hS9, hS10, hS11, hS12, hS13⟩ := hSw; (try simp only [List.getElem_toArray, List.getElem_cons_succ, List.getElem_cons_zero]); go_simp; try (with_reducible rfl))
              try simp only [Act.put, List.getElem_toArray, List.getElem_cons_succ, List.getElem_cons_zero, List.setIfInBounds_toArray, List.set_cons_zero, List.set_cons_succ]
              refine wpAnyH_take (i := 25) (v := ?_) rfl (by kernel_rfl) (by kernel_rfl) (by kernel_rfl) (fun _ _ _ h => h) (Or.inl ⟨by rfl, ?_⟩) (by assumption) ?_
              rotate_left
              · (intro wS hSw; (try dsimp only at hSw); obtain ⟨hS1, hS2, hS3, hS4, hS5, hS6, hS7, hS8, hS9, hS10, hS11, hS12, hS13⟩ := hSw; (try simp only [List.getElem_toArray, List.getElem_cons_succ, List.getElem_cons_zero]); go_simp; try (with_reducible rfl))
              try simp only [Act.put, List.getElem_toArray, List.getElem_cons_succ, List.getElem_cons_zero, List.setIfInBounds_toArray, List.set_cons_zero, List.set_cons_succ]
              refine wpAnyH_take (i := 26) (v := ?_) rfl (by kernel_rfl) (by kernel_rfl) (by kernel_rfl) (fun _ _ _ h => h) (Or.inl ⟨by rfl, ?_⟩) (by assumption) ?_
              rotate_left
              · (intro wS hSw; (try dsimp only at hSw); obtain ⟨hS1, hS2, hS3, hS4, hS5, hS6, hS7, hS8, hS9, hS10, hS11, hS12, hS13⟩ := hSw; (try simp only [List.getElem_toArray, List.getElem_cons_succ, List.getElem_cons_zero]); go_simp; try (with_reducible rfl))
              try simp only [Act.put, List.getElem_toArray, List.getElem_cons_succ, List.getElem_cons_zero, List.setIfInBounds_toArray, List.set_cons_zero, List.set_cons_succ]
              refine wpAnyH_take (i := 27) (v := ?_) rfl (by kernel_rfl) (by kernel_rfl) (by kernel_rfl) (fun _ _ _ h => h) (Or.inl ⟨by rfl, ?_⟩) (by assumption) ?_
              rotate_left
              · (intro wS hSw; (try dsimp only at hSw); obtain ⟨hS1, hS2, hS3, hS4, hS5, hS6, hS7, hS8, hS9, hS10, hS11, hS12, hS13⟩ := hSw; (try simp only [List.getElem_toArray, List.getElem_cons_succ, List.getElem_cons_zero]); go_simp; try (with_reducible rfl))
              try simp only [Act.put, List.getElem_toArray, List.getElem_cons_succ, List.getElem_cons_zero, List.setIfInBounds_toArray, List.set_cons_zero, List.set_cons_succ]
              refine wpAnyH_take (i := 28) (v := ?_) rfl (by kernel_rfl) (by kernel_rfl) (by kernel_rfl) (fun _ _ _ h => h) (Or.inl ⟨by rfl, ?_⟩) (by assumption) ?_
              rotate_left
              · (intro wS hSw; (try dsimp only at hSw); obtain ⟨hS1, hS2, hS3, hS4, hS5, hS6, hS7, hS8, hS9, hS10, hS11, hS12, hS13⟩ := hSw; (try simp only [List.getElem_toArray, List.getElem_cons_succ, List.getElem_cons_zero]); go_simp; try (with_reducible rfl))
              try simp only [Act.put, List.getElem_toArray, List.getElem_cons_succ, List.getElem_cons_zero, List.setIfInBounds_toArray, List.set_cons_zero, List.set_cons_succ]
              refine wpAnyH_take (i := 29) (v := ?_) rfl (by kernel_rfl) (by kernel_rfl) (by kernel_rfl) (fun _ _ _ h => h) (Or.inl ⟨by rfl, ?_⟩) (by assumption) ?_
              rotate_left
              · (intro wS hSw; (try dsimp only at hSw); obtain ⟨hS1, hS2, hS3, hS4, hS5, hS6, hS7, hS8, hS9, hS10, hS11, hS12, hS13⟩ := hSw; (try simp only [List.getElem_toArray, List.getElem_cons_succ, List.getElem_cons_zero]); go_simp; try (with_reducible rfl))
              try simp only [Act.put, List.getElem_toArray, List.getElem_cons_succ, List.getElem_cons_zero, List.setIfInBounds_toArray, List.set_cons_zero, List.set_cons_succ]
              refine wpAnyH_ready (rs := [30]) (by kernel_rfl) (by simp) ?_
              refine AllReadyH.cons rfl (fun K hK => ?_) AllReadyH.nil
              go_simp
              refine (HST.out _).mono ?_
              rintro e w8 ⟨rfl, hk8⟩
              have k8 := kD8.trans hk8 (fun _ _ h => h)
              obtain ⟨⟨p0, p1, p2, p3, p4⟩, ⟨q0, q1, q2, q3, q4⟩, e0, e1, e2⟩ := HC.out _ k8
              simp only at p0 p1 p2 p3 p4 q0 q1 q2 q3 q4
              clear hk8
              go_wp2_with fail
              refine hK.out _ _ ⟨p0, p1, p2, p3, p4, q0, q1, q2, q3, q4, e0, e1, e2⟩ (fun hHeld => ?_)
              clear hK K
              try simp only [Act.put, List.getElem_toArray, List.getElem_cons_succ, List.getElem_cons_zero, List.setIfInBounds_toArray, List.set_cons_zero, List.set_cons_succ]
              clear p0 p1 p2 p3 p4 q0 q1 q2 q3 q4 e0 e1 e2
              refine wpAnyH_take (i := 31) (v := ?_) rfl (by kernel_rfl) (by kernel_rfl) (by kernel_rfl) (fun _ _ _ h => h) (Or.inl ⟨by rfl, ?_⟩) (by assumption) ?_
              rotate_left
              · (intro wS hSw; (try dsimp only at hSw); obtain ⟨hS1, hS2, hS3, hS4, hS5, hS6, hS7, hS8, hS9, hS10, hS11, hS12, hS13⟩ := hSw; (try simp only [List.getElem_toArray, List.getElem_cons_succ, List.getElem_cons_zero]); go_simp; try (with_reducible rfl))
              try simp only [Act.put, List.getElem_toArray, List.getElem_cons_succ, List.getElem_cons_zero, List.setIfInBounds_toArray, List.set_cons_zero, List.set_cons_succ]
              refine wpAnyH_take (i := 32) (v := ?_) rfl (by kernel_rfl) (by kernel_rfl) (by kernel_rfl) (fun _ _ _ h => h) (Or.inl ⟨by rfl, ?_⟩) (by assumption) ?_
              rotate_left
              · (intro wS hSw; (try dsimp only at hSw); obtain ⟨hS1, hS2, hS3, hS4, hS5, hS6, hS7, hS8, hS9, hS10, hS11, hS12, hS13⟩ := hSw; (try simp only [List.getElem_toArray, List.getElem_cons_succ, List.getElem_cons_zero]); go_simp; try (with_reducible rfl))
              try simp only [Act.put, List.getElem_toArray, List.getElem_cons_succ, List.getElem_cons_zero, List.setIfInBounds_toArray, List.set_cons_zero, List.set_cons_succ]
              refine wpAnyH_take (i := 33) (v := ?_) rfl (by kernel_rfl) (by kernel_rfl) (by kernel_rfl) (fun _ _ _ h => h) (Or.inl ⟨by rfl, ?_⟩) (by assumption) ?_
              rotate_left
              · (intro wS hSw; (try dsimp only at hSw); obtain ⟨hS1, hS2, hS3, hS4, hS5, hS6, hS7, hS8, hS9, hS10, hS11, hS12, hS13⟩ := hSw; (try simp only [List.getElem_toArray, List.getElem_cons_succ, List.getElem_cons_zero]); go_simp; try (with_reducible rfl))
              try simp only [Act.put, List.getElem_toArray, List.getElem_cons_succ, List.getElem_cons_zero, List.setIfInBounds_toArray, List.set_cons_zero, List.set_cons_succ]
              refine wpAnyH_done (by kernel_rfl) ?_ _
              refine NoPanic.normal ?_
              go_wp2
              go_roundw
              case rel => exact ⟨i + 1, HN1.out, by go_num, Lib.hid k8⟩
              case measure => have := HN1.out; simp [intOf]; omega
            · rw [if_neg hrc] at hmo
              subst hmo
              obtain ⟨st, tr, nx, cr, op⟩ := g
              have hne : ¬ (i : Int) = rc := fun e => hrc e.symm
              have hb1 : ((i : Int) == rc) = false := by simpa using hne
              have hb2 : ((i : Int) != rc) = true := by simpa using hne
              have hb3 : decide ((i : Int) = rc) = false := decide_eq_false hne
              clear hst
              obtain ⟨⟨p0, p1, p2, p3, p4⟩, ⟨q0, q1, q2, q3, q4⟩, e0, e1, e2⟩ := HC13.out _ kD8
              simp only at p0 p1 p2 p3 p4 q0 q1 q2 q3 q4
              go_upto_region 11 with fail
              refine wp_region_noPanic ?_
              refine wp_region_held_drew (S := fun Z => Z.cell? ⟨ga, i * 5, none⟩ = some (.int .i64 st) ∧ Z.cell? ⟨ga, i * 5 + 1, none⟩ = some (.int .i64 tr) ∧ Z.cell? ⟨ga, i * 5 + 2, none⟩ = some (.int .i64 nx) ∧ Z.cell? ⟨ga, i * 5 + 3, none⟩ = some (.int .i64 cr) ∧ Z.cell? ⟨ga, i * 5 + 4, none⟩ = some (.bool op) ∧ Z.cell? ⟨gb, i * 5, none⟩ = some (.int .i64 st) ∧ Z.cell? ⟨gb, i * 5 + 1, none⟩ = some (.int .i64 tr) ∧ Z.cell? ⟨gb, i * 5 + 2, none⟩ = some (.int .i64 nx) ∧ Z.cell? ⟨gb, i * 5 + 3, none⟩ = some (.int .i64 cr) ∧ Z.cell? ⟨gb, i * 5 + 4, none⟩ = some (.bool op) ∧ Z.cell? ⟨w.heap.size + 1, 0, none⟩ = some (.int .i64 kd) ∧ Z.cell? ⟨w.heap.size + 1, 1, none⟩ = some (.int .i64 rc) ∧ Z.cell? ⟨w.heap.size + 1, 2, none⟩ = some (.int .i64 kn)) (by kernel_rfl) ⟨p0, p1, p2, p3, p4, q0, q1, q2, q3, q4, e0, e1, e2⟩ (fun hHeld => ?_)
              clear p0 p1 p2 p3 p4 q0 q1 q2 q3 q4 e0 e1 e2
              refine wpAnyH_take (i := 0) (v := ?_) rfl (by kernel_rfl) (by kernel_rfl) (by kernel_rfl) (fun _ _ _ h => h) (Or.inl ⟨by rfl, ?_⟩) (by assumption) ?_
              rotate_left
              · (intro wS hSw; (try dsimp only at hSw); obtain ⟨hS1, hS2, hS3, hS4, hS5, hS6, hS7, hS8, hS9, hS10, hS11, hS12, hS13⟩ := hSw; (try simp only [List.getElem_toArray, List.getElem_cons_succ, List.getElem_cons_zero]); go_simp; try (with_reducible rfl))
              try simp only [Act.put, List.getElem_toArray, List.getElem_cons_succ, List.getElem_cons_zero, List.setIfInBounds_toArray, List.set_cons_zero, List.set_cons_succ]
              refine wpAnyH_take (i := 1) (v := ?_) rfl (by kernel_rfl) (by kernel_rfl) (by kernel_rfl) (fun _ _ _ h => h) (Or.inl ⟨by rfl, ?_⟩) (by assumption) ?_
              rotate_left
              · (intro wS hSw; (try dsimp only at hSw); obtain ⟨hS1, hS2, hS3, hS4, hS5, hS6, hS7, hS8, hS9, hS10, hS11, hS12, hS13⟩ := hSw; (try simp only [List.getElem_toArray, List.getElem_cons_succ, List.getElem_cons_zero]); go_simp; try (with_reducible rfl))
              try simp only [Act.put, List.getElem_toArray, List.getElem_cons_succ, List.getElem_cons_zero, List.setIfInBounds_toArray, List.set_cons_zero, List.set_cons_succ]
              refine wpAnyH_take (i := 2) (v := ?_) rfl (by kernel_rfl) (by kernel_rfl) (by kernel_rfl) (fun _ _ _ h => h) (Or.inl ⟨by rfl, ?_⟩) (by assumption) ?_
              rotate_left
              · (intro wS hSw; (try dsimp only at hSw); obtain ⟨hS1, hS2, hS3, hS4, hS5, hS6, hS7, hS8, hS9, hS10, hS11, hS12, hS13⟩ := hSw; (try simp only [List.getElem_toArray, List.getElem_cons_succ, List.getElem_cons_zero]); go_simp; try (with_reducible rfl))
              try simp only [Act.put, List.getElem_toArray, List.getElem_cons_succ, List.getElem_cons_zero, List.setIfInBounds_toArray, List.set_cons_zero, List.set_cons_succ]
              refine wpAnyH_take (i := 3) (v := ?_) rfl (by kernel_rfl) (by kernel_rfl) (by kernel_rfl) (fun _ _ _ h => h) (Or.inl ⟨by rfl, ?_⟩) (by assumption) ?_
              rotate_left
              · (intro wS hSw; (try dsimp only at hSw); obtain ⟨hS1, hS2, hS3, hS4, hS5, hS6, hS7, hS8, hS9, hS10, hS11, hS12, hS13⟩ := hSw; (try simp only [List.getElem_toArray, List.getElem_cons_succ, List.getElem_cons_zero]); go_simp; try (with_reducible rfl))
              try simp only [Act.put, List.getElem_toArray, List.getElem_cons_succ, List.getElem_cons_zero, List.setIfInBounds_toArray, List.set_cons_zero, List.set_cons_succ]
              refine wpAnyH_take (i := 4) (v := ?_) rfl (by kernel_rfl) (by kernel_rfl) (by kernel_rfl) (fun _ _ _ h => h) (Or.inl ⟨by rfl, ?_⟩) (by assumption) ?_
              rotate_left
              · (intro wS hSw; (try dsimp only at hSw); obtain ⟨hS1, hS2, hS3, hS4, hS5, hS6, hS7, hS8, hS9, hS10, hS11, hS12, hS13⟩ := hSw; (try simp only [List.getElem_toArray, List.getElem_cons_succ, List.getElem_cons_zero]); go_simp; try (with_reducible rfl))
              try simp only [Act.put, List.getElem_toArray, List.getElem_cons_succ, List.getElem_cons_zero, List.setIfInBounds_toArray, List.set_cons_zero, List.set_cons_succ]
              refine wpAnyH_take (i := 5) (v := ?_) rfl (by kernel_rfl) (by kernel_rfl) (by kernel_rfl) (fun _ _ _ h => h) (Or.inl ⟨by rfl, ?_⟩) (by assumption) ?_
              rotate_left
              · (intro wS hSw; (try dsimp only at hSw); obtain ⟨hS1, hS2, hS3, hS4, hS5, hS6, hS7, hS8, hS9, hS10, hS11, hS12, hS13⟩ := hSw; (try simp only [List.getElem_toArray, List.getElem_cons_succ, List.getElem_cons_zero]); go_simp; try (with_reducible rfl))
              try simp only [Act.put, List.getElem_toArray, List.getElem_cons_succ, List.getElem_cons_zero, List.setIfInBounds_toArray, List.set_cons_zero, List.set_cons_succ]
              refine wpAnyH_take (i := 6) (v := ?_) rfl (by kernel_rfl) (by kernel_rfl) (by kernel_rfl) (fun _ _ _ h => h) (Or.inl ⟨by rfl, ?_⟩) (by assumption) ?_
              rotate_left
              · (intro wS hSw; (try dsimp only at hSw); obtain ⟨hS1, hS2, hS3, hS4, hS5, hS6, hS7, hS8, hS9, hS10, hS11, hS12, hS13⟩ := hSw; (try simp only [List.getElem_toArray, List.getElem_cons_succ, List.getElem_cons_zero]); go_simp; try (with_reducible rfl))
              try simp only [Act.put, List.getElem_toArray, List.getElem_cons_succ, List.getElem_cons_zero, List.setIfInBounds_toArray, List.set_cons_zero, List.set_cons_succ]
              refine wpAnyH_take (i := 7) (v := ?_) rfl (by kernel_rfl) (by kernel_rfl) (by kernel_rfl) (fun _ _ _ h => h) (Or.inl ⟨by rfl, ?_⟩) (by assumption) ?_
              rotate_left
              · (intro wS hSw; (try dsimp only at hSw); obtain ⟨hS1, hS2, hS3, hS4, hS5, hS6, hS7, hS8, hS9, hS10, hS11, hS12, hS13⟩ := hSw; (try simp only [List.getElem_toArray, List.getElem_cons_succ, List.getElem_cons_zero]); go_simp; try (with_reducible rfl))
              try simp only [Act.put, List.getElem_toArray, List.getElem_cons_succ, List.getElem_cons_zero, List.setIfInBounds_toArray, List.set_cons_zero, List.set_cons_succ]
              refine wpAnyH_take (i := 8) (v := ?_) rfl (by kernel_rfl) (by kernel_rfl) (by kernel_rfl) (fun _ _ _ h => h) (Or.inl ⟨by rfl, ?_⟩) (by assumption) ?_
              rotate_left
              · (intro wS hSw; (try dsimp only at hSw); obtain ⟨hS1, hS2, hS3, hS4, hS5, hS6, hS7, hS8, hS9, hS10, hS11, hS12, hS13⟩ := hSw; (try simp only [List.getElem_toArray, List.getElem_cons_succ, List.getElem_cons_zero]); go_simp; try (with_reducible rfl))
              try simp only [Act.put, List.getElem_toArray, List.getElem_cons_succ, List.getElem_cons_zero, List.setIfInBounds_toArray, List.set_cons_zero, List.set_cons_succ]
              refine wpAnyH_take (i := 9) (v := ?_) rfl (by kernel_rfl) (by kernel_rfl) (by kernel_rfl) (fun _ _ _ h => h) (Or.inl ⟨by rfl, ?_⟩) (by assumption) ?_
              rotate_left
              · (intro wS hSw; (try dsimp only at hSw); obtain ⟨hS1, hS2, hS3, hS4, hS5, hS6, hS7, hS8, hS9, hS10, hS11, hS12, hS13⟩ := hSw; (try simp only [List.getElem_toArray, List.getElem_cons_succ, List.getElem_cons_zero]); go_simp; try (with_reducible rfl))
              try simp only [Act.put, List.getElem_toArray, List.getElem_cons_succ, List.getElem_cons_zero, List.setIfInBounds_toArray, List.set_cons_zero, List.set_cons_succ]
              refine wpAnyH_take (i := 10) (v := ?_) rfl (by kernel_rfl) (by kernel_rfl) (by kernel_rfl) (fun _ _ _ h => h) (Or.inl ⟨by rfl, ?_⟩) (by assumption) ?_
              rotate_left
              · (intro wS hSw; (try dsimp only at hSw); obtain ⟨hS1, hS2, hS3, hS4, hS5, hS6, hS7, hS8, hS9, hS10, hS11, hS12, hS13⟩ := hSw; (try simp only [List.getElem_toArray, List.getElem_cons_succ, List.getElem_cons_zero]); go_simp; try (with_reducible rfl))
              try simp only [Act.put, List.getElem_toArray, List.getElem_cons_succ, List.getElem_cons_zero, List.setIfInBounds_toArray, List.set_cons_zero, List.set_cons_succ]
              refine wpAnyH_take (i := 11) (v := ?_) rfl (by kernel_rfl) (by kernel_rfl) (by kernel_rfl) (fun _ _ _ h => h) (Or.inl ⟨by rfl, ?_⟩) (by assumption) ?_
              rotate_left
              · (intro wS hSw; (try dsimp only at hSw); obtain ⟨hS1, hS2, hS3, hS4, hS5, hS6, hS7, hS8, hS9, hS10, hS11, hS12, hS13⟩ := hSw; (try simp only [List.getElem_toArray, List.getElem_cons_succ, List.getElem_cons_zero]); go_simp; try (with_reducible rfl))
              try simp only [Act.put, List.getElem_toArray, List.getElem_cons_succ, List.getElem_cons_zero, List.setIfInBounds_toArray, List.set_cons_zero, List.set_cons_succ]
              refine wpAnyH_take (i := 12) (v := ?_) rfl (by kernel_rfl) (by kernel_rfl) (by kernel_rfl) (fun _ _ _ h => h) (Or.inl ⟨by rfl, ?_⟩) (by assumption) ?_
              rotate_left
              · (intro wS hSw; (try dsimp only at hSw); obtain ⟨hS1, hS2, hS3, hS4, hS5, hS6, hS7, hS8, hS9, hS10, hS11, hS12, hS13⟩ := hSw; (try simp only [List.getElem_toArray, List.getElem_cons_succ, List.getElem_cons_zero]); go_simp; try (with_reducible rfl))
              try simp only [Act.put, List.getElem_toArray, List.getElem_cons_succ, List.getElem_cons_zero, List.setIfInBounds_toArray, List.set_cons_zero, List.set_cons_succ]
              refine wpAnyH_take (i := 13) (v := ?_) rfl (by kernel_rfl) (by kernel_rfl) (by kernel_rfl) (fun _ _ _ h => h) (Or.inl ⟨by rfl, ?_⟩) (by assumption) ?_
              rotate_left
              · (intro wS hSw; (try dsimp only at hSw); obtain ⟨hS1, hS2, hS3, hS4, hS5, hS6, hS7, hS8, hS9, hS10, hS11, hS12, hS13⟩ := hSw; (try simp only [List.getElem_toArray, List.getElem_cons_succ, List.getElem_cons_zero]); go_simp; try (with_reducible rfl))
              try simp only [Act.put, List.getElem_toArray, List.getElem_cons_succ, List.getElem_cons_zero, List.setIfInBounds_toArray, List.set_cons_zero, List.set_cons_succ]
              refine wpAnyH_take (i := 14) (v := ?_) rfl (by kernel_rfl) (by kernel_rfl) (by kernel_rfl) (fun _ _ _ h => h) (Or.inl ⟨by rfl, ?_⟩) (by assumption) ?_
              rotate_left
              · (intro wS hSw; (try dsimp only at hSw); obtain ⟨hS1, hS2, hS3, hS4, hS5, hS6, hS7, hS8, hS9, hS10, hS11, hS12, hS13⟩ := hSw; (try simp only [List.getElem_toArray, List.getElem_cons_succ, List.getElem_cons_zero]); go_simp; try (with_reducible rfl))
              try simp only [Act.put, List.getElem_toArray, List.getElem_cons_succ, List.getElem_cons_zero, List.setIfInBounds_toArray, List.set_cons_zero, List.set_cons_succ]
              refine wpAnyH_take (i := 15) (v := ?_) rfl (by kernel_rfl) (by kernel_rfl) (by kernel_rfl) (fun _ _ _ h => h) (Or.inl ⟨by rfl, ?_⟩) (by assumption) ?_
              rotate_left
              · (intro wS hSw; (try dsimp only at hSw); obtain ⟨hS1, hS2, hS3, hS4, hS5, hS6, hS7, hS8, hS9, hS10, hS11, hS12, hS13⟩ := hSw; (try simp only [List.getElem_toArray, List.getElem_cons_succ, List.getElem_cons_zero]); go_simp; try (with_reducible rfl))
              try simp only [Act.put, List.getElem_toArray, List.getElem_cons_succ, List.getElem_cons_zero, List.setIfInBounds_toArray, List.set_cons_zero, List.set_cons_succ]
              refine wpAnyH_take (i := 16) (v := ?_) rfl (by kernel_rfl) (by kernel_rfl) (by kernel_rfl) (fun _ _ _ h => h) (Or.inl ⟨by rfl, ?_⟩) (by assumption) ?_
              rotate_left
              · (intro wS hSw; (try dsimp only at hSw); obtain ⟨hS1, hS2, hS3, hS4, hS5, hS6, hS7, hS8, hS9, hS10, hS11, hS12, hS13⟩ := hSw; (try simp only [List.getElem_toArray, List.getElem_cons_succ, List.getElem_cons_zero]); go_simp; try (with_reducible rfl))
              try simp only [Act.put, List.getElem_toArray, List.getElem_cons_succ, List.getElem_cons_zero, List.setIfInBounds_toArray, List.set_cons_zero, List.set_cons_succ]
              refine wpAnyH_take (i := 17) (v := ?_) rfl (by kernel_rfl) (by kernel_rfl) (by kernel_rfl) (fun _ _ _ h => h) (Or.inl ⟨by rfl, ?_⟩) (by assumption) ?_
              rotate_left
              · (intro wS hSw; (try dsimp only at hSw); obtain ⟨hS1, hS2, hS3, hS4, hS5, hS6, hS7, hS8, hS9, hS10, hS11, hS12, hS13⟩ := hSw; (try simp only [List.getElem_toArray, List.getElem_cons_succ, List.getElem_cons_zero]); go_simp; try (with_reducible rfl))
              try simp only [Act.put, List.getElem_toArray, List.getElem_cons_succ, List.getElem_cons_zero, List.setIfInBounds_toArray, List.set_cons_zero, List.set_cons_succ]
              refine wpAnyH_take (i := 18) (v := ?_) rfl (by kernel_rfl) (by kernel_rfl) (by kernel_rfl) (fun _ _ _ h => h) (Or.inl ⟨by rfl, ?_⟩) (by assumption) ?_
              rotate_left
              · (intro wS hSw; (try dsimp only at hSw); obtain ⟨hS1, hS2, hS3, hS4, hS5, hS6, hS7, hS8, hS9, hS10, hS11, hS12, hS13⟩ := hSw; (try simp only [List.getElem_toArray, List.getElem_cons_succ, List.getElem_cons_zero]); go_simp; try (with_reducible rfl))
              try simp only [Act.put, List.getElem_toArray, List.getElem_cons_succ, List.getElem_cons_zero, List.setIfInBounds_toArray, List.set_cons_zero, List.set_cons_succ]
              refine wpAnyH_take (i := 19) (v := ?_) rfl (by kernel_rfl) (by kernel_rfl) (by kernel_rfl) (fun _ _ _ h => h) (Or.inl ⟨by rfl, ?_⟩) (by assumption) ?_
              rotate_left
              · (intro wS hSw; (try dsimp only at hSw); obtain ⟨hS1, hS2, hS3, hS4, hS5, hS6, hS7, hS8, hS9, hS10, hS11, hS12, hS13⟩ := hSw; (try simp only [List.getElem_toArray, List.getElem_cons_succ, List.getElem_cons_zero]); go_simp; try (with_reducible rfl))
              try simp only [Act.put, List.getElem_toArray, List.getElem_cons_succ, List.getElem_cons_zero, List.setIfInBounds_toArray, List.set_cons_zero, List.set_cons_succ]
              refine wpAnyH_take (i := 20) (v := ?_) rfl (by kernel_rfl) (by kernel_rfl) (by kernel_rfl) (fun _ _ _ h => h) (Or.inl ⟨by rfl, ?_⟩) (by assumption) ?_
              rotate_left
              · (intro wS hSw; (try dsimp only at hSw); obtain ⟨hS1, hS2, hS3, hS4, hS5, hS6, hS7, hS8, hS9, hS10, hS11, hS12, hS13⟩ := hSw; (try simp only [List.getElem_toArray, List.getElem_cons_succ, List.getElem_cons_zero]); go_simp; try (with_reducible rfl))
              try simp only [Act.put, List.getElem_toArray, List.getElem_cons_succ, List.getElem_cons_zero, List.setIfInBounds_toArray, List.set_cons_zero, List.set_cons_succ]
              refine wpAnyH_take (i := 21) (v := undef) rfl (by kernel_rfl) (by kernel_rfl) (by kernel_rfl) (fun _ _ _ h => h) (Or.inr ⟨by rfl, rfl⟩) (by assumption) ?_
              try simp only [Act.put, List.getElem_toArray, List.getElem_cons_succ, List.getElem_cons_zero, List.setIfInBounds_toArray, List.set_cons_zero, List.set_cons_succ]
              refine wpAnyH_take (i := 22) (v := undef) rfl (by kernel_rfl) (by kernel_rfl) (by kernel_rfl) (fun _ _ _ h => h) (Or.inr ⟨by rfl, rfl⟩) (by assumption) ?_
              try simp only [Act.put, List.getElem_toArray, List.getElem_cons_succ, List.getElem_cons_zero, List.setIfInBounds_toArray, List.set_cons_zero, List.set_cons_succ]
              refine wpAnyH_take (i := 23) (v := undef) rfl (by kernel_rfl) (by kernel_rfl) (by kernel_rfl) (fun _ _ _ h => h) (Or.inr ⟨by rfl, rfl⟩) (by assumption) ?_
              try simp only [Act.put, List.getElem_toArray, List.getElem_cons_succ, List.getElem_cons_zero, List.setIfInBounds_toArray, List.set_cons_zero, List.set_cons_succ]
              refine wpAnyH_take (i := 24) (v := undef) rfl (by kernel_rfl) (by kernel_rfl) (by kernel_rfl) (fun _ _ _ h => h) (Or.inr ⟨by rfl, rfl⟩) (by assumption) ?_
              try simp only [Act.put, List.getElem_toArray, List.getElem_cons_succ, List.getElem_cons_zero, List.setIfInBounds_toArray, List.set_cons_zero, List.set_cons_succ]
              refine wpAnyH_take (i := 25) (v := undef) rfl (by kernel_rfl) (by kernel_rfl) (by kernel_rfl) (fun _ _ _ h => h) (Or.inr ⟨by rfl, rfl⟩) (by assumption) ?_
              try simp only [Act.put, List.getElem_toArray, List.getElem_cons_succ, List.getElem_cons_zero, List.setIfInBounds_toArray, List.set_cons_zero, List.set_cons_succ]
              refine wpAnyH_take (i := 26) (v := undef) rfl (by kernel_rfl) (by kernel_rfl) (by kernel_rfl) (fun _ _ _ h => h) (Or.inr ⟨by rfl, rfl⟩) (by assumption) ?_
              try simp only [Act.put, List.getElem_toArray, List.getElem_cons_succ, List.getElem_cons_zero, List.setIfInBounds_toArray, List.set_cons_zero, List.set_cons_succ]
              refine wpAnyH_take (i := 27) (v := undef) rfl (by kernel_rfl) (by kernel_rfl) (by kernel_rfl) (fun _ _ _ h => h) (Or.inr ⟨by rfl, rfl⟩) (by assumption) ?_
              try simp only [Act.put, List.getElem_toArray, List.getElem_cons_succ, List.getElem_cons_zero, List.setIfInBounds_toArray, List.set_cons_zero, List.set_cons_succ]
              refine wpAnyH_take (i := 28) (v := undef) rfl (by kernel_rfl) (by kernel_rfl) (by kernel_rfl) (fun _ _ _ h => h) (Or.inr ⟨by rfl, rfl⟩) (by assumption) ?_
              try simp only [Act.put, List.getElem_toArray, List.getElem_cons_succ, List.getElem_cons_zero, List.setIfInBounds_toArray, List.set_cons_zero, List.set_cons_succ]
              refine wpAnyH_take (i := 29) (v := undef) rfl (by kernel_rfl) (by kernel_rfl) (by kernel_rfl) (fun _ _ _ h => h) (Or.inr ⟨by rfl, rfl⟩) (by assumption) ?_
              try simp only [Act.put, List.getElem_toArray, List.getElem_cons_succ, List.getElem_cons_zero, List.setIfInBounds_toArray, List.set_cons_zero, List.set_cons_succ]
              refine wpAnyH_take (i := 30) (v := undef) rfl (by kernel_rfl) (by kernel_rfl) (by kernel_rfl) (fun _ _ _ h => h) (Or.inr ⟨by rfl, rfl⟩) (by assumption) ?_
              try simp only [Act.put, List.getElem_toArray, List.getElem_cons_succ, List.getElem_cons_zero, List.setIfInBounds_toArray, List.set_cons_zero, List.set_cons_succ]
              refine wpAnyH_take (i := 31) (v := undef) rfl (by kernel_rfl) (by kernel_rfl) (by kernel_rfl) (fun _ _ _ h => h) (Or.inr ⟨by rfl, rfl⟩) (by assumption) ?_
              try simp only [Act.put, List.getElem_toArray, List.getElem_cons_succ, List.getElem_cons_zero, List.setIfInBounds_toArray, List.set_cons_zero, List.set_cons_succ]
              refine wpAnyH_take (i := 32) (v := ?_) rfl (by kernel_rfl) (by kernel_rfl) (by kernel_rfl) (fun _ _ _ h => h) (Or.inl ⟨by rfl, ?_⟩) (by assumption) ?_
              rotate_left
              · (intro wS hSw; (try dsimp only at hSw); obtain ⟨hS1, hS2, hS3, hS4, hS5, hS6, hS7, hS8, hS9, hS10, hS11, hS12, hS13⟩ := hSw; (try simp only [List.getElem_toArray, List.getElem_cons_succ, List.getElem_cons_zero]); go_simp; try (with_reducible rfl))
              try simp only [Act.put, List.getElem_toArray, List.getElem_cons_succ, List.getElem_cons_zero, List.setIfInBounds_toArray, List.set_cons_zero, List.set_cons_succ]
              refine wpAnyH_take (i := 33) (v := ?_) rfl (by kernel_rfl) (by kernel_rfl) (by kernel_rfl) (fun _ _ _ h => h) (Or.inl ⟨by rfl, ?_⟩) (by assumption) ?_
              rotate_left
              · (intro wS hSw; (try dsimp only at hSw); obtain ⟨hS1, hS2, hS3, hS4, hS5, hS6, hS7, hS8, hS9, hS10, hS11, hS12, hS13⟩ := hSw; (try simp only [List.getElem_toArray, List.getElem_cons_succ, List.getElem_cons_zero]); go_simp; try (with_reducible rfl))
              try simp only [Act.put, List.getElem_toArray, List.getElem_cons_succ, List.getElem_cons_zero, List.setIfInBounds_toArray, List.set_cons_zero, List.set_cons_succ]
              refine wpAnyH_done (by kernel_rfl) ?_ _
              refine NoPanic.normal ?_
              go_wp2
              go_roundw
              case rel => exact ⟨i + 1, HN1.out, by go_num, Lib.hid kD8⟩
              case measure => have := HN1.out; simp [intOf]; omega
          · go_wp2_with fail
            refine (HA.out _ (HE.out.quiet (K7.out.trans KR.out (fun _ _ h => h)))).mono ?_
            rintro e w9 ⟨rfl, hk9⟩
            have K9 := Lib.hid ((K7.out.trans KR.out (fun _ _ h => h)).trans hk9 (fun _ _ h => h))
            clear hk9
            go_wp2
            go_ret
            exact ⟨rfl, (K0.out.trans K9.out (fun _ _ h => h)).below (Nat.le_refl _) (fun _ h => h.elim)⟩

/-! ### The row's step -/
theorem met (os : Os) : laidMetH Tryz.prog Rows.qfileMoreRow.laid ((World.laidAll Tryz.prog os Rows.qfileMoreRow.laid).forCall (fun _ _ => 0) ⟨#[], #[.agg #[.int .i64 0, .int .i64 0, .int .i64 0, .string { data := #[] }, .slice none 0 0, .slice none 0 0], .slice none 0 0, .agg #[.int .i64 0, .int .i64 0, .int .i64 0]], []⟩).memory := by
  rw [MakeChecks.laidMetH_plain _ _ _ (by kernel_rfl)]; exact laidMet_laidAll _ (by kernel_rfl) (by kernel_rfl)
theorem reads (os : Os) {H : Type} (enc : TypeId × Value → H) : ∃ places, DataW.whole enc Tryz.prog ((World.laidAll Tryz.prog os Rows.qfileMoreRow.laid).forCall (fun _ _ => 0) ⟨#[], #[.agg #[.int .i64 0, .int .i64 0, .int .i64 0, .string { data := #[] }, .slice none 0 0, .slice none 0 0], .slice none 0 0, .agg #[.int .i64 0, .int .i64 0, .int .i64 0]], []⟩).memory Tryz.f7.params.toList Rows.qfileMoreSpec.vars false (#[.agg #[.int .i64 0, .int .i64 0, .int .i64 0, .string { data := #[] }, .slice none 0 0, .slice none 0 0], .slice none 0 0, .agg #[.int .i64 0, .int .i64 0, .int .i64 0]] : Array Value).toList 8 = some ([.agg [.lit (.int .i64 0), .lit (.int .i64 0), .lit (.int .i64 0), .lit (.string []), .nil, .nil], .nil, .agg [.lit (.int .i64 0), .lit (.int .i64 0), .lit (.int .i64 0)]], [], places) :=
  ⟨[], by kernel_rfl⟩
set_option maxRecDepth 100000 in
theorem fits (os : Os) {H : Type} (enc : TypeId × Value → H) : ∃ (w : World) (tape : Tape) (i : Input), w.os = os ∧ (w.forCall tape i).Shaped Tryz.checked.prog ∧ i.vars = [] ∧ Input.okWide Tryz.checked.prog (w.forCall tape i) .any w.heap.size 7 i ∧
    (OpenSpec.ofChange Rows.qfileMoreSpec).preRow enc Tryz.checked.prog Tryz.f7 Rows.qfileMoreRow.domain false Rows.qfileMoreRow.laid (w.forCall tape i).memory i.args ∧ ({} : Assume).holds Tryz.checked.prog (lone (Frame.enter Tryz.checked.prog 7 i.args .normal) [] (w.forCall tape i)) := by
  obtain ⟨places, hx⟩ := reads os enc
  have hok : Input.okWideB Tryz.checked.prog ((World.laidAll Tryz.prog os Rows.qfileMoreRow.laid).forCall (fun _ _ => 0) ⟨#[], #[.agg #[.int .i64 0, .int .i64 0, .int .i64 0, .string { data := #[] }, .slice none 0 0, .slice none 0 0], .slice none 0 0, .agg #[.int .i64 0, .int .i64 0, .int .i64 0]], []⟩) 7 ⟨#[], #[.agg #[.int .i64 0, .int .i64 0, .int .i64 0, .string { data := #[] }, .slice none 0 0, .slice none 0 0], .slice none 0 0, .agg #[.int .i64 0, .int .i64 0, .int .i64 0]], []⟩ = true := by kernel_rfl
  exact ⟨(World.laidAll Tryz.prog os Rows.qfileMoreRow.laid), fun _ _ => 0, ⟨#[], #[.agg #[.int .i64 0, .int .i64 0, .int .i64 0, .string { data := #[] }, .slice none 0 0, .slice none 0 0], .slice none 0 0, .agg #[.int .i64 0, .int .i64 0, .int .i64 0]], []⟩, World.laidAll_os _ _ _, World.shaped_of_ZipB (by kernel_rfl) (by kernel_rfl), (Input.okWide_of_okWideB (base := 0) hok).1, (Input.okWide_of_okWideB hok).2,
    OpenSpec.preRow_of_cond 8 hx (by kernel_rfl) (fun k hk => by cases hk) (by kernel_rfl) (met os), by
      simp only [Assume.holds]
      exact ⟨by simp, by simp, fun _ => Modest.zero, by simp, by simp⟩⟩

set_option maxRecDepth 100000 in
theorem lifted (os : Os) (started : os.Started) (H : Type) (enc : TypeId × Value → H) (F : Stop.Interp) :
    ReturnsInHanded {} Tryz.checked os 7 .any ((OpenSpec.ofChange Rows.qfileMoreSpec).preRow enc Tryz.prog Tryz.f7 Rows.qfileMoreRow.domain false Rows.qfileMoreRow.laid) (((OpenSpec.ofChange Rows.qfileMoreSpec).at F).post enc Tryz.prog Tryz.f7 false true false false) := by
  refine returnsInHanded_of_row (C := Tryz.checked) (s := OpenSpec.ofChange Rows.qfileMoreSpec) own started (by kernel_rfl) Tryz.func7 (fits os enc) ?_
  intro W base args ds gs before hval0 hW0 _ hcond hsz hL shape _
  show Calls Tryz.prog 7 args W fun e W' => ∃ v, e = .returned v ∧ Rows.qfileMoreSpec.post enc Tryz.prog Tryz.f7 false true false false W args v W'
  have hval : ∀ (j : Nat) t v, Tryz.f7.params[j]? = some t → args[j]? = some v → Value.okWide Tryz.prog W .any base t v := hval0
  have hW : DataW.Whole enc Tryz.prog Tryz.f7.params.toList Rows.qfileMoreSpec.vars false W args.toList ds gs before := hW0
  have hW' := hW
  obtain ⟨p, q, hA0, hV, rfl, hfz, hnd⟩ := hW
  have hA : DataW.TrodAll enc Tryz.prog W 0 (fun _ => true) true Tryz.f7.params.toList args.toList ds p := hA0
  rw [Tryz.params7] at hA hval
  obtain ⟨v0, vs0, d0, ds0, p0, q0, hargs, rfl, rfl, h0, r0⟩ := trodAll_cons hA
  obtain ⟨v1, vs1, d1, ds1, p1, q1, rfl, rfl, rfl, h1, r1⟩ := trodAll_cons r0
  obtain ⟨v2, vs2, d2, ds2, p2, q2, rfl, rfl, rfl, h2, r2⟩ := trodAll_cons r1
  obtain ⟨rfl, rfl, rfl⟩ := trodAll_nil r2
  obtain rfl : args = #[v0, v1, v2] := by cases args; simp_all
  obtain ⟨rfl, rfl⟩ := trodVars_none hV
  obtain ⟨c0, rfl, _⟩ := okWide_struct Tryz.underlying25 (hval 0 25 v0 rfl rfl)
  have k0 := h0
  have lt0 : ∀ x ∈ p0, x.block < W.heap.size := by obtain ⟨m, hm⟩ := k0; exact DataW.trod_lt m _ _ _ hm
  obtain ⟨m0, rx0, rc0, bx0, bc0, e0, M0, F0, R0⟩ : ∃ m rx rc bx bc, c0 = Ln.mlC m rx m.rcpts.length rc bx m.body.length bc ∧ Ln.MlAt (fun k => k < W.heap.size) W m rx m.rcpts.length rc bx m.body.length bc ∧ m.frm.size ≤ 9223372036854775807 ∧ ∀ s ∈ m.rcpts, s.size ≤ 9223372036854775807 := by
    obtain ⟨fuel, hf⟩ := h0
    exact Ln.arg_mail hf
  subst e0
  obtain ⟨a1, len1, cap1, rfl⟩ := okWide_slice Tryz.underlying26 (hval 1 26 v1 rfl rfl)
  have k1 := h1
  have lt1 : ∀ x ∈ p1, x.block < W.heap.size := by obtain ⟨m, hm⟩ := k1; exact DataW.trod_lt m _ _ _ hm
  obtain ⟨b1, x1, c1, e1, l1, _, B1, mm1⟩ : ∃ a L cap, Value.slice a1 len1 cap1 = .slice a L.length cap ∧ L.length ≤ cap ∧ cap ≤ 9223372036854775807 ∧ Ln.MkP (fun k => k < W.heap.size) W a L ∧ ((∀ n ∈ d1.weights Tryz.prog 26, n ≤ reachBytes) → cap * 24 ≤ 140737488351232) := by
    obtain ⟨fuel, hf⟩ := h1
    exact Ln.arg_marks hf
  have m1 := mm1 (fun n hn => by
    have := List.all_eq_true.1 hsz n (DataW.weights_mem_each (j := 1) rfl rfl n hn)
    simpa using this)
  injection e1 with e1 f1 g1
  subst e1 f1 g1
  obtain ⟨c2, rfl, _⟩ := okWide_struct Tryz.underlying57 (hval 2 57 v2 rfl rfl)
  have k2 := h2
  have lt2 : ∀ x ∈ p2, x.block < W.heap.size := by obtain ⟨m, hm⟩ := k2; exact DataW.trod_lt m _ _ _ hm
  obtain ⟨m2, e2⟩ : ∃ m, c2 = Ln.mkC m := by
    obtain ⟨fuel, hf⟩ := h2
    exact Ln.arg_mark hf
  subst e2
  have hE := Ln.env9 W shape
  clear hA0 hval0
  refine (walk m0 rx0 rc0 bx0 bc0 a1 x1 cap1 m2 W M0 F0 R0 l1 m1 B1  hE).mono fun e W' ⟨he, bel⟩ => ?_
  subst he
  exact ⟨_, rfl, _, _, _, [], _, [], hW', trodAll_mk1 (shut_bool Tryz.underlying4 _), (trodAll_cons_mk (Below.trod (by kernel_rfl) (by kernel_rfl) (of_decide_eq_true (by kernel_rfl)) k0 bel lt0) (trodAll_cons_mk (Below.trod (by kernel_rfl) (by kernel_rfl) (of_decide_eq_true (by kernel_rfl)) k1 bel lt1) (trodAll_cons_mk (Below.trod (by kernel_rfl) (by kernel_rfl) (of_decide_eq_true (by kernel_rfl)) k2 bel lt2) trodAll_mk0))), rfl, bel.frame _, fun h => by cases h⟩

theorem over : Rows.QfileMoreSaid :=
  OpenClaim.holds_of_cond 7 Tryz.f7 rfl rfl rfl rfl rfl rfl rfl ⟨rfl, rfl, rfl, rfl, rfl⟩ rfl rfl rfl rfl rfl (by kernel_rfl) Tryz.func7 (by kernel_rfl)
    (of_decide_eq_true (by kernel_rfl)) (by unfold Func.isWrapper; first | (rw [if_pos (by decide +kernel)]; kernel_rfl) | (rw [if_neg (by decide +kernel)]; exact ⟨rfl, rfl⟩))
    (fun os started H enc _ F => by rw [OpenClaim.pre_eq_preRow]; exact lifted os started H enc F)

theorem plain (f : FuncId) (fn : Func) (hf : Tryz.pinned.checked.prog.funcNamed "pillarbox/pillarboxlaw12.QfileMore" = some f) (hfn : Tryz.pinned.checked.prog.funcs[f]? = some fn) :
    false = Tryz.pinned.checked.prog.looks [] ∧ ∀ (j : Nat) t, fn.params[j]? = some t → Tryz.pinned.checked.prog.wantsStandIn t = false := by
  obtain rfl : f = 7 := Option.some.inj ((show Tryz.prog.funcNamed "pillarbox/pillarboxlaw12.QfileMore" = some 7 by kernel_rfl).symm.trans hf) |>.symm
  obtain rfl : fn = Tryz.f7 := (Option.some.inj (Tryz.func7.symm.trans hfn)).symm
  refine ⟨by kernel_rfl, fun j t ht => ?_⟩
  rw [Tryz.params7] at ht
  have hm : t ∈ [25, 26, 57] := by simpa using Array.mem_of_getElem? ht
  have hall : ([25, 26, 57].all fun u => !Tryz.prog.wantsStandIn u) = true := by kernel_rfl
  exact (show Tryz.prog.wantsStandIn t = false by simpa using List.all_eq_true.1 hall t hm)

/-- The statement: the tied card. -/
theorem proved : Rows.QfileMoreCardSaid :=
  Claim7.holds_tied_plain_at .later [] _ _ _ _ over (fun _ h => by cases h) (by kernel_rfl) (fun _ h => by cases h) qfileMore_row_tie rfl ⟨rfl, rfl⟩ (by kernel_rfl) rfl plain (by kernel_rfl)
#print axioms proved
end Go.Proofs.YtimoebicacnihaaGreatDoor.qfileMore
