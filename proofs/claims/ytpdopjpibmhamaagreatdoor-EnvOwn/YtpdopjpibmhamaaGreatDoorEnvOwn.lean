/-
  Proved here: a mail handed to Encode and the document's record are left as they were, and what Decode answered keeps its fields, whatever one writes into the record that came out (the law EnvOwn returns true). Conditions: the card's own (variables of Go's library as its text lays them); the law itself asks for a light mail of at most 1000 bytes of body.
-/
import Derived.Test.YtpdopjpibmhamaaGreatDoorRows
import Derived.Test.YtpdopjpibmhamaaGreatDoorCards
import Derived.Test.YtpdopjpibmhamaaGreatDoorTie
import Derived.Test.YtpdopjpibmhamaaGreatDoorEj
import Derived.Lib.Hide
import Derived.WalkKit
import Derived.ProofKit
import Derived.OpenShut
import Derived.ShutString
import Derived.ChangeOld
import Derived.Below
import Derived.Lay
import Derived.SevenTiedAt
import Derived.Stop.Joined
import Derived.Deep.DeepHandedRow
namespace Go.Proofs.YtpdopjpibmhamaaGreatDoor.envOwn
open Go.ChangeShapes Go.WideShapes Go.ChangeAt Go.RowKit
set_option linter.unusedVariables false
set_option linter.unusedSimpArgs false
open Ln
theorem own : ownKnob Tryz.prog.godebug = none := by kernel_rfl

/-! ### The walk -/
set_option maxHeartbeats 4000000 in
set_option maxRecDepth 100000 in
theorem walk (m0 : Ln.Ml) (rx0 : Option Addr) (rc0 : Nat) (bx0 : Option Addr) (bc0 : Nat) (w : World) (M0 : Ln.MlAt (fun k => k < w.heap.size) w m0 rx0 m0.rcpts.length rc0 bx0 m0.body.length bc0) (hE : Ln.Env w) :
    Calls Tryz.prog 6 #[.agg (Ln.mlC m0 rx0 m0.rcpts.length rc0 bx0 m0.body.length bc0)] w fun e w' => e = .returned (.bool true) ∧ Below w.heap.size w w' := by
  have k0 := keep_new w (.cells (mlC m0 rx0 m0.rcpts.length rc0 bx0 m0.body.length bc0) 25)
  have HA := Lib.hid (fun W e => answersC W e)
  have HAT : Hid (At (w.alloc (.cells (mlC m0 rx0 m0.rcpts.length rc0 bx0 m0.body.length bc0) 25)) w.heap.size 25 (mlC m0 rx0 m0.rcpts.length rc0 bx0 m0.body.length bc0)) := Lib.hid (At.new w _ _)
  have HM := Lib.hid (M0.quiet k0)
  have HE := Lib.hid (hE.quiet k0)
  have K0 := Lib.hid k0
  have HB8 := Lib.hid M0.bs.1
  have HLI := Lib.hid (lightC HM.out)
  have HGO : Hid (∀ W, Keep (fun _ => False) (w.alloc (.cells (mlC m0 rx0 m0.rcpts.length rc0 bx0 m0.body.length bc0) 25)) W → lightB m0 = true → Calls Tryz.prog 11 #[.agg (mlC m0 rx0 m0.rcpts.length rc0 bx0 m0.body.length bc0)] W (Quiet (.bool (goodM m0)) W)) := Lib.hid (fun W k hl => refGoodC (HM.out.quiet k).it (light_parts hl).1 (light_parts hl).2.1)
  have HRE : Hid (∀ W, Keep (fun _ => False) (w.alloc (.cells (mlC m0 rx0 m0.rcpts.length rc0 bx0 m0.body.length bc0) 25)) W → goodM m0 = true → Calls Tryz.prog 14 #[.agg (mlC m0 rx0 m0.rcpts.length rc0 bx0 m0.body.length bc0)] W (Recorded m0 W)) := Lib.hid (fun W k hg => refRecordC (HM.out.quiet k) (goodM_fine hg))
  have HCE : Hid (∀ W, Keep (fun _ => False) (w.alloc (.cells (mlC m0 rx0 m0.rcpts.length rc0 bx0 m0.body.length bc0) 25)) W → Cells W w.heap.size m0 rx0 m0.rcpts.length rc0 bx0 m0.body.length bc0) := Lib.hid (fun W k => cells_of (HAT.out.keep k (fun h => h)))
  clear k0 M0 hE
  unfold mlC at HAT HM HE K0 HLI HGO HRE HCE ⊢
  cases hl : lightB m0 with
  | false =>
    rw [hl] at HLI
    go_enter Tryz.func6, Tryz.ntmps6
    go_wp2_with fail
    refine HLI.out.mono ?_
    rintro e u1 ⟨rfl, hk1⟩
    go_wp2_with fail
    refine (HA.out _ (HE.out.quiet hk1)).mono ?_
    rintro e u2 ⟨rfl, hk2⟩
    go_wp2
    go_ret
    exact ⟨rfl, ((K0.out.trans hk1 (fun _ _ h => h)).trans hk2 (fun _ _ h => h)).below (Nat.le_refl _) (fun _ h => h.elim)⟩
  | true =>
  rw [hl] at HLI
  have HLL := Lib.hid hl
  clear hl
  cases hg : goodM m0 with
  | false =>
    rw [hg] at HGO
    go_enter Tryz.func6, Tryz.ntmps6
    go_wp2_with fail
    refine HLI.out.mono ?_
    rintro e u1 ⟨rfl, hk1⟩
    obtain ⟨c0, c1, c2, c3, c4, c5⟩ := HCE.out u1 hk1
    go_wp2_with fail
    refine (HGO.out u1 hk1 HLL.out).mono ?_
    rintro e u2 ⟨rfl, hk2⟩
    have hk12 := hk1.trans hk2 (fun _ _ h => h)
    go_wp2_with fail
    refine (HA.out _ (HE.out.quiet hk12)).mono ?_
    rintro e u3 ⟨rfl, hk3⟩
    go_wp2
    go_ret
    exact ⟨rfl, ((K0.out.trans hk12 (fun _ _ h => h)).trans hk3 (fun _ _ h => h)).below (Nat.le_refl _) (fun _ h => h.elim)⟩
  | true =>
  rw [hg] at HGO
  have HGG := Lib.hid hg
  clear hg
  by_cases hbig : (1000 : Int) < (m0.body.length : Int)
  · go_enter Tryz.func6, Tryz.ntmps6
    go_wp2_with fail
    refine HLI.out.mono ?_
    rintro e u1 ⟨rfl, hk1⟩
    obtain ⟨c0, c1, c2, c3, c4, c5⟩ := HCE.out u1 hk1
    go_wp2_with fail
    refine (HGO.out u1 hk1 HLL.out).mono ?_
    rintro e u2 ⟨rfl, hk2⟩
    have hk12 := hk1.trans hk2 (fun _ _ h => h)
    obtain ⟨d0, d1, d2, d3, d4, d5⟩ := HCE.out u2 hk12
    go_wp2_with fail
    refine (HA.out _ (HE.out.quiet hk12)).mono ?_
    rintro e u3 ⟨rfl, hk3⟩
    go_wp2
    go_ret
    exact ⟨rfl, ((K0.out.trans hk12 (fun _ _ h => h)).trans hk3 (fun _ _ h => h)).below (Nat.le_refl _) (fun _ h => h.elim)⟩
  go_enter Tryz.func6, Tryz.ntmps6
  go_wp2_with fail
  refine HLI.out.mono ?_
  rintro e u1 ⟨rfl, hk1⟩
  obtain ⟨c0, c1, c2, c3, c4, c5⟩ := HCE.out u1 hk1
  go_wp2_with fail
  refine (HGO.out u1 hk1 HLL.out).mono ?_
  rintro e u2 ⟨rfl, hk2⟩
  have K2 := Lib.hid (hk1.trans hk2 (fun _ _ h => h))
  obtain ⟨d0, d1, d2, d3, d4, d5⟩ := HCE.out u2 K2.out
  clear hk1 hk2 c0 c1 c2 c3 c4 c5
  go_wp2_with fail
  refine (ownC (HM.out.quiet K2.out) (by have := (light_parts HLL.out).2.2.1; omega) (by have := (light_parts HLL.out).2.2.2; omega)).mono ?_
  rintro e u3 ⟨rx3, rn3, rc3, bx3, bn3, bc3, rfl, hM3, hk3⟩
  obtain ⟨W4, hW4, hk4, hA4, hs4⟩ := put_mail u3 m0 rx3 rn3 rc3 bx3 bn3 bc3
  have K4 := Lib.hid ((K2.out.trans hk3 (fun _ _ h => h)).trans hk4 (fun _ _ h => h))
  have HM4 := Lib.hid ((hM3.mono (Q := fun b => b < u3.heap.size) (fun b hb _ => hb)).quiet hk4)
  have HZ3 := Lib.hid (mz_new u3)
  have HW4 := Lib.hid hW4
  obtain ⟨C, hC⟩ : ∃ C, C = u3.heap.size := ⟨_, rfl⟩
  rw [← hC] at hA4 hs4 HZ3 HM4
  have HA4 := Lib.hid hA4
  have HCC := Lib.hid hC
  have HS4 := Lib.hid hs4
  obtain ⟨c0, c1, c2, c3, c4, c5⟩ := cells_of hA4
  clear hM3 hk3 hW4 hk4 hA4 hs4 hC d0 d1 d2 d3 d4 d5 hbig
  go_wp2_with (rw [← HCC.out]; refine wpList_store_row (by rfl) 25 (.tmp 3) (.tmp 28) (by rfl) C (mlC m0 rx3 rn3 rc3 bx3 bn3 bc3) (by rfl) (by rfl) 25 _ HZ3.out infoM rfl (one_ml _ _ _ _ _ _ _ _ _ _) ?_; rw [HCC.out, ← HW4.out, ← HCC.out])
  refine (encodeC boxC linesC (HE.out.quiet K4.out) HM4.out).mono ?_
  rintro e u5 ⟨hk5, hif⟩
  rw [HGG.out, if_pos rfl] at hif
  obtain ⟨y, n, cap, hn, rfl, hO, hnew⟩ := hif
  obtain ⟨g, rfl, hown, hnn, hnc, hR⟩ := hO.rowB (record_pos m0)
  have hgW : W4.heap.size ≤ g := hnew g hown
  have hg5 : g < u5.heap.size := by obtain ⟨cur, h1, _⟩ := hR; exact h1.lt
  have hns : n ≤ 10000 := by rw [hn]; exact record_small (goodM_fine HGG.out)
  have K5 := Lib.hid (K4.out.trans hk5 (fun _ _ h => h))
  have HN := Lib.hid hn
  have HR5 := Lib.hid hR
  have HG := Lib.hid hgW
  have HG5 := Lib.hid hg5
  have HM5 := Lib.hid (HM4.out.quiet hk5)
  have HA5 := Lib.hid (HA4.out.keep hk5 (fun h => h))
  have HB5 := Lib.hid (hR.bytes (record_lt HB8.out))
  clear hnn hk5 hO hnew hown hR hn hgW hg5 c0 c1 c2 c3 c4 c5
  go_wp2_with fail
  refine (decodeC boxC linesC (HE.out.quiet K5.out) (some ⟨g, 0, none⟩) n cap (record m0) HN.out.symm hnc (by omega) HB5.out).mono ?_
  rintro e u6 ⟨mx, nx, rx6, rn6, rc6, bx6, bn6, bc6, rfl, hM6, hk6, hif6⟩
  obtain ⟨b1, b2, b3⟩ := begins_record HGG.out HB8.out []
  rw [List.append_nil] at b1 b2
  rw [b1, if_pos rfl, b2, b3] at hif6
  obtain ⟨rfl, hnx⟩ := hif6
  rw [b1]
  obtain ⟨W7, hW7, hk7, hA7, hs7⟩ := put_mail u6 mx rx6 rn6 rc6 bx6 bn6 bc6
  have hk57 := hk6.trans hk7 (fun _ _ h => h)
  have K7 := Lib.hid (K5.out.trans hk57 (fun _ _ h => h))
  have HM7 := Lib.hid (hM6.quiet hk7)
  have HI7 := Lib.hid (HM5.out.quiet hk57)
  have HR7 := Lib.hid ((HR5.out.any HN.out).keep hk57 (fun h => h))
  have HZ6 := Lib.hid (mz_new u6)
  have HW7 := Lib.hid hW7
  obtain ⟨B, hB⟩ : ∃ B, B = u6.heap.size := ⟨_, rfl⟩
  rw [← hB] at hA7 HZ6
  have HA7 := Lib.hid hA7
  have HC7 := Lib.hid (HA5.out.keep hk57 (fun h => h))
  have HBB := Lib.hid hB
  have HGB : Hid (g < B) := Lib.hid (by have := hk6.size; have := HG5.out; omega)
  have hrn6 : rn6 ≤ 1000000 := by rw [hM6.hrn]; have := good_rn HGG.out; omega
  have hrn3 : rn3 ≤ 1000000 := by rw [HM4.out.hrn]; have := good_rn HGG.out; omega
  have HRN := Lib.hid (And.intro hrn3 hrn6)
  clear hM6 hk6 hnx hW7 hk7 hA7 hs7 hB hk57 b1 b2 b3 hrn3 hrn6 HB5 HR5 HM5 HA5 HA4 HZ3
  go_wp2_with (rw [← HBB.out]; refine wpList_store_row (by rfl) 25 (.tmp 6) (.tmp 37) (by rfl) B (mlC mx rx6 rn6 rc6 bx6 bn6 bc6) (by rfl) (by rfl) 25 _ HZ6.out infoM rfl (one_ml _ _ _ _ _ _ _ _ _ _) ?_; rw [HBB.out, ← HW7.out, ← HBB.out])
  go_loopw [9] (fun i wr => ∃ k : Nat, k ≤ n ∧ i = .int .i64 (k : Int) ∧ Hid (RowA wr g n) ∧ Hid (Keep (fun b => b = g) W7 wr)) (fun i _ => n - (intOf i).toNat)
  case atStart => exact ⟨0, by omega, rfl, HR7.out, Lib.hid (Keep.refl _ _)⟩
  case round =>
    obtain ⟨k, hk, rfl, HRr, HKr⟩ := hrel
    by_cases hlt : (k : Int) < (n : Int)
    · have hkn : k < n := by omega
      obtain ⟨z, q1, q2, q3⟩ := HRr.out.at hkn
      have k0 : (0 : Int) ≤ (k : Int) := by omega
      have hkc : (k : Int) < (cap : Int) := by omega
      go_wp2
      go_roundw
      case rel => exact ⟨k + 1, by omega, by go_num, Lib.hid (HRr.out.put hkn _), Lib.hid (HKr.out.setCell (p := ⟨g, k, none⟩) (fun _ => rfl) _)⟩
      case measure => simp [intOf]; omega
    · have KX := Lib.hid (K7.out.trans HKr.out (fun i hi e => by have := K4.out.size; have := HG.out; omega))
      have HIX := Lib.hid (HI7.out.keep HKr.out (fun b _ hb e => by have := HG.out; have := HS4.out; omega))
      have HMX := Lib.hid (HM7.out.keep HKr.out (fun b _ hb e => by have := HG5.out; omega))
      have HCX := Lib.hid (HC7.out.keep HKr.out (fun e => by have := HG.out; have := HS4.out; omega))
      have HBX := Lib.hid (HA7.out.keep HKr.out (fun e => by have := HGB.out; omega))
      obtain ⟨c0, c1, c2, c3, c4, c5⟩ := cells_of HCX.out
      clear HKr HRr
      go_wp2_with fail
      refine (encodeC boxC linesC (HE.out.quiet KX.out) HIX.out).mono ?_
      rintro e u9 ⟨hk9, hif⟩
      rw [HGG.out, if_pos rfl] at hif
      obtain ⟨y9, n9, cap9, hn9, rfl, hO9, _⟩ := hif
      have HO9 := Lib.hid hO9.bytesO
      have K9 := Lib.hid (KX.out.trans hk9 (fun _ _ h => h))
      have HI9 := Lib.hid (HIX.out.quiet hk9)
      have HM9 := Lib.hid (HMX.out.quiet hk9)
      have HA9 := Lib.hid (fun X (k : Keep (fun _ => False) u9 X) => HM.out.quiet (K9.out.trans k (fun _ _ h => h)))
      obtain ⟨T, hT⟩ : ∃ T, T = str (record mx) := ⟨_, rfl⟩
      have HC9 : Hid (∀ X, Keep (fun _ => False) u9 X → Cells X C mx rx3 rn3 rc3 bx3 bn3 bc3 ∧ Cells X w.heap.size mx rx0 mx.rcpts.length rc0 bx0 mx.body.length bc0 ∧ Cells X B mx rx6 rn6 rc6 bx6 bn6 bc6 ∧ (convert 23 9 (.slice y9 n9 cap9)).run Tryz.prog X = .ok (.string T) X) := Lib.hid (fun X k =>
        ⟨cells_of ((HCX.out.keep hk9 (fun h => h)).keep k (fun h => h)), HCE.out X (K9.out.trans k (fun _ _ h => h)), cells_of ((HBX.out.keep hk9 (fun h => h)).keep k (fun h => h)), by rw [hT]; exact run_str (HO9.out.1.quiet k) n9 cap9 HO9.out.2.1.symm⟩)
      have HT := Lib.hid hT
      have HNN := Lib.hid hn9
      clear hk9 hO9 c0 c1 c2 c3 c4 c5 hn9 hT
      go_wp2_with fail
      have kD : Keep (fun _ => False) u9 u9.drew := (Keep.refl _ u9).drew
      refine wp_region_noPanic ?_
      refine wp_region_held_drew (S := fun X => Cells X C mx rx3 rn3 rc3 bx3 bn3 bc3 ∧ Cells X w.heap.size mx rx0 mx.rcpts.length rc0 bx0 mx.body.length bc0 ∧ Cells X B mx rx6 rn6 rc6 bx6 bn6 bc6 ∧ (convert 23 9 (.slice y9 n9 cap9)).run Tryz.prog X = .ok (.string T) X) (by kernel_rfl) (HC9.out _ kD) (fun hHeld => ?_)
      refine wpAnyH_ready (rs := [0]) (by kernel_rfl) (by simp) ?_
      refine AllReadyH.cons rfl (fun K hK => ?_) AllReadyH.nil
      go_simp
      refine (HA.out _ (HE.out.quiet (K9.out.trans kD (fun _ _ h => h)))).mono ?_
      rintro e X1 ⟨rfl, k1⟩
      have kX1 := kD.trans k1 (fun _ _ h => h)
      clear k1
      go_wp2_with fail
      refine hK.out _ _ (HC9.out _ kX1) (fun hHeld => ?_)
      clear hK K
      try simp only [Act.put, List.getElem_toArray, List.getElem_cons_succ, List.getElem_cons_zero, List.setIfInBounds_toArray, List.set_cons_zero, List.set_cons_succ]
      refine wpAnyH_take (i := 1) (v := ?_) rfl (by kernel_rfl) (by kernel_rfl) (by kernel_rfl) (fun _ _ _ h => h) (Or.inl ⟨by rfl, ?_⟩) (by assumption) ?_
      rotate_left
      · (intro wS hSw; (try dsimp only at hSw); (try simp only [List.getElem_toArray, List.getElem_cons_succ, List.getElem_cons_zero]); go_simp; try (with_reducible rfl))
      try simp only [Act.put, List.getElem_toArray, List.getElem_cons_succ, List.getElem_cons_zero, List.setIfInBounds_toArray, List.set_cons_zero, List.set_cons_succ]
      refine wpAnyH_take (i := 2) (v := ?_) rfl (by kernel_rfl) (by kernel_rfl) (by kernel_rfl) (fun _ _ _ h => h) (Or.inl ⟨by rfl, ?_⟩) (by assumption) ?_
      rotate_left
      · (intro wS hSw; (try dsimp only at hSw); (try simp only [List.getElem_toArray, List.getElem_cons_succ, List.getElem_cons_zero]); go_simp; try (with_reducible rfl))
      try simp only [Act.put, List.getElem_toArray, List.getElem_cons_succ, List.getElem_cons_zero, List.setIfInBounds_toArray, List.set_cons_zero, List.set_cons_succ]
      refine wpAnyH_take (i := 3) (v := ?_) rfl (by kernel_rfl) (by kernel_rfl) (by kernel_rfl) (fun _ _ _ h => h) (Or.inl ⟨by rfl, ?_⟩) (by assumption) ?_
      rotate_left
      · (intro wS hSw; (try dsimp only at hSw); (try simp only [List.getElem_toArray, List.getElem_cons_succ, List.getElem_cons_zero]); go_simp; try (with_reducible rfl))
      try simp only [Act.put, List.getElem_toArray, List.getElem_cons_succ, List.getElem_cons_zero, List.setIfInBounds_toArray, List.set_cons_zero, List.set_cons_succ]
      refine wpAnyH_take (i := 4) (v := ?_) rfl (by kernel_rfl) (by kernel_rfl) (by kernel_rfl) (fun _ _ _ h => h) (Or.inl ⟨by rfl, ?_⟩) (by assumption) ?_
      rotate_left
      · (intro wS hSw; (try dsimp only at hSw); (try simp only [List.getElem_toArray, List.getElem_cons_succ, List.getElem_cons_zero]); go_simp; try (with_reducible rfl))
      try simp only [Act.put, List.getElem_toArray, List.getElem_cons_succ, List.getElem_cons_zero, List.setIfInBounds_toArray, List.set_cons_zero, List.set_cons_succ]
      refine wpAnyH_take (i := 5) (v := ?_) rfl (by kernel_rfl) (by kernel_rfl) (by kernel_rfl) (fun _ _ _ h => h) (Or.inl ⟨by rfl, ?_⟩) (by assumption) ?_
      rotate_left
      · (intro wS hSw; (try dsimp only at hSw); obtain ⟨⟨s0, s1, s2, s3, s4, s5⟩, _, _, _⟩ := hSw; (try simp only [List.getElem_toArray, List.getElem_cons_succ, List.getElem_cons_zero]); go_simp; try (with_reducible rfl))
      try simp only [Act.put, List.getElem_toArray, List.getElem_cons_succ, List.getElem_cons_zero, List.setIfInBounds_toArray, List.set_cons_zero, List.set_cons_succ]
      refine wpAnyH_take (i := 6) (v := ?_) rfl (by kernel_rfl) (by kernel_rfl) (by kernel_rfl) (fun _ _ _ h => h) (Or.inl ⟨by rfl, ?_⟩) (by assumption) ?_
      rotate_left
      · (intro wS hSw; (try dsimp only at hSw); obtain ⟨_, ⟨s0, s1, s2, s3, s4, s5⟩, _, _⟩ := hSw; (try simp only [List.getElem_toArray, List.getElem_cons_succ, List.getElem_cons_zero]); go_simp; try (with_reducible rfl))
      try simp only [Act.put, List.getElem_toArray, List.getElem_cons_succ, List.getElem_cons_zero, List.setIfInBounds_toArray, List.set_cons_zero, List.set_cons_succ]
      refine wpAnyH_ready (rs := [7]) (by kernel_rfl) (by simp) ?_
      refine AllReadyH.cons rfl (fun K hK => ?_) AllReadyH.nil
      go_simp
      refine (refSameC (HI9.out.quiet kX1).it (HA9.out _ kX1).it HRN.out.1).mono ?_
      rintro e X2 ⟨rfl, k2⟩
      rw [sameB_self]
      have kX2 := kX1.trans k2 (fun _ _ h => h)
      clear k2
      go_wp2_with fail
      refine hK.out _ _ (HC9.out _ kX2) (fun hHeld => ?_)
      clear hK K
      try simp only [Act.put, List.getElem_toArray, List.getElem_cons_succ, List.getElem_cons_zero, List.setIfInBounds_toArray, List.set_cons_zero, List.set_cons_succ]
      refine wpAnyH_take (i := 8) (v := ?_) rfl (by kernel_rfl) (by kernel_rfl) (by kernel_rfl) (fun _ _ _ h => h) (Or.inl ⟨by rfl, ?_⟩) (by assumption) ?_
      rotate_left
      · (intro wS hSw; (try dsimp only at hSw); (try simp only [List.getElem_toArray, List.getElem_cons_succ, List.getElem_cons_zero]); go_simp; try (with_reducible rfl))
      try simp only [Act.put, List.getElem_toArray, List.getElem_cons_succ, List.getElem_cons_zero, List.setIfInBounds_toArray, List.set_cons_zero, List.set_cons_succ]
      refine wpAnyH_take (i := 9) (v := ?_) rfl (by kernel_rfl) (by kernel_rfl) (by kernel_rfl) (fun _ _ _ h => h) (Or.inl ⟨by rfl, ?_⟩) (by assumption) ?_
      rotate_left
      · (intro wS hSw; (try dsimp only at hSw); (try simp only [List.getElem_toArray, List.getElem_cons_succ, List.getElem_cons_zero]); go_simp; try (with_reducible rfl))
      try simp only [Act.put, List.getElem_toArray, List.getElem_cons_succ, List.getElem_cons_zero, List.setIfInBounds_toArray, List.set_cons_zero, List.set_cons_succ]
      refine wpAnyH_take (i := 10) (v := ?_) rfl (by kernel_rfl) (by kernel_rfl) (by kernel_rfl) (fun _ _ _ h => h) (Or.inl ⟨by rfl, ?_⟩) (by assumption) ?_
      rotate_left
      · (intro wS hSw; (try dsimp only at hSw); obtain ⟨_, _, ⟨s0, s1, s2, s3, s4, s5⟩, _⟩ := hSw; (try simp only [List.getElem_toArray, List.getElem_cons_succ, List.getElem_cons_zero]); go_simp; try (with_reducible rfl))
      try simp only [Act.put, List.getElem_toArray, List.getElem_cons_succ, List.getElem_cons_zero, List.setIfInBounds_toArray, List.set_cons_zero, List.set_cons_succ]
      refine wpAnyH_take (i := 11) (v := ?_) rfl (by kernel_rfl) (by kernel_rfl) (by kernel_rfl) (fun _ _ _ h => h) (Or.inl ⟨by rfl, ?_⟩) (by assumption) ?_
      rotate_left
      · (intro wS hSw; (try dsimp only at hSw); obtain ⟨_, ⟨s0, s1, s2, s3, s4, s5⟩, _, _⟩ := hSw; (try simp only [List.getElem_toArray, List.getElem_cons_succ, List.getElem_cons_zero]); go_simp; try (with_reducible rfl))
      try simp only [Act.put, List.getElem_toArray, List.getElem_cons_succ, List.getElem_cons_zero, List.setIfInBounds_toArray, List.set_cons_zero, List.set_cons_succ]
      refine wpAnyH_ready (rs := [12]) (by kernel_rfl) (by simp) ?_
      refine AllReadyH.cons rfl (fun K hK => ?_) AllReadyH.nil
      go_simp
      refine (refSameC (HM9.out.quiet kX2).it (HA9.out _ kX2).it HRN.out.2).mono ?_
      rintro e X3 ⟨rfl, k3⟩
      rw [sameB_self]
      have kX3 := kX2.trans k3 (fun _ _ h => h)
      clear k3
      go_wp2_with fail
      refine hK.out _ _ (HC9.out _ kX3) (fun hHeld => ?_)
      clear hK K
      try simp only [Act.put, List.getElem_toArray, List.getElem_cons_succ, List.getElem_cons_zero, List.setIfInBounds_toArray, List.set_cons_zero, List.set_cons_succ]
      refine wpAnyH_take (i := 13) (v := ?_) rfl (by kernel_rfl) (by kernel_rfl) (by kernel_rfl) (fun _ _ _ h => h) (Or.inl ⟨by rfl, ?_⟩) (by assumption) ?_
      rotate_left
      · (intro wS hSw; (try dsimp only at hSw); (try simp only [List.getElem_toArray, List.getElem_cons_succ, List.getElem_cons_zero]); go_simp; try (with_reducible rfl))
      try simp only [Act.put, List.getElem_toArray, List.getElem_cons_succ, List.getElem_cons_zero, List.setIfInBounds_toArray, List.set_cons_zero, List.set_cons_succ]
      refine wpAnyH_take (i := 14) (v := ?_) rfl (by kernel_rfl) (by kernel_rfl) (by kernel_rfl) (fun _ _ _ h => h) (Or.inl ⟨by rfl, ?_⟩) (by assumption) ?_
      rotate_left
      · (intro wS hSw; (try dsimp only at hSw); (try simp only [List.getElem_toArray, List.getElem_cons_succ, List.getElem_cons_zero]); go_simp; try (with_reducible rfl))
      try simp only [Act.put, List.getElem_toArray, List.getElem_cons_succ, List.getElem_cons_zero, List.setIfInBounds_toArray, List.set_cons_zero, List.set_cons_succ]
      refine wpAnyH_take (i := 15) (v := ?_) rfl (by kernel_rfl) (by kernel_rfl) (by kernel_rfl) (fun _ _ _ h => h) (Or.inl ⟨by rfl, ?_⟩) (by assumption) ?_
      rotate_left
      · (intro wS hSw; (try dsimp only at hSw); (try simp only [List.getElem_toArray, List.getElem_cons_succ, List.getElem_cons_zero]); go_simp; try (with_reducible rfl))
      try simp only [Act.put, List.getElem_toArray, List.getElem_cons_succ, List.getElem_cons_zero, List.setIfInBounds_toArray, List.set_cons_zero, List.set_cons_succ]
      refine wpAnyH_take (i := 16) (v := ?_) rfl (by kernel_rfl) (by kernel_rfl) (by kernel_rfl) (fun _ _ _ h => h) (Or.inl ⟨by rfl, ?_⟩) (by assumption) ?_
      rotate_left
      · (intro wS hSw; (try dsimp only at hSw); obtain ⟨_, _, _, hcv⟩ := hSw; (try simp only [List.getElem_toArray, List.getElem_cons_succ, List.getElem_cons_zero]); go_simp; try (with_reducible rfl))
      try simp only [Act.put, List.getElem_toArray, List.getElem_cons_succ, List.getElem_cons_zero, List.setIfInBounds_toArray, List.set_cons_zero, List.set_cons_succ]
      refine wpAnyH_take (i := 17) (v := ?_) rfl (by kernel_rfl) (by kernel_rfl) (by kernel_rfl) (fun _ _ _ h => h) (Or.inl ⟨by rfl, ?_⟩) (by assumption) ?_
      rotate_left
      · (intro wS hSw; (try dsimp only at hSw); obtain ⟨_, ⟨s0, s1, s2, s3, s4, s5⟩, _, _⟩ := hSw; (try simp only [List.getElem_toArray, List.getElem_cons_succ, List.getElem_cons_zero]); go_simp; try (with_reducible rfl))
      try simp only [Act.put, List.getElem_toArray, List.getElem_cons_succ, List.getElem_cons_zero, List.setIfInBounds_toArray, List.set_cons_zero, List.set_cons_succ]
      refine wpAnyH_ready (rs := [18]) (by kernel_rfl) (by simp) ?_
      refine AllReadyH.cons rfl (fun K hK => ?_) AllReadyH.nil
      go_simp
      refine (HRE.out _ (K9.out.trans kX3 (fun _ _ h => h)) HGG.out).mono ?_
      rintro e X4 ⟨y', n', c', hn', rfl, hG'⟩
      have kX4 := kX3.trans hG'.kp (fun _ _ h => h)
      have hcv : (convert 23 9 (.slice y' n' c')).run Tryz.prog X4 = .ok (.string T) X4 := by rw [HT.out]; exact run_str hG'.own.bytesO.1 n' c' hn'.symm
      clear hG' hn'
      go_wp2_with fail
      refine hK.out _ _ (HC9.out _ kX4) (fun hHeld => ?_)
      clear hK K
      try simp only [Act.put, List.getElem_toArray, List.getElem_cons_succ, List.getElem_cons_zero, List.setIfInBounds_toArray, List.set_cons_zero, List.set_cons_succ]
      refine wpAnyH_ready (rs := [19]) (by kernel_rfl) (by simp) ?_
      refine AllReadyH.cons rfl (fun K hK => ?_) AllReadyH.nil
      go_simp
      refine hK.out _ _ (HC9.out _ kX4) (fun hHeld => ?_)
      clear hK K
      try simp only [Act.put, List.getElem_toArray, List.getElem_cons_succ, List.getElem_cons_zero, List.setIfInBounds_toArray, List.set_cons_zero, List.set_cons_succ]
      refine wpAnyH_take (i := 20) (v := ?_) rfl (by kernel_rfl) (by kernel_rfl) (by kernel_rfl) (fun _ _ _ h => h) (Or.inl ⟨by rfl, ?_⟩) (by assumption) ?_
      rotate_left
      · (intro wS hSw; (try dsimp only at hSw); (try simp only [List.getElem_toArray, List.getElem_cons_succ, List.getElem_cons_zero]); go_simp; try (with_reducible rfl))
      try simp only [Act.put, List.getElem_toArray, List.getElem_cons_succ, List.getElem_cons_zero, List.setIfInBounds_toArray, List.set_cons_zero, List.set_cons_succ]
      refine wpAnyH_take (i := 21) (v := ?_) rfl (by kernel_rfl) (by kernel_rfl) (by kernel_rfl) (fun _ _ _ h => h) (Or.inl ⟨by rfl, ?_⟩) (by assumption) ?_
      rotate_left
      · (intro wS hSw; (try dsimp only at hSw); (try simp only [List.getElem_toArray, List.getElem_cons_succ, List.getElem_cons_zero]); go_simp; try (with_reducible rfl))
      try simp only [Act.put, List.getElem_toArray, List.getElem_cons_succ, List.getElem_cons_zero, List.setIfInBounds_toArray, List.set_cons_zero, List.set_cons_succ]
      refine wpAnyH_take (i := 22) (v := ?_) rfl (by kernel_rfl) (by kernel_rfl) (by kernel_rfl) (fun _ _ _ h => h) (Or.inl ⟨by rfl, ?_⟩) (by assumption) ?_
      rotate_left
      · (intro wS hSw; (try dsimp only at hSw); (try simp only [List.getElem_toArray, List.getElem_cons_succ, List.getElem_cons_zero]); go_simp; try (with_reducible rfl))
      try simp only [Act.put, List.getElem_toArray, List.getElem_cons_succ, List.getElem_cons_zero, List.setIfInBounds_toArray, List.set_cons_zero, List.set_cons_succ]
      refine wpAnyH_done (by kernel_rfl) ?_ _
      refine NoPanic.normal ?_
      go_wp2
      go_ret
      exact ⟨rfl, ((K0.out.trans K9.out (fun _ _ h => h)).trans kX4 (fun _ _ h => h)).below (Nat.le_refl _) (fun _ h => h.elim)⟩

/-! ### The row's step -/
theorem met (os : Os) : laidMetH Tryz.prog Rows.envOwnRow.laid ((World.laidAll Tryz.prog os Rows.envOwnRow.laid).forCall (fun _ _ => 0) ⟨#[], #[.agg #[.int .i64 0, .int .i64 0, .int .i64 0, .string { data := #[] }, .slice none 0 0, .slice none 0 0]], []⟩).memory := by
  rw [MakeChecks.laidMetH_plain _ _ _ (by kernel_rfl)]; exact laidMet_laidAll _ (by kernel_rfl) (by kernel_rfl)
theorem reads (os : Os) {H : Type} (enc : TypeId × Value → H) : ∃ places, DataW.whole enc Tryz.prog ((World.laidAll Tryz.prog os Rows.envOwnRow.laid).forCall (fun _ _ => 0) ⟨#[], #[.agg #[.int .i64 0, .int .i64 0, .int .i64 0, .string { data := #[] }, .slice none 0 0, .slice none 0 0]], []⟩).memory Tryz.f6.params.toList Rows.envOwnSpec.vars false (#[.agg #[.int .i64 0, .int .i64 0, .int .i64 0, .string { data := #[] }, .slice none 0 0, .slice none 0 0]] : Array Value).toList 8 = some ([.agg [.lit (.int .i64 0), .lit (.int .i64 0), .lit (.int .i64 0), .lit (.string []), .nil, .nil]], [], places) :=
  ⟨[], by kernel_rfl⟩
set_option maxRecDepth 100000 in
theorem fits (os : Os) {H : Type} (enc : TypeId × Value → H) : ∃ (w : World) (tape : Tape) (i : Input), w.os = os ∧ (w.forCall tape i).Shaped Tryz.checked.prog ∧ i.vars = [] ∧ Input.okWide Tryz.checked.prog (w.forCall tape i) .any w.heap.size 6 i ∧
    (OpenSpec.ofChange Rows.envOwnSpec).preRow enc Tryz.checked.prog Tryz.f6 Rows.envOwnRow.domain false Rows.envOwnRow.laid (w.forCall tape i).memory i.args ∧ ({} : Assume).holds Tryz.checked.prog (lone (Frame.enter Tryz.checked.prog 6 i.args .normal) [] (w.forCall tape i)) := by
  obtain ⟨places, hx⟩ := reads os enc
  have hok : Input.okWideB Tryz.checked.prog ((World.laidAll Tryz.prog os Rows.envOwnRow.laid).forCall (fun _ _ => 0) ⟨#[], #[.agg #[.int .i64 0, .int .i64 0, .int .i64 0, .string { data := #[] }, .slice none 0 0, .slice none 0 0]], []⟩) 6 ⟨#[], #[.agg #[.int .i64 0, .int .i64 0, .int .i64 0, .string { data := #[] }, .slice none 0 0, .slice none 0 0]], []⟩ = true := by kernel_rfl
  exact ⟨(World.laidAll Tryz.prog os Rows.envOwnRow.laid), fun _ _ => 0, ⟨#[], #[.agg #[.int .i64 0, .int .i64 0, .int .i64 0, .string { data := #[] }, .slice none 0 0, .slice none 0 0]], []⟩, World.laidAll_os _ _ _, World.shaped_of_ZipB (by kernel_rfl) (by kernel_rfl), (Input.okWide_of_okWideB (base := 0) hok).1, (Input.okWide_of_okWideB hok).2,
    OpenSpec.preRow_of_cond 8 hx (by kernel_rfl) (fun k hk => by cases hk) (by kernel_rfl) (met os), by
      simp only [Assume.holds]
      exact ⟨by simp, by simp, fun _ => Modest.zero, by simp, by simp⟩⟩

set_option maxRecDepth 100000 in
theorem lifted (os : Os) (started : os.Started) (H : Type) (enc : TypeId × Value → H) (F : Stop.Interp) :
    ReturnsInHanded {} Tryz.checked os 6 .any ((OpenSpec.ofChange Rows.envOwnSpec).preRow enc Tryz.prog Tryz.f6 Rows.envOwnRow.domain false Rows.envOwnRow.laid) (((OpenSpec.ofChange Rows.envOwnSpec).at F).post enc Tryz.prog Tryz.f6 false true false false) := by
  refine returnsInHanded_of_row (C := Tryz.checked) (s := OpenSpec.ofChange Rows.envOwnSpec) own started (by kernel_rfl) Tryz.func6 (fits os enc) ?_
  intro W base args ds gs before hval0 hW0 _ hcond hsz hL shape _
  show Calls Tryz.prog 6 args W fun e W' => ∃ v, e = .returned v ∧ Rows.envOwnSpec.post enc Tryz.prog Tryz.f6 false true false false W args v W'
  have hval : ∀ (j : Nat) t v, Tryz.f6.params[j]? = some t → args[j]? = some v → Value.okWide Tryz.prog W .any base t v := hval0
  have hW : DataW.Whole enc Tryz.prog Tryz.f6.params.toList Rows.envOwnSpec.vars false W args.toList ds gs before := hW0
  have hW' := hW
  obtain ⟨p, q, hA0, hV, rfl, hfz, hnd⟩ := hW
  have hA : DataW.TrodAll enc Tryz.prog W 0 (fun _ => true) true Tryz.f6.params.toList args.toList ds p := hA0
  rw [Tryz.params6] at hA hval
  obtain ⟨v0, vs0, d0, ds0, p0, q0, hargs, rfl, rfl, h0, r0⟩ := trodAll_cons hA
  obtain ⟨rfl, rfl, rfl⟩ := trodAll_nil r0
  obtain rfl : args = #[v0] := by cases args; simp_all
  obtain ⟨rfl, rfl⟩ := trodVars_none hV
  obtain ⟨c0, rfl, _⟩ := okWide_struct Tryz.underlying25 (hval 0 25 v0 rfl rfl)
  have k0 := h0
  have lt0 : ∀ x ∈ p0, x.block < W.heap.size := by obtain ⟨m, hm⟩ := k0; exact DataW.trod_lt m _ _ _ hm
  obtain ⟨m0, rx0, rc0, bx0, bc0, e0, M0⟩ : ∃ m rx rc bx bc, c0 = Ln.mlC m rx m.rcpts.length rc bx m.body.length bc ∧ Ln.MlAt (fun k => k < W.heap.size) W m rx m.rcpts.length rc bx m.body.length bc := by
    obtain ⟨fuel, hf⟩ := h0
    exact Ln.arg_mail hf
  subst e0
  have hE := Ln.env9 W shape
  clear hA0 hval0
  refine (walk m0 rx0 rc0 bx0 bc0 W M0 hE).mono fun e W' ⟨he, bel⟩ => ?_
  subst he
  exact ⟨_, rfl, _, _, _, [], _, [], hW', trodAll_mk1 (shut_bool Tryz.underlying4 _), (trodAll_cons_mk (Below.trod (by kernel_rfl) (by kernel_rfl) (of_decide_eq_true (by kernel_rfl)) k0 bel lt0) trodAll_mk0), rfl, bel.frame _, fun h => by cases h⟩

theorem over : Rows.EnvOwnSaid :=
  OpenClaim.holds_of_cond 6 Tryz.f6 rfl rfl rfl rfl rfl rfl rfl ⟨rfl, rfl, rfl, rfl, rfl⟩ rfl rfl rfl rfl rfl (by kernel_rfl) Tryz.func6 (by kernel_rfl)
    (of_decide_eq_true (by kernel_rfl)) (by unfold Func.isWrapper; first | (rw [if_pos (by decide +kernel)]; kernel_rfl) | (rw [if_neg (by decide +kernel)]; exact ⟨rfl, rfl⟩))
    (fun os started H enc _ F => by rw [OpenClaim.pre_eq_preRow]; exact lifted os started H enc F)

theorem plain (f : FuncId) (fn : Func) (hf : Tryz.pinned.checked.prog.funcNamed "pillarbox/pillarboxlaw10.EnvOwn" = some f) (hfn : Tryz.pinned.checked.prog.funcs[f]? = some fn) :
    false = Tryz.pinned.checked.prog.looks [] ∧ ∀ (j : Nat) t, fn.params[j]? = some t → Tryz.pinned.checked.prog.wantsStandIn t = false := by
  obtain rfl : f = 6 := Option.some.inj ((show Tryz.prog.funcNamed "pillarbox/pillarboxlaw10.EnvOwn" = some 6 by kernel_rfl).symm.trans hf) |>.symm
  obtain rfl : fn = Tryz.f6 := (Option.some.inj (Tryz.func6.symm.trans hfn)).symm
  refine ⟨by kernel_rfl, fun j t ht => ?_⟩
  rw [Tryz.params6] at ht
  have hm : t ∈ [25] := by simpa using Array.mem_of_getElem? ht
  have hall : ([25].all fun u => !Tryz.prog.wantsStandIn u) = true := by kernel_rfl
  exact (show Tryz.prog.wantsStandIn t = false by simpa using List.all_eq_true.1 hall t hm)

/-- The statement: the tied card. -/
theorem proved : Rows.EnvOwnCardSaid :=
  Claim7.holds_tied_plain_at .later [] _ _ _ _ over (fun _ h => by cases h) (by kernel_rfl) (fun _ h => by cases h) envOwn_row_tie rfl ⟨rfl, rfl⟩ (by kernel_rfl) rfl plain (by kernel_rfl)
#print axioms proved
end Go.Proofs.YtpdopjpibmhamaaGreatDoor.envOwn
