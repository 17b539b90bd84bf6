/-
  Proved here: a file that is cut anywhere behind its record says what was written ahead of that, but for a mark that is cut.
-/
import Derived.Test.YtimoebicacnihaaGreatDoorRows
import Derived.Test.YtimoebicacnihaaGreatDoorCards
import Derived.Test.YtimoebicacnihaaGreatDoorTie
import Derived.Test.YtimoebicacnihaaGreatDoorKg16
import Derived.Test.YtimoebicacnihaaGreatDoorKF1
import Derived.Lib.Hide
import Derived.WalkKit
import Derived.ProofKit
import Derived.OpenShut
import Derived.ShutString
import Derived.ChangeOld
import Derived.Below
import Derived.Lay
import Derived.SevenTiedAt
import Derived.Stop.Joined
import Derived.Deep.DeepHandedRow
namespace Go.Proofs.YtimoebicacnihaaGreatDoor.qfileTorn
open Go.ChangeShapes Go.WideShapes Go.ChangeAt Go.RowKit
set_option linter.unusedVariables false
set_option linter.unusedSimpArgs false
open Ln
theorem own : ownKnob Tryz.prog.godebug = none := by kernel_rfl

/-! ### The walk -/
set_option maxHeartbeats 16000000 in
set_option maxRecDepth 100000 in
theorem walk (m0 : Ln.Ml) (rx0 : Option Addr) (rc0 : Nat) (bx0 : Option Addr) (bc0 : Nat) (a1 : Option Addr) (x1 : List Ln.Mk) (cap1 : Nat) (a2 : Int) (w : World) (M0 : Ln.MlAt (fun k => k < w.heap.size) w m0 rx0 m0.rcpts.length rc0 bx0 m0.body.length bc0) (F0 : m0.frm.size ≤ 9223372036854775807) (R0 : ∀ s ∈ m0.rcpts, s.size ≤ 9223372036854775807) (l1 : x1.length ≤ cap1) (m1 : cap1 * 24 ≤ 140737488351232) (B1 : Ln.MkP (fun k => k < w.heap.size) w a1 x1) (w2 : (Lit.int .u16 a2).wf = true) (hE : Ln.Env w) :
    Calls Tryz.prog 6 #[.agg (Ln.mlC m0 rx0 m0.rcpts.length rc0 bx0 m0.body.length bc0), .slice a1 x1.length cap1, .int .u16 a2] w fun e w' => e = .returned (.bool true) ∧ Below w.heap.size w w' := by
  have a2b := bounds_u16 w2
  obtain ⟨A, rfl⟩ : ∃ A : Nat, a2 = (A : Int) := ⟨a2.toNat, by omega⟩
  have hA : A < 65536 := by omega
  clear w2 a2b
  have k0 := keep_new w (.cells (mlC m0 rx0 m0.rcpts.length rc0 bx0 m0.body.length bc0) 25)
  have HA := Lib.hid (fun W e => answers12C W e)
  obtain ⟨W0, hW0⟩ : ∃ W0, W0 = w.alloc (.cells (mlC m0 rx0 m0.rcpts.length rc0 bx0 m0.body.length bc0) 25) := ⟨_, rfl⟩
  have HAT : Hid (At W0 w.heap.size 25 (mlC m0 rx0 m0.rcpts.length rc0 bx0 m0.body.length bc0)) := Lib.hid (by rw [hW0]; exact At.new w _ _)
  rw [← hW0] at k0
  have HM := Lib.hid (M0.quiet k0)
  have HX := Lib.hid (mk_quiet B1 k0)
  have HE := Lib.hid (hE.quiet k0)
  have K0 := Lib.hid k0
  have HB8 := Lib.hid M0.bs.1
  have HGO : Hid (∀ W, Keep (fun _ => False) W0 W → Calls Tryz.prog 8 #[.agg (mlC m0 rx0 m0.rcpts.length rc0 bx0 m0.body.length bc0), .slice a1 x1.length cap1] W (Quiet (.bool (goodQ m0 x1)) W)) := Lib.hid (fun W k => good12C (HM.out.quiet k) F0 R0 rfl (mk_quiet HX.out k))
  have HFI : Hid (∀ W, Keep (fun _ => False) W0 W → goodQ m0 x1 = true → Calls Tryz.prog 10 #[.agg (mlC m0 rx0 m0.rcpts.length rc0 bx0 m0.body.length bc0), .slice a1 x1.length cap1] W (Filed m0 x1 W)) := Lib.hid (fun W k hg => file12C (HM.out.quiet k) rfl (mk_quiet HX.out k) hg)
  have HFd : Hid (∀ W e w', Filed m0 x1 W e w' → ∃ y n cap, n = (fileB m0 x1).length ∧ e = .returned (.slice y n cap) ∧ Gr W w' (.slice y n cap) (fileB m0 x1)) := Lib.hid (fun _ _ _ h => h)
  have HCE : Hid (∀ W, Keep (fun _ => False) W0 W → Cells W w.heap.size m0 rx0 m0.rcpts.length rc0 bx0 m0.body.length bc0) := Lib.hid (fun W k => cells_of (HAT.out.keep k (fun h => h)))
  have HMS : Hid (∀ X, Keep (fun _ => False) W0 X → MlAt (fun k => k < w.heap.size) X m0 rx0 m0.rcpts.length rc0 bx0 m0.body.length bc0) := Lib.hid (fun X k => HM.out.quiet k)
  have HW0 := Lib.hid hW0
  clear k0 M0 hE F0 R0 B1 hW0
  unfold mlC at HAT HGO HFI HW0 ⊢
  have HRE : Hid (∀ W, Keep (fun _ => False) W0 W → goodQ m0 x1 = true → Calls Tryz.prog 24 #[.agg (mlC m0 rx0 m0.rcpts.length rc0 bx0 m0.body.length bc0)] W (Recorded m0 W)) := Lib.hid (fun W k hq => refRecordC (HM.out.quiet k) (goodM_fine (goodQ_parts hq).2.2.1))
  unfold mlC at HRE
  have HRd : Hid (∀ W e w', Recorded m0 W e w' → ∃ y n cap, n = (record m0).length ∧ e = .returned (.slice y n cap) ∧ Gr W w' (.slice y n cap) (record m0)) := Lib.hid (fun _ _ _ h => h)
  cases hq : goodQ m0 x1 with
  | false =>
    rw [hq] at HGO
    go_enter Tryz.func6, Tryz.ntmps6
    go_wp2_with fail
    rw [← HW0.out]
    refine (HGO.out W0 (Keep.refl _ _)).mono ?_
    rintro e u1 ⟨rfl, hk1⟩
    go_wp2_with fail
    refine (HA.out _ (HE.out.quiet hk1)).mono ?_
    rintro e u2 ⟨rfl, hk2⟩
    go_wp2
    go_ret
    exact ⟨rfl, ((K0.out.trans hk1 (fun _ _ h => h)).trans hk2 (fun _ _ h => h)).below (Nat.le_refl _) (fun _ h => h.elim)⟩
  | true =>
  rw [hq] at HGO
  have HQQ := Lib.hid hq
  have HFS := Lib.hid (fileB_small hq)
  have H60 := Lib.hid (goodQ_parts hq).2.1
  have HRN8 : Hid (m0.rcpts.length ≤ 8) := Lib.hid (goodM_fine (goodQ_parts hq).2.2.1).n.2
  clear hq
  obtain ⟨hg1, _, hg3, _⟩ := goodQ_parts HQQ.out
  have HPR : Hid (∀ r W e w', Parsed (record m0 ++ r) W e w' → PQ m0 (marksM r) (((record m0).length + 28 * (marksM r).length : Nat) : Int) true W e w') := Lib.hid (fun r W e w' h => parsed_rec hg3 HB8.out h)
  have HFB : Hid (fileB m0 x1 = record m0 ++ flatK x1) := Lib.hid rfl
  have HFT : Hid (∀ K, marksM ((flatK x1).take K) = x1.take (K / 28)) := Lib.hid (fun K => marksM_torn x1 K hg1 (by have := H60.out; omega))
  have HFL : Hid ((flatK x1).length = 28 * x1.length) := Lib.hid (flatK_length x1)
  obtain ⟨FB, hFB⟩ : ∃ FB, FB = fileB m0 x1 := ⟨_, rfl⟩
  rw [← hFB] at HFd HFS HFB
  obtain ⟨RB, hRB⟩ : ∃ RB, RB = record m0 := ⟨_, rfl⟩
  rw [← hRB] at HRd HFB HPR
  clear hFB hRB hg1 hg3
  go_enter Tryz.func6, Tryz.ntmps6
  go_wp2_with fail
  rw [← HW0.out]
  refine (HGO.out W0 (Keep.refl _ _)).mono ?_
  rintro e u1 ⟨rfl, hk1⟩
  have K1 := Lib.hid hk1
  obtain ⟨c0, c1, c2, c3, c4, c5⟩ := HCE.out u1 hk1
  clear hk1
  go_wp2_with fail
  refine (HFI.out u1 K1.out HQQ.out).mono ?_
  rintro e u2 h2
  obtain ⟨yf, nf, cf, hnf, rfl, hGf⟩ := HFd.out _ _ _ h2
  have K2 := Lib.hid (K1.out.trans hGf.kp (fun _ _ h => h))
  have HBf := Lib.hid hGf.own.bytesO
  have HNF := Lib.hid hnf
  clear h2 hnf hGf c0 c1 c2 c3 c4 c5
  obtain ⟨c0, c1, c2, c3, c4, c5⟩ := HCE.out u2 K2.out
  go_wp2_with fail
  refine (HRE.out u2 K2.out HQQ.out).mono ?_
  rintro e u3 h3
  obtain ⟨yr, nr, cr, hnr, rfl, hGr⟩ := HRd.out _ _ _ h3
  have K3 := Lib.hid (K2.out.trans hGr.kp (fun _ _ h => h))
  have HBf3 := Lib.hid (HBf.out.1.quiet hGr.kp)
  have HNR := Lib.hid hnr
  have hsz : nf = nr + 28 * x1.length := by rw [HNF.out, hnr, HFB.out, List.length_append, HFL.out]
  have hnf2 : nf ≤ 12000 := by have := HNF.out; have := HFS.out; omega
  have hl60 : x1.length ≤ 60 := H60.out
  clear h3 hnr hGr c0 c1 c2 c3 c4 c5 HFd HRd HFI HRE HGO
  obtain ⟨K, hK⟩ : ∃ K, K = A % (28 * x1.length + 1) := ⟨_, rfl⟩
  have hKn : K ≤ 28 * x1.length := by have := Nat.mod_lt A (show 0 < 28 * x1.length + 1 by omega); omega
  have hnrf : nr ≤ nf := by omega
  have hN0 : ((nf : Int) - (nr : Int) + 1) = ((28 * x1.length + 1 : Nat) : Int) := by omega
  have hN1 : ((A : Int) % ((nf : Int) - (nr : Int) + 1)) = (K : Int) := by rw [hN0, hK]; rfl
  have hN2 : Int.tmod (A : Int) ((nf : Int) - (nr : Int) + 1) = (K : Int) := by rw [hN0, hK]; rfl
  have HKd := Lib.hid hK
  have hnk : nr + K ≤ nf := by omega
  have HSZ := Lib.hid hsz
  clear hK hN0 hsz hKn
  have hKn : K ≤ 28 * x1.length := by have := HSZ.out; omega
  obtain ⟨p1, p2⟩ := cut_pre yf nf cf (nr + K) (by have := HBf.out.2.2; omega)
  have q1 : ((nr + K : Nat) : Int) = (nr : Int) + (K : Int) := by omega
  rw [q1] at p1 p2
  have hcf : nf ≤ cf := HBf.out.2.2
  have hkcf : (nr : Int) + (K : Int) ≤ (cf : Int) := by omega
  go_upto_region 6 with fail
  clear hN1 hN2
  obtain ⟨D, hD⟩ : ∃ D, D = K / 28 := ⟨_, rfl⟩
  have hDk : D ≤ x1.length := by omega
  have hD1 : (K : Int) / 28 = (D : Int) := by rw [hD]; rfl
  have hD2 : Int.tdiv (K : Int) 28 = (D : Int) := by rw [hD]; rfl
  obtain ⟨s1, s2⟩ := cut_pre_mk a1 x1.length cap1 D (by omega)
  have hDc : (D : Int) ≤ (cap1 : Int) := by omega
  have HTK : Hid (FB.take (nr + K) = RB ++ (flatK x1).take K) := Lib.hid (by rw [HFB.out, HNR.out, List.take_append, List.take_of_length_le (by omega), Nat.add_sub_cancel_left])
  have HTL : Hid ((FB.take (nr + K)).length = nr + K) := Lib.hid (by rw [List.length_take]; have := HNF.out; have := HSZ.out; omega)
  have HDl : Hid (D = (x1.take D).length) := Lib.hid (by rw [List.length_take]; omega)
  have hMt := HFT.out K
  rw [← hD] at hMt
  have HMT := Lib.hid hMt
  clear hD hMt HKd
  go_wp2_with fail
  refine (parseQ (HE.out.quiet K3.out) yf (nr + K) cf (FB.take (nr + K)) HTL.out (by omega) (by omega) (HBf3.out.take (nr + K))).mono ?_
  rintro e u5 h5
  rw [HTK.out] at h5
  have h6 := HPR.out _ _ _ _ h5
  rw [HMT.out, ← HDl.out] at h6
  obtain ⟨rx, rn, rc, bx, bn, bc, y, k, c, rfl, hQ5, hk5⟩ := h6
  obtain rfl : k = D := by rw [hQ5.hk, ← HDl.out]
  obtain ⟨W6, hW6, kW6, hA6, hs6⟩ := put_file u5 m0 rx rn rc bx bn bc y k c ((RB.length + 28 * k : Nat) : Int)
  have K6 := Lib.hid ((K3.out.trans hk5 (fun _ _ h => h)).trans kW6 (fun _ _ h => h))
  have HQ6 := Lib.hid (hQ5.quiet kW6)
  have HZ5 := Lib.hid (qz_new u5)
  have HW6 := Lib.hid hW6
  obtain ⟨G, hG⟩ : ∃ G, G = u5.heap.size := ⟨_, rfl⟩
  rw [← hG] at hA6 HZ5
  have HA6 := Lib.hid hA6
  have HGG := Lib.hid hG
  have hgl : ((RB.length + 28 * k : Nat) : Int) = (nr : Int) + (k : Int) * 28 := by have := HNR.out; omega
  have HQC : Hid (∀ Z, Keep (fun _ => False) W6 Z → QCells Z G m0 rx rn rc bx bn bc y k c ((nr : Int) + (k : Int) * 28) ∧ Cells Z w.heap.size m0 rx0 m0.rcpts.length rc0 bx0 m0.body.length bc0) := Lib.hid (fun Z kk => ⟨by rw [← hgl]; exact qcells_of (HA6.out.keep kk (fun h => h)), HCE.out Z (K6.out.trans kk (fun _ _ h => h))⟩)
  have HRN : Hid (rn ≤ 1000000) := Lib.hid (by have := HQ6.out.ml.hrn; have := HRN8.out; omega)
  clear h5 hQ5 hk5 hW6 kW6 hA6 hs6 hG hgl p1 p2 q1
  go_upto_region 7 with (rw [← HGG.out]; refine wpList_store_row (by rfl) 31 (.tmp 10) (.tmp 38) (by rfl) G (qC m0 rx rn rc bx bn bc y k c ((RB.length + 28 * k : Nat) : Int)) (by rfl) (by rfl) 31 _ HZ5.out infoQ rfl (one_q _ _ _ _ _ _ _ _ _ _ _ _ _ _) ?_; rw [HGG.out, ← HW6.out, ← HGG.out])
  have hk60 : k ≤ 60 := by omega
  have hnr2 : nr ≤ 12000 := by omega
  have hkw : IntKind.i64.wrap (k : Int) = (k : Int) := wrap_small _ (by omega) (by omega)
  have hkw2 : IntKind.i64.wrap ((k : Int) * 28) = (k : Int) * 28 := wrap_small _ (by omega) (by omega)
  have hkw3 : IntKind.i64.wrap ((nr : Int) + (k : Int) * 28) = (nr : Int) + (k : Int) * 28 := wrap_small _ (by omega) (by omega)
  have hk0 : (0 : Int) ≤ (k : Int) := by omega
  have kD : Keep (fun _ => False) W6 W6.drew := (Keep.refl _ W6).drew
  obtain ⟨⟨z0, z1, z2, z3, z4, z5, z6, z7⟩, c0, c1, c2, c3, c4, c5⟩ := HQC.out _ kD
  refine wp_region_noPanic ?_
  refine wp_region_held_drew (S := fun Z => Z.cell? ⟨G, 0, none⟩ = some (.int .i64 m0.id) ∧ Z.cell? ⟨G, 1, none⟩ = some (.int .i64 m0.parent) ∧ Z.cell? ⟨G, 2, none⟩ = some (.int .i64 m0.born) ∧ Z.cell? ⟨G, 3, none⟩ = some (.string m0.frm) ∧ Z.cell? ⟨G, 4, none⟩ = some (.slice rx rn rc) ∧ Z.cell? ⟨G, 5, none⟩ = some (.slice bx bn bc) ∧ Z.cell? ⟨G, 6, none⟩ = some (.slice y k c) ∧ Z.cell? ⟨G, 7, none⟩ = some (.int .i64 ((nr : Int) + (k : Int) * 28)) ∧ Z.cell? ⟨w.heap.size, 0, none⟩ = some (.int .i64 m0.id) ∧ Z.cell? ⟨w.heap.size, 1, none⟩ = some (.int .i64 m0.parent) ∧ Z.cell? ⟨w.heap.size, 2, none⟩ = some (.int .i64 m0.born) ∧ Z.cell? ⟨w.heap.size, 3, none⟩ = some (.string m0.frm) ∧ Z.cell? ⟨w.heap.size, 4, none⟩ = some (.slice rx0 m0.rcpts.length rc0) ∧ Z.cell? ⟨w.heap.size, 5, none⟩ = some (.slice bx0 m0.body.length bc0)) (by kernel_rfl) ⟨z0, z1, z2, z3, z4, z5, z6, z7, c0, c1, c2, c3, c4, c5⟩ (fun hHeld => ?_)
  clear z0 z1 z2 z3 z4 z5 z6 z7 c0 c1 c2 c3 c4 c5
  refine wpAnyH_ready (rs := [0]) (by kernel_rfl) (by simp) ?_
  refine AllReadyH.cons rfl (fun K hK => ?_) AllReadyH.nil
  go_simp
  refine (HA.out _ (HE.out.quiet (K6.out.trans kD (fun _ _ h => h)))).mono ?_
  rintro e u7 ⟨rfl, hk7⟩
  have k7 := kD.trans hk7 (fun _ _ h => h)
  obtain ⟨⟨z0, z1, z2, z3, z4, z5, z6, z7⟩, c0, c1, c2, c3, c4, c5⟩ := HQC.out _ k7
  clear hk7
  go_wp2_with fail
  refine hK.out _ _ ⟨z0, z1, z2, z3, z4, z5, z6, z7, c0, c1, c2, c3, c4, c5⟩ (fun hHeld => ?_)
  clear hK K
  try simp only [Act.put, List.getElem_toArray, List.getElem_cons_succ, List.getElem_cons_zero, List.setIfInBounds_toArray, List.set_cons_zero, List.set_cons_succ]
  clear z0 z1 z2 z3 z4 z5 z6 z7 c0 c1 c2 c3 c4 c5
  refine wpAnyH_take (i := 1) (v := ?_) rfl (by kernel_rfl) (by kernel_rfl) (by kernel_rfl) (fun _ _ _ h => h) (Or.inl ⟨by rfl, ?_⟩) (by assumption) ?_
  rotate_left
  · (intro wS hSw; (try dsimp only at hSw); obtain ⟨hS1, hS2, hS3, hS4, hS5, hS6, hS7, hS8, hS9, hS10, hS11, hS12, hS13, hS14⟩ := hSw; (try simp only [List.getElem_toArray, List.getElem_cons_succ, List.getElem_cons_zero]); go_simp; try (with_reducible rfl))
  try simp only [Act.put, List.getElem_toArray, List.getElem_cons_succ, List.getElem_cons_zero, List.setIfInBounds_toArray, List.set_cons_zero, List.set_cons_succ]
  refine wpAnyH_take (i := 2) (v := ?_) rfl (by kernel_rfl) (by kernel_rfl) (by kernel_rfl) (fun _ _ _ h => h) (Or.inl ⟨by rfl, ?_⟩) (by assumption) ?_
  rotate_left
  · (intro wS hSw; (try dsimp only at hSw); obtain ⟨hS1, hS2, hS3, hS4, hS5, hS6, hS7, hS8, hS9, hS10, hS11, hS12, hS13, hS14⟩ := hSw; (try simp only [List.getElem_toArray, List.getElem_cons_succ, List.getElem_cons_zero]); go_simp; try (with_reducible rfl))
  try simp only [Act.put, List.getElem_toArray, List.getElem_cons_succ, List.getElem_cons_zero, List.setIfInBounds_toArray, List.set_cons_zero, List.set_cons_succ]
  refine wpAnyH_take (i := 3) (v := ?_) rfl (by kernel_rfl) (by kernel_rfl) (by kernel_rfl) (fun _ _ _ h => h) (Or.inl ⟨by rfl, ?_⟩) (by assumption) ?_
  rotate_left
  · (intro wS hSw; (try dsimp only at hSw); obtain ⟨hS1, hS2, hS3, hS4, hS5, hS6, hS7, hS8, hS9, hS10, hS11, hS12, hS13, hS14⟩ := hSw; (try simp only [List.getElem_toArray, List.getElem_cons_succ, List.getElem_cons_zero]); go_simp; try (with_reducible rfl))
  try simp only [Act.put, List.getElem_toArray, List.getElem_cons_succ, List.getElem_cons_zero, List.setIfInBounds_toArray, List.set_cons_zero, List.set_cons_succ]
  refine wpAnyH_take (i := 4) (v := ?_) rfl (by kernel_rfl) (by kernel_rfl) (by kernel_rfl) (fun _ _ _ h => h) (Or.inl ⟨by rfl, ?_⟩) (by assumption) ?_
  rotate_left
  · (intro wS hSw; (try dsimp only at hSw); obtain ⟨hS1, hS2, hS3, hS4, hS5, hS6, hS7, hS8, hS9, hS10, hS11, hS12, hS13, hS14⟩ := hSw; (try simp only [List.getElem_toArray, List.getElem_cons_succ, List.getElem_cons_zero]); go_simp; try (with_reducible rfl))
  try simp only [Act.put, List.getElem_toArray, List.getElem_cons_succ, List.getElem_cons_zero, List.setIfInBounds_toArray, List.set_cons_zero, List.set_cons_succ]
  refine wpAnyH_take (i := 5) (v := ?_) rfl (by kernel_rfl) (by kernel_rfl) (by kernel_rfl) (fun _ _ _ h => h) (Or.inl ⟨by rfl, ?_⟩) (by assumption) ?_
  rotate_left
  · (intro wS hSw; (try dsimp only at hSw); obtain ⟨hS1, hS2, hS3, hS4, hS5, hS6, hS7, hS8, hS9, hS10, hS11, hS12, hS13, hS14⟩ := hSw; (try simp only [List.getElem_toArray, List.getElem_cons_succ, List.getElem_cons_zero]); go_simp; try (with_reducible rfl))
  try simp only [Act.put, List.getElem_toArray, List.getElem_cons_succ, List.getElem_cons_zero, List.setIfInBounds_toArray, List.set_cons_zero, List.set_cons_succ]
  refine wpAnyH_take (i := 6) (v := ?_) rfl (by kernel_rfl) (by kernel_rfl) (by kernel_rfl) (fun _ _ _ h => h) (Or.inl ⟨by rfl, ?_⟩) (by assumption) ?_
  rotate_left
  · (intro wS hSw; (try dsimp only at hSw); obtain ⟨hS1, hS2, hS3, hS4, hS5, hS6, hS7, hS8, hS9, hS10, hS11, hS12, hS13, hS14⟩ := hSw; (try simp only [List.getElem_toArray, List.getElem_cons_succ, List.getElem_cons_zero]); go_simp; try (with_reducible rfl))
  try simp only [Act.put, List.getElem_toArray, List.getElem_cons_succ, List.getElem_cons_zero, List.setIfInBounds_toArray, List.set_cons_zero, List.set_cons_succ]
  refine wpAnyH_take (i := 7) (v := ?_) rfl (by kernel_rfl) (by kernel_rfl) (by kernel_rfl) (fun _ _ _ h => h) (Or.inl ⟨by rfl, ?_⟩) (by assumption) ?_
  rotate_left
  · (intro wS hSw; (try dsimp only at hSw); obtain ⟨hS1, hS2, hS3, hS4, hS5, hS6, hS7, hS8, hS9, hS10, hS11, hS12, hS13, hS14⟩ := hSw; (try simp only [List.getElem_toArray, List.getElem_cons_succ, List.getElem_cons_zero]); go_simp; try (with_reducible rfl))
  try simp only [Act.put, List.getElem_toArray, List.getElem_cons_succ, List.getElem_cons_zero, List.setIfInBounds_toArray, List.set_cons_zero, List.set_cons_succ]
  refine wpAnyH_ready (rs := [8]) (by kernel_rfl) (by simp) ?_
  refine AllReadyH.cons rfl (fun K hK => ?_) AllReadyH.nil
  go_simp
  refine (refSameC (rc := rc) (bc := bc) (rc' := rc0) (bc' := bc0) (HQ6.out.ml.quiet k7).it (HMS.out _ (K6.out.trans k7 (fun _ _ h => h))).it HRN.out).mono ?_
  rintro e u8 ⟨rfl, hk8⟩
  rw [sameB_self]
  have k8 := k7.trans hk8 (fun _ _ h => h)
  obtain ⟨⟨z0, z1, z2, z3, z4, z5, z6, z7⟩, c0, c1, c2, c3, c4, c5⟩ := HQC.out _ k8
  clear hk8
  go_wp2_with fail
  refine hK.out _ _ ⟨z0, z1, z2, z3, z4, z5, z6, z7, c0, c1, c2, c3, c4, c5⟩ (fun hHeld => ?_)
  clear hK K
  try simp only [Act.put, List.getElem_toArray, List.getElem_cons_succ, List.getElem_cons_zero, List.setIfInBounds_toArray, List.set_cons_zero, List.set_cons_succ]
  clear z0 z1 z2 z3 z4 z5 z6 z7 c0 c1 c2 c3 c4 c5
  refine wpAnyH_take (i := 9) (v := ?_) rfl (by kernel_rfl) (by kernel_rfl) (by kernel_rfl) (fun _ _ _ h => h) (Or.inl ⟨by rfl, ?_⟩) (by assumption) ?_
  rotate_left
  · (intro wS hSw; (try dsimp only at hSw); obtain ⟨hS1, hS2, hS3, hS4, hS5, hS6, hS7, hS8, hS9, hS10, hS11, hS12, hS13, hS14⟩ := hSw; (try simp only [List.getElem_toArray, List.getElem_cons_succ, List.getElem_cons_zero]); go_simp; try (with_reducible rfl))
  try simp only [Act.put, List.getElem_toArray, List.getElem_cons_succ, List.getElem_cons_zero, List.setIfInBounds_toArray, List.set_cons_zero, List.set_cons_succ]
  refine wpAnyH_take (i := 10) (v := ?_) rfl (by kernel_rfl) (by kernel_rfl) (by kernel_rfl) (fun _ _ _ h => h) (Or.inl ⟨by rfl, ?_⟩) (by assumption) ?_
  rotate_left
  · (intro wS hSw; (try dsimp only at hSw); obtain ⟨hS1, hS2, hS3, hS4, hS5, hS6, hS7, hS8, hS9, hS10, hS11, hS12, hS13, hS14⟩ := hSw; (try simp only [List.getElem_toArray, List.getElem_cons_succ, List.getElem_cons_zero]); go_simp; try (with_reducible rfl))
  try simp only [Act.put, List.getElem_toArray, List.getElem_cons_succ, List.getElem_cons_zero, List.setIfInBounds_toArray, List.set_cons_zero, List.set_cons_succ]
  refine wpAnyH_take (i := 11) (v := ?_) rfl (by kernel_rfl) (by kernel_rfl) (by kernel_rfl) (fun _ _ _ h => h) (Or.inl ⟨by rfl, ?_⟩) (by assumption) ?_
  rotate_left
  · (intro wS hSw; (try dsimp only at hSw); obtain ⟨hS1, hS2, hS3, hS4, hS5, hS6, hS7, hS8, hS9, hS10, hS11, hS12, hS13, hS14⟩ := hSw; (try simp only [List.getElem_toArray, List.getElem_cons_succ, List.getElem_cons_zero]); go_simp; try (with_reducible rfl))
  try simp only [Act.put, List.getElem_toArray, List.getElem_cons_succ, List.getElem_cons_zero, List.setIfInBounds_toArray, List.set_cons_zero, List.set_cons_succ]
  refine wpAnyH_take (i := 12) (v := ?_) rfl (by kernel_rfl) (by kernel_rfl) (by kernel_rfl) (fun _ _ _ h => h) (Or.inl ⟨by rfl, ?_⟩) (by assumption) ?_
  rotate_left
  · (intro wS hSw; (try dsimp only at hSw); obtain ⟨hS1, hS2, hS3, hS4, hS5, hS6, hS7, hS8, hS9, hS10, hS11, hS12, hS13, hS14⟩ := hSw; (try simp only [List.getElem_toArray, List.getElem_cons_succ, List.getElem_cons_zero]); go_simp; try (with_reducible rfl))
  try simp only [Act.put, List.getElem_toArray, List.getElem_cons_succ, List.getElem_cons_zero, List.setIfInBounds_toArray, List.set_cons_zero, List.set_cons_succ]
  refine wpAnyH_take (i := 13) (v := ?_) rfl (by kernel_rfl) (by kernel_rfl) (by kernel_rfl) (fun _ _ _ h => h) (Or.inl ⟨by rfl, ?_⟩) (by assumption) ?_
  rotate_left
  · (intro wS hSw; (try dsimp only at hSw); obtain ⟨hS1, hS2, hS3, hS4, hS5, hS6, hS7, hS8, hS9, hS10, hS11, hS12, hS13, hS14⟩ := hSw; (try simp only [List.getElem_toArray, List.getElem_cons_succ, List.getElem_cons_zero]); go_simp; try (with_reducible rfl))
  try simp only [Act.put, List.getElem_toArray, List.getElem_cons_succ, List.getElem_cons_zero, List.setIfInBounds_toArray, List.set_cons_zero, List.set_cons_succ]
  refine wpAnyH_take (i := 14) (v := ?_) rfl (by kernel_rfl) (by kernel_rfl) (by kernel_rfl) (fun _ _ _ h => h) (Or.inl ⟨by rfl, ?_⟩) (by assumption) ?_
  rotate_left
  · (intro wS hSw; (try dsimp only at hSw); obtain ⟨hS1, hS2, hS3, hS4, hS5, hS6, hS7, hS8, hS9, hS10, hS11, hS12, hS13, hS14⟩ := hSw; (try simp only [List.getElem_toArray, List.getElem_cons_succ, List.getElem_cons_zero]); go_simp; try (with_reducible rfl))
  try simp only [Act.put, List.getElem_toArray, List.getElem_cons_succ, List.getElem_cons_zero, List.setIfInBounds_toArray, List.set_cons_zero, List.set_cons_succ]
  refine wpAnyH_take (i := 15) (v := ?_) rfl (by kernel_rfl) (by kernel_rfl) (by kernel_rfl) (fun _ _ _ h => h) (Or.inl ⟨by rfl, ?_⟩) (by assumption) ?_
  rotate_left
  · (intro wS hSw; (try dsimp only at hSw); obtain ⟨hS1, hS2, hS3, hS4, hS5, hS6, hS7, hS8, hS9, hS10, hS11, hS12, hS13, hS14⟩ := hSw; (try simp only [List.getElem_toArray, List.getElem_cons_succ, List.getElem_cons_zero]); go_simp; try (with_reducible rfl))
  try simp only [Act.put, List.getElem_toArray, List.getElem_cons_succ, List.getElem_cons_zero, List.setIfInBounds_toArray, List.set_cons_zero, List.set_cons_succ]
  refine wpAnyH_take (i := 16) (v := ?_) rfl (by kernel_rfl) (by kernel_rfl) (by kernel_rfl) (fun _ _ _ h => h) (Or.inl ⟨by rfl, ?_⟩) (by assumption) ?_
  rotate_left
  · (intro wS hSw; (try dsimp only at hSw); obtain ⟨hS1, hS2, hS3, hS4, hS5, hS6, hS7, hS8, hS9, hS10, hS11, hS12, hS13, hS14⟩ := hSw; (try simp only [List.getElem_toArray, List.getElem_cons_succ, List.getElem_cons_zero]); go_simp; try (with_reducible rfl))
  try simp only [Act.put, List.getElem_toArray, List.getElem_cons_succ, List.getElem_cons_zero, List.setIfInBounds_toArray, List.set_cons_zero, List.set_cons_succ]
  refine wpAnyH_ready (rs := [17]) (by kernel_rfl) (by simp) ?_
  refine AllReadyH.cons rfl (fun K hK => ?_) AllReadyH.nil
  go_simp
  refine (sameMarksC y a1 k c cap1 (x1.take k) HDl.out (by omega) (mk_quiet HQ6.out.ms k8) (StP.take (mk_quiet HX.out (K6.out.trans k8 (fun _ _ h => h))) k)).mono ?_
  rintro e u9 ⟨rfl, hk9⟩
  have k9 := k8.trans hk9 (fun _ _ h => h)
  obtain ⟨⟨z0, z1, z2, z3, z4, z5, z6, z7⟩, c0, c1, c2, c3, c4, c5⟩ := HQC.out _ k9
  clear hk9
  go_wp2_with fail
  refine hK.out _ _ ⟨z0, z1, z2, z3, z4, z5, z6, z7, c0, c1, c2, c3, c4, c5⟩ (fun hHeld => ?_)
  clear hK K
  try simp only [Act.put, List.getElem_toArray, List.getElem_cons_succ, List.getElem_cons_zero, List.setIfInBounds_toArray, List.set_cons_zero, List.set_cons_succ]
  clear z0 z1 z2 z3 z4 z5 z6 z7 c0 c1 c2 c3 c4 c5
  refine wpAnyH_take (i := 18) (v := ?_) rfl (by kernel_rfl) (by kernel_rfl) (by kernel_rfl) (fun _ _ _ h => h) (Or.inl ⟨by rfl, ?_⟩) (by assumption) ?_
  rotate_left
  · (intro wS hSw; (try dsimp only at hSw); obtain ⟨hS1, hS2, hS3, hS4, hS5, hS6, hS7, hS8, hS9, hS10, hS11, hS12, hS13, hS14⟩ := hSw; (try simp only [List.getElem_toArray, List.getElem_cons_succ, List.getElem_cons_zero]); go_simp; try (with_reducible rfl))
  try simp only [Act.put, List.getElem_toArray, List.getElem_cons_succ, List.getElem_cons_zero, List.setIfInBounds_toArray, List.set_cons_zero, List.set_cons_succ]
  refine wpAnyH_take (i := 19) (v := ?_) rfl (by kernel_rfl) (by kernel_rfl) (by kernel_rfl) (fun _ _ _ h => h) (Or.inl ⟨by rfl, ?_⟩) (by assumption) ?_
  rotate_left
  · (intro wS hSw; (try dsimp only at hSw); obtain ⟨hS1, hS2, hS3, hS4, hS5, hS6, hS7, hS8, hS9, hS10, hS11, hS12, hS13, hS14⟩ := hSw; (try simp only [List.getElem_toArray, List.getElem_cons_succ, List.getElem_cons_zero]); go_simp; try (with_reducible rfl))
  try simp only [Act.put, List.getElem_toArray, List.getElem_cons_succ, List.getElem_cons_zero, List.setIfInBounds_toArray, List.set_cons_zero, List.set_cons_succ]
  refine wpAnyH_take (i := 20) (v := ?_) rfl (by kernel_rfl) (by kernel_rfl) (by kernel_rfl) (fun _ _ _ h => h) (Or.inl ⟨by rfl, ?_⟩) (by assumption) ?_
  rotate_left
  · (intro wS hSw; (try dsimp only at hSw); obtain ⟨hS1, hS2, hS3, hS4, hS5, hS6, hS7, hS8, hS9, hS10, hS11, hS12, hS13, hS14⟩ := hSw; (try simp only [List.getElem_toArray, List.getElem_cons_succ, List.getElem_cons_zero]); go_simp; try (with_reducible rfl))
  try simp only [Act.put, List.getElem_toArray, List.getElem_cons_succ, List.getElem_cons_zero, List.setIfInBounds_toArray, List.set_cons_zero, List.set_cons_succ]
  refine wpAnyH_take (i := 21) (v := ?_) rfl (by kernel_rfl) (by kernel_rfl) (by kernel_rfl) (fun _ _ _ h => h) (Or.inl ⟨by rfl, ?_⟩) (by assumption) ?_
  rotate_left
  · (intro wS hSw; (try dsimp only at hSw); obtain ⟨hS1, hS2, hS3, hS4, hS5, hS6, hS7, hS8, hS9, hS10, hS11, hS12, hS13, hS14⟩ := hSw; (try simp only [List.getElem_toArray, List.getElem_cons_succ, List.getElem_cons_zero]); go_simp; try (with_reducible rfl))
  try simp only [Act.put, List.getElem_toArray, List.getElem_cons_succ, List.getElem_cons_zero, List.setIfInBounds_toArray, List.set_cons_zero, List.set_cons_succ]
  refine wpAnyH_take (i := 22) (v := ?_) rfl (by kernel_rfl) (by kernel_rfl) (by kernel_rfl) (fun _ _ _ h => h) (Or.inl ⟨by rfl, ?_⟩) (by assumption) ?_
  rotate_left
  · (intro wS hSw; (try dsimp only at hSw); obtain ⟨hS1, hS2, hS3, hS4, hS5, hS6, hS7, hS8, hS9, hS10, hS11, hS12, hS13, hS14⟩ := hSw; (try simp only [List.getElem_toArray, List.getElem_cons_succ, List.getElem_cons_zero]); go_simp; try (with_reducible rfl))
  try simp only [Act.put, List.getElem_toArray, List.getElem_cons_succ, List.getElem_cons_zero, List.setIfInBounds_toArray, List.set_cons_zero, List.set_cons_succ]
  refine wpAnyH_take (i := 23) (v := ?_) rfl (by kernel_rfl) (by kernel_rfl) (by kernel_rfl) (fun _ _ _ h => h) (Or.inl ⟨by rfl, ?_⟩) (by assumption) ?_
  rotate_left
  · (intro wS hSw; (try dsimp only at hSw); obtain ⟨hS1, hS2, hS3, hS4, hS5, hS6, hS7, hS8, hS9, hS10, hS11, hS12, hS13, hS14⟩ := hSw; (try simp only [List.getElem_toArray, List.getElem_cons_succ, List.getElem_cons_zero]); go_simp; try (with_reducible rfl))
  try simp only [Act.put, List.getElem_toArray, List.getElem_cons_succ, List.getElem_cons_zero, List.setIfInBounds_toArray, List.set_cons_zero, List.set_cons_succ]
  refine wpAnyH_take (i := 24) (v := ?_) rfl (by kernel_rfl) (by kernel_rfl) (by kernel_rfl) (fun _ _ _ h => h) (Or.inl ⟨by rfl, ?_⟩) (by assumption) ?_
  rotate_left
  · (intro wS hSw; (try dsimp only at hSw); obtain ⟨hS1, hS2, hS3, hS4, hS5, hS6, hS7, hS8, hS9, hS10, hS11, hS12, hS13, hS14⟩ := hSw; (try simp only [List.getElem_toArray, List.getElem_cons_succ, List.getElem_cons_zero]); go_simp; try (with_reducible rfl))
  try simp only [Act.put, List.getElem_toArray, List.getElem_cons_succ, List.getElem_cons_zero, List.setIfInBounds_toArray, List.set_cons_zero, List.set_cons_succ]
  refine wpAnyH_take (i := 25) (v := ?_) rfl (by kernel_rfl) (by kernel_rfl) (by kernel_rfl) (fun _ _ _ h => h) (Or.inl ⟨by rfl, ?_⟩) (by assumption) ?_
  rotate_left
  · (intro wS hSw; (try dsimp only at hSw); obtain ⟨hS1, hS2, hS3, hS4, hS5, hS6, hS7, hS8, hS9, hS10, hS11, hS12, hS13, hS14⟩ := hSw; (try simp only [List.getElem_toArray, List.getElem_cons_succ, List.getElem_cons_zero]); go_simp; try (with_reducible rfl))
  try simp only [Act.put, List.getElem_toArray, List.getElem_cons_succ, List.getElem_cons_zero, List.setIfInBounds_toArray, List.set_cons_zero, List.set_cons_succ]
  refine wpAnyH_take (i := 26) (v := ?_) rfl (by kernel_rfl) (by kernel_rfl) (by kernel_rfl) (fun _ _ _ h => h) (Or.inl ⟨by rfl, ?_⟩) (by assumption) ?_
  rotate_left
  · (intro wS hSw; (try dsimp only at hSw); obtain ⟨hS1, hS2, hS3, hS4, hS5, hS6, hS7, hS8, hS9, hS10, hS11, hS12, hS13, hS14⟩ := hSw; (try simp only [List.getElem_toArray, List.getElem_cons_succ, List.getElem_cons_zero]); go_simp; try (with_reducible rfl))
  try simp only [Act.put, List.getElem_toArray, List.getElem_cons_succ, List.getElem_cons_zero, List.setIfInBounds_toArray, List.set_cons_zero, List.set_cons_succ]
  refine wpAnyH_take (i := 27) (v := ?_) rfl (by kernel_rfl) (by kernel_rfl) (by kernel_rfl) (fun _ _ _ h => h) (Or.inl ⟨by rfl, ?_⟩) (by assumption) ?_
  rotate_left
  · (intro wS hSw; (try dsimp only at hSw); obtain ⟨hS1, hS2, hS3, hS4, hS5, hS6, hS7, hS8, hS9, hS10, hS11, hS12, hS13, hS14⟩ := hSw; (try simp only [List.getElem_toArray, List.getElem_cons_succ, List.getElem_cons_zero]); go_simp; try (with_reducible rfl))
  try simp only [Act.put, List.getElem_toArray, List.getElem_cons_succ, List.getElem_cons_zero, List.setIfInBounds_toArray, List.set_cons_zero, List.set_cons_succ]
  refine wpAnyH_take (i := 28) (v := ?_) rfl (by kernel_rfl) (by kernel_rfl) (by kernel_rfl) (fun _ _ _ h => h) (Or.inl ⟨by rfl, ?_⟩) (by assumption) ?_
  rotate_left
  · (intro wS hSw; (try dsimp only at hSw); obtain ⟨hS1, hS2, hS3, hS4, hS5, hS6, hS7, hS8, hS9, hS10, hS11, hS12, hS13, hS14⟩ := hSw; (try simp only [List.getElem_toArray, List.getElem_cons_succ, List.getElem_cons_zero]); go_simp; try (with_reducible rfl))
  try simp only [Act.put, List.getElem_toArray, List.getElem_cons_succ, List.getElem_cons_zero, List.setIfInBounds_toArray, List.set_cons_zero, List.set_cons_succ]
  refine wpAnyH_take (i := 29) (v := ?_) rfl (by kernel_rfl) (by kernel_rfl) (by kernel_rfl) (fun _ _ _ h => h) (Or.inl ⟨by rfl, ?_⟩) (by assumption) ?_
  rotate_left
  · (intro wS hSw; (try dsimp only at hSw); obtain ⟨hS1, hS2, hS3, hS4, hS5, hS6, hS7, hS8, hS9, hS10, hS11, hS12, hS13, hS14⟩ := hSw; (try simp only [List.getElem_toArray, List.getElem_cons_succ, List.getElem_cons_zero]); go_simp; try (with_reducible rfl))
  try simp only [Act.put, List.getElem_toArray, List.getElem_cons_succ, List.getElem_cons_zero, List.setIfInBounds_toArray, List.set_cons_zero, List.set_cons_succ]
  refine wpAnyH_done (by kernel_rfl) ?_ _
  refine NoPanic.normal ?_
  go_wp2
  go_ret
  exact ⟨rfl, ((K0.out.trans K6.out (fun _ _ h => h)).trans k9 (fun _ _ h => h)).below (Nat.le_refl _) (fun _ h => h.elim)⟩

/-! ### The row's step -/
theorem met (os : Os) : laidMetH Tryz.prog Rows.qfileTornRow.laid ((World.laidAll Tryz.prog os Rows.qfileTornRow.laid).forCall (fun _ _ => 0) ⟨#[], #[.agg #[.int .i64 0, .int .i64 0, .int .i64 0, .string { data := #[] }, .slice none 0 0, .slice none 0 0], .slice none 0 0, .int .u16 0], []⟩).memory := by
  rw [MakeChecks.laidMetH_plain _ _ _ (by kernel_rfl)]; exact laidMet_laidAll _ (by kernel_rfl) (by kernel_rfl)
theorem reads (os : Os) {H : Type} (enc : TypeId × Value → H) : ∃ places, DataW.whole enc Tryz.prog ((World.laidAll Tryz.prog os Rows.qfileTornRow.laid).forCall (fun _ _ => 0) ⟨#[], #[.agg #[.int .i64 0, .int .i64 0, .int .i64 0, .string { data := #[] }, .slice none 0 0, .slice none 0 0], .slice none 0 0, .int .u16 0], []⟩).memory Tryz.f6.params.toList Rows.qfileTornSpec.vars false (#[.agg #[.int .i64 0, .int .i64 0, .int .i64 0, .string { data := #[] }, .slice none 0 0, .slice none 0 0], .slice none 0 0, .int .u16 0] : Array Value).toList 8 = some ([.agg [.lit (.int .i64 0), .lit (.int .i64 0), .lit (.int .i64 0), .lit (.string []), .nil, .nil], .nil, .lit (.int .u16 0)], [], places) :=
  ⟨[], by kernel_rfl⟩
set_option maxRecDepth 100000 in
theorem fits (os : Os) {H : Type} (enc : TypeId × Value → H) : ∃ (w : World) (tape : Tape) (i : Input), w.os = os ∧ (w.forCall tape i).Shaped Tryz.checked.prog ∧ i.vars = [] ∧ Input.okWide Tryz.checked.prog (w.forCall tape i) .any w.heap.size 6 i ∧
    (OpenSpec.ofChange Rows.qfileTornSpec).preRow enc Tryz.checked.prog Tryz.f6 Rows.qfileTornRow.domain false Rows.qfileTornRow.laid (w.forCall tape i).memory i.args ∧ ({} : Assume).holds Tryz.checked.prog (lone (Frame.enter Tryz.checked.prog 6 i.args .normal) [] (w.forCall tape i)) := by
  obtain ⟨places, hx⟩ := reads os enc
  have hok : Input.okWideB Tryz.checked.prog ((World.laidAll Tryz.prog os Rows.qfileTornRow.laid).forCall (fun _ _ => 0) ⟨#[], #[.agg #[.int .i64 0, .int .i64 0, .int .i64 0, .string { data := #[] }, .slice none 0 0, .slice none 0 0], .slice none 0 0, .int .u16 0], []⟩) 6 ⟨#[], #[.agg #[.int .i64 0, .int .i64 0, .int .i64 0, .string { data := #[] }, .slice none 0 0, .slice none 0 0], .slice none 0 0, .int .u16 0], []⟩ = true := by kernel_rfl
  exact ⟨(World.laidAll Tryz.prog os Rows.qfileTornRow.laid), fun _ _ => 0, ⟨#[], #[.agg #[.int .i64 0, .int .i64 0, .int .i64 0, .string { data := #[] }, .slice none 0 0, .slice none 0 0], .slice none 0 0, .int .u16 0], []⟩, World.laidAll_os _ _ _, World.shaped_of_ZipB (by kernel_rfl) (by kernel_rfl), (Input.okWide_of_okWideB (base := 0) hok).1, (Input.okWide_of_okWideB hok).2,
    OpenSpec.preRow_of_cond 8 hx (by kernel_rfl) (fun k hk => by cases hk) (by kernel_rfl) (met os), by
      simp only [Assume.holds]
      exact ⟨by simp, by simp, fun _ => Modest.zero, by simp, by simp⟩⟩

set_option maxRecDepth 100000 in
theorem lifted (os : Os) (started : os.Started) (H : Type) (enc : TypeId × Value → H) (F : Stop.Interp) :
    ReturnsInHanded {} Tryz.checked os 6 .any ((OpenSpec.ofChange Rows.qfileTornSpec).preRow enc Tryz.prog Tryz.f6 Rows.qfileTornRow.domain false Rows.qfileTornRow.laid) (((OpenSpec.ofChange Rows.qfileTornSpec).at F).post enc Tryz.prog Tryz.f6 false true false false) := by
  refine returnsInHanded_of_row (C := Tryz.checked) (s := OpenSpec.ofChange Rows.qfileTornSpec) own started (by kernel_rfl) Tryz.func6 (fits os enc) ?_
  intro W base args ds gs before hval0 hW0 _ hcond hsz hL shape _
  show Calls Tryz.prog 6 args W fun e W' => ∃ v, e = .returned v ∧ Rows.qfileTornSpec.post enc Tryz.prog Tryz.f6 false true false false W args v W'
  have hval : ∀ (j : Nat) t v, Tryz.f6.params[j]? = some t → args[j]? = some v → Value.okWide Tryz.prog W .any base t v := hval0
  have hW : DataW.Whole enc Tryz.prog Tryz.f6.params.toList Rows.qfileTornSpec.vars false W args.toList ds gs before := hW0
  have hW' := hW
  obtain ⟨p, q, hA0, hV, rfl, hfz, hnd⟩ := hW
  have hA : DataW.TrodAll enc Tryz.prog W 0 (fun _ => true) true Tryz.f6.params.toList args.toList ds p := hA0
  rw [Tryz.params6] at hA hval
  obtain ⟨v0, vs0, d0, ds0, p0, q0, hargs, rfl, rfl, h0, r0⟩ := trodAll_cons hA
  obtain ⟨v1, vs1, d1, ds1, p1, q1, rfl, rfl, rfl, h1, r1⟩ := trodAll_cons r0
  obtain ⟨v2, vs2, d2, ds2, p2, q2, rfl, rfl, rfl, h2, r2⟩ := trodAll_cons r1
  obtain ⟨rfl, rfl, rfl⟩ := trodAll_nil r2
  obtain rfl : args = #[v0, v1, v2] := by cases args; simp_all
  obtain ⟨rfl, rfl⟩ := trodVars_none hV
  obtain ⟨c0, rfl, _⟩ := okWide_struct Tryz.underlying25 (hval 0 25 v0 rfl rfl)
  have k0 := h0
  have lt0 : ∀ x ∈ p0, x.block < W.heap.size := by obtain ⟨m, hm⟩ := k0; exact DataW.trod_lt m _ _ _ hm
  obtain ⟨m0, rx0, rc0, bx0, bc0, e0, M0, F0, R0⟩ : ∃ m rx rc bx bc, c0 = Ln.mlC m rx m.rcpts.length rc bx m.body.length bc ∧ Ln.MlAt (fun k => k < W.heap.size) W m rx m.rcpts.length rc bx m.body.length bc ∧ m.frm.size ≤ 9223372036854775807 ∧ ∀ s ∈ m.rcpts, s.size ≤ 9223372036854775807 := by
    obtain ⟨fuel, hf⟩ := h0
    exact Ln.arg_mail hf
  subst e0
  obtain ⟨a1, len1, cap1, rfl⟩ := okWide_slice Tryz.underlying26 (hval 1 26 v1 rfl rfl)
  have k1 := h1
  have lt1 : ∀ x ∈ p1, x.block < W.heap.size := by obtain ⟨m, hm⟩ := k1; exact DataW.trod_lt m _ _ _ hm
  obtain ⟨b1, x1, c1, e1, l1, _, B1, mm1⟩ : ∃ a L cap, Value.slice a1 len1 cap1 = .slice a L.length cap ∧ L.length ≤ cap ∧ cap ≤ 9223372036854775807 ∧ Ln.MkP (fun k => k < W.heap.size) W a L ∧ ((∀ n ∈ d1.weights Tryz.prog 26, n ≤ reachBytes) → cap * 24 ≤ 140737488351232) := by
    obtain ⟨fuel, hf⟩ := h1
    exact Ln.arg_marks hf
  have m1 := mm1 (fun n hn => by
    have := List.all_eq_true.1 hsz n (DataW.weights_mem_each (j := 1) rfl rfl n hn)
    simpa using this)
  injection e1 with e1 f1 g1
  subst e1 f1 g1
  obtain ⟨a2, rfl, rfl, rfl, w2⟩ := open_int Tryz.underlying53 (hval 2 53 v2 rfl rfl) h2
  have hE := Ln.env9 W shape
  clear hA0 hval0
  refine (walk m0 rx0 rc0 bx0 bc0 a1 x1 cap1 a2 W M0 F0 R0 l1 m1 B1 w2 hE).mono fun e W' ⟨he, bel⟩ => ?_
  subst he
  exact ⟨_, rfl, _, _, _, [], _, [], hW', trodAll_mk1 (shut_bool Tryz.underlying4 _), (trodAll_cons_mk (Below.trod (by kernel_rfl) (by kernel_rfl) (of_decide_eq_true (by kernel_rfl)) k0 bel lt0) (trodAll_cons_mk (Below.trod (by kernel_rfl) (by kernel_rfl) (of_decide_eq_true (by kernel_rfl)) k1 bel lt1) (trodAll_cons_mk (shut_int Tryz.underlying53 w2) trodAll_mk0))), rfl, bel.frame _, fun h => by cases h⟩

theorem over : Rows.QfileTornSaid :=
  OpenClaim.holds_of_cond 6 Tryz.f6 rfl rfl rfl rfl rfl rfl rfl ⟨rfl, rfl, rfl, rfl, rfl⟩ rfl rfl rfl rfl rfl (by kernel_rfl) Tryz.func6 (by kernel_rfl)
    (of_decide_eq_true (by kernel_rfl)) (by unfold Func.isWrapper; first | (rw [if_pos (by decide +kernel)]; kernel_rfl) | (rw [if_neg (by decide +kernel)]; exact ⟨rfl, rfl⟩))
    (fun os started H enc _ F => by rw [OpenClaim.pre_eq_preRow]; exact lifted os started H enc F)

theorem plain (f : FuncId) (fn : Func) (hf : Tryz.pinned.checked.prog.funcNamed "pillarbox/pillarboxlaw12.QfileTorn" = some f) (hfn : Tryz.pinned.checked.prog.funcs[f]? = some fn) :
    false = Tryz.pinned.checked.prog.looks [] ∧ ∀ (j : Nat) t, fn.params[j]? = some t → Tryz.pinned.checked.prog.wantsStandIn t = false := by
  obtain rfl : f = 6 := Option.some.inj ((show Tryz.prog.funcNamed "pillarbox/pillarboxlaw12.QfileTorn" = some 6 by kernel_rfl).symm.trans hf) |>.symm
  obtain rfl : fn = Tryz.f6 := (Option.some.inj (Tryz.func6.symm.trans hfn)).symm
  refine ⟨by kernel_rfl, fun j t ht => ?_⟩
  rw [Tryz.params6] at ht
  have hm : t ∈ [25, 26, 53] := by simpa using Array.mem_of_getElem? ht
  have hall : ([25, 26, 53].all fun u => !Tryz.prog.wantsStandIn u) = true := by kernel_rfl
  exact (show Tryz.prog.wantsStandIn t = false by simpa using List.all_eq_true.1 hall t hm)

/-- The statement: the tied card. -/
theorem proved : Rows.QfileTornCardSaid :=
  Claim7.holds_tied_plain_at .later [] _ _ _ _ over (fun _ h => by cases h) (by kernel_rfl) (fun _ h => by cases h) qfileTorn_row_tie rfl ⟨rfl, rfl⟩ (by kernel_rfl) rfl plain (by kernel_rfl)
#print axioms proved
end Go.Proofs.YtimoebicacnihaaGreatDoor.qfileTorn
