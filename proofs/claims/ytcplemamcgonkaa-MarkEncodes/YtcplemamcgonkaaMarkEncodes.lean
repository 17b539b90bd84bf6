/-
  Proved here: for every mark, Encode answers the mark's 28 bytes, as the document's own Mark lays them, and Good is true, if the mark is good; nothing and false, if it is not. Conditions: none.
-/
import Derived.Test.YtcplemamcgonkaaRows
import Derived.Test.YtcplemamcgonkaaHArgs
import Derived.Lib.Hide
import Derived.WalkKit
import Derived.ProofKit
import Derived.OpenShut
import Derived.ShutString
import Derived.ChangeOld
import Derived.Below
namespace Go.Proofs.Ytcplemamcgonkaa.markEncodes
open Go.ChangeShapes Go.WideShapes Go.ChangeAt Go.RowKit
set_option linter.unusedVariables false
set_option linter.unusedSimpArgs false
open Ln
theorem own : ownKnob Try.prog.godebug = none := by kernel_rfl
theorem laidOut : laidOutB Try.prog = true := by kernel_rfl

/-! ### The walk -/
set_option maxHeartbeats 16000000 in
set_option maxRecDepth 100000 in
theorem walk (k0 : Ln.Mk) (w : World)  :
    Calls Try.prog 3 #[.agg (Ln.mkC k0)] w fun e w' => e = .returned (.bool true) ∧ Below w.heap.size w w' := by
  have K0 := Lib.hid (keep_new w (.cells (mkC k0) 23))
  have HA : Hid (At (w.alloc (.cells (mkC k0) 23)) w.heap.size 23 (mkC k0)) := Lib.hid (At.new w _ _)
  obtain ⟨W0, hW0⟩ : ∃ W0, W0 = w.alloc (.cells (mkC k0) 23) := ⟨_, rfl⟩
  rw [← hW0] at K0 HA
  have HC : Hid (∀ W, Keep (fun _ => False) W0 W → K3 W w.heap.size k0.kind k0.rcpt k0.n) := Lib.hid (fun W kk => k3_of (HA.out.keep kk (fun h => h)))
  have HMay : Hid (∀ W, Calls Try.prog 10 #[.agg (mkC k0)] W (Quiet (.bool (goodK k0)) W)) := Lib.hid (fun W => mayMarkC k0 W)
  have HGood : Hid (∀ W, Calls Try.prog 12 #[.agg (mkC k0)] W (Quiet (.bool (goodK k0)) W)) := Lib.hid (fun W => goodKC k0 W)
  have HEnc : Hid (∀ W, Calls Try.prog 9 #[.agg (mkC k0)] W (EncK k0 W)) := Lib.hid (fun W => encodeK k0)
  have HMark : Hid (goodK k0 = true → ∀ W, Calls Try.prog 13 #[.agg (mkC k0)] W (Marked k0 W)) := Lib.hid (fun h W => refMarkC h)
  have HB := Lib.hid (markB_lt k0)
  have HEb : Hid (∀ W e w', EncK k0 W e w' → if goodK k0 = true then ∃ y n cap, n = 28 ∧ e = .returned (.tuple #[.slice y n cap, .bool true]) ∧ Gr W w' (.slice y n cap) (markB k0) else e = .returned (.tuple #[.slice none 0 0, .bool false]) ∧ Keep (fun _ => False) W w') := Lib.hid (fun _ _ _ h => h)
  have HMb : Hid (∀ W e w', Marked k0 W e w' → ∃ y n cap, n = 28 ∧ e = .returned (.slice y n cap) ∧ Gr W w' (.slice y n cap) (markB k0)) := Lib.hid (fun _ _ _ h => h)
  obtain ⟨E, hE⟩ : ∃ E, E = EncK k0 := ⟨_, rfl⟩
  rw [← hE] at HEnc HEb
  obtain ⟨M, hM⟩ : ∃ M, M = Marked k0 := ⟨_, rfl⟩
  rw [← hM] at HMark HMb
  obtain ⟨MB, hMB⟩ : ∃ MB, MB = markB k0 := ⟨_, rfl⟩
  rw [← hMB] at HB HEb HMb
  clear HA hE hM hMB
  have HW0 := Lib.hid hW0
  clear hW0
  obtain ⟨v, hv⟩ : ∃ v, v = goodK k0 := ⟨_, rfl⟩
  rw [← hv] at HMay HGood HMark HEb
  unfold mkC at *
  obtain ⟨x, y, z⟩ := k0
  simp only at HC HMay HGood HEnc HMark HW0 ⊢
  clear hv
  cases v with
  | false =>
    go_enter Try.func3, Try.ntmps3
    go_wp2_with fail
    rw [← HW0.out]
    refine (HEnc.out W0).mono ?_
    rintro e w1 h1
    obtain ⟨rfl, hk1⟩ : e = .returned (.tuple #[.slice none 0 0, .bool false]) ∧ Keep (fun _ => False) W0 w1 := by
      have := HEb.out _ _ _ h1
      simpa using this
    obtain ⟨a0, a1, a2⟩ := HC.out w1 hk1
    have K1 := Lib.hid hk1
    clear h1 hk1
    go_wp2_with fail
    refine (HMay.out w1).mono ?_
    rintro e w2 ⟨rfl, hk2⟩
    have K2 := Lib.hid (K1.out.trans hk2 (fun _ _ h => h))
    clear hk2 a0 a1 a2
    go_wp2_with fail
    refine (answersK w2).mono ?_
    rintro e w3 ⟨rfl, hk3⟩
    have K3 := Lib.hid (K2.out.trans hk3 (fun _ _ h => h))
    obtain ⟨a0, a1, a2⟩ := HC.out w3 K3.out
    clear hk3
    go_wp2_with fail
    refine (HGood.out w3).mono ?_
    rintro e w4 ⟨rfl, hk4⟩
    have K4 := Lib.hid (K3.out.trans hk4 (fun _ _ h => h))
    clear hk4 a0 a1 a2
    go_wp2
    go_ret
    exact ⟨rfl, (K0.out.trans K4.out (fun _ _ h => h)).below (Nat.le_refl _) (fun _ h => h.elim)⟩
  | true =>
    go_enter Try.func3, Try.ntmps3
    go_wp2_with fail
    rw [← HW0.out]
    refine (HEnc.out W0).mono ?_
    rintro e w1 h1
    obtain ⟨yb, n, cap, rfl, rfl, hG1⟩ : ∃ y n cap, n = 28 ∧ e = .returned (.tuple #[.slice y n cap, .bool true]) ∧ Gr W0 w1 (.slice y n cap) MB := by
      have := HEb.out _ _ _ h1
      simpa using this
    have K1 := Lib.hid hG1.kp
    have HB1 := Lib.hid hG1.own.bytesO
    obtain ⟨a0, a1, a2⟩ := HC.out w1 K1.out
    clear h1 hG1
    go_wp2_with fail
    refine (HMay.out w1).mono ?_
    rintro e w2 ⟨rfl, hk2⟩
    have K2 := Lib.hid (K1.out.trans hk2 (fun _ _ h => h))
    have HB2 := Lib.hid (HB1.out.1.quiet hk2)
    have HLn := Lib.hid HB1.out.2.1
    obtain ⟨T, hT⟩ : ∃ T, T = str MB := ⟨_, rfl⟩
    have HS : Hid (∀ Z, Keep (fun _ => False) w2 Z → K3 Z w.heap.size x y z ∧ (convert 24 9 (.slice yb 28 cap)).run Try.prog Z = .ok (.string T) Z) := Lib.hid (fun Z k => ⟨HC.out Z (K2.out.trans k (fun _ _ h => h)), by
      rw [hT]
      exact run_str (HB2.out.quiet k) 28 cap HLn.out.symm⟩)
    have HT := Lib.hid hT
    clear hk2 a0 a1 a2 hT
    have kD : Keep (fun _ => False) w2 w2.drew := (Keep.refl _ w2).drew
    obtain ⟨⟨s0, s1, s2⟩, s3⟩ := HS.out _ kD
    go_wp2
    refine wp_region_noPanic ?_
    refine wp_region_held_drew (S := fun Z => Z.cell? ⟨w.heap.size, 0, none⟩ = some (.int .i64 x) ∧ Z.cell? ⟨w.heap.size, 1, none⟩ = some (.int .i64 y) ∧ Z.cell? ⟨w.heap.size, 2, none⟩ = some (.int .i64 z) ∧ (convert 24 9 (.slice yb 28 cap)).run Try.prog Z = .ok (.string T) Z) (by kernel_rfl) ⟨s0, s1, s2, s3⟩ (fun hHeld => ?_)
    clear s0 s1 s2 s3
    refine wpAnyH_ready (rs := [0]) (by kernel_rfl) (by simp) ?_
    refine AllReadyH.cons rfl (fun K hK => ?_) AllReadyH.nil
    go_simp
    refine (answersK _).mono ?_
    rintro e w3 ⟨rfl, hk3⟩
    have k3 := kD.trans hk3 (fun _ _ h => h)
    obtain ⟨⟨s0, s1, s2⟩, s3⟩ := HS.out _ k3
    clear hk3
    go_wp2_with fail
    refine hK.out _ _ ⟨s0, s1, s2, s3⟩ (fun hHeld => ?_)
    clear hK K
    try simp only [Act.put, List.getElem_toArray, List.getElem_cons_succ, List.getElem_cons_zero, List.setIfInBounds_toArray, List.set_cons_zero, List.set_cons_succ]
    clear s0 s1 s2 s3
    refine wpAnyH_take (i := 1) (v := ?_) rfl (by kernel_rfl) (by kernel_rfl) (by kernel_rfl) (fun _ _ _ h => h) (Or.inl ⟨by rfl, ?_⟩) (by assumption) ?_
    rotate_left
    · (intro wS hSw; (try dsimp only at hSw); obtain ⟨hS1, hS2, hS3, hS4⟩ := hSw; (try simp only [List.getElem_toArray, List.getElem_cons_succ, List.getElem_cons_zero]); go_simp; try (with_reducible rfl))
    try simp only [Act.put, List.getElem_toArray, List.getElem_cons_succ, List.getElem_cons_zero, List.setIfInBounds_toArray, List.set_cons_zero, List.set_cons_succ]
    refine wpAnyH_take (i := 2) (v := ?_) rfl (by kernel_rfl) (by kernel_rfl) (by kernel_rfl) (fun _ _ _ h => h) (Or.inl ⟨by rfl, ?_⟩) (by assumption) ?_
    rotate_left
    · (intro wS hSw; (try dsimp only at hSw); obtain ⟨hS1, hS2, hS3, hS4⟩ := hSw; (try simp only [List.getElem_toArray, List.getElem_cons_succ, List.getElem_cons_zero]); go_simp; try (with_reducible rfl))
    try simp only [Act.put, List.getElem_toArray, List.getElem_cons_succ, List.getElem_cons_zero, List.setIfInBounds_toArray, List.set_cons_zero, List.set_cons_succ]
    refine wpAnyH_take (i := 3) (v := ?_) rfl (by kernel_rfl) (by kernel_rfl) (by kernel_rfl) (fun _ _ _ h => h) (Or.inl ⟨by rfl, ?_⟩) (by assumption) ?_
    rotate_left
    · (intro wS hSw; (try dsimp only at hSw); obtain ⟨hS1, hS2, hS3, hS4⟩ := hSw; (try simp only [List.getElem_toArray, List.getElem_cons_succ, List.getElem_cons_zero]); go_simp; try (with_reducible rfl))
    try simp only [Act.put, List.getElem_toArray, List.getElem_cons_succ, List.getElem_cons_zero, List.setIfInBounds_toArray, List.set_cons_zero, List.set_cons_succ]
    refine wpAnyH_take (i := 4) (v := ?_) rfl (by kernel_rfl) (by kernel_rfl) (by kernel_rfl) (fun _ _ _ h => h) (Or.inl ⟨by rfl, ?_⟩) (by assumption) ?_
    rotate_left
    · (intro wS hSw; (try dsimp only at hSw); obtain ⟨hS1, hS2, hS3, hS4⟩ := hSw; (try simp only [List.getElem_toArray, List.getElem_cons_succ, List.getElem_cons_zero]); go_simp; try (with_reducible rfl))
    try simp only [Act.put, List.getElem_toArray, List.getElem_cons_succ, List.getElem_cons_zero, List.setIfInBounds_toArray, List.set_cons_zero, List.set_cons_succ]
    refine wpAnyH_take (i := 5) (v := ?_) rfl (by kernel_rfl) (by kernel_rfl) (by kernel_rfl) (fun _ _ _ h => h) (Or.inl ⟨by rfl, ?_⟩) (by assumption) ?_
    rotate_left
    · (intro wS hSw; (try dsimp only at hSw); obtain ⟨hS1, hS2, hS3, hS4⟩ := hSw; (try simp only [List.getElem_toArray, List.getElem_cons_succ, List.getElem_cons_zero]); go_simp; try (with_reducible rfl))
    try simp only [Act.put, List.getElem_toArray, List.getElem_cons_succ, List.getElem_cons_zero, List.setIfInBounds_toArray, List.set_cons_zero, List.set_cons_succ]
    refine wpAnyH_ready (rs := [6]) (by kernel_rfl) (by simp) ?_
    refine AllReadyH.cons rfl (fun K hK => ?_) AllReadyH.nil
    go_simp
    refine (HGood.out _).mono ?_
    rintro e w4 ⟨rfl, hk4⟩
    have k4 := k3.trans hk4 (fun _ _ h => h)
    obtain ⟨⟨s0, s1, s2⟩, s3⟩ := HS.out _ k4
    clear hk4
    go_wp2_with fail
    refine hK.out _ _ ⟨s0, s1, s2, s3⟩ (fun hHeld => ?_)
    clear hK K
    try simp only [Act.put, List.getElem_toArray, List.getElem_cons_succ, List.getElem_cons_zero, List.setIfInBounds_toArray, List.set_cons_zero, List.set_cons_succ]
    clear s0 s1 s2 s3
    refine wpAnyH_take (i := 7) (v := ?_) rfl (by kernel_rfl) (by kernel_rfl) (by kernel_rfl) (fun _ _ _ h => h) (Or.inl ⟨by rfl, ?_⟩) (by assumption) ?_
    rotate_left
    · (intro wS hSw; (try dsimp only at hSw); obtain ⟨hS1, hS2, hS3, hS4⟩ := hSw; (try simp only [List.getElem_toArray, List.getElem_cons_succ, List.getElem_cons_zero]); go_simp; try (with_reducible rfl))
    try simp only [Act.put, List.getElem_toArray, List.getElem_cons_succ, List.getElem_cons_zero, List.setIfInBounds_toArray, List.set_cons_zero, List.set_cons_succ]
    refine wpAnyH_take (i := 8) (v := ?_) rfl (by kernel_rfl) (by kernel_rfl) (by kernel_rfl) (fun _ _ _ h => h) (Or.inl ⟨by rfl, ?_⟩) (by assumption) ?_
    rotate_left
    · (intro wS hSw; (try dsimp only at hSw); obtain ⟨hS1, hS2, hS3, hS4⟩ := hSw; (try simp only [List.getElem_toArray, List.getElem_cons_succ, List.getElem_cons_zero]); go_simp; try (with_reducible rfl))
    try simp only [Act.put, List.getElem_toArray, List.getElem_cons_succ, List.getElem_cons_zero, List.setIfInBounds_toArray, List.set_cons_zero, List.set_cons_succ]
    refine wpAnyH_take (i := 9) (v := ?_) rfl (by kernel_rfl) (by kernel_rfl) (by kernel_rfl) (fun _ _ _ h => h) (Or.inl ⟨by rfl, ?_⟩) (by assumption) ?_
    rotate_left
    · (intro wS hSw; (try dsimp only at hSw); obtain ⟨hS1, hS2, hS3, hS4⟩ := hSw; (try simp only [List.getElem_toArray, List.getElem_cons_succ, List.getElem_cons_zero]); go_simp; try (with_reducible rfl))
    try simp only [Act.put, List.getElem_toArray, List.getElem_cons_succ, List.getElem_cons_zero, List.setIfInBounds_toArray, List.set_cons_zero, List.set_cons_succ]
    refine wpAnyH_take (i := 10) (v := ?_) rfl (by kernel_rfl) (by kernel_rfl) (by kernel_rfl) (fun _ _ _ h => h) (Or.inl ⟨by rfl, ?_⟩) (by assumption) ?_
    rotate_left
    · (intro wS hSw; (try dsimp only at hSw); obtain ⟨hS1, hS2, hS3, hS4⟩ := hSw; (try simp only [List.getElem_toArray, List.getElem_cons_succ, List.getElem_cons_zero]); go_simp; try (with_reducible rfl))
    try simp only [Act.put, List.getElem_toArray, List.getElem_cons_succ, List.getElem_cons_zero, List.setIfInBounds_toArray, List.set_cons_zero, List.set_cons_succ]
    refine wpAnyH_take (i := 11) (v := ?_) rfl (by kernel_rfl) (by kernel_rfl) (by kernel_rfl) (fun _ _ _ h => h) (Or.inl ⟨by rfl, ?_⟩) (by assumption) ?_
    rotate_left
    · (intro wS hSw; (try dsimp only at hSw); obtain ⟨hS1, hS2, hS3, hS4⟩ := hSw; (try simp only [List.getElem_toArray, List.getElem_cons_succ, List.getElem_cons_zero]); go_simp; try (with_reducible rfl))
    try simp only [Act.put, List.getElem_toArray, List.getElem_cons_succ, List.getElem_cons_zero, List.setIfInBounds_toArray, List.set_cons_zero, List.set_cons_succ]
    refine wpAnyH_ready (rs := [12]) (by kernel_rfl) (by simp) ?_
    refine AllReadyH.cons rfl (fun K hK => ?_) AllReadyH.nil
    go_simp
    refine (HMark.out trivial _).mono ?_
    rintro e w5 h5
    obtain ⟨y5, n5, c5, rfl, rfl, hG5⟩ := HMb.out _ _ _ h5
    have k5 := k4.trans hG5.kp (fun _ _ h => h)
    have hB5 := hG5.own.bytesO
    have hv5 := run_str hB5.1 28 c5 hB5.2.1.symm
    rw [← HT.out] at hv5
    obtain ⟨⟨s0, s1, s2⟩, s3⟩ := HS.out _ k5
    clear h5 hG5 hB5
    go_wp2_with fail
    refine hK.out _ _ ⟨s0, s1, s2, s3⟩ (fun hHeld => ?_)
    clear hK K
    try simp only [Act.put, List.getElem_toArray, List.getElem_cons_succ, List.getElem_cons_zero, List.setIfInBounds_toArray, List.set_cons_zero, List.set_cons_succ]
    refine wpAnyH_ready (rs := [13]) (by kernel_rfl) (by simp) ?_
    refine AllReadyH.cons rfl (fun K hK => ?_) AllReadyH.nil
    go_simp
    refine hK.out _ _ ⟨s0, s1, s2, s3⟩ (fun hHeld => ?_)
    clear hK K
    try simp only [Act.put, List.getElem_toArray, List.getElem_cons_succ, List.getElem_cons_zero, List.setIfInBounds_toArray, List.set_cons_zero, List.set_cons_succ]
    clear s0 s1 s2 s3 hv5
    refine wpAnyH_take (i := 14) (v := ?_) rfl (by kernel_rfl) (by kernel_rfl) (by kernel_rfl) (fun _ _ _ h => h) (Or.inl ⟨by rfl, ?_⟩) (by assumption) ?_
    rotate_left
    · (intro wS hSw; (try dsimp only at hSw); obtain ⟨hS1, hS2, hS3, hS4⟩ := hSw; (try simp only [List.getElem_toArray, List.getElem_cons_succ, List.getElem_cons_zero]); go_simp; try (with_reducible rfl))
    try simp only [Act.put, List.getElem_toArray, List.getElem_cons_succ, List.getElem_cons_zero, List.setIfInBounds_toArray, List.set_cons_zero, List.set_cons_succ]
    refine wpAnyH_take (i := 15) (v := ?_) rfl (by kernel_rfl) (by kernel_rfl) (by kernel_rfl) (fun _ _ _ h => h) (Or.inl ⟨by rfl, ?_⟩) (by assumption) ?_
    rotate_left
    · (intro wS hSw; (try dsimp only at hSw); obtain ⟨hS1, hS2, hS3, hS4⟩ := hSw; (try simp only [List.getElem_toArray, List.getElem_cons_succ, List.getElem_cons_zero]); go_simp; try (with_reducible rfl))
    try simp only [Act.put, List.getElem_toArray, List.getElem_cons_succ, List.getElem_cons_zero, List.setIfInBounds_toArray, List.set_cons_zero, List.set_cons_succ]
    refine wpAnyH_take (i := 16) (v := ?_) rfl (by kernel_rfl) (by kernel_rfl) (by kernel_rfl) (fun _ _ _ h => h) (Or.inl ⟨by rfl, ?_⟩) (by assumption) ?_
    rotate_left
    · (intro wS hSw; (try dsimp only at hSw); obtain ⟨hS1, hS2, hS3, hS4⟩ := hSw; (try simp only [List.getElem_toArray, List.getElem_cons_succ, List.getElem_cons_zero]); go_simp; try (with_reducible rfl))
    try simp only [Act.put, List.getElem_toArray, List.getElem_cons_succ, List.getElem_cons_zero, List.setIfInBounds_toArray, List.set_cons_zero, List.set_cons_succ]
    refine wpAnyH_done (by kernel_rfl) ?_ _
    refine NoPanic.normal ?_
    go_wp2
    go_ret
    exact ⟨rfl, ((K0.out.trans K2.out (fun _ _ h => h)).trans k5 (fun _ _ h => h)).below (Nat.le_refl _) (fun _ h => h.elim)⟩

/-! ### The row's step -/
set_option maxRecDepth 100000 in
theorem lifted (os : Os) (started : os.Started) (H : Type) (enc : TypeId × Value → H) :
    ReturnsInHanded {} Try.checked os 3 .any (Rows.markEncodesSpec.pre6 enc Try.prog Try.f3 Rows.markEncodesRow.domain false) (Rows.markEncodesSpec.post enc Try.prog Try.f3 false true false false) := by
  refine returnsInHanded_of_change_sized (C := Try.checked) own started (by kernel_rfl) Try.func3
    (ChangeSpec.witness6 (enc := enc) (C := Try.checked) false ⟨#[], #[.agg #[.int .i64 0, .int .i64 0, .int .i64 0]], []⟩ 8 (by kernel_rfl) (by kernel_rfl) (by kernel_rfl) (by kernel_rfl)) ?_
  intro W base args ds gs before hval0 hW hcnd hsz _
  have hval : ∀ (j : Nat) t v, Try.f3.params[j]? = some t → args[j]? = some v → Value.okWide Try.prog W .any base t v := hval0
  have hW' := hW
  obtain ⟨p, q, hA0, hV, rfl, hfz, hnd⟩ := hW
  have hA : DataW.TrodAll enc Try.prog W 0 (fun _ => true) true Try.f3.params.toList args.toList ds p := hA0
  rw [Try.params3] at hA hval hsz
  obtain ⟨v0, vs0, d0, ds0, p0, q0, hargs, rfl, rfl, h0, r0⟩ := trodAll_cons hA
  obtain ⟨rfl, rfl, rfl⟩ := trodAll_nil r0
  obtain rfl : args = #[v0] := by cases args; simp_all
  obtain ⟨rfl, rfl⟩ := trodVars_none hV
  obtain ⟨c0, rfl, _⟩ := okWide_struct Try.underlying23 (hval 0 23 v0 rfl rfl)
  have k0 := h0
  have lt0 : ∀ x ∈ p0, x.block < W.heap.size := by obtain ⟨m, hm⟩ := k0; exact DataW.trod_lt m _ _ _ hm
  obtain ⟨m0, e0⟩ : ∃ m, c0 = Ln.mkC m := by
    obtain ⟨fuel, hf⟩ := h0
    exact Ln.arg_mark hf
  subst e0
  clear hA0 hval0
  refine (walk m0 W ).mono fun e W' ⟨he, bel⟩ => ?_
  subst he
  exact ⟨_, rfl, _, _, _, [], _, [], hW', trodAll_mk1 (shut_bool Try.underlying4 _), (trodAll_cons_mk (Below.trod laidOut (by kernel_rfl) (of_decide_eq_true (by kernel_rfl)) k0 bel lt0) trodAll_mk0), rfl, bel.frame _, fun h => by cases h⟩

theorem over : Rows.markEncodesRow.holds Try.pinned (OpenSpec.ofChange Rows.markEncodesSpec) :=
  OpenClaim.holds_of_wide 3 Try.f3 rfl rfl rfl rfl rfl rfl rfl ⟨rfl, rfl, rfl, rfl, rfl⟩ rfl rfl rfl rfl rfl (by kernel_rfl) Try.func3 (by kernel_rfl)
    (of_decide_eq_true (by kernel_rfl)) (by unfold Func.isWrapper; first | (rw [if_pos (by decide +kernel)]; kernel_rfl) | (rw [if_neg (by decide +kernel)]; exact ⟨rfl, rfl⟩))
    (fun os started H enc _ => lifted os started H enc)

/-- The statement. -/
theorem proved : Rows.MarkEncodesSaid := over
#print axioms proved
end Go.Proofs.Ytcplemamcgonkaa.markEncodes
