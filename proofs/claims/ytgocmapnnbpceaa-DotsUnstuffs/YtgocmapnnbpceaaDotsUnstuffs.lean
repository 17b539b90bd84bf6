/-
  Proved here: Unstuff of every line answers what the document's own does: nothing, and true, of a line that is one point; else the line without the point that it begins with, and false (and the laws' own example holds). Conditions: none.
-/
import Derived.Test.YtgocmapnnbpceaaRows
import Derived.Test.YtgocmapnnbpceaaAns
import Derived.Lib.Hide
import Derived.WalkKit
import Derived.ProofKit
import Derived.OpenShut
import Derived.ShutString
import Derived.ChangeOld
import Derived.Below
import Derived.HandedShaped
namespace Go.Proofs.Ytgocmapnnbpceaa.dotsUnstuffs
open Go.ChangeShapes Go.WideShapes Go.ChangeAt Go.RowKit
set_option linter.unusedVariables false

theorem own : ownKnob Try.prog.godebug = none := by kernel_rfl
theorem laidOut : laidOutB Try.prog = true := by kernel_rfl

/-! ### The walk -/
set_option maxHeartbeats 4000000 in
set_option maxRecDepth 100000 in
theorem walk (a0 : ByteArray) (w : World) (m0 : a0.size ≤ 140737488351232) (hm : Ln.Hm w) :
    Calls Try.prog 4 #[.string a0] w fun e w' => e = .returned (.bool true) ∧ Below w.heap.size w w' := by
  have HM := Lib.hid hm
  clear hm
  go_enter Try.func4, Try.ntmps4
  go_wp2_with fail
  refine (Ln.unstuff a0 w (by omega)).mono ?_
  rintro e w1 ⟨rfl, hk1⟩
  have HS1 : Hid (Ln.Since w w1) := Lib.hid (Ln.Since.quiet (Ln.Keep.refl _ w) hk1)
  clear hk1
  go_wp2_with fail
  refine (Ln.refUnstuff a0 w1 (by omega)).mono ?_
  rintro e w2 ⟨rfl, hw⟩
  have hw' := hw.symm
  subst hw'
  obtain ⟨T, hT⟩ : ∃ T, T = Ln.str (Ln.unT (Ln.ns a0)) := ⟨_, rfl⟩
  obtain ⟨E, hE⟩ : ∃ E, E = Ln.unE (Ln.ns a0) := ⟨_, rfl⟩
  rw [← hT, ← hE]
  clear hT hE
  go_wp2_with fail
  refine (Ln.ansS HS1.out HM.out).mono ?_
  rintro e w3 ⟨rfl, hS3, _⟩
  have HS3 := Lib.hid hS3
  clear hS3
  cases E with
  | false =>
    go_wp2
    go_ret
    exact ⟨rfl, HS3.out.below⟩
  | true =>
    go_wp2
    go_ret
    exact ⟨rfl, HS3.out.below⟩

/-! ### The row's step -/
set_option maxRecDepth 100000 in
theorem lifted (os : Os) (started : os.Started) (H : Type) (enc : TypeId × Value → H) :
    ReturnsInHanded {} Try.checked os 4 .any (Rows.dotsUnstuffsSpec.pre6 enc Try.prog Try.f4 Rows.dotsUnstuffsRow.domain false) (Rows.dotsUnstuffsSpec.post enc Try.prog Try.f4 false true false false) := by
  refine returnsInHanded_of_change_shaped (C := Try.checked) own started (by kernel_rfl) Try.func4
    (ChangeSpec.witness6 (enc := enc) (C := Try.checked) false ⟨#[], #[.string { data := #[] }], []⟩ 8 (by kernel_rfl) (by kernel_rfl) (by kernel_rfl) (by kernel_rfl)) ?_
  intro W base args ds gs before hval0 hW hcnd hsz hsh _
  have hval : ∀ (j : Nat) t v, Try.f4.params[j]? = some t → args[j]? = some v → Value.okWide Try.prog W .any base t v := hval0
  have hW' := hW
  obtain ⟨p, q, hA0, hV, rfl, hfz, hnd⟩ := hW
  have hA : DataW.TrodAll enc Try.prog W 0 (fun _ => true) true Try.f4.params.toList args.toList ds p := hA0
  rw [Try.params4] at hA hval hsz
  obtain ⟨v0, vs0, d0, ds0, p0, q0, hargs, rfl, rfl, h0, r0⟩ := trodAll_cons hA
  obtain ⟨rfl, rfl, rfl⟩ := trodAll_nil r0
  obtain rfl : args = #[v0] := by cases args; simp_all
  obtain ⟨rfl, rfl⟩ := trodVars_none hV
  obtain ⟨a0, rfl, rfl, rfl, w0⟩ := ChangeMaps.open_string Try.underlying9 (hval 0 9 v0 rfl rfl) h0
  have z0 : a0.size ≤ 140737488351232 := by have h := sized_string hsz (j := 0) (t := 9) (bytes := a0.data.toList) rfl rfl; rw [Array.length_toList] at h; exact h
  clear hA0 hval0
  refine (walk a0 W z0 (Ln.maxLen_some W hsh)).mono fun e W' ⟨he, bel⟩ => ?_
  subst he
  exact ⟨_, rfl, _, _, _, [], _, [], hW', trodAll_mk1 (shut_bool Try.underlying4 _), (trodAll_cons_mk (ChangeMaps.shut_string Try.underlying9 w0) trodAll_mk0), rfl, bel.frame _, fun h => by cases h⟩

theorem over : Rows.dotsUnstuffsRow.holds Try.pinned (OpenSpec.ofChange Rows.dotsUnstuffsSpec) :=
  OpenClaim.holds_of_wide 4 Try.f4 rfl rfl rfl rfl rfl rfl rfl ⟨rfl, rfl, rfl, rfl, rfl⟩ rfl rfl rfl rfl rfl (by kernel_rfl) Try.func4 (by kernel_rfl)
    (of_decide_eq_true (by kernel_rfl)) (by unfold Func.isWrapper; first | (rw [if_pos (by decide +kernel)]; kernel_rfl) | (rw [if_neg (by decide +kernel)]; exact ⟨rfl, rfl⟩))
    (fun os started H enc _ => lifted os started H enc)

/-- The statement. -/
theorem proved : Rows.DotsUnstuffsSaid := over
#print axioms proved
end Go.Proofs.Ytgocmapnnbpceaa.dotsUnstuffs
