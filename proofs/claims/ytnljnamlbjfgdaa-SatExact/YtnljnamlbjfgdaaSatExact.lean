/-
  Proved here: where nothing is out of bounds it is just counted (the law SatExact returns true for any two 32-bit numbers). Conditions: none.
  The frame of the row's step was written by the guide's program.
-/
import Derived.Test.YtnljnamlbjfgdaaRows
import Derived.Test.YtnljnamlbjfgdaaAns
import Derived.WalkKit
import Derived.ProofKit
import Derived.OpenShut
namespace Go.Proofs.Ytnljnamlbjfgdaa.satExact
open Go.ChangeShapes Go.WideShapes Go.ChangeAt Go.RowKit
set_option linter.unusedVariables false      -- a walk need not use every 'w<i>' (that an integer argument fits its kind)

theorem own : ownKnob Try.prog.godebug = none := by kernel_rfl

/-! ### STEP 1: THE WALK: the Go text returns true. 'Grown w w'': the world has at most new blocks (Derived/RowKit3.lean). Part the cases AHEAD of 'go_enter' where a test parts the walk; take each callee by a contract of your own. -/
set_option maxHeartbeats 2000000 in
theorem walk (a0 : Int) (a1 : Int) (w0 : (Lit.int .u32 a0).wf = true) (w1 : (Lit.int .u32 a1).wf = true) (w : World) :
    Calls Try.prog 6 #[.int .u32 a0, .int .u32 a1] w fun e w' => e = .returned (.bool true) ∧ Grown w w' := by
  have hb0 := bounds_u32 w0; have hb1 := bounds_u32 w1
  clear w0 w1
  have x0 : 0 ≤ a0 / 4 := by omega
  have x1 : a0 / 4 ≤ 1073741823 := by omega
  have y0 : 0 ≤ a1 / 4 := by omega
  have y1 : a1 / 4 ≤ 1073741823 := by omega
  have p0 : 0 ≤ a0 / 4 * (a1 / 4) := Int.mul_nonneg x0 y0
  have p1 : a0 / 4 * (a1 / 4) ≤ 1152921502459363329 := Int.le_trans (Int.mul_le_mul_of_nonneg_right x1 y0) (by omega)
  have e1 : (Sat.ad (a0 / 4) (a1 / 4) == a0 / 4 + a1 / 4) = true := beq_iff_eq.2 (Sat.ad_in x0 y0 (by omega))
  have e3 : (Sat.cl (a0 / 4) == a0 / 4) = true := beq_iff_eq.2 (Sat.cl_in x0 (by omega))
  have e5 : (Sat.su (Sat.ad (a0 / 4) (a1 / 4)) (a1 / 4) == a0 / 4) = true := beq_iff_eq.2 (Sat.su_ad x0 y0 (by omega))
  by_cases hs : a0 / 4 - a1 / 4 < 0
  · have e2 : (Sat.su (a0 / 4) (a1 / 4) == 0) = true := beq_iff_eq.2 (Sat.su_none x0 y0 (by omega) (by omega) (by omega))
    by_cases hm : 1099511627776 < a0 / 4 * (a1 / 4)
    · have e4 : (Sat.mu (a0 / 4) (a1 / 4) == 1099511627776) = true := beq_iff_eq.2 (Sat.mu_top x0 y0 (by omega) (by omega) (by omega))
      go_enter Try.func6, Try.ntmps6
      go_wp2_with (first
        | (go_at_call 8; refine (Sat.answers _).mono ?_; rintro e w' ⟨rfl, rfl⟩)
        | (go_at_call 9; refine (Sat.clamp _ _).mono ?_; rintro e w' ⟨rfl, rfl⟩)
        | (go_at_call 10; refine (Sat.add _ _ _).mono ?_; rintro e w' ⟨rfl, rfl⟩)
        | (go_at_call 11; refine (Sat.sub _ _ _).mono ?_; rintro e w' ⟨rfl, rfl⟩)
        | (go_at_call 12; refine (Sat.mul _ _ _).mono ?_; rintro e w' ⟨rfl, rfl⟩))
      go_ret
      exact ⟨rfl, Grown.refl _⟩
    · have e4 : (Sat.mu (a0 / 4) (a1 / 4) == a0 / 4 * (a1 / 4)) = true := beq_iff_eq.2 (Sat.mu_in x0 y0 (by omega) (by omega) (by omega))
      go_enter Try.func6, Try.ntmps6
      go_wp2_with (first
        | (go_at_call 8; refine (Sat.answers _).mono ?_; rintro e w' ⟨rfl, rfl⟩)
        | (go_at_call 9; refine (Sat.clamp _ _).mono ?_; rintro e w' ⟨rfl, rfl⟩)
        | (go_at_call 10; refine (Sat.add _ _ _).mono ?_; rintro e w' ⟨rfl, rfl⟩)
        | (go_at_call 11; refine (Sat.sub _ _ _).mono ?_; rintro e w' ⟨rfl, rfl⟩)
        | (go_at_call 12; refine (Sat.mul _ _ _).mono ?_; rintro e w' ⟨rfl, rfl⟩))
      go_ret
      exact ⟨rfl, Grown.refl _⟩
  · have e2 : (Sat.su (a0 / 4) (a1 / 4) == a0 / 4 - a1 / 4) = true := beq_iff_eq.2 (Sat.su_in x0 y0 (by omega) (by omega) (by omega))
    by_cases hm : 1099511627776 < a0 / 4 * (a1 / 4)
    · have e4 : (Sat.mu (a0 / 4) (a1 / 4) == 1099511627776) = true := beq_iff_eq.2 (Sat.mu_top x0 y0 (by omega) (by omega) (by omega))
      go_enter Try.func6, Try.ntmps6
      go_wp2_with (first
        | (go_at_call 8; refine (Sat.answers _).mono ?_; rintro e w' ⟨rfl, rfl⟩)
        | (go_at_call 9; refine (Sat.clamp _ _).mono ?_; rintro e w' ⟨rfl, rfl⟩)
        | (go_at_call 10; refine (Sat.add _ _ _).mono ?_; rintro e w' ⟨rfl, rfl⟩)
        | (go_at_call 11; refine (Sat.sub _ _ _).mono ?_; rintro e w' ⟨rfl, rfl⟩)
        | (go_at_call 12; refine (Sat.mul _ _ _).mono ?_; rintro e w' ⟨rfl, rfl⟩))
      go_ret
      exact ⟨rfl, Grown.refl _⟩
    · have e4 : (Sat.mu (a0 / 4) (a1 / 4) == a0 / 4 * (a1 / 4)) = true := beq_iff_eq.2 (Sat.mu_in x0 y0 (by omega) (by omega) (by omega))
      go_enter Try.func6, Try.ntmps6
      go_wp2_with (first
        | (go_at_call 8; refine (Sat.answers _).mono ?_; rintro e w' ⟨rfl, rfl⟩)
        | (go_at_call 9; refine (Sat.clamp _ _).mono ?_; rintro e w' ⟨rfl, rfl⟩)
        | (go_at_call 10; refine (Sat.add _ _ _).mono ?_; rintro e w' ⟨rfl, rfl⟩)
        | (go_at_call 11; refine (Sat.sub _ _ _).mono ?_; rintro e w' ⟨rfl, rfl⟩)
        | (go_at_call 12; refine (Sat.mul _ _ _).mono ?_; rintro e w' ⟨rfl, rfl⟩))
      go_ret
      exact ⟨rfl, Grown.refl _⟩

/-! ### THE ROW's STEP: WRITTEN OUT: LEAVE IT -/
set_option maxRecDepth 100000 in
theorem lifted (os : Os) (started : os.Started) (H : Type) (enc : TypeId × Value → H) :
    ReturnsInHanded {} Try.checked os 6 .any (Rows.satExactSpec.pre6 enc Try.prog Try.f6 Rows.satExactRow.domain false) (Rows.satExactSpec.post enc Try.prog Try.f6 false true false false) := by
  refine returnsInHanded_of_change (C := Try.checked) own started (by kernel_rfl) Try.func6
    (ChangeSpec.witness6 (enc := enc) (C := Try.checked) false ⟨#[], #[.int .u32 0, .int .u32 0], []⟩ 8 (by kernel_rfl) (by kernel_rfl) (by kernel_rfl) (by kernel_rfl)) ?_
  intro W base args ds gs before hval0 hW hcnd _
  have hval : ∀ (j : Nat) t v, Try.f6.params[j]? = some t → args[j]? = some v → Value.okWide Try.prog W .any base t v := hval0
  have hW' := hW
  obtain ⟨p, q, hA0, hV, rfl, hfz, hnd⟩ := hW
  have hA : DataW.TrodAll enc Try.prog W 0 (fun _ => true) true Try.f6.params.toList args.toList ds p := hA0
  rw [Try.params6] at hA hval
  obtain ⟨v0, vs0, d0, ds0, p0, q0, hargs, rfl, rfl, h0, r0⟩ := trodAll_cons hA
  obtain ⟨v1, vs1, d1, ds1, p1, q1, rfl, rfl, rfl, h1, r1⟩ := trodAll_cons r0
  obtain ⟨rfl, rfl, rfl⟩ := trodAll_nil r1
  obtain rfl : args = #[v0, v1] := by cases args; simp_all
  obtain ⟨rfl, rfl⟩ := trodVars_none hV
  obtain ⟨a0, rfl, rfl, rfl, w0⟩ := open_int Try.underlying28 (hval 0 28 v0 rfl rfl) h0
  obtain ⟨a1, rfl, rfl, rfl, w1⟩ := open_int Try.underlying28 (hval 1 28 v1 rfl rfl) h1
  clear hA0 hval0
  simp only [List.append_nil] at hW'
  refine (walk a0 a1 w0 w1 W).mono fun e W' ⟨he, hg⟩ => ?_
  subst he
  exact ⟨_, rfl, post_of_same (pa := []) (pv := []) hW' (fun _ _ _ => (trodAll_cons_mk (shut_bool Try.underlying4 _) trodAll_mk0)) (fun sp _ => (trodAll_cons_mk (shut_int Try.underlying28 w0) (trodAll_cons_mk (shut_int Try.underlying28 w1) trodAll_mk0))) (fun _ _ => rfl) rfl
    (hg.frame _) hg.2.1 (ok_one (by kernel_rfl) rfl (okWide_bool_mk Try.underlying4 _))⟩

theorem over : Rows.satExactRow.holds Try.pinned (OpenSpec.ofChange Rows.satExactSpec) :=
  OpenClaim.holds_of_wide 6 Try.f6 rfl rfl rfl rfl rfl rfl rfl ⟨rfl, rfl, rfl, rfl, rfl⟩ rfl rfl rfl rfl rfl (by kernel_rfl) Try.func6 (by kernel_rfl)
    (of_decide_eq_true (by kernel_rfl)) (by unfold Func.isWrapper; first | (rw [if_pos (by decide +kernel)]; kernel_rfl) | (rw [if_neg (by decide +kernel)]; exact ⟨rfl, rfl⟩))
    (fun os started H enc _ => lifted os started H enc)

/-- ████ THE STATEMENT ████ -/
theorem proved : Rows.SatExactSaid :=
  over
#print axioms proved
end Go.Proofs.Ytnljnamlbjfgdaa.satExact
