/-
  Proved here: whatever bytes come: the program reads off them the very mail, of as many bytes, that the document's own Begins reads, or none as it does (the law EnvDecodes returns true). Conditions: the card's own (variables of Go's library as its text lays them).
-/
import Derived.Test.YtpdopjpibmhamaaGreatDoorRows
import Derived.Test.YtpdopjpibmhamaaGreatDoorCards
import Derived.Test.YtpdopjpibmhamaaGreatDoorTie
import Derived.Test.YtpdopjpibmhamaaGreatDoorEh
import Derived.Lib.Hide
import Derived.WalkKit
import Derived.ProofKit
import Derived.OpenShut
import Derived.ShutString
import Derived.ChangeOld
import Derived.Below
import Derived.Lay
import Derived.SevenTiedAt
import Derived.Stop.Joined
import Derived.Deep.DeepHandedRow
namespace Go.Proofs.YtpdopjpibmhamaaGreatDoor.envDecodes
open Go.ChangeShapes Go.WideShapes Go.ChangeAt Go.RowKit
set_option linter.unusedVariables false
set_option linter.unusedSimpArgs false
open Ln
theorem own : ownKnob Tryz.prog.godebug = none := by kernel_rfl

/-! ### The walk -/
set_option maxHeartbeats 4000000 in
set_option maxRecDepth 100000 in
theorem walk (a0 : Option Addr) (x0 : List Nat) (cap0 : Nat) (w : World) (l0 : x0.length ≤ cap0) (m0 : cap0 ≤ 9223372036854775807) (B0 : Ln.Bytes (fun k => k < w.heap.size) w a0 x0) (hE : Ln.Env w) :
    Calls Tryz.prog 4 #[.slice a0 x0.length cap0] w fun e w' => e = .returned (.bool true) ∧ Below w.heap.size w w' := by
  have HA := Lib.hid (fun W e => answersC W e)
  have HE := Lib.hid hE
  have HB := Lib.hid B0
  have k0 := keep_new w (.cells #[] 5)
  have K0 := Lib.hid k0
  clear B0 hE m0 k0
  by_cases hbig : (3000 : Int) < (x0.length : Int)
  · go_enter Tryz.func4, Tryz.ntmps4
    go_wp2_with fail
    refine (HA.out _ HE.out).mono ?_
    rintro e w1 ⟨rfl, hk1⟩
    go_wp2
    go_ret
    exact ⟨rfl, hk1.below (Nat.le_refl _) (fun _ h => h.elim)⟩
  have hsm : x0.length ≤ 3000 := by omega
  have HS := Lib.hid hsm
  clear hsm
  go_enter Tryz.func4, Tryz.ntmps4
  go_wp2_with
    (at_builtin
     refine wpList_app_byts (by rfl) (.tmp 14) (.tmp 15) (by rfl) _ (by rfl) a0 x0.length cap0 x0 (by rfl) rfl (HB.out.quiet K0.out) (by have := HS.out; omega) ?_
     intro y c w1 hc hB1 hk1
     have K1 := Lib.hid (K0.out.trans hk1 (fun _ _ h => h))
     have HB1 := Lib.hid hB1
     have HC := Lib.hid hc
     clear hc hB1 hk1)
  refine (decodeC boxC linesC (HE.out.quiet K1.out) y x0.length c x0 rfl HC.out (by have := HS.out; omega) HB1.out).mono ?_
  rintro e w2 ⟨m, n, rx, rn, rc, bx, bn, bc, rfl, hM, hk2, hif⟩
  have HIF := Lib.hid hif
  have K2 := Lib.hid (K1.out.trans hk2 (fun _ _ h => h))
  obtain ⟨W3, hW3, hk3, hA3, hs3⟩ := put_mail w2 m rx rn rc bx bn bc
  have HM := Lib.hid (hM.quiet hk3)
  have K3 := Lib.hid (K2.out.trans hk3 (fun _ _ h => h))
  have HZ2 := Lib.hid (mz_new w2)
  have HW3 := Lib.hid hW3
  obtain ⟨A, hA⟩ : ∃ A, A = w2.heap.size := ⟨_, rfl⟩
  rw [← hA] at hA3 hs3 HZ2
  have HA3 := Lib.hid hA3
  have HL := Lib.hid hs3
  have HAA := Lib.hid hA
  clear hM hk2 hif hW3 hk3 hA3 hs3 hA HB1 HC K0 K1
  go_wp2_with (rw [← HAA.out]; refine wpList_store_row (by rfl) 25 (.tmp 3) (.tmp 18) (by rfl) A (mlC m rx rn rc bx bn bc) (by rfl) (by rfl) 25 _ HZ2.out infoM rfl (one_ml _ _ _ _ _ _ _ _ _ _) ?_; rw [HAA.out, ← HW3.out, ← HAA.out])
  refine (refBeginsC a0 x0.length cap0 x0 rfl l0 (by have := HS.out; omega) (HB.out.quiet K3.out)).mono ?_
  rintro e w4 ⟨m', n', rx', rn', rc', bx', bn', bc', rfl, hM', hk4, hif'⟩
  obtain ⟨rfl, rfl⟩ := begun_eq HIF.out hif'
  have K4 := Lib.hid (K3.out.trans hk4 (fun _ _ h => h))
  obtain ⟨W5, hW5, hk5, hA5, hs5⟩ := put_mail w4 m' rx' rn' rc' bx' bn' bc'
  have HM' := Lib.hid (hM'.quiet hk5)
  have HM2 := Lib.hid ((HM.out.quiet hk4).quiet hk5)
  have K5 := Lib.hid (K4.out.trans hk5 (fun _ _ h => h))
  have HA5 := Lib.hid ((HA3.out.keep hk4 (fun h => h)).keep hk5 (fun h => h))
  have HZ4 := Lib.hid (mz_new w4)
  have HW5 := Lib.hid hW5
  obtain ⟨B, hB⟩ : ∃ B, B = w4.heap.size := ⟨_, rfl⟩
  rw [← hB] at hA5 hs5 HZ4
  have HB5 := Lib.hid hA5
  have HBB := Lib.hid hB
  have HRN := Lib.hid (begun_rn HIF.out HM2.out.hrn)
  clear hM' hk4 hif' hW5 hk5 hA5 hs5 hB HIF HA3 HM HL
  obtain ⟨g, hg⟩ : ∃ g, g = beginsB x0 := ⟨_, rfl⟩
  rw [← hg]
  clear hg
  go_wp2_with (rw [← HBB.out]; refine wpList_store_row (by rfl) 25 (.tmp 6) (.tmp 24) (by rfl) B (mlC m' rx' rn' rc' bx' bn' bc') (by rfl) (by rfl) 25 _ HZ4.out infoM rfl (one_ml _ _ _ _ _ _ _ _ _ _) ?_; rw [HBB.out, ← HW5.out, ← HBB.out])
  refine (HA.out _ (HE.out.quiet K5.out)).mono ?_
  rintro e w6 ⟨rfl, hk6⟩
  have K6 := Lib.hid (K5.out.trans hk6 (fun _ _ h => h))
  have HMa := Lib.hid (HM2.out.quiet hk6)
  have HMb := Lib.hid (HM'.out.quiet hk6)
  obtain ⟨u0, u1, u2, u3, u4, u5⟩ := cells_of (HA5.out.keep hk6 (fun h => h))
  obtain ⟨v0, v1, v2, v3, v4, v5⟩ := cells_of (HB5.out.keep hk6 (fun h => h))
  clear hk6
  cases g
  all_goals
    go_wp2_with fail
    refine (refSameC HMa.out.it HMb.out HRN.out).mono ?_
    rintro e w7 ⟨rfl, hk7⟩
    rw [sameB_self]
    go_wp2
    go_ret
    exact ⟨rfl, (K6.out.trans hk7 (fun _ _ h => h)).below (Nat.le_refl _) (fun _ h => h.elim)⟩

/-! ### The row's step -/
theorem met (os : Os) : laidMetH Tryz.prog Rows.envDecodesRow.laid ((World.laidAll Tryz.prog os Rows.envDecodesRow.laid).forCall (fun _ _ => 0) ⟨#[], #[.slice none 0 0], []⟩).memory := by
  rw [MakeChecks.laidMetH_plain _ _ _ (by kernel_rfl)]; exact laidMet_laidAll _ (by kernel_rfl) (by kernel_rfl)
theorem reads (os : Os) {H : Type} (enc : TypeId × Value → H) : ∃ places, DataW.whole enc Tryz.prog ((World.laidAll Tryz.prog os Rows.envDecodesRow.laid).forCall (fun _ _ => 0) ⟨#[], #[.slice none 0 0], []⟩).memory Tryz.f4.params.toList Rows.envDecodesSpec.vars false (#[.slice none 0 0] : Array Value).toList 8 = some ([.nil], [], places) :=
  ⟨[], by kernel_rfl⟩
set_option maxRecDepth 100000 in
theorem fits (os : Os) {H : Type} (enc : TypeId × Value → H) : ∃ (w : World) (tape : Tape) (i : Input), w.os = os ∧ (w.forCall tape i).Shaped Tryz.checked.prog ∧ i.vars = [] ∧ Input.okWide Tryz.checked.prog (w.forCall tape i) .any w.heap.size 4 i ∧
    (OpenSpec.ofChange Rows.envDecodesSpec).preRow enc Tryz.checked.prog Tryz.f4 Rows.envDecodesRow.domain false Rows.envDecodesRow.laid (w.forCall tape i).memory i.args ∧ ({} : Assume).holds Tryz.checked.prog (lone (Frame.enter Tryz.checked.prog 4 i.args .normal) [] (w.forCall tape i)) := by
  obtain ⟨places, hx⟩ := reads os enc
  have hok : Input.okWideB Tryz.checked.prog ((World.laidAll Tryz.prog os Rows.envDecodesRow.laid).forCall (fun _ _ => 0) ⟨#[], #[.slice none 0 0], []⟩) 4 ⟨#[], #[.slice none 0 0], []⟩ = true := by kernel_rfl
  exact ⟨(World.laidAll Tryz.prog os Rows.envDecodesRow.laid), fun _ _ => 0, ⟨#[], #[.slice none 0 0], []⟩, World.laidAll_os _ _ _, World.shaped_of_ZipB (by kernel_rfl) (by kernel_rfl), (Input.okWide_of_okWideB (base := 0) hok).1, (Input.okWide_of_okWideB hok).2,
    OpenSpec.preRow_of_cond 8 hx (by kernel_rfl) (fun k hk => by cases hk) (by kernel_rfl) (met os), by
      simp only [Assume.holds]
      exact ⟨by simp, by simp, fun _ => Modest.zero, by simp, by simp⟩⟩

set_option maxRecDepth 100000 in
theorem lifted (os : Os) (started : os.Started) (H : Type) (enc : TypeId × Value → H) (F : Stop.Interp) :
    ReturnsInHanded {} Tryz.checked os 4 .any ((OpenSpec.ofChange Rows.envDecodesSpec).preRow enc Tryz.prog Tryz.f4 Rows.envDecodesRow.domain false Rows.envDecodesRow.laid) (((OpenSpec.ofChange Rows.envDecodesSpec).at F).post enc Tryz.prog Tryz.f4 false true false false) := by
  refine returnsInHanded_of_row (C := Tryz.checked) (s := OpenSpec.ofChange Rows.envDecodesSpec) own started (by kernel_rfl) Tryz.func4 (fits os enc) ?_
  intro W base args ds gs before hval0 hW0 _ hcond hsz hL shape _
  show Calls Tryz.prog 4 args W fun e W' => ∃ v, e = .returned v ∧ Rows.envDecodesSpec.post enc Tryz.prog Tryz.f4 false true false false W args v W'
  have hval : ∀ (j : Nat) t v, Tryz.f4.params[j]? = some t → args[j]? = some v → Value.okWide Tryz.prog W .any base t v := hval0
  have hW : DataW.Whole enc Tryz.prog Tryz.f4.params.toList Rows.envDecodesSpec.vars false W args.toList ds gs before := hW0
  have hW' := hW
  obtain ⟨p, q, hA0, hV, rfl, hfz, hnd⟩ := hW
  have hA : DataW.TrodAll enc Tryz.prog W 0 (fun _ => true) true Tryz.f4.params.toList args.toList ds p := hA0
  rw [Tryz.params4] at hA hval
  obtain ⟨v0, vs0, d0, ds0, p0, q0, hargs, rfl, rfl, h0, r0⟩ := trodAll_cons hA
  obtain ⟨rfl, rfl, rfl⟩ := trodAll_nil r0
  obtain rfl : args = #[v0] := by cases args; simp_all
  obtain ⟨rfl, rfl⟩ := trodVars_none hV
  obtain ⟨a0, len0, cap0, rfl⟩ := okWide_slice Tryz.underlying23 (hval 0 23 v0 rfl rfl)
  have k0 := h0
  have lt0 : ∀ x ∈ p0, x.block < W.heap.size := by obtain ⟨m, hm⟩ := k0; exact DataW.trod_lt m _ _ _ hm
  obtain ⟨b0, x0, c0, e0, l0, m0, B0⟩ : ∃ a L cap, Value.slice a0 len0 cap0 = .slice a L.length cap ∧ L.length ≤ cap ∧ cap ≤ 9223372036854775807 ∧ Ln.Bytes (fun k => k < W.heap.size) W a L := by
    obtain ⟨fuel, hf⟩ := h0
    exact Ln.arg_bytes hf
  injection e0 with e0 f0 g0
  subst e0 f0 g0
  have hE := Ln.env9 W shape
  clear hA0 hval0
  refine (walk a0 x0 cap0 W l0 m0 B0 hE).mono fun e W' ⟨he, bel⟩ => ?_
  subst he
  exact ⟨_, rfl, _, _, _, [], _, [], hW', trodAll_mk1 (shut_bool Tryz.underlying4 _), (trodAll_cons_mk (Below.trod (by kernel_rfl) (by kernel_rfl) (of_decide_eq_true (by kernel_rfl)) k0 bel lt0) trodAll_mk0), rfl, bel.frame _, fun h => by cases h⟩

theorem over : Rows.EnvDecodesSaid :=
  OpenClaim.holds_of_cond 4 Tryz.f4 rfl rfl rfl rfl rfl rfl rfl ⟨rfl, rfl, rfl, rfl, rfl⟩ rfl rfl rfl rfl rfl (by kernel_rfl) Tryz.func4 (by kernel_rfl)
    (of_decide_eq_true (by kernel_rfl)) (by unfold Func.isWrapper; first | (rw [if_pos (by decide +kernel)]; kernel_rfl) | (rw [if_neg (by decide +kernel)]; exact ⟨rfl, rfl⟩))
    (fun os started H enc _ F => by rw [OpenClaim.pre_eq_preRow]; exact lifted os started H enc F)

theorem plain (f : FuncId) (fn : Func) (hf : Tryz.pinned.checked.prog.funcNamed "pillarbox/pillarboxlaw10.EnvDecodes" = some f) (hfn : Tryz.pinned.checked.prog.funcs[f]? = some fn) :
    false = Tryz.pinned.checked.prog.looks [] ∧ ∀ (j : Nat) t, fn.params[j]? = some t → Tryz.pinned.checked.prog.wantsStandIn t = false := by
  obtain rfl : f = 4 := Option.some.inj ((show Tryz.prog.funcNamed "pillarbox/pillarboxlaw10.EnvDecodes" = some 4 by kernel_rfl).symm.trans hf) |>.symm
  obtain rfl : fn = Tryz.f4 := (Option.some.inj (Tryz.func4.symm.trans hfn)).symm
  refine ⟨by kernel_rfl, fun j t ht => ?_⟩
  rw [Tryz.params4] at ht
  have hm : t ∈ [23] := by simpa using Array.mem_of_getElem? ht
  have hall : ([23].all fun u => !Tryz.prog.wantsStandIn u) = true := by kernel_rfl
  exact (show Tryz.prog.wantsStandIn t = false by simpa using List.all_eq_true.1 hall t hm)

/-- The statement: the tied card. -/
theorem proved : Rows.EnvDecodesCardSaid :=
  Claim7.holds_tied_plain_at .later [] _ _ _ _ over (fun _ h => by cases h) (by kernel_rfl) (fun _ h => by cases h) envDecodes_row_tie rfl ⟨rfl, rfl⟩ (by kernel_rfl) rfl plain (by kernel_rfl)
#print axioms proved
end Go.Proofs.YtpdopjpibmhamaaGreatDoor.envDecodes
