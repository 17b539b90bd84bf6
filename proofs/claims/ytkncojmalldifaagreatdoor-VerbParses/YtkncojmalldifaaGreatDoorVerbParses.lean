/-
  Proved here: for every text, VerbParses answers true: the program's Parse answers what the document says any line says, or the code with which it is refused. Conditions: none (what the card lists is laid as the program's text lays it).
-/
import Derived.Test.YtkncojmalldifaaGreatDoorRows
import Derived.Test.YtkncojmalldifaaGreatDoorCards
import Derived.Test.YtkncojmalldifaaGreatDoorTie
import Derived.Test.YtkncojmalldifaaGreatDoorR6
import Derived.Lib.Hide
import Derived.WalkKit
import Derived.ProofKit
import Derived.OpenShut
import Derived.ShutString
import Derived.ChangeOld
import Derived.Below
import Derived.Lay
import Derived.SevenTiedAt
import Derived.Stop.Joined
import Derived.Deep.DeepHandedRow
namespace Go.Proofs.YtkncojmalldifaaGreatDoor.verbParses
open Go.ChangeShapes Go.WideShapes Go.ChangeAt Go.RowKit
set_option linter.unusedVariables false

theorem own : ownKnob Tryz.prog.godebug = none := by kernel_rfl

/-! ### The walk -/
set_option maxHeartbeats 4000000 in
set_option maxRecDepth 100000 in
theorem walk (a0 : ByteArray) (m : Int) (w : World) (m0 : a0.size ≤ 140737488351232) (hm : w.cell? ⟨0, 0, none⟩ = some (.int .i64 m)) :
    Calls Tryz.prog 3 #[.string a0] w fun e w' => e = .returned (.bool true) ∧ Below w.heap.size w w' := by
  have cA := fun W h => Ad.vans_walk m W h
  have HM : ∀ W, Below w.heap.size w W → W.cell? ⟨0, 0, none⟩ = some (.int .i64 m) := fun W h => Ad.cell_below hm h
  have CA := Lib.hid cA
  have HHM := Lib.hid HM
  clear cA HM
  by_cases h : (600 : Int) < (a0.size : Int)
  · go_enter Tryz.func3, Tryz.ntmps3
    go_wp2_with fail
    refine (CA.out _ hm).mono ?_
    rintro e w1 ⟨rfl, hb1⟩
    go_wp2
    go_ret
    exact ⟨rfl, hb1⟩
  · have c1 := fun V h => Ad.vparse_walk a0 (by omega) m V h
    have c2 := fun V => Ad.refVerb_walk a0 (by omega) V
    unfold Ad.cmdV Ad.cells3 at c1 c2
    generalize Ad.bs (Ad.verbM a0.data.toList).name = NN at c1 c2
    generalize Ad.bs (Ad.verbM a0.data.toList).arg = AA at c1 c2
    generalize (Ad.verbM a0.data.toList).size = ZZ at c1 c2
    generalize (Ad.verbM a0.data.toList).code = CC at c1 c2
    have C1 := Lib.hid c1
    have C2 := Lib.hid c2
    clear c1 c2
    go_enter Tryz.func3, Tryz.ntmps3
    go_wp2_with fail
    refine (C1.out _ hm).mono ?_
    rintro e w3 ⟨rfl, hb3⟩
    have HB3 := Lib.hid hb3
    have HL3 := Lib.hid (HB3.out.trans ((Ad.laid_below w3 NN AA ZZ).mono HB3.out.size))
    have HR3 := Lib.hid (Ad.laid_row w3 NN AA ZZ)
    clear hb3
    go_wp2_with (refine Ad.step_laid (by rfl) (.tmp 3) (.tmp 14) (by rfl) NN AA ZZ (by rfl) (by rfl) ?_)
    refine (C2.out _).mono ?_
    rintro e w4 ⟨rfl, hb4⟩
    have HB4 := Lib.hid (HL3.out.trans (hb4.mono HL3.out.size))
    have HR4 := Lib.hid (HR3.out.keep HR3.out.lt hb4)
    have HL4 := Lib.hid (HB4.out.trans ((Ad.laid_below w4 NN AA ZZ).mono HB4.out.size))
    have HR5 := Lib.hid (HR4.out.keep HR4.out.lt (Ad.laid_below w4 NN AA ZZ))
    have HR6 := Lib.hid (Ad.laid_row w4 NN AA ZZ)
    clear hb4
    go_wp2_with (refine Ad.step_laid (by rfl) (.tmp 5) (.tmp 19) (by rfl) NN AA ZZ (by rfl) (by rfl) ?_)
    refine (CA.out _ (HHM.out _ HL4.out)).mono ?_
    rintro e w5 ⟨rfl, hb5⟩
    have HB5 := Lib.hid (HL4.out.trans (hb5.mono HL4.out.size))
    obtain ⟨k0, k1, k2⟩ := (HR5.out.keep HR5.out.lt hb5).cells
    obtain ⟨j0, j1, j2⟩ := (HR6.out.keep HR6.out.lt hb5).cells
    clear hb5
    go_wp2
    go_ret
    exact ⟨rfl, HB5.out⟩

/-! ### The row's step -/
theorem met (os : Os) : laidMetH Tryz.prog Rows.verbParsesRow.laid ((World.laidAll Tryz.prog os Rows.verbParsesRow.laid).forCall (fun _ _ => 0) ⟨#[], #[.string { data := #[] }], []⟩).memory := by
  rw [MakeChecks.laidMetH_plain _ _ _ (by kernel_rfl)]; exact laidMet_laidAll _ (by kernel_rfl) (by kernel_rfl)
theorem reads (os : Os) {H : Type} (enc : TypeId × Value → H) : ∃ places, DataW.whole enc Tryz.prog ((World.laidAll Tryz.prog os Rows.verbParsesRow.laid).forCall (fun _ _ => 0) ⟨#[], #[.string { data := #[] }], []⟩).memory Tryz.f3.params.toList Rows.verbParsesSpec.vars false (#[.string { data := #[] }] : Array Value).toList 8 = some ([.lit (.string [])], [], places) :=
  ⟨[], by kernel_rfl⟩
set_option maxRecDepth 100000 in
theorem fits (os : Os) {H : Type} (enc : TypeId × Value → H) : ∃ (w : World) (tape : Tape) (i : Input), w.os = os ∧ (w.forCall tape i).Shaped Tryz.checked.prog ∧ i.vars = [] ∧ Input.okWide Tryz.checked.prog (w.forCall tape i) .any w.heap.size 3 i ∧
    (OpenSpec.ofChange Rows.verbParsesSpec).preRow enc Tryz.checked.prog Tryz.f3 Rows.verbParsesRow.domain false Rows.verbParsesRow.laid (w.forCall tape i).memory i.args ∧ ({} : Assume).holds Tryz.checked.prog (lone (Frame.enter Tryz.checked.prog 3 i.args .normal) [] (w.forCall tape i)) := by
  obtain ⟨places, hx⟩ := reads os enc
  have hok : Input.okWideB Tryz.checked.prog ((World.laidAll Tryz.prog os Rows.verbParsesRow.laid).forCall (fun _ _ => 0) ⟨#[], #[.string { data := #[] }], []⟩) 3 ⟨#[], #[.string { data := #[] }], []⟩ = true := by kernel_rfl
  exact ⟨(World.laidAll Tryz.prog os Rows.verbParsesRow.laid), fun _ _ => 0, ⟨#[], #[.string { data := #[] }], []⟩, World.laidAll_os _ _ _, World.shaped_of_ZipB (by kernel_rfl) (by kernel_rfl), (Input.okWide_of_okWideB (base := 0) hok).1, (Input.okWide_of_okWideB hok).2,
    OpenSpec.preRow_of_cond 8 hx (by kernel_rfl) (fun k hk => by cases hk) (by kernel_rfl) (met os), by
      simp only [Assume.holds]
      exact ⟨by simp, by simp, fun _ => Modest.zero, by simp, by simp⟩⟩

set_option maxRecDepth 100000 in
theorem lifted (os : Os) (started : os.Started) (H : Type) (enc : TypeId × Value → H) (F : Stop.Interp) :
    ReturnsInHanded {} Tryz.checked os 3 .any ((OpenSpec.ofChange Rows.verbParsesSpec).preRow enc Tryz.prog Tryz.f3 Rows.verbParsesRow.domain false Rows.verbParsesRow.laid) (((OpenSpec.ofChange Rows.verbParsesSpec).at F).post enc Tryz.prog Tryz.f3 false true false false) := by
  refine returnsInHanded_of_row (C := Tryz.checked) (s := OpenSpec.ofChange Rows.verbParsesSpec) own started (by kernel_rfl) Tryz.func3 (fits os enc) ?_
  intro W base args ds gs before hval0 hW0 _ hcond hsz hL shape _
  show Calls Tryz.prog 3 args W fun e W' => ∃ v, e = .returned v ∧ Rows.verbParsesSpec.post enc Tryz.prog Tryz.f3 false true false false W args v W'
  have hval : ∀ (j : Nat) t v, Tryz.f3.params[j]? = some t → args[j]? = some v → Value.okWide Tryz.prog W .any base t v := hval0
  have hW : DataW.Whole enc Tryz.prog Tryz.f3.params.toList Rows.verbParsesSpec.vars false W args.toList ds gs before := hW0
  have hW' := hW
  obtain ⟨p, q, hA0, hV, rfl, hfz, hnd⟩ := hW
  have hA : DataW.TrodAll enc Tryz.prog W 0 (fun _ => true) true Tryz.f3.params.toList args.toList ds p := hA0
  rw [Tryz.params3] at hA hval
  obtain ⟨v0, vs0, d0, ds0, p0, q0, hargs, rfl, rfl, h0, r0⟩ := trodAll_cons hA
  obtain ⟨rfl, rfl, rfl⟩ := trodAll_nil r0
  obtain rfl : args = #[v0] := by cases args; simp_all
  obtain ⟨rfl, rfl⟩ := trodVars_none hV
  obtain ⟨a0, rfl, rfl, rfl, w0⟩ := ChangeMaps.open_string Tryz.underlying9 (hval 0 9 v0 rfl rfl) h0
  have m0 : a0.size ≤ 140737488351232 := by have h := sized_string hsz (j := 0) (t := 9) (bytes := a0.data.toList) rfl rfl; rw [Array.length_toList] at h; exact h
  obtain ⟨m, hm⟩ := Ad.maxLen_some W shape
  clear hA0 hval0
  refine (walk a0 m W m0 hm).mono fun e W' ⟨he, bel⟩ => ?_
  subst he
  exact ⟨_, rfl, _, _, _, [], _, [], hW', trodAll_mk1 (shut_bool Tryz.underlying4 _), (trodAll_cons_mk (ChangeMaps.shut_string Tryz.underlying9 w0) trodAll_mk0), rfl, bel.frame _, fun h => by cases h⟩

theorem over : Rows.VerbParsesSaid :=
  OpenClaim.holds_of_cond 3 Tryz.f3 rfl rfl rfl rfl rfl rfl rfl ⟨rfl, rfl, rfl, rfl, rfl⟩ rfl rfl rfl rfl rfl (by kernel_rfl) Tryz.func3 (by kernel_rfl)
    (of_decide_eq_true (by kernel_rfl)) (by unfold Func.isWrapper; first | (rw [if_pos (by decide +kernel)]; kernel_rfl) | (rw [if_neg (by decide +kernel)]; exact ⟨rfl, rfl⟩))
    (fun os started H enc _ F => by rw [OpenClaim.pre_eq_preRow]; exact lifted os started H enc F)

theorem plain (f : FuncId) (fn : Func) (hf : Tryz.pinned.checked.prog.funcNamed "pillarbox/pillarboxlaw07.VerbParses" = some f) (hfn : Tryz.pinned.checked.prog.funcs[f]? = some fn) :
    true = Tryz.pinned.checked.prog.looks [] ∧ ∀ (j : Nat) t, fn.params[j]? = some t → Tryz.pinned.checked.prog.wantsStandIn t = false := by
  obtain rfl : f = 3 := Option.some.inj ((show Tryz.prog.funcNamed "pillarbox/pillarboxlaw07.VerbParses" = some 3 by kernel_rfl).symm.trans hf) |>.symm
  obtain rfl : fn = Tryz.f3 := (Option.some.inj (Tryz.func3.symm.trans hfn)).symm
  refine ⟨by kernel_rfl, fun j t ht => ?_⟩
  rw [Tryz.params3] at ht
  have hm : t ∈ [9] := by simpa using Array.mem_of_getElem? ht
  have hall : ([9].all fun u => !Tryz.prog.wantsStandIn u) = true := by kernel_rfl
  exact (show Tryz.prog.wantsStandIn t = false by simpa using List.all_eq_true.1 hall t hm)

/-- The statement: the tied card. -/
theorem proved : Rows.VerbParsesCardSaid :=
  Claim7.holds_tied_plain_at .later [] _ _ _ _ over (fun _ h => by cases h) (by kernel_rfl) (fun _ h => by cases h) verbParses_row_tie rfl ⟨rfl, rfl⟩ (by kernel_rfl) rfl plain (by kernel_rfl)
#print axioms proved
end Go.Proofs.YtkncojmalldifaaGreatDoor.verbParses
