/-
  Proved here: for every two texts name and rest that together hold at most 1048576 letters and values, VerbNames answers true: a name that is none of the nine is refused with 500, with nothing beside it, whatever stands behind it; one of the nine never is. Conditions: the bound on the size (the second form; what the card lists is laid as the program's text lays it).
-/
import Derived.Test.YtkncojmalldifaaDoorRows
import Derived.Test.YtkncojmalldifaaDoorCards
import Derived.Test.YtkncojmalldifaaDoorTie
import Derived.Test.YtkncojmalldifaaDoorN1
import Derived.Lib.Hide
import Derived.WalkKit
import Derived.ProofKit
import Derived.OpenShut
import Derived.ShutString
import Derived.ChangeOld
import Derived.Below
import Derived.Lay
import Derived.SevenTiedAt
import Derived.Stop.Joined
import Derived.Deep.DeepHandedRow
namespace Go.Proofs.YtkncojmalldifaaDoor.verbNames
open Go.ChangeShapes Go.WideShapes Go.ChangeAt Go.RowKit
set_option linter.unusedVariables false

theorem own : ownKnob Tryd.prog.godebug = none := by kernel_rfl

/-! ### The walk -/
set_option maxHeartbeats 4000000 in
set_option maxRecDepth 100000 in
theorem walk (a0 : ByteArray) (a1 : ByteArray) (m : Int) (w : World) (m0 : a0.size ≤ 1048576) (m1 : a1.size ≤ 1048576) (hm : w.cell? ⟨0, 0, none⟩ = some (.int .i64 m)) :
    Calls Tryd.prog 4 #[.string a0, .string a1] w fun e w' => e = .returned (.bool true) ∧ Below w.heap.size w w' := by
  have hlen := Ad.len_size a0
  have cA := fun W h => Ad.vans_walk m W h
  have cG := fun W => Ad.refGreat_walk a0 (by omega) W
  have HM : ∀ W, Below w.heap.size w W → W.cell? ⟨0, 0, none⟩ = some (.int .i64 m) := fun W h => Ad.cell_below hm h
  have CA := Lib.hid cA
  have CG := Lib.hid cG
  have HHM := Lib.hid HM
  clear cA cG HM
  go_enter Tryd.func4, Tryd.ntmps4
  go_wp2
  go_loopw [5] (fun z wr => ∃ k : Nat, k ≤ a0.size ∧ z = .int .i64 (k : Int) ∧ RowKit.Hid ((32 : UInt8) ∉ a0.data.toList.take k) ∧ wr = w) (fun z _ => a0.size - (Lib.intOf z).toNat)
  case atStart => exact ⟨0, by omega, rfl, Lib.hid (by simp), rfl⟩
  case round =>
    obtain ⟨k, hk, rfl, hT, hw⟩ := hrel
    obtain rfl : w = wr := hw.symm
    clear hw
    by_cases hlt : (k : Int) < (a0.size : Int)
    · have hk' : k < a0.size := by omega
      by_cases hq : ((a0[k]'hk').toNat : Int) = 32
      · have hq2 : (((a0[k]'hk').toNat : Int) == 32) = true := by rw [hq]; rfl
        go_wp2_with fail
        refine (CA.out _ hm).mono ?_
        rintro e w1 ⟨rfl, hb1⟩
        go_wp2
        go_ret
        exact ⟨rfl, hb1⟩
      · have hT2 := Lib.hid (Ad.no_take (l := a0.data.toList) (k := k) (by omega) hT.out (by rw [Ad.get_byte a0 k hk']; exact Ad.byte_not hq))
        have hq2 : (((a0[k]'hk').toNat : Int) == 32) = false := by rw [beq_eq_false_iff_ne]; exact hq
        go_wp2
        go_roundw
        case rel => exact ⟨k + 1, by omega, by simp, hT2, trivial⟩
        case measure =>
          simp [Lib.intOf]
          omega
    · have hno : (32 : UInt8) ∉ a0.data.toList := by
        have := hT.out
        rw [List.take_of_length_le (by omega)] at this
        exact this
      obtain ⟨U, hU⟩ : ∃ U, Ad.bs (a0.data.toList.map Ad.upper) = U := ⟨_, rfl⟩
      have HU := Lib.hid hU
      have HNO := Lib.hid hno
      have cG := CG.out
      rw [hU] at cG
      have CG2 := Lib.hid cG
      clear hU hno cG hT CG
      go_wp2_with fail
      refine (CG2.out _).mono ?_
      rintro e w1 ⟨rfl, hb1⟩
      have HB1 := Lib.hid hb1
      have HN := Lib.hid (Ad.nine_new w1)
      have hb2 := (Below.refl w1.heap.size w1).alloc (Nat.le_refl _) (.cells #[.string { data := #[72, 69, 76, 79] }, .string { data := #[69, 72, 76, 79] }, .string { data := #[77, 65, 73, 76] }, .string { data := #[82, 67, 80, 84] }, .string { data := #[68, 65, 84, 65] }, .string { data := #[82, 83, 69, 84] }, .string { data := #[78, 79, 79, 80] }, .string { data := #[81, 85, 73, 84] }, .string { data := #[86, 82, 70, 89] }] 9)
      have HB2 := Lib.hid (hb1.trans (hb2.mono hb1.size))
      clear hb1 hb2
      go_wp2
      go_loopw [30] (fun z wr => ∃ k : Nat, k ≤ 9 ∧ z = .int .i64 (k : Int) ∧ RowKit.Hid (∀ j (hj : j < 9), j < k → U ≠ Ad.bs (Ad.nine[j]'hj)) ∧ RowKit.Hid (Ad.Nine wr w1.heap.size) ∧ RowKit.Hid (Below w.heap.size w wr)) (fun z _ => 9 - (Lib.intOf z).toNat)
      case atStart => exact ⟨0, by omega, rfl, Lib.hid (fun j hj h => by omega), HN, HB2⟩
      case round =>
        obtain ⟨k, hk, rfl, hD, hN, hB⟩ := hrel
        by_cases hlt2 : (k : Int) < 9
        · have hk9 : k < 9 := by omega
          have hc := hN.out k hk9
          obtain ⟨N, hNk⟩ : ∃ N, Ad.bs (Ad.nine[k]'hk9) = N := ⟨_, rfl⟩
          rw [hNk] at hc
          have HNk := Lib.hid hNk
          clear hNk
          cases hq : (U.toList == N.toList) with
          | true =>
            have hgn : Ad.great a0.data.toList = Ad.nine[k]'hk9 := by
              have h1 := hq
              rw [ByteArray.toList_eq, ByteArray.toList_eq, beq_iff_eq, ← HU.out, ← HNk.out, Ad.bs_data, Ad.bs_data] at h1
              exact h1
            obtain ⟨kd, hkd⟩ := Ad.kind_mem (n := Ad.great a0.data.toList) (by rw [hgn]; exact List.getElem_mem hk9)
            have hcd := Ad.verbN_known hkd a1.data.toList true
            rw [← Ad.verbM_join HNO.out] at hcd
            have cP := fun W h => Ad.vparse_walk (a0 ++ { data := #[32] } ++ a1) (by rw [Ad.join_size]; omega) m W h
            unfold Ad.cmdV Ad.cells3 at cP
            generalize Ad.bs (Ad.verbM (a0 ++ { data := #[32] } ++ a1).data.toList).name = NN at cP
            generalize Ad.bs (Ad.verbM (a0 ++ { data := #[32] } ++ a1).data.toList).arg = AA at cP
            generalize (Ad.verbM (a0 ++ { data := #[32] } ++ a1).data.toList).size = ZZ at cP
            generalize (Ad.verbM (a0 ++ { data := #[32] } ++ a1).data.toList).code = CC at cP hcd
            have CP := Lib.hid cP
            have hne : (CC != 500) = true := by rw [bne_iff_ne]; exact hcd
            clear cP hkd hgn
            go_wp2_with fail
            refine (CP.out _ (HHM.out _ hB.out)).mono ?_
            rintro e w3 ⟨rfl, hb3⟩
            have HB3 := Lib.hid (hB.out.trans (hb3.mono hB.out.size))
            have HL3 := Lib.hid (HB3.out.trans ((Ad.laid_below w3 NN AA ZZ).mono HB3.out.size))
            clear hb3
            go_wp2_with (refine Ad.step_laid (by rfl) (.tmp 9) (.tmp 43) (by rfl) NN AA ZZ (by rfl) (by rfl) ?_)
            refine (CA.out _ (HHM.out _ HL3.out)).mono ?_
            rintro e w4 ⟨rfl, hb4⟩
            go_wp2
            go_ret
            exact ⟨rfl, HL3.out.trans (hb4.mono HL3.out.size)⟩
          | false =>
            have hD2 : RowKit.Hid (∀ j (hj : j < 9), j < k + 1 → U ≠ Ad.bs (Ad.nine[j]'hj)) := Lib.hid (fun j hj hjk e => by
              rcases Nat.lt_or_ge j k with h | h
              · exact hD.out j hj h e
              · obtain rfl : j = k := by omega
                rw [e, HNk.out] at hq
                simp at hq)
            go_wp2
            go_roundw
            case rel => exact ⟨k + 1, by omega, by simp, hD2, hN, hB⟩
            case measure =>
              simp [Lib.intOf]
              omega
        · have hnm : Ad.great a0.data.toList ∉ Ad.nine := fun h => by
            obtain ⟨j, hj, e⟩ := List.getElem_of_mem h
            exact hD.out j hj (show j < k by have : j < 9 := hj; omega) (by rw [← HU.out, e]; rfl)
          have hkn := Ad.kind_not hnm
          have e1 : Ad.cmdV (Ad.verbM a0.data.toList) = .tuple #[.agg #[.string { data := #[] }, .string { data := #[] }, .int .i64 0], .int .i64 500] := by
            rw [Ad.verbM_alone HNO.out, Ad.verbN_other hkn]
            rfl
          have e2 : Ad.cmdV (Ad.verbM (a0 ++ { data := #[32] } ++ a1).data.toList) = .tuple #[.agg #[.string { data := #[] }, .string { data := #[] }, .int .i64 0], .int .i64 500] := by
            rw [Ad.verbM_join HNO.out, Ad.verbN_other hkn]
            rfl
          have c1 := fun W h => Ad.vparse_walk a0 (by omega) m W h
          rw [e1] at c1
          have C1 := Lib.hid c1
          clear c1
          have c2 := fun W h => Ad.vparse_walk (a0 ++ { data := #[32] } ++ a1) (by rw [Ad.join_size]; omega) m W h
          rw [e2] at c2
          have C2 := Lib.hid c2
          clear e1 e2 hkn hnm c2
          go_wp2_with fail
          refine (C1.out _ (HHM.out _ hB.out)).mono ?_
          rintro e w3 ⟨rfl, hb3⟩
          have HB3 := Lib.hid (hB.out.trans (hb3.mono hB.out.size))
          have HL3 := Lib.hid (HB3.out.trans ((Ad.laid_below w3 { data := #[] } { data := #[] } 0).mono HB3.out.size))
          have HR3 := Lib.hid (Ad.laid_row w3 { data := #[] } { data := #[] } 0)
          clear hb3
          go_wp2_with (refine Ad.step_laid (by rfl) (.tmp 11) (.tmp 54) (by rfl) { data := #[] } { data := #[] } 0 (by rfl) (by rfl) ?_)
          refine (C2.out _ (HHM.out _ HL3.out)).mono ?_
          rintro e w4 ⟨rfl, hb4⟩
          have HB4 := Lib.hid (HL3.out.trans (hb4.mono HL3.out.size))
          have HR4 := Lib.hid (HR3.out.keep HR3.out.lt hb4)
          have HL4 := Lib.hid (HB4.out.trans ((Ad.laid_below w4 { data := #[] } { data := #[] } 0).mono HB4.out.size))
          have HR5 := Lib.hid (HR4.out.keep HR4.out.lt (Ad.laid_below w4 { data := #[] } { data := #[] } 0))
          have HR6 := Lib.hid (Ad.laid_row w4 { data := #[] } { data := #[] } 0)
          clear hb4
          go_wp2_with (refine Ad.step_laid (by rfl) (.tmp 13) (.tmp 62) (by rfl) { data := #[] } { data := #[] } 0 (by rfl) (by rfl) ?_)
          refine (CA.out _ (HHM.out _ HL4.out)).mono ?_
          rintro e w5 ⟨rfl, hb5⟩
          have HB5 := Lib.hid (HL4.out.trans (hb5.mono HL4.out.size))
          obtain ⟨k0, k1, k2⟩ := (HR5.out.keep HR5.out.lt hb5).cells
          obtain ⟨j0, j1, j2⟩ := (HR6.out.keep HR6.out.lt hb5).cells
          clear hb5
          go_wp2
          go_ret
          exact ⟨rfl, HB5.out⟩

/-! ### The row's step -/
theorem met (os : Os) : laidMetH Tryd.prog Rows.verbNamesUptoRow.laid ((World.laidAll Tryd.prog os Rows.verbNamesUptoRow.laid).forCall (fun _ _ => 0) ⟨#[], #[.string { data := #[] }, .string { data := #[] }], []⟩).memory := by
  rw [MakeChecks.laidMetH_plain _ _ _ (by kernel_rfl)]; exact laidMet_laidAll _ (by kernel_rfl) (by kernel_rfl)
theorem reads (os : Os) {H : Type} (enc : TypeId × Value → H) : ∃ places, DataW.whole enc Tryd.prog ((World.laidAll Tryd.prog os Rows.verbNamesUptoRow.laid).forCall (fun _ _ => 0) ⟨#[], #[.string { data := #[] }, .string { data := #[] }], []⟩).memory Tryd.f4.params.toList Rows.verbNamesSpec.vars false (#[.string { data := #[] }, .string { data := #[] }] : Array Value).toList 8 = some ([.lit (.string []), .lit (.string [])], [], places) :=
  ⟨[], by kernel_rfl⟩
set_option maxRecDepth 100000 in
theorem fits (os : Os) {H : Type} (enc : TypeId × Value → H) : ∃ (w : World) (tape : Tape) (i : Input), w.os = os ∧ (w.forCall tape i).Shaped Tryd.checked.prog ∧ i.vars = [] ∧ Input.okWide Tryd.checked.prog (w.forCall tape i) .any w.heap.size 4 i ∧
    (Rows.OpenSpec.upto Rows.verbNamesSpec).preRow enc Tryd.checked.prog Tryd.f4 Rows.verbNamesUptoRow.domain false Rows.verbNamesUptoRow.laid (w.forCall tape i).memory i.args ∧ ({} : Assume).holds Tryd.checked.prog (lone (Frame.enter Tryd.checked.prog 4 i.args .normal) [] (w.forCall tape i)) := by
  obtain ⟨places, hx⟩ := reads os enc
  have hok : Input.okWideB Tryd.checked.prog ((World.laidAll Tryd.prog os Rows.verbNamesUptoRow.laid).forCall (fun _ _ => 0) ⟨#[], #[.string { data := #[] }, .string { data := #[] }], []⟩) 4 ⟨#[], #[.string { data := #[] }, .string { data := #[] }], []⟩ = true := by kernel_rfl
  exact ⟨(World.laidAll Tryd.prog os Rows.verbNamesUptoRow.laid), fun _ _ => 0, ⟨#[], #[.string { data := #[] }, .string { data := #[] }], []⟩, World.laidAll_os _ _ _, World.shaped_of_ZipB (by kernel_rfl) (by kernel_rfl), (Input.okWide_of_okWideB (base := 0) hok).1, (Input.okWide_of_okWideB hok).2,
    OpenSpec.preRow_of_cond 8 hx (by kernel_rfl) (fun k hk => by cases hk; kernel_rfl) (by kernel_rfl) (met os), by
      simp only [Assume.holds]
      exact ⟨by simp, by simp, fun _ => Modest.zero, by simp, by simp⟩⟩

set_option maxRecDepth 100000 in
theorem lifted (os : Os) (started : os.Started) (H : Type) (enc : TypeId × Value → H) (F : Stop.Interp) :
    ReturnsInHanded {} Tryd.checked os 4 .any ((Rows.OpenSpec.upto Rows.verbNamesSpec).preRow enc Tryd.prog Tryd.f4 Rows.verbNamesUptoRow.domain false Rows.verbNamesUptoRow.laid) (((Rows.OpenSpec.upto Rows.verbNamesSpec).at F).post enc Tryd.prog Tryd.f4 false true false false) := by
  refine returnsInHanded_of_row (C := Tryd.checked) (s := Rows.OpenSpec.upto Rows.verbNamesSpec) own started (by kernel_rfl) Tryd.func4 (fits os enc) ?_
  intro W base args ds gs before hval0 hW0 _ hcond hsz hL shape _
  show Calls Tryd.prog 4 args W fun e W' => ∃ v, e = .returned v ∧ Rows.verbNamesSpec.post enc Tryd.prog Tryd.f4 false true false false W args v W'
  have hval : ∀ (j : Nat) t v, Tryd.f4.params[j]? = some t → args[j]? = some v → Value.okWide Tryd.prog W .any base t v := hval0
  have hW : DataW.Whole enc Tryd.prog Tryd.f4.params.toList Rows.verbNamesSpec.vars false W args.toList ds gs before := hW0
  have hW' := hW
  obtain ⟨p, q, hA0, hV, rfl, hfz, hnd⟩ := hW
  have hA : DataW.TrodAll enc Tryd.prog W 0 (fun _ => true) true Tryd.f4.params.toList args.toList ds p := hA0
  rw [Tryd.params4] at hA hval
  obtain ⟨v0, vs0, d0, ds0, p0, q0, hargs, rfl, rfl, h0, r0⟩ := trodAll_cons hA
  obtain ⟨v1, vs1, d1, ds1, p1, q1, rfl, rfl, rfl, h1, r1⟩ := trodAll_cons r0
  obtain ⟨rfl, rfl, rfl⟩ := trodAll_nil r1
  obtain rfl : args = #[v0, v1] := by cases args; simp_all
  obtain ⟨rfl, rfl⟩ := trodVars_none hV
  obtain ⟨a0, rfl, rfl, rfl, w0⟩ := ChangeMaps.open_string Tryd.underlying9 (hval 0 9 v0 rfl rfl) h0
  obtain ⟨a1, rfl, rfl, rfl, w1⟩ := ChangeMaps.open_string Tryd.underlying9 (hval 1 9 v1 rfl rfl) h1
  have hk := of_decide_eq_true (hcond _ rfl)
  simp only [List.append_nil, Rows.uptoBulkAll, Rows.uptoBulk] at hk
  have m0 : a0.size ≤ 1048576 := by have h : a0.data.toList.length = a0.size := Array.length_toList; omega
  have m1 : a1.size ≤ 1048576 := by have h : a1.data.toList.length = a1.size := Array.length_toList; omega
  obtain ⟨m, hm⟩ := Ad.maxLen_some W shape
  clear hA0 hval0
  refine (walk a0 a1 m W m0 m1 hm).mono fun e W' ⟨he, bel⟩ => ?_
  subst he
  exact ⟨_, rfl, _, _, _, [], _, [], hW', trodAll_mk1 (shut_bool Tryd.underlying4 _), (trodAll_cons_mk (ChangeMaps.shut_string Tryd.underlying9 w0) (trodAll_cons_mk (ChangeMaps.shut_string Tryd.underlying9 w1) trodAll_mk0)), rfl, bel.frame _, fun h => by cases h⟩

theorem over : Rows.VerbNamesUptoSaid :=
  OpenClaim.holds_of_cond 4 Tryd.f4 rfl rfl rfl rfl rfl rfl rfl ⟨rfl, rfl, rfl, rfl, rfl⟩ rfl rfl rfl rfl rfl (by kernel_rfl) Tryd.func4 (by kernel_rfl)
    (of_decide_eq_true (by kernel_rfl)) (by unfold Func.isWrapper; first | (rw [if_pos (by decide +kernel)]; kernel_rfl) | (rw [if_neg (by decide +kernel)]; exact ⟨rfl, rfl⟩))
    (fun os started H enc _ F => by rw [OpenClaim.pre_eq_preRow]; exact lifted os started H enc F)

theorem plain (f : FuncId) (fn : Func) (hf : Tryd.pinned.checked.prog.funcNamed "pillarbox/pillarboxlaw07.VerbNames" = some f) (hfn : Tryd.pinned.checked.prog.funcs[f]? = some fn) :
    true = Tryd.pinned.checked.prog.looks [] ∧ ∀ (j : Nat) t, fn.params[j]? = some t → Tryd.pinned.checked.prog.wantsStandIn t = false := by
  obtain rfl : f = 4 := Option.some.inj ((show Tryd.prog.funcNamed "pillarbox/pillarboxlaw07.VerbNames" = some 4 by kernel_rfl).symm.trans hf) |>.symm
  obtain rfl : fn = Tryd.f4 := (Option.some.inj (Tryd.func4.symm.trans hfn)).symm
  refine ⟨by kernel_rfl, fun j t ht => ?_⟩
  rw [Tryd.params4] at ht
  have hm : t ∈ [9, 9] := by simpa using Array.mem_of_getElem? ht
  have hall : ([9, 9].all fun u => !Tryd.prog.wantsStandIn u) = true := by kernel_rfl
  exact (show Tryd.prog.wantsStandIn t = false by simpa using List.all_eq_true.1 hall t hm)

/-- The statement: the tied card. -/
theorem proved : Rows.VerbNamesUptoCardSaid :=
  Claim7.holds_tied_plain_at .later [] _ _ _ _ over (fun _ h => by cases h) (by kernel_rfl) (fun _ h => by cases h) verbNamesUpto_row_tie rfl ⟨rfl, rfl⟩ (by kernel_rfl) rfl plain (by kernel_rfl)
#print axioms proved
end Go.Proofs.YtkncojmalldifaaDoor.verbNames
