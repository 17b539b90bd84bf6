/-
  Proved here: for every two bytes and every text, VerbCases answers true: in any letters' case of a command's name and of what leads its path, Parse answers the same. Conditions: none (what the card lists is laid as the program's text lays it).
-/
import Derived.Test.YtkncojmalldifaaDoorRows
import Derived.Test.YtkncojmalldifaaDoorCards
import Derived.Test.YtkncojmalldifaaDoorTie
import Derived.Test.YtkncojmalldifaaDoorN2
import Derived.Lib.Hide
import Derived.WalkKit
import Derived.ProofKit
import Derived.OpenShut
import Derived.ShutString
import Derived.ChangeOld
import Derived.Below
import Derived.Lay
import Derived.SevenTiedAt
import Derived.Stop.Joined
import Derived.Deep.DeepHandedRow
namespace Go.Proofs.YtkncojmalldifaaDoor.verbCases
open Go.ChangeShapes Go.WideShapes Go.ChangeAt Go.RowKit
set_option linter.unusedVariables false

theorem own : ownKnob Tryd.prog.godebug = none := by kernel_rfl

/-! ### The walk -/
set_option maxHeartbeats 4000000 in
set_option maxRecDepth 100000 in
theorem walk (a0 : Int) (a1 : Int) (a2 : ByteArray) (m : Int) (w : World) (w0 : (Lit.int .u8 a0).wf = true) (w1 : (Lit.int .u8 a1).wf = true) (m2 : a2.size ≤ 140737488351232) (hm : w.cell? ⟨0, 0, none⟩ = some (.int .i64 m)) :
    Calls Tryd.prog 3 #[.int .u8 a0, .int .u8 a1, .string a2] w fun e w' => e = .returned (.bool true) ∧ Below w.heap.size w w' := by
  have cA := fun W h => Ad.vans_walk m W h
  have HM : ∀ W, Below w.heap.size w W → W.cell? ⟨0, 0, none⟩ = some (.int .i64 m) := fun W h => Ad.cell_below hm h
  have CA := Lib.hid cA
  have HHM := Lib.hid HM
  clear cA HM
  obtain ⟨u0, u1⟩ := bounds_u8 w0
  obtain ⟨v0, v1⟩ := bounds_u8 w1
  by_cases h : (100 : Int) < (a2.size : Int)
  · go_enter Tryd.func3, Tryd.ntmps3
    go_wp2_with fail
    refine (CA.out _ hm).mono ?_
    rintro e w1 ⟨rfl, hb1⟩
    go_wp2
    go_ret
    exact ⟨rfl, hb1⟩
  · have hj8 : (a0 % 8).toNat < 8 := by omega
    obtain ⟨W, hW⟩ : ∃ W, W = w.alloc (.cells #[.string { data := #[72, 69, 76, 79, 32] }, .string { data := #[69, 72, 76, 79, 32] }, .string { data := #[77, 65, 73, 76, 32, 70, 82, 79, 77, 58] }, .string { data := #[82, 67, 80, 84, 32, 84, 79, 58] }, .string { data := #[78, 79, 79, 80, 32] }, .string { data := #[68, 65, 84, 65] }, .string { data := #[82, 83, 69, 84] }, .string { data := #[81, 85, 73, 84] }] 9) := ⟨_, rfl⟩
    have hc := Ad.leads_new w (a0 % 8).toNat hj8
    have hbW := (Below.refl w.heap.size w).alloc (Nat.le_refl _) (.cells #[.string { data := #[72, 69, 76, 79, 32] }, .string { data := #[69, 72, 76, 79, 32] }, .string { data := #[77, 65, 73, 76, 32, 70, 82, 79, 77, 58] }, .string { data := #[82, 67, 80, 84, 32, 84, 79, 58] }, .string { data := #[78, 79, 79, 80, 32] }, .string { data := #[68, 65, 84, 65] }, .string { data := #[82, 83, 69, 84] }, .string { data := #[81, 85, 73, 84] }] 9)
    rw [← hW] at hc hbW
    have hmem : Ad.leads[(a0 % 8).toNat]'hj8 ∈ Ad.leads := List.getElem_mem _
    obtain ⟨l, hl⟩ : ∃ l, Ad.leads[(a0 % 8).toNat]'hj8 = l := ⟨_, rfl⟩
    rw [hl] at hc hmem
    have hll := Ad.lead_len hmem
    obtain ⟨cap, w2, hconv, hrow, hb2⟩ := Ad.bytes_some (Ad.bs l) W
    rw [Ad.bs_data] at hrow
    rw [Ad.bs_size] at hconv
    obtain ⟨n, hn⟩ : ∃ n, l.length = n := ⟨_, rfl⟩
    rw [hn] at hconv hll
    obtain ⟨S, hS⟩ : ∃ S, Ad.bs l = S := ⟨_, rfl⟩
    rw [hS] at hc hconv
    obtain ⟨B, hB⟩ : ∃ B, W.heap.size = B := ⟨_, rfl⟩
    rw [hB] at hconv hrow hb2
    have hBw : w.heap.size ≤ B := by rw [← hB]; exact hbW.size
    have HB2 := Lib.hid (hbW.trans (hb2.mono hBw))
    have HN := Lib.hid hn
    have HS := Lib.hid hS
    have HMEM := Lib.hid hmem
    rw [hW] at hc hconv
    clear hl hmem hS hn hbW hb2 hB hW
    go_enter Tryd.func3, Tryd.ntmps3
    go_wp2
    go_loopw [10] (fun z wr => ∃ (k : Nat) (l' : List UInt8), k ≤ n ∧ z = .int .i64 (k : Int) ∧ RowKit.Hid (l'.length = n) ∧ RowKit.Hid (Ad.great l' = Ad.great l) ∧ RowKit.Hid (Ad.URow wr B l') ∧ RowKit.Hid (Below w.heap.size w wr)) (fun z _ => n - (Lib.intOf z).toNat)
    case atStart => exact ⟨0, l, by omega, rfl, HN, Lib.hid rfl, Lib.hid hrow, HB2⟩
    case round =>
      obtain ⟨k, l', hk, rfl, hl', hg, hR, hbr⟩ := hrel
      by_cases hlt : (k : Int) < (n : Int)
      · have hkl : k < l'.length := by have := hl'.out; omega
        obtain ⟨hc1, hf1⟩ := hR.out k hkl
        have hput := Lib.hid (hR.out.put k hkl (l'[k] + 32))
        have hlt8 := l'[k].toNat_lt
        have hset0 : Ad.upper (l'[k] + 32) = Ad.upper l'[k] → Ad.great (l'.set k (l'[k] + 32)) = Ad.great l' := fun e => Ad.great_set (c := l'[k] + 32) hkl e
        have hset := Lib.hid hset0
        clear hset0
        obtain ⟨c, hcq⟩ : ∃ c, l'[k] = c := ⟨_, rfl⟩
        rw [hcq] at hc1 hput hlt8 hset
        clear hcq
        by_cases h1 : 65 ≤ (c.toNat : Int)
        · by_cases h2 : (c.toNat : Int) ≤ 90
          · obtain ⟨e1, e2⟩ := Ad.upper_add (c := c) (by omega) (by omega)
            have hg2 := Lib.hid ((hset.out e2).trans hg.out)
            have hput1 := hput.out
            rw [show ((c + 32).toNat : Int) = (c.toNat : Int) + 32 by omega] at hput1
            have HP := Lib.hid hput1
            have HBS := Lib.hid (hbr.out.setCell (p := ⟨B, k, none⟩) hBw (.int .u8 ((c.toNat : Int) + 32)))
            have hls : RowKit.Hid ((l'.set k (c + 32)).length = n) := Lib.hid (by rw [List.length_set]; exact hl'.out)
            clear hput1 e1 e2 hput hset
            go_wp2
            all_goals first
              | exact ⟨⟨k + 1, l'.set k (c + 32), by omega, by simp, hls, hg2, HP, HBS⟩, by simp [Lib.intOf]; omega⟩
              | exact ⟨⟨k + 1, l', by omega, by simp, hl', hg, hR, hbr⟩, by simp [Lib.intOf]; omega⟩
          · clear hput hset
            go_wp2
            go_roundw
            case rel => exact ⟨k + 1, l', by omega, by simp, hl', hg, hR, hbr⟩
            case measure =>
              simp [Lib.intOf]
              omega
        · clear hput hset
          go_wp2
          go_roundw
          case rel => exact ⟨k + 1, l', by omega, by simp, hl', hg, hR, hbr⟩
          case measure =>
            simp [Lib.intOf]
            omega
      · have hpos : 0 < l'.length := by have h1 := hl'.out; have h2 := Ad.lead_pos HMEM.out; have h3 := HN.out; omega
        have hBlt : B < wr.heap.size := block_lt_of_cell (hR.out 0 hpos).1
        have hback0 := fun V h => Ad.bytes_back V B cap l' h
        rw [hl'.out] at hback0
        have hSz : S.size = n := by rw [← HS.out, Ad.bs_size]; exact HN.out
        have hTz : (Ad.bs l').size = n := by rw [Ad.bs_size]; exact hl'.out
        have hv : Ad.verbM (S ++ a2).data.toList = Ad.verbM (Ad.bs l' ++ a2).data.toList := by
          rw [ByteArray.data_append, ByteArray.data_append, Array.toList_append, Array.toList_append, ← HS.out, Ad.bs_data, Ad.bs_data]
          exact Ad.verbM_lead HMEM.out hg.out _
        obtain ⟨T, hT⟩ : ∃ T, Ad.bs l' = T := ⟨_, rfl⟩
        rw [hT] at hback0 hTz hv
        have c1 := fun V h => Ad.vparse_walk (S ++ a2) (by rw [ByteArray.size_append]; omega) m V h
        have c2 := fun V h => Ad.vparse_walk (T ++ a2) (by rw [ByteArray.size_append]; omega) m V h
        rw [← hv] at c2
        unfold Ad.cmdV Ad.cells3 at c1 c2
        generalize Ad.bs (Ad.verbM (S ++ a2).data.toList).name = NN at c1 c2
        generalize Ad.bs (Ad.verbM (S ++ a2).data.toList).arg = AA at c1 c2
        generalize (Ad.verbM (S ++ a2).data.toList).size = ZZ at c1 c2
        generalize (Ad.verbM (S ++ a2).data.toList).code = CC at c1 c2
        have C1 := Lib.hid c1
        have C2 := Lib.hid c2
        have HBK := Lib.hid hback0
        clear c1 c2 hv hT hback0
        go_wp2_with fail
        refine (C1.out _ (HHM.out _ hbr.out)).mono ?_
        rintro e w3 ⟨rfl, hb3⟩
        have HB3 := Lib.hid (hbr.out.trans (hb3.mono hbr.out.size))
        have HL3 := Lib.hid (HB3.out.trans ((Ad.laid_below w3 NN AA ZZ).mono HB3.out.size))
        have HR3 := Lib.hid (Ad.laid_row w3 NN AA ZZ)
        have hback := HBK.out _ ((hR.out.keep hBlt hb3).keep (Nat.lt_of_lt_of_le hBlt hb3.size) (Ad.laid_below w3 NN AA ZZ))
        clear hb3
        go_wp2_with (refine Ad.step_laid (by rfl) (.tmp 11) (.tmp 67) (by rfl) NN AA ZZ (by rfl) (by rfl) ?_)
        refine (C2.out _ (HHM.out _ HL3.out)).mono ?_
        rintro e w4 ⟨rfl, hb4⟩
        have HB4 := Lib.hid (HL3.out.trans (hb4.mono HL3.out.size))
        have HR4 := Lib.hid (HR3.out.keep HR3.out.lt hb4)
        have HL4 := Lib.hid (HB4.out.trans ((Ad.laid_below w4 NN AA ZZ).mono HB4.out.size))
        have HR5 := Lib.hid (HR4.out.keep HR4.out.lt (Ad.laid_below w4 NN AA ZZ))
        have HR6 := Lib.hid (Ad.laid_row w4 NN AA ZZ)
        clear hb4 hback
        go_wp2_with (refine Ad.step_laid (by rfl) (.tmp 13) (.tmp 75) (by rfl) NN AA ZZ (by rfl) (by rfl) ?_)
        refine (CA.out _ (HHM.out _ HL4.out)).mono ?_
        rintro e w5 ⟨rfl, hb5⟩
        have HB5 := Lib.hid (HL4.out.trans (hb5.mono HL4.out.size))
        obtain ⟨k0, k1, k2⟩ := (HR5.out.keep HR5.out.lt hb5).cells
        obtain ⟨j0, j1, j2⟩ := (HR6.out.keep HR6.out.lt hb5).cells
        clear hb5
        go_wp2
        go_ret
        exact ⟨rfl, HB5.out⟩

/-! ### The row's step -/
theorem met (os : Os) : laidMetH Tryd.prog Rows.verbCasesRow.laid ((World.laidAll Tryd.prog os Rows.verbCasesRow.laid).forCall (fun _ _ => 0) ⟨#[], #[.int .u8 0, .int .u8 0, .string { data := #[] }], []⟩).memory := by
  rw [MakeChecks.laidMetH_plain _ _ _ (by kernel_rfl)]; exact laidMet_laidAll _ (by kernel_rfl) (by kernel_rfl)
theorem reads (os : Os) {H : Type} (enc : TypeId × Value → H) : ∃ places, DataW.whole enc Tryd.prog ((World.laidAll Tryd.prog os Rows.verbCasesRow.laid).forCall (fun _ _ => 0) ⟨#[], #[.int .u8 0, .int .u8 0, .string { data := #[] }], []⟩).memory Tryd.f3.params.toList Rows.verbCasesSpec.vars false (#[.int .u8 0, .int .u8 0, .string { data := #[] }] : Array Value).toList 8 = some ([.lit (.int .u8 0), .lit (.int .u8 0), .lit (.string [])], [], places) :=
  ⟨[], by kernel_rfl⟩
set_option maxRecDepth 100000 in
theorem fits (os : Os) {H : Type} (enc : TypeId × Value → H) : ∃ (w : World) (tape : Tape) (i : Input), w.os = os ∧ (w.forCall tape i).Shaped Tryd.checked.prog ∧ i.vars = [] ∧ Input.okWide Tryd.checked.prog (w.forCall tape i) .any w.heap.size 3 i ∧
    (OpenSpec.ofChange Rows.verbCasesSpec).preRow enc Tryd.checked.prog Tryd.f3 Rows.verbCasesRow.domain false Rows.verbCasesRow.laid (w.forCall tape i).memory i.args ∧ ({} : Assume).holds Tryd.checked.prog (lone (Frame.enter Tryd.checked.prog 3 i.args .normal) [] (w.forCall tape i)) := by
  obtain ⟨places, hx⟩ := reads os enc
  have hok : Input.okWideB Tryd.checked.prog ((World.laidAll Tryd.prog os Rows.verbCasesRow.laid).forCall (fun _ _ => 0) ⟨#[], #[.int .u8 0, .int .u8 0, .string { data := #[] }], []⟩) 3 ⟨#[], #[.int .u8 0, .int .u8 0, .string { data := #[] }], []⟩ = true := by kernel_rfl
  exact ⟨(World.laidAll Tryd.prog os Rows.verbCasesRow.laid), fun _ _ => 0, ⟨#[], #[.int .u8 0, .int .u8 0, .string { data := #[] }], []⟩, World.laidAll_os _ _ _, World.shaped_of_ZipB (by kernel_rfl) (by kernel_rfl), (Input.okWide_of_okWideB (base := 0) hok).1, (Input.okWide_of_okWideB hok).2,
    OpenSpec.preRow_of_cond 8 hx (by kernel_rfl) (fun k hk => by cases hk) (by kernel_rfl) (met os), by
      simp only [Assume.holds]
      exact ⟨by simp, by simp, fun _ => Modest.zero, by simp, by simp⟩⟩

set_option maxRecDepth 100000 in
theorem lifted (os : Os) (started : os.Started) (H : Type) (enc : TypeId × Value → H) (F : Stop.Interp) :
    ReturnsInHanded {} Tryd.checked os 3 .any ((OpenSpec.ofChange Rows.verbCasesSpec).preRow enc Tryd.prog Tryd.f3 Rows.verbCasesRow.domain false Rows.verbCasesRow.laid) (((OpenSpec.ofChange Rows.verbCasesSpec).at F).post enc Tryd.prog Tryd.f3 false true false false) := by
  refine returnsInHanded_of_row (C := Tryd.checked) (s := OpenSpec.ofChange Rows.verbCasesSpec) own started (by kernel_rfl) Tryd.func3 (fits os enc) ?_
  intro W base args ds gs before hval0 hW0 _ hcond hsz hL shape _
  show Calls Tryd.prog 3 args W fun e W' => ∃ v, e = .returned v ∧ Rows.verbCasesSpec.post enc Tryd.prog Tryd.f3 false true false false W args v W'
  have hval : ∀ (j : Nat) t v, Tryd.f3.params[j]? = some t → args[j]? = some v → Value.okWide Tryd.prog W .any base t v := hval0
  have hW : DataW.Whole enc Tryd.prog Tryd.f3.params.toList Rows.verbCasesSpec.vars false W args.toList ds gs before := hW0
  have hW' := hW
  obtain ⟨p, q, hA0, hV, rfl, hfz, hnd⟩ := hW
  have hA : DataW.TrodAll enc Tryd.prog W 0 (fun _ => true) true Tryd.f3.params.toList args.toList ds p := hA0
  rw [Tryd.params3] at hA hval
  obtain ⟨v0, vs0, d0, ds0, p0, q0, hargs, rfl, rfl, h0, r0⟩ := trodAll_cons hA
  obtain ⟨v1, vs1, d1, ds1, p1, q1, rfl, rfl, rfl, h1, r1⟩ := trodAll_cons r0
  obtain ⟨v2, vs2, d2, ds2, p2, q2, rfl, rfl, rfl, h2, r2⟩ := trodAll_cons r1
  obtain ⟨rfl, rfl, rfl⟩ := trodAll_nil r2
  obtain rfl : args = #[v0, v1, v2] := by cases args; simp_all
  obtain ⟨rfl, rfl⟩ := trodVars_none hV
  obtain ⟨a0, rfl, rfl, rfl, w0⟩ := open_int Tryd.underlying5 (hval 0 5 v0 rfl rfl) h0
  obtain ⟨a1, rfl, rfl, rfl, w1⟩ := open_int Tryd.underlying5 (hval 1 5 v1 rfl rfl) h1
  obtain ⟨a2, rfl, rfl, rfl, w2⟩ := ChangeMaps.open_string Tryd.underlying9 (hval 2 9 v2 rfl rfl) h2
  have m2 : a2.size ≤ 140737488351232 := by have h := sized_string hsz (j := 2) (t := 9) (bytes := a2.data.toList) rfl rfl; rw [Array.length_toList] at h; exact h
  obtain ⟨m, hm⟩ := Ad.maxLen_some W shape
  clear hA0 hval0
  refine (walk a0 a1 a2 m W w0 w1 m2 hm).mono fun e W' ⟨he, bel⟩ => ?_
  subst he
  exact ⟨_, rfl, _, _, _, [], _, [], hW', trodAll_mk1 (shut_bool Tryd.underlying4 _), (trodAll_cons_mk (shut_int Tryd.underlying5 w0) (trodAll_cons_mk (shut_int Tryd.underlying5 w1) (trodAll_cons_mk (ChangeMaps.shut_string Tryd.underlying9 w2) trodAll_mk0))), rfl, bel.frame _, fun h => by cases h⟩

theorem over : Rows.VerbCasesSaid :=
  OpenClaim.holds_of_cond 3 Tryd.f3 rfl rfl rfl rfl rfl rfl rfl ⟨rfl, rfl, rfl, rfl, rfl⟩ rfl rfl rfl rfl rfl (by kernel_rfl) Tryd.func3 (by kernel_rfl)
    (of_decide_eq_true (by kernel_rfl)) (by unfold Func.isWrapper; first | (rw [if_pos (by decide +kernel)]; kernel_rfl) | (rw [if_neg (by decide +kernel)]; exact ⟨rfl, rfl⟩))
    (fun os started H enc _ F => by rw [OpenClaim.pre_eq_preRow]; exact lifted os started H enc F)

theorem plain (f : FuncId) (fn : Func) (hf : Tryd.pinned.checked.prog.funcNamed "pillarbox/pillarboxlaw07.VerbCases" = some f) (hfn : Tryd.pinned.checked.prog.funcs[f]? = some fn) :
    true = Tryd.pinned.checked.prog.looks [] ∧ ∀ (j : Nat) t, fn.params[j]? = some t → Tryd.pinned.checked.prog.wantsStandIn t = false := by
  obtain rfl : f = 3 := Option.some.inj ((show Tryd.prog.funcNamed "pillarbox/pillarboxlaw07.VerbCases" = some 3 by kernel_rfl).symm.trans hf) |>.symm
  obtain rfl : fn = Tryd.f3 := (Option.some.inj (Tryd.func3.symm.trans hfn)).symm
  refine ⟨by kernel_rfl, fun j t ht => ?_⟩
  rw [Tryd.params3] at ht
  have hm : t ∈ [5, 5, 9] := by simpa using Array.mem_of_getElem? ht
  have hall : ([5, 5, 9].all fun u => !Tryd.prog.wantsStandIn u) = true := by kernel_rfl
  exact (show Tryd.prog.wantsStandIn t = false by simpa using List.all_eq_true.1 hall t hm)

/-- The statement: the tied card. -/
theorem proved : Rows.VerbCasesCardSaid :=
  Claim7.holds_tied_plain_at .later [] _ _ _ _ over (fun _ h => by cases h) (by kernel_rfl) (fun _ h => by cases h) verbCases_row_tie rfl ⟨rfl, rfl⟩ (by kernel_rfl) rfl plain (by kernel_rfl)
#print axioms proved
end Go.Proofs.YtkncojmalldifaaDoor.verbCases
