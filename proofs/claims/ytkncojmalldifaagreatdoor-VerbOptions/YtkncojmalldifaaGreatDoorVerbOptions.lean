/-
  Proved here: for every row of texts and every uint32, VerbOptions answers true: of a sender with these options behind it Parse answers what the document says; a size of up to nine digits is told as it is; an option of a recipient is 555. Conditions: none (what the card lists is laid as the program's text lays it).
-/
import Derived.Test.YtkncojmalldifaaGreatDoorRows
import Derived.Test.YtkncojmalldifaaGreatDoorCards
import Derived.Test.YtkncojmalldifaaGreatDoorTie
import Derived.Test.YtkncojmalldifaaGreatDoorR6
import Derived.Test.YtkncojmalldifaaGreatDoorOpt
import Derived.Lib.Hide
import Derived.WalkKit
import Derived.ProofKit
import Derived.OpenShut
import Derived.ShutString
import Derived.ChangeOld
import Derived.Below
import Derived.Lay
import Derived.SevenTiedAt
import Derived.Stop.Joined
import Derived.Deep.DeepHandedRow
namespace Go.Proofs.YtkncojmalldifaaGreatDoor.verbOptions
open Go.ChangeShapes Go.WideShapes Go.ChangeAt Go.RowKit
set_option linter.unusedVariables false

theorem own : ownKnob Tryz.prog.godebug = none := by kernel_rfl

/-! ### The walk -/
set_option maxHeartbeats 4000000 in
set_option maxRecDepth 100000 in
theorem walk (a0 : Option Addr) (x0 : List ByteArray) (cap0 : Nat) (a1 : Int) (m : Int) (w : World) (l0 : x0.length ≤ cap0) (m0 : cap0 ≤ 9223372036854775807) (B0 : Ad.Strs w a0 x0) (w1 : (Lit.int .u32 a1).wf = true) (hm : w.cell? ⟨0, 0, none⟩ = some (.int .i64 m)) :
    Calls Tryz.prog 4 #[.slice a0 x0.length cap0, .int .u32 a1] w fun e w' => e = .returned (.bool true) ∧ Below w.heap.size w w' := by
  have cA := fun W h => Ad.vans_walk m W h
  have HM : ∀ W, Below w.heap.size w W → W.cell? ⟨0, 0, none⟩ = some (.int .i64 m) := fun W h => Ad.cell_below hm h
  have CA := Lib.hid cA
  have HHM := Lib.hid HM
  clear cA HM
  obtain ⟨u0, u1⟩ := bounds_u32 w1
  have BB := Lib.hid B0
  clear B0
  go_enter Tryz.func4, Tryz.ntmps4
  go_wp2
  go_loopw [5, 6] (fun z5 z6 wr => ∃ (k : Nat) (S : ByteArray), k ≤ x0.length ∧ z5 = .string S ∧ z6 = .int .i64 (k : Int) ∧ S.size ≤ 15 + 31 * k ∧ (0 < k → x0.length ≤ 8) ∧ wr = w) (fun _ z _ => x0.length - (Lib.intOf z).toNat)
  case atStart => exact ⟨0, _, by omega, rfl, rfl, by decide, by omega, rfl⟩
  case round =>
    obtain ⟨k, S, hk, rfl, rfl, hS, h8, hw⟩ := hrel
    obtain rfl : w = wr := hw.symm
    clear hw
    by_cases hlt : (k : Int) < (x0.length : Int)
    · have hkl : k < x0.length := by omega
      obtain ⟨b, off, rfl, hc⟩ := BB.out k hkl
      obtain ⟨o, ho⟩ : ∃ o, x0[k]'hkl = o := ⟨_, rfl⟩
      rw [ho] at hc
      clear ho
      by_cases h30 : (30 : Int) < (o.size : Int)
      · go_wp2_with fail
        refine (CA.out _ hm).mono ?_
        rintro e w1 ⟨rfl, hb1⟩
        go_wp2
        go_ret
        exact ⟨rfl, hb1⟩
      by_cases hx8 : (8 : Int) < (x0.length : Int)
      · go_wp2_with fail
        refine (CA.out _ hm).mono ?_
        rintro e w1 ⟨rfl, hb1⟩
        go_wp2
        go_ret
        exact ⟨rfl, hb1⟩
      have hsz : (S ++ { data := #[32] } ++ o).size ≤ 15 + 31 * (k + 1) := by
        rw [ByteArray.size_append, ByteArray.size_append]
        show S.size + 1 + o.size ≤ _
        omega
      have hsz1 : (S ++ { data := #[32] }).size ≤ 1000 := by
        rw [ByteArray.size_append]
        show S.size + 1 ≤ _
        omega
      go_wp2
      go_roundw
      case rel => exact ⟨k + 1, _, by omega, rfl, by simp, hsz, by omega, trivial⟩
      case measure =>
        simp [Lib.intOf]
        omega
    · have hSs : S.size ≤ 1000 := by
        rcases Nat.eq_zero_or_pos k with h | h
        · omega
        · have := h8 h
          omega
      obtain ⟨n, hn⟩ : ∃ n : Nat, (n : Int) = a1 % 1000000000 := ⟨(a1 % 1000000000).toNat, by omega⟩
      have hn9 : n < 1000000000 := by omega
      obtain ⟨d1, d2, d3⟩ := Ad.dec_num hn9
      have hsd := Ad.sized d1
      rw [d2] at hsd
      have c1 := fun V h => Ad.vparse_walk S (by omega) m V h
      have c2 := fun V => Ad.refVerb_walk S (by omega) V
      unfold Ad.cmdV Ad.cells3 at c1 c2
      generalize Ad.bs (Ad.verbM S.data.toList).name = NN at c1 c2
      generalize Ad.bs (Ad.verbM S.data.toList).arg = AA at c1 c2
      generalize (Ad.verbM S.data.toList).size = ZZ at c1 c2
      generalize (Ad.verbM S.data.toList).code = CC at c1 c2
      have c3 := fun V => Ad.refDec_walk n hn9 V
      obtain ⟨D, hD⟩ : ∃ D, Ad.bs (Ad.dec n) = D := ⟨_, rfl⟩
      rw [hD] at c3
      have hDz : D.size ≤ 9 := by rw [← hD, Ad.bs_size]; exact d3
      have c4 : ∀ V, V.cell? ⟨0, 0, none⟩ = some (.int .i64 m) → Calls Tryz.prog 6 #[.string ({ data := #[77, 65, 73, 76, 32, 70, 82, 79, 77, 58, 60, 62, 32, 83, 73, 90, 69, 61] } ++ D)] V fun e w' => e = .returned (.tuple #[.agg #[.string { data := #[77, 65, 73, 76] }, .string { data := #[] }, .int .i64 (n : Int)], .int .i64 0]) ∧ Below V.heap.size V w' := fun V h => by
        have hsz : ({ data := #[77, 65, 73, 76, 32, 70, 82, 79, 77, 58, 60, 62, 32, 83, 73, 90, 69, 61] } ++ D : ByteArray).size < 4294967281 := by
          rw [ByteArray.size_append]
          show 18 + D.size < _
          omega
        have c := Ad.vparse_walk ({ data := #[77, 65, 73, 76, 32, 70, 82, 79, 77, 58, 60, 62, 32, 83, 73, 90, 69, 61] } ++ D) hsz m V h
        have hdl : ({ data := #[77, 65, 73, 76, 32, 70, 82, 79, 77, 58, 60, 62, 32, 83, 73, 90, 69, 61] } ++ D : ByteArray).data.toList = [77, 65, 73, 76, 32, 70, 82, 79, 77, 58, 60, 62, 32, 83, 73, 90, 69, 61] ++ Ad.dec n := by
          rw [ByteArray.data_append, ← hD]
          simp [Ad.bs]
        rw [hdl, hsd] at c
        exact c
      have c5 := fun V h => Ad.vparse_walk { data := #[82, 67, 80, 84, 32, 84, 79, 58, 60, 97, 64, 98, 62, 32, 83, 73, 90, 69, 61, 49] } (by decide) m V h
      rw [show ({ data := #[82, 67, 80, 84, 32, 84, 79, 58, 60, 97, 64, 98, 62, 32, 83, 73, 90, 69, 61, 49] } : ByteArray).data.toList = [82, 67, 80, 84, 32, 84, 79, 58, 60, 97, 64, 98, 62, 32, 83, 73, 90, 69, 61, 49] from rfl, Ad.verbM_rcpt] at c5
      have c5' : ∀ V, V.cell? ⟨0, 0, none⟩ = some (.int .i64 m) → Calls Tryz.prog 6 #[.string { data := #[82, 67, 80, 84, 32, 84, 79, 58, 60, 97, 64, 98, 62, 32, 83, 73, 90, 69, 61, 49] }] V fun e w' => e = .returned (.tuple #[.agg #[.string { data := #[] }, .string { data := #[] }, .int .i64 0], .int .i64 555]) ∧ Below V.heap.size V w' := fun V h => c5 V h
      rw [hn] at c3 c4
      have C1 := Lib.hid c1
      have C2 := Lib.hid c2
      have C3 := Lib.hid c3
      have C4 := Lib.hid c4
      have C5 := Lib.hid c5'
      clear c1 c2 c3 c4 c5 c5' hsd d1 d2 d3 hD hn hn9
      go_wp2_with fail
      refine (C1.out _ hm).mono ?_
      rintro e w3 ⟨rfl, hb3⟩
      have HB3 := Lib.hid hb3
      have HL3 := Lib.hid (HB3.out.trans ((Ad.laid_below w3 NN AA ZZ).mono HB3.out.size))
      have HR3 := Lib.hid (Ad.laid_row w3 NN AA ZZ)
      clear hb3
      go_wp2_with (refine Ad.step_laid (by rfl) (.tmp 7) (.tmp 44) (by rfl) NN AA ZZ (by rfl) (by rfl) ?_)
      refine (C2.out _).mono ?_
      rintro e w4 ⟨rfl, hb4⟩
      have HB4 := Lib.hid (HL3.out.trans (hb4.mono HL3.out.size))
      have HR4 := Lib.hid (HR3.out.keep HR3.out.lt hb4)
      have HL4 := Lib.hid (HB4.out.trans ((Ad.laid_below w4 NN AA ZZ).mono HB4.out.size))
      have HR5 := Lib.hid (HR4.out.keep HR4.out.lt (Ad.laid_below w4 NN AA ZZ))
      have HR6 := Lib.hid (Ad.laid_row w4 NN AA ZZ)
      clear hb4
      go_wp2_with (refine Ad.step_laid (by rfl) (.tmp 9) (.tmp 49) (by rfl) NN AA ZZ (by rfl) (by rfl) ?_)
      refine (C3.out _).mono ?_
      rintro e w5 ⟨rfl, hb5⟩
      have HB5 := Lib.hid (HL4.out.trans (hb5.mono HL4.out.size))
      have P1 := Lib.hid (HR5.out.keep HR5.out.lt hb5)
      have P2 := Lib.hid (HR6.out.keep HR6.out.lt hb5)
      clear hb5
      go_wp2_with fail
      refine (C4.out _ (HHM.out _ HB5.out)).mono ?_
      rintro e w6 ⟨rfl, hb6⟩
      have HB6 := Lib.hid (HB5.out.trans (hb6.mono HB5.out.size))
      have P3 := Lib.hid (P1.out.keep P1.out.lt hb6)
      have P4 := Lib.hid (P2.out.keep P2.out.lt hb6)
      have hl6 := Ad.laid_below w6 { data := #[77, 65, 73, 76] } { data := #[] } (a1 % 1000000000)
      have HL6 := Lib.hid (HB6.out.trans (hl6.mono HB6.out.size))
      have P5 := Lib.hid (P3.out.keep P3.out.lt hl6)
      have P6 := Lib.hid (P4.out.keep P4.out.lt hl6)
      have P7 := Lib.hid (Ad.laid_row w6 { data := #[77, 65, 73, 76] } { data := #[] } (a1 % 1000000000))
      clear hb6 hl6
      go_wp2_with (refine Ad.step_laid (by rfl) (.tmp 12) (.tmp 59) (by rfl) { data := #[77, 65, 73, 76] } { data := #[] } (a1 % 1000000000) (by rfl) (by rfl) ?_)
      refine (C5.out _ (HHM.out _ HL6.out)).mono ?_
      rintro e w7 ⟨rfl, hb7⟩
      have HB7 := Lib.hid (HL6.out.trans (hb7.mono HL6.out.size))
      have hl7 := Ad.laid_below w7 { data := #[] } { data := #[] } 0
      have HL7 := Lib.hid (HB7.out.trans (hl7.mono HB7.out.size))
      have p8 := P5.out.keep P5.out.lt hb7
      have p9 := P6.out.keep P6.out.lt hb7
      have p10 := P7.out.keep P7.out.lt hb7
      have P8 := Lib.hid (p8.keep p8.lt hl7)
      have P9 := Lib.hid (p9.keep p9.lt hl7)
      have P10 := Lib.hid (p10.keep p10.lt hl7)
      clear hb7 hl7 p8 p9 p10
      go_wp2_with (refine Ad.step_laid (by rfl) (.tmp 14) (.tmp 63) (by rfl) { data := #[] } { data := #[] } 0 (by rfl) (by rfl) ?_)
      refine (CA.out _ (HHM.out _ HL7.out)).mono ?_
      rintro e w8 ⟨rfl, hb8⟩
      have HB8 := Lib.hid (HL7.out.trans (hb8.mono HL7.out.size))
      obtain ⟨k0, k1, k2⟩ := (P8.out.keep P8.out.lt hb8).cells
      obtain ⟨j0, j1, j2⟩ := (P9.out.keep P9.out.lt hb8).cells
      obtain ⟨i0, i1, i2⟩ := (P10.out.keep P10.out.lt hb8).cells
      clear hb8
      go_wp2
      go_ret
      exact ⟨rfl, HB8.out⟩

/-! ### The row's step -/
theorem met (os : Os) : laidMetH Tryz.prog Rows.verbOptionsRow.laid ((World.laidAll Tryz.prog os Rows.verbOptionsRow.laid).forCall (fun _ _ => 0) ⟨#[], #[.slice none 0 0, .int .u32 0], []⟩).memory := by
  rw [MakeChecks.laidMetH_plain _ _ _ (by kernel_rfl)]; exact laidMet_laidAll _ (by kernel_rfl) (by kernel_rfl)
theorem reads (os : Os) {H : Type} (enc : TypeId × Value → H) : ∃ places, DataW.whole enc Tryz.prog ((World.laidAll Tryz.prog os Rows.verbOptionsRow.laid).forCall (fun _ _ => 0) ⟨#[], #[.slice none 0 0, .int .u32 0], []⟩).memory Tryz.f4.params.toList Rows.verbOptionsSpec.vars false (#[.slice none 0 0, .int .u32 0] : Array Value).toList 8 = some ([.nil, .lit (.int .u32 0)], [], places) :=
  ⟨[], by kernel_rfl⟩
set_option maxRecDepth 100000 in
theorem fits (os : Os) {H : Type} (enc : TypeId × Value → H) : ∃ (w : World) (tape : Tape) (i : Input), w.os = os ∧ (w.forCall tape i).Shaped Tryz.checked.prog ∧ i.vars = [] ∧ Input.okWide Tryz.checked.prog (w.forCall tape i) .any w.heap.size 4 i ∧
    (OpenSpec.ofChange Rows.verbOptionsSpec).preRow enc Tryz.checked.prog Tryz.f4 Rows.verbOptionsRow.domain false Rows.verbOptionsRow.laid (w.forCall tape i).memory i.args ∧ ({} : Assume).holds Tryz.checked.prog (lone (Frame.enter Tryz.checked.prog 4 i.args .normal) [] (w.forCall tape i)) := by
  obtain ⟨places, hx⟩ := reads os enc
  have hok : Input.okWideB Tryz.checked.prog ((World.laidAll Tryz.prog os Rows.verbOptionsRow.laid).forCall (fun _ _ => 0) ⟨#[], #[.slice none 0 0, .int .u32 0], []⟩) 4 ⟨#[], #[.slice none 0 0, .int .u32 0], []⟩ = true := by kernel_rfl
  exact ⟨(World.laidAll Tryz.prog os Rows.verbOptionsRow.laid), fun _ _ => 0, ⟨#[], #[.slice none 0 0, .int .u32 0], []⟩, World.laidAll_os _ _ _, World.shaped_of_ZipB (by kernel_rfl) (by kernel_rfl), (Input.okWide_of_okWideB (base := 0) hok).1, (Input.okWide_of_okWideB hok).2,
    OpenSpec.preRow_of_cond 8 hx (by kernel_rfl) (fun k hk => by cases hk) (by kernel_rfl) (met os), by
      simp only [Assume.holds]
      exact ⟨by simp, by simp, fun _ => Modest.zero, by simp, by simp⟩⟩

set_option maxRecDepth 100000 in
theorem lifted (os : Os) (started : os.Started) (H : Type) (enc : TypeId × Value → H) (F : Stop.Interp) :
    ReturnsInHanded {} Tryz.checked os 4 .any ((OpenSpec.ofChange Rows.verbOptionsSpec).preRow enc Tryz.prog Tryz.f4 Rows.verbOptionsRow.domain false Rows.verbOptionsRow.laid) (((OpenSpec.ofChange Rows.verbOptionsSpec).at F).post enc Tryz.prog Tryz.f4 false true false false) := by
  refine returnsInHanded_of_row (C := Tryz.checked) (s := OpenSpec.ofChange Rows.verbOptionsSpec) own started (by kernel_rfl) Tryz.func4 (fits os enc) ?_
  intro W base args ds gs before hval0 hW0 _ hcond hsz hL shape _
  show Calls Tryz.prog 4 args W fun e W' => ∃ v, e = .returned v ∧ Rows.verbOptionsSpec.post enc Tryz.prog Tryz.f4 false true false false W args v W'
  have hval : ∀ (j : Nat) t v, Tryz.f4.params[j]? = some t → args[j]? = some v → Value.okWide Tryz.prog W .any base t v := hval0
  have hW : DataW.Whole enc Tryz.prog Tryz.f4.params.toList Rows.verbOptionsSpec.vars false W args.toList ds gs before := hW0
  have hW' := hW
  obtain ⟨p, q, hA0, hV, rfl, hfz, hnd⟩ := hW
  have hA : DataW.TrodAll enc Tryz.prog W 0 (fun _ => true) true Tryz.f4.params.toList args.toList ds p := hA0
  rw [Tryz.params4] at hA hval
  obtain ⟨v0, vs0, d0, ds0, p0, q0, hargs, rfl, rfl, h0, r0⟩ := trodAll_cons hA
  obtain ⟨v1, vs1, d1, ds1, p1, q1, rfl, rfl, rfl, h1, r1⟩ := trodAll_cons r0
  obtain ⟨rfl, rfl, rfl⟩ := trodAll_nil r1
  obtain rfl : args = #[v0, v1] := by cases args; simp_all
  obtain ⟨rfl, rfl⟩ := trodVars_none hV
  obtain ⟨a0, len0, cap0, rfl⟩ := okWide_slice Tryz.underlying28 (hval 0 28 v0 rfl rfl)
  have k0 := h0
  have lt0 : ∀ x ∈ p0, x.block < W.heap.size := by obtain ⟨m, hm⟩ := k0; exact DataW.trod_lt m _ _ _ hm
  obtain ⟨b0, x0, c0, e0, l0, m0, B0⟩ : ∃ a L cap, Value.slice a0 len0 cap0 = .slice a L.length cap ∧ L.length ≤ cap ∧ cap ≤ 9223372036854775807 ∧ Ad.Strs W a L := by
    obtain ⟨fuel, hf⟩ := h0
    exact Ad.arg_strs hf
  injection e0 with e0 f0 g0
  subst e0 f0 g0
  obtain ⟨a1, rfl, rfl, rfl, w1⟩ := open_int Tryz.underlying29 (hval 1 29 v1 rfl rfl) h1
  obtain ⟨m, hm⟩ := Ad.maxLen_some W shape
  clear hA0 hval0
  refine (walk a0 x0 cap0 a1 m W l0 m0 B0 w1 hm).mono fun e W' ⟨he, bel⟩ => ?_
  subst he
  exact ⟨_, rfl, _, _, _, [], _, [], hW', trodAll_mk1 (shut_bool Tryz.underlying4 _), (trodAll_cons_mk (Below.trod (by kernel_rfl) (by kernel_rfl) (of_decide_eq_true (by kernel_rfl)) k0 bel lt0) (trodAll_cons_mk (shut_int Tryz.underlying29 w1) trodAll_mk0)), rfl, bel.frame _, fun h => by cases h⟩

theorem over : Rows.VerbOptionsSaid :=
  OpenClaim.holds_of_cond 4 Tryz.f4 rfl rfl rfl rfl rfl rfl rfl ⟨rfl, rfl, rfl, rfl, rfl⟩ rfl rfl rfl rfl rfl (by kernel_rfl) Tryz.func4 (by kernel_rfl)
    (of_decide_eq_true (by kernel_rfl)) (by unfold Func.isWrapper; first | (rw [if_pos (by decide +kernel)]; kernel_rfl) | (rw [if_neg (by decide +kernel)]; exact ⟨rfl, rfl⟩))
    (fun os started H enc _ F => by rw [OpenClaim.pre_eq_preRow]; exact lifted os started H enc F)

theorem plain (f : FuncId) (fn : Func) (hf : Tryz.pinned.checked.prog.funcNamed "pillarbox/pillarboxlaw07.VerbOptions" = some f) (hfn : Tryz.pinned.checked.prog.funcs[f]? = some fn) :
    true = Tryz.pinned.checked.prog.looks [] ∧ ∀ (j : Nat) t, fn.params[j]? = some t → Tryz.pinned.checked.prog.wantsStandIn t = false := by
  obtain rfl : f = 4 := Option.some.inj ((show Tryz.prog.funcNamed "pillarbox/pillarboxlaw07.VerbOptions" = some 4 by kernel_rfl).symm.trans hf) |>.symm
  obtain rfl : fn = Tryz.f4 := (Option.some.inj (Tryz.func4.symm.trans hfn)).symm
  refine ⟨by kernel_rfl, fun j t ht => ?_⟩
  rw [Tryz.params4] at ht
  have hm : t ∈ [28, 29] := by simpa using Array.mem_of_getElem? ht
  have hall : ([28, 29].all fun u => !Tryz.prog.wantsStandIn u) = true := by kernel_rfl
  exact (show Tryz.prog.wantsStandIn t = false by simpa using List.all_eq_true.1 hall t hm)

/-- The statement: the tied card. -/
theorem proved : Rows.VerbOptionsCardSaid :=
  Claim7.holds_tied_plain_at .later [] _ _ _ _ over (fun _ h => by cases h) (by kernel_rfl) (fun _ h => by cases h) verbOptions_row_tie rfl ⟨rfl, rfl⟩ (by kernel_rfl) rfl plain (by kernel_rfl)
#print axioms proved
end Go.Proofs.YtkncojmalldifaaGreatDoor.verbOptions
