/-
  Proved here: a disk that is none answers each call as the document says, and a disk takes just the names that are names; for every name, all bytes and every number. Conditions: none.
-/
import Derived.Test.YtgjkocjgkbjciaaRows
import Derived.Test.YtgjkocjgkbjciaaArgs
import Derived.Lib.Hide
import Derived.WalkKit
import Derived.ProofKit
import Derived.OpenShut
import Derived.ShutString
import Derived.ChangeOld
import Derived.Below
namespace Go.Proofs.Ytgjkocjgkbjciaa.fsNone
open Go.ChangeShapes Go.WideShapes Go.ChangeAt Go.RowKit
set_option linter.unusedVariables false

theorem own : ownKnob Try.prog.godebug = none := by kernel_rfl
theorem laidOut : laidOutB Try.prog = true := by kernel_rfl

/-! ### The walk -/
set_option maxHeartbeats 4000000 in
set_option maxRecDepth 100000 in
theorem walk (a0 : ByteArray) (a1 : Option Addr) (x1 : List Nat) (cap1 : Nat) (a2 : Int) (w : World) (m0 : a0.size ≤ 9223372036854775807) (l1 : x1.length ≤ cap1) (m1 : cap1 ≤ 140737488351232) (B1 : Fs.Bytes (fun k => k < w.heap.size) w a1 x1) (w2 : (Lit.int .i64 a2).wf = true) :
    Calls Try.prog 7 #[.string a0, .slice a1 x1.length cap1, .int .i64 a2] w fun e w' => e = .returned (.bool true) ∧ Below w.heap.size w w' := by
  have hA := m0
  obtain ⟨V, hV⟩ : ∃ V, V = Fs.isNm (Fs.nm a0) := ⟨_, rfl⟩
  have HV := Lib.hid hV
  have HB := Lib.hid B1
  clear hV
  go_enter Try.func7, Try.ntmps7
  go_wp2_with fail
  refine (Fs.roomNone a2 w).mono ?_
  rintro e w' ⟨rfl, rfl⟩
  go_wp2_with fail
  refine (Fs.fuseNone a2 w).mono ?_
  rintro e w' ⟨rfl, rfl⟩
  go_wp2_with fail
  refine (Fs.crashNone a2 a2 w).mono ?_
  rintro e w' ⟨rfl, rfl⟩
  go_wp2_with fail
  refine (Fs.readNone a0 w).mono ?_
  rintro e w1 ⟨rfl, k1⟩
  have HK1 := Lib.hid k1
  clear k1
  go_wp2_with fail
  refine (Fs.dNew 100 w1).mono ?_
  rintro e w2 ⟨rfl, hd2, k2⟩
  have HD2 := Lib.hid hd2
  have HW2 : Hid (Below w.heap.size w w2) := (Fs.quiet_below HK1.out (Nat.le_refl _)).trans (Fs.quiet_below k2 HK1.out.size)
  have HS2 : Hid (w.heap.size ≤ w2.heap.size) := Nat.le_trans HK1.out.size k2.size
  clear hd2 k2
  go_wp2_with fail
  refine (Fs.dRead w2 a0 hA HD2.out).mono ?_
  rintro e w3 ⟨y, n, c, _, rfl, _, k3, _⟩
  have HD3 := Lib.hid (HD2.out.quiet k3)
  have HW3 : Hid (Below w.heap.size w w3) := HW2.out.trans (Fs.quiet_below k3 HS2.out)
  have HS3 : Hid (w.heap.size ≤ w3.heap.size) := Nat.le_trans HS2.out k3.size
  have HB1 : Hid (w.heap.size ≤ w1.heap.size) := HK1.out.size
  clear k3
  cases V
  · have hbad : Fs.isNm (Fs.nm a0) = false := HV.out.symm
    have e1 := Fs.bad_find (Fs.newS 100) hbad
    rw [e1]
    have cC := Fs.dCreate w3 a0 hA (by decide) HD3.out
    rw [Fs.bad_createE _ hbad, Fs.bad_createS _ hbad] at cC
    clear e1
    have HBad := Lib.hid hbad
    clear hbad
    go_wp2_with fail
    refine cC.mono ?_
    rintro e w4 ⟨rfl, hd4, b4⟩
    have HD4 := Lib.hid hd4
    have HW4 : Hid (Below w.heap.size w w4) := HW3.out.trans (b4.mono HB1.out)
    clear hd4 b4 cC
    go_wp2_with fail
    have cA := Fs.dAppend w4 a0 hA (fun k => k < w.heap.size) a1 x1.length cap1 x1 rfl (by omega) (fun b hb => Nat.lt_of_lt_of_le hb HB1.out) (HB.out.below HW4.out) HD4.out
    rw [Fs.bad_appendE _ HBad.out, Fs.bad_appendS _ HBad.out] at cA
    refine cA.mono ?_
    rintro e w5 ⟨rfl, hd5, b5⟩
    have HD5 := Lib.hid hd5
    have HW5 : Hid (Below w.heap.size w w5) := HW4.out.trans (b5.mono HB1.out)
    clear hd5 b5 cA
    have cS := Fs.dSync w5 a0 hA HD5.out
    rw [Fs.bad_syncE _ HBad.out, Fs.bad_syncS _ HBad.out] at cS
    go_wp2_with fail
    refine cS.mono ?_
    rintro e w6 ⟨rfl, hd6, b6⟩
    have HD6 := Lib.hid hd6
    have HW6 : Hid (Below w.heap.size w w6) := HW5.out.trans (b6.mono HB1.out)
    clear hd6 b6 cS
    have cR := Fs.dRename w6 a0 Fs.bA hA (by decide) (by decide) HD6.out
    rw [Fs.bad_renameE _ HBad.out, Fs.bad_renameS _ HBad.out] at cR
    go_wp2_with fail
    refine cR.mono ?_
    rintro e w7 ⟨rfl, hd7, b7⟩
    have HD7 := Lib.hid hd7
    have HW7 : Hid (Below w.heap.size w w7) := HW6.out.trans (b7.mono HB1.out)
    clear hd7 b7 cR
    have cR := Fs.dRename w7 Fs.bA a0 (by decide) hA (by decide) HD7.out
    rw [Fs.bad_renameE' _ HBad.out, Fs.bad_renameS' _ HBad.out] at cR
    go_wp2_with fail
    refine cR.mono ?_
    rintro e w8 ⟨rfl, hd8, b8⟩
    have HD8 := Lib.hid hd8
    have HW8 : Hid (Below w.heap.size w w8) := HW7.out.trans (b8.mono HB1.out)
    clear hd8 b8 cR
    have cU := Fs.dUnlink w8 a0 hA (by decide) HD8.out
    rw [Fs.bad_unlinkE _ HBad.out, Fs.bad_unlinkS _ HBad.out] at cU
    go_wp2_with fail
    refine cU.mono ?_
    rintro e w9 ⟨rfl, hd9, b9⟩
    have HW9 : Hid (Below w.heap.size w w9) := HW8.out.trans (b9.mono HB1.out)
    clear hd9 b9 cU
    go_wp2_with fail
    refine (Fs.answers w9).mono ?_
    rintro e v1 ⟨rfl, k1⟩
    have HV1 : Hid (Below w.heap.size w v1) := HW9.out.trans (Fs.quiet_below k1 HW9.out.size)
    clear k1
    go_wp2_with fail
    refine (Fs.createNone a0 v1).mono ?_
    rintro e v2 ⟨rfl, k1⟩
    have HV2 : Hid (Below w.heap.size w v2) := HV1.out.trans (Fs.quiet_below k1 HV1.out.size)
    clear k1
    go_wp2_with fail
    refine (Fs.appendNone a0 _ v2).mono ?_
    rintro e v3 ⟨rfl, k1⟩
    have HV3 : Hid (Below w.heap.size w v3) := HV2.out.trans (Fs.quiet_below k1 HV2.out.size)
    clear k1
    go_wp2_with fail
    refine (Fs.syncNone a0 v3).mono ?_
    rintro e v4 ⟨rfl, k1⟩
    have HV4 : Hid (Below w.heap.size w v4) := HV3.out.trans (Fs.quiet_below k1 HV3.out.size)
    clear k1
    go_wp2_with fail
    refine (Fs.renameNone a0 a0 v4).mono ?_
    rintro e v5 ⟨rfl, k1⟩
    have HV5 : Hid (Below w.heap.size w v5) := HV4.out.trans (Fs.quiet_below k1 HV4.out.size)
    clear k1
    go_wp2_with fail
    refine (Fs.unlinkNone a0 v5).mono ?_
    rintro e v6 ⟨rfl, k1⟩
    have HV6 : Hid (Below w.heap.size w v6) := HV5.out.trans (Fs.quiet_below k1 HV5.out.size)
    clear k1
    go_wp2_with fail
    refine (Fs.dirSyncNone v6).mono ?_
    rintro e v7 ⟨rfl, rfl⟩
    go_wp2_with fail
    refine (Fs.listNone v6).mono ?_
    rintro e v7 ⟨rfl, rfl⟩
    go_wp2_with fail
    refine (Fs.usedNone v6).mono ?_
    rintro e v7 ⟨rfl, rfl⟩
    go_wp2_with fail
    refine (Fs.looseNone v6).mono ?_
    rintro e v7 ⟨rfl, rfl⟩
    go_wp2_with fail
    refine (Fs.downNone v6).mono ?_
    rintro e v7 ⟨rfl, rfl⟩
    have cN := Fs.refName a0 hA v6
    rw [← HV.out] at cN
    go_wp2_with fail
    refine cN.mono ?_
    rintro e v7 ⟨rfl, rfl⟩
    go_wp2
    go_ret
    exact ⟨rfl, HV6.out⟩
  · have hgood : Fs.isNm (Fs.nm a0) = true := HV.out.symm
    have cC := Fs.dCreate w3 a0 hA (by decide) HD3.out
    rw [Fs.new_create 100 hgood] at cC
    clear hgood
    go_wp2_with fail
    refine cC.mono ?_
    rintro e w9 ⟨rfl, hd9, b9⟩
    have HW9 : Hid (Below w.heap.size w w9) := HW3.out.trans (b9.mono HB1.out)
    clear hd9 b9 cC
    go_wp2_with fail
    refine (Fs.answers w9).mono ?_
    rintro e v1 ⟨rfl, k1⟩
    have HV1 : Hid (Below w.heap.size w v1) := HW9.out.trans (Fs.quiet_below k1 HW9.out.size)
    clear k1
    go_wp2_with fail
    refine (Fs.createNone a0 v1).mono ?_
    rintro e v2 ⟨rfl, k1⟩
    have HV2 : Hid (Below w.heap.size w v2) := HV1.out.trans (Fs.quiet_below k1 HV1.out.size)
    clear k1
    go_wp2_with fail
    refine (Fs.appendNone a0 _ v2).mono ?_
    rintro e v3 ⟨rfl, k1⟩
    have HV3 : Hid (Below w.heap.size w v3) := HV2.out.trans (Fs.quiet_below k1 HV2.out.size)
    clear k1
    go_wp2_with fail
    refine (Fs.syncNone a0 v3).mono ?_
    rintro e v4 ⟨rfl, k1⟩
    have HV4 : Hid (Below w.heap.size w v4) := HV3.out.trans (Fs.quiet_below k1 HV3.out.size)
    clear k1
    go_wp2_with fail
    refine (Fs.renameNone a0 a0 v4).mono ?_
    rintro e v5 ⟨rfl, k1⟩
    have HV5 : Hid (Below w.heap.size w v5) := HV4.out.trans (Fs.quiet_below k1 HV4.out.size)
    clear k1
    go_wp2_with fail
    refine (Fs.unlinkNone a0 v5).mono ?_
    rintro e v6 ⟨rfl, k1⟩
    have HV6 : Hid (Below w.heap.size w v6) := HV5.out.trans (Fs.quiet_below k1 HV5.out.size)
    clear k1
    go_wp2_with fail
    refine (Fs.dirSyncNone v6).mono ?_
    rintro e v7 ⟨rfl, rfl⟩
    go_wp2_with fail
    refine (Fs.listNone v6).mono ?_
    rintro e v7 ⟨rfl, rfl⟩
    go_wp2_with fail
    refine (Fs.usedNone v6).mono ?_
    rintro e v7 ⟨rfl, rfl⟩
    go_wp2_with fail
    refine (Fs.looseNone v6).mono ?_
    rintro e v7 ⟨rfl, rfl⟩
    go_wp2_with fail
    refine (Fs.downNone v6).mono ?_
    rintro e v7 ⟨rfl, rfl⟩
    have cN := Fs.refName a0 hA v6
    rw [← HV.out] at cN
    go_wp2_with fail
    refine cN.mono ?_
    rintro e v7 ⟨rfl, rfl⟩
    go_wp2
    go_ret
    exact ⟨rfl, HV6.out⟩

/-! ### The row's step -/
set_option maxRecDepth 100000 in
theorem lifted (os : Os) (started : os.Started) (H : Type) (enc : TypeId × Value → H) :
    ReturnsInHanded {} Try.checked os 7 .any (Rows.fsNoneSpec.pre6 enc Try.prog Try.f7 Rows.fsNoneRow.domain false) (Rows.fsNoneSpec.post enc Try.prog Try.f7 false true false false) := by
  refine returnsInHanded_of_change_sized (C := Try.checked) own started (by kernel_rfl) Try.func7
    (ChangeSpec.witness6 (enc := enc) (C := Try.checked) false ⟨#[], #[.string { data := #[] }, .slice none 0 0, .int .i64 0], []⟩ 8 (by kernel_rfl) (by kernel_rfl) (by kernel_rfl) (by kernel_rfl)) ?_
  intro W base args ds gs before hval0 hW hcnd hsz _
  have hval : ∀ (j : Nat) t v, Try.f7.params[j]? = some t → args[j]? = some v → Value.okWide Try.prog W .any base t v := hval0
  have hW' := hW
  obtain ⟨p, q, hA0, hV, rfl, hfz, hnd⟩ := hW
  have hA : DataW.TrodAll enc Try.prog W 0 (fun _ => true) true Try.f7.params.toList args.toList ds p := hA0
  rw [Try.params7] at hA hval hsz
  obtain ⟨v0, vs0, d0, ds0, p0, q0, hargs, rfl, rfl, h0, r0⟩ := trodAll_cons hA
  obtain ⟨v1, vs1, d1, ds1, p1, q1, rfl, rfl, rfl, h1, r1⟩ := trodAll_cons r0
  obtain ⟨v2, vs2, d2, ds2, p2, q2, rfl, rfl, rfl, h2, r2⟩ := trodAll_cons r1
  obtain ⟨rfl, rfl, rfl⟩ := trodAll_nil r2
  obtain rfl : args = #[v0, v1, v2] := by cases args; simp_all
  obtain ⟨rfl, rfl⟩ := trodVars_none hV
  obtain ⟨a0, rfl, rfl, rfl, w0⟩ := ChangeMaps.open_string Try.underlying9 (hval 0 9 v0 rfl rfl) h0
  obtain ⟨a1, len1, cap1, rfl⟩ := okWide_slice Try.underlying32 (hval 1 32 v1 rfl rfl)
  have k1 := h1
  have lt1 : ∀ x ∈ p1, x.block < W.heap.size := by obtain ⟨m, hm⟩ := k1; exact DataW.trod_lt m _ _ _ hm
  obtain ⟨b1, x1, c1, e1, l1, _, B1, m1⟩ : ∃ a bs cap, Value.slice a1 len1 cap1 = .slice a bs.length cap ∧ bs.length ≤ cap ∧ cap ≤ 9223372036854775807 ∧ Fs.Bytes (fun k => k < W.heap.size) W a bs ∧ ((∀ n ∈ d1.weights Try.prog 32, n ≤ reachBytes) → cap ≤ 140737488351232) := by
    obtain ⟨fuel, hf⟩ := h1
    exact Fs.arg_bytes hf
  have hs1 : ∀ n ∈ d1.weights Try.prog 32, n ≤ reachBytes := fun n hn => by
    have := List.all_eq_true.1 hsz n (DataW.weights_mem_each (j := 1) rfl rfl n hn)
    simpa using this
  injection e1 with e1 f1 g1
  subst e1 f1 g1
  obtain ⟨a2, rfl, rfl, rfl, w2⟩ := open_int Try.underlying3 (hval 2 3 v2 rfl rfl) h2
  clear hA0 hval0
  refine (walk a0 a1 x1 cap1 a2 W (by simpa only [maxLen] using w0) l1 (m1 hs1) B1 w2).mono fun e W' ⟨he, bel⟩ => ?_
  subst he
  exact ⟨_, rfl, _, _, _, [], _, [], hW', trodAll_mk1 (shut_bool Try.underlying4 _), (trodAll_cons_mk (ChangeMaps.shut_string Try.underlying9 w0) (trodAll_cons_mk (Below.trod laidOut (by kernel_rfl) (of_decide_eq_true (by kernel_rfl)) k1 bel lt1) (trodAll_cons_mk (shut_int Try.underlying3 w2) trodAll_mk0))), rfl, bel.frame _, fun h => by cases h⟩

theorem over : Rows.fsNoneRow.holds Try.pinned (OpenSpec.ofChange Rows.fsNoneSpec) :=
  OpenClaim.holds_of_wide 7 Try.f7 rfl rfl rfl rfl rfl rfl rfl ⟨rfl, rfl, rfl, rfl, rfl⟩ rfl rfl rfl rfl rfl (by kernel_rfl) Try.func7 (by kernel_rfl)
    (of_decide_eq_true (by kernel_rfl)) (by unfold Func.isWrapper; first | (rw [if_pos (by decide +kernel)]; kernel_rfl) | (rw [if_neg (by decide +kernel)]; exact ⟨rfl, rfl⟩))
    (fun os started H enc _ => lifted os started H enc)

/-- The statement. -/
theorem proved : Rows.FsNoneSaid := over
#print axioms proved
end Go.Proofs.Ytgjkocjgkbjciaa.fsNone
