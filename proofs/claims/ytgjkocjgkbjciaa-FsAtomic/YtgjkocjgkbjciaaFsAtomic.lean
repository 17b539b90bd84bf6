/-
  Proved here: of a file that is renamed over another one there is, behind any crash at any write, either, whole; for all names, bytes, counts and fuses. Conditions: none.
-/
import Derived.Test.YtgjkocjgkbjciaaRows
import Derived.Test.YtgjkocjgkbjciaaBulk
import Derived.Lib.Hide
import Derived.WalkKit
import Derived.ProofKit
import Derived.OpenShut
import Derived.ShutString
import Derived.ChangeOld
import Derived.Below
namespace Go.Proofs.Ytgjkocjgkbjciaa.fsAtomic
open Go.ChangeShapes Go.WideShapes Go.ChangeAt Go.RowKit
set_option linter.unusedVariables false

theorem own : ownKnob Try.prog.godebug = none := by kernel_rfl
theorem laidOut : laidOutB Try.prog = true := by kernel_rfl

/-! ### The walk -/
set_option maxHeartbeats 4000000 in
set_option maxRecDepth 100000 in
theorem walk (a0 : ByteArray) (a1 : ByteArray) (a2 : Option Addr) (x2 : List Nat) (cap2 : Nat) (a3 : Option Addr) (x3 : List Nat) (cap3 : Nat) (a4 : Int) (a5 : Int) (a6 : Int) (w : World) (m0 : a0.size ≤ 9223372036854775807) (m1 : a1.size ≤ 9223372036854775807) (l2 : x2.length ≤ cap2) (m2 : cap2 ≤ 140737488351232) (B2 : Fs.Bytes (fun k => k < w.heap.size) w a2 x2) (l3 : x3.length ≤ cap3) (m3 : cap3 ≤ 140737488351232) (B3 : Fs.Bytes (fun k => k < w.heap.size) w a3 x3) (w4 : (Lit.int .i64 a4).wf = true) (w5 : (Lit.int .i64 a5).wf = true) (w6 : (Lit.int .u8 a6).wf = true) :
    Calls Try.prog 5 #[.string a0, .string a1, .slice a2 x2.length cap2, .slice a3 x3.length cap3, .int .i64 a4, .int .i64 a5, .int .u8 a6] w fun e w' => e = .returned (.bool true) ∧ Below w.heap.size w w' := by
  have b6 := bounds_u8 w6
  have l23 : (0 : Int) ≤ (x2.length : Int) := by omega
  have cA := Fs.refName a0 m0 w
  have cB := Fs.refName a1 m1 w
  obtain ⟨V, hV⟩ : ∃ V, V = Fs.isNm (Fs.nm a0) := ⟨_, rfl⟩
  obtain ⟨U, hU⟩ : ∃ U, U = Fs.isNm (Fs.nm a1) := ⟨_, rfl⟩
  rw [← hV] at cA
  rw [← hU] at cB
  have HV := Lib.hid hV
  have HU := Lib.hid hU
  have HB2 := Lib.hid B2
  have HB3 := Lib.hid B3
  obtain ⟨n2, hn2⟩ : ∃ n2, n2 = x2.length := ⟨_, rfl⟩
  obtain ⟨n3, hn3⟩ : ∃ n3, n3 = x3.length := ⟨_, rfl⟩
  rw [← hn2] at l2 ⊢
  rw [← hn3] at l3 ⊢
  have HN2 := Lib.hid hn2
  have HN3 := Lib.hid hn3
  clear hV hU B2 B3 hn2 hn3 w4 w6 l23
  cases V
  · go_enter Try.func5, Try.ntmps5
    go_wp2_with fail
    refine cA.mono ?_
    rintro e w' ⟨rfl, rfl⟩
    go_wp2_with fail
    refine (Fs.answers w).mono ?_
    rintro e w1 ⟨rfl, k1⟩
    have HK := Lib.hid k1
    clear k1
    go_wp2
    go_ret
    exact ⟨rfl, Fs.quiet_below HK.out (Nat.le_refl _)⟩
  · cases U
    · go_enter Try.func5, Try.ntmps5
      go_wp2_with fail
      refine cA.mono ?_
      rintro e w' ⟨rfl, rfl⟩
      go_wp2_with fail
      refine cB.mono ?_
      rintro e w' ⟨rfl, rfl⟩
      go_wp2_with fail
      refine (Fs.answers w).mono ?_
      rintro e w1 ⟨rfl, k1⟩
      have HK := Lib.hid k1
      clear k1
      go_wp2
      go_ret
      exact ⟨rfl, Fs.quiet_below HK.out (Nat.le_refl _)⟩
    · by_cases hab : a0 = a1
      · subst hab
        go_enter Try.func5, Try.ntmps5
        go_wp2_with fail
        refine cA.mono ?_
        rintro e w' ⟨rfl, rfl⟩
        go_wp2_with fail
        refine cB.mono ?_
        rintro e w' ⟨rfl, rfl⟩
        go_wp2_with fail
        refine (Fs.answers w).mono ?_
        rintro e w1 ⟨rfl, k1⟩
        have HK := Lib.hid k1
        clear k1
        go_wp2
        go_ret
        exact ⟨rfl, Fs.quiet_below HK.out (Nat.le_refl _)⟩
      · have hne : (a0.toList == a1.toList) = false := by
          rw [ByteArray.toList_eq, ByteArray.toList_eq]
          simp only [beq_eq_false_iff_ne]
          exact fun e => hab (Fs.nm_inj e)
        have HNM : Hid (Fs.nm a0 ≠ Fs.nm a1) := fun e => hab (Fs.nm_inj e)
        clear hab
        by_cases hlen : (1000 : Int) < (n2 : Int) + (n3 : Int)
        · go_enter Try.func5, Try.ntmps5
          go_wp2_with fail
          refine cA.mono ?_
          rintro e w' ⟨rfl, rfl⟩
          go_wp2_with fail
          refine cB.mono ?_
          rintro e w' ⟨rfl, rfl⟩
          go_wp2_with fail
          refine (Fs.answers w).mono ?_
          rintro e w1 ⟨rfl, k1⟩
          have HK := Lib.hid k1
          clear k1
          go_wp2
          go_ret
          exact ⟨rfl, Fs.quiet_below HK.out (Nat.le_refl _)⟩
        · have hl' : x2.length + x3.length ≤ 1000 := by have := HN2.out; have := HN3.out; omega
          have ha : Fs.isNm (Fs.nm a0) = true := HV.out.symm
          have hb : Fs.isNm (Fs.nm a1) = true := HU.out.symm
          have HPRE := Lib.hid (Fs.at_pre (young := x3) ha hb HNM.out hl')
          have HPATH := Lib.hid (Fs.at_path ha hb HNM.out hl')
          have HREAD := Lib.hid (Fs.at_read ha hb HNM.out hl')
          clear ha hb hl'
          go_enter Try.func5, Try.ntmps5
          go_wp2_with fail
          refine cA.mono ?_
          rintro e w' ⟨rfl, rfl⟩
          go_wp2_with fail
          refine cB.mono ?_
          rintro e w' ⟨rfl, rfl⟩
          go_wp2_with fail
          refine (Fs.dNew 5000 w).mono ?_
          rintro e v0 ⟨rfl, hd, k1⟩
          have HD0 := Lib.hid hd
          have HW0 : Hid (Below w.heap.size w v0) := Fs.quiet_below k1 (Nat.le_refl _)
          clear hd k1
          have c1 := Fs.dCreate v0 a1 m1 (by decide) HD0.out
          go_wp2_with fail
          refine c1.mono ?_
          rintro e v1 ⟨rfl, hd, bl⟩
          have HD1 := Lib.hid hd
          have HW1 : Hid (Below w.heap.size w v1) := HW0.out.trans bl
          clear hd bl c1
          have c2 := Fs.dAppend v1 a1 m1 (fun k => k < w.heap.size) a2 n2 cap2 x2 HN2.out.symm (by omega) (fun b hb => hb) (HB2.out.below HW1.out) HD1.out
          go_wp2_with fail
          refine c2.mono ?_
          rintro e v2 ⟨rfl, hd, bl⟩
          have HD2 := Lib.hid hd
          have HW2 : Hid (Below w.heap.size w v2) := HW1.out.trans bl
          clear hd bl c2
          have c3 := Fs.dSync v2 a1 m1 HD2.out
          go_wp2_with fail
          refine c3.mono ?_
          rintro e v3 ⟨rfl, hd, bl⟩
          have HD3 := Lib.hid hd
          have HW3 : Hid (Below w.heap.size w v3) := HW2.out.trans bl
          clear hd bl c3
          have c4 := Fs.dDirSync v3 HD3.out
          rw [HPRE.out] at c4
          go_wp2_with fail
          refine c4.mono ?_
          rintro e v4 ⟨rfl, hd, bl⟩
          have HD4 := Lib.hid hd
          have HW4 : Hid (Below w.heap.size w v4) := HW3.out.trans bl
          clear hd bl c4
          obtain ⟨F, hF⟩ : ∃ F : Nat, (F : Int) = a6 % 8 := ⟨(a6 % 8).toNat, by omega⟩
          have p0 : (0 : Int) ≤ a6 % 8 := by omega
          have p1 : a6 % 8 ≤ 255 := by omega
          have HF := Lib.hid hF
          clear hF
          have c5 := Fs.dFuse v4 (a6 % 8) (by omega) HD4.out
          go_wp2_with fail
          refine c5.mono ?_
          rintro e v5 ⟨rfl, hd, bl⟩
          have HD5 := Lib.hid hd
          have HW5 : Hid (Below w.heap.size w v5) := HW4.out.trans bl
          clear hd bl c5
          have hfz : Fs.fuseS (Fs.aX (Fs.nm a0) (Fs.nm a1) x2 x3 none false 0) (a6 % 8) = Fs.aX (Fs.nm a0) (Fs.nm a1) x2 x3 (some F) false 0 := by rw [← HF.out]; simp [Fs.fuseS, Fs.aX]
          have HD5b := Lib.hid (show Fs.D w.heap.size v5 w.heap.size (Fs.aX (Fs.nm a0) (Fs.nm a1) x2 x3 (some F) false 0) by rw [← hfz]; exact HD5.out)
          clear hfz
          have c6 := Fs.dCreate v5 a0 m0 (by show 2 + 2 ≤ 1000000; omega) HD5b.out
          go_wp2_with fail
          refine c6.mono ?_
          rintro e v6 ⟨rfl, hd, bl⟩
          have HD6 := Lib.hid hd
          have HW6 : Hid (Below w.heap.size w v6) := HW5.out.trans bl
          clear hd bl c6
          have hbk : (Fs.createS (Fs.aX (Fs.nm a0) (Fs.nm a1) x2 x3 (some F) false 0) (Fs.nm a0)).bulk ≤ 4 := Fs.bulk_create _ _
          have HBK := Lib.hid hbk
          clear hbk
          have c7 := Fs.dAppend v6 a0 m0 (fun k => k < w.heap.size) a3 n3 cap3 x3 HN3.out.symm (by omega) (fun b hb => hb) (HB3.out.below HW6.out) HD6.out
          go_wp2_with fail
          refine c7.mono ?_
          rintro e v7 ⟨rfl, hd, bl⟩
          have HD7 := Lib.hid hd
          have HW7 : Hid (Below w.heap.size w v7) := HW6.out.trans bl
          clear hd bl c7
          have c8 := Fs.dSync v7 a0 m0 HD7.out
          go_wp2_with fail
          refine c8.mono ?_
          rintro e v8 ⟨rfl, hd, bl⟩
          have HD8 := Lib.hid hd
          have HW8 : Hid (Below w.heap.size w v8) := HW7.out.trans bl
          clear hd bl c8
          have c9 := Fs.dRename v8 a0 a1 m0 m1 (by rw [Fs.bulk_sync, Fs.bulk_append]; have := HBK.out; omega) HD8.out
          go_wp2_with fail
          refine c9.mono ?_
          rintro e v9 ⟨rfl, hd, bl⟩
          have HD9 := Lib.hid hd
          have HW9 : Hid (Below w.heap.size w v9) := HW8.out.trans bl
          clear hd bl c9
          obtain ⟨j, f, d, hpath⟩ := HPATH.out F
          have c10 := Fs.dDirSync v9 HD9.out
          rw [hpath] at c10
          go_wp2_with fail
          refine c10.mono ?_
          rintro e v10 ⟨rfl, hd, bl⟩
          have HD10 := Lib.hid hd
          have HW10 : Hid (Below w.heap.size w v10) := HW9.out.trans bl
          clear hd bl c10
          have c11 := Fs.dCrash v10 a4 a5 (bounds_i64 w5).2 HD10.out
          go_wp2_with fail
          refine c11.mono ?_
          rintro e v11 ⟨rfl, hd, bl⟩
          have HD11 := Lib.hid hd
          have HW11 : Hid (Below w.heap.size w v11) := HW10.out.trans bl
          clear hd bl c11
          obtain ⟨r1, r2⟩ := HREAD.out f d j a4 a5
          have c12 := Fs.dRead v11 a1 m1 HD11.out
          rw [r1] at c12
          obtain ⟨X, hX⟩ : ∃ X, X = Fs.readV (Fs.crashS (Fs.aX (Fs.nm a0) (Fs.nm a1) x2 x3 f d j) a4 a5) (Fs.nm a1) := ⟨_, rfl⟩
          rw [← hX] at c12 r2
          clear r1 hX hpath
          go_wp2_with fail
          refine c12.mono ?_
          rintro e v12 ⟨y, n, c, hn, rfl, hO, k12, hbb⟩
          have HO := Lib.hid hO
          have HW12 : Hid (Below w.heap.size w v12) := HW11.out.trans (Fs.quiet_below k12 HW11.out.size)
          clear hn hO k12 hbb c12
          go_wp2_with fail
          refine (Fs.answers v12).mono ?_
          rintro e v13 ⟨rfl, k13⟩
          have HW13 : Hid (Below w.heap.size w v13) := HW12.out.trans (Fs.quiet_below k13 HW12.out.size)
          have q1 := Fs.conv_own HO.out k13
          have q2 := Fs.conv_arg (c := cap2) HB2.out HN2.out.symm HW13.out
          have q3 := Fs.conv_arg (c := cap3) HB3.out HN3.out.symm HW13.out
          clear k13
          rcases r2 with rfl | rfl
          · go_wp2
            go_ret
            exact ⟨rfl, HW13.out⟩
          · cases hq : ((Fs.str X).toList == (Fs.str x2).toList)
            · go_wp2
              go_ret
              exact ⟨rfl, HW13.out⟩
            · go_wp2
              go_ret
              exact ⟨rfl, HW13.out⟩

/-! ### The row's step -/
set_option maxRecDepth 100000 in
theorem lifted (os : Os) (started : os.Started) (H : Type) (enc : TypeId × Value → H) :
    ReturnsInHanded {} Try.checked os 5 .any (Rows.fsAtomicSpec.pre6 enc Try.prog Try.f5 Rows.fsAtomicRow.domain false) (Rows.fsAtomicSpec.post enc Try.prog Try.f5 false true false false) := by
  refine returnsInHanded_of_change_sized (C := Try.checked) own started (by kernel_rfl) Try.func5
    (ChangeSpec.witness6 (enc := enc) (C := Try.checked) false ⟨#[], #[.string { data := #[] }, .string { data := #[] }, .slice none 0 0, .slice none 0 0, .int .i64 0, .int .i64 0, .int .u8 0], []⟩ 8 (by kernel_rfl) (by kernel_rfl) (by kernel_rfl) (by kernel_rfl)) ?_
  intro W base args ds gs before hval0 hW hcnd hsz _
  have hval : ∀ (j : Nat) t v, Try.f5.params[j]? = some t → args[j]? = some v → Value.okWide Try.prog W .any base t v := hval0
  have hW' := hW
  obtain ⟨p, q, hA0, hV, rfl, hfz, hnd⟩ := hW
  have hA : DataW.TrodAll enc Try.prog W 0 (fun _ => true) true Try.f5.params.toList args.toList ds p := hA0
  rw [Try.params5] at hA hval hsz
  obtain ⟨v0, vs0, d0, ds0, p0, q0, hargs, rfl, rfl, h0, r0⟩ := trodAll_cons hA
  obtain ⟨v1, vs1, d1, ds1, p1, q1, rfl, rfl, rfl, h1, r1⟩ := trodAll_cons r0
  obtain ⟨v2, vs2, d2, ds2, p2, q2, rfl, rfl, rfl, h2, r2⟩ := trodAll_cons r1
  obtain ⟨v3, vs3, d3, ds3, p3, q3, rfl, rfl, rfl, h3, r3⟩ := trodAll_cons r2
  obtain ⟨v4, vs4, d4, ds4, p4, q4, rfl, rfl, rfl, h4, r4⟩ := trodAll_cons r3
  obtain ⟨v5, vs5, d5, ds5, p5, q5, rfl, rfl, rfl, h5, r5⟩ := trodAll_cons r4
  obtain ⟨v6, vs6, d6, ds6, p6, q6, rfl, rfl, rfl, h6, r6⟩ := trodAll_cons r5
  obtain ⟨rfl, rfl, rfl⟩ := trodAll_nil r6
  obtain rfl : args = #[v0, v1, v2, v3, v4, v5, v6] := by cases args; simp_all
  obtain ⟨rfl, rfl⟩ := trodVars_none hV
  obtain ⟨a0, rfl, rfl, rfl, w0⟩ := ChangeMaps.open_string Try.underlying9 (hval 0 9 v0 rfl rfl) h0
  obtain ⟨a1, rfl, rfl, rfl, w1⟩ := ChangeMaps.open_string Try.underlying9 (hval 1 9 v1 rfl rfl) h1
  obtain ⟨a2, len2, cap2, rfl⟩ := okWide_slice Try.underlying32 (hval 2 32 v2 rfl rfl)
  have k2 := h2
  have lt2 : ∀ x ∈ p2, x.block < W.heap.size := by obtain ⟨m, hm⟩ := k2; exact DataW.trod_lt m _ _ _ hm
  obtain ⟨b2, x2, c2, e2, l2, _, B2, m2⟩ : ∃ a bs cap, Value.slice a2 len2 cap2 = .slice a bs.length cap ∧ bs.length ≤ cap ∧ cap ≤ 9223372036854775807 ∧ Fs.Bytes (fun k => k < W.heap.size) W a bs ∧ ((∀ n ∈ d2.weights Try.prog 32, n ≤ reachBytes) → cap ≤ 140737488351232) := by
    obtain ⟨fuel, hf⟩ := h2
    exact Fs.arg_bytes hf
  have hs2 : ∀ n ∈ d2.weights Try.prog 32, n ≤ reachBytes := fun n hn => by
    have := List.all_eq_true.1 hsz n (DataW.weights_mem_each (j := 2) rfl rfl n hn)
    simpa using this
  injection e2 with e2 f2 g2
  subst e2 f2 g2
  obtain ⟨a3, len3, cap3, rfl⟩ := okWide_slice Try.underlying32 (hval 3 32 v3 rfl rfl)
  have k3 := h3
  have lt3 : ∀ x ∈ p3, x.block < W.heap.size := by obtain ⟨m, hm⟩ := k3; exact DataW.trod_lt m _ _ _ hm
  obtain ⟨b3, x3, c3, e3, l3, _, B3, m3⟩ : ∃ a bs cap, Value.slice a3 len3 cap3 = .slice a bs.length cap ∧ bs.length ≤ cap ∧ cap ≤ 9223372036854775807 ∧ Fs.Bytes (fun k => k < W.heap.size) W a bs ∧ ((∀ n ∈ d3.weights Try.prog 32, n ≤ reachBytes) → cap ≤ 140737488351232) := by
    obtain ⟨fuel, hf⟩ := h3
    exact Fs.arg_bytes hf
  have hs3 : ∀ n ∈ d3.weights Try.prog 32, n ≤ reachBytes := fun n hn => by
    have := List.all_eq_true.1 hsz n (DataW.weights_mem_each (j := 3) rfl rfl n hn)
    simpa using this
  injection e3 with e3 f3 g3
  subst e3 f3 g3
  obtain ⟨a4, rfl, rfl, rfl, w4⟩ := open_int Try.underlying3 (hval 4 3 v4 rfl rfl) h4
  obtain ⟨a5, rfl, rfl, rfl, w5⟩ := open_int Try.underlying3 (hval 5 3 v5 rfl rfl) h5
  obtain ⟨a6, rfl, rfl, rfl, w6⟩ := open_int Try.underlying5 (hval 6 5 v6 rfl rfl) h6
  clear hA0 hval0
  refine (walk a0 a1 a2 x2 cap2 a3 x3 cap3 a4 a5 a6 W (by simpa only [maxLen] using w0) (by simpa only [maxLen] using w1) l2 (m2 hs2) B2 l3 (m3 hs3) B3 w4 w5 w6).mono fun e W' ⟨he, bel⟩ => ?_
  subst he
  exact ⟨_, rfl, _, _, _, [], _, [], hW', trodAll_mk1 (shut_bool Try.underlying4 _), (trodAll_cons_mk (ChangeMaps.shut_string Try.underlying9 w0) (trodAll_cons_mk (ChangeMaps.shut_string Try.underlying9 w1) (trodAll_cons_mk (Below.trod laidOut (by kernel_rfl) (of_decide_eq_true (by kernel_rfl)) k2 bel lt2) (trodAll_cons_mk (Below.trod laidOut (by kernel_rfl) (of_decide_eq_true (by kernel_rfl)) k3 bel lt3) (trodAll_cons_mk (shut_int Try.underlying3 w4) (trodAll_cons_mk (shut_int Try.underlying3 w5) (trodAll_cons_mk (shut_int Try.underlying5 w6) trodAll_mk0))))))), rfl, bel.frame _, fun h => by cases h⟩

theorem over : Rows.fsAtomicRow.holds Try.pinned (OpenSpec.ofChange Rows.fsAtomicSpec) :=
  OpenClaim.holds_of_wide 5 Try.f5 rfl rfl rfl rfl rfl rfl rfl ⟨rfl, rfl, rfl, rfl, rfl⟩ rfl rfl rfl rfl rfl (by kernel_rfl) Try.func5 (by kernel_rfl)
    (of_decide_eq_true (by kernel_rfl)) (by unfold Func.isWrapper; first | (rw [if_pos (by decide +kernel)]; kernel_rfl) | (rw [if_neg (by decide +kernel)]; exact ⟨rfl, rfl⟩))
    (fun os started H enc _ => lifted os started H enc)

/-- The statement. -/
theorem proved : Rows.FsAtomicSaid := over
#print axioms proved
end Go.Proofs.Ytgjkocjgkbjciaa.fsAtomic
