/-
  Proved here: what is done to one file changes no other one: whatever is done to files of other names, the file has its bytes; for every name, all bytes and every row of calls. Conditions: none.
-/
import Derived.Test.YtgjkocjgkbjciaaRows
import Derived.Test.YtgjkocjgkbjciaaApart
import Derived.Lib.Hide
import Derived.WalkKit
import Derived.ProofKit
import Derived.OpenShut
import Derived.ShutString
import Derived.ChangeOld
import Derived.Below
namespace Go.Proofs.Ytgjkocjgkbjciaa.fsApart
open Go.ChangeShapes Go.WideShapes Go.ChangeAt Go.RowKit
set_option linter.unusedVariables false

theorem own : ownKnob Try.prog.godebug = none := by kernel_rfl
theorem laidOut : laidOutB Try.prog = true := by kernel_rfl

/-! ### The walk -/
set_option maxHeartbeats 4000000 in
set_option maxRecDepth 100000 in
theorem walk (a0 : ByteArray) (a1 : Option Addr) (x1 : List Nat) (cap1 : Nat) (a2 : Option Addr) (x2 : List Fs.OpR) (cap2 : Nat) (w : World) (m0 : a0.size ≤ 9223372036854775807) (l1 : x1.length ≤ cap1) (m1 : cap1 ≤ 140737488351232) (B1 : Fs.Bytes (fun k => k < w.heap.size) w a1 x1) (l2 : x2.length ≤ cap2) (m2 : cap2 ≤ 9223372036854775807) (B2 : Fs.Ops w a2 x2) :
    Calls Try.prog 9 #[.string a0, .slice a1 x1.length cap1, .slice a2 x2.length cap2] w fun e w' => e = .returned (.bool true) ∧ Below w.heap.size w w' := by
  have cA := Fs.refName a0 m0 w
  obtain ⟨V, hV⟩ : ∃ V, V = Fs.isNm (Fs.nm a0) := ⟨_, rfl⟩
  rw [← hV] at cA
  have HV := Lib.hid hV
  have HB1 := Lib.hid B1
  have HOps := Lib.hid B2
  obtain ⟨n1, hn1⟩ : ∃ n1, n1 = x1.length := ⟨_, rfl⟩
  obtain ⟨N, hN⟩ : ∃ N, N = x2.length := ⟨_, rfl⟩
  rw [← hn1] at l1 ⊢
  rw [← hN] at l2 ⊢
  have HN1 := Lib.hid hn1
  have HN := Lib.hid hN
  clear hV B1 B2 hn1 hN
  cases V
  · go_enter Try.func9, Try.ntmps9
    go_wp2_with fail
    refine cA.mono ?_
    rintro e w' ⟨rfl, rfl⟩
    go_wp2_with fail
    refine (Fs.answers w).mono ?_
    rintro e w1 ⟨rfl, k1⟩
    have HK := Lib.hid k1
    clear k1
    go_wp2
    go_ret
    exact ⟨rfl, Fs.quiet_below HK.out (Nat.le_refl _)⟩
  · by_cases h500 : (500 : Int) < (n1 : Int)
    · go_enter Try.func9, Try.ntmps9
      go_wp2_with fail
      refine cA.mono ?_
      rintro e w' ⟨rfl, rfl⟩
      go_wp2_with fail
      refine (Fs.answers w).mono ?_
      rintro e w1 ⟨rfl, k1⟩
      have HK := Lib.hid k1
      clear k1
      go_wp2
      go_ret
      exact ⟨rfl, Fs.quiet_below HK.out (Nat.le_refl _)⟩
    · by_cases h60 : (60 : Int) < (N : Int)
      · go_enter Try.func9, Try.ntmps9
        go_wp2_with fail
        refine cA.mono ?_
        rintro e w' ⟨rfl, rfl⟩
        go_wp2_with fail
        refine (Fs.answers w).mono ?_
        rintro e w1 ⟨rfl, k1⟩
        have HK := Lib.hid k1
        clear k1
        go_wp2
        go_ret
        exact ⟨rfl, Fs.quiet_below HK.out (Nat.le_refl _)⟩
      · have ha : Fs.isNm (Fs.nm a0) = true := HV.out.symm
        have HA := Lib.hid ha
        have HST := Lib.hid (Fs.has_start ha (data := x1) (by have := HN1.out; omega))
        clear ha
        go_enter Try.func9, Try.ntmps9
        go_wp2_with fail
        refine cA.mono ?_
        rintro e w' ⟨rfl, rfl⟩
        go_wp2_with fail
        refine (Fs.dNew 1048576 w).mono ?_
        rintro e v0 ⟨rfl, hd, k1⟩
        have HD0 := Lib.hid hd
        have HW0 : Hid (Below w.heap.size w v0) := Fs.quiet_below k1 (Nat.le_refl _)
        clear hd k1
        have c1 := Fs.dCreate v0 a0 m0 (by decide) HD0.out
        go_wp2_with fail
        refine c1.mono ?_
        rintro e v1 ⟨rfl, hd, bl⟩
        have HD1 := Lib.hid hd
        have HW1 : Hid (Below w.heap.size w v1) := HW0.out.trans bl
        clear hd bl c1
        have c2 := Fs.dAppend v1 a0 m0 (fun k => k < w.heap.size) a1 n1 cap1 x1 HN1.out.symm (by omega) (fun b hb => hb) (HB1.out.below HW1.out) HD1.out
        go_wp2_with fail
        refine c2.mono ?_
        rintro e v2 ⟨rfl, hd, bl⟩
        have HD2 := Lib.hid hd
        have HW2 : Hid (Below w.heap.size w v2) := HW1.out.trans bl
        clear hd bl c2
        go_wp2
        go_loopw [8] (fun x wr => ∃ i : Nat, i ≤ N ∧ x = .int .i64 (i : Int) ∧ Hid (∃ s, Fs.D w.heap.size wr w.heap.size s ∧ Fs.Has s (Fs.nm a0) x1 0 ∧ s.bulk ≤ 2 + 2 * i) ∧ Hid (Below w.heap.size w wr)) (fun x _ => N - (intOf x).toNat)
        case atStart => exact ⟨0, by omega, rfl, ⟨_, HD2.out, HST.out.1, by have := HST.out.2; omega⟩, HW2.out⟩
        case round =>
          obtain ⟨i, hi, rfl, HX, HW⟩ := hrel
          by_cases h8 : (i : Int) < (N : Int)
          · obtain ⟨s, hD, hH, hBk⟩ := HX.out
            have hil : i < x2.length := by have := HN.out; omega
            obtain ⟨o, ho⟩ := Fs.getElem?_some_lt hil
            obtain ⟨b, off, hbl, rfl, hAt⟩ := HOps.out i o ho
            obtain ⟨x, c, c0, c1, c2, c3, c4, c5, r1, r2, r3, r4, r5, hBy⟩ := hAt.below hbl HW.out
            obtain ⟨kd, nn, mm, oa, ob, dt⟩ := o
            simp only at c0 c1 c2 c3 c4 c5 r1 r2 r3 r4 r5 hBy
            obtain ⟨L, hL⟩ : ∃ L, L = dt.length := ⟨_, rfl⟩
            rw [← hL] at c5 r1
            have HL := Lib.hid hL
            have HBy := Lib.hid hBy
            have HD := Lib.hid hD
            have HH := Lib.hid hH
            have HBk := Lib.hid hBk
            have HIL := Lib.hid hil
            clear hD hH hBk hil ho hbl hAt hBy hL r4 r5 HX
            by_cases e1 : oa = a0
            · subst e1
              go_wp2
              go_roundw
              case rel => exact ⟨i + 1, by omega, by go_num, ⟨s, HD.out.quiet ((Fs.Keep.refl _ wr).alloc _), HH.out, by have := HBk.out; omega⟩, HW.out.trans (Fs.quiet_below ((Fs.Keep.refl _ wr).alloc _) HW.out.size)⟩
              case measure => simp [intOf]; omega
            · have q1 := Fs.toList_ne e1
              by_cases e2 : ob = a0
              · subst e2
                clear e1
                go_wp2
                go_roundw
                case rel => exact ⟨i + 1, by omega, by go_num, ⟨s, HD.out.quiet ((Fs.Keep.refl _ wr).alloc _), HH.out, by have := HBk.out; omega⟩, HW.out.trans (Fs.quiet_below ((Fs.Keep.refl _ wr).alloc _) HW.out.size)⟩
                case measure => simp [intOf]; omega
              · have q2 := Fs.toList_ne e2
                have N1 : Hid (Fs.nm oa ≠ Fs.nm a0) := fun e => e1 (Fs.nm_inj e)
                have N2 : Hid (Fs.nm ob ≠ Fs.nm a0) := fun e => e2 (Fs.nm_inj e)
                clear e1 e2
                by_cases h6 : (6 : Int) < kd
                · go_wp2
                  go_roundw
                  case rel => exact ⟨i + 1, by omega, by go_num, ⟨s, HD.out.quiet ((Fs.Keep.refl _ wr).alloc _), HH.out, by have := HBk.out; omega⟩, HW.out.trans (Fs.quiet_below ((Fs.Keep.refl _ wr).alloc _) HW.out.size)⟩
                  case measure => simp [intOf]; omega
                · by_cases h5 : (500 : Int) < (L : Int)
                  · go_wp2
                    go_roundw
                    case rel => exact ⟨i + 1, by omega, by go_num, ⟨s, HD.out.quiet ((Fs.Keep.refl _ wr).alloc _), HH.out, by have := HBk.out; omega⟩, HW.out.trans (Fs.quiet_below ((Fs.Keep.refl _ wr).alloc _) HW.out.size)⟩
                    case measure => simp [intOf]; omega
                  · have k1 : Fs.Keep (fun _ => False) wr (wr.alloc (.cells #[.int .i64 kd, .int .i64 nn, .int .i64 mm, .string oa, .string ob, .slice x L c] 34)) := (Fs.Keep.refl _ wr).alloc _
                    have HWa : Hid (Below w.heap.size w (wr.alloc (.cells #[.int .i64 kd, .int .i64 nn, .int .i64 mm, .string oa, .string ob, .slice x L c] 34))) := HW.out.trans (Fs.quiet_below k1 HW.out.size)
                    have cD := Fs.dDo (wr.alloc (.cells #[.int .i64 kd, .int .i64 nn, .int .i64 mm, .string oa, .string ob, .slice x L c] 34)) ⟨kd, nn, mm, oa, ob, dt⟩ x L c r2 r3 HL.out.symm (by omega) (by have := HBk.out; have := HIL.out; have := HN.out; omega) (HBy.out.below (Fs.quiet_below k1 HW.out.size)) (HD.out.quiet k1)
                    clear k1
                    go_wp2_with fail
                    refine cD.mono ?_
                    rintro e v3 ⟨rfl, hd3, b3⟩
                    have HD3 := Lib.hid hd3
                    have HW3 : Hid (Below w.heap.size w v3) := HWa.out.trans b3
                    have HH3 := Lib.hid (Fs.has_do HD.out.good HH.out ⟨kd, nn, mm, oa, ob, dt⟩ N1.out N2.out)
                    have HB3 := Lib.hid (Fs.bulk_do s ⟨kd, nn, mm, oa, ob, dt⟩)
                    obtain ⟨t1, t2⟩ := Fs.has_find HA.out HH3.out
                    have cR := Fs.dRead v3 a0 m0 HD3.out
                    rw [t1, t2] at cR
                    clear hd3 b3 cD t1 t2
                    go_wp2_with fail
                    refine cR.mono ?_
                    rintro e v4 ⟨y, n, cc, hn, rfl, hO, k4, _⟩
                    have q3 := Fs.conv_own hO (Fs.Keep.refl _ v4)
                    have HW4 : Hid (Below w.heap.size w v4) := HW3.out.trans (Fs.quiet_below k4 HW3.out.size)
                    have q4 := Fs.conv_arg (c := cap1) HB1.out HN1.out.symm HW4.out
                    have HD4 := Lib.hid (HD3.out.quiet k4)
                    clear hn hO k4 cR
                    go_wp2
                    go_roundw
                    case rel => exact ⟨i + 1, by omega, by go_num, ⟨_, HD4.out, HH3.out, by have := HB3.out; have := HBk.out; omega⟩, HW4.out⟩
                    case measure => simp [intOf]; omega
          · go_wp2_with fail
            refine (Fs.answers wr).mono ?_
            rintro e v5 ⟨rfl, k5⟩
            have HW5 : Hid (Below w.heap.size w v5) := HW.out.trans (Fs.quiet_below k5 HW.out.size)
            clear k5
            go_wp2
            go_ret
            exact ⟨rfl, HW5.out⟩

/-! ### The row's step -/
set_option maxRecDepth 100000 in
theorem lifted (os : Os) (started : os.Started) (H : Type) (enc : TypeId × Value → H) :
    ReturnsInHanded {} Try.checked os 9 .any (Rows.fsApartSpec.pre6 enc Try.prog Try.f9 Rows.fsApartRow.domain false) (Rows.fsApartSpec.post enc Try.prog Try.f9 false true false false) := by
  refine returnsInHanded_of_change_sized (C := Try.checked) own started (by kernel_rfl) Try.func9
    (ChangeSpec.witness6 (enc := enc) (C := Try.checked) false ⟨#[], #[.string { data := #[] }, .slice none 0 0, .slice none 0 0], []⟩ 8 (by kernel_rfl) (by kernel_rfl) (by kernel_rfl) (by kernel_rfl)) ?_
  intro W base args ds gs before hval0 hW hcnd hsz _
  have hval : ∀ (j : Nat) t v, Try.f9.params[j]? = some t → args[j]? = some v → Value.okWide Try.prog W .any base t v := hval0
  have hW' := hW
  obtain ⟨p, q, hA0, hV, rfl, hfz, hnd⟩ := hW
  have hA : DataW.TrodAll enc Try.prog W 0 (fun _ => true) true Try.f9.params.toList args.toList ds p := hA0
  rw [Try.params9] at hA hval hsz
  obtain ⟨v0, vs0, d0, ds0, p0, q0, hargs, rfl, rfl, h0, r0⟩ := trodAll_cons hA
  obtain ⟨v1, vs1, d1, ds1, p1, q1, rfl, rfl, rfl, h1, r1⟩ := trodAll_cons r0
  obtain ⟨v2, vs2, d2, ds2, p2, q2, rfl, rfl, rfl, h2, r2⟩ := trodAll_cons r1
  obtain ⟨rfl, rfl, rfl⟩ := trodAll_nil r2
  obtain rfl : args = #[v0, v1, v2] := by cases args; simp_all
  obtain ⟨rfl, rfl⟩ := trodVars_none hV
  obtain ⟨a0, rfl, rfl, rfl, w0⟩ := ChangeMaps.open_string Try.underlying9 (hval 0 9 v0 rfl rfl) h0
  obtain ⟨a1, len1, cap1, rfl⟩ := okWide_slice Try.underlying32 (hval 1 32 v1 rfl rfl)
  have k1 := h1
  have lt1 : ∀ x ∈ p1, x.block < W.heap.size := by obtain ⟨m, hm⟩ := k1; exact DataW.trod_lt m _ _ _ hm
  obtain ⟨b1, x1, c1, e1, l1, _, B1, m1⟩ : ∃ a bs cap, Value.slice a1 len1 cap1 = .slice a bs.length cap ∧ bs.length ≤ cap ∧ cap ≤ 9223372036854775807 ∧ Fs.Bytes (fun k => k < W.heap.size) W a bs ∧ ((∀ n ∈ d1.weights Try.prog 32, n ≤ reachBytes) → cap ≤ 140737488351232) := by
    obtain ⟨fuel, hf⟩ := h1
    exact Fs.arg_bytes hf
  have hs1 : ∀ n ∈ d1.weights Try.prog 32, n ≤ reachBytes := fun n hn => by
    have := List.all_eq_true.1 hsz n (DataW.weights_mem_each (j := 1) rfl rfl n hn)
    simpa using this
  injection e1 with e1 f1 g1
  subst e1 f1 g1
  obtain ⟨a2, len2, cap2, rfl⟩ := okWide_slice Try.underlying22 (hval 2 22 v2 rfl rfl)
  have k2 := h2
  have lt2 : ∀ x ∈ p2, x.block < W.heap.size := by obtain ⟨m, hm⟩ := k2; exact DataW.trod_lt m _ _ _ hm
  obtain ⟨b2, x2, c2, e2, l2, m2, B2⟩ : ∃ a ops cap, Value.slice a2 len2 cap2 = .slice a ops.length cap ∧ ops.length ≤ cap ∧ cap ≤ 9223372036854775807 ∧ Fs.Ops W a ops := by
    obtain ⟨fuel, hf⟩ := h2
    exact Fs.arg_ops hf
  injection e2 with e2 f2 g2
  subst e2 f2 g2
  clear hA0 hval0
  refine (walk a0 a1 x1 cap1 a2 x2 cap2 W (by simpa only [maxLen] using w0) l1 (m1 hs1) B1 l2 m2 B2).mono fun e W' ⟨he, bel⟩ => ?_
  subst he
  exact ⟨_, rfl, _, _, _, [], _, [], hW', trodAll_mk1 (shut_bool Try.underlying4 _), (trodAll_cons_mk (ChangeMaps.shut_string Try.underlying9 w0) (trodAll_cons_mk (Below.trod laidOut (by kernel_rfl) (of_decide_eq_true (by kernel_rfl)) k1 bel lt1) (trodAll_cons_mk (Below.trod laidOut (by kernel_rfl) (of_decide_eq_true (by kernel_rfl)) k2 bel lt2) trodAll_mk0))), rfl, bel.frame _, fun h => by cases h⟩

theorem over : Rows.fsApartRow.holds Try.pinned (OpenSpec.ofChange Rows.fsApartSpec) :=
  OpenClaim.holds_of_wide 9 Try.f9 rfl rfl rfl rfl rfl rfl rfl ⟨rfl, rfl, rfl, rfl, rfl⟩ rfl rfl rfl rfl rfl (by kernel_rfl) Try.func9 (by kernel_rfl)
    (of_decide_eq_true (by kernel_rfl)) (by unfold Func.isWrapper; first | (rw [if_pos (by decide +kernel)]; kernel_rfl) | (rw [if_neg (by decide +kernel)]; exact ⟨rfl, rfl⟩))
    (fun os started H enc _ => lifted os started H enc)

/-- The statement. -/
theorem proved : Rows.FsApartSaid := over
#print axioms proved
end Go.Proofs.Ytgjkocjgkbjciaa.fsApart
