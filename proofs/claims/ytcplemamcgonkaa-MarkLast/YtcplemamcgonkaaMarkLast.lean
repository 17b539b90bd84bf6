/-
  Proved here: of at most 200 marks, more marks behind change no fate that ended, and never make less of tries and crashes. Conditions: none.
-/
import Derived.Test.YtcplemamcgonkaaRows
import Derived.Test.YtcplemamcgonkaaHV
import Derived.Lib.Hide
import Derived.WalkKit
import Derived.ProofKit
import Derived.OpenShut
import Derived.ShutString
import Derived.ChangeOld
import Derived.Below
namespace Go.Proofs.Ytcplemamcgonkaa.markLast
open Go.ChangeShapes Go.WideShapes Go.ChangeAt Go.RowKit
set_option linter.unusedVariables false
set_option linter.unusedSimpArgs false
open Ln
theorem own : ownKnob Try.prog.godebug = none := by kernel_rfl
theorem laidOut : laidOutB Try.prog = true := by kernel_rfl

/-! ### The walk -/
set_option maxHeartbeats 16000000 in
set_option maxRecDepth 100000 in
theorem walk (a0 : Option Addr) (x0 : List Ln.Mk) (cap0 : Nat) (a1 : Option Addr) (x1 : List Ln.Mk) (cap1 : Nat) (w : World) (l0 : x0.length ≤ cap0) (m0 : cap0 ≤ 140737488351232) (B0 : Ln.MkP (fun k => k < w.heap.size) w a0 x0) (l1 : x1.length ≤ cap1) (m1 : cap1 ≤ 140737488351232) (B1 : Ln.MkP (fun k => k < w.heap.size) w a1 x1) :
    Calls Try.prog 7 #[.slice a0 x0.length cap0, .slice a1 x1.length cap1] w fun e w' => e = .returned (.bool true) ∧ Below w.heap.size w w' := by
  obtain ⟨l, hl⟩ : ∃ l, l = x0.length := ⟨_, rfl⟩
  obtain ⟨ml, hml⟩ : ∃ l, l = x1.length := ⟨_, rfl⟩
  rw [← hl] at l0
  rw [← hml] at l1
  rw [← hl, ← hml]
  have HL := Lib.hid hl
  have HML := Lib.hid hml
  have HX := Lib.hid B0
  have HY := Lib.hid B1
  clear hl hml B0 B1
  by_cases h200 : (200 : Int) < (l : Int) + (ml : Int)
  · go_enter Try.func7, Try.ntmps7
    go_wp2_with fail
    refine (answersK _).mono ?_
    rintro e ua ⟨rfl, hka⟩
    have KA := Lib.hid ((Keep.refl (fun _ => False) w).trans hka (fun _ _ h => h))
    clear hka
    go_wp2
    go_ret
    exact ⟨rfl, KA.out.below (Nat.le_refl _) (fun _ h => h.elim)⟩
  · have hFt1 := fatesC 8 a0 l cap0 x0 HL.out (by omega) HX.out
    rw [cnt8] at hFt1
    go_enter Try.func7, Try.ntmps7
    go_wp2_with fail
    refine hFt1.mono ?_
    rintro e w2 ⟨g3, hg3, rfl, hR3, hk3⟩
    have K2 := Lib.hid hk3
    have HR3 := Lib.hid hR3
    clear hFt1 hg3 hR3 hk3
    have kX : Keep (fun _ => False) w2 (w2.alloc (.cells #[] 23)) := keep_new w2 _
    have M0 := Lib.hid (Mo.start kX (some ⟨w2.heap.size, 0, none⟩))
    have HX1 := Lib.hid (mk_quiet HX.out (K2.out.trans kX (fun _ _ h => h)))
    clear kX
    go_wp2_with (first
      | (at_builtin
         refine wpList_app_mk (by rfl) (.tmp 17) (.tmp 18) (by rfl) (.slice (some ⟨w2.heap.size, 0, none⟩) 0 0) (by rfl) none [] M0.out.own a0 l cap0 (by rfl) x0 HL.out HX1.out (by simp only [List.length_nil]; omega) ?_
         intro y3 n3 c3 q3 w3 hn3 ho3 hk3 hw3
         have M1 := Lib.hid (M0.out.app ho3 hk3 hw3)
         rw [List.nil_append] at M1
         have HY1 := Lib.hid (mk_quiet HY.out (K2.out.trans M1.out.kp (fun _ _ h => h)))
         clear hn3 ho3 hk3 hw3)
      | (at_builtin
         refine wpList_app_mk (by rfl) (.tmp 19) (.tmp 20) (by rfl) (.slice y3 n3 c3) (by rfl) q3 x0 M1.out.own a1 ml cap1 (by rfl) x1 HML.out HY1.out (by have := HL.out; omega) ?_
         intro y4 n4 c4 q4 w4 hn4 ho4 hk4 hw4
         have M2 := Lib.hid (M1.out.app ho4 hk4 hw4)
         have hrow := M2.out.row
         have HNF := Lib.hid hrow.1
         have HPF := Lib.hid hrow.2.2
         have hn200 : n4 ≤ 200 := by rw [hrow.1, List.length_append]; have := HL.out; have := HML.out; omega
         have K3 := Lib.hid (K2.out.trans M2.out.kp (fun _ _ h => h))
         have HR4 := Lib.hid (StR.keep HR3.out M2.out.kp (fun h => h))
         clear hn4 ho4 hk4 hw4 hrow))
    have hFt2 := fatesC 8 y4 n4 c4 (x0 ++ x1) HNF.out (by omega) HPF.out
    rw [cnt8] at hFt2
    refine hFt2.mono ?_
    obtain ⟨w3', hw3'⟩ : ∃ x : World, x = w4 := ⟨_, rfl⟩
    clear hw3' w3'
    rintro e w4 ⟨g4, hg4, rfl, hR5, hk5⟩
    have K4 := Lib.hid (K3.out.trans hk5 (fun _ _ h => h))
    have HRa := Lib.hid (StR.keep HR4.out hk5 (fun h => h))
    have HRb := Lib.hid hR5
    clear hFt2 hg4 hR5 hk5 M0 M1 M2 HX1 HY1
    go_wp2
    go_loopw [7] (fun i wr => ∃ (k : Nat), k ≤ 8 ∧ i = .int .i64 (k : Int) ∧ Hid (Keep (fun _ => False) w4 wr)) (fun i _ => 8 - (intOf i).toNat)
    case atStart => exact ⟨0, by omega, rfl, Lib.hid (Keep.refl _ w4)⟩
    case round =>
      obtain ⟨k, hk, rfl, KR⟩ := hrel
      by_cases hlt : (k : Int) < 8
      · have hk8 : k < 8 := by omega
        have k0 : (0 : Int) ≤ (k : Int) := by omega
        have hLt := fatesM_later 8 x0 x1 k hk8
        obtain ⟨ba, oa, _, _, hxa, sa⟩ := ft_at (StR.row (StR.keep HRa.out KR.out (fun h => h))) k (by rw [fatesM_length]; exact hk8)
        cases hxa
        obtain ⟨bb, ob, _, _, hxb, sb⟩ := ft_at (StR.row (StR.keep HRb.out KR.out (fun h => h))) k (by rw [fatesM_length]; exact hk8)
        cases hxb
        rw [ft_get _ _ _ (by rw [fatesM_length]; exact hk8)] at sa sb
        obtain ⟨fa, hfa⟩ : ∃ f, f = (fatesM 8 x0).getD k ft0 := ⟨_, rfl⟩
        obtain ⟨fb, hfb⟩ : ∃ f, f = (fatesM 8 (x0 ++ x1)).getD k ft0 := ⟨_, rfl⟩
        rw [← hfa] at sa hLt
        rw [← hfb] at sb hLt
        simp only [Nat.zero_add] at sa sb
        clear hfa hfb
        obtain ⟨st, tr, nx, cr, op⟩ := fa
        obtain ⟨st', tr', nx', cr', op'⟩ := fb
        simp only at sa sb
        obtain ⟨s0, s1, s2, s3, s4⟩ := sa
        obtain ⟨s5, s6, s7, s8, s9⟩ := sb
        obtain ⟨hLa, hLb, hLc⟩ := hLt
        simp only at hLa hLb hLc
        have d1 : decide (tr' < tr) = false := decide_eq_false (by omega)
        have d2 : decide (cr' < cr) = false := decide_eq_false (by omega)
        clear hLb hLc
        by_cases hst : st = 0
        · subst hst
          clear hLa
          go_wp2
          go_quiet (fail)
          obtain ⟨W2, hW2⟩ : ∃ W2, W2 = wr.drewN nq := ⟨_, rfl⟩
          have K2 : Hid (Keep (fun _ => False) w4 W2) := Lib.hid (by rw [hW2]; exact keepDrewN KR.out nq)
          rw [← hW2]
          clear hW2 s0 s1 s2 s3 s4 s5 s6 s7 s8 s9
          go_wp2
          go_roundw
          case rel => exact ⟨k + 1, by omega, by go_num, K2⟩
          case measure => simp [intOf]; omega
        · have he := hLa hst
          injection he with e1 e2 e3 e4 e5
          subst e1 e2 e3 e4 e5
          have b1 : (st' == 0) = false := by simpa using hst
          have b2 : (st' != 0) = true := by simpa using hst
          clear hLa hst
          go_wp2
          go_quiet (fail)
          obtain ⟨W2, hW2⟩ : ∃ W2, W2 = wr.drewN nq := ⟨_, rfl⟩
          have K2 : Hid (Keep (fun _ => False) w4 W2) := Lib.hid (by rw [hW2]; exact keepDrewN KR.out nq)
          rw [← hW2]
          clear hW2 s0 s1 s2 s3 s4 s5 s6 s7 s8 s9
          go_wp2
          go_roundw
          case rel => exact ⟨k + 1, by omega, by go_num, K2⟩
          case measure => simp [intOf]; omega
      · have hk8 : k = 8 := by omega
        subst hk8
        have KE := Lib.hid (K4.out.trans KR.out (fun _ _ h => h))
        go_wp2_with fail
        refine (answersK _).mono ?_
        rintro e ua ⟨rfl, hka⟩
        have KA := Lib.hid (KE.out.trans hka (fun _ _ h => h))
        clear hka
        go_wp2
        go_ret
        exact ⟨rfl, KA.out.below (Nat.le_refl _) (fun _ h => h.elim)⟩

/-! ### The row's step -/
set_option maxRecDepth 100000 in
theorem lifted (os : Os) (started : os.Started) (H : Type) (enc : TypeId × Value → H) :
    ReturnsInHanded {} Try.checked os 7 .any (Rows.markLastSpec.pre6 enc Try.prog Try.f7 Rows.markLastRow.domain false) (Rows.markLastSpec.post enc Try.prog Try.f7 false true false false) := by
  refine returnsInHanded_of_change_sized (C := Try.checked) own started (by kernel_rfl) Try.func7
    (ChangeSpec.witness6 (enc := enc) (C := Try.checked) false ⟨#[], #[.slice none 0 0, .slice none 0 0], []⟩ 8 (by kernel_rfl) (by kernel_rfl) (by kernel_rfl) (by kernel_rfl)) ?_
  intro W base args ds gs before hval0 hW hcnd hsz _
  have hval : ∀ (j : Nat) t v, Try.f7.params[j]? = some t → args[j]? = some v → Value.okWide Try.prog W .any base t v := hval0
  have hW' := hW
  obtain ⟨p, q, hA0, hV, rfl, hfz, hnd⟩ := hW
  have hA : DataW.TrodAll enc Try.prog W 0 (fun _ => true) true Try.f7.params.toList args.toList ds p := hA0
  rw [Try.params7] at hA hval hsz
  obtain ⟨v0, vs0, d0, ds0, p0, q0, hargs, rfl, rfl, h0, r0⟩ := trodAll_cons hA
  obtain ⟨v1, vs1, d1, ds1, p1, q1, rfl, rfl, rfl, h1, r1⟩ := trodAll_cons r0
  obtain ⟨rfl, rfl, rfl⟩ := trodAll_nil r1
  obtain rfl : args = #[v0, v1] := by cases args; simp_all
  obtain ⟨rfl, rfl⟩ := trodVars_none hV
  obtain ⟨a0, len0, cap0, rfl⟩ := okWide_slice Try.underlying30 (hval 0 30 v0 rfl rfl)
  have k0 := h0
  have lt0 : ∀ x ∈ p0, x.block < W.heap.size := by obtain ⟨m, hm⟩ := k0; exact DataW.trod_lt m _ _ _ hm
  obtain ⟨b0, x0, c0, e0, l0, _, B0, m0⟩ : ∃ a L cap, Value.slice a0 len0 cap0 = .slice a L.length cap ∧ L.length ≤ cap ∧ cap ≤ 9223372036854775807 ∧ Ln.MkP (fun k => k < W.heap.size) W a L ∧ ((∀ n ∈ d0.weights Try.prog 30, n ≤ reachBytes) → cap ≤ 140737488351232) := by
    obtain ⟨fuel, hf⟩ := h0
    exact Ln.arg_marks hf
  have hs0 : ∀ n ∈ d0.weights Try.prog 30, n ≤ reachBytes := fun n hn => by
    have := List.all_eq_true.1 hsz n (DataW.weights_mem_each (j := 0) rfl rfl n hn)
    simpa using this
  injection e0 with e0 f0 g0
  subst e0 f0 g0
  obtain ⟨a1, len1, cap1, rfl⟩ := okWide_slice Try.underlying30 (hval 1 30 v1 rfl rfl)
  have k1 := h1
  have lt1 : ∀ x ∈ p1, x.block < W.heap.size := by obtain ⟨m, hm⟩ := k1; exact DataW.trod_lt m _ _ _ hm
  obtain ⟨b1, x1, c1, e1, l1, _, B1, m1⟩ : ∃ a L cap, Value.slice a1 len1 cap1 = .slice a L.length cap ∧ L.length ≤ cap ∧ cap ≤ 9223372036854775807 ∧ Ln.MkP (fun k => k < W.heap.size) W a L ∧ ((∀ n ∈ d1.weights Try.prog 30, n ≤ reachBytes) → cap ≤ 140737488351232) := by
    obtain ⟨fuel, hf⟩ := h1
    exact Ln.arg_marks hf
  have hs1 : ∀ n ∈ d1.weights Try.prog 30, n ≤ reachBytes := fun n hn => by
    have := List.all_eq_true.1 hsz n (DataW.weights_mem_each (j := 1) rfl rfl n hn)
    simpa using this
  injection e1 with e1 f1 g1
  subst e1 f1 g1
  clear hA0 hval0
  refine (walk a0 x0 cap0 a1 x1 cap1 W l0 (m0 hs0) B0 l1 (m1 hs1) B1).mono fun e W' ⟨he, bel⟩ => ?_
  subst he
  exact ⟨_, rfl, _, _, _, [], _, [], hW', trodAll_mk1 (shut_bool Try.underlying4 _), (trodAll_cons_mk (Below.trod laidOut (by kernel_rfl) (of_decide_eq_true (by kernel_rfl)) k0 bel lt0) (trodAll_cons_mk (Below.trod laidOut (by kernel_rfl) (of_decide_eq_true (by kernel_rfl)) k1 bel lt1) trodAll_mk0)), rfl, bel.frame _, fun h => by cases h⟩

theorem over : Rows.markLastRow.holds Try.pinned (OpenSpec.ofChange Rows.markLastSpec) :=
  OpenClaim.holds_of_wide 7 Try.f7 rfl rfl rfl rfl rfl rfl rfl ⟨rfl, rfl, rfl, rfl, rfl⟩ rfl rfl rfl rfl rfl (by kernel_rfl) Try.func7 (by kernel_rfl)
    (of_decide_eq_true (by kernel_rfl)) (by unfold Func.isWrapper; first | (rw [if_pos (by decide +kernel)]; kernel_rfl) | (rw [if_neg (by decide +kernel)]; exact ⟨rfl, rfl⟩))
    (fun os started H enc _ => lifted os started H enc)

/-- The statement. -/
theorem proved : Rows.MarkLastSaid := over
#print axioms proved
end Go.Proofs.Ytcplemamcgonkaa.markLast
