/-
  Proved here: for every slice of bytes and every way to part them, the statement LineParts of layer 6 answers true: how bytes are parted over Feeds changes no line; the arguments read behind the call as they read before. Conditions: none.
-/
import Derived.Test.YtflnmgameihglaaRows
import Derived.Test.YtflnmgameihglaaTwo
import Derived.Lib.Hide
import Derived.WalkKit
import Derived.ProofKit
import Derived.OpenShut
import Derived.ShutString
import Derived.ChangeOld
import Derived.Below
import Derived.HandedShaped
namespace Go.Proofs.Ytflnmgameihglaa.lineParts
open Go.ChangeShapes Go.WideShapes Go.ChangeAt Go.RowKit
set_option linter.unusedVariables false

theorem own : ownKnob Try.prog.godebug = none := by kernel_rfl
theorem laidOut : laidOutB Try.prog = true := by kernel_rfl

/-! ### The walk -/
set_option maxHeartbeats 4000000 in
set_option maxRecDepth 100000 in
theorem walk (a0 : Option Addr) (x0 : List Nat) (cap0 : Nat) (a1 : Option Addr) (x1 : List Nat) (cap1 : Nat) (w : World) (l0 : x0.length ≤ cap0) (m0 : cap0 ≤ 140737488351232) (B0 : Ln.Bytes (fun k => k < w.heap.size) w a0 x0) (l1 : x1.length ≤ cap1) (m1 : cap1 ≤ 140737488351232) (B1 : Ln.Bytes (fun k => k < w.heap.size) w a1 x1) (hm : Ln.Hm w) :
    Calls Try.prog 4 #[.slice a0 x0.length cap0, .slice a1 x1.length cap1] w fun e w' => e = .returned (.bool true) ∧ Below w.heap.size w w' := by
  obtain ⟨N, hN⟩ : ∃ N, N = x0.length := ⟨_, rfl⟩
  obtain ⟨M, hM⟩ : ∃ M, M = x1.length := ⟨_, rfl⟩
  rw [← hN] at l0
  rw [← hM] at l1
  rw [← hN, ← hM]
  have HN := Lib.hid hN
  have HMM := Lib.hid hM
  have HA := Lib.hid B0
  have HB := Lib.hid B1
  have HM := Lib.hid hm
  clear hN hM B0 B1 hm
  by_cases hbig : (1000 : Int) < (N : Int)
  · go_enter Try.func4, Try.ntmps4
    go_wp2_with (go_at_call 7; refine (Ln.ansS (Ln.Keep.refl _ w) HM.out).mono ?_; rintro e w1 ⟨rfl, hS1, _⟩)
    go_ret
    exact ⟨rfl, hS1.below⟩
  have hs0 : N ≤ 1000 := by omega
  go_enter Try.func4, Try.ntmps4
  go_wp2_with fail
  refine (Ln.pair_feed (w0 := w) (Ln.Keep.alloc (Ln.Keep.alloc (Ln.Keep.refl _ w) _) _) (Ln.Pair.start w) a0 N cap0 x0 HN.out.symm (HA.out.quiet (((Ln.Keep.refl _ w).alloc _).alloc _)) (by simp; omega)).mono ?_
  rintro e w1 ⟨rfl, hP1, hS1⟩
  rw [List.nil_append] at hP1
  have HP1 := Lib.hid hP1
  have HS1 := Lib.hid hS1
  clear hP1 hS1
  go_wp2
  go_loopw [7, 8] (fun a i wr => ∃ A I : Nat, A ≤ N ∧ I ≤ 140737488351233 ∧ (A < N → I ≤ M) ∧ a = .int .i64 (A : Int) ∧ i = .int .i64 (I : Int) ∧ Hid (Ln.Pair w wr w.heap.size (w.heap.size + 1) x0 (x0.take A)) ∧ Hid (Ln.Since w wr)) (fun a i _ => (N - (intOf a).toNat) + (M - (intOf i).toNat))
  case atStart => exact ⟨0, 0, by omega, by omega, by omega, rfl, rfl, HP1.out, HS1.out⟩
  case round =>
    obtain ⟨A, I, hA, hI, hAI, rfl, rfl, HP, HS⟩ := hrel
    have HAI := Lib.hid hAI
    clear hAI
    by_cases hlt : (A : Int) < (N : Int)
    · obtain ⟨D, hD⟩ : ∃ D, A + D = N := ⟨N - A, by omega⟩
      have hD1 : (N : Int) - (A : Int) = (D : Int) := by omega
      have HD := Lib.hid hD
      have hDp : 0 < D := by omega
      clear hD
      by_cases hIM : (I : Int) < (M : Int)
      · obtain ⟨b, off, _, hb, c1⟩ := (HS.out.bytes HB.out).at I (by have := HMM.out; omega)
        subst hb
        obtain ⟨c, hc⟩ : ∃ c, c = x1.getD I 0 := ⟨_, rfl⟩
        rw [← hc] at c1
        have hcl : c < 256 := by rw [hc]; exact Ln.getD_lt HB.out.1 I (by have := HMM.out; omega)
        clear hc
        by_cases hcD : (c : Int) < (D : Int)
        · obtain ⟨Y, s1, s2, hY⟩ := Ln.cut_midn a0 N cap0 A c (by have := HD.out; omega)
          have HY := Lib.hid hY
          clear hY
          go_wp2_with fail
          refine (Ln.pair_feed HS.out HP.out.swap Y c (cap0 - A) ((x0.drop A).take c) (by have := HD.out; have := HN.out; simp; omega) (HY.out _ _ x0 HN.out.symm l0 (by have := HD.out; omega) (HS.out.bytes HA.out)) (by have := HD.out; have := HN.out; simp; omega)).mono ?_
          rintro e w2 ⟨rfl, hP2, hS2⟩
          rw [← List.take_add] at hP2
          have HP2 := Lib.hid hP2.swap
          have HS2 := Lib.hid hS2
          clear hP2 hS2
          go_wp2
          go_roundw
          case rel => exact ⟨A + c, I + 1, by have := HD.out; omega, by omega, fun _ => by omega, by go_num, by go_num, HP2.out, HS2.out⟩
          case measure => simp [intOf]; omega
        · obtain ⟨Y, s1, s2, hY⟩ := Ln.cut_midn a0 N cap0 A D (by have := HD.out; omega)
          have HY := Lib.hid hY
          clear hY
          go_wp2_with fail
          refine (Ln.pair_feed HS.out HP.out.swap Y D (cap0 - A) ((x0.drop A).take D) (by have := HD.out; have := HN.out; simp; omega) (HY.out _ _ x0 HN.out.symm l0 (by have := HD.out; omega) (HS.out.bytes HA.out)) (by have := HD.out; have := HN.out; simp; omega)).mono ?_
          rintro e w2 ⟨rfl, hP2, hS2⟩
          rw [← List.take_add] at hP2
          have HP2 := Lib.hid hP2.swap
          have HS2 := Lib.hid hS2
          clear hP2 hS2
          go_wp2
          go_roundw
          case rel => exact ⟨A + D, I + 1, by have := HD.out; omega, by omega, fun _ => by omega, by go_num, by go_num, HP2.out, HS2.out⟩
          case measure => simp [intOf]; omega
      · obtain ⟨Y, s1, s2, hY⟩ := Ln.cut_midn a0 N cap0 A D (by have := HD.out; omega)
        have HY := Lib.hid hY
        clear hY
        go_wp2_with fail
        refine (Ln.pair_feed HS.out HP.out.swap Y D (cap0 - A) ((x0.drop A).take D) (by have := HD.out; have := HN.out; simp; omega) (HY.out _ _ x0 HN.out.symm l0 (by have := HD.out; omega) (HS.out.bytes HA.out)) (by have := HD.out; have := HN.out; simp; omega)).mono ?_
        rintro e w2 ⟨rfl, hP2, hS2⟩
        rw [← List.take_add] at hP2
        have HP2 := Lib.hid hP2.swap
        have HS2 := Lib.hid hS2
        clear hP2 hS2
        go_wp2
        go_roundw
        case rel => exact ⟨A + D, I + 1, by have := HD.out; omega, by have := HAI.out; omega, fun h => by have := HD.out; omega, by go_num, by go_num, HP2.out, HS2.out⟩
        case measure => have := HD.out; have := HAI.out; simp [intOf]; omega
    · have e : x0.take A = x0 := List.take_of_length_le (by have := HN.out; omega)
      have HP3 : Hid (Ln.Pair w wr w.heap.size (w.heap.size + 1) x0 x0) := by have := HP.out; rw [e] at this; exact this
      clear e HP
      go_wp2
      go_loopw [10] (fun i wx => ∃ I : Nat, I ≤ N + 1 ∧ i = .int .i64 (I : Int) ∧ Hid (∃ bs : List Nat, bs.length ≤ N ∧ Ln.Pair w wx w.heap.size (w.heap.size + 1) bs bs) ∧ Hid (Ln.Since w wx)) (fun i _ => N + 1 - (intOf i).toNat)
      case atStart => exact ⟨0, by omega, rfl, ⟨x0, by have := HN.out; omega, HP3.out⟩, HS.out⟩
      case round =>
        obtain ⟨K, hK, rfl, HB3, HS3⟩ := hrel
        obtain ⟨bs, hbl, hP4⟩ := HB3.out
        have HP4 := Lib.hid hP4
        clear hP4 HB3
        by_cases hle : (K : Int) ≤ (N : Int)
        · obtain ⟨T, hT⟩ : ∃ T, T = Ln.str (Ln.nextT bs 100) := ⟨_, rfl⟩
          obtain ⟨l, hl⟩ : ∃ l, l = Ln.nextL bs 100 := ⟨_, rfl⟩
          obtain ⟨o, ho⟩ : ∃ o, o = Ln.nextK bs := ⟨_, rfl⟩
          have HT := Lib.hid hT
          have HL := Lib.hid hl
          have HO := Lib.hid ho
          clear hT hl ho
          go_wp2_with fail
          refine (Ln.pair_next HS3.out HM.out HP4.out 100 (by decide) (by omega)).mono ?_
          rintro e w5 ⟨he, hP5, hS5⟩
          rw [← HT.out, ← HL.out, ← HO.out] at he
          subst he
          have HP5 := Lib.hid hP5
          have HS5 := Lib.hid hS5
          clear hP5 hS5
          go_wp2_with fail
          refine (Ln.pair_next HS5.out HM.out HP5.out.swap 100 (by decide) (by omega)).mono ?_
          rintro e w6 ⟨he, hP6, hS6⟩
          rw [← HT.out, ← HL.out, ← HO.out] at he
          subst he
          have HP6 := Lib.hid hP6.swap
          have HS6 := Lib.hid hS6
          clear hP6 hS6
          go_wp2
          go_roundw
          case rel => exact ⟨K + 1, by omega, by go_num, ⟨Ln.nextS bs, by have := Ln.nextS_le bs; omega, HP6.out⟩, HS6.out⟩
          case measure => simp [intOf]; omega
        · go_wp2_with fail
          refine (Ln.ansS HS3.out HM.out).mono ?_
          rintro e w5 ⟨rfl, hS5, hk5⟩
          have HS5 := Lib.hid hS5
          have HP5 := Lib.hid (HP4.out.quiet hk5)
          clear hS5 hk5
          go_wp2_with fail
          refine (Ln.pair_held HP5.out).mono ?_
          rintro e w6 ⟨rfl, hw⟩
          have hw' := hw.symm
          subst hw'
          go_wp2_with fail
          refine (Ln.pair_held HP5.out.swap).mono ?_
          rintro e w6 ⟨rfl, hw⟩
          have hw' := hw.symm
          subst hw'
          go_wp2_with fail
          go_ret
          exact ⟨rfl, HS5.out.below⟩

/-! ### The row's step -/
set_option maxRecDepth 100000 in
theorem lifted (os : Os) (started : os.Started) (H : Type) (enc : TypeId × Value → H) :
    ReturnsInHanded {} Try.checked os 4 .any (Rows.linePartsSpec.pre6 enc Try.prog Try.f4 Rows.linePartsRow.domain false) (Rows.linePartsSpec.post enc Try.prog Try.f4 false true false false) := by
  refine returnsInHanded_of_change_shaped (C := Try.checked) own started (by kernel_rfl) Try.func4
    (ChangeSpec.witness6 (enc := enc) (C := Try.checked) false ⟨#[], #[.slice none 0 0, .slice none 0 0], []⟩ 8 (by kernel_rfl) (by kernel_rfl) (by kernel_rfl) (by kernel_rfl)) ?_
  intro W base args ds gs before hval0 hW hcnd hsz hsh _
  have hval : ∀ (j : Nat) t v, Try.f4.params[j]? = some t → args[j]? = some v → Value.okWide Try.prog W .any base t v := hval0
  have hW' := hW
  obtain ⟨p, q, hA0, hV, rfl, hfz, hnd⟩ := hW
  have hA : DataW.TrodAll enc Try.prog W 0 (fun _ => true) true Try.f4.params.toList args.toList ds p := hA0
  rw [Try.params4] at hA hval hsz
  obtain ⟨v0, vs0, d0, ds0, p0, q0, hargs, rfl, rfl, h0, r0⟩ := trodAll_cons hA
  obtain ⟨v1, vs1, d1, ds1, p1, q1, rfl, rfl, rfl, h1, r1⟩ := trodAll_cons r0
  obtain ⟨rfl, rfl, rfl⟩ := trodAll_nil r1
  obtain rfl : args = #[v0, v1] := by cases args; simp_all
  obtain ⟨rfl, rfl⟩ := trodVars_none hV
  obtain ⟨a0, len0, cap0, rfl⟩ := okWide_slice Try.underlying24 (hval 0 24 v0 rfl rfl)
  have k0 := h0
  have lt0 : ∀ x ∈ p0, x.block < W.heap.size := by obtain ⟨m, hm⟩ := k0; exact DataW.trod_lt m _ _ _ hm
  obtain ⟨b0, x0, c0, e0, l0, _, B0, m0⟩ : ∃ a bs cap, Value.slice a0 len0 cap0 = .slice a bs.length cap ∧ bs.length ≤ cap ∧ cap ≤ 9223372036854775807 ∧ Ln.Bytes (fun k => k < W.heap.size) W a bs ∧ ((∀ n ∈ d0.weights Try.prog 24, n ≤ reachBytes) → cap ≤ 140737488351232) := by
    obtain ⟨fuel, hf⟩ := h0
    exact Ln.arg_bytes hf
  have hs0 : ∀ n ∈ d0.weights Try.prog 24, n ≤ reachBytes := fun n hn => by
    have := List.all_eq_true.1 hsz n (DataW.weights_mem_each (j := 0) rfl rfl n hn)
    simpa using this
  injection e0 with e0 f0 g0
  subst e0 f0 g0
  obtain ⟨a1, len1, cap1, rfl⟩ := okWide_slice Try.underlying24 (hval 1 24 v1 rfl rfl)
  have k1 := h1
  have lt1 : ∀ x ∈ p1, x.block < W.heap.size := by obtain ⟨m, hm⟩ := k1; exact DataW.trod_lt m _ _ _ hm
  obtain ⟨b1, x1, c1, e1, l1, _, B1, m1⟩ : ∃ a bs cap, Value.slice a1 len1 cap1 = .slice a bs.length cap ∧ bs.length ≤ cap ∧ cap ≤ 9223372036854775807 ∧ Ln.Bytes (fun k => k < W.heap.size) W a bs ∧ ((∀ n ∈ d1.weights Try.prog 24, n ≤ reachBytes) → cap ≤ 140737488351232) := by
    obtain ⟨fuel, hf⟩ := h1
    exact Ln.arg_bytes hf
  have hs1 : ∀ n ∈ d1.weights Try.prog 24, n ≤ reachBytes := fun n hn => by
    have := List.all_eq_true.1 hsz n (DataW.weights_mem_each (j := 1) rfl rfl n hn)
    simpa using this
  injection e1 with e1 f1 g1
  subst e1 f1 g1
  clear hA0 hval0
  refine (walk a0 x0 cap0 a1 x1 cap1 W l0 (m0 hs0) B0 l1 (m1 hs1) B1 (Ln.maxLen_some W hsh)).mono fun e W' ⟨he, bel⟩ => ?_
  subst he
  exact ⟨_, rfl, _, _, _, [], _, [], hW', trodAll_mk1 (shut_bool Try.underlying4 _), (trodAll_cons_mk (Below.trod laidOut (by kernel_rfl) (of_decide_eq_true (by kernel_rfl)) k0 bel lt0) (trodAll_cons_mk (Below.trod laidOut (by kernel_rfl) (of_decide_eq_true (by kernel_rfl)) k1 bel lt1) trodAll_mk0)), rfl, bel.frame _, fun h => by cases h⟩

theorem over : Rows.linePartsRow.holds Try.pinned (OpenSpec.ofChange Rows.linePartsSpec) :=
  OpenClaim.holds_of_wide 4 Try.f4 rfl rfl rfl rfl rfl rfl rfl ⟨rfl, rfl, rfl, rfl, rfl⟩ rfl rfl rfl rfl rfl (by kernel_rfl) Try.func4 (by kernel_rfl)
    (of_decide_eq_true (by kernel_rfl)) (by unfold Func.isWrapper; first | (rw [if_pos (by decide +kernel)]; kernel_rfl) | (rw [if_neg (by decide +kernel)]; exact ⟨rfl, rfl⟩))
    (fun os started H enc _ => lifted os started H enc)

/-- The statement. -/
theorem proved : Rows.LinePartsSaid := over
#print axioms proved
end Go.Proofs.Ytflnmgameihglaa.lineParts
