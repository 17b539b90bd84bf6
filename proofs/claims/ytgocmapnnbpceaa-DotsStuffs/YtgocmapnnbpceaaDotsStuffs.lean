/-
  Proved here: of every slice of bytes (of more than 2,000 only the laws' own example is asked) Stuff and Lines answer whether it is a body; nothing and false, if it is none; else the texts, each with byte 10 behind, are the body, and Stuff answers what the document's own does. Conditions: none.
-/
import Derived.Test.YtgocmapnnbpceaaRows
import Derived.Test.YtgocmapnnbpceaaCas
import Derived.Lib.Hide
import Derived.WalkKit
import Derived.ProofKit
import Derived.OpenShut
import Derived.ShutString
import Derived.ChangeOld
import Derived.Below
import Derived.HandedShaped
namespace Go.Proofs.Ytgocmapnnbpceaa.dotsStuffs
open Go.ChangeShapes Go.WideShapes Go.ChangeAt Go.RowKit
set_option linter.unusedVariables false

theorem own : ownKnob Try.prog.godebug = none := by kernel_rfl
theorem laidOut : laidOutB Try.prog = true := by kernel_rfl

/-! ### The walk -/
set_option maxHeartbeats 4000000 in
set_option maxRecDepth 100000 in
theorem walk (a0 : Option Addr) (x0 : List Nat) (cap0 : Nat) (w : World) (l0 : x0.length ≤ cap0) (m0 : cap0 ≤ 140737488351232) (B0 : Ln.Bytes (fun k => k < w.heap.size) w a0 x0) (hm : Ln.Hm w) :
    Calls Try.prog 3 #[.slice a0 x0.length cap0] w fun e w' => e = .returned (.bool true) ∧ Below w.heap.size w w' := by
  obtain ⟨n, hn⟩ : ∃ n, n = x0.length := ⟨_, rfl⟩
  rw [← hn] at l0 ⊢
  have HM := Lib.hid hm
  have HB := Lib.hid B0
  have HN := Lib.hid hn
  have hn63 : n ≤ 140737488351232 := by omega
  clear hm B0 hn
  by_cases hbig : (2000 : Int) < (n : Int)
  · go_enter Try.func3, Try.ntmps3
    go_wp2_with fail
    refine (Ln.ansS (Ln.Keep.refl _ w) HM.out).mono ?_
    rintro e w1 ⟨rfl, hS, _⟩
    go_wp2
    go_ret
    exact ⟨rfl, hS.below⟩
  · cases hb : Ln.bodyB x0 with
    | false =>
      have HBB := Lib.hid hb
      clear hb
      go_enter Try.func3, Try.ntmps3
      go_wp2_with fail
      refine (Ln.stuff_bad HBB.out (Ln.Keep.refl _ w) HM.out HN.out l0 HB.out (by omega)).mono ?_
      rintro e w1 ⟨rfl, hS1, hk1⟩
      have HS1 := Lib.hid hS1
      have HB1 := Lib.hid (HB.out.quiet hk1)
      clear hS1 hk1
      go_wp2_with fail
      refine (Ln.lines_bad HBB.out HS1.out HM.out HN.out l0 HB1.out (by omega)).mono ?_
      rintro e w2 ⟨⟨y, c, rfl⟩, hS2, hk2⟩
      have HS2 := Lib.hid hS2
      have HB2 := Lib.hid (HB1.out.quiet hk2)
      clear hS2 hk2
      go_wp2_with fail
      refine (Ln.body_at HBB.out HN.out l0 HB2.out (by omega)).mono ?_
      rintro e w3 ⟨rfl, hw⟩
      obtain rfl : w2 = w3 := hw.symm
      go_wp2_with fail
      refine (Ln.ansS HS2.out HM.out).mono ?_
      rintro e w4 ⟨rfl, hS4, _⟩
      have HS4 := Lib.hid hS4
      clear hS4
      go_wp2
      go_ret
      exact ⟨rfl, HS4.out.below⟩
    | true =>
      have HBB := Lib.hid hb
      have hN2 := Ln.lines_count hb
      obtain ⟨L, hL⟩ : ∃ L, L = Ln.linesOf x0 := ⟨_, rfl⟩
      obtain ⟨N, hNL⟩ : ∃ N, N = L.length := ⟨_, rfl⟩
      rw [← hL, ← hNL, ← HN.out] at hN2
      have HJ : Hid (x0 = Ln.joinL L) := by show _ = _; rw [hL]; exact (Ln.bodyB_body hb).2
      have HL := Lib.hid hL
      have HNL := Lib.hid hNL
      clear hb hL hNL
      go_enter Try.func3, Try.ntmps3
      go_wp2_with fail
      refine (Ln.stuff_good HBB.out (Ln.Keep.refl _ w) HM.out HN.out l0 HB.out (by omega)).mono ?_
      rw [← HL.out]
      rintro e w1 ⟨rfl, hS1, hk1⟩
      have HS1 := Lib.hid hS1
      have HB1 := Lib.hid (HB.out.quiet hk1)
      clear hS1 hk1
      obtain ⟨S, hS⟩ : ∃ S, S = Ln.str (Ln.stuffM L) := ⟨_, rfl⟩
      rw [← hS]
      have HSS := Lib.hid hS
      clear hS
      go_wp2_with fail
      refine (Ln.lines_good HBB.out HS1.out HM.out HN.out l0 HB1.out (by omega)).mono ?_
      rw [← HL.out, ← HNL.out]
      rintro e w2 ⟨⟨tx, tc, rfl, htc, hT⟩, hS2, hk2⟩
      have HS2 := Lib.hid hS2
      have HB2 := Lib.hid (HB1.out.quiet hk2)
      have HT := Lib.hid hT
      clear hS2 hk2 hT
      go_wp2_with fail
      refine (Ln.body_at HBB.out HN.out l0 HB2.out (by omega)).mono ?_
      rintro e w3 ⟨rfl, hw⟩
      obtain rfl : w2 = w3 := hw.symm
      go_wp2
      go_loop [7, 8] (fun s z => ∃ k : Nat, k ≤ N ∧ z = .int .i64 (k : Int) ∧ s = .string (Ln.str (Ln.joinL (L.take k)))) (fun _ z => N - (intOf z).toNat)
      case atStart => exact ⟨0, Nat.zero_le _, rfl, rfl⟩
      case round =>
        obtain ⟨k, hk, rfl, rfl⟩ := hrel
        have hjl : Ln.joinL L = Ln.joinL (L.take k) ++ Ln.joinL (L.drop k) := by rw [← Ln.joinL_append, List.take_append_drop]
        have hz1 : (Ln.str (Ln.joinL (L.take k))).size ≤ 2000 := by
          rw [Ln.str_size]
          have h1 := congrArg List.length hjl
          rw [← HJ.out, List.length_append] at h1
          have := HN.out
          omega
        by_cases h0 : (k : Int) < (N : Int)
        · have hkL : k < L.length := by have := HNL.out; omega
          obtain ⟨g, rfl, c0⟩ := HT.out.cell k hkL
          have htc2 := Ln.text_count hkL
          have hz2 : (Ln.str (L.getD k [])).size ≤ 2000 := by
            rw [Ln.str_size]
            rw [← HJ.out] at htc2
            have := HN.out
            omega
          have hnx : Ln.joinL (L.take (k + 1)) = Ln.joinL (L.take k) ++ L.getD k [] ++ [10] := by
            have e : L.getD k [] = L[k] := by simp [hkL]
            rw [List.take_succ_eq_append_getElem hkL, Ln.joinL_snoc, e]
          have HNX := Lib.hid hnx
          obtain ⟨l, hl'⟩ : ∃ l, l = L.getD k [] := ⟨_, rfl⟩
          rw [← hl'] at c0 hz2 HNX
          clear hnx hl' hkL hjl htc2
          go_wp2
          go_round
          case rel => exact ⟨k + 1, by omega, by go_num, by rw [HNX.out, Ln.str_append, Ln.str_10]⟩
          case measure => simp [intOf]; omega
        · have hkL : L.take k = L := List.take_of_length_le (by have := HNL.out; omega)
          rw [hkL, ← HJ.out]
          clear hkL hjl hz1
          go_wp2_with fail
          refine (Ln.ansS HS2.out HM.out).mono ?_
          rintro e w4 ⟨rfl, hS4, hk4⟩
          have HS4 := Lib.hid hS4
          have hB4 := HB2.out.quiet hk4
          have hcv := Ln.run_str hB4 n cap0 HN.out.symm
          have HB4 := Lib.hid hB4
          clear hS4 hk4 hB4
          go_wp2_with fail
          refine (Ln.refStuff HN.out l0 HB4.out (by omega) HBB.out).mono ?_
          rw [← HL.out, ← HSS.out]
          rintro e w5 ⟨rfl, hw⟩
          obtain rfl : w4 = w5 := hw.symm
          go_wp2
          go_ret
          exact ⟨rfl, HS4.out.below⟩

/-! ### The row's step -/
set_option maxRecDepth 100000 in
theorem lifted (os : Os) (started : os.Started) (H : Type) (enc : TypeId × Value → H) :
    ReturnsInHanded {} Try.checked os 3 .any (Rows.dotsStuffsSpec.pre6 enc Try.prog Try.f3 Rows.dotsStuffsRow.domain false) (Rows.dotsStuffsSpec.post enc Try.prog Try.f3 false true false false) := by
  refine returnsInHanded_of_change_shaped (C := Try.checked) own started (by kernel_rfl) Try.func3
    (ChangeSpec.witness6 (enc := enc) (C := Try.checked) false ⟨#[], #[.slice none 0 0], []⟩ 8 (by kernel_rfl) (by kernel_rfl) (by kernel_rfl) (by kernel_rfl)) ?_
  intro W base args ds gs before hval0 hW hcnd hsz hsh _
  have hval : ∀ (j : Nat) t v, Try.f3.params[j]? = some t → args[j]? = some v → Value.okWide Try.prog W .any base t v := hval0
  have hW' := hW
  obtain ⟨p, q, hA0, hV, rfl, hfz, hnd⟩ := hW
  have hA : DataW.TrodAll enc Try.prog W 0 (fun _ => true) true Try.f3.params.toList args.toList ds p := hA0
  rw [Try.params3] at hA hval hsz
  obtain ⟨v0, vs0, d0, ds0, p0, q0, hargs, rfl, rfl, h0, r0⟩ := trodAll_cons hA
  obtain ⟨rfl, rfl, rfl⟩ := trodAll_nil r0
  obtain rfl : args = #[v0] := by cases args; simp_all
  obtain ⟨rfl, rfl⟩ := trodVars_none hV
  obtain ⟨a0, len0, cap0, rfl⟩ := okWide_slice Try.underlying22 (hval 0 22 v0 rfl rfl)
  have k0 := h0
  have lt0 : ∀ x ∈ p0, x.block < W.heap.size := by obtain ⟨m, hm⟩ := k0; exact DataW.trod_lt m _ _ _ hm
  obtain ⟨b0, x0, c0, e0, l0, _, B0, m0⟩ : ∃ a bs cap, Value.slice a0 len0 cap0 = .slice a bs.length cap ∧ bs.length ≤ cap ∧ cap ≤ 9223372036854775807 ∧ Ln.Bytes (fun k => k < W.heap.size) W a bs ∧ ((∀ n ∈ d0.weights Try.prog 22, n ≤ reachBytes) → cap ≤ 140737488351232) := by
    obtain ⟨fuel, hf⟩ := h0
    exact Ln.arg_bytes hf
  have hs0 : ∀ n ∈ d0.weights Try.prog 22, n ≤ reachBytes := fun n hn => by
    have := List.all_eq_true.1 hsz n (DataW.weights_mem_each (j := 0) rfl rfl n hn)
    simpa using this
  injection e0 with e0 f0 g0
  subst e0 f0 g0
  clear hA0 hval0
  refine (walk a0 x0 cap0 W l0 (m0 hs0) B0 (Ln.maxLen_some W hsh)).mono fun e W' ⟨he, bel⟩ => ?_
  subst he
  exact ⟨_, rfl, _, _, _, [], _, [], hW', trodAll_mk1 (shut_bool Try.underlying4 _), (trodAll_cons_mk (Below.trod laidOut (by kernel_rfl) (of_decide_eq_true (by kernel_rfl)) k0 bel lt0) trodAll_mk0), rfl, bel.frame _, fun h => by cases h⟩

theorem over : Rows.dotsStuffsRow.holds Try.pinned (OpenSpec.ofChange Rows.dotsStuffsSpec) :=
  OpenClaim.holds_of_wide 3 Try.f3 rfl rfl rfl rfl rfl rfl rfl ⟨rfl, rfl, rfl, rfl, rfl⟩ rfl rfl rfl rfl rfl (by kernel_rfl) Try.func3 (by kernel_rfl)
    (of_decide_eq_true (by kernel_rfl)) (by unfold Func.isWrapper; first | (rw [if_pos (by decide +kernel)]; kernel_rfl) | (rw [if_neg (by decide +kernel)]; exact ⟨rfl, rfl⟩))
    (fun os started H enc _ => lifted os started H enc)

/-- The statement. -/
theorem proved : Rows.DotsStuffsSaid := over
#print axioms proved
end Go.Proofs.Ytgocmapnnbpceaa.dotsStuffs
