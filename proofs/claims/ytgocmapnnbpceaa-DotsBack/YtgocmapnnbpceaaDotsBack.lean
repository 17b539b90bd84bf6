/-
  Proved here: of every slice of bytes (of more than 2,000, and of what is no body, only the laws' own example is asked) what Stuff answers, cut into lines by the document's own Line and each handed to Unstuff, is the body again, and its end is just the last line. Conditions: none.
-/
import Derived.Test.YtgocmapnnbpceaaRows
import Derived.Test.YtgocmapnnbpceaaBak
import Derived.Lib.Hide
import Derived.WalkKit
import Derived.ProofKit
import Derived.OpenShut
import Derived.ShutString
import Derived.ChangeOld
import Derived.Below
import Derived.HandedShaped
namespace Go.Proofs.Ytgocmapnnbpceaa.dotsBack
open Go.ChangeShapes Go.WideShapes Go.ChangeAt Go.RowKit
set_option linter.unusedVariables false

theorem own : ownKnob Try.prog.godebug = none := by kernel_rfl
theorem laidOut : laidOutB Try.prog = true := by kernel_rfl

/-! ### The walk -/
set_option maxHeartbeats 4000000 in
set_option maxRecDepth 100000 in
theorem walk (a0 : Option Addr) (x0 : List Nat) (cap0 : Nat) (w : World) (l0 : x0.length ≤ cap0) (m0 : cap0 ≤ 140737488351232) (B0 : Ln.Bytes (fun k => k < w.heap.size) w a0 x0) (hm : Ln.Hm w) :
    Calls Try.prog 5 #[.slice a0 x0.length cap0] w fun e w' => e = .returned (.bool true) ∧ Below w.heap.size w w' := by
  obtain ⟨n, hn⟩ : ∃ n, n = x0.length := ⟨_, rfl⟩
  rw [← hn] at l0 ⊢
  have HM := Lib.hid hm
  have HB := Lib.hid B0
  have HN := Lib.hid hn
  have hn63 : n ≤ 140737488351232 := by omega
  clear hm B0 hn
  by_cases hbig : (2000 : Int) < (n : Int)
  · go_enter Try.func5, Try.ntmps5
    go_wp2_with fail
    refine (Ln.ansS (Ln.Keep.refl _ w) HM.out).mono ?_
    rintro e w1 ⟨rfl, hS, _⟩
    go_wp2
    go_ret
    exact ⟨rfl, hS.below⟩
  · cases hb : Ln.bodyB x0 with
    | false =>
      have HBB := Lib.hid hb
      clear hb
      go_enter Try.func5, Try.ntmps5
      go_wp2_with fail
      refine (Ln.body_at HBB.out HN.out l0 HB.out (by omega)).mono ?_
      rintro e w3 ⟨rfl, hw⟩
      obtain rfl : w = w3 := hw.symm
      go_wp2_with fail
      refine (Ln.ansS (Ln.Keep.refl _ w) HM.out).mono ?_
      rintro e w4 ⟨rfl, hS4, _⟩
      have HS4 := Lib.hid hS4
      clear hS4
      go_wp2
      go_ret
      exact ⟨rfl, HS4.out.below⟩
    | true =>
      have HBB := Lib.hid hb
      have hbody := Ln.bodyB_body hb
      obtain ⟨L, hL⟩ : ∃ L, L = Ln.linesOf x0 := ⟨_, rfl⟩
      rw [← hL] at hbody
      have HJ : Hid (x0 = Ln.joinL L) := Lib.hid hbody.2
      have HCl : Hid (∀ l ∈ L, Ln.clean l) := Lib.hid hbody.1
      have hlt : ∀ l ∈ L, ∀ c ∈ l, c < 256 := by rw [hL]; exact Ln.lines_lt HB.out.1
      have HLt := Lib.hid hlt
      have hsz : (Ln.stuffM L).length ≤ 6003 := by
        have h1 := Ln.stuffs_count L
        rw [← hbody.2] at h1
        have := HN.out
        simp only [Ln.stuffM, List.length_append, List.length_cons, List.length_nil]
        omega
      have HL := Lib.hid hL
      clear hb hL hbody hlt
      go_enter Try.func5, Try.ntmps5
      go_wp2_with fail
      refine (Ln.body_at HBB.out HN.out l0 HB.out (by omega)).mono ?_
      rintro e w3 ⟨rfl, hw⟩
      obtain rfl : w = w3 := hw.symm
      go_wp2_with fail
      refine (Ln.stuff_good HBB.out (Ln.Keep.refl _ w) HM.out HN.out l0 HB.out (by omega)).mono ?_
      rw [← HL.out]
      rintro e w1 ⟨rfl, hS1, hk1⟩
      obtain ⟨cap, w2, hcap, hcv, hB2, hk2⟩ := Ln.conv_own (Ln.str (Ln.stuffM L)) w1
      rw [Ln.ns_str (Ln.stuffM_lt HLt.out)] at hB2
      rw [Ln.str_size] at hcv hcap
      obtain ⟨q, hq⟩ : ∃ q, q = w1.heap.size := ⟨_, rfl⟩
      obtain ⟨M, hM⟩ : ∃ M, M = (Ln.stuffM L).length := ⟨_, rfl⟩
      rw [← hq, ← hM] at hcv
      rw [← hM] at hcap
      rw [← hq] at hB2
      have HS2 := Lib.hid (hS1.quiet hk2)
      have HW : Hid (Ln.Wait L w2 (some ⟨q, 0, none⟩) M cap 0) := Lib.hid ⟨hM, hcap, hB2.mono (fun _ _ _ => trivial)⟩
      have HZ : Hid ((Ln.stuffM L).length ≤ 6003) := Lib.hid hsz
      clear hS1 hk1 hk2 hB2 hM hsz hcap hq
      go_wp2
      go_loopw [5, 6] (fun u v wr => ∃ (k M : Nat) (y : Option Addr) (C : Nat), u = .slice y M C ∧ v = .string (Ln.str (Ln.joinL (L.take k))) ∧ Hid (Ln.Wait L w2 y M C k) ∧ Hid (Ln.Keep (fun _ => False) w2 wr)) (fun u _ _ => Ln.slen u)
      case atStart => exact ⟨0, M, _, cap, rfl, rfl, HW, Ln.Keep.refl _ _⟩
      case round =>
        obtain ⟨k, M', y, C, rfl, rfl, HW1, HK1⟩ := hrel
        have hM := HW1.out.small HZ.out
        have hz1 : (Ln.str (Ln.joinL (L.take k))).size ≤ 2000 := by
          rw [Ln.str_size]
          have h1 := Ln.joinL_take L k
          rw [← HJ.out] at h1
          have := HN.out
          omega
        by_cases hkL : k < L.length
        · obtain ⟨j, y', C', hj0, hjM, hW2, s1, s2, hcall⟩ := HW1.out.text HCl.out hkL HK1.out hM
          have hlt := HLt.out _ (Ln.getD_mem hkL)
          have htc2 := Ln.text_count hkL
          rw [← HJ.out, ← HN.out] at htc2
          have hnx := Ln.joinL_next hkL
          obtain ⟨l, hl'⟩ : ∃ l, l = L.getD k [] := ⟨_, rfl⟩
          rw [← hl'] at hlt htc2 hnx hcall
          have hz2 : (Ln.str l).size ≤ 2000 := by rw [Ln.str_size]; omega
          have HW2 := Lib.hid hW2
          have HX := Lib.hid hcall
          have HLTT := Lib.hid hlt
          have HNX := Lib.hid hnx
          have hj' : ¬ ((j : Int) = 0) := by omega
          clear hW2 hcall hlt hnx hl' hkL
          go_wp2_with fail
          refine HX.out.mono ?_
          rintro e w3 ⟨rfl, hw⟩
          obtain rfl : wr = w3 := hw.symm
          go_wp2_with fail
          refine (Ln.unstuff_text HLTT.out wr (by omega)).mono ?_
          rintro e w4 ⟨rfl, hk4⟩
          have HK4 := Lib.hid (HK1.out.trans hk4 (fun _ _ h => h))
          clear hk4
          go_wp2
          go_roundw
          case rel => exact ⟨k + 1, M' - j, y', C', rfl, by rw [HNX.out, Ln.str_append, Ln.str_10], HW2, HK4⟩
          case measure => simp [Ln.slen]; omega
        · obtain ⟨y', C', h3, s1, s2, hcall⟩ := HW1.out.last (by omega) HK1.out
          have hkt : L.take k = L := List.take_of_length_le (by omega)
          rw [hkt, ← HJ.out]
          subst h3
          have HX := Lib.hid hcall
          clear hcall hkt
          go_wp2_with fail
          refine HX.out.mono ?_
          rintro e w3 ⟨rfl, hw⟩
          obtain rfl : wr = w3 := hw.symm
          go_wp2_with fail
          refine (Ln.unstuff_end wr).mono ?_
          rintro e w4 ⟨rfl, hk4⟩
          have HS4 := Lib.hid (HS2.out.quiet (HK1.out.trans hk4 (fun _ _ h => h)))
          clear hk4
          go_wp2_with fail
          refine (Ln.ansS HS4.out HM.out).mono ?_
          rintro e w5 ⟨rfl, hS5, hk5⟩
          have hcv5 := Ln.run_str (hS5.bytes HB.out) n cap0 HN.out.symm
          have HS5 := Lib.hid hS5
          clear hS5 hk5
          go_wp2
          go_ret
          exact ⟨rfl, HS5.out.below⟩

/-! ### The row's step -/
set_option maxRecDepth 100000 in
theorem lifted (os : Os) (started : os.Started) (H : Type) (enc : TypeId × Value → H) :
    ReturnsInHanded {} Try.checked os 5 .any (Rows.dotsBackSpec.pre6 enc Try.prog Try.f5 Rows.dotsBackRow.domain false) (Rows.dotsBackSpec.post enc Try.prog Try.f5 false true false false) := by
  refine returnsInHanded_of_change_shaped (C := Try.checked) own started (by kernel_rfl) Try.func5
    (ChangeSpec.witness6 (enc := enc) (C := Try.checked) false ⟨#[], #[.slice none 0 0], []⟩ 8 (by kernel_rfl) (by kernel_rfl) (by kernel_rfl) (by kernel_rfl)) ?_
  intro W base args ds gs before hval0 hW hcnd hsz hsh _
  have hval : ∀ (j : Nat) t v, Try.f5.params[j]? = some t → args[j]? = some v → Value.okWide Try.prog W .any base t v := hval0
  have hW' := hW
  obtain ⟨p, q, hA0, hV, rfl, hfz, hnd⟩ := hW
  have hA : DataW.TrodAll enc Try.prog W 0 (fun _ => true) true Try.f5.params.toList args.toList ds p := hA0
  rw [Try.params5] at hA hval hsz
  obtain ⟨v0, vs0, d0, ds0, p0, q0, hargs, rfl, rfl, h0, r0⟩ := trodAll_cons hA
  obtain ⟨rfl, rfl, rfl⟩ := trodAll_nil r0
  obtain rfl : args = #[v0] := by cases args; simp_all
  obtain ⟨rfl, rfl⟩ := trodVars_none hV
  obtain ⟨a0, len0, cap0, rfl⟩ := okWide_slice Try.underlying22 (hval 0 22 v0 rfl rfl)
  have k0 := h0
  have lt0 : ∀ x ∈ p0, x.block < W.heap.size := by obtain ⟨m, hm⟩ := k0; exact DataW.trod_lt m _ _ _ hm
  obtain ⟨b0, x0, c0, e0, l0, _, B0, m0⟩ : ∃ a bs cap, Value.slice a0 len0 cap0 = .slice a bs.length cap ∧ bs.length ≤ cap ∧ cap ≤ 9223372036854775807 ∧ Ln.Bytes (fun k => k < W.heap.size) W a bs ∧ ((∀ n ∈ d0.weights Try.prog 22, n ≤ reachBytes) → cap ≤ 140737488351232) := by
    obtain ⟨fuel, hf⟩ := h0
    exact Ln.arg_bytes hf
  have hs0 : ∀ n ∈ d0.weights Try.prog 22, n ≤ reachBytes := fun n hn => by
    have := List.all_eq_true.1 hsz n (DataW.weights_mem_each (j := 0) rfl rfl n hn)
    simpa using this
  injection e0 with e0 f0 g0
  subst e0 f0 g0
  clear hA0 hval0
  refine (walk a0 x0 cap0 W l0 (m0 hs0) B0 (Ln.maxLen_some W hsh)).mono fun e W' ⟨he, bel⟩ => ?_
  subst he
  exact ⟨_, rfl, _, _, _, [], _, [], hW', trodAll_mk1 (shut_bool Try.underlying4 _), (trodAll_cons_mk (Below.trod laidOut (by kernel_rfl) (of_decide_eq_true (by kernel_rfl)) k0 bel lt0) trodAll_mk0), rfl, bel.frame _, fun h => by cases h⟩

theorem over : Rows.dotsBackRow.holds Try.pinned (OpenSpec.ofChange Rows.dotsBackSpec) :=
  OpenClaim.holds_of_wide 5 Try.f5 rfl rfl rfl rfl rfl rfl rfl ⟨rfl, rfl, rfl, rfl, rfl⟩ rfl rfl rfl rfl rfl (by kernel_rfl) Try.func5 (by kernel_rfl)
    (of_decide_eq_true (by kernel_rfl)) (by unfold Func.isWrapper; first | (rw [if_pos (by decide +kernel)]; kernel_rfl) | (rw [if_neg (by decide +kernel)]; exact ⟨rfl, rfl⟩))
    (fun os started H enc _ => lifted os started H enc)

/-- The statement. -/
theorem proved : Rows.DotsBackSaid := over
#print axioms proved
end Go.Proofs.Ytgocmapnnbpceaa.dotsBack
