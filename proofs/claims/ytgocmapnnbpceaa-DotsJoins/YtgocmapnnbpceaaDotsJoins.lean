/-
  Proved here: of every two slices of bytes (of more than 1,000 together, and where one is no body, only the laws' own example is asked) the one behind the other is a body, and its texts are those of both, one behind the other. Conditions: none.
-/
import Derived.Test.YtgocmapnnbpceaaRows
import Derived.Test.YtgocmapnnbpceaaBak
import Derived.Lib.Hide
import Derived.BigQuiet
import Derived.WalkKit
import Derived.ProofKit
import Derived.OpenShut
import Derived.ShutString
import Derived.ChangeOld
import Derived.Below
import Derived.HandedShaped
namespace Go.Proofs.Ytgocmapnnbpceaa.dotsJoins
open Go.ChangeShapes Go.WideShapes Go.ChangeAt Go.RowKit
set_option linter.unusedVariables false

theorem own : ownKnob Try.prog.godebug = none := by kernel_rfl
theorem laidOut : laidOutB Try.prog = true := by kernel_rfl

/-! ### The walk -/
set_option maxHeartbeats 4000000 in
set_option maxRecDepth 100000 in
theorem walk (a0 : Option Addr) (x0 : List Nat) (cap0 : Nat) (a1 : Option Addr) (x1 : List Nat) (cap1 : Nat) (w : World) (l0 : x0.length ≤ cap0) (m0 : cap0 ≤ 140737488351232) (B0 : Ln.Bytes (fun k => k < w.heap.size) w a0 x0) (l1 : x1.length ≤ cap1) (m1 : cap1 ≤ 140737488351232) (B1 : Ln.Bytes (fun k => k < w.heap.size) w a1 x1) (hm : Ln.Hm w) :
    Calls Try.prog 6 #[.slice a0 x0.length cap0, .slice a1 x1.length cap1] w fun e w' => e = .returned (.bool true) ∧ Below w.heap.size w w' := by
  obtain ⟨n0, hn0⟩ : ∃ n, n = x0.length := ⟨_, rfl⟩
  obtain ⟨n1, hn1⟩ : ∃ n, n = x1.length := ⟨_, rfl⟩
  rw [← hn0] at l0 ⊢
  rw [← hn1] at l1 ⊢
  have HM := Lib.hid hm
  have HB0 := Lib.hid B0
  have HB1 := Lib.hid B1
  have HN0 := Lib.hid hn0
  have HN1 := Lib.hid hn1
  have hz0 : n0 ≤ 140737488351232 := by omega
  have hz1 : n1 ≤ 140737488351232 := by omega
  clear hm B0 B1 hn0 hn1
  by_cases hbig : (1000 : Int) < (n0 : Int) + (n1 : Int)
  · go_enter Try.func6, Try.ntmps6
    go_wp2_with fail
    refine (Ln.ansS (Ln.Keep.refl _ w) HM.out).mono ?_
    rintro e w1 ⟨rfl, hS, _⟩
    go_wp2
    go_ret
    exact ⟨rfl, hS.below⟩
  · cases hb0 : Ln.bodyB x0 with
    | false =>
      have HBB0 := Lib.hid hb0
      clear hb0
      go_enter Try.func6, Try.ntmps6
      go_wp2_with fail
      refine (Ln.body_at HBB0.out HN0.out l0 HB0.out (by omega)).mono ?_
      rintro e w3 ⟨rfl, hw⟩
      obtain rfl : w = w3 := hw.symm
      go_wp2_with fail
      refine (Ln.ansS (Ln.Keep.refl _ w) HM.out).mono ?_
      rintro e w4 ⟨rfl, hS4, _⟩
      have HS4 := Lib.hid hS4
      clear hS4
      go_wp2
      go_ret
      exact ⟨rfl, HS4.out.below⟩
    | true =>
      cases hb1 : Ln.bodyB x1 with
      | false =>
        have HBB0 := Lib.hid hb0
        have HBB1 := Lib.hid hb1
        clear hb0 hb1
        go_enter Try.func6, Try.ntmps6
        go_wp2_with fail
        refine (Ln.body_at HBB0.out HN0.out l0 HB0.out (by omega)).mono ?_
        rintro e w3 ⟨rfl, hw⟩
        obtain rfl : w = w3 := hw.symm
        go_wp2_with fail
        refine (Ln.body_at HBB1.out HN1.out l1 HB1.out (by omega)).mono ?_
        rintro e w3 ⟨rfl, hw⟩
        obtain rfl : w = w3 := hw.symm
        go_wp2_with fail
        refine (Ln.ansS (Ln.Keep.refl _ w) HM.out).mono ?_
        rintro e w4 ⟨rfl, hS4, _⟩
        have HS4 := Lib.hid hS4
        clear hS4
        go_wp2
        go_ret
        exact ⟨rfl, HS4.out.below⟩
      | true =>
        have hbody := Ln.body_append (Ln.bodyB_body hb0) (Ln.bodyB_body hb1)
        have hbc := Ln.body_bodyB hbody
        have hlc := Ln.body_lines hbody
        have hc0 := Ln.lines_count hb0
        have hc1 := Ln.lines_count hb1
        obtain ⟨A, hA⟩ : ∃ L, L = Ln.linesOf x0 := ⟨_, rfl⟩
        obtain ⟨B, hB⟩ : ∃ L, L = Ln.linesOf x1 := ⟨_, rfl⟩
        obtain ⟨NA, hNA⟩ : ∃ N, N = A.length := ⟨_, rfl⟩
        obtain ⟨NB, hNB⟩ : ∃ N, N = B.length := ⟨_, rfl⟩
        rw [← hA, ← hB] at hlc
        rw [← hA, ← hNA, ← HN0.out] at hc0
        rw [← hB, ← hNB, ← HN1.out] at hc1
        have HA := Lib.hid hA
        have HB := Lib.hid hB
        have HNA := Lib.hid hNA
        have HNB := Lib.hid hNB
        have HBB0 := Lib.hid hb0
        have HBB1 := Lib.hid hb1
        have HBC := Lib.hid hbc
        have HLC := Lib.hid hlc
        clear hb0 hb1 hbc hlc hA hB hNA hNB hbody
        go_enter Try.func6, Try.ntmps6
        go_wp2_with fail
        refine (Ln.body_at HBB0.out HN0.out l0 HB0.out (by omega)).mono ?_
        rintro e w3 ⟨rfl, hw⟩
        obtain rfl : w = w3 := hw.symm
        go_wp2_with fail
        refine (Ln.body_at HBB1.out HN1.out l1 HB1.out (by omega)).mono ?_
        rintro e w3 ⟨rfl, hw⟩
        obtain rfl : w = w3 := hw.symm
        go_wp2_with fail
        refine (Ln.lines_good HBB0.out (Ln.Keep.refl _ w) HM.out HN0.out l0 HB0.out (by omega)).mono ?_
        rw [← HA.out, ← HNA.out]
        rintro e w1 ⟨⟨ax, ac, rfl, hac, hTA⟩, hS1, hk1⟩
        have HS1 := Lib.hid hS1
        have HTA := Lib.hid hTA
        have HB11 := Lib.hid (HB1.out.quiet hk1)
        clear hS1 hTA hk1
        go_wp2_with fail
        refine (Ln.lines_good HBB1.out HS1.out HM.out HN1.out l1 HB11.out (by omega)).mono ?_
        rw [← HB.out, ← HNB.out]
        rintro e w2 ⟨⟨bx, bc, rfl, hbc, hTB⟩, hS2, hk2⟩
        have HS2 := Lib.hid hS2
        have HTB := Lib.hid hTB
        have HTA2 := Lib.hid (HTA.out.quiet hk2)
        clear hS2 hTB hk2
        have HB02 := Lib.hid (HS2.out.bytes HB0.out)
        have HB12 := Lib.hid (HS2.out.bytes HB1.out)
        go_wp2_with (first
          | (refine Ln.wpList_append_mid (by rfl) _ _ (by rfl) (.slice (some ⟨w2.heap.size, 0, none⟩) 0 0) none [] (by rfl) (Ln.Mid.empty _ _) _ a0 n0 cap0 x0 (by rfl) HN0.out.symm (HB02.out.quiet ((Ln.Keep.refl _ _).alloc _)) (by simp; omega) ?_
             intro y1 k1 c1 q1 w3 hM3 hK3 hN3
             have hK3' := Ln.Keep.trans (S := fun _ => False) ((Ln.Keep.refl _ w2).alloc _) hK3 (fun i _ h => by cases h)
             have HN3 := Lib.hid hN3
             have HM3 := Lib.hid hM3
             have HK3 := Lib.hid hK3'
             clear hM3 hK3 hN3 hK3')
          | (refine Ln.wpList_append_mid (by rfl) _ _ (by rfl) (.slice y1 k1 c1) q1 ([] ++ x0) (by rfl) HM3.out _ a1 n1 cap1 x1 (by rfl) HN1.out.symm (HB12.out.quiet HK3.out) (by have := HN0.out; simp; omega) ?_
             intro y2 k2 c2 q2 w4 hM4 hK4 hN4
             have hK4' := HK3.out.trans hK4 (fun i hi h => by
               rcases HN3.out i h with h | h
               · cases h
               · have : (w2.alloc (.cells #[] 5)).heap.size = w2.heap.size + 1 := by simp
                 omega)
             simp only [List.nil_append] at hM4
             have HM4 := Lib.hid hM4
             have HK4 := Lib.hid hK4'
             have HS4 := Lib.hid (HS2.out.quiet hK4')
             clear hM4 hK4 hN4 hK4')
          | (refine (Ln.lines_good HBC.out HS4.out HM.out HM4.out.len HM4.out.cap_le HM4.out.bytes (by have := HM4.out.len; have := HN0.out; have := HN1.out; simp at *; omega)).mono ?_))
        have hlen : (Ln.linesOf (x0 ++ x1)).length = NA + NB := by rw [HLC.out, List.length_append, ← HNA.out, ← HNB.out]
        rw [hlen, HLC.out]
        rintro e w5 ⟨⟨zx, zc, rfl, hzc, hTZ⟩, hS5, hk5⟩
        have HK5 := Lib.hid (HK4.out.trans hk5 (fun _ _ h => h))
        have HTZ := Lib.hid hTZ
        have HS5 := Lib.hid hS5
        clear hTZ hS5 hk5 hlen
        have HTA5 := Lib.hid (HTA2.out.quiet HK5.out)
        have HTB5 := Lib.hid (HTB.out.quiet HK5.out)
        clear HTA2 HTB
        go_wp2
        go_loopw [11] (fun z wr => ∃ k : Nat, k ≤ NA + NB ∧ z = .int .i64 (k : Int) ∧ Hid (Ln.Keep (fun _ => False) w5 wr)) (fun z _ => NA + NB - (intOf z).toNat)
        case atStart => exact ⟨0, Nat.zero_le _, rfl, Ln.Keep.refl _ _⟩
        case round =>
          obtain ⟨k, hk, rfl, HK6⟩ := hrel
          by_cases h0 : (k : Int) < (NA : Int) + (NB : Int)
          · obtain ⟨gz, rfl, cz⟩ := (HTZ.out.quiet HK6.out).cell k (by have := HNA.out; have := HNB.out; simp; omega)
            by_cases hA : (k : Int) < (NA : Int)
            · obtain ⟨ga, rfl, ca⟩ := (HTA5.out.quiet HK6.out).cell k (by have := HNA.out; omega)
              have he : (A ++ B).getD k [] = A.getD k [] := by have := HNA.out; simp [List.getElem?_append_left (show k < A.length by omega)]
              rw [he] at cz
              obtain ⟨T, hT⟩ : ∃ T, T = Ln.str (A.getD k []) := ⟨_, rfl⟩
              rw [← hT] at cz ca
              have hd1 : decide ((k : Int) < (NA : Int)) = true := decide_eq_true hA
              have hd2 : decide (NA ≤ k) = false := decide_eq_false (by omega)
              clear he hT
              go_wp2_with fail
              go_big_quiet (fail)
              have HK7 : Hid (Ln.Keep (fun _ => False) w5 (wr.drewN nq)) := Lib.hid (HK6.out.drewN nq)
              go_wp2
              go_roundw
              case rel => exact ⟨k + 1, by omega, by go_num, HK7.out⟩
              case measure => simp [intOf]; omega
            · obtain ⟨j, hj⟩ : ∃ j : Nat, k = NA + j := ⟨k - NA, by omega⟩
              obtain ⟨gb, rfl, cb⟩ := (HTB5.out.quiet HK6.out).cell j (by have := HNB.out; omega)
              have he : (A ++ B).getD k [] = B.getD j [] := by
                have e := HNA.out
                rw [hj, e, List.getD_eq_getElem?_getD, List.getD_eq_getElem?_getD, List.getElem?_append_right (by omega), Nat.add_sub_cancel_left]
              rw [he] at cz
              obtain ⟨T, hT⟩ : ∃ T, T = Ln.str (B.getD j []) := ⟨_, rfl⟩
              rw [← hT] at cz cb
              have hd1 : decide ((k : Int) < (NA : Int)) = false := decide_eq_false hA
              have hd1' : decide (k < NA) = false := decide_eq_false (by omega)
              have hd2 : decide ((NA : Int) ≤ (k : Int)) = true := decide_eq_true (by omega)
              have hd2' : decide (NA ≤ k) = true := decide_eq_true (by omega)
              have hkj : (k : Int) - (NA : Int) = (j : Int) := by omega
              clear he hT hj
              go_wp2_with fail
              go_big_quiet (fail)
              have HK7 : Hid (Ln.Keep (fun _ => False) w5 (wr.drewN nq)) := Lib.hid (HK6.out.drewN nq)
              go_wp2
              go_roundw
              case rel => exact ⟨k + 1, by omega, by go_num, HK7.out⟩
              case measure => simp [intOf]; omega
          · go_wp2_with fail
            refine (Ln.ansS (HS5.out.quiet HK6.out) HM.out).mono ?_
            rintro e w7 ⟨rfl, hS7, _⟩
            have HS7 := Lib.hid hS7
            clear hS7
            go_wp2
            go_ret
            exact ⟨rfl, HS7.out.below⟩

/-! ### The row's step -/
set_option maxRecDepth 100000 in
theorem lifted (os : Os) (started : os.Started) (H : Type) (enc : TypeId × Value → H) :
    ReturnsInHanded {} Try.checked os 6 .any (Rows.dotsJoinsSpec.pre6 enc Try.prog Try.f6 Rows.dotsJoinsRow.domain false) (Rows.dotsJoinsSpec.post enc Try.prog Try.f6 false true false false) := by
  refine returnsInHanded_of_change_shaped (C := Try.checked) own started (by kernel_rfl) Try.func6
    (ChangeSpec.witness6 (enc := enc) (C := Try.checked) false ⟨#[], #[.slice none 0 0, .slice none 0 0], []⟩ 8 (by kernel_rfl) (by kernel_rfl) (by kernel_rfl) (by kernel_rfl)) ?_
  intro W base args ds gs before hval0 hW hcnd hsz hsh _
  have hval : ∀ (j : Nat) t v, Try.f6.params[j]? = some t → args[j]? = some v → Value.okWide Try.prog W .any base t v := hval0
  have hW' := hW
  obtain ⟨p, q, hA0, hV, rfl, hfz, hnd⟩ := hW
  have hA : DataW.TrodAll enc Try.prog W 0 (fun _ => true) true Try.f6.params.toList args.toList ds p := hA0
  rw [Try.params6] at hA hval hsz
  obtain ⟨v0, vs0, d0, ds0, p0, q0, hargs, rfl, rfl, h0, r0⟩ := trodAll_cons hA
  obtain ⟨v1, vs1, d1, ds1, p1, q1, rfl, rfl, rfl, h1, r1⟩ := trodAll_cons r0
  obtain ⟨rfl, rfl, rfl⟩ := trodAll_nil r1
  obtain rfl : args = #[v0, v1] := by cases args; simp_all
  obtain ⟨rfl, rfl⟩ := trodVars_none hV
  obtain ⟨a0, len0, cap0, rfl⟩ := okWide_slice Try.underlying22 (hval 0 22 v0 rfl rfl)
  have k0 := h0
  have lt0 : ∀ x ∈ p0, x.block < W.heap.size := by obtain ⟨m, hm⟩ := k0; exact DataW.trod_lt m _ _ _ hm
  obtain ⟨b0, x0, c0, e0, l0, _, B0, m0⟩ : ∃ a bs cap, Value.slice a0 len0 cap0 = .slice a bs.length cap ∧ bs.length ≤ cap ∧ cap ≤ 9223372036854775807 ∧ Ln.Bytes (fun k => k < W.heap.size) W a bs ∧ ((∀ n ∈ d0.weights Try.prog 22, n ≤ reachBytes) → cap ≤ 140737488351232) := by
    obtain ⟨fuel, hf⟩ := h0
    exact Ln.arg_bytes hf
  have hs0 : ∀ n ∈ d0.weights Try.prog 22, n ≤ reachBytes := fun n hn => by
    have := List.all_eq_true.1 hsz n (DataW.weights_mem_each (j := 0) rfl rfl n hn)
    simpa using this
  injection e0 with e0 f0 g0
  subst e0 f0 g0
  obtain ⟨a1, len1, cap1, rfl⟩ := okWide_slice Try.underlying22 (hval 1 22 v1 rfl rfl)
  have k1 := h1
  have lt1 : ∀ x ∈ p1, x.block < W.heap.size := by obtain ⟨m, hm⟩ := k1; exact DataW.trod_lt m _ _ _ hm
  obtain ⟨b1, x1, c1, e1, l1, _, B1, m1⟩ : ∃ a bs cap, Value.slice a1 len1 cap1 = .slice a bs.length cap ∧ bs.length ≤ cap ∧ cap ≤ 9223372036854775807 ∧ Ln.Bytes (fun k => k < W.heap.size) W a bs ∧ ((∀ n ∈ d1.weights Try.prog 22, n ≤ reachBytes) → cap ≤ 140737488351232) := by
    obtain ⟨fuel, hf⟩ := h1
    exact Ln.arg_bytes hf
  have hs1 : ∀ n ∈ d1.weights Try.prog 22, n ≤ reachBytes := fun n hn => by
    have := List.all_eq_true.1 hsz n (DataW.weights_mem_each (j := 1) rfl rfl n hn)
    simpa using this
  injection e1 with e1 f1 g1
  subst e1 f1 g1
  clear hA0 hval0
  refine (walk a0 x0 cap0 a1 x1 cap1 W l0 (m0 hs0) B0 l1 (m1 hs1) B1 (Ln.maxLen_some W hsh)).mono fun e W' ⟨he, bel⟩ => ?_
  subst he
  exact ⟨_, rfl, _, _, _, [], _, [], hW', trodAll_mk1 (shut_bool Try.underlying4 _), (trodAll_cons_mk (Below.trod laidOut (by kernel_rfl) (of_decide_eq_true (by kernel_rfl)) k0 bel lt0) (trodAll_cons_mk (Below.trod laidOut (by kernel_rfl) (of_decide_eq_true (by kernel_rfl)) k1 bel lt1) trodAll_mk0)), rfl, bel.frame _, fun h => by cases h⟩

theorem over : Rows.dotsJoinsRow.holds Try.pinned (OpenSpec.ofChange Rows.dotsJoinsSpec) :=
  OpenClaim.holds_of_wide 6 Try.f6 rfl rfl rfl rfl rfl rfl rfl ⟨rfl, rfl, rfl, rfl, rfl⟩ rfl rfl rfl rfl rfl (by kernel_rfl) Try.func6 (by kernel_rfl)
    (of_decide_eq_true (by kernel_rfl)) (by unfold Func.isWrapper; first | (rw [if_pos (by decide +kernel)]; kernel_rfl) | (rw [if_neg (by decide +kernel)]; exact ⟨rfl, rfl⟩))
    (fun os started H enc _ => lifted os started H enc)

/-- The statement. -/
theorem proved : Rows.DotsJoinsSaid := over
#print axioms proved
end Go.Proofs.Ytgocmapnnbpceaa.dotsJoins
