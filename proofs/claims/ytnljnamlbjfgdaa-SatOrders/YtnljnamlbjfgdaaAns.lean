/-
  What the laws' own helper 'answers' returns (true), and what the document's product 'by adding doubles' returns (the clamped product), for all numbers. No condition.
-/
import Derived.Test.YtnljnamlbjfgdaaSat
import Derived.LoopTactic
import Derived.Lib.Hide
namespace Go.Proofs.Ytnljnamlbjfgdaa.Sat
open Go.RowKit

theorem ret_int {k : IntKind} {a b : Int} (h : a = b) : Ending.returned (.int k a) = .returned (.int k b) := by rw [h]

set_option maxHeartbeats 400000 in
theorem answers (w : World) :
    Calls Try.prog 8 #[] w fun e w' => e = .returned (.bool true) ∧ w = w' := by
  have e1 : (ad 1099511627776 1 == 1099511627776) = true := by decide
  have e2 : (su 5 3 == 2) = true := by decide
  have e3 : (mu 6 7 == 42) = true := by decide
  have e4 : (cl (-1) == 0) = true := by decide
  go_enter Try.func8, Try.ntmps8
  go_wp2_with (first
    | (go_at_call 10; refine (add _ _ _).mono ?_; rintro e w' ⟨rfl, rfl⟩)
    | (go_at_call 11; refine (sub _ _ _).mono ?_; rintro e w' ⟨rfl, rfl⟩)
    | (go_at_call 12; refine (mul _ _ _).mono ?_; rintro e w' ⟨rfl, rfl⟩)
    | (go_at_call 9; refine (clamp _ _).mono ?_; rintro e w' ⟨rfl, rfl⟩))
  go_ret
  exact ⟨rfl, rfl⟩

set_option maxHeartbeats 400000 in
theorem refMul (a b : Int) (w : World) :
    Calls Try.prog 13 #[.int .i64 a, .int .i64 b] w fun e w' => e = .returned (.int .i64 (mu a b)) ∧ w = w' := by
  have a0 := cl_lo a; have a1 := cl_hi a
  have b0 := cl_lo b; have b1 := cl_hi b
  go_enter Try.func13, Try.ntmps13
  go_wp2_with (go_at_call 7; refine (refClamp _ _).mono ?_; rintro e w' ⟨rfl, rfl⟩)
  go_loop [0, 1, 5] (fun x y o => ∃ p q r : Int, x = .int .i64 p ∧ y = .int .i64 q ∧ o = .int .i64 r ∧ 0 ≤ p ∧ p ≤ 1099511627776 ∧ 0 ≤ q ∧ q ≤ 1099511627776 ∧ 0 ≤ r ∧ r ≤ 1099511627776 ∧ Hid (cl (r + p * q) = mu a b)) (fun _ y _ => (intOf y).toNat)
  case atStart => exact ⟨cl a, cl b, 0, rfl, rfl, rfl, a0, a1, b0, b1, by omega, by omega, by show cl (0 + cl a * cl b) = mu a b; rw [Int.zero_add]; rfl⟩
  case round =>
    obtain ⟨p, q, r, rfl, rfl, rfl, p0, p1, q0, q1, r0, r1, HR⟩ := hrel
    by_cases hq : 0 < q
    · by_cases ho : q % 2 = 1
      · have hb : (q % 2 == 1) = true := by rw [ho]; rfl
        have Ho := Lib.hid ho
        clear ho
        go_wp2_with (go_at_call 7; refine (refClamp _ _).mono ?_; rintro e w' ⟨rfl, rfl⟩)
        go_round
        case rel => exact ⟨cl (p + p), q / 2, cl (r + p), rfl, rfl, rfl, cl_lo _, cl_hi _, by omega, by omega, cl_lo _, cl_hi _, by show cl (cl (r + p) + cl (p + p) * (q / 2)) = mu a b; rw [round_odd r p q r0 p0 hq Ho.out]; exact HR⟩
        case measure => simp [intOf]; omega
      · have he : q % 2 = 0 := by omega
        have hb : (q % 2 == 1) = false := by rw [he]; rfl
        have He := Lib.hid he
        clear he
        go_wp2_with (go_at_call 7; refine (refClamp _ _).mono ?_; rintro e w' ⟨rfl, rfl⟩)
        go_round
        case rel => exact ⟨cl (p + p), q / 2, r, rfl, rfl, rfl, cl_lo _, cl_hi _, by omega, by omega, r0, r1, by show cl (r + cl (p + p) * (q / 2)) = mu a b; rw [round_even r p q r0 p0 hq He.out]; exact HR⟩
        case measure => simp [intOf]; omega
    · have hz : q = 0 := by omega
      have HZ := Lib.hid hz
      clear hz
      go_wp2_with (go_at_call 7; refine (refClamp _ _).mono ?_; rintro e w' ⟨rfl, rfl⟩)
      go_ret
      have hfin : r = mu a b := by
        have := HR.out
        rw [HZ.out, Int.mul_zero, Int.add_zero, cl_in r0 r1] at this
        exact this
      exact ⟨ret_int hfin, rfl⟩

end Go.Proofs.Ytnljnamlbjfgdaa.Sat
