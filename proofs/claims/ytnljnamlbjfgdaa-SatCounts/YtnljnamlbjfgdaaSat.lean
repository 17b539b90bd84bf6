/-
  What each function of layer 1 (and the document's own answer for it) returns, for all numbers: one contract a function. No condition beyond that an argument is a number.
-/
import Derived.Test.YtnljnamlbjfgdaaRows
import Derived.Test.YtnljnamlbjfgdaaMath
import Derived.WalkKit
namespace Go.Proofs.Ytnljnamlbjfgdaa.Sat
open Go.RowKit

set_option maxHeartbeats 400000 in
theorem clamp (n : Int) (w : World) :
    Calls Try.prog 9 #[.int .i64 n] w fun e w' => e = .returned (.int .i64 (cl n)) ∧ w = w' := by
  by_cases h1 : n < 0
  · rw [cl_neg h1]
    go_enter Try.func9, Try.ntmps9
    go_wp2
    go_ret
    exact ⟨rfl, rfl⟩
  · by_cases h2 : 1099511627776 < n
    · rw [cl_big h2]
      go_enter Try.func9, Try.ntmps9
      go_wp2
      go_ret
      exact ⟨rfl, rfl⟩
    · rw [cl_in (by omega) (by omega)]
      go_enter Try.func9, Try.ntmps9
      go_wp2
      go_ret
      exact ⟨rfl, rfl⟩

set_option maxHeartbeats 400000 in
theorem refClamp (n : Int) (w : World) :
    Calls Try.prog 7 #[.int .i64 n] w fun e w' => e = .returned (.int .i64 (cl n)) ∧ w = w' := by
  by_cases h1 : n < 0
  · rw [cl_neg h1]
    go_enter Try.func7, Try.ntmps7
    go_wp2
    go_ret
    exact ⟨rfl, rfl⟩
  · by_cases h2 : 1099511627776 < n
    · rw [cl_big h2]
      go_enter Try.func7, Try.ntmps7
      go_wp2
      go_ret
      exact ⟨rfl, rfl⟩
    · rw [cl_in (by omega) (by omega)]
      go_enter Try.func7, Try.ntmps7
      go_wp2
      go_ret
      exact ⟨rfl, rfl⟩

set_option maxHeartbeats 400000 in
theorem add (a b : Int) (w : World) :
    Calls Try.prog 10 #[.int .i64 a, .int .i64 b] w fun e w' => e = .returned (.int .i64 (ad a b)) ∧ w = w' := by
  unfold ad
  have a0 := cl_lo a; have a1 := cl_hi a
  have b0 := cl_lo b; have b1 := cl_hi b
  go_enter Try.func10, Try.ntmps10
  go_wp2_with (go_at_call 9; refine (clamp _ _).mono ?_; rintro e w' ⟨rfl, rfl⟩)
  go_ret
  exact ⟨rfl, rfl⟩

set_option maxHeartbeats 400000 in
theorem sub (a b : Int) (w : World) :
    Calls Try.prog 11 #[.int .i64 a, .int .i64 b] w fun e w' => e = .returned (.int .i64 (su a b)) ∧ w = w' := by
  unfold su
  have a0 := cl_lo a; have a1 := cl_hi a
  have b0 := cl_lo b; have b1 := cl_hi b
  go_enter Try.func11, Try.ntmps11
  go_wp2_with (go_at_call 9; refine (clamp _ _).mono ?_; rintro e w' ⟨rfl, rfl⟩)
  go_ret
  exact ⟨rfl, rfl⟩

set_option maxHeartbeats 400000 in
theorem mul (a b : Int) (w : World) :
    Calls Try.prog 12 #[.int .i64 a, .int .i64 b] w fun e w' => e = .returned (.int .i64 (mu a b)) ∧ w = w' := by
  unfold mu
  have a0 := cl_lo a; have a1 := cl_hi a
  have b0 := cl_lo b; have b1 := cl_hi b
  by_cases hz : 0 < cl b
  · by_cases hg : 1099511627776 / cl b < cl a
    · have hm := mul_great hg hz
      rw [cl_big hm]
      clear hm
      go_enter Try.func12, Try.ntmps12
      go_wp2_with (go_at_call 9; refine (clamp _ _).mono ?_; rintro e w' ⟨rfl, rfl⟩)
      go_ret
      exact ⟨rfl, rfl⟩
    · obtain ⟨m0, m1⟩ := mul_small (x := cl a) (y := cl b) (by omega) a0 hz
      rw [cl_in m0 m1]
      go_enter Try.func12, Try.ntmps12
      go_wp2_with (go_at_call 9; refine (clamp _ _).mono ?_; rintro e w' ⟨rfl, rfl⟩)
      go_ret
      exact ⟨rfl, rfl⟩
  · have hb : cl b = 0 := by omega
    have hm : cl (cl a * cl b) = cl a * cl b := by rw [hb]; simp; exact cl_in (by omega) (by omega)
    have m0 : 0 ≤ cl a * cl b := by rw [hb]; simp
    have m1 : cl a * cl b ≤ 1099511627776 := by rw [hb]; simp
    rw [hm]
    clear hb hm
    go_enter Try.func12, Try.ntmps12
    go_wp2_with (go_at_call 9; refine (clamp _ _).mono ?_; rintro e w' ⟨rfl, rfl⟩)
    go_ret
    exact ⟨rfl, rfl⟩

end Go.Proofs.Ytnljnamlbjfgdaa.Sat
