/-
  What the program's 'eightSteps' returns: eight steps of the number, for every number of 32 bits; the world is as it was.
-/
import Derived.Test.YtcplemamcgonkaaRows
import Derived.Test.YtcplemamcgonkaaCMath
import Derived.WalkKit
import Derived.LoopTactic
import Derived.Lib.Hide
import Derived.Laws.BitsAllLaws
namespace Go.Proofs.Ytcplemamcgonkaa.Crc
open Go.RowKit

theorem and_one (m : Nat) (h : m < 4294967296) : bits .and .u32 (m : Int) 1 = ((m % 2 : Nat) : Int) := by
  have := u32_and_nat m 1 h (by omega)
  rw [Nat.and_one_is_mod] at this
  exact this
theorem xor_poly (m : Nat) (h : m < 4294967296) : bits .xor .u32 ((m : Int) / 2) 3988292384 = ((m / 2 ^^^ 3988292384 : Nat) : Int) := by
  have := u32_xor_nat (m / 2) 3988292384 (by omega) (by omega)
  rw [← this]
  rfl
theorem st_odd {m : Nat} (h : m % 2 = 1) : m / 2 ^^^ 3988292384 = st m := by simp [st, h]
theorem st_even {m : Nat} (h : m % 2 = 0) : m / 2 = st m := by simp [st, h]

theorem ret_int {k : IntKind} {a b : Int} (h : a = b) : Ending.returned (.int k a) = .returned (.int k b) := by rw [h]
theorem sts_next {k m n : Nat} (hk : k < 8) (h : sts (8 - k) m = n) : sts (8 - (k + 1)) (st m) = n := by
  rw [← h, show 8 - k = 8 - (k + 1) + 1 by omega]
  rfl

set_option maxHeartbeats 400000 in
theorem eightSteps (n : Nat) (hn : n < 4294967296) (w : World) :
    Calls Try.prog 40 #[.int .u32 (n : Int)] w fun e w' => e = .returned (.int .u32 ((sts 8 n : Nat) : Int)) ∧ w = w' := by
  go_enter Try.func40, Try.ntmps40
  go_wp2
  go_loop [0, 4] (fun x i => ∃ k m : Nat, k ≤ 8 ∧ m < 4294967296 ∧ x = .int .u32 (m : Int) ∧ i = .int .i64 (k : Int) ∧ Hid (sts (8 - k) m = sts 8 n)) (fun _ i => 8 - (intOf i).toNat)
  case atStart => exact ⟨0, n, by omega, hn, rfl, rfl, rfl⟩
  case round =>
    obtain ⟨k, m, hk, hm, rfl, rfl, HR⟩ := hrel
    have h0 : (0 : Int) ≤ (m : Int) := by omega
    have h1 : (m : Int) ≤ 4294967295 := by omega
    by_cases h8 : (k : Int) < 8
    · rcases Nat.mod_two_eq_zero_or_one m with hp | hp
      · have ha : bits .and .u32 (m : Int) 1 = 0 := by rw [and_one m hm, hp]; rfl
        have HP := Lib.hid hp
        clear hp
        go_wp2
        go_round
        case rel =>
          refine ⟨k + 1, m / 2, by omega, by omega, rfl, by go_num, ?_⟩
          show sts (8 - (k + 1)) (m / 2) = sts 8 n
          rw [st_even HP.out]
          exact sts_next (by omega) HR.out
        case measure => simp [intOf]; omega
      · have ha : bits .and .u32 (m : Int) 1 = 1 := by rw [and_one m hm, hp]; rfl
        have hx := xor_poly m hm
        have HP := Lib.hid hp
        clear hp
        go_wp2
        go_round
        case rel =>
          refine ⟨k + 1, m / 2 ^^^ 3988292384, by omega, xor_lt32 (by omega) (by omega), rfl, by go_num, ?_⟩
          show sts (8 - (k + 1)) (m / 2 ^^^ 3988292384) = sts 8 n
          rw [st_odd HP.out]
          exact sts_next (by omega) HR.out
        case measure => simp [intOf]; omega
    · have hk8 : k = 8 := by omega
      have HK := Lib.hid hk8
      clear hk8
      go_wp2
      go_ret
      have hfin : m = sts 8 n := by
        have := HR.out
        rw [HK.out] at this
        exact this
      exact ⟨ret_int (congrArg Int.ofNat hfin), rfl⟩

end Go.Proofs.Ytcplemamcgonkaa.Crc
