/-
  What the document's own answers return: 'May', 'Num', 'Bytes', and the eye's 'Num' and 'Bytes'.
-/
import Derived.Test.YtcplemamcgonkaaWRead
import Derived.IntWalk
namespace Go.Proofs.Ytcplemamcgonkaa.Ln
open Go.RowKit

/-- The eight bytes, of which the last j are laid. -/
def laidU (n j : Nat) : List Nat := (List.range 8).map fun i => if 8 ≤ i + j then dig n i else 0
theorem laidU_all (n : Nat) : laidU n 8 = num8 n := by
  unfold laidU num8
  apply List.map_congr_left
  intro i _
  rw [if_pos (by omega)]
theorem laidU_next (n j I N : Nat) (hj : j < 8) (hI : I = 7 - j) (hN : N = n / 2 ^ (8 * j)) : (cellsOf (laidU n j)).set I (.int .u8 ((N : Int) % 256)) = cellsOf (laidU n (j + 1)) := by
  have hc : (N : Int) % 256 = ((dig n I : Nat) : Int) := by
    have : 7 - I = j := by omega
    rw [dig, this, ← hN]
    rfl
  rw [hc]
  apply List.ext_getElem
  · simp [cellsOf, laidU]
  · intro i h1 h2
    have hi : i < 8 := by simpa [cellsOf, laidU] using h2
    rw [List.getElem_set]
    by_cases e : I = i
    · subst e
      have : 8 ≤ I + (j + 1) := by omega
      simp [cellsOf, laidU, this]
    · have : (8 ≤ i + (j + 1)) ↔ (8 ≤ i + j) := by omega
      simp [cellsOf, laidU, e, this]
theorem laidU_zero (n : Nat) : madeCells #[.int .u8 0] 8 = (cellsOf (laidU n 0)).toArray := by
  apply Array.ext
  · simp [madeCells, cellsOf, laidU]
  · intro i h1 h2
    have hi : i < 8 := by simpa [cellsOf, laidU] using h2
    have h : ¬ 8 ≤ i := by omega
    simp [madeCells, cellsOf, laidU, h]
    rw [Nat.mod_one]
    rfl
theorem laidU_at (n j i : Nat) (hi : i < 8) : (cellsOf (laidU n j)).toArray[i]? = some (.int .u8 ((if 8 ≤ i + j then dig n i else 0 : Nat) : Int)) := by
  simp [cellsOf, laidU, hi]

set_option maxHeartbeats 1000000 in
theorem refNum (n : Nat) (hn : n ≤ 4611686018427387904) (w : World) : Calls Try.prog 24 #[.int .i64 (n : Int)] w (Copy (num8 n) w) := by
  have hmk : ∀ w, (Instr.makeSlice 24 (.int .i64 8) (.int .i64 8)).run Try.prog w = .ok (.slice (some ⟨w.heap.size, 0, none⟩) 8 8) (w.alloc (.cells (cellsOf (laidU n 0)).toArray 5)) := fun w => by
    rw [← laidU_zero]
    exact make_u8 8 (by omega) w
  go_enter Try.func24, Try.ntmps24
  go_wp2
  go_loopw [0, 4] (fun t i wr => ∃ j N : Nat, j ≤ 8 ∧ i = .int .i64 (7 - (j : Int)) ∧ t = .int .i64 (N : Int) ∧ N ≤ 4611686018427387904 ∧ Hid (N = n / 2 ^ (8 * j)) ∧ wr = w.alloc (.cells (cellsOf (laidU n j)).toArray 5)) (fun _ i _ => (intOf i + 1).toNat)
  case atStart => exact ⟨0, n, by omega, rfl, rfl, hn, by show n = n / 2 ^ (8 * 0); simp, rfl⟩
  case round =>
    obtain ⟨j, N, hj, rfl, rfl, hN, HN, rfl⟩ := hrel
    by_cases hlt : j < 8
    · obtain ⟨I, hI⟩ : ∃ I, I = 7 - j := ⟨_, rfl⟩
      have hI2 : 7 - (j : Int) = (I : Int) := by omega
      have hI8 : I < 8 := by omega
      have hat := laidU_at n j I hI8
      have HI := Lib.hid hI
      have i0 : (0 : Int) ≤ (I : Int) := by omega
      have i1 : (I : Int) < 8 := by omega
      have n0 : (0 : Int) ≤ (N : Int) := by omega
      clear hI
      go_wp2
      go_roundw
      case rel =>
        refine ⟨j + 1, N / 256, by omega, ?_, rfl, by omega, ?_, ?_⟩
        · have := HI.out
          congr 1
          omega
        · show N / 256 = n / 2 ^ (8 * (j + 1))
          rw [HN.out, Nat.div_div_eq_div_mul, show 8 * (j + 1) = 8 * j + 8 by omega, Nat.pow_add]
        · rw [laidU_next n j I N hlt HI.out HN.out]
      case measure => simp [intOf]; omega
    · have hj8 : j = 8 := by omega
      subst hj8
      rw [laidU_all]
      go_wp2
      go_ret
      refine ⟨w.heap.size, 8, (num8_length n).symm, Nat.le_refl _, rfl, At.new w 5 _, (Keep.refl _ w).alloc _⟩

theorem Own.of_at {w : World} {g : Nat} {bs : List Nat} (h : At w g 5 (cellsOf bs).toArray) (hb : ∀ c ∈ bs, c < 256) (hm : bs.length ≤ maxLen) : Own w (.slice (some ⟨g, 0, none⟩) bs.length bs.length) bs := by
  refine ⟨⟨by simp [cellsOf_length], .inr ⟨g, bs.length, _, rfl, Nat.zero_le _, h, Nat.le_refl _, hm, by simp [cellsOf_length], ?_⟩⟩, hb⟩
  simp [← cellsOf_length]

end Go.Proofs.Ytcplemamcgonkaa.Ln
