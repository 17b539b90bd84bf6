/-
  What the document's own answers return: 'May', 'Num', 'Bytes', and the eye's 'Num' and 'Bytes'.
-/
import Derived.Test.YtpdopjpibmhamaaGreatDoorWRead
import Derived.IntWalk
namespace Go.Proofs.YtpdopjpibmhamaaGreatDoor.Ln
open Go.RowKit

/-- The eight bytes, of which the last j are laid. -/
def laidU (n j : Nat) : List Nat := (List.range 8).map fun i => if 8 ≤ i + j then dig n i else 0
theorem laidU_all (n : Nat) : laidU n 8 = num8 n := by
  unfold laidU num8
  apply List.map_congr_left
  intro i _
  rw [if_pos (by omega)]
theorem laidU_next (n j I N : Nat) (hj : j < 8) (hI : I = 7 - j) (hN : N = n / 2 ^ (8 * j)) : (cellsOf (laidU n j)).set I (.int .u8 ((N : Int) % 256)) = cellsOf (laidU n (j + 1)) := by
  have hc : (N : Int) % 256 = ((dig n I : Nat) : Int) := by
    have : 7 - I = j := by omega
    rw [dig, this, ← hN]
    rfl
  rw [hc]
  apply List.ext_getElem
  · simp [cellsOf, laidU]
  · intro i h1 h2
    have hi : i < 8 := by simpa [cellsOf, laidU] using h2
    rw [List.getElem_set]
    by_cases e : I = i
    · subst e
      have : 8 ≤ I + (j + 1) := by omega
      simp [cellsOf, laidU, this]
    · have : (8 ≤ i + (j + 1)) ↔ (8 ≤ i + j) := by omega
      simp [cellsOf, laidU, e, this]
theorem laidU_zero (n : Nat) : madeCells #[.int .u8 0] 8 = (cellsOf (laidU n 0)).toArray := by
  apply Array.ext
  · simp [madeCells, cellsOf, laidU]
  · intro i h1 h2
    have hi : i < 8 := by simpa [cellsOf, laidU] using h2
    have h : ¬ 8 ≤ i := by omega
    simp [madeCells, cellsOf, laidU, h]
    rw [Nat.mod_one]
    rfl
theorem laidU_at (n j i : Nat) (hi : i < 8) : (cellsOf (laidU n j)).toArray[i]? = some (.int .u8 ((if 8 ≤ i + j then dig n i else 0 : Nat) : Int)) := by
  simp [cellsOf, laidU, hi]

set_option maxHeartbeats 1000000 in
theorem refNum (n : Nat) (hn : n ≤ 4611686018427387904) (w : World) : Calls Tryz.prog 31 #[.int .i64 (n : Int)] w (Copy (num8 n) w) := by
  have hmk : ∀ w, (Instr.makeSlice 23 (.int .i64 8) (.int .i64 8)).run Tryz.prog w = .ok (.slice (some ⟨w.heap.size, 0, none⟩) 8 8) (w.alloc (.cells (cellsOf (laidU n 0)).toArray 5)) := fun w => by
    rw [← laidU_zero]
    exact make_u8 8 (by omega) w
  go_enter Tryz.func31, Tryz.ntmps31
  go_wp2
  go_loopw [0, 4] (fun t i wr => ∃ j N : Nat, j ≤ 8 ∧ i = .int .i64 (7 - (j : Int)) ∧ t = .int .i64 (N : Int) ∧ N ≤ 4611686018427387904 ∧ Hid (N = n / 2 ^ (8 * j)) ∧ wr = w.alloc (.cells (cellsOf (laidU n j)).toArray 5)) (fun _ i _ => (intOf i + 1).toNat)
  case atStart => exact ⟨0, n, by omega, rfl, rfl, hn, by show n = n / 2 ^ (8 * 0); simp, rfl⟩
  case round =>
    obtain ⟨j, N, hj, rfl, rfl, hN, HN, rfl⟩ := hrel
    by_cases hlt : j < 8
    · obtain ⟨I, hI⟩ : ∃ I, I = 7 - j := ⟨_, rfl⟩
      have hI2 : 7 - (j : Int) = (I : Int) := by omega
      have hI8 : I < 8 := by omega
      have hat := laidU_at n j I hI8
      have HI := Lib.hid hI
      have i0 : (0 : Int) ≤ (I : Int) := by omega
      have i1 : (I : Int) < 8 := by omega
      have n0 : (0 : Int) ≤ (N : Int) := by omega
      clear hI
      go_wp2
      go_roundw
      case rel =>
        refine ⟨j + 1, N / 256, by omega, ?_, rfl, by omega, ?_, ?_⟩
        · have := HI.out
          congr 1
          omega
        · show N / 256 = n / 2 ^ (8 * (j + 1))
          rw [HN.out, Nat.div_div_eq_div_mul, show 8 * (j + 1) = 8 * j + 8 by omega, Nat.pow_add]
        · rw [laidU_next n j I N hlt HI.out HN.out]
      case measure => simp [intOf]; omega
    · have hj8 : j = 8 := by omega
      subst hj8
      rw [laidU_all]
      go_wp2
      go_ret
      refine ⟨w.heap.size, 8, (num8_length n).symm, Nat.le_refl _, rfl, At.new w 5 _, (Keep.refl _ w).alloc _⟩

theorem Own.of_at {w : World} {g : Nat} {bs : List Nat} (h : At w g 5 (cellsOf bs).toArray) (hb : ∀ c ∈ bs, c < 256) (hm : bs.length ≤ maxLen) : Own w (.slice (some ⟨g, 0, none⟩) bs.length bs.length) bs := by
  refine ⟨⟨by simp [cellsOf_length], .inr ⟨g, bs.length, _, rfl, Nat.zero_le _, h, Nat.le_refl _, hm, by simp [cellsOf_length], ?_⟩⟩, hb⟩
  simp [← cellsOf_length]

/-- What the document's 'Bytes' answers: a row of its own. -/
def RefB (b : List Nat) (w : World) (e : Ending) (w' : World) : Prop :=
  ∃ y n cap, n = (enc b).length ∧ e = .returned (.slice y n cap) ∧ Own w' (.slice y n cap) (enc b) ∧ New w none (Value.ownBlock (.slice y n cap)) ∧ Keep (fun _ => False) w w'

set_option maxHeartbeats 1000000 in
theorem refBytes (P : Nat → Prop) (x : Option Addr) (m cap : Nat) (b : List Nat) (hm : b.length = m) (hl : m ≤ 1000000000) (w : World) (h : Bytes P w x b) : Calls Tryz.prog 32 #[.slice x m cap] w (RefB b w) := by
  have HB := Lib.hid h
  have HM := Lib.hid hm
  clear h hm
  go_enter Tryz.func32, Tryz.ntmps32
  go_wp2_with fail
  refine (refNum m (by omega) w).mono ?_
  rintro e w1 ⟨g, m1, hm1, hg, rfl, hat, hk⟩
  obtain rfl : m1 = 8 := hm1
  have HOW : Hid (Own w1 (.slice (some ⟨g, 0, none⟩) 8 8) (num8 m)) := Own.of_at hat (num8_lt m) (by rw [num8_length]; decide)
  clear hat
  go_wp2_with
    (at_builtin
     refine wpList_append_bytes (by rfl) (.tmp 5) (.tmp 6) (by rfl) (.slice (some ⟨g, 0, none⟩) 8 8) (num8 m) (by rfl) HOW.out P x m cap b (by rfl) HM.out
        (HB.out.quiet hk) (by rw [num8_length]; omega) ?_
     intro y2 n2 cap2 w2 hn2 hO2 hk2 hnew2
     have HO2 := Lib.hid hO2
     have HK2 := Lib.hid hk2
     have HW2 := Lib.hid hnew2
     clear hO2 hk2 hnew2)
  go_ret
  have e : enc b = num8 m ++ b := by simp [enc, HM.out]
  refine ⟨y2, n2, cap2, by rw [e]; exact hn2.out, rfl, by rw [e]; exact HO2.out, ?_, hk.trans HK2.out ?_⟩
  · intro k hk'
    rcases HW2.out k hk' with h | h
    · injection h with h
      exact .inr (by simp at h; omega)
    · exact .inr (by have := hk.size; omega)
  · intro k hk' h
    injection h with h
    simp at h
    omega

end Go.Proofs.YtpdopjpibmhamaaGreatDoor.Ln
