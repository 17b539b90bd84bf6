/-
  A row of bytes of the call's own: made of a string, written into, made a string again.
-/
import Derived.Test.YtcjljldknekhiaaGreatDoorAProg2
import Derived.Laws.IdiomStrings
namespace Go.Proofs.YtcjljldknekhiaaGreatDoor.Ad
open Go.RowKit
set_option linter.unusedVariables false
set_option linter.unusedSimpArgs false

/-! ### A row of bytes that is written into -/
def URow (w : World) (B : Nat) (l : List UInt8) : Prop := ∀ j (hj : j < l.length), w.cell? ⟨B, j, none⟩ = some (.int .u8 ((l[j]'hj).toNat : Int)) ∧ w.frozen? ⟨B, j, none⟩ = false
theorem URow.put {w : World} {B : Nat} {l : List UInt8} (h : URow w B l) (k : Nat) (hk : k < l.length) (c : UInt8) : URow (w.setCell ⟨B, k, none⟩ (.int .u8 (c.toNat : Int))) B (l.set k c) := by
  intro j hj
  rw [List.length_set] at hj
  have hf : (w.setCell ⟨B, k, none⟩ (.int .u8 (c.toNat : Int))).frozen? ⟨B, j, none⟩ = w.frozen? ⟨B, j, none⟩ := World.frozen?_setCell ..
  refine ⟨?_, hf.trans (h j hj).2⟩
  by_cases e : k = j
  · subst e
    rw [World.cell?_setCell_same _ _ _ (h k hk).1]
    simp
  · rw [World.cell?_setCell_other _ _ _ _ (by intro e2; injection e2 with _ e3; exact e e3), (h j hj).1]
    simp [e]
theorem bytes_some (s : ByteArray) (w : World) : ∃ cap w1, (convert 9 34 (.string s)).run Tryz.prog w = .ok (.slice (some ⟨w.heap.size, 0, none⟩) s.size cap) w1 ∧ URow w1 w.heap.size s.data.toList ∧ Below w.heap.size w w1 := by
  refine ⟨_, _, run_bytes_of_string w 9 34 5 s Tryz.underlying9 Tryz.underlying34 Tryz.underlying5, ?_, ?_⟩
  · intro j hj
    generalize grownCap w s.size 0 5 = cap
    have hj' : j < s.size := by rw [len_size] at hj; exact hj
    have hsz : s.size ≤ (bytesRow s cap).size := by
      simp [bytesRow]
    have e0 : (bytesRow s cap)[j]? = some (.int .u8 ((s.data.toList[j]'hj).toNat : Int)) := by
      unfold bytesRow
      rw [Array.getElem?_append_left (by simpa using hj')]
      have hj2 : j < s.data.size := hj'
      simp only [Array.getElem?_map, Array.getElem?_eq_getElem hj2, Option.map_some]
      rfl
    have eh : (w.drew.alloc (.cells (bytesRow s cap) 5 ((bytesRow s cap).size, (bytesRow s cap).size + 1))).heap[w.heap.size]? = some (.cells (bytesRow s cap) 5 ((bytesRow s cap).size, (bytesRow s cap).size + 1)) := by
      show (w.heap.push _)[w.heap.size]? = _
      simp
    constructor
    · unfold World.cell?
      simp only [eh]
      simpa using e0
    · unfold World.frozen?
      simp only [eh]
      simp
      omega
  · exact (Below.refl _ w).drew.alloc (Nat.le_refl _) _
theorem bytes_back (w : World) (B cap : Nat) (l : List UInt8) (h : URow w B l) : (convert 34 9 (.slice (some ⟨B, 0, none⟩) l.length cap)).run Tryz.prog w = .ok (.string (bs l)) w :=
  run_convert_bytes_back w 34 9 5 ⟨B, 0, none⟩ cap l Tryz.underlying34 Tryz.underlying5 Tryz.underlying9 (fun j hj => by
    rw [show (⟨B, 0, none⟩ : Addr).add j = ⟨B, j, none⟩ by unfold Addr.add; split <;> simp_all]
    exact (h j hj).1)

/-! ### Small, Great -/
def mix (f : UInt8 → UInt8) (k : Nat) (l : List UInt8) : List UInt8 := (l.take k).map f ++ l.drop k
theorem mix_length (f : UInt8 → UInt8) (k : Nat) (l : List UInt8) : (mix f k l).length = l.length := by
  simp [mix]
  omega
theorem mix_at (f : UInt8 → UInt8) {k : Nat} {l : List UInt8} (h : k < l.length) : (mix f k l)[k]'(by rw [mix_length]; exact h) = l[k] := by
  unfold mix
  rw [List.getElem_append_right (by rw [List.length_map, List.length_take]; omega)]
  simp [Nat.min_eq_left (Nat.le_of_lt h)]
theorem mix_next (f : UInt8 → UInt8) {k : Nat} {l : List UInt8} (h : k < l.length) : mix f (k + 1) l = (mix f k l).set k (f l[k]) := by
  unfold mix
  rw [List.take_succ_eq_append_getElem h, List.map_append, List.set_append_right _ _ (by rw [List.length_map, List.length_take]; omega), List.drop_eq_getElem_cons h, show k - ((l.take k).map f).length = 0 by rw [List.length_map, List.length_take]; omega, List.append_assoc]
  rfl
theorem mix_same (f : UInt8 → UInt8) {k : Nat} {l : List UInt8} (h : k < l.length) (e : f l[k] = l[k]) : mix f (k + 1) l = mix f k l := by
  unfold mix
  rw [List.take_succ_eq_append_getElem h, List.map_append, List.drop_eq_getElem_cons h, List.append_assoc]
  show _ ++ f l[k] :: _ = _
  rw [e]
  rfl

theorem lower_in (c : UInt8) (h1 : 65 ≤ c.toNat) (h2 : c.toNat ≤ 90) : (lower c).toNat = c.toNat + 32 := by
  have h := lower_nat c (by omega)
  rw [show greatZ c.toNat = true by simp [greatZ]; omega] at h
  simp only [if_true] at h
  omega
theorem lower_out (c : UInt8) (h : ¬ (65 ≤ c.toNat ∧ c.toNat ≤ 90)) : lower c = c := by
  unfold lower
  rw [if_neg (by simp [greatZ]; omega)]
theorem upper_in (c : UInt8) (h1 : 97 ≤ c.toNat) (h2 : c.toNat ≤ 122) : (upper c).toNat = c.toNat - 32 := by
  unfold upper
  rw [if_pos (by simp; omega), UInt8.toNat_sub]
  simp
  omega
theorem upper_out (c : UInt8) (h : ¬ (97 ≤ c.toNat ∧ c.toNat ≤ 122)) : upper c = c := by
  unfold upper
  rw [if_neg (by simp; omega)]

end Go.Proofs.YtcjljldknekhiaaGreatDoor.Ad
