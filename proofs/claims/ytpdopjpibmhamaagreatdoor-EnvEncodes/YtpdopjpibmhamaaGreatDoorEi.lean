/-
  A row of bytes that one holds alone: bytes put into it.
-/
import Derived.Test.YtpdopjpibmhamaaGreatDoorEh
namespace Go.Proofs.YtpdopjpibmhamaaGreatDoor.Ln
open Go.RowKit
set_option linter.unusedVariables false
set_option linter.unusedSimpArgs false

/-- The row of block g begins with these bytes. -/
def RowB (w : World) (g : Nat) (bs : List Nat) : Prop := ∃ cur : Array Value, At w g 5 cur ∧ ∀ i, i < bs.length → cur[i]? = some (.int .u8 ((bs.getD i 0 : Nat) : Int))
theorem Own.rowB {w : World} {x : Option Addr} {n cap : Nat} {bs : List Nat} (h : Own w (.slice x n cap) bs) (h0 : 0 < bs.length) : ∃ g, x = some ⟨g, 0, none⟩ ∧ (Value.slice x n cap).ownBlock = some g ∧ n = bs.length ∧ n ≤ cap ∧ RowB w g bs := by
  rcases h.1.2 with ⟨hv, h1⟩ | ⟨g, cap', cur, hv, _, hg, hnc, hm, hs, ht⟩
  · omega
  · injection hv with e1 e2 e3
    subst e1 e2 e3
    refine ⟨g, rfl, rfl, rfl, hnc, cur, hg, fun i hi => ?_⟩
    rw [← cellsOf_at bs i hi, ← ht, Nat.mul_one, List.getElem?_take, if_pos hi, Array.getElem?_toList]
theorem RowB.cell {w : World} {g : Nat} {bs : List Nat} (h : RowB w g bs) {i : Nat} (hi : i < bs.length) : w.cell? ⟨g, i, none⟩ = some (.int .u8 ((bs.getD i 0 : Nat) : Int)) ∧ w.frozen? ⟨g, i, none⟩ = false ∧ g < w.heap.size := by
  obtain ⟨cur, h1, h2⟩ := h
  exact ⟨(h1.cell i).trans (h2 i hi), h1.frozen i, h1.lt⟩
theorem RowB.put {w : World} {g : Nat} {bs : List Nat} (h : RowB w g bs) (i : Nat) (hi : i < bs.length) (c : Nat) : RowB (w.setCell ⟨g, i, none⟩ (.int .u8 (c : Int))) g (bs.set i c) := by
  obtain ⟨cur, h1, h2⟩ := h
  refine ⟨_, h1.put i _, fun j hj => ?_⟩
  rw [List.length_set] at hj
  have hic : i < cur.size := by
    have := h2 i hi
    exact (Array.getElem?_eq_some_iff.1 this).1
  rw [Array.getElem?_setIfInBounds]
  by_cases hij : i = j
  · subst hij
    simp [hic, List.getD_eq_getElem?_getD, hi]
  · rw [if_neg hij, h2 j hj, List.getD_eq_getElem?_getD, List.getD_eq_getElem?_getD, List.getElem?_set_ne hij]
theorem RowB.keep {S : Nat → Prop} {w w' : World} {g : Nat} {bs : List Nat} (h : RowB w g bs) (k : Keep S w w') (hs : ¬ S g) : RowB w' g bs := by
  obtain ⟨cur, h1, h2⟩ := h
  exact ⟨cur, h1.keep k hs, h2⟩
theorem RowB.bytes {w : World} {g : Nat} {bs : List Nat} (h : RowB w g bs) (hb : ∀ c ∈ bs, c < 256) : Bytes (fun b => b = g) w (some ⟨g, 0, none⟩) bs := by
  refine ⟨hb, .inr ⟨g, 0, rfl, rfl, fun i hi => ?_⟩⟩
  rw [Nat.zero_add]
  exact (h.cell hi).1
theorem light_parts {m : Ml} (h : lightB m = true) : m.frm.size ≤ 100000 ∧ (∀ s ∈ m.rcpts, s.size ≤ 100000) ∧ m.rcpts.length ≤ 50 ∧ m.body.length ≤ 9000 := by
  simp only [lightB, Bool.and_eq_true, decide_eq_true_eq, List.all_eq_true] at h
  exact ⟨by omega, fun s hs => by have := h.2.1 s hs; omega, h.1, h.2.2.2⟩
theorem record_pos (m : Ml) : 0 < (record m).length := by rw [record_length]; omega
theorem record_small {m : Ml} (h : Fine m) : (record m).length ≤ 10000 := by rw [record_length]; have := content_small h; omega
theorem begun_no_m {bs : List Nat} {m : Ml} {n : Nat} (hb : beginsB bs = false) (h : if beginsB bs = true then m = readMl (innerM bs) ∧ n = (innerM bs).length + 12 else m = noMl ∧ n = 0) : m = noMl ∧ n = 0 := by
  rw [hb] at h
  exact h
/-- A row of one's own, made empty. -/
theorem gr_none (w : World) : Gr w (w.alloc (.cells #[] 5)) (.slice (some ⟨w.heap.size, 0, none⟩) 0 0) [] :=
  ⟨Own.made w [] (by simp) (by decide), fun b hb => by simp [Value.ownBlock] at hb; omega, keep_new w _⟩
end Go.Proofs.YtpdopjpibmhamaaGreatDoor.Ln
