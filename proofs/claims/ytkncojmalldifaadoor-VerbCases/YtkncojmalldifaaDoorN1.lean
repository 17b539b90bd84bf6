/-
  The nine names; a name ahead of a blank.
-/
import Derived.Test.YtkncojmalldifaaDoorV7
import Derived.Test.YtkncojmalldifaaDoorRefG
namespace Go.Proofs.YtkncojmalldifaaDoor.Ad
open Go.RowKit
set_option linter.unusedVariables false

def nine : List (List UInt8) := [nHelo, nEhlo, nMail, nRcpt, nData, nRset, nNoop, nQuit, nVrfy]
theorem kind_mem {n : List UInt8} (h : n ∈ nine) : ∃ k, kind n = some k := by
  simp only [nine, List.mem_cons, List.not_mem_nil, or_false] at h
  rcases h with rfl | rfl | rfl | rfl | rfl | rfl | rfl | rfl | rfl <;> exact ⟨_, rfl⟩
theorem kind_not {n : List UInt8} (h : n ∉ nine) : kind n = none := by
  simp only [nine, List.mem_cons, List.not_mem_nil, or_false, not_or] at h
  obtain ⟨h1, h2, h3, h4, h5, h6, h7, h8, h9⟩ := h
  unfold kind
  rw [if_neg h1, if_neg h2, if_neg h3, if_neg h4, if_neg h5, if_neg h6, if_neg h8, if_neg h7, if_neg h9]
theorem join_data (a b : ByteArray) : (a ++ { data := #[32] } ++ b).data.toList = a.data.toList ++ 32 :: b.data.toList := by
  rw [ByteArray.data_append, ByteArray.data_append]
  simp
theorem join_size (a b : ByteArray) : (a ++ { data := #[32] } ++ b).size = a.size + 1 + b.size := by
  rw [ByteArray.size_append, ByteArray.size_append]
  rfl
theorem verbM_join {a b : ByteArray} (h : (32 : UInt8) ∉ a.data.toList) : verbM (a ++ { data := #[32] } ++ b).data.toList = verbN (great a.data.toList) b.data.toList true := by
  rw [join_data, verbM]
  obtain ⟨h1, h2, h3⟩ := ahd_at 32 b.data.toList h
  rw [h1, h2, h3]
theorem verbM_alone {a : List UInt8} (h : (32 : UInt8) ∉ a) : verbM a = verbN (great a) [] false := by
  rw [verbM]
  obtain ⟨h1, h2, h3⟩ := ahd_miss 32 h
  rw [h1, h2, h3]
theorem no_take {l : List UInt8} {k : Nat} (h : k < l.length) (ht : (32 : UInt8) ∉ l.take k) (e : l[k] ≠ 32) : (32 : UInt8) ∉ l.take (k + 1) := by
  rw [List.take_add_one, List.getElem?_eq_getElem h]
  simp only [List.mem_append, Option.toList_some, List.mem_singleton, not_or]
  exact ⟨ht, fun e2 => e e2.symm⟩
theorem get_byte (s : ByteArray) (k : Nat) (h : k < s.size) : s.data.toList[k]'(by rw [len_size]; exact h) = s[k]'h := by simp [ByteArray.getElem_eq_getElem_data]
theorem byte_not {c : UInt8} (h : ¬ ((c.toNat : Int) = 32)) : c ≠ 32 := by
  rintro rfl
  exact h rfl
/-- A row of nine strings. -/
def Nine (w : World) (g : Nat) : Prop := ∀ k (hk : k < 9), w.cell? ⟨g, k, none⟩ = some (.string (bs (nine[k]'hk)))
theorem nine_new (w : World) : Nine (w.alloc (.cells #[.string { data := #[72, 69, 76, 79] }, .string { data := #[69, 72, 76, 79] }, .string { data := #[77, 65, 73, 76] }, .string { data := #[82, 67, 80, 84] }, .string { data := #[68, 65, 84, 65] }, .string { data := #[82, 83, 69, 84] }, .string { data := #[78, 79, 79, 80] }, .string { data := #[81, 85, 73, 84] }, .string { data := #[86, 82, 70, 89] }] 9)) w.heap.size := by
  intro k hk
  rw [World.cell?_alloc_new]
  have : k = 0 ∨ k = 1 ∨ k = 2 ∨ k = 3 ∨ k = 4 ∨ k = 5 ∨ k = 6 ∨ k = 7 ∨ k = 8 := by omega
  rcases this with rfl | rfl | rfl | rfl | rfl | rfl | rfl | rfl | rfl <;> rfl
end Go.Proofs.YtkncojmalldifaaDoor.Ad
