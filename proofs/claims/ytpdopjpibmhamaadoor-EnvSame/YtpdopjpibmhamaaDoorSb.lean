/-
  Strings as lists of bytes; back and forth.
-/
import Derived.Test.YtpdopjpibmhamaaDoorMem
import Derived.Test.YtpdopjpibmhamaaDoorDot
import Derived.Laws.IdiomStrings
import Derived.Lib.Strings
namespace Go.Proofs.YtpdopjpibmhamaaDoor.Ln
open Go.RowKit
set_option linter.unusedVariables false
set_option linter.unusedSimpArgs false

/-! ### Strings as lists -/
def ns (A : ByteArray) : List Nat := A.data.toList.map UInt8.toNat
theorem ns_length (A : ByteArray) : (ns A).length = A.size := by simp [ns]
theorem ns_lt (A : ByteArray) : ∀ c ∈ ns A, c < 256 := fun c hc => by
  obtain ⟨u, _, rfl⟩ := List.mem_map.1 hc
  exact u.toNat_lt
theorem str_ns (A : ByteArray) : str (ns A) = A := by
  apply ByteArray.ext
  apply Array.ext'
  simp [str, strOfNums, ns, Function.comp_def]
theorem ns_str {l : List Nat} (h : ∀ c ∈ l, c < 256) : ns (str l) = l := by
  simp only [ns, str, strOfNums, List.map_map]
  conv => rhs; rw [← List.map_id l]
  refine List.map_congr_left fun c hc => ?_
  have := h c hc
  simp
  omega
theorem str_size (bs : List Nat) : (str bs).size = bs.length := by simp [str, strOfNums_size]
theorem str_append (a b : List Nat) : str a ++ str b = str (a ++ b) := by
  apply ByteArray.ext
  apply Array.ext'
  simp [str, strOfNums]
theorem str_inj {a b : List Nat} (ha : ∀ c ∈ a, c < 256) (hb : ∀ c ∈ b, c < 256) (h : str a = str b) : a = b := by
  rw [← ns_str ha, ← ns_str hb, h]
theorem str_eta (l : List Nat) : (⟨(str l).data.toList.toArray⟩ : ByteArray) = str l := by simp
theorem ns_inj {a b : ByteArray} (h : ns a = ns b) : a = b := by rw [← str_ns a, ← str_ns b, h]
theorem ns_point : ns { data := #[46] } = [46] := rfl
theorem ns_data (s : ByteArray) : ns s = s.data.toList.map UInt8.toNat := rfl
theorem list_ne {s : ByteArray} (h : s ≠ { data := #[46] }) : (s.toList == [46]) = false := by
  rw [beq_eq_false_iff_ne]
  intro e
  apply h
  apply ByteArray.ext
  apply Array.ext'
  rw [← Lib.toList_data]
  exact e
theorem head_ns (s : ByteArray) (h : 0 < s.size) : (ns s).head? = some (s[0]'h).toNat := by
  have hd : 0 < s.data.size := h
  rw [List.head?_eq_getElem?]
  simp [ns, ByteArray.getElem_eq_getElem_data, Array.getElem?_eq_getElem hd]
theorem drop_ns (s : ByteArray) : s.extract 1 s.size = str ((ns s).drop 1) := by
  apply ns_inj
  rw [ns_str (fun c hc => ns_lt s c (List.mem_of_mem_drop hc))]
  have : s.size = s.data.toList.length := by simp
  simp only [ns, ByteArray.data_extract, Array.toList_extract, List.extract_eq_take_drop, ← List.map_drop]
  rw [List.take_of_length_le (by simp)]
theorem un_end : unE [46] = true ∧ unT [46] = [] := by decide
theorem unE_ne {s : ByteArray} (h : s ≠ { data := #[46] }) : unE (ns s) = false := by
  have hne : ns s ≠ [46] := fun e => h (ns_inj (e.trans ns_point.symm))
  simp [unE, hne]

end Go.Proofs.YtpdopjpibmhamaaDoor.Ln
