/-
  Strings as lists of bytes; the calls, with all that a law has done so far kept from its first world on.
-/
import Derived.Test.YtflnmgameihglaaAns
import Derived.Laws.IdiomStrings
namespace Go.Proofs.Ytflnmgameihglaa.Ln
open Go.RowKit
set_option linter.unusedVariables false
set_option linter.unusedSimpArgs false

def ns (A : ByteArray) : List Nat := A.data.toList.map UInt8.toNat
theorem ns_length (A : ByteArray) : (ns A).length = A.size := by simp [ns]
theorem ns_lt (A : ByteArray) : ∀ c ∈ ns A, c < 256 := fun c hc => by
  obtain ⟨u, _, rfl⟩ := List.mem_map.1 hc
  exact u.toNat_lt
theorem str_ns (A : ByteArray) : str (ns A) = A := by
  apply ByteArray.ext
  apply Array.ext'
  simp [str, strOfNums, ns, Function.comp_def]
theorem str_size (bs : List Nat) : (str bs).size = bs.length := by simp [str, strOfNums_size]
theorem index_ns (A : ByteArray) (i : Nat) (hi : i < A.size) : ∀ w, (Instr.index 9 (.string A) (.int .i64 (i : Int))).run Try.prog w = .ok (.int .u8 (((ns A).getD i 0 : Nat) : Int)) w := by
  intro w
  have h1 : (0 : Int) ≤ (i : Int) ∧ (i : Int) < (A.size : Int) := by omega
  have e : ((A[i]'hi).toNat : Nat) = (ns A).getD i 0 := by
    have hd : i < A.data.size := hi
    simp [ns, ByteArray.getElem_eq_getElem_data, Array.getElem?_eq_getElem hd]
  rw [run_index_string w 9 A .i64 (i : Int) Try.underlying9, dif_pos h1, ← e]
  simp
theorem conv_str (A : ByteArray) (w : World) : ∃ cap w1, (convert 9 24 (.string A)).run Try.prog w = .ok (.slice (some ⟨w.heap.size, 0, none⟩) A.size cap) w1 ∧ Bytes (fun b => b = w.heap.size) w1 (some ⟨w.heap.size, 0, none⟩) (ns A) ∧ Keep (fun _ => False) w w1 := by
  refine ⟨_, _, run_bytes_of_string w 9 24 5 A Try.underlying9 Try.underlying24 Try.underlying5, ⟨ns_lt A, .inr ⟨w.heap.size, 0, rfl, rfl, fun i hi => ?_⟩⟩, (Keep.refl _ w).drew.alloc _⟩
  have hi' : i < A.size := by rwa [ns_length] at hi
  refine (cell_of_row _ _ (0 + i) _ _ _ (heap_alloc_new w.drew _)).trans ?_
  rw [Nat.zero_add]
  have hi2 : i < A.data.size := hi'
  unfold bytesRow
  rw [Array.getElem?_append_left (by simpa using hi2)]
  simp [ns, Array.getElem?_eq_getElem hi2]

/-! ### The calls, from a law's first world on -/
/-- All that was there in the first world is as it was. -/
abbrev Since (w0 w : World) : Prop := Keep (fun k => w0.heap.size ≤ k) w0 w
theorem Since.hm {w0 w : World} (h : Since w0 w) (hm : Hm w0) : Hm w := hm.keep h (by have := hm.pos; omega)
theorem Since.next {w0 w w' : World} {S : Nat → Prop} (h : Since w0 w) (k : Keep S w w') (hS : ∀ i, S i → w0.heap.size ≤ i) : Since w0 w' := Keep.trans h k (fun i _ hi => hS i hi)
theorem Since.quiet {w0 w w' : World} (h : Since w0 w) (k : Keep (fun _ => False) w w') : Since w0 w' := h.next k (fun _ h => h.elim)
theorem Since.below {w0 w : World} (h : Since w0 w) : Below w0.heap.size w0 w := Keep.below h (Nat.le_refl _) (fun _ h => h)
theorem Since.bytes {w0 w : World} {x : Option Addr} {bs : List Nat} (h : Since w0 w) (hB : Bytes (fun k => k < w0.heap.size) w0 x bs) : Bytes (fun k => k < w0.heap.size) w x bs := hB.keep h (fun b _ hb => by omega)

section
variable {w0 w : World} {g : Nat} {q : Option Nat} {bs : List Nat}
theorem Lin.own (h : Lin w0.heap.size w g q bs) : ∀ i, (i = g ∨ q = some i) → w0.heap.size ≤ i := fun i hi => by
  rcases hi with rfl | hi
  · exact h.lo
  · exact (h.low i hi).1
theorem feedS (hS : Since w0 w) (h : Lin w0.heap.size w g q bs) {P : Nat → Prop} (x : Option Addr) (m c : Nat) (cs : List Nat) (hm : cs.length = m) (hB : Bytes P w x cs) (hl : bs.length + m ≤ 1099511627776) :
    Calls Try.prog 8 #[.pointer (some ⟨g, 0, none⟩), .slice x m c] w fun e w' => e = .returned (.tuple #[]) ∧ ∃ q', Lin w0.heap.size w' g q' (bs ++ cs) ∧ Since w0 w' ∧ Keep (fun k => k = g ∨ q = some k) w w' ∧ New w q q' := by
  refine (feed h x m c cs hm hB hl).mono ?_
  rintro e w' ⟨rfl, q', h1, h2, h3⟩
  exact ⟨rfl, q', h1, hS.next h2 h.own, h2, h3⟩
theorem nextS' (hS : Since w0 w) (hm : Hm w0) (h : Lin w0.heap.size w g q bs) (most : Int) (hmost : (Lit.int .i64 most).wf = true) (hl : bs.length ≤ 4294967280) :
    Calls Try.prog 10 #[.pointer (some ⟨g, 0, none⟩), .int .i64 most] w fun e w' => e = .returned (.tuple #[.string (str (Ln.nextT bs most)), .bool (Ln.nextL bs most), .bool (Ln.nextK bs)]) ∧ ∃ q', Lin w0.heap.size w' g q' (Ln.nextS bs) ∧ Since w0 w' ∧ Keep (fun k => k = g) w w' ∧ New w q q' := by
  obtain ⟨m, hm'⟩ := hS.hm hm
  refine (Ln.next h most hmost hl m hm').mono ?_
  rintro e w' ⟨rfl, q', h1, h2, h3⟩
  exact ⟨rfl, q', h1, hS.next h2 (fun i hi => by subst hi; exact h.lo), h2, h3⟩
theorem ansS (hS : Since w0 w) (hm : Hm w0) : Calls Try.prog 7 #[] w fun e w' => e = .returned (.bool true) ∧ Since w0 w' ∧ Keep (fun _ => False) w w' := by
  refine (answers w (hS.hm hm)).mono ?_
  rintro e w' ⟨rfl, h⟩
  exact ⟨rfl, hS.quiet h, h⟩
end
end Go.Proofs.Ytflnmgameihglaa.Ln
