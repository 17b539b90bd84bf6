/-
  A sent body, line by line: what the document's own Line and the program's Unstuff return of it.
-/
import Derived.Test.YtgocmapnnbpceaaCas
namespace Go.Proofs.Ytgocmapnnbpceaa.Ln
open Go.RowKit
set_option linter.unusedVariables false

theorem conv_own (A : ByteArray) (w : World) : ∃ cap w1, A.size ≤ cap ∧ (convert 9 22 (.string A)).run Try.prog w = .ok (.slice (some ⟨w.heap.size, 0, none⟩) A.size cap) w1 ∧ Bytes (fun b => b = w.heap.size) w1 (some ⟨w.heap.size, 0, none⟩) (ns A) ∧ Keep (fun _ => False) w w1 := by
  refine ⟨_, _, grownCap_ge _ _ _ _, run_bytes_of_string w 9 22 5 A Try.underlying9 Try.underlying22 Try.underlying5, ⟨ns_lt A, .inr ⟨w.heap.size, 0, rfl, rfl, fun i hi => ?_⟩⟩, (Keep.refl _ w).drew.alloc _⟩
  have hi' : i < A.size := by rwa [ns_length] at hi
  refine (cell_of_row _ _ (0 + i) _ _ _ (heap_alloc_new w.drew _)).trans ?_
  rw [Nat.zero_add]
  have hi2 : i < A.data.size := hi'
  unfold bytesRow
  rw [Array.getElem?_append_left (by simpa using hi2)]
  simp [ns, Array.getElem?_eq_getElem hi2]

/-- What waits, behind k texts: the slice v reads as what the others are sent as. -/
structure Wait (L : List (List Nat)) (w : World) (y : Option Addr) (M C k : Nat) : Prop where
  len : M = (stuffM (L.drop k)).length
  cap : M ≤ C
  bytes : Bytes (fun _ => True) w y (stuffM (L.drop k))
theorem Wait.small {L : List (List Nat)} {w : World} {y : Option Addr} {M C k : Nat} (h : Wait L w y M C k) (hl : (stuffM L).length ≤ 6003) : M ≤ 6003 := by
  have e : stuffM L = stuffs (L.take k) ++ stuffM (L.drop k) := by
    rw [stuffM, stuffM, ← List.append_assoc, ← stuffs_append, List.take_append_drop]
  rw [e, List.length_append] at hl
  rw [h.len]
  omega
theorem line_at {P : Nat → Prop} {w : World} {x : Option Addr} {n cap i : Nat} {bs : List Nat} (hp : pos bs = some i) (hn : n = bs.length) (hcap : n ≤ cap) (hB : Bytes P w x bs) (hl : n ≤ 1099511627776) :
    Calls Try.prog 14 #[.slice x n cap] w fun e w' => e = .returned (.tuple #[.string (str (bs.take i)), .int .i64 ((i + 2 : Nat) : Int)]) ∧ w' = w := by
  have h := line hn hcap hB hl
  rw [lineT_some hp, lineN_some hp] at h
  exact h
section
variable {L : List (List Nat)} {w wr : World} {y : Option Addr} {M C k : Nat}
theorem drop_cons (hk : k < L.length) : L.drop k = L.getD k [] :: L.drop (k + 1) := by
  have e : L.getD k [] = L[k] := by simp [hk]
  rw [e, List.drop_eq_getElem_cons hk]
/-- The next line is a text's. -/
theorem Wait.text (h : Wait L w y M C k) (hcl : ∀ l ∈ L, clean l) (hk : k < L.length) (hkp : Keep (fun _ => False) w wr) (hl : M ≤ 6003) :
    ∃ j y' C', 0 < j ∧ j ≤ M ∧ Wait L w y' (M - j) C' (k + 1) ∧
      (∀ w, (Instr.slice 22 (.slice y M C) (some (.int .i64 (j : Int))) none none).run Try.prog w = .ok (.slice y' (M - j) C') w) ∧
      (∀ w, (Instr.sliceAt 22 (.slice y M C) (some (.int .i64 (j : Int))) none none).run Try.prog w = .ok (.slice y' (M - j) C') w) ∧
      Calls Try.prog 14 #[.slice y M C] wr fun e w' => e = .returned (.tuple #[.string (str (stuffT (L.getD k []))), .int .i64 (j : Int)]) ∧ w' = wr := by
  have hc : ∀ c ∈ L.getD k [], c ≠ 13 := fun c hc => (hcl _ (getD_mem hk) c hc).2
  have hd := drop_cons hk
  obtain ⟨h1, h2, h3⟩ := stuffM_cons (l := L.getD k []) (L := L.drop (k + 1)) hc
  rw [← hd] at h1 h2 h3
  have hlt := pos_lt h1
  have hlen := h.len
  obtain ⟨s1, s2⟩ := cut_drop y M C ((stuffT (L.getD k [])).length + 2) (by omega) h.cap
  refine ⟨(stuffT (L.getD k [])).length + 2, _, _, by omega, by omega, ⟨?_, ?_, ?_⟩, s1, s2, ?_⟩
  · rw [← h3, List.length_drop]
    omega
  · have := h.cap
    omega
  · have := h.bytes.mid C ((stuffT (L.getD k [])).length + 2) (stuffM (L.drop k)).length (by omega) (Nat.le_refl _) (by have := h.cap; omega)
    rw [List.take_length, h3] at this
    exact this
  · have := line_at (w := wr) h1 hlen h.cap (h.bytes.quiet hkp) (by omega)
    rw [h2] at this
    exact this
/-- The next line is the end. -/
theorem Wait.last (h : Wait L w y M C k) (hk : L.length ≤ k) (hkp : Keep (fun _ => False) w wr) :
    ∃ y' C', M = 3 ∧
      (∀ w, (Instr.slice 22 (.slice y M C) (some (.int .i64 3)) none none).run Try.prog w = .ok (.slice y' 0 C') w) ∧
      (∀ w, (Instr.sliceAt 22 (.slice y M C) (some (.int .i64 3)) none none).run Try.prog w = .ok (.slice y' 0 C') w) ∧
      Calls Try.prog 14 #[.slice y M C] wr fun e w' => e = .returned (.tuple #[.string { data := #[46] }, .int .i64 3]) ∧ w' = wr := by
  have hd : L.drop k = [] := List.drop_eq_nil_of_le hk
  obtain ⟨h1, h2, h3⟩ := stuffM_nil
  have hlen := h.len
  have hB := h.bytes
  rw [hd] at hlen hB
  have h3' : M = 3 := hlen.trans (by decide)
  have hC := h.cap
  clear h
  subst h3'
  obtain ⟨s1, s2⟩ := cut_drop y 3 C 3 (Nat.le_refl _) hC
  refine ⟨_, _, rfl, s1, s2, ?_⟩
  have hc := line_at (w := wr) (cap := C) (x := y) (n := 3) h1 hlen hC (hB.quiet hkp) (by decide)
  rw [h2] at hc
  exact hc
end
theorem unstuff_text {l : List Nat} (h : ∀ c ∈ l, c < 256) (w : World) (hs : l.length ≤ 100000) :
    Calls Try.prog 12 #[.string (str (stuffT l))] w fun e w' => e = .returned (.tuple #[.string (str l), .bool false]) ∧ Keep (fun _ => False) w w' := by
  have hl : (stuffT l).length ≤ l.length + 1 := by
    unfold stuffT
    split
    · simp
    · omega
  have := unstuff (str (stuffT l)) w (by rw [str_size]; omega)
  rw [ns_str (stuffT_lt h), un_stuff.1, un_stuff.2] at this
  exact this
theorem unstuff_end (w : World) : Calls Try.prog 12 #[.string { data := #[46] }] w fun e w' => e = .returned (.tuple #[.string { data := #[] }, .bool true]) ∧ Keep (fun _ => False) w w' := by
  have := unstuff { data := #[46] } w (by decide)
  rw [ex_un.2.2.1, ex_un.2.2.2] at this
  exact this
theorem joinL_next {L : List (List Nat)} {k : Nat} (hk : k < L.length) : joinL (L.take (k + 1)) = joinL (L.take k) ++ L.getD k [] ++ [10] := by
  have e : L.getD k [] = L[k] := by simp [hk]
  rw [List.take_succ_eq_append_getElem hk, joinL_snoc, e]
theorem joinL_take (L : List (List Nat)) (k : Nat) : (joinL (L.take k)).length ≤ (joinL L).length := by
  have h : joinL L = joinL (L.take k) ++ joinL (L.drop k) := by rw [← joinL_append, List.take_append_drop]
  rw [h, List.length_append]
  omega
end Go.Proofs.Ytgocmapnnbpceaa.Ln
