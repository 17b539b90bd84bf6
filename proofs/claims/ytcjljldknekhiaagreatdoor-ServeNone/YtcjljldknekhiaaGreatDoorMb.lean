/-
  An append of a string's bytes; one byte more; small words.
-/
import Derived.Test.YtcjljldknekhiaaGreatDoorRw
namespace Go.Proofs.YtcjljldknekhiaaGreatDoor.Ln
open Go.RowKit
set_option linter.unusedVariables false
set_option linter.unusedSimpArgs false

theorem Mid.toG {w : World} {v : Value} {q : Option Nat} {bs : List Nat} (h : Mid w v q bs) : MidG 5 1 w v q bs.length (cellsOf bs) := by
  obtain ⟨hb, x, cap, hv, hc, h0⟩ := h
  refine ⟨by rw [cellsOf_length, Nat.mul_one], cellsOf_one bs, x, cap, hv, hc, ?_⟩
  rcases h0 with h0 | ⟨g, off, cur, hx, hq, hA, h1, h2⟩
  · exact .inl h0
  · exact .inr ⟨g, off, cur, hx, hq, hA, by rw [Nat.mul_one]; exact h1, fun i hi => by rw [cellsOf_length] at hi; rw [h2 i hi, cellsOf_at bs i hi]⟩
theorem MidG.toM {w : World} {v : Value} {q : Option Nat} {n : Nat} {bs : List Nat} (hb : ∀ c ∈ bs, c < 256) (h : MidG 5 1 w v q n (cellsOf bs)) : Mid w v q bs := by
  obtain ⟨hl, _, x, cap, hv, hc, h0⟩ := h
  rw [cellsOf_length, Nat.mul_one] at hl
  subst hl
  refine ⟨hb, x, cap, hv, hc, ?_⟩
  rcases h0 with h0 | ⟨g, off, cur, hx, hq, hA, h1, h2⟩
  · exact .inl h0
  · exact .inr ⟨g, off, cur, hx, hq, hA, by rw [Nat.mul_one] at h1; exact h1, fun i hi => by rw [h2 i (by rw [cellsOf_length]; exact hi), cellsOf_at bs i hi]⟩
/-- An append of a string's bytes. -/
theorem wpList_append_bstr {w : World} {ops : Array Oper} {rest : List Oper} {o : Oper} {a : Act} {Q : Exit → Act → World → Prop} (hgd : o.guard = none) (s t : Operand)
    (ho : o.op = .call { callee := .builtin .append, args := #[s, t], argTypes := #[34, 9] })
    (v : Value) (q : Option Nat) (bs : List Nat) (hs : a.eval s = v) (hM : Mid w v q bs) (A : ByteArray) (hx : a.eval t = .string A) (hl : bs.length + A.size ≤ 1000000000)
    (hK : ∀ y k cap q' w', Mid w' (.slice y k cap) q' (bs ++ ns A) → Keep (fun k => q = some k) w w' → New w q q' → wpList Tryz.prog ops Q rest (a.put o.dst (.slice y k cap)) w') :
    wpList Tryz.prog ops Q (o :: rest) a w := by
  obtain ⟨i0, hi, hz0, hz1, hz2⟩ := info_parts info5
  refine wpList_plain hgd fun K hK' => ?_
  have hM' : MidG 5 i0.size w v q bs.length (cellsOf bs) := by rw [hz1]; exact hM.toG
  have hsrc : Src Tryz.prog i0.size 9 (.string A) A.size (byteCells A) w := by rw [hz1]; exact Src.ofString w Tryz.underlying9 A
  obtain ⟨y, k, cap, q', w', hr, h2, h3, h4⟩ := run_append_midG (t := 34) o.type Tryz.underlying34 hi hz0 (by rw [hz1]; rfl) (by rw [hz1]; decide) (by rw [hz2]; decide) w v q bs.length (cellsOf bs) hM' _ A.size _ hsrc hl
  have e : cellsOf bs ++ byteCells A = cellsOf (bs ++ ns A) := by simp [cellsOf, byteCells, ns]
  rw [hz1, e] at h2
  have h2' := MidG.toM (fun c hc => by
    rcases List.mem_append.1 hc with hc | hc
    · exact hM.1 c hc
    · exact ns_lt A c hc) h2
  unfold Oper.wp execOp
  simp only [ho, resolve, invoke, builtin, Sem.run_bind, Sem.run_pure, Result.andThen_ok, List.map_toArray, List.map_cons, List.map_nil, hs, hx, hr]
  exact hK' _ _ (hK y k cap q' w' h2' h3 h4)
theorem one10 (w : World) : Bytes (fun b => b = w.heap.size) (w.alloc (.cells #[.int .u8 10] 5)) (some ⟨w.heap.size, 0, none⟩) [10] := by
  refine ⟨by simp, .inr ⟨w.heap.size, 0, rfl, rfl, fun i hi => ?_⟩⟩
  have : i = 0 := by simpa using hi
  subst this
  exact cell_of_row _ _ 0 _ _ (0, 0) (heap_alloc_new w _)
def nX : ByteArray := { data := #[120] }
theorem clamp_cell {z : Int} : ((clampS z : Nat) : Int) = min (max z 1) 8192 := by unfold clampS; omega
end Go.Proofs.YtcjljldknekhiaaGreatDoor.Ln
