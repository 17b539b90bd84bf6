/-
  Words for memory: a block that is known whole; which blocks a call may have turned; a slice that reads as bytes; a row of bytes that the call itself made, and an append to it.
-/
import Derived.Test.YtcplemamcgonkaaRows
import Derived.Test.YtcplemamcgonkaaWMath
import Derived.Test.YtcplemamcgonkaaMem
import Derived.WalkKit
import Derived.LoopTactic
import Derived.Lib.Hide
import Derived.Below
import Derived.Deep.AppendLies
import Derived.Deep.MidRow
import Derived.Laws.MakeOwn
import Derived.Laws.BytesArg
namespace Go.Proofs.Ytcplemamcgonkaa.Ln
open Go.RowKit

/-! ### A row of bytes that the call itself made -/
/-- v is nil, or a slice at the head of a row of its own; its bytes are bs. -/
def Own (w : World) (v : Value) (bs : List Nat) : Prop := w.ownsRow 0 5 1 v bs.length (cellsOf bs) ∧ ∀ c ∈ bs, c < 256
section
variable {w w' : World} {v : Value} {bs : List Nat}
theorem Own.empty (w : World) : Own w (.slice none 0 0) [] := ⟨World.ownsRow_nil w 0 5 1, by simp⟩
theorem Own.shape (h : Own w v bs) : ∃ x cap, v = .slice x bs.length cap ∧ Bytes (fun b => v.ownBlock = some b) w x bs := by
  rcases h.1.2 with ⟨rfl, h0⟩ | ⟨g, cap, cur, rfl, _, hg, hnc, hm, hs, ht⟩
  · have : bs = [] := List.eq_nil_of_length_eq_zero h0
    subst this
    exact ⟨_, _, rfl, Bytes.nil _ _ _⟩
  · refine ⟨_, _, rfl, h.2, .inr ⟨g, 0, rfl, rfl, fun i hi => ?_⟩⟩
    rw [cell_of_row w g (0 + i) cur 5 (0, 0) hg, Nat.zero_add, ← cellsOf_at bs i hi, ← ht, Nat.mul_one, List.getElem?_take, if_pos hi, Array.getElem?_toList]
theorem Own.lt (h : Own w v bs) : ∀ k, v.ownBlock = some k → k < w.heap.size := fun k hk => (h.1.lt k hk).2
theorem Own.keep {S : Nat → Prop} (h : Own w v bs) (k : Keep S w w') (hs : ∀ b, v.ownBlock = some b → ¬ S b) : Own w' v bs := by
  refine ⟨⟨h.1.1, ?_⟩, h.2⟩
  rcases h.1.2 with h0 | ⟨g, cap, cur, rfl, hb, hg, r⟩
  · exact .inl h0
  · exact .inr ⟨g, cap, cur, rfl, hb, (k.block g (At.lt (t := 5) hg) (hs g rfl)).trans hg, r⟩
theorem Own.ne {g : Nat} {t : TypeId} {cs : Array Value} (h : Own w v bs) (hg : At w g t cs) (ht : t ≠ 5) : v.ownBlock ≠ some g := by
  rcases h.1.2 with ⟨rfl, _⟩ | ⟨g', cap, cur, rfl, _, hh, _⟩
  · simp [Value.ownBlock]
  · intro he
    have : g' = g := by simpa [Value.ownBlock] using he
    subst this
    exact At.ne (t := 5) hh hg (Ne.symm ht) rfl
theorem Own.made (w : World) (bs : List Nat) (hb : ∀ c ∈ bs, c < 256) (hm : bs.length ≤ maxLen) : Own (w.alloc (.cells (cellsOf bs).toArray 5)) (.slice (some ⟨w.heap.size, 0, none⟩) bs.length bs.length) bs := by
  refine ⟨⟨by simp [cellsOf_length], .inr ⟨w.heap.size, bs.length, _, rfl, Nat.zero_le _, heap_alloc_new w _, Nat.le_refl _, hm, by simp [cellsOf_length], ?_⟩⟩, hb⟩
  simp [← cellsOf_length]
end

set_option maxRecDepth 100000 in
theorem run_append_bytes (ty : TypeId) (w : World) (v : Value) (bs : List Nat) (hown : Own w v bs) (P : Nat → Prop) (x : Option Addr) (m c : Nat) (cs : List Nat) (hm : cs.length = m) (h : Bytes P w x cs) (hl : bs.length + m ≤ 1099511627776) :
    ∃ y cap w', (Builtin.append_ #[24, 24] ty #[v, .slice x m c]).run Try.prog w = .ok (.slice y (bs.length + m) cap) w' ∧ Own w' (.slice y (bs.length + m) cap) (bs ++ cs) ∧
      Keep (fun k => v.ownBlock = some k) w w' ∧ New w v.ownBlock (Value.ownBlock (.slice y (bs.length + m) cap)) := by
  obtain ⟨i0, hi, hz0, hz1, hz2⟩ := info_parts info5
  subst hm
  rcases x with _ | ad
  · have hn : cs = [] := by
      rcases h.2 with h0 | ⟨b, off, _, hx, _⟩
      · exact h0
      · cases hx
    subst hn
    obtain ⟨y, cap, rfl, _⟩ := hown.shape
    refine ⟨y, cap, w, ?_, by simpa using hown, Keep.refl _ _, by simpa using New.refl w _⟩
    rcases hown.1.2 with ⟨h1, h2⟩ | ⟨g, cap', cur, h1, _, _, hnc, _⟩
    · injection h1 with e1 e2 e3
      subst e1 e3
      simp [Builtin.append_, run_underlying Try.underlying24, sizeOf, typeInfo, hi, Builtin.lenOf, Builtin.firstCells, h2]
    · injection h1 with e1 e2 e3
      subst e1 e3
      simp [Builtin.append_, run_underlying Try.underlying24, sizeOf, typeInfo, hi, Builtin.lenOf, Builtin.firstCells, hnc, storeCells]
  · obtain ⟨v', w', hr, h2, h3, _, h5⟩ := run_append_own_at (P := Try.prog) w 0 24 ty 5 i0 _ 1 1 Try.underlying24 hi hz0 hz1 hz2 rfl (by omega) v bs.length (cellsOf bs) hown.1 ad cs.length c (cellsOf cs) (by simp [cellsOf_length]) h.news (cellsOf_one cs) (by simp only [maxLen]; omega) (by omega) (Nat.zero_le _)
    have hO : Own w' v' (bs ++ cs) := ⟨by rw [cellsOf_append, List.length_append]; exact h2, fun c hc => by
      rcases List.mem_append.1 hc with hc | hc
      · exact hown.2 c hc
      · exact h.1 c hc⟩
    obtain ⟨y, cap, rfl, _⟩ := hO.shape
    rw [List.length_append] at hr hO h5
    refine ⟨y, cap, w', hr, hO, (Keep.refl _ w).grown h3 (fun k hk _ => hk), fun k hk => ?_⟩
    rcases h5 with h5 | h5
    · exact .inl (h5.symm.trans hk)
    · rw [h5] at hk
      injection hk with hk
      exact .inr (by omega)

/-- An append of bytes to a row of the call's own, at the list of a region's operations. -/
theorem wpList_append_bytes {w : World} {ops : Array Oper} {rest : List Oper} {o : Oper} {a : Act} {Q : Exit → Act → World → Prop} (hgd : o.guard = none) (s t : Operand)
    (ho : o.op = .call { callee := .builtin .append, args := #[s, t], argTypes := #[24, 24] })
    (v : Value) (bs : List Nat) (hs : a.eval s = v) (hown : Own w v bs) (P : Nat → Prop) (x : Option Addr) (m c : Nat) (cs : List Nat) (hx : a.eval t = .slice x m c) (hm : cs.length = m) (h : Bytes P w x cs) (hl : bs.length + m ≤ 1099511627776)
    (hK : ∀ y n cap w', Hid (n = (bs ++ cs).length) → Own w' (.slice y n cap) (bs ++ cs) → Keep (fun k => v.ownBlock = some k) w w' → New w v.ownBlock (Value.ownBlock (.slice y n cap)) → wpList Try.prog ops Q rest (a.put o.dst (.slice y n cap)) w') :
    wpList Try.prog ops Q (o :: rest) a w := by
  refine wpList_plain hgd fun K hK' => ?_
  obtain ⟨y, cap, w', hr, h2, h3, h4⟩ := run_append_bytes o.type w v bs hown P x m c cs hm h hl
  unfold Oper.wp execOp
  simp only [ho, resolve, invoke, builtin, Sem.run_bind, Sem.run_pure, Result.andThen_ok, List.map_toArray, List.map_cons, List.map_nil, hs, hx, hr]
  exact hK' _ _ (hK y _ cap w' (Lib.hid (by rw [List.length_append, hm])) h2 h3 h4)
/-- The same as a step of a region that draws its order. -/
theorem step_append_bytes {w : World} {ops : Array Oper} {o : Oper} {a : Act} {K : Act → World → Prop} {Q : Exit → Act → World → Prop} {E : Prop} (hgd : o.guard = none) (s t : Operand)
    (ho : o.op = .call { callee := .builtin .append, args := #[s, t], argTypes := #[24, 24] })
    (v : Value) (bs : List Nat) (hs : a.eval s = v) (hown : Own w v bs) (P : Nat → Prop) (x : Option Addr) (m c : Nat) (cs : List Nat) (hx : a.eval t = .slice x m c) (hm : cs.length = m) (h : Bytes P w x cs) (hl : bs.length + m ≤ 1099511627776)
    (hK : ∀ y n cap w', Hid (n = (bs ++ cs).length) → Own w' (.slice y n cap) (bs ++ cs) → Keep (fun k => v.ownBlock = some k) w w' → New w v.ownBlock (Value.ownBlock (.slice y n cap)) → K (a.put o.dst (.slice y n cap)) w') :
    if Region.wanted o (yielded ops a.tmps) = true then Oper.wp Try.prog o a w K Q else E := by
  have hw : Region.wanted o (yielded ops a.tmps) = true := by simp [Region.wanted, hgd]
  rw [if_pos hw]
  obtain ⟨y, cap, w', hr, h2, h3, h4⟩ := run_append_bytes o.type w v bs hown P x m c cs hm h hl
  unfold Oper.wp execOp
  simp only [ho, resolve, invoke, builtin, Sem.run_bind, Sem.run_pure, Result.andThen_ok, List.map_toArray, List.map_cons, List.map_nil, hs, hx, hr]
  exact hK y _ cap w' (Lib.hid (by rw [List.length_append, hm])) h2 h3 h4


end Go.Proofs.Ytcplemamcgonkaa.Ln
