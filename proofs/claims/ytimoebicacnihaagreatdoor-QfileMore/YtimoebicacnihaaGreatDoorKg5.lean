/-
  Several texts in one: WOwn WTake WRead WRef WEye.
-/
import Derived.Test.YtimoebicacnihaaGreatDoorRows
import Derived.Test.YtimoebicacnihaaGreatDoorKWMath
import Derived.Test.YtimoebicacnihaaGreatDoorKg1
import Derived.WalkKit
import Derived.LoopTactic
import Derived.Lib.Hide
import Derived.Below
import Derived.Deep.AppendLies
import Derived.Deep.MidRow
import Derived.Laws.MakeOwn
import Derived.Laws.BytesArg
import Derived.Laws.CopyOwn
import Derived.Deep.WholeRow
import Derived.IntWalk

section
/-
  Words for memory: a block that is known whole; which blocks a call may have turned; a slice that reads as bytes; a row of bytes that the call itself made, and an append to it.
-/
namespace Go.Proofs.YtimoebicacnihaaGreatDoor.Ln
open Go.RowKit

/-! ### A row of bytes that the call itself made -/
/-- v is nil, or a slice at the head of a row of its own; its bytes are bs. -/
def Own (w : World) (v : Value) (bs : List Nat) : Prop := w.ownsRow 0 5 1 v bs.length (cellsOf bs) ∧ ∀ c ∈ bs, c < 256
section
variable {w w' : World} {v : Value} {bs : List Nat}
theorem Own.empty (w : World) : Own w (.slice none 0 0) [] := ⟨World.ownsRow_nil w 0 5 1, by simp⟩
theorem Own.shape (h : Own w v bs) : ∃ x cap, v = .slice x bs.length cap ∧ Bytes (fun b => v.ownBlock = some b) w x bs := by
  rcases h.1.2 with ⟨rfl, h0⟩ | ⟨g, cap, cur, rfl, _, hg, hnc, hm, hs, ht⟩
  · have : bs = [] := List.eq_nil_of_length_eq_zero h0
    subst this
    exact ⟨_, _, rfl, Bytes.nil _ _ _⟩
  · refine ⟨_, _, rfl, h.2, .inr ⟨g, 0, rfl, rfl, fun i hi => ?_⟩⟩
    rw [cell_of_row w g (0 + i) cur 5 (0, 0) hg, Nat.zero_add, ← cellsOf_at bs i hi, ← ht, Nat.mul_one, List.getElem?_take, if_pos hi, Array.getElem?_toList]
theorem Own.lt (h : Own w v bs) : ∀ k, v.ownBlock = some k → k < w.heap.size := fun k hk => (h.1.lt k hk).2
theorem Own.keep {S : Nat → Prop} (h : Own w v bs) (k : Keep S w w') (hs : ∀ b, v.ownBlock = some b → ¬ S b) : Own w' v bs := by
  refine ⟨⟨h.1.1, ?_⟩, h.2⟩
  rcases h.1.2 with h0 | ⟨g, cap, cur, rfl, hb, hg, r⟩
  · exact .inl h0
  · exact .inr ⟨g, cap, cur, rfl, hb, (k.block g (At.lt (t := 5) hg) (hs g rfl)).trans hg, r⟩
theorem Own.ne {g : Nat} {t : TypeId} {cs : Array Value} (h : Own w v bs) (hg : At w g t cs) (ht : t ≠ 5) : v.ownBlock ≠ some g := by
  rcases h.1.2 with ⟨rfl, _⟩ | ⟨g', cap, cur, rfl, _, hh, _⟩
  · simp [Value.ownBlock]
  · intro he
    have : g' = g := by simpa [Value.ownBlock] using he
    subst this
    exact At.ne (t := 5) hh hg (Ne.symm ht) rfl
theorem Own.made (w : World) (bs : List Nat) (hb : ∀ c ∈ bs, c < 256) (hm : bs.length ≤ maxLen) : Own (w.alloc (.cells (cellsOf bs).toArray 5)) (.slice (some ⟨w.heap.size, 0, none⟩) bs.length bs.length) bs := by
  refine ⟨⟨by simp [cellsOf_length], .inr ⟨w.heap.size, bs.length, _, rfl, Nat.zero_le _, heap_alloc_new w _, Nat.le_refl _, hm, by simp [cellsOf_length], ?_⟩⟩, hb⟩
  simp [← cellsOf_length]
end

set_option maxRecDepth 100000 in
theorem run_append_bytes (ty : TypeId) (w : World) (v : Value) (bs : List Nat) (hown : Own w v bs) (P : Nat → Prop) (x : Option Addr) (m c : Nat) (cs : List Nat) (hm : cs.length = m) (h : Bytes P w x cs) (hl : bs.length + m ≤ 1099511627776) :
    ∃ y cap w', (Builtin.append_ #[23, 23] ty #[v, .slice x m c]).run Tryz.prog w = .ok (.slice y (bs.length + m) cap) w' ∧ Own w' (.slice y (bs.length + m) cap) (bs ++ cs) ∧
      Keep (fun k => v.ownBlock = some k) w w' ∧ New w v.ownBlock (Value.ownBlock (.slice y (bs.length + m) cap)) := by
  obtain ⟨i0, hi, hz0, hz1, hz2⟩ := info_parts info5
  subst hm
  rcases x with _ | ad
  · have hn : cs = [] := by
      rcases h.2 with h0 | ⟨b, off, _, hx, _⟩
      · exact h0
      · cases hx
    subst hn
    obtain ⟨y, cap, rfl, _⟩ := hown.shape
    refine ⟨y, cap, w, ?_, by simpa using hown, Keep.refl _ _, by simpa using New.refl w _⟩
    rcases hown.1.2 with ⟨h1, h2⟩ | ⟨g, cap', cur, h1, _, _, hnc, _⟩
    · injection h1 with e1 e2 e3
      subst e1 e3
      simp [Builtin.append_, run_underlying Tryz.underlying23, sizeOf, typeInfo, hi, Builtin.lenOf, Builtin.firstCells, h2]
    · injection h1 with e1 e2 e3
      subst e1 e3
      simp [Builtin.append_, run_underlying Tryz.underlying23, sizeOf, typeInfo, hi, Builtin.lenOf, Builtin.firstCells, hnc, storeCells]
  · obtain ⟨v', w', hr, h2, h3, _, h5⟩ := run_append_own_at (P := Tryz.prog) w 0 23 ty 5 i0 _ 1 1 Tryz.underlying23 hi hz0 hz1 hz2 rfl (by omega) v bs.length (cellsOf bs) hown.1 ad cs.length c (cellsOf cs) (by simp [cellsOf_length]) h.news (cellsOf_one cs) (by simp only [maxLen]; omega) (by omega) (Nat.zero_le _)
    have hO : Own w' v' (bs ++ cs) := ⟨by rw [cellsOf_append, List.length_append]; exact h2, fun c hc => by
      rcases List.mem_append.1 hc with hc | hc
      · exact hown.2 c hc
      · exact h.1 c hc⟩
    obtain ⟨y, cap, rfl, _⟩ := hO.shape
    rw [List.length_append] at hr hO h5
    refine ⟨y, cap, w', hr, hO, (Keep.refl _ w).grown h3 (fun k hk _ => hk), fun k hk => ?_⟩
    rcases h5 with h5 | h5
    · exact .inl (h5.symm.trans hk)
    · rw [h5] at hk
      injection hk with hk
      exact .inr (by omega)

/-- An append of bytes to a row of the call's own, at the list of a region's operations. -/
theorem wpList_append_bytes {w : World} {ops : Array Oper} {rest : List Oper} {o : Oper} {a : Act} {Q : Exit → Act → World → Prop} (hgd : o.guard = none) (s t : Operand)
    (ho : o.op = .call { callee := .builtin .append, args := #[s, t], argTypes := #[23, 23] })
    (v : Value) (bs : List Nat) (hs : a.eval s = v) (hown : Own w v bs) (P : Nat → Prop) (x : Option Addr) (m c : Nat) (cs : List Nat) (hx : a.eval t = .slice x m c) (hm : cs.length = m) (h : Bytes P w x cs) (hl : bs.length + m ≤ 1099511627776)
    (hK : ∀ y n cap w', Hid (n = (bs ++ cs).length) → Own w' (.slice y n cap) (bs ++ cs) → Keep (fun k => v.ownBlock = some k) w w' → New w v.ownBlock (Value.ownBlock (.slice y n cap)) → wpList Tryz.prog ops Q rest (a.put o.dst (.slice y n cap)) w') :
    wpList Tryz.prog ops Q (o :: rest) a w := by
  refine wpList_plain hgd fun K hK' => ?_
  obtain ⟨y, cap, w', hr, h2, h3, h4⟩ := run_append_bytes o.type w v bs hown P x m c cs hm h hl
  unfold Oper.wp execOp
  simp only [ho, resolve, invoke, builtin, Sem.run_bind, Sem.run_pure, Result.andThen_ok, List.map_toArray, List.map_cons, List.map_nil, hs, hx, hr]
  exact hK' _ _ (hK y _ cap w' (Lib.hid (by rw [List.length_append, hm])) h2 h3 h4)
/-- The same as a step of a region that draws its order. -/
theorem step_append_bytes {w : World} {ops : Array Oper} {o : Oper} {a : Act} {K : Act → World → Prop} {Q : Exit → Act → World → Prop} {E : Prop} (hgd : o.guard = none) (s t : Operand)
    (ho : o.op = .call { callee := .builtin .append, args := #[s, t], argTypes := #[23, 23] })
    (v : Value) (bs : List Nat) (hs : a.eval s = v) (hown : Own w v bs) (P : Nat → Prop) (x : Option Addr) (m c : Nat) (cs : List Nat) (hx : a.eval t = .slice x m c) (hm : cs.length = m) (h : Bytes P w x cs) (hl : bs.length + m ≤ 1099511627776)
    (hK : ∀ y n cap w', Hid (n = (bs ++ cs).length) → Own w' (.slice y n cap) (bs ++ cs) → Keep (fun k => v.ownBlock = some k) w w' → New w v.ownBlock (Value.ownBlock (.slice y n cap)) → K (a.put o.dst (.slice y n cap)) w') :
    if Region.wanted o (yielded ops a.tmps) = true then Oper.wp Tryz.prog o a w K Q else E := by
  have hw : Region.wanted o (yielded ops a.tmps) = true := by simp [Region.wanted, hgd]
  rw [if_pos hw]
  obtain ⟨y, cap, w', hr, h2, h3, h4⟩ := run_append_bytes o.type w v bs hown P x m c cs hm h hl
  unfold Oper.wp execOp
  simp only [ho, resolve, invoke, builtin, Sem.run_bind, Sem.run_pure, Result.andThen_ok, List.map_toArray, List.map_cons, List.map_nil, hs, hx, hr]
  exact hK y _ cap w' (Lib.hid (by rw [List.length_append, hm])) h2 h3 h4


end Go.Proofs.YtimoebicacnihaaGreatDoor.Ln
end

section
/-
  What the program's 'fail', 'take', 'copied', 'Read' and 'Done' return, for every reader and all bytes.
-/
namespace Go.Proofs.YtimoebicacnihaaGreatDoor.Ln
open Go.RowKit

/-! ### Cuts -/
theorem cut_pre3 (x : Option Addr) (L C n : Nat) (hn : n ≤ C) :
    (∀ w, (Instr.slice 23 (.slice x L C) none (some (.int .i64 (n : Int))) (some (.int .i64 (n : Int)))).run Tryz.prog w = .ok (.slice x n n) w) ∧
    (∀ w, (Instr.sliceAt 23 (.slice x L C) none (some (.int .i64 (n : Int))) (some (.int .i64 (n : Int)))).run Tryz.prog w = .ok (.slice x n n) w) := by
  obtain ⟨i0, hi, hz0, hz1, hz2⟩ := info_parts info5
  have h1 : (n : Int) ≤ (C : Int) := by omega
  have r : ∀ w, (Instr.slice 23 (.slice x L C) none (some (.int .i64 (n : Int))) (some (.int .i64 (n : Int)))).run Tryz.prog w = .ok (.slice x n n) w := by
    intro w
    have hb : ∀ code, (Instr.sliceBound (.int .i64 (n : Int)) C code).run Tryz.prog w = .ok n w := by
      intro code; simp [Instr.sliceBound, asIntOf, h1]
    have hc : ∀ code, (Instr.sliceBound (.int .i64 (n : Int)) n code).run Tryz.prog w = .ok n w := by
      intro code; simp [Instr.sliceBound, asIntOf]
    have e : (if n = 0 then x else x.map (fun a => a.add 0)) = x := by
      rcases x with _ | a <;> simp [Addr.add]
    simp [Instr.slice, run_underlying Tryz.underlying23, Instr.sliceBounds, hb, hc, sizeOf, typeInfo, hi]
    simpa using e
  refine ⟨r, fun w => ?_⟩
  rw [← r w]
  simp [Instr.sliceAt, run_underlying Tryz.underlying23]
theorem wcut_pre (x : Option Addr) (L C n : Nat) (hn : n ≤ C) :
    (∀ w, (Instr.slice 23 (.slice x L C) none (some (.int .i64 (n : Int))) none).run Tryz.prog w = .ok (.slice x n C) w) ∧
    (∀ w, (Instr.sliceAt 23 (.slice x L C) none (some (.int .i64 (n : Int))) none).run Tryz.prog w = .ok (.slice x n C) w) := by
  obtain ⟨i0, hi, hz0, hz1, hz2⟩ := info_parts info5
  have h1 : (n : Int) ≤ (C : Int) := by omega
  have r : ∀ w, (Instr.slice 23 (.slice x L C) none (some (.int .i64 (n : Int))) none).run Tryz.prog w = .ok (.slice x n C) w := by
    intro w
    have hb : ∀ code, (Instr.sliceBound (.int .i64 (n : Int)) C code).run Tryz.prog w = .ok n w := by
      intro code; simp [Instr.sliceBound, asIntOf, h1]
    have e : (if C = 0 then x else x.map (fun a => a.add 0)) = x := by
      rcases x with _ | a <;> simp [Addr.add]
    simp [Instr.slice, run_underlying Tryz.underlying23, Instr.sliceBounds, hb, sizeOf, typeInfo, hi]
    simpa using e
  refine ⟨r, fun w => ?_⟩
  rw [← r w]
  simp [Instr.sliceAt, run_underlying Tryz.underlying23]
theorem wcut_drop (x : Option Addr) (L C n : Nat) (hn : n ≤ L) (hL : L ≤ C) :
    ∃ y, (∀ w, (Instr.slice 23 (.slice x L C) (some (.int .i64 (n : Int))) none none).run Tryz.prog w = .ok (.slice y (L - n) (C - n)) w) ∧
    (∀ w, (Instr.sliceAt 23 (.slice x L C) (some (.int .i64 (n : Int))) none none).run Tryz.prog w = .ok (.slice y (L - n) (C - n)) w) ∧
    ∀ (P : Nat → Prop) (w : World) (bs : List Nat), bs.length = L → Bytes P w x bs → Bytes P w y (bs.drop n) := by
  obtain ⟨i0, hi, hz0, hz1, hz2⟩ := info_parts info5
  have h1 : (n : Int) ≤ (L : Int) := by omega
  have r : ∀ w, (Instr.slice 23 (.slice x L C) (some (.int .i64 (n : Int))) none none).run Tryz.prog w = .ok (.slice (if C = n then x else x.map (fun a => a.add n)) (L - n) (C - n)) w := by
    intro w
    have hb : ∀ code, (Instr.sliceBound (.int .i64 (n : Int)) L code).run Tryz.prog w = .ok n w := by
      intro code; simp [Instr.sliceBound, asIntOf, h1]
    simp [Instr.slice, run_underlying Tryz.underlying23, Instr.sliceBounds, hb, sizeOf, typeInfo, hi, hz1]
  refine ⟨_, r, fun w => ?_, ?_⟩
  · rw [← r w]
    simp [Instr.sliceAt, run_underlying Tryz.underlying23]
  · intro P w bs hl h
    refine ⟨fun c hc => h.1 c (List.mem_of_mem_drop hc), ?_⟩
    by_cases h0 : n = bs.length
    · left; rw [h0]; simp
    · right
      rcases h.2 with h2 | ⟨b, off, hp, rfl, hc⟩
      · subst h2; simp at hl h0; omega
      · rw [if_neg (by omega)]
        refine ⟨b, off + n, hp, by simp [Addr.add_mid], fun i hi => ?_⟩
        have hi' : n + i < bs.length := by simp at hi; omega
        rw [Nat.add_assoc, hc (n + i) hi']
        simp

/-! ### Readers -/
/-- The reader in block p stands at s; what it reads lies in a block of P. -/
def Rd (P : Nat → Prop) (w : World) (p : Nat) : Option (List Nat) → Prop
  | none => At w p 95 #[.slice none 0 0, .bool true]
  | some bs => ∃ x, At w p 95 #[.slice x bs.length bs.length, .bool false] ∧ Bytes P w x bs
theorem Rd.at {P : Nat → Prop} {w : World} {p : Nat} {s : Option (List Nat)} (h : Rd P w p s) : ∃ cs, At w p 95 cs := by
  rcases s with _ | bs
  · exact ⟨_, h⟩
  · obtain ⟨x, h, _⟩ := h
    exact ⟨_, h⟩
theorem Rd.keep {P S : Nat → Prop} {w w' : World} {p : Nat} {s : Option (List Nat)} (h : Rd P w p s) (k : Keep S w w') (hp : ¬ S p) (hs : ∀ b, b < w.heap.size → P b → ¬ S b) : Rd P w' p s := by
  rcases s with _ | bs
  · exact At.keep h k hp
  · obtain ⟨x, h1, h2⟩ := h
    exact ⟨x, h1.keep k hp, h2.keep k hs⟩

set_option maxHeartbeats 400000 in
theorem fail (p : Nat) (v u : Value) (w : World) (h : At w p 95 #[v, u]) :
    Calls Tryz.prog 63 #[.pointer (some ⟨p, 0, none⟩)] w fun e w' => e = .returned (.tuple #[]) ∧ At w' p 95 #[.slice none 0 0, .bool true] ∧ Keep (· = p) w w' := by
  have c0 := h.cell 0
  have c1 := h.cell 1
  have f0 := h.frozen 0
  have f1 := h.frozen 1
  have H := Lib.hid h
  simp at c0 c1
  clear h
  go_enter Tryz.func63, Tryz.ntmps63
  go_wp2
  go_end0
  refine ⟨rfl, ?_, ?_⟩
  · have := (H.out.put 0 (.slice none 0 0)).put 1 (.bool true)
    exact this
  · exact ((Keep.refl (· = p) w).setCell (p := ⟨p, 0, none⟩) (fun _ => rfl) _).setCell (p := ⟨p, 1, none⟩) (fun _ => rfl) _

/-- What 'take' answers. -/
def Took (P : Nat → Prop) (p n : Nat) (s : Option (List Nat)) (w : World) (e : Ending) (w' : World) : Prop :=
  ∃ x m, m = (takeV n s).length ∧ e = .returned (.tuple #[.slice x m m, .bool (takeOk n s)]) ∧ Bytes P w' x (takeV n s) ∧ Rd P w' p (takeS n s) ∧ Keep (· = p) w w'

set_option maxHeartbeats 1000000 in
theorem take (P : Nat → Prop) (p : Nat) (hP : ¬ P p) (n : Nat) (s : Option (List Nat)) (w : World) (h : Rd P w p s) :
    Calls Tryz.prog 62 #[.pointer (some ⟨p, 0, none⟩), .int .i64 (n : Int)] w (Took P p n s w) := by
  rcases s with _ | bs
  · have hA : At w p 95 #[.slice none 0 0, .bool true] := h
    have c0 := hA.cell 0
    have c1 := hA.cell 1
    simp at c0 c1
    have H := Lib.hid h
    clear h hA
    go_enter Tryz.func62, Tryz.ntmps62
    go_wp2
    go_ret2
    exact ⟨none, 0, rfl, rfl, Bytes.nil _ _ _, H.out, Keep.refl _ _⟩
  · obtain ⟨x, hA, hB⟩ := h
    have c0 := hA.cell 0
    have c1 := hA.cell 1
    have f0 := hA.frozen 0
    simp at c0 c1
    have HA := Lib.hid hA
    have HB := Lib.hid hB
    clear hA hB
    obtain ⟨L, hL⟩ : ∃ L, L = bs.length := ⟨_, rfl⟩
    rw [← hL] at c0 HA
    have HL := Lib.hid hL
    clear hL
    by_cases hle : (n : Int) ≤ (L : Int)
    · have hle' : n ≤ bs.length := by have := HL.out; omega
      obtain ⟨s1, s2⟩ := cut_pre3 x L L n (by omega)
      obtain ⟨y, s3, s4, hy⟩ := wcut_drop x L L n (by omega) (Nat.le_refl _)
      have HY := Lib.hid hy
      have HE := Lib.hid hle'
      clear hy hle'
      have hlt : ¬ ((L : Int) < (n : Int)) := by omega
      go_enter Tryz.func62, Tryz.ntmps62
      go_wp2
      go_ret2
      have k : Keep (· = p) w (w.setCell ⟨p, 0, none⟩ (.slice y (L - n) (L - n))) := (Keep.refl (· = p) w).setCell (p := ⟨p, 0, none⟩) (fun _ => rfl) _
      refine ⟨x, n, ?_, ?_, ?_, ?_, k⟩
      · rw [takeV_ok HE.out]; have := HE.out; simp; omega
      · rw [takeOk_ok HE.out]; rfl
      · rw [takeV_ok HE.out]; exact (HB.out.take n).keep k (fun b _ hb e => hP (e ▸ hb))
      · rw [takeS_ok HE.out]
        refine ⟨y, ?_, (HY.out P w bs HL.out.symm HB.out).keep k (fun b _ hb e => hP (e ▸ hb))⟩
        have := HA.out.put 0 (.slice y (L - n) (L - n))
        rw [List.length_drop, ← HL.out]
        exact this
    · have hno : ¬ n ≤ bs.length := by have := HL.out; omega
      have HE := Lib.hid hno
      clear hno
      have hlt : (L : Int) < (n : Int) := by omega
      go_enter Tryz.func62, Tryz.ntmps62
      go_wp2_with (go_at_call 63; refine (fail p _ _ w HA.out).mono ?_; rintro e w1 ⟨rfl, hat, hk⟩)
      go_ret2
      refine ⟨none, 0, ?_, ?_, ?_, ?_, hk⟩
      · rw [takeV_no (takeOk_no HE.out)]; rfl
      · rw [takeOk_no HE.out]; rfl
      · rw [takeV_no (takeOk_no HE.out)]; exact Bytes.nil _ _ _
      · rw [takeS_no (takeOk_no HE.out)]; exact hat

set_option maxHeartbeats 400000 in
theorem takeNil (n : Nat) (w : World) : Calls Tryz.prog 62 #[.pointer none, .int .i64 (n : Int)] w fun e w' => e = .returned (.tuple #[.slice none 0 0, .bool false]) ∧ w = w' := by
  go_enter Tryz.func62, Tryz.ntmps62
  go_wp2
  go_ret2
  exact ⟨rfl, rfl⟩

set_option maxHeartbeats 400000 in
theorem done (P : Nat → Prop) (p : Nat) (s : Option (List Nat)) (w : World) (h : Rd P w p s) :
    Calls Tryz.prog 53 #[.pointer (some ⟨p, 0, none⟩)] w fun e w' => e = .returned (.bool (doneB s)) ∧ w = w' := by
  rcases s with _ | bs
  · have hA : At w p 95 #[.slice none 0 0, .bool true] := h
    have c0 := hA.cell 0
    have c1 := hA.cell 1
    simp at c0 c1
    clear h hA
    go_enter Tryz.func53, Tryz.ntmps53
    go_wp2
    go_ret
    exact ⟨rfl, rfl⟩
  · obtain ⟨x, hA, hB⟩ := h
    have c0 := hA.cell 0
    have c1 := hA.cell 1
    simp at c0 c1
    clear hA hB
    by_cases h0 : bs = []
    · subst h0
      go_enter Tryz.func53, Tryz.ntmps53
      go_wp2
      go_ret
      exact ⟨rfl, rfl⟩
    · obtain ⟨L, hL⟩ : ∃ L, L = bs.length := ⟨_, rfl⟩
      rw [← hL] at c0
      have hL0 : 0 < L := by rw [hL]; exact List.length_pos_iff.2 h0
      have HD : Hid (doneB (some bs) = false) := by show _ = _; simp [doneB, h0]
      have hq : ((L : Int) == 0) = false := by simp; omega
      clear hL h0
      go_enter Tryz.func53, Tryz.ntmps53
      go_wp2
      go_ret
      rw [HD.out]
      exact ⟨rfl, rfl⟩
set_option maxHeartbeats 400000 in
theorem doneNil (w : World) : Calls Tryz.prog 53 #[.pointer none] w fun e w' => e = .returned (.bool false) ∧ w = w' := by
  go_enter Tryz.func53, Tryz.ntmps53
  go_wp2
  go_ret
  exact ⟨rfl, rfl⟩

/-- 'make([]byte, n)'. -/
theorem make_u8 (N : Nat) (hN : N ≤ 1099511627776) : ∀ w, (Instr.makeSlice 23 (.int .i64 (N : Int)) (.int .i64 (N : Int))).run Tryz.prog w = .ok (.slice (some ⟨w.heap.size, 0, none⟩) N N) (w.alloc (.cells (madeCells #[.int .u8 0] N) 5)) := by
  intro w
  obtain ⟨i0, hi, hz0, hz1, hz2⟩ := info_parts info5
  have h := run_make (P := Tryz.prog) w 23 5 i0 (.int .u8 0) Tryz.underlying23 hi hz0 .i64 .i64 N N (by omega) (by omega) (by rw [hz2]; omega) (by omega)
  rw [hz1] at h
  simpa [Value.cells] using h
theorem madeCells_size (N : Nat) : (madeCells #[.int .u8 0] N).size = N := by simp [madeCells]

/-- What 'copied' answers: a row of its own, of just these bytes. -/
def Copy (bs : List Nat) (w : World) (e : Ending) (w' : World) : Prop :=
  ∃ g m, m = bs.length ∧ w.heap.size ≤ g ∧ e = .returned (.slice (some ⟨g, 0, none⟩) m m) ∧ At w' g 5 (cellsOf bs).toArray ∧ Keep (fun _ => False) w w'

set_option maxHeartbeats 1000000 in
theorem copied (P : Nat → Prop) (x : Option Addr) (n cap : Nat) (bs : List Nat) (hn : bs.length = n) (hl : n ≤ 1099511627776) (w : World) (h : Bytes P w x bs) :
    Calls Tryz.prog 61 #[.slice x n cap] w (Copy bs w) := by
  have hmk := make_u8 n hl
  have HB := Lib.hid h
  have HN := Lib.hid hn
  clear h hn
  go_enter Tryz.func61, Tryz.ntmps61
  go_wp2_with (
    (refine wpList_copy_splice (by rfl) (.tmp 7) (.tmp 8) 23 23 (by rfl) 5 Tryz.underlying23 (by kernel_rfl) (some ⟨w.heap.size, 0, none⟩) x n n n cap (by rfl) (by rfl) w.heap.size 0 (madeCells #[.int .u8 0] n).toList 5 (by simpa using heap_alloc_new w _)
      (cellsOf bs) (by rw [cellsOf_length, HN.out]; simp) ?hpos (by simp [cellsOf_length, HN.out, madeCells_size]) (cellsOf_one bs) w.heap.size w ((Below.refl _ w).alloc (Nat.le_refl _) _) (Nat.le_refl _) ?_
     case hpos =>
       intro h0
       rw [cellsOf_length] at h0
       obtain ⟨b, off, _, rfl, hc⟩ := HB.out.at 0 h0
       refine ⟨rfl, _, rfl, fun j v hj => ?_⟩
       have := HB.out.news j v hj
       rw [Addr.add_mid] at this ⊢
       rw [World.cell?_alloc_past _ _ _ (block_lt_of_cell hc)]
       exact this
     intro w1 HW hb1))
  go_ret
  refine ⟨w.heap.size, n, HN.out.symm, Nat.le_refl _, rfl, ?_, Keep.of_below hb1⟩
  have := HW.out
  have e : splice (madeCells #[.int .u8 0] n).toList 0 (cellsOf bs) = cellsOf bs := by
    simp only [splice, List.take_zero, List.nil_append, Nat.zero_add]
    rw [List.drop_of_length_le (by simp [cellsOf_length, HN.out, madeCells_size]), List.append_nil]
  rw [e] at this
  exact this

end Go.Proofs.YtimoebicacnihaaGreatDoor.Ln
end

section
/-
  What the program's 'Read', '(*Reader).Num' and '(*Reader).Bytes' return, for every reader and all bytes.
-/
namespace Go.Proofs.YtimoebicacnihaaGreatDoor.Ln
open Go.RowKit

/-- What 'Read' answers: a reader of its own, with a copy of its own. -/
def ReadP (bs : List Nat) (w : World) (e : Ending) (w' : World) : Prop :=
  ∃ p g, e = .returned (.pointer (some ⟨p, 0, none⟩)) ∧ w.heap.size ≤ p ∧ w.heap.size ≤ g ∧ g ≠ p ∧ Rd (· = g) w' p (some bs) ∧ Keep (fun _ => False) w w' ∧ g < w'.heap.size

set_option maxHeartbeats 1000000 in
theorem read (P : Nat → Prop) (x : Option Addr) (n cap : Nat) (bs : List Nat) (hn : bs.length = n) (hl : n ≤ 1099511627776) (w : World) (h : Bytes P w x bs) :
    Calls Tryz.prog 48 #[.slice x n cap] w (ReadP bs w) := by
  have HB := Lib.hid h
  have HN := Lib.hid hn
  clear h hn
  go_enter Tryz.func48, Tryz.ntmps48
  go_wp2_with (go_at_call 61; refine (copied P x n cap bs HN.out hl w HB.out).mono ?_; rintro e w1 ⟨g, m, hm, hg, rfl, hat, hk⟩; have HM := Lib.hid hm; clear hm)
  go_ret
  have hlt := hat.lt
  refine ⟨w1.heap.size, g, rfl, hk.size, hg, by omega, ⟨some ⟨g, 0, none⟩, ?_, (Bytes.of_at (hat.alloc _) HB.out.1)⟩, hk.alloc _, by simp; omega⟩
  rw [← HM.out]
  exact At.new w1 95 _

theorem shl8 (X : Nat) (h : X < 72057594037927936) : IntKind.u64.wrap ((X : Int) * 256) = ((X * 256 : Nat) : Int) := by
  simp only [IntKind.wrap, IntKind.bits, IntKind.signed]
  simp
  omega
theorem or8 (X c : Nat) (h : X < 72057594037927936) (hc : c < 256) : bits .or .u64 ((X : Int) * 256) (c : Int) = ((X * 256 + c : Nat) : Int) := by
  have := u64_or_nat (X * 256) c (by omega) (by omega)
  rw [or_low X c hc] at this
  rw [← this]
  rfl

/-- What 'Num' answers. -/
def NumP (P : Nat → Prop) (p : Nat) (s : Option (List Nat)) (w : World) (e : Ending) (w' : World) : Prop :=
  e = .returned (.tuple #[.int .i64 ((numV s : Nat) : Int), .bool (numOk s)]) ∧ Rd P w' p (numS s) ∧ Keep (· = p) w w'

set_option maxHeartbeats 1000000 in
theorem num (P : Nat → Prop) (p : Nat) (hP : ¬ P p) (s : Option (List Nat)) (w : World) (h : Rd P w p s) :
    Calls Tryz.prog 49 #[.pointer (some ⟨p, 0, none⟩)] w (NumP P p s w) := by
  have H := Lib.hid h
  clear h
  cases hok : takeOk 8 s with
  | false =>
    have HN : Hid (numOk s = false) := by show _ = _; simp [numOk, hok]
    go_enter Tryz.func49, Tryz.ntmps49
    go_wp2_with (go_at_call 62; refine (take P p hP 8 s w H.out).mono ?_; rintro e w1 ⟨x, m, hm, rfl, hB, hR, hk⟩; have HM := Lib.hid hm; clear hm)
    go_ret2
    refine ⟨?_, ?_, hk⟩
    · rw [numV_no HN.out, HN.out]; rfl
    · rw [numS_no HN.out, ← takeS_no hok]; exact hR
  | true =>
    obtain ⟨bs, rfl, h8⟩ : ∃ bs, s = some bs ∧ 8 ≤ bs.length := by
      rcases s with _ | bs
      · cases hok
      · exact ⟨bs, rfl, by simpa [takeOk] using hok⟩
    have HV : Hid (takeV 8 (some bs) = bs.take 8) := takeV_ok h8
    have HS : Hid (takeS 8 (some bs) = some (bs.drop 8)) := takeS_ok h8
    have H8 := Lib.hid h8
    clear h8
    go_enter Tryz.func49, Tryz.ntmps49
    go_wp2_with (go_at_call 62; refine (take P p hP 8 (some bs) w H.out).mono ?_; rintro e w1 ⟨x, m, hm, rfl, hB, hR, hk⟩; obtain rfl : m = 8 := (by rw [hm, HV.out]; have := H8.out; simp; omega); clear hm; have HB := Lib.hid hB; have HR := Lib.hid hR; clear hB hR)
    obtain ⟨V, hV⟩ : ∃ V, V = bs.take 8 := ⟨_, rfl⟩
    have HVb : Hid (∀ c ∈ V, c < 256) := by show ∀ c ∈ V, c < 256; have := HB.out.1; rw [HV.out, ← hV] at this; exact this
    have HVl : Hid (V.length = 8) := by show V.length = 8; have := H8.out; rw [hV]; simp; omega
    have HBV : Hid (Bytes P w1 x V) := by show Bytes P w1 x V; have := HB.out; rw [HV.out, ← hV] at this; exact this
    have HVd := Lib.hid hV
    clear hV
    go_loop [6, 15] (fun t i => ∃ k X : Nat, k ≤ 8 ∧ X < 18446744073709551616 ∧ i = .int .i64 (k : Int) ∧ t = .int .u64 (X : Int) ∧ Hid (X = val (V.take k))) (fun _ i => 8 - (intOf i).toNat)
    case atStart => exact ⟨0, 0, by omega, by omega, rfl, rfl, rfl⟩
    case round =>
      obtain ⟨k, X, hk8, hX, rfl, rfl, HX⟩ := hrel
      by_cases hlt : (k : Int) < 8
      · have hXs : X < 72057594037927936 := by rw [HX.out]; exact val_take_small V HVb.out k (by omega)
        obtain ⟨b, off, _, rfl, hcell⟩ := HBV.out.at k (by rw [HVl.out]; omega)
        obtain ⟨c, hc⟩ : ∃ c, c = V.getD k 0 := ⟨_, rfl⟩
        rw [← hc] at hcell
        have hcl : c < 256 := by rw [hc]; exact getD_lt HVb.out k (by rw [HVl.out]; omega)
        have e1 := shl8 X hXs
        have E2 := Lib.hid (or8 X c hXs hcl)
        have HC := Lib.hid hc
        clear hc
        have k0 : (0 : Int) ≤ (k : Int) := by omega
        go_wp2
        go_round
        case rel =>
          refine ⟨k + 1, X * 256 + c, by omega, by omega, by go_num, congrArg (Value.int .u64) E2.out, ?_⟩
          show X * 256 + c = val (V.take (k + 1))
          rw [val_take_succ V k (by rw [HVl.out]; omega), ← HX.out, ← HC.out]
        case measure => simp [intOf]; omega
      · have hk8' : k = 8 := by omega
        have HXX : Hid (X = val (bs.take 8)) := by show X = _; rw [HX.out, hk8', List.take_of_length_le (by rw [HVl.out]; omega), HVd.out]
        clear hk8'
        by_cases hle : (X : Int) ≤ 4611686018427387904
        · have hn : numOk (some bs) = true := numOk_of H8.out (by rw [← HXX.out]; unfold top; omega)
          have HN := Lib.hid hn
          clear hn
          have hgt : ¬ ((4611686018427387904 : Int) < (X : Int)) := by omega
          go_wp2
          go_ret2
          obtain ⟨bs', h1, _, _, h2, h3⟩ := numOk_some HN.out
          injection h1 with h1
          subst h1
          refine ⟨?_, ?_, hk⟩
          · rw [HN.out, h2, ← HXX.out]; rfl
          · rw [h3, ← HS.out]; exact HR.out
        · have hn : numOk (some bs) = false := numOk_great H8.out (by rw [← HXX.out]; unfold top; omega)
          have HN := Lib.hid hn
          clear hn
          have hgt : (4611686018427387904 : Int) < (X : Int) := by omega
          obtain ⟨y, hA, _⟩ : ∃ y, At w1 p 95 #[.slice y (bs.drop 8).length (bs.drop 8).length, .bool false] ∧ Bytes P w1 y (bs.drop 8) := by
            have := HR.out; rw [HS.out] at this; exact this
          have HA := Lib.hid hA
          clear hA
          go_wp2_with (go_at_call 63; refine (fail p _ _ w1 HA.out).mono ?_; rintro e w2 ⟨rfl, hat, hk2⟩)
          go_ret2
          refine ⟨?_, ?_, hk.trans hk2 (fun _ _ h => h)⟩
          · rw [HN.out, numV_no HN.out]; rfl
          · rw [numS_no HN.out]; exact hat

set_option maxHeartbeats 400000 in
theorem numNil (w : World) : Calls Tryz.prog 49 #[.pointer none] w fun e w' => e = .returned (.tuple #[.int .i64 0, .bool false]) ∧ w = w' := by
  go_enter Tryz.func49, Tryz.ntmps49
  go_wp2_with (go_at_call 62; refine (takeNil 8 w).mono ?_; rintro e w1 ⟨rfl, rfl⟩)
  go_ret2
  exact ⟨rfl, rfl⟩

/-- What 'Bytes' answers. -/
def BytP (P : Nat → Prop) (p : Nat) (s : Option (List Nat)) (w : World) (e : Ending) (w' : World) : Prop :=
  ∃ x m, m = (bytV s).length ∧ e = .returned (.tuple #[.slice x m m, .bool (bytOk s)]) ∧ Bytes P w' x (bytV s) ∧ Rd P w' p (bytS s) ∧ Keep (· = p) w w'

set_option maxHeartbeats 1000000 in
theorem byt (P : Nat → Prop) (p : Nat) (hP : ¬ P p) (s : Option (List Nat)) (w : World) (h : Rd P w p s) :
    Calls Tryz.prog 52 #[.pointer (some ⟨p, 0, none⟩)] w (BytP P p s w) := by
  have H := Lib.hid h
  clear h
  cases hok : numOk s with
  | false =>
    have HN := Lib.hid hok
    go_enter Tryz.func52, Tryz.ntmps52
    go_wp2_with (go_at_call 49; refine (num P p hP s w H.out).mono ?_; rintro e w1 ⟨rfl, hR, hk⟩)
    go_ret2
    have hb := bytOk_no HN.out
    refine ⟨none, 0, ?_, ?_, ?_, ?_, hk⟩
    · rw [bytV_no hb]; rfl
    · rw [hb]; rfl
    · rw [bytV_no hb]; exact Bytes.nil _ _ _
    · rw [bytS_no hb, ← numS_no HN.out]; exact hR
  | true =>
    obtain ⟨N, hN⟩ : ∃ N, N = numV s := ⟨_, rfl⟩
    have HN := Lib.hid hN
    go_enter Tryz.func52, Tryz.ntmps52
    go_wp2_with (first
      | (go_at_call 62; refine (take P p hP (numV s) (numS s) w1 HR.out).mono ?_; rintro e w2 ⟨x, m, hm, rfl, hB, hR2, hk2⟩; have HM := Lib.hid hm; clear hm)
      | (go_at_call 49; refine (num P p hP s w H.out).mono ?_; rintro e w1 ⟨rfl, hR, hk⟩; have HR := Lib.hid hR; clear hR))
    go_ret2
    exact ⟨x, m, HM.out, rfl, hB, hR2, hk.trans hk2 (fun _ _ h => h)⟩
set_option maxHeartbeats 400000 in
theorem bytNil (w : World) : Calls Tryz.prog 52 #[.pointer none] w fun e w' => e = .returned (.tuple #[.slice none 0 0, .bool false]) ∧ w = w' := by
  go_enter Tryz.func52, Tryz.ntmps52
  go_wp2_with (go_at_call 49; refine (numNil w).mono ?_; rintro e w1 ⟨rfl, rfl⟩)
  go_ret2
  exact ⟨rfl, rfl⟩

end Go.Proofs.YtimoebicacnihaaGreatDoor.Ln
end

section
/-
  What the document's own answers return: 'May', 'Num', 'Bytes', and the eye's 'Num' and 'Bytes'.
-/
namespace Go.Proofs.YtimoebicacnihaaGreatDoor.Ln
open Go.RowKit

/-- The eight bytes, of which the last j are laid. -/
def laidU (n j : Nat) : List Nat := (List.range 8).map fun i => if 8 ≤ i + j then dig n i else 0
theorem laidU_all (n : Nat) : laidU n 8 = num8 n := by
  unfold laidU num8
  apply List.map_congr_left
  intro i _
  rw [if_pos (by omega)]
theorem laidU_next (n j I N : Nat) (hj : j < 8) (hI : I = 7 - j) (hN : N = n / 2 ^ (8 * j)) : (cellsOf (laidU n j)).set I (.int .u8 ((N : Int) % 256)) = cellsOf (laidU n (j + 1)) := by
  have hc : (N : Int) % 256 = ((dig n I : Nat) : Int) := by
    have : 7 - I = j := by omega
    rw [dig, this, ← hN]
    rfl
  rw [hc]
  apply List.ext_getElem
  · simp [cellsOf, laidU]
  · intro i h1 h2
    have hi : i < 8 := by simpa [cellsOf, laidU] using h2
    rw [List.getElem_set]
    by_cases e : I = i
    · subst e
      have : 8 ≤ I + (j + 1) := by omega
      simp [cellsOf, laidU, this]
    · have : (8 ≤ i + (j + 1)) ↔ (8 ≤ i + j) := by omega
      simp [cellsOf, laidU, e, this]
theorem laidU_zero (n : Nat) : madeCells #[.int .u8 0] 8 = (cellsOf (laidU n 0)).toArray := by
  apply Array.ext
  · simp [madeCells, cellsOf, laidU]
  · intro i h1 h2
    have hi : i < 8 := by simpa [cellsOf, laidU] using h2
    have h : ¬ 8 ≤ i := by omega
    simp [madeCells, cellsOf, laidU, h]
    rw [Nat.mod_one]
    rfl
theorem laidU_at (n j i : Nat) (hi : i < 8) : (cellsOf (laidU n j)).toArray[i]? = some (.int .u8 ((if 8 ≤ i + j then dig n i else 0 : Nat) : Int)) := by
  simp [cellsOf, laidU, hi]

set_option maxHeartbeats 1000000 in
theorem refNum (n : Nat) (hn : n ≤ 4611686018427387904) (w : World) : Calls Tryz.prog 36 #[.int .i64 (n : Int)] w (Copy (num8 n) w) := by
  have hmk : ∀ w, (Instr.makeSlice 23 (.int .i64 8) (.int .i64 8)).run Tryz.prog w = .ok (.slice (some ⟨w.heap.size, 0, none⟩) 8 8) (w.alloc (.cells (cellsOf (laidU n 0)).toArray 5)) := fun w => by
    rw [← laidU_zero]
    exact make_u8 8 (by omega) w
  go_enter Tryz.func36, Tryz.ntmps36
  go_wp2
  go_loopw [0, 4] (fun t i wr => ∃ j N : Nat, j ≤ 8 ∧ i = .int .i64 (7 - (j : Int)) ∧ t = .int .i64 (N : Int) ∧ N ≤ 4611686018427387904 ∧ Hid (N = n / 2 ^ (8 * j)) ∧ wr = w.alloc (.cells (cellsOf (laidU n j)).toArray 5)) (fun _ i _ => (intOf i + 1).toNat)
  case atStart => exact ⟨0, n, by omega, rfl, rfl, hn, by show n = n / 2 ^ (8 * 0); simp, rfl⟩
  case round =>
    obtain ⟨j, N, hj, rfl, rfl, hN, HN, rfl⟩ := hrel
    by_cases hlt : j < 8
    · obtain ⟨I, hI⟩ : ∃ I, I = 7 - j := ⟨_, rfl⟩
      have hI2 : 7 - (j : Int) = (I : Int) := by omega
      have hI8 : I < 8 := by omega
      have hat := laidU_at n j I hI8
      have HI := Lib.hid hI
      have i0 : (0 : Int) ≤ (I : Int) := by omega
      have i1 : (I : Int) < 8 := by omega
      have n0 : (0 : Int) ≤ (N : Int) := by omega
      clear hI
      go_wp2
      go_roundw
      case rel =>
        refine ⟨j + 1, N / 256, by omega, ?_, rfl, by omega, ?_, ?_⟩
        · have := HI.out
          congr 1
          omega
        · show N / 256 = n / 2 ^ (8 * (j + 1))
          rw [HN.out, Nat.div_div_eq_div_mul, show 8 * (j + 1) = 8 * j + 8 by omega, Nat.pow_add]
        · rw [laidU_next n j I N hlt HI.out HN.out]
      case measure => simp [intOf]; omega
    · have hj8 : j = 8 := by omega
      subst hj8
      rw [laidU_all]
      go_wp2
      go_ret
      refine ⟨w.heap.size, 8, (num8_length n).symm, Nat.le_refl _, rfl, At.new w 5 _, (Keep.refl _ w).alloc _⟩

theorem Own.of_at {w : World} {g : Nat} {bs : List Nat} (h : At w g 5 (cellsOf bs).toArray) (hb : ∀ c ∈ bs, c < 256) (hm : bs.length ≤ maxLen) : Own w (.slice (some ⟨g, 0, none⟩) bs.length bs.length) bs := by
  refine ⟨⟨by simp [cellsOf_length], .inr ⟨g, bs.length, _, rfl, Nat.zero_le _, h, Nat.le_refl _, hm, by simp [cellsOf_length], ?_⟩⟩, hb⟩
  simp [← cellsOf_length]

/-- What the document's 'Bytes' answers: a row of its own. -/
def RefB (b : List Nat) (w : World) (e : Ending) (w' : World) : Prop :=
  ∃ y n cap, n = (enc b).length ∧ e = .returned (.slice y n cap) ∧ Own w' (.slice y n cap) (enc b) ∧ New w none (Value.ownBlock (.slice y n cap)) ∧ Keep (fun _ => False) w w'

set_option maxHeartbeats 1000000 in
theorem refBytes (P : Nat → Prop) (x : Option Addr) (m cap : Nat) (b : List Nat) (hm : b.length = m) (hl : m ≤ 1000000000) (w : World) (h : Bytes P w x b) : Calls Tryz.prog 37 #[.slice x m cap] w (RefB b w) := by
  have HB := Lib.hid h
  have HM := Lib.hid hm
  clear h hm
  go_enter Tryz.func37, Tryz.ntmps37
  go_wp2_with fail
  refine (refNum m (by omega) w).mono ?_
  rintro e w1 ⟨g, m1, hm1, hg, rfl, hat, hk⟩
  obtain rfl : m1 = 8 := hm1
  have HOW : Hid (Own w1 (.slice (some ⟨g, 0, none⟩) 8 8) (num8 m)) := Own.of_at hat (num8_lt m) (by rw [num8_length]; decide)
  clear hat
  go_wp2_with
    (at_builtin
     refine wpList_append_bytes (by rfl) (.tmp 5) (.tmp 6) (by rfl) (.slice (some ⟨g, 0, none⟩) 8 8) (num8 m) (by rfl) HOW.out P x m cap b (by rfl) HM.out
        (HB.out.quiet hk) (by rw [num8_length]; omega) ?_
     intro y2 n2 cap2 w2 hn2 hO2 hk2 hnew2
     have HO2 := Lib.hid hO2
     have HK2 := Lib.hid hk2
     have HW2 := Lib.hid hnew2
     clear hO2 hk2 hnew2)
  go_ret
  have e : enc b = num8 m ++ b := by simp [enc, HM.out]
  refine ⟨y2, n2, cap2, by rw [e]; exact hn2.out, rfl, by rw [e]; exact HO2.out, ?_, hk.trans HK2.out ?_⟩
  · intro k hk'
    rcases HW2.out k hk' with h | h
    · injection h with h
      exact .inr (by simp at h; omega)
    · exact .inr (by have := hk.size; omega)
  · intro k hk' h
    injection h with h
    simp at h
    omega

end Go.Proofs.YtimoebicacnihaaGreatDoor.Ln
end

section
/-
  What the document's own reader, the eye, answers to 'Num' and 'Bytes': the same as the program's.
-/
namespace Go.Proofs.YtimoebicacnihaaGreatDoor.Ln
open Go.RowKit

/-- The eye in block p stands at s; what it reads lies in a block of P. -/
def Ey (P : Nat → Prop) (w : World) (p : Nat) : Option (List Nat) → Prop
  | none => ∃ x n cap, n ≤ cap ∧ At w p 66 #[.slice x n cap, .bool true]
  | some bs => ∃ x n cap, n = bs.length ∧ n ≤ cap ∧ At w p 66 #[.slice x n cap, .bool false] ∧ Bytes P w x bs
theorem Ey.at {P : Nat → Prop} {w : World} {p : Nat} {s : Option (List Nat)} (h : Ey P w p s) : ∃ cs, At w p 66 cs := by
  rcases s with _ | bs
  · obtain ⟨x, n, cap, _, h⟩ := h
    exact ⟨_, h⟩
  · obtain ⟨x, n, cap, _, _, h, _⟩ := h
    exact ⟨_, h⟩
theorem Ey.keep {P S : Nat → Prop} {w w' : World} {p : Nat} {s : Option (List Nat)} (h : Ey P w p s) (k : Keep S w w') (hp : ¬ S p) (hs : ∀ b, b < w.heap.size → P b → ¬ S b) : Ey P w' p s := by
  rcases s with _ | bs
  · obtain ⟨x, n, cap, h1, h⟩ := h
    exact ⟨x, n, cap, h1, h.keep k hp⟩
  · obtain ⟨x, n, cap, h1, h2, h3, h4⟩ := h
    exact ⟨x, n, cap, h1, h2, h3.keep k hp, h4.keep k hs⟩
/-- What the eye's 'Num' answers. -/
def EyNum (P : Nat → Prop) (p : Nat) (s : Option (List Nat)) (w : World) (e : Ending) (w' : World) : Prop :=
  e = .returned (.int .i64 ((numV s : Nat) : Int)) ∧ Ey P w' p (numS s) ∧ Keep (· = p) w w' ∧ w'.heap.size = w.heap.size

theorem mul256 (X : Nat) (h : X < 72057594037927936) : IntKind.u64.wrap ((X : Int) * 256) = (X : Int) * 256 := by
  simp only [IntKind.wrap, IntKind.bits, IntKind.signed]
  simp
  omega
theorem add256 (X c : Nat) (h : X < 72057594037927936) (hc : c < 256) : IntKind.u64.wrap ((X : Int) * 256 + (c : Int)) = ((X * 256 + c : Nat) : Int) := by
  simp only [IntKind.wrap, IntKind.bits, IntKind.signed]
  simp
  omega

set_option maxHeartbeats 1000000 in
theorem eyNum (P : Nat → Prop) (p : Nat) (hP : ¬ P p) (s : Option (List Nat)) (w : World) (h : Ey P w p s) : Calls Tryz.prog 34 #[.pointer (some ⟨p, 0, none⟩)] w (EyNum P p s w) := by
  rcases s with _ | bs
  · obtain ⟨x, n, cap, hnc, hA⟩ := h
    have c0 := hA.cell 0
    have c1 := hA.cell 1
    have f1 := hA.frozen 1
    simp at c0 c1
    have HA := Lib.hid hA
    clear hA
    go_enter Tryz.func34, Tryz.ntmps34
    go_wp2
    go_ret
    exact ⟨rfl, ⟨x, n, cap, hnc, HA.out.put 1 (.bool true)⟩, (Keep.refl (· = p) w).setCell (p := ⟨p, 1, none⟩) (fun _ => rfl) _, by simp [World.setCell]⟩
  · obtain ⟨x, n, cap, hn, hnc, hA, hB⟩ := h
    have c0 := hA.cell 0
    have c1 := hA.cell 1
    have f0 := hA.frozen 0
    have f1 := hA.frozen 1
    simp at c0 c1
    have HA := Lib.hid hA
    have HB := Lib.hid hB
    have HN := Lib.hid hn
    clear hA hB hn
    by_cases h8 : (n : Int) < 8
    · have HO : Hid (numOk (some bs) = false) := by show _ = _; exact numOk_short (by have := HN.out; omega)
      go_enter Tryz.func34, Tryz.ntmps34
      go_wp2
      go_ret
      refine ⟨?_, ?_, (Keep.refl (· = p) w).setCell (p := ⟨p, 1, none⟩) (fun _ => rfl) _, by simp [World.setCell]⟩
      · rw [numV_no HO.out]; rfl
      · rw [numS_no HO.out]; exact ⟨x, n, cap, hnc, HA.out.put 1 (.bool true)⟩
    · have HL : Hid (8 ≤ bs.length) := by show 8 ≤ bs.length; have := HN.out; omega
      have c8 : (8 : Int) ≤ (n : Int) := by omega
      obtain ⟨y, s3, s4, hy⟩ := wcut_drop x n cap 8 (by omega) hnc
      have s5 : ∀ w, (Instr.slice 23 (.slice x n cap) (some (.int .i64 8)) none none).run Tryz.prog w = .ok (.slice y (n - 8) (cap - 8)) w := s3
      have s6 : ∀ w, (Instr.sliceAt 23 (.slice x n cap) (some (.int .i64 8)) none none).run Tryz.prog w = .ok (.slice y (n - 8) (cap - 8)) w := s4
      have HY := Lib.hid hy
      clear hy s3 s4
      go_enter Tryz.func34, Tryz.ntmps34
      go_wp2
      go_loop [3, 4] (fun t i => ∃ k X : Nat, k ≤ 8 ∧ X < 18446744073709551616 ∧ i = .int .i64 (k : Int) ∧ t = .int .u64 (X : Int) ∧ Hid (X = val (bs.take k))) (fun _ i => 8 - (intOf i).toNat)
      case atStart => exact ⟨0, 0, by omega, by omega, rfl, rfl, rfl⟩
      case round =>
        obtain ⟨k, X, hk8, hX, rfl, rfl, HX⟩ := hrel
        by_cases hlt : (k : Int) < 8
        · have hXs : X < 72057594037927936 := by rw [HX.out]; exact val_take_small bs HB.out.1 k (by omega)
          obtain ⟨b, off, _, rfl, hcell⟩ := HB.out.at k (by have := HL.out; omega)
          obtain ⟨c, hc⟩ : ∃ c, c = bs.getD k 0 := ⟨_, rfl⟩
          rw [← hc] at hcell
          have hcl : c < 256 := by rw [hc]; exact getD_lt HB.out.1 k (by have := HL.out; omega)
          have e1 := mul256 X hXs
          have e2 := add256 X c hXs hcl
          have HC := Lib.hid hc
          clear hc
          have k0 : (0 : Int) ≤ (k : Int) := by omega
          have k1 : (k : Int) < (n : Int) := by omega
          go_wp2
          go_round
          case rel =>
            refine ⟨k + 1, X * 256 + c, by omega, by omega, by go_num, by go_num, ?_⟩
            show X * 256 + c = val (bs.take (k + 1))
            rw [val_take_succ bs k (by have := HL.out; omega), ← HX.out, ← HC.out]
          case measure => simp [intOf]; omega
        · have hk8' : k = 8 := by omega
          have HXX : Hid (X = val (bs.take 8)) := by show X = _; rw [HX.out, hk8']
          clear hk8'
          by_cases hle : (X : Int) ≤ 4611686018427387904
          · have hn : numOk (some bs) = true := numOk_of HL.out (by rw [← HXX.out]; unfold top; omega)
            have HN2 := Lib.hid hn
            clear hn
            have hgt : ¬ ((4611686018427387904 : Int) < (X : Int)) := by omega
            go_wp2
            go_ret
            obtain ⟨bs', h1, _, _, h2, h3⟩ := numOk_some HN2.out
            injection h1 with h1
            subst h1
            have k := (Keep.refl (· = p) w).setCell (p := ⟨p, 0, none⟩) (fun _ => rfl) (.slice y (n - 8) (cap - 8))
            refine ⟨?_, ?_, k, by simp [World.setCell]⟩
            · rw [h2, ← HXX.out]; rfl
            · rw [h3]
              exact ⟨y, n - 8, cap - 8, by rw [List.length_drop, HN.out], by omega, HA.out.put 0 _, (HY.out P w bs HN.out.symm HB.out).keep k (fun b _ hb e => hP (e ▸ hb))⟩
          · have hn : numOk (some bs) = false := numOk_great HL.out (by rw [← HXX.out]; unfold top; omega)
            have HO := Lib.hid hn
            clear hn
            have hgt : (4611686018427387904 : Int) < (X : Int) := by omega
            go_wp2
            go_ret
            refine ⟨?_, ?_, (Keep.refl (· = p) w).setCell (p := ⟨p, 1, none⟩) (fun _ => rfl) _, by simp [World.setCell]⟩
            · rw [numV_no HO.out]; rfl
            · rw [numS_no HO.out]; exact ⟨x, n, cap, hnc, HA.out.put 1 (.bool true)⟩

theorem own_cap {w : World} {x : Option Addr} {n cap : Nat} {bs : List Nat} (h : Own w (.slice x n cap) bs) : n ≤ cap := by
  rcases h.1.2 with ⟨hv, h0⟩ | ⟨g, cap', cur, hv, _, _, hnc, _⟩
  · injection hv with _ e2 e3
    omega
  · injection hv with _ e2 e3
    omega
/-- What the eye's 'Bytes' answers. -/
def EyByt (P : Nat → Prop) (p : Nat) (s : Option (List Nat)) (w : World) (e : Ending) (w' : World) : Prop :=
  ∃ x n cap, n = (bytV s).length ∧ n ≤ cap ∧ e = .returned (.slice x n cap) ∧ Bytes (fun b => w.heap.size ≤ b) w' x (bytV s) ∧ Ey P w' p (bytS s) ∧ Keep (· = p) w w'
theorem info42 : (Tryz.prog.info? 66).map (fun i => (i.zero, i.size)) = some (some (.agg #[.slice none 0 0, .bool false]), 2) := by kernel_rfl

set_option maxHeartbeats 1000000 in
theorem eyByt (P : Nat → Prop) (p : Nat) (hP : ¬ P p) (hlt : ∀ b, P b → b < p) (s : Option (List Nat)) (hl : (s.getD []).length ≤ 1000000) (w : World) (h : Ey P w p s) : Calls Tryz.prog 32 #[.pointer (some ⟨p, 0, none⟩)] w (EyByt P p s w) := by
  have hnp : ¬ P w.heap.size := fun hb => by
    obtain ⟨cs, hc⟩ := h.at
    have := hc.lt
    have := hlt _ hb
    omega
  obtain ⟨x, n, cap, b, HBB, hnc, hA, hE⟩ : ∃ x n cap b, Hid (b = s.isNone) ∧ n ≤ cap ∧ At w p 66 #[.slice x n cap, .bool b] ∧ Ey P (w.alloc (.cells #[.slice x n cap, .bool b] 66)) w.heap.size s := by
    rcases s with _ | bs
    · obtain ⟨x, n, cap, h1, h2⟩ := h
      exact ⟨x, n, cap, true, rfl, h1, h2, x, n, cap, h1, At.new w 66 _⟩
    · obtain ⟨x, n, cap, h1, h2, h3, h4⟩ := h
      exact ⟨x, n, cap, false, rfl, h2, h3, x, n, cap, h1, h2, At.new w 66 _, h4.quiet ((Keep.refl _ w).alloc _)⟩
  clear h
  have c0 := hA.cell 0
  have c1 := hA.cell 1
  have hplt := hA.lt
  simp at c0 c1
  have HA := Lib.hid hA
  have HE := Lib.hid hE
  clear hA hE
  go_enter Tryz.func32, Tryz.ntmps32
  go_wp2_with fail
  refine (eyNum P w.heap.size hnp s _ HE.out).mono ?_
  rintro e w1 ⟨rfl, hE1, hk1, hsz1⟩
  simp at hsz1
  have HSZ := Lib.hid hsz1
  clear hsz1 c0 c1
  have hA1 := (HA.out.alloc _).keep hk1 (show ¬ p = w.heap.size by omega)
  have hkw : Keep (fun k => k = p) w w1 := ((Keep.refl (fun k => k = p) w).alloc _).trans hk1 (fun k hk h => by have : k = w.heap.size := h; omega)
  have d0 := hA1.cell 0
  have d1 := hA1.cell 1
  have g0 := hA1.frozen 0
  have g1 := hA1.frozen 1
  simp at d0 d1
  have HA1 := Lib.hid hA1
  have HK1 := Lib.hid hk1
  clear hA1 hk1
  cases hok : numOk s with
  | false =>
    have HO := Lib.hid hok
    rw [numS_no hok] at hE1
    rw [numV_no hok]
    obtain ⟨x1, n1, cap1, hnc1, hB1⟩ := hE1
    have b0 := hB1.cell 0
    have b1 := hB1.cell 1
    simp at b0 b1
    clear hB1 hok
    go_wp2
    go_ret
    have hb := bytOk_no HO.out
    refine ⟨none, 0, 0, ?_, Nat.le_refl _, rfl, ?_, ?_, hkw.setCell (p := ⟨p, 1, none⟩) (fun _ => rfl) _⟩
    · rw [bytV_no hb]; rfl
    · rw [bytV_no hb]; exact Bytes.nil _ _ _
    · rw [bytS_no hb]
      exact ⟨x, n, cap, hnc, HA1.out.put 1 (.bool true)⟩
  | true =>
    obtain ⟨bs, rfl, h8, _, hNV, hNS⟩ := numOk_some hok
    obtain ⟨N, hN⟩ : ∃ N, N = numV (some bs) := ⟨_, rfl⟩
    have hNle : N ≤ 4611686018427387904 := by rw [hN]; exact numV_le _
    rw [← hN]
    rw [hNS] at hE1
    obtain ⟨x1, n1, cap1, hn1, hnc1, hB1, hY1⟩ := hE1
    have b0 := hB1.cell 0
    have b1 := hB1.cell 1
    have hB1lt := hB1.lt
    simp at b0 b1
    have HN := Lib.hid hN
    have HNS := Lib.hid hNS
    have HN1 := Lib.hid hn1
    have HB1 := Lib.hid hB1
    have HY1 := Lib.hid hY1
    have hl' : Hid (bs.length ≤ 1000000) := hl
    clear hN hNS hNV hn1 hB1 hY1 hok hl h8
    by_cases hle : (N : Int) ≤ (n1 : Int)
    · have hgt : ¬ ((n1 : Int) < (N : Int)) := by omega
      have HLE : Hid (N ≤ (bs.drop 8).length) := by show N ≤ _; have := HN1.out; omega
      obtain ⟨s1, s2⟩ := wcut_pre x1 n1 cap1 N (by omega)
      obtain ⟨y, s3, s4, hy⟩ := wcut_drop x1 n1 cap1 N (by omega) hnc1
      have HY := Lib.hid hy
      have hn1l : n1 ≤ 1000000 := by have := HN1.out; have := hl'.out; simp at *; omega
      clear hy
      go_wp2_with
        (at_builtin
         refine wpList_append_bytes (by rfl) (.tmp 22) (.tmp 26) (by rfl) (.slice (some ⟨w1.heap.size, 0, none⟩) 0 0) [] (by rfl) (Own.of_at (At.new w1 5 _) (by simp) (by decide)) P x1 N cap1 ((bs.drop 8).take N) (by rfl) (by rw [List.length_take, Nat.min_eq_left HLE.out])
            ((HY1.out.take N).quiet ((Keep.refl _ w1).alloc _)) (by simp; omega) ?_
         intro y2 n2 cap2 w2 hn2 hO2 hk2 hnew2
         have hk12 : Keep (fun _ => False) w1 w2 := (((Keep.refl (fun _ => False) w1).alloc _)).trans hk2 (fun k hk h => by injection h with h; simp at h; omega)
         have hA2 := HA1.out.keep hk12 (fun h => h)
         have hB2 := HB1.out.keep hk12 (fun h => h)
         have m0 := hA2.cell 0
         have m1 := hA2.cell 1
         have p0 := hA2.frozen 0
         have q0 := hB2.cell 0
         have q1 := hB2.cell 1
         simp at m0 m1 q0 q1
         have HA2 := Lib.hid hA2
         have HO2 := Lib.hid hO2
         have HK12 := Lib.hid hk12
         have HW2 := Lib.hid hnew2
         clear hA2 hB2 hO2 hk2 hk12 hnew2)
      go_ret
      have hkk := ((hkw.trans HK12.out (fun _ _ h => h.elim)).setCell (p := ⟨p, 0, none⟩) (fun _ => rfl) (.slice y (n1 - N) (cap1 - N)))
      have hk3 := (Keep.refl (fun k => k = p) w2).setCell (p := ⟨p, 0, none⟩) (fun _ => rfl) (.slice y (n1 - N) (cap1 - N))
      have eV : bytV (some bs) = (bs.drop 8).take N := by rw [bytV, ← HN.out, HNS.out, takeV_ok HLE.out]
      have eS : bytS (some bs) = some ((bs.drop 8).drop N) := by rw [bytS, ← HN.out, HNS.out, takeS_ok HLE.out]
      obtain ⟨x3, cap3, e3, hB3⟩ := HO2.out.shape
      rw [List.nil_append] at hB3 e3
      injection e3 with e1 e2 e3
      subst e1
      refine ⟨y2, n2, cap2, by rw [eV]; exact e2, own_cap HO2.out, rfl, ?_, ?_, hkk⟩
      · rw [eV]
        refine Bytes.keep (hB3.mono (Q := fun b => w1.heap.size ≤ b) ?_) hk3 ?_ |>.mono ?_
        · intro k hk h
          rcases HW2.out k h with h | h
          · injection h with h
            simp at h
            omega
          · simp at h
            omega
        · intro k hk h e
          omega
        · intro k hk h
          have := hkw.size
          omega
      · rw [eS]
        refine ⟨y, n1 - N, cap1 - N, by rw [List.length_drop, HN1.out], by omega, ?_, ?_⟩
        · have := HA2.out.put 0 (.slice y (n1 - N) (cap1 - N))
          rw [HBB.out] at this
          exact this
        · exact ((HY.out P w1 _ HN1.out.symm HY1.out).quiet HK12.out).keep hk3 (fun k _ h e => hP (e ▸ h))
    · have hgt : (n1 : Int) < (N : Int) := by omega
      have HO : Hid (bytOk (some bs) = false) := by show _ = _; rw [bytOk, ← HN.out, HNS.out]; exact takeOk_no (by have := HN1.out; omega)
      go_wp2
      go_ret
      have hb := HO.out
      refine ⟨none, 0, 0, ?_, Nat.le_refl _, rfl, ?_, ?_, hkw.setCell (p := ⟨p, 1, none⟩) (fun _ => rfl) _⟩
      · rw [bytV_no hb]; rfl
      · rw [bytV_no hb]; exact Bytes.nil _ _ _
      · rw [bytS_no hb]
        exact ⟨x, n, cap, hnc, HA1.out.put 1 (.bool true)⟩

end Go.Proofs.YtimoebicacnihaaGreatDoor.Ln
end
