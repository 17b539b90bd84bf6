/-
  How far a call on the document's own session is; a Verb that is laid down.
-/
import Derived.Test.YtcjljldknekhiaaGreatDoorRt
import Derived.Laws.Rows
namespace Go.Proofs.YtcjljldknekhiaaGreatDoor.Ln
open Go.RowKit
set_option linter.unusedVariables false
set_option linter.unusedSimpArgs false

/-- From w on: the session in block g is s now, and nothing else has turned. -/
structure Now (F : Nat → Prop) (w : World) (g : Nat) (F' : Nat → Prop) (w' : World) (s : Se) : Prop where
  rs : RS F' w' g s
  kp : Keep F w w'
  more : More F F' w
section
variable {F F' : Nat → Prop} {w w' w'' : World} {g : Nat} {s s' : Se}
theorem Now.start (h : RS F w g s) : Now F w g F w s := ⟨h, Keep.refl _ _, More.refl _ _⟩
theorem Now.quiet (h : Now F w g F' w' s) (k : Keep (fun _ => False) w' w'') : Now F w g F' w'' s := ⟨h.rs.quiet k, h.kp.trans k (fun _ _ h => h.elim), h.more⟩
theorem Now.did {e : Ending} (h : Now F w g F' w' s) (d : Did F' g s' w' e w'') : e = .returned (.tuple #[]) ∧ ∃ F'', Now F w g F'' w'' s' := by
  obtain ⟨he, F'', h1, h2, h3⟩ := d
  exact ⟨he, F'', h1, keep_more h.kp h2 h.more, h.more.trans h3 h.kp.size⟩
theorem Now.done (h : Now F w g F' w' s) : Did F g s w (.returned (.tuple #[])) w' := ⟨rfl, F', h.rs, h.kp, h.more⟩
theorem Now.put (h : Now F w g F' w' s) (i : Nat) (u : Value) (he : ∀ wv ov rv bv, (sessCells s wv ov rv bv).setIfInBounds i u = sessCells s' wv ov rv bv) (ho : s'.out = s.out) (hb : s'.body = s.body) (hw : s'.wait = s.wait) (hr : s'.rcpts = s.rcpts) : Now F w g F' (w'.setCell ⟨g, i, none⟩ u) s' := by
  obtain ⟨wv, ov, rv, bv, qo, qb, xs, h1⟩ := h.rs
  exact ⟨⟨wv, ov, rv, bv, qo, qb, xs, h1.put i u (he _ _ _ _) ho hb hw hr⟩, keep_more h.kp (put_keep h1.fg i u) h.more, h.more⟩
theorem Now.cells (h : Now F w g F' w' s) : w'.cell? ⟨g, 0, none⟩ = some (.string s.host) ∧ w'.cell? ⟨g, 1, none⟩ = some (.int .i64 (s.size : Int)) ∧ w'.cell? ⟨g, 4, none⟩ = some (.int .i64 (s.st : Int)) ∧ w'.cell? ⟨g, 5, none⟩ = some (.string s.frm) ∧ w'.cell? ⟨g, 8, none⟩ = some (.int .i64 (s.bad : Int)) ∧ ∀ i, w'.frozen? ⟨g, i, none⟩ = false := by
  obtain ⟨wv, ov, rv, bv, qo, qb, xs, h1⟩ := h.rs
  obtain ⟨c0, c1, c2, c3, c4, c5, c6, c7, c8⟩ := h1.cells
  exact ⟨c0, c1, c4, c5, c8, h1.frozen⟩
end

/-! ### A Verb that is laid down -/
def vCells (a b : ByteArray) (n : Int) : Array Value := #[.string a, .string b, .int .i64 n]
theorem infoV : (Tryz.prog.info? 58).map (·.size) = some 3 := by kernel_rfl
theorem oneV (a b : ByteArray) (n : Int) : (vCells a b n).all (·.oneCell') = true := by simp [vCells, Value.oneCell']
def laidV (w : World) (A B : ByteArray) (n : Int) : World := (w.alloc (.cells #[.string { data := #[] }, .string { data := #[] }, .int .i64 0] 58)).setRow w.heap.size (vCells A B n)
theorem laidV_at (w : World) (A B : ByteArray) (n : Int) : At (laidV w A B n) w.heap.size 58 (vCells A B n) := setRow_heap _ _ _ _ _ _ (heap_alloc_new w _)
theorem laidV_keep (w : World) (A B : ByteArray) (n : Int) : Keep (fun _ => False) w (laidV w A B n) := by
  refine ⟨rfl, rfl, rfl, ?_, fun k hk _ => ?_⟩
  · rw [laidV, size_setRow]; simp
  · rw [laidV, setRow_other _ _ _ _ (by omega)]
    exact Below.heap_alloc _ _ _ hk
theorem laidV_cells (w : World) (A B : ByteArray) (n : Int) : (laidV w A B n).cell? ⟨w.heap.size, 0, none⟩ = some (.string A) ∧ (laidV w A B n).cell? ⟨w.heap.size, 1, none⟩ = some (.string B) ∧ (laidV w A B n).cell? ⟨w.heap.size, 2, none⟩ = some (.int .i64 n) :=
  ⟨(laidV_at w A B n).cell 0, (laidV_at w A B n).cell 1, (laidV_at w A B n).cell 2⟩
theorem step_laidV {ops : Array Oper} {rest : List Oper} {o : Oper} {a : Act} {w : World} {Q : Exit → Act → World → Prop} (hgd : o.guard = none) (x y : Operand) (ho : o.op = .store 58 x y)
    (A B : ByteArray) (n : Int) (hx : a.eval x = .pointer (some ⟨w.heap.size, 0, none⟩)) (hy : a.eval y = .agg #[.string A, .string B, .int .i64 n])
    (h : wpList Tryz.prog ops Q rest (a.put o.dst undef) (laidV w A B n)) : wpList Tryz.prog ops Q (o :: rest) a (w.alloc (.cells #[.string { data := #[] }, .string { data := #[] }, .int .i64 0] 58)) :=
  wpList_store_row hgd 58 x y ho w.heap.size (vCells A B n) hx hy 58 _ (heap_alloc_new w _) infoV rfl (oneV _ _ _) h

/-- What the document's own Verb returns. -/
def VerbC (V : ByteArray → VC) : Prop := (∀ l, 0 ≤ (V l).code ∧ (V l).code ≤ 999) ∧ ∀ (l : ByteArray) (w : World), l.size ≤ 512 →
  Calls Tryz.prog 25 #[.string l] w fun e w' => e = .returned (.tuple #[.agg #[.string (V l).name, .string (V l).arg, .int .i64 (V l).size], .int .i64 (V l).code]) ∧ Keep (fun _ => False) w w'
end Go.Proofs.YtcjljldknekhiaaGreatDoor.Ln
