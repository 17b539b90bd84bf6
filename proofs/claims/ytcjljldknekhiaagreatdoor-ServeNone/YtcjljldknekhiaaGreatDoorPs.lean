/-
  The program's session in memory: its twelve cells, its rows, its stream; what may turn it, and what it leaves alone.
-/
import Derived.Test.YtcjljldknekhiaaGreatDoorRw
import Derived.Test.YtcjljldknekhiaaGreatDoorSv
import Derived.Test.YtcjljldknekhiaaGreatDoorLProg1
namespace Go.Proofs.YtcjljldknekhiaaGreatDoor.Ln
open Go.RowKit
set_option linter.unusedVariables false
set_option linter.unusedSimpArgs false

/-! ### The library's variables -/
/-- The library's MaxLen holds some number, its table of tens is laid. -/
def Env (w : World) : Prop := (∃ m, w.cell? ⟨2, 0, none⟩ = some (.int .i64 m)) ∧ Lib.TabIs Tryz.prog w "internal/strconv.uint64pow10" .u64 Lib.pow10Tab
theorem Env.keep {S : Nat → Prop} {w w' : World} (h : Env w) (k : Keep S w w') (hS : ∀ i, i < 9 → ¬ S i) : Env w' := by
  obtain ⟨⟨m, hm⟩, ht⟩ := h
  refine ⟨⟨m, k.cell hm (hS 2 (by omega))⟩, ?_⟩
  have hg : Tryz.prog.globalNamed "internal/strconv.uint64pow10" = some 1 := by kernel_rfl
  unfold Lib.TabIs World.var? at *
  simp only [hg, Option.bind_some] at ht ⊢
  have hlt : 1 < w.heap.size := by
    rcases Nat.lt_or_ge 1 w.heap.size with h' | h'
    · exact h'
    · rw [Array.getElem?_eq_none h'] at ht; simp at ht
  rw [k.block 1 hlt (hS 1 (by omega))]
  exact ht
theorem Env.quiet {w w' : World} (h : Env w) (k : Keep (fun _ => False) w w') : Env w' := h.keep k (fun _ _ h => h)

/-! ### Which blocks are which -/
def AtT (w : World) (k : Nat) (t : TypeId) : Prop := ∃ cs, At w k t cs
theorem AtT.same {w : World} {k : Nat} {t t' : TypeId} (h : AtT w k t) (h' : AtT w k t') (hne : t ≠ t') : False := by
  obtain ⟨_, h⟩ := h
  obtain ⟨_, h'⟩ := h'
  exact At.ne h h' hne rfl
theorem MidG.att {e : TypeId} {size : Nat} {w : World} {v : Value} {q : Option Nat} {n : Nat} {xs : List Value} (h : MidG e size w v q n xs) (k : Nat) (hk : q = some k) : AtT w k e := by
  obtain ⟨_, _, x, cap, _, _, ⟨_, h0⟩ | ⟨g, off, cur, _, hq, hA, _⟩⟩ := h
  · rw [h0] at hk; cases hk
  · rw [hq] at hk; cases hk; exact ⟨_, hA⟩
theorem Mid.att {w : World} {v : Value} {q : Option Nat} {bs : List Nat} (h : Mid w v q bs) (k : Nat) (hk : q = some k) : AtT w k 5 := by
  obtain ⟨_, x, cap, _, _, ⟨_, h0⟩ | ⟨g, off, cur, _, hq, hA, _⟩⟩ := h
  · rw [h0] at hk; cases hk
  · rw [hq] at hk; cases hk; exact ⟨_, hA⟩

/-! ### A session -/
/-- The blocks that it may write, beside its own: its rows of events, recipients, a body; its stream's row, its stream. -/
structure Own where
  qe : Option Nat
  qr : Option Nat
  qb : Option Nat
  ql : Option Nat
  gl : Option Nat
def Own.has (o : Own) (k : Nat) : Prop := o.qe = some k ∨ o.qr = some k ∨ o.qb = some k ∨ o.ql = some k ∨ o.gl = some k
/-- What of F is only read. -/
def PRd (F : Nat → Prop) (g : Nat) (o : Own) (k : Nat) : Prop := F k ∧ k ≠ g ∧ ¬ o.has k
def pCells (p : Se) (lv ev rv bv : Value) : Array Value := #[.string p.host, .int .i64 (p.size : Int), .int .i64 (p.st : Int), lv, ev, .int .i64 0, .int .i64 0, .int .i64 0, .string p.frm, rv, bv, .int .i64 (p.bad : Int)]
/-- Its stream: none, when it is over. -/
def LinO (w : World) (st : Nat) (lv : Value) (gl ql : Option Nat) (bs : List Nat) : Prop :=
  (st = 6 ∧ lv = .pointer none ∧ gl = none ∧ ql = none) ∨ (st ≠ 6 ∧ ∃ k, lv = .pointer (some ⟨k, 0, none⟩) ∧ gl = some k ∧ Lin 0 w k ql bs)
structure PSat (F : Nat → Prop) (w : World) (g : Nat) (p : Se) (lv ev rv bv : Value) (o : Own) (xs : List Value) : Prop where
  row : At w g 68 (pCells p lv ev rv bv)
  fg : F g
  flt : ∀ k, F k → k < w.heap.size
  lo : ∀ k, F k → 9 ≤ k
  own : ∀ k, o.has k → F k
  out : MidG 46 8 w ev o.qe p.out.length xs
  evs : EvsAt (PRd F g o) w p.out xs
  rc : MidG 9 1 w rv o.qr p.rcpts.length (strV p.rcpts)
  body : Mid w bv o.qb p.body
  lin : LinO w p.st lv o.gl o.ql p.wait
  nbl : ∀ k, o.qb = some k → o.ql ≠ some k
def PS (F : Nat → Prop) (w : World) (g : Nat) (p : Se) : Prop := ∃ lv ev rv bv o xs, PSat F w g p lv ev rv bv o xs
def PDid (F : Nat → Prop) (g : Nat) (p : Se) (w : World) (e : Ending) (w' : World) : Prop :=
  e = .returned (.tuple #[]) ∧ ∃ F', PS F' w' g p ∧ Keep F w w' ∧ More F F' w

theorem LinO.keep {S : Nat → Prop} {w w' : World} {st : Nat} {lv : Value} {gl ql : Option Nat} {bs : List Nat} (h : LinO w st lv gl ql bs) (k : Keep S w w') (hg : ∀ b, gl = some b → ¬ S b) (hq : ∀ b, ql = some b → ¬ S b) : LinO w' st lv gl ql bs := by
  rcases h with h | ⟨h6, b, hv, hb, hL⟩
  · exact .inl h
  · exact .inr ⟨h6, b, hv, hb, hL.keep k (hg b hb) hq⟩
theorem LinO.attg {w : World} {st : Nat} {lv : Value} {gl ql : Option Nat} {bs : List Nat} (h : LinO w st lv gl ql bs) (k : Nat) (hk : gl = some k) : AtT w k 65 := by
  rcases h with ⟨_, _, h0, _⟩ | ⟨_, b, _, hb, hL⟩
  · rw [h0] at hk; cases hk
  · rw [hb] at hk; cases hk
    obtain ⟨v, hA, _⟩ := hL.row
    exact ⟨_, hA⟩
theorem LinO.attq {w : World} {st : Nat} {lv : Value} {gl ql : Option Nat} {bs : List Nat} (h : LinO w st lv gl ql bs) (k : Nat) (hk : ql = some k) : AtT w k 5 := by
  rcases h with ⟨_, _, _, h0⟩ | ⟨_, b, _, hb, hL⟩
  · rw [h0] at hk; cases hk
  · obtain ⟨v, _, hM⟩ := hL.row
    exact hM.att k hk
theorem AtT.lt {w : World} {k : Nat} {t : TypeId} (h : AtT w k t) : k < w.heap.size := by obtain ⟨_, h⟩ := h; exact h.lt

section
variable {F S : Nat → Prop} {w w' : World} {g : Nat} {p p' : Se} {lv ev rv bv lv' ev' rv' bv' : Value} {o o' : Own} {xs xs' : List Value}
theorem PSat.attg (h : PSat F w g p lv ev rv bv o xs) : AtT w g 68 := ⟨_, h.row⟩
theorem PSat.neg (h : PSat F w g p lv ev rv bv o xs) : ∀ k, o.has k → k ≠ g := by
  rintro k hk rfl
  rcases hk with hk | hk | hk | hk | hk
  · exact (h.out.att k hk).same h.attg (by decide)
  · exact (h.rc.att k hk).same h.attg (by decide)
  · exact (h.body.att k hk).same h.attg (by decide)
  · exact (h.lin.attq k hk).same h.attg (by decide)
  · exact (h.lin.attg k hk).same h.attg (by decide)
theorem PSat.nee (h : PSat F w g p lv ev rv bv o xs) : ∀ k, o.qe = some k → o.qr ≠ some k ∧ o.qb ≠ some k ∧ o.ql ≠ some k ∧ o.gl ≠ some k := fun k hk =>
  ⟨fun e => (h.out.att k hk).same (h.rc.att k e) (by decide), fun e => (h.out.att k hk).same (h.body.att k e) (by decide), fun e => (h.out.att k hk).same (h.lin.attq k e) (by decide), fun e => (h.out.att k hk).same (h.lin.attg k e) (by decide)⟩
theorem PSat.ner (h : PSat F w g p lv ev rv bv o xs) : ∀ k, o.qr = some k → o.qe ≠ some k ∧ o.qb ≠ some k ∧ o.ql ≠ some k ∧ o.gl ≠ some k := fun k hk =>
  ⟨fun e => (h.rc.att k hk).same (h.out.att k e) (by decide), fun e => (h.rc.att k hk).same (h.body.att k e) (by decide), fun e => (h.rc.att k hk).same (h.lin.attq k e) (by decide), fun e => (h.rc.att k hk).same (h.lin.attg k e) (by decide)⟩
theorem PSat.neb (h : PSat F w g p lv ev rv bv o xs) : ∀ k, o.qb = some k → o.qe ≠ some k ∧ o.qr ≠ some k ∧ o.ql ≠ some k ∧ o.gl ≠ some k := fun k hk =>
  ⟨fun e => (h.body.att k hk).same (h.out.att k e) (by decide), fun e => (h.body.att k hk).same (h.rc.att k e) (by decide), h.nbl k hk, fun e => (h.body.att k hk).same (h.lin.attg k e) (by decide)⟩
theorem PSat.nel (h : PSat F w g p lv ev rv bv o xs) : ∀ k, o.ql = some k → o.qe ≠ some k ∧ o.qr ≠ some k ∧ o.qb ≠ some k ∧ o.gl ≠ some k := fun k hk =>
  ⟨fun e => (h.lin.attq k hk).same (h.out.att k e) (by decide), fun e => (h.lin.attq k hk).same (h.rc.att k e) (by decide), fun e => h.nbl k e hk, fun e => (h.lin.attq k hk).same (h.lin.attg k e) (by decide)⟩
theorem PSat.neL (h : PSat F w g p lv ev rv bv o xs) : ∀ k, o.gl = some k → o.qe ≠ some k ∧ o.qr ≠ some k ∧ o.qb ≠ some k ∧ o.ql ≠ some k := fun k hk =>
  ⟨fun e => (h.lin.attg k hk).same (h.out.att k e) (by decide), fun e => (h.lin.attg k hk).same (h.rc.att k e) (by decide), fun e => (h.lin.attg k hk).same (h.body.att k e) (by decide), fun e => (h.lin.attg k hk).same (h.lin.attq k e) (by decide)⟩
theorem PSat.other (h : PSat F w g p lv ev rv bv o xs) (k : Keep S w w') (hS : ∀ i, F i → ¬ S i) : PSat F w' g p lv ev rv bv o xs :=
  ⟨h.row.keep k (hS g h.fg), h.fg, fun i hi => Nat.lt_of_lt_of_le (h.flt i hi) k.size, h.lo, h.own, h.out.keep k (fun b hb => hS b (h.own b (.inl hb))), h.evs.keepW k (fun b _ hR => ⟨hS b hR.1, hR⟩),
    h.rc.keep k (fun b hb => hS b (h.own b (.inr (.inl hb)))), h.body.keep k (fun b hb => hS b (h.own b (.inr (.inr (.inl hb))))), h.lin.keep k (fun b hb => hS b (h.own b (.inr (.inr (.inr (.inr hb)))))) (fun b hb => hS b (h.own b (.inr (.inr (.inr (.inl hb)))))), h.nbl⟩
/-- The twelve cells. -/
theorem PSat.cells (h : PSat F w g p lv ev rv bv o xs) : w.cell? ⟨g, 0, none⟩ = some (.string p.host) ∧ w.cell? ⟨g, 1, none⟩ = some (.int .i64 (p.size : Int)) ∧ w.cell? ⟨g, 2, none⟩ = some (.int .i64 (p.st : Int)) ∧ w.cell? ⟨g, 3, none⟩ = some lv ∧ w.cell? ⟨g, 4, none⟩ = some ev ∧
    w.cell? ⟨g, 5, none⟩ = some (.int .i64 0) ∧ w.cell? ⟨g, 6, none⟩ = some (.int .i64 0) ∧ w.cell? ⟨g, 7, none⟩ = some (.int .i64 0) ∧ w.cell? ⟨g, 8, none⟩ = some (.string p.frm) ∧ w.cell? ⟨g, 9, none⟩ = some rv ∧ w.cell? ⟨g, 10, none⟩ = some bv ∧ w.cell? ⟨g, 11, none⟩ = some (.int .i64 (p.bad : Int)) ∧ ∀ i, w.frozen? ⟨g, i, none⟩ = false :=
  ⟨h.row.cell 0, h.row.cell 1, h.row.cell 2, h.row.cell 3, h.row.cell 4, h.row.cell 5, h.row.cell 6, h.row.cell 7, h.row.cell 8, h.row.cell 9, h.row.cell 10, h.row.cell 11, h.row.frozen⟩
/-- The session is turned into another one. -/
theorem PSat.turn (h : PSat F w g p lv ev rv bv o xs) (k : Keep S w w') (hS : ∀ i, i < w.heap.size → S i → i = g ∨ o.has i) (row : At w' g 68 (pCells p' lv' ev' rv' bv'))
    (out : MidG 46 8 w' ev' o'.qe p'.out.length xs') {R1 : Nat → Prop} (evs : EvsAt R1 w' p'.out xs') (rc : MidG 9 1 w' rv' o'.qr p'.rcpts.length (strV p'.rcpts)) (body : Mid w' bv' o'.qb p'.body) (lin : LinO w' p'.st lv' o'.gl o'.ql p'.wait)
    (nbl : ∀ k, o'.qb = some k → o'.ql ≠ some k) (hn : ∀ i, o'.has i → o.has i ∨ w.heap.size ≤ i) (hR : ∀ i, i < w'.heap.size → R1 i → (F i ∨ w.heap.size ≤ i) ∧ i ≠ g ∧ ¬ o'.has i) :
    ∃ F', PSat F' w' g p' lv' ev' rv' bv' o' xs' ∧ Keep F w w' ∧ More F F' w := by
  have h9 : 9 ≤ w.heap.size := by have := h.lo g h.fg; have := h.flt g h.fg; omega
  have hlt : ∀ i, o'.has i → i < w'.heap.size := by
    rintro i (hi | hi | hi | hi | hi)
    · exact (out.att i hi).lt
    · exact (rc.att i hi).lt
    · exact (body.att i hi).lt
    · exact (lin.attq i hi).lt
    · exact (lin.attg i hi).lt
  refine ⟨fun i => F i ∨ (w.heap.size ≤ i ∧ i < w'.heap.size), ⟨row, .inl h.fg, ?_, ?_, ?_, out, ?_, rc, body, lin, nbl⟩, ?_, ?_⟩
  · rintro i (hi | hi)
    · exact Nat.lt_of_lt_of_le (h.flt i hi) k.size
    · exact hi.2
  · rintro i (hi | hi)
    · exact h.lo i hi
    · omega
  · intro i hi
    rcases hn i hi with h1 | h1
    · exact .inl (h.own i h1)
    · exact .inr ⟨h1, hlt i hi⟩
  · refine evs.keepW (Keep.refl (fun _ => False) w') (fun b hb hR1 => ⟨fun h => h, ?_, (hR b hb hR1).2.1, (hR b hb hR1).2.2⟩)
    rcases (hR b hb hR1).1 with h1 | h1
    · exact .inl h1
    · exact .inr ⟨h1, hb⟩
  · refine k.mono (fun i hi hSi => ?_)
    rcases hS i hi hSi with h1 | h1
    · rw [h1]; exact h.fg
    · exact h.own i h1
  · rintro i (hi | hi)
    · exact .inl hi
    · exact .inr hi.1
/-- Its cells are set, its rows stay, or go. -/
theorem PSat.put (h : PSat F w g p lv ev rv bv o xs) (k : Keep (fun i => i = g) w w') (row : At w' g 68 (pCells p' lv' ev rv' bv')) (ho : p'.out = p.out) (hr : (rv' = rv ∧ p'.rcpts = p.rcpts) ∨ (rv' = nilV ∧ p'.rcpts = [])) (hb : (bv' = bv ∧ p'.body = p.body) ∨ (bv' = nilV ∧ p'.body = []))
    (hl : (lv' = lv ∧ p'.wait = p.wait ∧ (p'.st = 6 ↔ p.st = 6)) ∨ (lv' = .pointer none ∧ p'.st = 6)) : ∃ F', PS F' w' g p' ∧ Keep F w w' ∧ More F F' w := by
  have hne := h.neg
  have kk : ∀ b, o.has b → ¬ b = g := fun b hb e => hne b hb e
  have rc' : ∃ q, MidG 9 1 w' rv' q p'.rcpts.length (strV p'.rcpts) ∧ (q = o.qr ∨ q = none) := by
    rcases hr with ⟨rfl, e⟩ | ⟨rfl, e⟩
    · rw [e]; exact ⟨o.qr, h.rc.keep k (fun b hb => kk b (.inr (.inl hb))), .inl rfl⟩
    · rw [e]; exact ⟨none, MidG.empty _ _ _ _, .inr rfl⟩
  have body' : ∃ q, Mid w' bv' q p'.body ∧ (q = o.qb ∨ q = none) := by
    rcases hb with ⟨rfl, e⟩ | ⟨rfl, e⟩
    · rw [e]; exact ⟨o.qb, h.body.keep k (fun b hb => kk b (.inr (.inr (.inl hb)))), .inl rfl⟩
    · rw [e]; exact ⟨none, Mid.empty _ _, .inr rfl⟩
  have lin' : ∃ gl ql, LinO w' p'.st lv' gl ql p'.wait ∧ ((gl = o.gl ∧ ql = o.ql) ∨ (gl = none ∧ ql = none)) := by
    rcases hl with ⟨rfl, e, hst⟩ | ⟨rfl, hst⟩
    · have hL := h.lin.keep k (fun b hb => kk b (.inr (.inr (.inr (.inr hb))))) (fun b hb => kk b (.inr (.inr (.inr (.inl hb)))))
      refine ⟨o.gl, o.ql, ?_, .inl ⟨rfl, rfl⟩⟩
      rw [e]
      rcases hL with ⟨h6, hx⟩ | ⟨h6, hx⟩
      · exact .inl ⟨hst.2 h6, hx⟩
      · exact .inr ⟨fun e => h6 (hst.1 e), hx⟩
    · exact ⟨none, none, .inl ⟨hst, rfl, rfl, rfl⟩, .inr ⟨rfl, rfl⟩⟩
  obtain ⟨qr, hrc, eqr⟩ := rc'
  obtain ⟨qb, hbd, eqb⟩ := body'
  obtain ⟨gl, ql, hln, eql⟩ := lin'
  have hsub : ∀ i, (Own.mk o.qe qr qb ql gl).has i → o.has i := by
    rintro i (hi | hi | hi | hi | hi)
    · exact .inl hi
    · rcases eqr with e | e
      · exact .inr (.inl (e ▸ hi))
      · rw [show qr = none from e] at hi; cases hi
    · rcases eqb with e | e
      · exact .inr (.inr (.inl (e ▸ hi)))
      · rw [show qb = none from e] at hi; cases hi
    · rcases eql with ⟨_, e⟩ | ⟨_, e⟩
      · exact .inr (.inr (.inr (.inl (e ▸ hi))))
      · rw [show ql = none from e] at hi; cases hi
    · rcases eql with ⟨e, _⟩ | ⟨e, _⟩
      · exact .inr (.inr (.inr (.inr (e ▸ hi))))
      · rw [show gl = none from e] at hi; cases hi
  obtain ⟨F', h1, h2, h3⟩ := h.turn (o' := Own.mk o.qe qr qb ql gl) (xs' := xs) (R1 := PRd F g o) k (fun i _ e => .inl e) row (by rw [ho]; exact h.out.keep k (fun b hb => kk b (.inl hb))) (by rw [ho]; exact h.evs.keepW k (fun b _ hR => ⟨hR.2.1, hR⟩)) hrc hbd hln (by
      intro i hi hj
      have h1 := hsub i (.inr (.inr (.inl hi)))
      rcases eqb with e | e
      · rcases eql with ⟨_, e2⟩ | ⟨_, e2⟩
        · exact h.nbl i (e ▸ hi) (e2 ▸ hj)
        · rw [show ql = none from e2] at hj; cases hj
      · rw [show qb = none from e] at hi; cases hi) (fun i hi => .inl (hsub i hi)) (fun i _ hR => ⟨.inl hR.1, hR.2.1, fun e => hR.2.2 (hsub i e)⟩)
  exact ⟨F', ⟨_, _, _, _, _, _, h1⟩, h2, h3⟩
end
theorem PS.other {F S : Nat → Prop} {w w' : World} {g : Nat} {p : Se} (h : PS F w g p) (k : Keep S w w') (hS : ∀ i, F i → ¬ S i) : PS F w' g p := by
  obtain ⟨lv, ev, rv, bv, o, xs, h⟩ := h
  exact ⟨lv, ev, rv, bv, o, xs, h.other k hS⟩
theorem PS.quiet {F : Nat → Prop} {w w' : World} {g : Nat} {p : Se} (h : PS F w g p) (k : Keep (fun _ => False) w w') : PS F w' g p := h.other k (fun _ _ h => h)
theorem PS.lt {F : Nat → Prop} {w : World} {g : Nat} {p : Se} (h : PS F w g p) : ∀ k, F k → k < w.heap.size := by
  obtain ⟨_, _, _, _, _, _, h⟩ := h
  exact h.flt
theorem PS.lo {F : Nat → Prop} {w : World} {g : Nat} {p : Se} (h : PS F w g p) : ∀ k, F k → 9 ≤ k := by
  obtain ⟨_, _, _, _, _, _, h⟩ := h
  exact h.lo
theorem PS.env {F : Nat → Prop} {w w' : World} {g : Nat} {p : Se} (h : PS F w g p) (e : Env w) (k : Keep F w w') : Env w' := e.keep k (fun i hi hF => by have := h.lo i hF; omega)

/-- From w on: the session in block g is p now, and nothing else has turned. -/
structure PNow (F : Nat → Prop) (w : World) (g : Nat) (F' : Nat → Prop) (w' : World) (p : Se) : Prop where
  rs : PS F' w' g p
  kp : Keep F w w'
  more : More F F' w
  env : Env w'
section
variable {F F' : Nat → Prop} {w w' w'' : World} {g : Nat} {p p' : Se}
theorem PNow.start (h : PS F w g p) (e : Env w) : PNow F w g F w p := ⟨h, Keep.refl _ _, More.refl _ _, e⟩
theorem PNow.quiet (h : PNow F w g F' w' p) (k : Keep (fun _ => False) w' w'') : PNow F w g F' w'' p := ⟨h.rs.quiet k, h.kp.trans k (fun _ _ h => h.elim), h.more, h.env.quiet k⟩
theorem PNow.on (h : PNow F w g F' w' p) {F'' : Nat → Prop} (h1 : PS F'' w'' g p') (h2 : Keep F' w' w'') (h3 : More F' F'' w') : PNow F w g F'' w'' p' :=
  ⟨h1, keep_more h.kp h2 h.more, h.more.trans h3 h.kp.size, h.rs.env h.env h2⟩
theorem PNow.did {e : Ending} (h : PNow F w g F' w' p) (d : PDid F' g p' w' e w'') : e = .returned (.tuple #[]) ∧ ∃ F'', PNow F w g F'' w'' p' := by
  obtain ⟨he, F'', h1, h2, h3⟩ := d
  exact ⟨he, F'', h.on h1 h2 h3⟩
theorem PNow.done (h : PNow F w g F' w' p) : PDid F g p w (.returned (.tuple #[])) w' := ⟨rfl, F', h.rs, h.kp, h.more⟩
/-- Its plain cells. -/
theorem PNow.cells (h : PNow F w g F' w' p) : w'.cell? ⟨g, 0, none⟩ = some (.string p.host) ∧ w'.cell? ⟨g, 1, none⟩ = some (.int .i64 (p.size : Int)) ∧ w'.cell? ⟨g, 2, none⟩ = some (.int .i64 (p.st : Int)) ∧ w'.cell? ⟨g, 8, none⟩ = some (.string p.frm) ∧ w'.cell? ⟨g, 11, none⟩ = some (.int .i64 (p.bad : Int)) ∧ ∀ i, w'.frozen? ⟨g, i, none⟩ = false := by
  obtain ⟨lv, ev, rv, bv, o, xs, h1⟩ := h.rs
  obtain ⟨c0, c1, c2, c3, c4, c5, c6, c7, c8, c9, c10, c11, fz⟩ := h1.cells
  exact ⟨c0, c1, c2, c8, c11, fz⟩
end
end Go.Proofs.YtcjljldknekhiaaGreatDoor.Ln
