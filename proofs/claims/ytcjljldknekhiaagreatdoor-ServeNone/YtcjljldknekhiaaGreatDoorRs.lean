/-
  The document's own session in memory: its nine cells, its row of events, its bytes and texts. What say and reset return.
-/
import Derived.Test.YtcjljldknekhiaaGreatDoorMg
import Derived.Test.YtcjljldknekhiaaGreatDoorSm
namespace Go.Proofs.YtcjljldknekhiaaGreatDoor.Ln
open Go.RowKit
set_option linter.unusedVariables false
set_option linter.unusedSimpArgs false

/-! ### Texts and bytes that are only read -/
def TxtR (R : Nat → Prop) (w : World) (v : Value) (L : List ByteArray) : Prop :=
  ∃ x cap, v = .slice x L.length cap ∧ L.length ≤ cap ∧ (L = [] ∨ ∃ b off, R b ∧ x = some ⟨b, off, none⟩ ∧ ∀ i, i < L.length → w.cell? ⟨b, off + i, none⟩ = some (.string (L.getD i nobody)))
def ByV (R : Nat → Prop) (w : World) (v : Value) (bs : List Nat) : Prop := ∃ x cap, v = .slice x bs.length cap ∧ bs.length ≤ cap ∧ Bytes R w x bs
section
variable {R R' : Nat → Prop} {w w' : World} {v : Value}
theorem TxtR.keep {L : List ByteArray} {S : Nat → Prop} (h : TxtR R w v L) (k : Keep S w w') (hs : ∀ b, b < w.heap.size → R b → ¬ S b ∧ R' b) : TxtR R' w' v L := by
  obtain ⟨x, cap, hv, hc, h0 | ⟨b, off, hR, hx, hcell⟩⟩ := h
  · exact ⟨x, cap, hv, hc, .inl h0⟩
  · by_cases h0 : L = []
    · exact ⟨x, cap, hv, hc, .inl h0⟩
    · have hlt : b < w.heap.size := World.block_lt_of_cell? w _ (hcell 0 (List.length_pos_iff.2 h0))
      exact ⟨x, cap, hv, hc, .inr ⟨b, off, (hs b hlt hR).2, hx, fun i hi => k.cell (hcell i hi) (hs b hlt hR).1⟩⟩
theorem TxtR.nil (R : Nat → Prop) (w : World) : TxtR R w (.slice none 0 0) [] := ⟨none, 0, rfl, Nat.le_refl _, .inl rfl⟩
theorem TxtR.one {L : List ByteArray} (h : TxtR R w v L) : v.oneCell' = true := by
  obtain ⟨x, cap, rfl, _⟩ := h
  rfl
theorem ByV.keep {bs : List Nat} {S : Nat → Prop} (h : ByV R w v bs) (k : Keep S w w') (hs : ∀ b, b < w.heap.size → R b → ¬ S b ∧ R' b) : ByV R' w' v bs := by
  obtain ⟨x, cap, hv, hc, hB⟩ := h
  exact ⟨x, cap, hv, hc, ((hB.mono (Q := fun b => ¬ S b ∧ R' b) hs).keep k (fun b _ h => h.1)).mono (fun b _ h => h.2)⟩
theorem ByV.nil (R : Nat → Prop) (w : World) : ByV R w (.slice none 0 0) [] := ⟨none, 0, rfl, Nat.le_refl _, Bytes.nil _ _ _⟩
theorem ByV.one {bs : List Nat} (h : ByV R w v bs) : v.oneCell' = true := by
  obtain ⟨x, cap, rfl, _⟩ := h
  rfl
end

/-! ### Events -/
def nilV : Value := .slice none 0 0
def evCells (k : Int) (t f : ByteArray) (rv bv : Value) : List Value := [.int .i64 k, .string t, .int .i64 0, .int .i64 0, .int .i64 0, .string f, rv, bv]
def EvAt (R : Nat → Prop) (w : World) : Ev → List Value → Prop
  | .say t, cs => cs = evCells 1 t nobody nilV nilV
  | .keep f r b, cs => ∃ rv bv, cs = evCells 2 nobody f rv bv ∧ TxtR R w rv r ∧ ByV R w bv b
  | .shut, cs => cs = evCells 3 nobody nobody nilV nilV
def EvsAt (R : Nat → Prop) (w : World) : List Ev → List Value → Prop
  | [], xs => xs = []
  | e :: L, xs => ∃ cs r, xs = cs ++ r ∧ EvAt R w e cs ∧ EvsAt R w L r
section
variable {R R' : Nat → Prop} {w w' : World}
theorem EvAt.len {e : Ev} {cs : List Value} (h : EvAt R w e cs) : cs.length = 8 := by
  cases e with
  | say t => rw [show cs = evCells 1 t nobody nilV nilV from h]; rfl
  | keep f r b => obtain ⟨rv, bv, rfl, _⟩ := h; rfl
  | shut => rw [show cs = evCells 3 nobody nobody nilV nilV from h]; rfl
theorem EvAt.one {e : Ev} {cs : List Value} (h : EvAt R w e cs) : ∀ u ∈ cs, u.oneCell' = true := by
  have key : ∀ (k : Int) (t f : ByteArray) (rv bv : Value), rv.oneCell' = true → bv.oneCell' = true → ∀ u ∈ evCells k t f rv bv, u.oneCell' = true := by
    intro k t f rv bv h1 h2 u hu
    simp only [evCells, List.mem_cons, List.not_mem_nil, or_false] at hu
    rcases hu with rfl | rfl | rfl | rfl | rfl | rfl | rfl | rfl
    · rfl
    · rfl
    · rfl
    · rfl
    · rfl
    · rfl
    · exact h1
    · exact h2
  cases e with
  | say t => rw [show cs = evCells 1 t nobody nilV nilV from h]; exact key _ _ _ _ _ rfl rfl
  | keep f r b => obtain ⟨rv, bv, rfl, h1, h2⟩ := h; exact key _ _ _ _ _ h1.one h2.one
  | shut => rw [show cs = evCells 3 nobody nobody nilV nilV from h]; exact key _ _ _ _ _ rfl rfl
theorem EvAt.keepW {e : Ev} {cs : List Value} {S : Nat → Prop} (h : EvAt R w e cs) (k : Keep S w w') (hs : ∀ b, b < w.heap.size → R b → ¬ S b ∧ R' b) : EvAt R' w' e cs := by
  cases e with
  | say t => exact h
  | keep f r b => obtain ⟨rv, bv, e, h1, h2⟩ := h; exact ⟨rv, bv, e, h1.keep k hs, h2.keep k hs⟩
  | shut => exact h
theorem EvsAt.keepW {S : Nat → Prop} (k : Keep S w w') (hs : ∀ b, b < w.heap.size → R b → ¬ S b ∧ R' b) : ∀ {L : List Ev} {xs : List Value}, EvsAt R w L xs → EvsAt R' w' L xs
  | [], _, h => h
  | e :: L, _, h => by
    obtain ⟨cs, r, hx, h1, h2⟩ := h
    exact ⟨cs, r, hx, h1.keepW k hs, EvsAt.keepW k hs h2⟩
theorem EvsAt.snoc {e : Ev} {cs : List Value} (h1 : EvAt R w e cs) : ∀ {L : List Ev} {xs : List Value}, EvsAt R w L xs → EvsAt R w (L ++ [e]) (xs ++ cs)
  | [], xs, h => by
    have : xs = [] := h
    subst this
    exact ⟨cs, [], by simp, h1, rfl⟩
  | e' :: L, xs, h => by
    obtain ⟨cs', r, rfl, h2, h3⟩ := h
    exact ⟨cs', r ++ cs, by simp, h2, EvsAt.snoc h1 h3⟩
theorem EvsAt.tail {L : List Ev} {xs : List Value} (h : EvsAt R w L xs) : EvsAt R w L.tail (xs.drop 8) := by
  cases L with
  | nil => rw [show xs = [] from h]; rfl
  | cons e L =>
    obtain ⟨cs, r, rfl, h1, h2⟩ := h
    have := h1.len
    rw [List.drop_left' this]
    exact h2
theorem EvsAt.len : ∀ {L : List Ev} {xs : List Value}, EvsAt R w L xs → xs.length = L.length * 8
  | [], _, h => by rw [show _ = [] from h]; rfl
  | e :: L, _, h => by
    obtain ⟨cs, r, rfl, h1, h2⟩ := h
    rw [List.length_append, h1.len, EvsAt.len h2, List.length_cons]
    omega
end

/-! ### A session -/
/-- What of F is only read. -/
def Rd (F : Nat → Prop) (g : Nat) (qo qb : Option Nat) (k : Nat) : Prop := F k ∧ k ≠ g ∧ qo ≠ some k ∧ qb ≠ some k
def sessCells (s : Se) (wv ov rv bv : Value) : Array Value := #[.string s.host, .int .i64 (s.size : Int), wv, ov, .int .i64 (s.st : Int), .string s.frm, rv, bv, .int .i64 (s.bad : Int)]
/-- The session in block g is s; all that it reaches lies in F. -/
structure RSat (F : Nat → Prop) (w : World) (g : Nat) (s : Se) (wv ov rv bv : Value) (qo qb : Option Nat) (xs : List Value) : Prop where
  row : At w g 38 (sessCells s wv ov rv bv)
  fg : F g
  flt : ∀ k, F k → k < w.heap.size
  fo : ∀ k, qo = some k → F k
  fb : ∀ k, qb = some k → F k
  out : MidG 46 8 w ov qo s.out.length xs
  evs : EvsAt (Rd F g qo qb) w s.out xs
  body : Mid w bv qb s.body
  wait : ByV (Rd F g qo qb) w wv s.wait
  rc : TxtR (Rd F g qo qb) w rv s.rcpts
def RS (F : Nat → Prop) (w : World) (g : Nat) (s : Se) : Prop := ∃ wv ov rv bv qo qb xs, RSat F w g s wv ov rv bv qo qb xs
/-- What may have come to it. -/
def More (F F' : Nat → Prop) (w : World) : Prop := ∀ k, F' k → F k ∨ w.heap.size ≤ k
theorem More.refl (F : Nat → Prop) (w : World) : More F F w := fun _ h => .inl h
theorem More.trans {F F' F'' : Nat → Prop} {w w' : World} (h : More F F' w) (k : More F' F'' w') (hs : w.heap.size ≤ w'.heap.size) : More F F'' w := fun i hi => by
  rcases k i hi with h1 | h1
  · exact h i h1
  · exact .inr (by omega)
theorem keep_more {F F' : Nat → Prop} {a w w' : World} (h : Keep F a w) (k : Keep F' w w') (m : More F F' a) : Keep F a w' := h.trans k (fun i hi hF => by
  rcases m i hF with h1 | h1
  · exact h1
  · omega)
/-- A call that answers nothing, and leaves the session as s. -/
def Did (F : Nat → Prop) (g : Nat) (s : Se) (w : World) (e : Ending) (w' : World) : Prop :=
  e = .returned (.tuple #[]) ∧ ∃ F', RS F' w' g s ∧ Keep F w w' ∧ More F F' w
theorem RSat.other {F S : Nat → Prop} {w w' : World} {g : Nat} {s : Se} {wv ov rv bv : Value} {qo qb : Option Nat} {xs : List Value} (h : RSat F w g s wv ov rv bv qo qb xs) (k : Keep S w w') (hS : ∀ i, F i → ¬ S i) : RSat F w' g s wv ov rv bv qo qb xs :=
  ⟨h.row.keep k (hS g h.fg), h.fg, fun i hi => Nat.lt_of_lt_of_le (h.flt i hi) k.size, h.fo, h.fb, h.out.keep k (fun b hb => hS b (h.fo b hb)), h.evs.keepW k (fun b _ hR => ⟨hS b hR.1, hR⟩), h.body.keep k (fun b hb => hS b (h.fb b hb)),
    h.wait.keep k (fun b _ hR => ⟨hS b hR.1, hR⟩), h.rc.keep k (fun b _ hR => ⟨hS b hR.1, hR⟩)⟩
/-- Whatever leaves F alone leaves the session alone. -/
theorem RS.other {F S : Nat → Prop} {w w' : World} {g : Nat} {s : Se} (h : RS F w g s) (k : Keep S w w') (hS : ∀ i, F i → ¬ S i) : RS F w' g s := by
  obtain ⟨wv, ov, rv, bv, qo, qb, xs, h⟩ := h
  exact ⟨wv, ov, rv, bv, qo, qb, xs, h.other k hS⟩
theorem RS.quiet {F : Nat → Prop} {w w' : World} {g : Nat} {s : Se} (h : RS F w g s) (k : Keep (fun _ => False) w w') : RS F w' g s := h.other k (fun _ _ h => h)
theorem RS.lt {F : Nat → Prop} {w : World} {g : Nat} {s : Se} (h : RS F w g s) : ∀ k, F k → k < w.heap.size := by
  obtain ⟨_, _, _, _, _, _, _, h⟩ := h
  exact h.flt
section
variable {F : Nat → Prop} {w w' : World} {g : Nat} {s : Se} {wv ov rv bv : Value} {qo qb : Option Nat} {xs : List Value}
theorem RSat.nog (h : RSat F w g s wv ov rv bv qo qb xs) : qo ≠ some g ∧ qb ≠ some g := ⟨h.out.ne h.row (by decide), h.body.ne h.row (by decide)⟩
theorem RSat.nqq (h : RSat F w g s wv ov rv bv qo qb xs) : ∀ k, qo = some k → qb ≠ some k := by
  rintro k rfl
  obtain ⟨_, _, x, cap, _, _, ⟨_, h0⟩ | ⟨g', off, cur, _, hq, hA, _⟩⟩ := h.out
  · cases h0
  · cases hq
    exact h.body.ne hA (by decide)
/-- The nine cells. -/
theorem RSat.cells (h : RSat F w g s wv ov rv bv qo qb xs) : w.cell? ⟨g, 0, none⟩ = some (.string s.host) ∧ w.cell? ⟨g, 1, none⟩ = some (.int .i64 (s.size : Int)) ∧ w.cell? ⟨g, 2, none⟩ = some wv ∧ w.cell? ⟨g, 3, none⟩ = some ov ∧ w.cell? ⟨g, 4, none⟩ = some (.int .i64 (s.st : Int)) ∧
    w.cell? ⟨g, 5, none⟩ = some (.string s.frm) ∧ w.cell? ⟨g, 6, none⟩ = some rv ∧ w.cell? ⟨g, 7, none⟩ = some bv ∧ w.cell? ⟨g, 8, none⟩ = some (.int .i64 (s.bad : Int)) :=
  ⟨h.row.cell 0, h.row.cell 1, h.row.cell 2, h.row.cell 3, h.row.cell 4, h.row.cell 5, h.row.cell 6, h.row.cell 7, h.row.cell 8⟩
theorem RSat.frozen (h : RSat F w g s wv ov rv bv qo qb xs) (i : Nat) : w.frozen? ⟨g, i, none⟩ = false := h.row.frozen i
/-- A cell of a plain kind is set. -/
theorem RSat.put (h : RSat F w g s wv ov rv bv qo qb xs) {s' : Se} (i : Nat) (u : Value) (he : (sessCells s wv ov rv bv).setIfInBounds i u = sessCells s' wv ov rv bv) (ho : s'.out = s.out) (hb : s'.body = s.body) (hw : s'.wait = s.wait) (hr : s'.rcpts = s.rcpts) :
    RSat F (w.setCell ⟨g, i, none⟩ u) g s' wv ov rv bv qo qb xs := by
  have k : Keep (fun k => k = g) w (w.setCell ⟨g, i, none⟩ u) := (Keep.refl (fun k => k = g) w).setCell (p := ⟨g, i, none⟩) (fun _ => rfl) _
  have hA := h.row.put i u
  rw [he] at hA
  have ng := h.nog
  refine ⟨hA, h.fg, fun j hj => Nat.lt_of_lt_of_le (h.flt j hj) k.size, h.fo, h.fb, ?_, ?_, ?_, ?_, ?_⟩
  · rw [ho]; exact h.out.keep k (fun b hb e => ng.1 (by rw [hb, e]))
  · rw [ho]; exact h.evs.keepW k (fun b _ hR => ⟨fun e => hR.2.1 e, hR⟩)
  · rw [hb]; exact h.body.keep k (fun b hb e => ng.2 (by rw [hb, e]))
  · rw [hw]; exact h.wait.keep k (fun b _ hR => ⟨fun e => hR.2.1 e, hR⟩)
  · rw [hr]; exact h.rc.keep k (fun b _ hR => ⟨fun e => hR.2.1 e, hR⟩)
theorem put_keep (h : F g) (i : Nat) (u : Value) : Keep F w (w.setCell ⟨g, i, none⟩ u) := (Keep.refl _ w).setCell (p := ⟨g, i, none⟩) (fun _ => h) _
end
end Go.Proofs.YtcjljldknekhiaaGreatDoor.Ln
