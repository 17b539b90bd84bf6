/-
  Several texts in one: Rs Ra Rb Rt Rv Rw Sv.
-/
import Derived.Test.YtcjljldknekhiaaGreatDoorKg1
import Derived.Laws.Rows

section
/-
  The document's own session in memory: its nine cells, its row of events, its bytes and texts. What say and reset return.
-/
namespace Go.Proofs.YtcjljldknekhiaaGreatDoor.Ln
open Go.RowKit
set_option linter.unusedVariables false
set_option linter.unusedSimpArgs false

/-! ### Texts and bytes that are only read -/
def TxtR (R : Nat → Prop) (w : World) (v : Value) (L : List ByteArray) : Prop :=
  ∃ x cap, v = .slice x L.length cap ∧ L.length ≤ cap ∧ (L = [] ∨ ∃ b off, R b ∧ x = some ⟨b, off, none⟩ ∧ ∀ i, i < L.length → w.cell? ⟨b, off + i, none⟩ = some (.string (L.getD i nobody)))
def ByV (R : Nat → Prop) (w : World) (v : Value) (bs : List Nat) : Prop := ∃ x cap, v = .slice x bs.length cap ∧ bs.length ≤ cap ∧ Bytes R w x bs
section
variable {R R' : Nat → Prop} {w w' : World} {v : Value}
theorem TxtR.keep {L : List ByteArray} {S : Nat → Prop} (h : TxtR R w v L) (k : Keep S w w') (hs : ∀ b, b < w.heap.size → R b → ¬ S b ∧ R' b) : TxtR R' w' v L := by
  obtain ⟨x, cap, hv, hc, h0 | ⟨b, off, hR, hx, hcell⟩⟩ := h
  · exact ⟨x, cap, hv, hc, .inl h0⟩
  · by_cases h0 : L = []
    · exact ⟨x, cap, hv, hc, .inl h0⟩
    · have hlt : b < w.heap.size := World.block_lt_of_cell? w _ (hcell 0 (List.length_pos_iff.2 h0))
      exact ⟨x, cap, hv, hc, .inr ⟨b, off, (hs b hlt hR).2, hx, fun i hi => k.cell (hcell i hi) (hs b hlt hR).1⟩⟩
theorem TxtR.nil (R : Nat → Prop) (w : World) : TxtR R w (.slice none 0 0) [] := ⟨none, 0, rfl, Nat.le_refl _, .inl rfl⟩
theorem TxtR.one {L : List ByteArray} (h : TxtR R w v L) : v.oneCell' = true := by
  obtain ⟨x, cap, rfl, _⟩ := h
  rfl
theorem ByV.keep {bs : List Nat} {S : Nat → Prop} (h : ByV R w v bs) (k : Keep S w w') (hs : ∀ b, b < w.heap.size → R b → ¬ S b ∧ R' b) : ByV R' w' v bs := by
  obtain ⟨x, cap, hv, hc, hB⟩ := h
  exact ⟨x, cap, hv, hc, ((hB.mono (Q := fun b => ¬ S b ∧ R' b) hs).keep k (fun b _ h => h.1)).mono (fun b _ h => h.2)⟩
theorem ByV.nil (R : Nat → Prop) (w : World) : ByV R w (.slice none 0 0) [] := ⟨none, 0, rfl, Nat.le_refl _, Bytes.nil _ _ _⟩
theorem ByV.one {bs : List Nat} (h : ByV R w v bs) : v.oneCell' = true := by
  obtain ⟨x, cap, rfl, _⟩ := h
  rfl
end

/-! ### Events -/
def nilV : Value := .slice none 0 0
def evCells (k : Int) (t f : ByteArray) (rv bv : Value) : List Value := [.int .i64 k, .string t, .int .i64 0, .int .i64 0, .int .i64 0, .string f, rv, bv]
def EvAt (R : Nat → Prop) (w : World) : Ev → List Value → Prop
  | .say t, cs => cs = evCells 1 t nobody nilV nilV
  | .keep f r b, cs => ∃ rv bv, cs = evCells 2 nobody f rv bv ∧ TxtR R w rv r ∧ ByV R w bv b
  | .shut, cs => cs = evCells 3 nobody nobody nilV nilV
def EvsAt (R : Nat → Prop) (w : World) : List Ev → List Value → Prop
  | [], xs => xs = []
  | e :: L, xs => ∃ cs r, xs = cs ++ r ∧ EvAt R w e cs ∧ EvsAt R w L r
section
variable {R R' : Nat → Prop} {w w' : World}
theorem EvAt.len {e : Ev} {cs : List Value} (h : EvAt R w e cs) : cs.length = 8 := by
  cases e with
  | say t => rw [show cs = evCells 1 t nobody nilV nilV from h]; rfl
  | keep f r b => obtain ⟨rv, bv, rfl, _⟩ := h; rfl
  | shut => rw [show cs = evCells 3 nobody nobody nilV nilV from h]; rfl
theorem EvAt.one {e : Ev} {cs : List Value} (h : EvAt R w e cs) : ∀ u ∈ cs, u.oneCell' = true := by
  have key : ∀ (k : Int) (t f : ByteArray) (rv bv : Value), rv.oneCell' = true → bv.oneCell' = true → ∀ u ∈ evCells k t f rv bv, u.oneCell' = true := by
    intro k t f rv bv h1 h2 u hu
    simp only [evCells, List.mem_cons, List.not_mem_nil, or_false] at hu
    rcases hu with rfl | rfl | rfl | rfl | rfl | rfl | rfl | rfl
    · rfl
    · rfl
    · rfl
    · rfl
    · rfl
    · rfl
    · exact h1
    · exact h2
  cases e with
  | say t => rw [show cs = evCells 1 t nobody nilV nilV from h]; exact key _ _ _ _ _ rfl rfl
  | keep f r b => obtain ⟨rv, bv, rfl, h1, h2⟩ := h; exact key _ _ _ _ _ h1.one h2.one
  | shut => rw [show cs = evCells 3 nobody nobody nilV nilV from h]; exact key _ _ _ _ _ rfl rfl
theorem EvAt.keepW {e : Ev} {cs : List Value} {S : Nat → Prop} (h : EvAt R w e cs) (k : Keep S w w') (hs : ∀ b, b < w.heap.size → R b → ¬ S b ∧ R' b) : EvAt R' w' e cs := by
  cases e with
  | say t => exact h
  | keep f r b => obtain ⟨rv, bv, e, h1, h2⟩ := h; exact ⟨rv, bv, e, h1.keep k hs, h2.keep k hs⟩
  | shut => exact h
theorem EvsAt.keepW {S : Nat → Prop} (k : Keep S w w') (hs : ∀ b, b < w.heap.size → R b → ¬ S b ∧ R' b) : ∀ {L : List Ev} {xs : List Value}, EvsAt R w L xs → EvsAt R' w' L xs
  | [], _, h => h
  | e :: L, _, h => by
    obtain ⟨cs, r, hx, h1, h2⟩ := h
    exact ⟨cs, r, hx, h1.keepW k hs, EvsAt.keepW k hs h2⟩
theorem EvsAt.snoc {e : Ev} {cs : List Value} (h1 : EvAt R w e cs) : ∀ {L : List Ev} {xs : List Value}, EvsAt R w L xs → EvsAt R w (L ++ [e]) (xs ++ cs)
  | [], xs, h => by
    have : xs = [] := h
    subst this
    exact ⟨cs, [], by simp, h1, rfl⟩
  | e' :: L, xs, h => by
    obtain ⟨cs', r, rfl, h2, h3⟩ := h
    exact ⟨cs', r ++ cs, by simp, h2, EvsAt.snoc h1 h3⟩
theorem EvsAt.tail {L : List Ev} {xs : List Value} (h : EvsAt R w L xs) : EvsAt R w L.tail (xs.drop 8) := by
  cases L with
  | nil => rw [show xs = [] from h]; rfl
  | cons e L =>
    obtain ⟨cs, r, rfl, h1, h2⟩ := h
    have := h1.len
    rw [List.drop_left' this]
    exact h2
theorem EvsAt.len : ∀ {L : List Ev} {xs : List Value}, EvsAt R w L xs → xs.length = L.length * 8
  | [], _, h => by rw [show _ = [] from h]; rfl
  | e :: L, _, h => by
    obtain ⟨cs, r, rfl, h1, h2⟩ := h
    rw [List.length_append, h1.len, EvsAt.len h2, List.length_cons]
    omega
end

/-! ### A session -/
/-- What of F is only read. -/
def Rd (F : Nat → Prop) (g : Nat) (qo qb : Option Nat) (k : Nat) : Prop := F k ∧ k ≠ g ∧ qo ≠ some k ∧ qb ≠ some k
def sessCells (s : Se) (wv ov rv bv : Value) : Array Value := #[.string s.host, .int .i64 (s.size : Int), wv, ov, .int .i64 (s.st : Int), .string s.frm, rv, bv, .int .i64 (s.bad : Int)]
/-- The session in block g is s; all that it reaches lies in F. -/
structure RSat (F : Nat → Prop) (w : World) (g : Nat) (s : Se) (wv ov rv bv : Value) (qo qb : Option Nat) (xs : List Value) : Prop where
  row : At w g 38 (sessCells s wv ov rv bv)
  fg : F g
  flt : ∀ k, F k → k < w.heap.size
  fo : ∀ k, qo = some k → F k
  fb : ∀ k, qb = some k → F k
  out : MidG 46 8 w ov qo s.out.length xs
  evs : EvsAt (Rd F g qo qb) w s.out xs
  body : Mid w bv qb s.body
  wait : ByV (Rd F g qo qb) w wv s.wait
  rc : TxtR (Rd F g qo qb) w rv s.rcpts
def RS (F : Nat → Prop) (w : World) (g : Nat) (s : Se) : Prop := ∃ wv ov rv bv qo qb xs, RSat F w g s wv ov rv bv qo qb xs
/-- What may have come to it. -/
def More (F F' : Nat → Prop) (w : World) : Prop := ∀ k, F' k → F k ∨ w.heap.size ≤ k
theorem More.refl (F : Nat → Prop) (w : World) : More F F w := fun _ h => .inl h
theorem More.trans {F F' F'' : Nat → Prop} {w w' : World} (h : More F F' w) (k : More F' F'' w') (hs : w.heap.size ≤ w'.heap.size) : More F F'' w := fun i hi => by
  rcases k i hi with h1 | h1
  · exact h i h1
  · exact .inr (by omega)
theorem keep_more {F F' : Nat → Prop} {a w w' : World} (h : Keep F a w) (k : Keep F' w w') (m : More F F' a) : Keep F a w' := h.trans k (fun i hi hF => by
  rcases m i hF with h1 | h1
  · exact h1
  · omega)
/-- A call that answers nothing, and leaves the session as s. -/
def Did (F : Nat → Prop) (g : Nat) (s : Se) (w : World) (e : Ending) (w' : World) : Prop :=
  e = .returned (.tuple #[]) ∧ ∃ F', RS F' w' g s ∧ Keep F w w' ∧ More F F' w
theorem RSat.other {F S : Nat → Prop} {w w' : World} {g : Nat} {s : Se} {wv ov rv bv : Value} {qo qb : Option Nat} {xs : List Value} (h : RSat F w g s wv ov rv bv qo qb xs) (k : Keep S w w') (hS : ∀ i, F i → ¬ S i) : RSat F w' g s wv ov rv bv qo qb xs :=
  ⟨h.row.keep k (hS g h.fg), h.fg, fun i hi => Nat.lt_of_lt_of_le (h.flt i hi) k.size, h.fo, h.fb, h.out.keep k (fun b hb => hS b (h.fo b hb)), h.evs.keepW k (fun b _ hR => ⟨hS b hR.1, hR⟩), h.body.keep k (fun b hb => hS b (h.fb b hb)),
    h.wait.keep k (fun b _ hR => ⟨hS b hR.1, hR⟩), h.rc.keep k (fun b _ hR => ⟨hS b hR.1, hR⟩)⟩
/-- Whatever leaves F alone leaves the session alone. -/
theorem RS.other {F S : Nat → Prop} {w w' : World} {g : Nat} {s : Se} (h : RS F w g s) (k : Keep S w w') (hS : ∀ i, F i → ¬ S i) : RS F w' g s := by
  obtain ⟨wv, ov, rv, bv, qo, qb, xs, h⟩ := h
  exact ⟨wv, ov, rv, bv, qo, qb, xs, h.other k hS⟩
theorem RS.quiet {F : Nat → Prop} {w w' : World} {g : Nat} {s : Se} (h : RS F w g s) (k : Keep (fun _ => False) w w') : RS F w' g s := h.other k (fun _ _ h => h)
theorem RS.lt {F : Nat → Prop} {w : World} {g : Nat} {s : Se} (h : RS F w g s) : ∀ k, F k → k < w.heap.size := by
  obtain ⟨_, _, _, _, _, _, _, h⟩ := h
  exact h.flt
section
variable {F : Nat → Prop} {w w' : World} {g : Nat} {s : Se} {wv ov rv bv : Value} {qo qb : Option Nat} {xs : List Value}
theorem RSat.nog (h : RSat F w g s wv ov rv bv qo qb xs) : qo ≠ some g ∧ qb ≠ some g := ⟨h.out.ne h.row (by decide), h.body.ne h.row (by decide)⟩
theorem RSat.nqq (h : RSat F w g s wv ov rv bv qo qb xs) : ∀ k, qo = some k → qb ≠ some k := by
  rintro k rfl
  obtain ⟨_, _, x, cap, _, _, ⟨_, h0⟩ | ⟨g', off, cur, _, hq, hA, _⟩⟩ := h.out
  · cases h0
  · cases hq
    exact h.body.ne hA (by decide)
/-- The nine cells. -/
theorem RSat.cells (h : RSat F w g s wv ov rv bv qo qb xs) : w.cell? ⟨g, 0, none⟩ = some (.string s.host) ∧ w.cell? ⟨g, 1, none⟩ = some (.int .i64 (s.size : Int)) ∧ w.cell? ⟨g, 2, none⟩ = some wv ∧ w.cell? ⟨g, 3, none⟩ = some ov ∧ w.cell? ⟨g, 4, none⟩ = some (.int .i64 (s.st : Int)) ∧
    w.cell? ⟨g, 5, none⟩ = some (.string s.frm) ∧ w.cell? ⟨g, 6, none⟩ = some rv ∧ w.cell? ⟨g, 7, none⟩ = some bv ∧ w.cell? ⟨g, 8, none⟩ = some (.int .i64 (s.bad : Int)) :=
  ⟨h.row.cell 0, h.row.cell 1, h.row.cell 2, h.row.cell 3, h.row.cell 4, h.row.cell 5, h.row.cell 6, h.row.cell 7, h.row.cell 8⟩
theorem RSat.frozen (h : RSat F w g s wv ov rv bv qo qb xs) (i : Nat) : w.frozen? ⟨g, i, none⟩ = false := h.row.frozen i
/-- A cell of a plain kind is set. -/
theorem RSat.put (h : RSat F w g s wv ov rv bv qo qb xs) {s' : Se} (i : Nat) (u : Value) (he : (sessCells s wv ov rv bv).setIfInBounds i u = sessCells s' wv ov rv bv) (ho : s'.out = s.out) (hb : s'.body = s.body) (hw : s'.wait = s.wait) (hr : s'.rcpts = s.rcpts) :
    RSat F (w.setCell ⟨g, i, none⟩ u) g s' wv ov rv bv qo qb xs := by
  have k : Keep (fun k => k = g) w (w.setCell ⟨g, i, none⟩ u) := (Keep.refl (fun k => k = g) w).setCell (p := ⟨g, i, none⟩) (fun _ => rfl) _
  have hA := h.row.put i u
  rw [he] at hA
  have ng := h.nog
  refine ⟨hA, h.fg, fun j hj => Nat.lt_of_lt_of_le (h.flt j hj) k.size, h.fo, h.fb, ?_, ?_, ?_, ?_, ?_⟩
  · rw [ho]; exact h.out.keep k (fun b hb e => ng.1 (by rw [hb, e]))
  · rw [ho]; exact h.evs.keepW k (fun b _ hR => ⟨fun e => hR.2.1 e, hR⟩)
  · rw [hb]; exact h.body.keep k (fun b hb e => ng.2 (by rw [hb, e]))
  · rw [hw]; exact h.wait.keep k (fun b _ hR => ⟨fun e => hR.2.1 e, hR⟩)
  · rw [hr]; exact h.rc.keep k (fun b _ hR => ⟨fun e => hR.2.1 e, hR⟩)
theorem put_keep (h : F g) (i : Nat) (u : Value) : Keep F w (w.setCell ⟨g, i, none⟩ u) := (Keep.refl _ w).setCell (p := ⟨g, i, none⟩) (fun _ => h) _
end
end Go.Proofs.YtcjljldknekhiaaGreatDoor.Ln
end

section
/-
  What the document's own say and reset return.
-/
namespace Go.Proofs.YtcjljldknekhiaaGreatDoor.Ln
open Go.RowKit
set_option linter.unusedVariables false
set_option linter.unusedSimpArgs false

theorem infoEv : ∃ i z, Tryz.prog.info? 46 = some i ∧ i.zero = some z ∧ z.cells.size = i.size ∧ i.size = 8 ∧ i.bytes ≤ 1000 := by
  have h : (Tryz.prog.info? 46).map (fun i => (i.zero.map (·.cells.size), i.size, decide (i.bytes ≤ 1000))) = some (some 8, 8, true) := by kernel_rfl
  obtain ⟨i, hi, he⟩ := Option.map_eq_some_iff.1 h
  injection he with h1 h2
  injection h2 with h2 h3
  obtain ⟨z, hz, hs⟩ := Option.map_eq_some_iff.1 h1
  exact ⟨i, z, hi, hz, by rw [hs, h2], h2, of_decide_eq_true h3⟩
theorem wpList_append_ev {w : World} {ops : Array Oper} {rest : List Oper} {o : Oper} {a : Act} {Q : Exit → Act → World → Prop} (hgd : o.guard = none) (s t : Operand)
    (ho : o.op = .call { callee := .builtin .append, args := #[s, t], argTypes := #[35, 35] })
    (v : Value) (q : Option Nat) (n : Nat) (xs : List Value) (hs : a.eval s = v) (hM : MidG 46 8 w v q n xs) (ad : Addr) (cs : List Value) (hx : a.eval t = .slice (some ad) 1 1) (hcs : cs.length = 8) (hn : ∀ j u, cs[j]? = some u → w.cell? (ad.add j) = some u) (h1 : ∀ u ∈ cs, u.oneCell' = true) (hl : n ≤ 1000000)
    (hK : ∀ y k cap q' w', MidG 46 8 w' (.slice y k cap) q' (n + 1) (xs ++ cs) → Keep (fun k => q = some k) w w' → New w q q' → wpList Tryz.prog ops Q rest (a.put o.dst (.slice y k cap)) w') :
    wpList Tryz.prog ops Q (o :: rest) a w := by
  obtain ⟨i0, z, hi, hz, hzs, h8, hby⟩ := infoEv
  refine wpList_plain hgd fun K hK' => ?_
  have hM' : MidG 46 i0.size w v q n xs := by rw [h8]; exact hM
  have hsrc : Src Tryz.prog i0.size 35 (.slice (some ad) 1 1) 1 cs w := Src.ofSlice w Tryz.underlying35 ad 1 1 cs (by rw [h8, hcs]) hn h1
  obtain ⟨y, k, cap, q', w', hr, h2, h3, h4⟩ := run_append_midG (t := 35) o.type Tryz.underlying35 hi hz hzs (by rw [h8]; decide) hby w v q n xs hM' _ 1 cs hsrc (by omega)
  rw [h8] at h2
  unfold Oper.wp execOp
  simp only [ho, resolve, invoke, builtin, Sem.run_bind, Sem.run_pure, Result.andThen_ok, List.map_toArray, List.map_cons, List.map_nil, hs, hx, hr]
  exact hK' _ _ (hK y k cap q' w' h2 h3 h4)
theorem cells_new (w : World) (t : TypeId) (cs : List Value) : ∀ j u, cs[j]? = some u → (w.alloc (.cells cs.toArray t)).cell? ((⟨w.heap.size, 0, none⟩ : Addr).add j) = some u := fun j u hu => by
  rw [Addr.add_mid, Nat.zero_add, cell_of_row _ _ j _ _ (0, 0) (heap_alloc_new w _)]
  simpa using hu

section
variable {F : Nat → Prop} {w w' w1 : World} {g : Nat} {s : Se} {wv ov rv bv : Value} {qo qb : Option Nat} {xs : List Value}
/-- An event was appended, and the row's slice is stored. -/
theorem RSat.told (h : RSat F w g s wv ov rv bv qo qb xs) {S : Nat → Prop} (k0 : Keep S w w1) (hS : ∀ i, S i → w.heap.size ≤ i) {y : Option Addr} {k cap : Nat} {q' : Option Nat} {e : Ev} {cs : List Value} {R1 : Nat → Prop} (hR1 : ∀ i, R1 i → Rd F g qo qb i ∨ w.heap.size ≤ i ∧ i < w1.heap.size) (he : EvAt R1 w1 e cs)
    (hM : MidG 46 8 w' (.slice y k cap) q' (s.out.length + 1) (xs ++ cs)) (k1 : Keep (fun k => qo = some k) w1 w') (hN : New w1 qo q') :
    w'.cell? ⟨g, 3, none⟩ = some ov ∧ w'.frozen? ⟨g, 3, none⟩ = false ∧ ∃ F', RSat F' (w'.setCell ⟨g, 3, none⟩ (.slice y k cap)) g { s with out := s.out ++ [e] } wv (.slice y k cap) rv bv q' qb (xs ++ cs) ∧ Keep F w (w'.setCell ⟨g, 3, none⟩ (.slice y k cap)) ∧ More F F' w := by
  have ng := h.nog
  have hsz0 := k0.size
  have hsz1 := k1.size
  have hgl := h.flt g h.fg
  have hA1 : At w1 g 38 (sessCells s wv ov rv bv) := h.row.keep k0 (fun e => by have := hS g e; omega)
  have hA2 : At w' g 38 (sessCells s wv ov rv bv) := hA1.keep k1 (fun e => ng.1 e)
  have hq'g : q' ≠ some g := hM.ne hA2 (by decide)
  have kF : Keep F w w' := (k0.mono (T := F) (fun i hi e => by have := hS i e; omega)).trans k1 (fun i hi e => h.fo i e)
  have kg : Keep (fun k => k = g) w' (w'.setCell ⟨g, 3, none⟩ (.slice y k cap)) := (Keep.refl (fun k => k = g) w').setCell (p := ⟨g, 3, none⟩) (fun _ => rfl) _
  have hqb : ∀ b, qb = some b → b ≠ g ∧ qo ≠ some b ∧ q' ≠ some b := fun b hb => by
    refine ⟨fun e => ng.2 (by rw [hb, e]), fun e => h.nqq b e hb, fun e => ?_⟩
    rcases hN b e with e1 | e1
    · exact h.nqq b e1 hb
    · have := h.flt b (h.fb b hb)
      omega
  have hbad : ∀ b, Rd F g qo qb b → b ≠ g ∧ qo ≠ some b ∧ q' ≠ some b ∧ qb ≠ some b := fun b hR => by
    refine ⟨hR.2.1, hR.2.2.1, fun e => ?_, hR.2.2.2⟩
    rcases hN b e with e1 | e1
    · exact hR.2.2.1 e1
    · have := h.flt b hR.1
      omega
  refine ⟨hA2.cell 3, hA2.frozen 3, fun i => F i ∨ q' = some i ∨ (w.heap.size ≤ i ∧ i < w1.heap.size), ⟨?_, .inl h.fg, ?_, fun i hi => .inr (.inl hi), fun i hi => .inl (h.fb i hi), ?_, ?_, ?_, ?_, ?_⟩, kF.trans kg (fun i hi e => e ▸ h.fg), fun i hi => ?_⟩
  · exact hA2.put 3 _
  · intro i hi
    rw [show (w'.setCell ⟨g, 3, none⟩ (.slice y k cap)).heap.size = w'.heap.size by simp [World.setCell]]
    rcases hi with hi | hi | hi
    · have := h.flt i hi; omega
    · exact hM.lt i hi
    · omega
  · rw [show (s.out ++ [e]).length = s.out.length + 1 by simp]
    exact hM.keep kg (fun b hb e => hq'g (by rw [hb, e]))
  · have hall : ∀ b, (Rd F g qo qb b ∨ w.heap.size ≤ b ∧ b < w1.heap.size) → b < w1.heap.size → (q' ≠ some b) ∧ b ≠ g ∧ qo ≠ some b ∧ qb ≠ some b := fun b hb hlt => by
      rcases hb with hb | hb
      · have := hbad b hb
        exact ⟨this.2.2.1, this.1, this.2.1, this.2.2.2⟩
      · refine ⟨fun e => ?_, by omega, fun e => ?_, fun e => ?_⟩
        · rcases hN b e with e1 | e1
          · have := h.flt b (h.fo b e1); omega
          · omega
        · have := h.flt b (h.fo b e); omega
        · have := h.flt b (h.fb b e); omega
    refine EvsAt.snoc ?_ ?_
    · refine EvAt.keepW (R := R1) he ((k1.mono (T := fun i => i = g ∨ qo = some i) (fun i _ e => .inr e)).trans kg (fun i _ e => .inl e)) (fun b hb hR => ?_)
      have := hall b (hR1 b hR) hb
      exact ⟨fun e => e.elim this.2.1 this.2.2.1, by
        rcases hR1 b hR with h1 | h1
        · exact .inl h1.1
        · exact .inr (.inr h1), this.2.1, this.1, this.2.2.2⟩
    · exact h.evs.keepW (((k0.mono (T := fun i => i = g ∨ qo = some i ∨ w.heap.size ≤ i) (fun i _ e => .inr (.inr (hS i e)))).trans (k1.mono (T := fun i => i = g ∨ qo = some i) (fun i _ e => .inr e)) (fun i _ e => e.elim .inl (fun e => .inr (.inl e)))).trans kg (fun i _ e => .inl e)) (fun b hb hR => by
        have := hbad b hR
        exact ⟨fun e => by
          rcases e with e | e | e
          · exact this.1 e
          · exact this.2.1 e
          · omega, .inl hR.1, this.1, this.2.2.1, this.2.2.2⟩)
  · exact ((h.body.keep k0 (fun b hb e => by have := hS b e; have := h.flt b (h.fb b hb); omega)).keep k1 (fun b hb e => (hqb b hb).2.1 e)).keep kg (fun b hb e => (hqb b hb).1 e)
  · exact ((h.wait.keep k0 (fun b hb hR => ⟨fun e => by have := hS b e; omega, hR⟩)).keep k1 (fun b _ hR => ⟨fun e => hR.2.2.1 e, hR⟩)).keep kg (fun b _ hR => ⟨fun e => hR.2.1 e, .inl hR.1, (hbad b hR).1, (hbad b hR).2.2.1, (hbad b hR).2.2.2⟩)
  · exact ((h.rc.keep k0 (fun b hb hR => ⟨fun e => by have := hS b e; omega, hR⟩)).keep k1 (fun b _ hR => ⟨fun e => hR.2.2.1 e, hR⟩)).keep kg (fun b _ hR => ⟨fun e => hR.2.1 e, .inl hR.1, (hbad b hR).1, (hbad b hR).2.2.1, (hbad b hR).2.2.2⟩)
  · rcases hi with hi | hi | hi
    · exact .inl hi
    · rcases hN i hi with e1 | e1
      · exact .inl (h.fo i e1)
      · exact .inr (by omega)
    · exact .inr hi.1
end

set_option maxHeartbeats 1000000 in
set_option maxRecDepth 100000 in
theorem refSay {F : Nat → Prop} {w : World} {g : Nat} {s : Se} (h : RS F w g s) (t : ByteArray) (hl : s.out.length ≤ 1000000) :
    Calls Tryz.prog 31 #[.pointer (some ⟨g, 0, none⟩), .string t] w (Did F g (s.say t) w) := by
  obtain ⟨wv, ov, rv, bv, qo, qb, xs, h⟩ := h
  obtain ⟨x, cap, rfl, hc⟩ := h.out.shape
  obtain ⟨_, _, _, c3, _⟩ := h.cells
  have hM1 : MidG 46 8 (w.alloc (.cells (evCells 1 t nobody nilV nilV).toArray 46)) (.slice x s.out.length cap) qo s.out.length xs := h.out.keep ((Keep.refl (fun _ => False) w).alloc _) (fun _ _ h => h)
  have HM1 := Lib.hid hM1
  have HR := Lib.hid h
  have HN := Lib.hid (cells_new w 46 (evCells 1 t nobody nilV nilV))
  clear h hM1
  go_enter Tryz.func31, Tryz.ntmps31
  go_wp2_with (refine wpList_append_ev (by rfl) _ _ (by rfl) _ qo s.out.length xs (by rfl) HM1.out ⟨w.heap.size, 0, none⟩ (evCells 1 t nobody nilV nilV) (by rfl) (by rfl) HN.out (EvAt.one (R := fun _ => True) (w := w) (e := .say t) rfl) hl ?_; intro y k c q' w2 hM2 hK2 hN2; obtain ⟨c3', f3', F', hR', hK', hm'⟩ := HR.out.told (e := .say t) (R1 := fun _ => False) ((Keep.refl (fun _ => False) w).alloc _) (fun _ h => h.elim) (fun _ h => h.elim) rfl hM2 hK2 hN2; have HR' := Lib.hid hR'; have HK' := Lib.hid hK'; have HM' := Lib.hid hm'; clear hM2 hK2 hN2 hR' hK' hm')
  go_end0
  exact ⟨rfl, F', ⟨_, _, _, _, _, _, _, HR'.out⟩, HK'.out, HM'.out⟩
end Go.Proofs.YtcjljldknekhiaaGreatDoor.Ln
end

section
/-
  A cell of the document's own session is turned; what its reset returns.
-/
namespace Go.Proofs.YtcjljldknekhiaaGreatDoor.Ln
open Go.RowKit
set_option linter.unusedVariables false
set_option linter.unusedSimpArgs false

section
variable {F : Nat → Prop} {w w1 : World} {g : Nat} {s : Se} {wv ov rv bv : Value} {qo qb : Option Nat} {xs : List Value}
/-- What is read goes on being read when only the body's row was written. -/
theorem RSat.read (h : RSat F w g s wv ov rv bv qo qb xs) (k0 : Keep (fun k => qb = some k) w w1) : ByV (Rd F g qo qb) w1 wv s.wait ∧ TxtR (Rd F g qo qb) w1 rv s.rcpts :=
  ⟨h.wait.keep k0 (fun b _ hR => ⟨fun e => hR.2.2.2 e, hR⟩), h.rc.keep k0 (fun b _ hR => ⟨fun e => hR.2.2.2 e, hR⟩)⟩
theorem RSat.turn (h : RSat F w g s wv ov rv bv qo qb xs) (k0 : Keep (fun k => qb = some k) w w1) {s' : Se} {i : Nat} {u wv' rv' bv' : Value} {qb' : Option Nat} (he : (sessCells s wv ov rv bv).setIfInBounds i u = sessCells s' wv' ov rv' bv') (ho : s'.out = s.out)
    (hb : Mid w1 bv' qb' s'.body) (hN : New w qb qb') {R1 : Nat → Prop} (hR1 : ∀ k, R1 k → (Rd F g qo qb k ∨ w.heap.size ≤ k ∧ k < w1.heap.size) ∧ qb' ≠ some k) (hw : ByV R1 w1 wv' s'.wait) (hr : TxtR R1 w1 rv' s'.rcpts) :
    (∀ j, w1.cell? ⟨g, j, none⟩ = (sessCells s wv ov rv bv)[j]?) ∧ w1.frozen? ⟨g, i, none⟩ = false ∧ ∃ F', RSat F' (w1.setCell ⟨g, i, none⟩ u) g s' wv' ov rv' bv' qo qb' xs ∧ Keep F w (w1.setCell ⟨g, i, none⟩ u) ∧ More F F' w := by
  have ng := h.nog
  have hsz0 := k0.size
  have hgl := h.flt g h.fg
  have hA1 : At w1 g 38 (sessCells s wv ov rv bv) := h.row.keep k0 (fun e => ng.2 e)
  have hqg : qb' ≠ some g := hb.ne hA1 (by decide)
  have kg : Keep (fun k => k = g) w1 (w1.setCell ⟨g, i, none⟩ u) := (Keep.refl (fun k => k = g) w1).setCell (p := ⟨g, i, none⟩) (fun _ => rfl) _
  have kF : Keep F w (w1.setCell ⟨g, i, none⟩ u) := (k0.mono (T := F) (fun j _ e => h.fb j e)).trans kg (fun j _ e => e ▸ h.fg)
  have hA2 := hA1.put i u
  rw [he] at hA2
  have hqo : ∀ b, qo = some b → b ≠ g ∧ qb ≠ some b ∧ qb' ≠ some b := fun b hb' => by
    refine ⟨fun e => ng.1 (by rw [hb', e]), h.nqq b hb', fun e => ?_⟩
    rcases hN b e with e1 | e1
    · exact h.nqq b hb' e1
    · have := h.flt b (h.fo b hb'); omega
  have hnew : ∀ b, R1 b → b < w1.heap.size → b ≠ g ∧ (F b ∨ qb' = some b ∨ (w.heap.size ≤ b ∧ b < w1.heap.size)) ∧ qo ≠ some b ∧ qb' ≠ some b := fun b hR hlt => by
    obtain ⟨h1, h2⟩ := hR1 b hR
    rcases h1 with h1 | h1
    · exact ⟨h1.2.1, .inl h1.1, h1.2.2.1, h2⟩
    · exact ⟨by omega, .inr (.inr h1), fun e => by have := h.flt b (h.fo b e); omega, h2⟩
  refine ⟨fun j => hA1.cell j, hA1.frozen i, fun k => F k ∨ qb' = some k ∨ (w.heap.size ≤ k ∧ k < w1.heap.size), ⟨hA2, .inl h.fg, ?_, fun k hk => .inl (h.fo k hk), fun k hk => .inr (.inl hk), ?_, ?_, ?_, ?_, ?_⟩, kF, fun k hk => ?_⟩
  · intro k hk
    rw [show (w1.setCell ⟨g, i, none⟩ u).heap.size = w1.heap.size by simp [World.setCell]]
    rcases hk with hk | hk | hk
    · have := h.flt k hk; omega
    · exact hb.lt k hk
    · omega
  · rw [ho]
    exact (h.out.keep k0 (fun b hb' e => (hqo b hb').2.1 e)).keep kg (fun b hb' e => (hqo b hb').1 e)
  · rw [ho]
    refine h.evs.keepW ((k0.mono (T := fun k => k = g ∨ qb = some k) (fun _ _ e => .inr e)).trans kg (fun _ _ e => .inl e)) (fun b hlt hR => ⟨fun e => e.elim hR.2.1 hR.2.2.2, .inl hR.1, hR.2.1, hR.2.2.1, fun e => ?_⟩)
    rcases hN b e with e1 | e1
    · exact hR.2.2.2 e1
    · omega
  · exact hb.keep kg (fun b hb' e => hqg (by rw [hb', e]))
  · exact hw.keep kg (fun b hlt hR => by
      have := hnew b hR hlt
      exact ⟨this.1, this.2.1, this.1, this.2.2.1, this.2.2.2⟩)
  · exact hr.keep kg (fun b hlt hR => by
      have := hnew b hR hlt
      exact ⟨this.1, this.2.1, this.1, this.2.2.1, this.2.2.2⟩)
  · rcases hk with hk | hk | hk
    · exact .inl hk
    · rcases hN k hk with e1 | e1
      · exact .inl (h.fb k e1)
      · exact .inr e1
    · exact .inr hk.1
/-- Two turns, one behind the other. -/
theorem Keep.two {F F' : Nat → Prop} {a w w' : World} (h : Keep F a w) (k : Keep F' w w') (m : More F F' a) : Keep F a w' := keep_more h k m
end
/-- What reset leaves in the four cells. -/
def wiped (w : World) (g : Nat) : World := (((w.setCell ⟨g, 5, none⟩ (.string { data := #[] })).setCell ⟨g, 6, none⟩ (.slice none 0 0)).setCell ⟨g, 7, none⟩ (.slice none 0 0)).setCell ⟨g, 8, none⟩ (.int .i64 0)
def Se.wipe (s : Se) : Se := { s with frm := nobody, rcpts := [], body := [], bad := 0 }
theorem RSat.wipe {F : Nat → Prop} {w : World} {g : Nat} {s : Se} {wv ov rv bv : Value} {qo qb : Option Nat} {xs : List Value} (h : RSat F w g s wv ov rv bv qo qb xs) :
    ∃ F', RSat F' (wiped w g) g s.wipe wv ov (.slice none 0 0) (.slice none 0 0) qo none xs ∧ Keep F w (wiped w g) ∧ More F F' w := by
  have h1 := h.put (s' := { s with frm := nobody }) 5 (.string nobody) (by rfl) rfl rfl rfl rfl
  obtain ⟨_, _, F2, h2, k2, m2⟩ := h1.turn (Keep.refl _ _) (s' := { s with frm := nobody, rcpts := [] }) (i := 6) (u := .slice none 0 0) (wv' := wv) (rv' := .slice none 0 0) (bv' := bv) (qb' := qb) (by rfl) rfl h1.body (New.refl _ _) (R1 := Rd F g qo qb) (fun k hk => ⟨.inl hk, hk.2.2.2⟩) h1.wait (TxtR.nil _ _)
  obtain ⟨_, _, F3, h3, k3, m3⟩ := h2.turn (Keep.refl _ _) (s' := { s with frm := nobody, rcpts := [], body := [] }) (i := 7) (u := .slice none 0 0) (wv' := wv) (rv' := .slice none 0 0) (bv' := .slice none 0 0) (qb' := none) (by rfl) rfl (Mid.empty _ _) (New.none _ _) (R1 := Rd F2 g qo qb) (fun k hk => ⟨.inl hk, by simp⟩) h2.wait (TxtR.nil _ _)
  have h4 := h3.put (s' := s.wipe) 8 (.int .i64 0) (by rfl) rfl rfl rfl rfl
  have e1 : (w.setCell ⟨g, 5, none⟩ (.string nobody)).heap.size = w.heap.size := by simp [World.setCell]
  have k1 : Keep F w (w.setCell ⟨g, 5, none⟩ (.string nobody)) := put_keep h.fg 5 _
  have m2' : More F F2 w := fun k hk => by rcases m2 k hk with h | h; · exact .inl h
                                           · exact .inr (by omega)
  have k12 := keep_more k1 k2 (More.refl F w)
  have k123 := keep_more k12 k3 m2'
  have m3' : More F F3 w := m2'.trans m3 k12.size
  exact ⟨F3, h4, keep_more k123 (put_keep h3.fg 8 _) m3', m3'⟩

set_option maxHeartbeats 1000000 in
set_option maxRecDepth 100000 in
theorem refReset {F : Nat → Prop} {w : World} {g : Nat} {s : Se} (h : RS F w g s) (hs : s.st ≤ 6) :
    Calls Tryz.prog 34 #[.pointer (some ⟨g, 0, none⟩)] w (Did F g s.reset w) := by
  obtain ⟨wv, ov, rv, bv, qo, qb, xs, h⟩ := h
  obtain ⟨c0, c1, c2, c3, c4, c5, c6, c7, c8⟩ := h.cells
  have f5 := h.frozen 5
  have f6 := h.frozen 6
  have f7 := h.frozen 7
  have f8 := h.frozen 8
  obtain ⟨F', h4, k4, m4⟩ := h.wipe
  obtain ⟨_, _, _, _, d4, _⟩ := h4.cells
  have fz4 := h4.frozen 4
  have hst : s.wipe.st = s.st := rfl
  rw [hst] at d4
  have d4' : ((((w.setCell ⟨g, 5, none⟩ (.string { data := #[] })).setCell ⟨g, 6, none⟩ (.slice none 0 0)).setCell ⟨g, 7, none⟩ (.slice none 0 0)).setCell ⟨g, 8, none⟩ (.int .i64 0)).cell? ⟨g, 4, none⟩ = some (.int .i64 (s.st : Int)) := d4
  have fz4' : ((((w.setCell ⟨g, 5, none⟩ (.string { data := #[] })).setCell ⟨g, 6, none⟩ (.slice none 0 0)).setCell ⟨g, 7, none⟩ (.slice none 0 0)).setCell ⟨g, 8, none⟩ (.int .i64 0)).frozen? ⟨g, 4, none⟩ = false := fz4
  have H4 : Hid (RSat F' ((((w.setCell ⟨g, 5, none⟩ (.string { data := #[] })).setCell ⟨g, 6, none⟩ (.slice none 0 0)).setCell ⟨g, 7, none⟩ (.slice none 0 0)).setCell ⟨g, 8, none⟩ (.int .i64 0)) g s.wipe wv ov (.slice none 0 0) (.slice none 0 0) qo none xs) := Lib.hid h4
  have K4 : Hid (Keep F w ((((w.setCell ⟨g, 5, none⟩ (.string { data := #[] })).setCell ⟨g, 6, none⟩ (.slice none 0 0)).setCell ⟨g, 7, none⟩ (.slice none 0 0)).setCell ⟨g, 8, none⟩ (.int .i64 0))) := Lib.hid k4
  have M4 := Lib.hid m4
  clear h h4 k4 m4 d4 fz4
  by_cases h1 : (1 : Int) < (s.st : Int)
  · have H5 := Lib.hid (H4.out.put (s' := s.reset) 4 (.int .i64 1) (by simp only [sessCells, Se.reset, Se.wipe]; rw [if_pos (by omega)]; rfl) rfl rfl rfl rfl)
    go_enter Tryz.func34, Tryz.ntmps34
    go_wp2
    go_end0
    exact ⟨rfl, F', ⟨_, _, _, _, _, _, _, H5.out⟩, keep_more K4.out (put_keep H4.out.fg 4 _) M4.out, M4.out⟩
  · have e : s.reset = s.wipe := by simp only [Se.reset, Se.wipe]; rw [if_neg (by omega)]
    go_enter Tryz.func34, Tryz.ntmps34
    go_wp2
    go_end0
    exact ⟨rfl, F', ⟨_, _, _, _, _, _, _, H4.out⟩, K4.out, M4.out⟩
end Go.Proofs.YtcjljldknekhiaaGreatDoor.Ln
end

section
/-
  What the document's own Text and Dec return.
-/
namespace Go.Proofs.YtcjljldknekhiaaGreatDoor.Ln
open Go.RowKit
set_option linter.unusedVariables false
set_option linter.unusedSimpArgs false

theorem dig_lt : ∀ (n : Nat) (c : Nat), c ∈ dig n → 48 ≤ c ∧ c ≤ 57 := by
  intro n
  induction n using Nat.strongRecOn with
  | _ n ih =>
    intro c hc
    rw [dig] at hc
    split at hc
    · obtain rfl : c = 48 + n := by simpa using hc
      omega
    · rcases List.mem_append.1 hc with h | h
      · exact ih (n / 10) (by omega) c h
      · obtain rfl : c = 48 + n % 10 := by simpa using h
        omega
/-- The digits that are told, ahead of those of n. -/
def front (n : Nat) : List Nat := if n = 0 then [] else dig n
theorem front_step {n : Nat} (h : 0 < n) : front n = front (n / 10) ++ [48 + n % 10] := by
  rw [front, if_neg (by omega), dig]
  by_cases h10 : n < 10
  · rw [if_pos h10, show n / 10 = 0 by omega, show n % 10 = n by omega]
    rfl
  · rw [if_neg h10, front, if_neg (by omega)]
theorem front_pos {n : Nat} (h : 0 < n) : front n = dig n := by rw [front, if_neg (by omega)]
theorem dig_len : ∀ (k n : Nat), n < 10 ^ k → (front n).length ≤ k
  | 0, n, h => by
    have : n = 0 := by simpa using h
    subst this
    simp [front]
  | k + 1, n, h => by
    rcases Nat.eq_zero_or_pos n with h0 | h0
    · subst h0; simp [front]
    · rw [front_step h0, List.length_append]
      have := dig_len k (n / 10) (by rw [Nat.pow_succ] at h; omega)
      simp
      omega
theorem one_byte (w : World) (d : Nat) (hd : d < 256) : (convert 34 9 (.slice (some ⟨w.heap.size, 0, none⟩) 1 1)).run Tryz.prog (w.alloc (.cells #[.int .u8 (d : Int)] 5)) = .ok (.string (str [d])) (w.alloc (.cells #[.int .u8 (d : Int)] 5)) := by
  have hB : Bytes (fun _ => True) (w.alloc (.cells #[.int .u8 (d : Int)] 5)) (some ⟨w.heap.size, 0, none⟩) [d] := by
    refine ⟨by simpa using hd, .inr ⟨w.heap.size, 0, trivial, rfl, fun i hi => ?_⟩⟩
    have : i = 0 := by simpa using hi
    subst this
    exact cell_of_row _ _ 0 _ _ (0, 0) (heap_alloc_new w _)
  exact run_str hB 1 1 rfl

set_option maxHeartbeats 4000000 in
set_option maxRecDepth 100000 in
theorem refText (n : Nat) (h0 : 0 < n) (hn : n < 1000000000) (w : World) : Calls Tryz.prog 22 #[.int .i64 (n : Int)] w fun e w' => e = .returned (.string (reply n)) ∧ Keep (fun _ => False) w w' := by
  have hlen : ∀ m, m ≤ n → (str (front m)).size ≤ 9 := fun m hm => by rw [str_size]; exact dig_len 9 m (by omega)
  go_enter Tryz.func22, Tryz.ntmps22
  go_wp2
  go_loopw [3, 4] (fun u z wr => ∃ (m : Nat) (T : List Nat), m ≤ n ∧ z = .int .i64 (m : Int) ∧ u = .string (str T) ∧ T.length ≤ 9 ∧ Hid (front n = front m ++ T) ∧ Hid (Keep (fun _ => False) w wr)) (fun _ z _ => (intOf z).toNat)
  case atStart => exact ⟨n, [], Nat.le_refl _, rfl, rfl, by simp, by show _ = _; simp, Keep.refl _ _⟩
  case round =>
    obtain ⟨m, T, hm, rfl, rfl, hT, HF, HK⟩ := hrel
    by_cases hpos : (0 : Int) < (m : Int)
    · have hst := front_step (n := m) (by omega)
      have hF2 : front n = front (m / 10) ++ ([48 + m % 10] ++ T) := by rw [HF.out, hst]; simp
      have hT2 : ([48 + m % 10] ++ T).length ≤ 9 := by
        have h1 := congrArg List.length hF2
        have h2 : (front n).length ≤ 9 := dig_len 9 n (by omega)
        rw [List.length_append] at h1
        omega
      have HF2 := Lib.hid hF2
      have hz : (str T).size ≤ 9 := by rw [str_size]; exact hT
      have he : ((48 + m % 10 : Nat) : Int) = 48 + (m : Int) % 10 := by omega
      have hob := one_byte wr (48 + m % 10) (by omega)
      rw [he] at hob
      have HK2 : Hid (Keep (fun _ => False) w (wr.alloc (.cells #[.int .u8 (48 + (m : Int) % 10)] 5))) := Lib.hid (HK.out.alloc _)
      obtain ⟨T', hT'⟩ : ∃ T', T' = [48 + m % 10] ++ T := ⟨_, rfl⟩
      rw [← hT'] at HF2 hT2
      have hsa : str [48 + m % 10] ++ str T = str T' := by rw [hT']; exact str_append _ _
      have hX : (str [48 + m % 10]).size = 1 := by rw [str_size]; rfl
      have HDIV : Hid (((m / 10 : Nat) : Int) = (m : Int) / 10) := Lib.hid (by omega)
      generalize str [48 + m % 10] = X at hob hsa hX
      clear hst hF2 he hT'
      go_wp2
      go_roundw
      case rel => exact ⟨m / 10, T', by omega, by rw [HDIV.out], rfl, hT2, HF2.out, HK2.out⟩
      case measure => simp [intOf]; omega
    · have hm0 : m = 0 := by omega
      have hF : dig n = T := by
        have := HF.out
        rw [hm0, front_pos h0] at this
        simpa [front] using this
      have HF' := Lib.hid hF
      have hz : (str T).size ≤ 9 := by rw [str_size]; exact hT
      clear hF
      by_cases h250 : (n : Int) = 250
      · go_wp2
        go_ret
        refine ⟨?_, HK.out⟩
        rw [reply, HF'.out, tailOf, if_pos (by omega)]
        exact congrArg (fun b => Ending.returned (Value.string b)) (str_append T [32, 111, 107, 13, 10])
      · by_cases h221 : (n : Int) = 221
        · go_wp2
          go_ret
          refine ⟨?_, HK.out⟩
          rw [reply, HF'.out, tailOf, if_neg (by omega), if_pos (by omega)]
          exact congrArg (fun b => Ending.returned (Value.string b)) (str_append T [32, 98, 121, 101, 13, 10])
        · by_cases h354 : (n : Int) = 354
          · go_wp2
            go_ret
            refine ⟨?_, HK.out⟩
            rw [reply, HF'.out, tailOf, if_neg (by omega), if_neg (by omega), if_pos (by omega)]
            exact congrArg (fun b => Ending.returned (Value.string b)) (str_append T [32, 103, 111, 32, 111, 110, 13, 10])
          · go_wp2
            go_ret
            refine ⟨?_, HK.out⟩
            rw [reply, HF'.out, tailOf, if_neg (by omega), if_neg (by omega), if_neg (by omega)]
            exact congrArg (fun b => Ending.returned (Value.string b)) (str_append T [32, 110, 111, 13, 10])

set_option maxHeartbeats 4000000 in
set_option maxRecDepth 100000 in
theorem refDec (n : Nat) (h0 : 0 < n) (hn : n < 1000000000) (w : World) : Calls Tryz.prog 53 #[.int .i64 (n : Int)] w fun e w' => e = .returned (.string (str (dig n))) ∧ Keep (fun _ => False) w w' := by
  have hne : ¬ ((n : Int) = 0) := by omega
  go_enter Tryz.func53, Tryz.ntmps53
  go_wp2
  go_loopw [0, 3] (fun z u wr => ∃ (m : Nat) (T : List Nat), m ≤ n ∧ z = .int .i64 (m : Int) ∧ u = .string (str T) ∧ T.length ≤ 9 ∧ Hid (front n = front m ++ T) ∧ Hid (Keep (fun _ => False) w wr)) (fun z _ _ => (intOf z).toNat)
  case atStart => exact ⟨n, [], Nat.le_refl _, rfl, rfl, by simp, by show _ = _; simp, Keep.refl _ _⟩
  case round =>
    obtain ⟨m, T, hm, rfl, rfl, hT, HF, HK⟩ := hrel
    by_cases hpos : (0 : Int) < (m : Int)
    · have hst := front_step (n := m) (by omega)
      have hF2 : front n = front (m / 10) ++ ([48 + m % 10] ++ T) := by rw [HF.out, hst]; simp
      have hT2 : ([48 + m % 10] ++ T).length ≤ 9 := by
        have h1 := congrArg List.length hF2
        have h2 : (front n).length ≤ 9 := dig_len 9 n (by omega)
        rw [List.length_append] at h1
        omega
      have HF2 := Lib.hid hF2
      have hz : (str T).size ≤ 9 := by rw [str_size]; exact hT
      have he : ((48 + m % 10 : Nat) : Int) = 48 + (m : Int) % 10 := by omega
      have hob := one_byte wr (48 + m % 10) (by omega)
      rw [he] at hob
      have HK2 : Hid (Keep (fun _ => False) w (wr.alloc (.cells #[.int .u8 (48 + (m : Int) % 10)] 5))) := Lib.hid (HK.out.alloc _)
      obtain ⟨T', hT'⟩ : ∃ T', T' = [48 + m % 10] ++ T := ⟨_, rfl⟩
      rw [← hT'] at HF2 hT2
      have hsa : str [48 + m % 10] ++ str T = str T' := by rw [hT']; exact str_append _ _
      have hX : (str [48 + m % 10]).size = 1 := by rw [str_size]; rfl
      have HDIV : Hid (((m / 10 : Nat) : Int) = (m : Int) / 10) := Lib.hid (by omega)
      generalize str [48 + m % 10] = X at hob hsa hX
      clear hst hF2 he hT'
      go_wp2
      go_roundw
      case rel => exact ⟨m / 10, T', by omega, by rw [HDIV.out], rfl, hT2, HF2.out, HK2.out⟩
      case measure => simp [intOf]; omega
    · have hm0 : m = 0 := by omega
      have hF : dig n = T := by
        have := HF.out
        rw [hm0, front_pos h0] at this
        simpa [front] using this
      have HF' := Lib.hid hF
      clear hF
      go_wp2
      go_ret
      exact ⟨by rw [HF'.out]; rfl, HK.out⟩
end Go.Proofs.YtcjljldknekhiaaGreatDoor.Ln
end

section
/-
  How far a call on the document's own session is; a Verb that is laid down.
-/
namespace Go.Proofs.YtcjljldknekhiaaGreatDoor.Ln
open Go.RowKit
set_option linter.unusedVariables false
set_option linter.unusedSimpArgs false

/-- From w on: the session in block g is s now, and nothing else has turned. -/
structure Now (F : Nat → Prop) (w : World) (g : Nat) (F' : Nat → Prop) (w' : World) (s : Se) : Prop where
  rs : RS F' w' g s
  kp : Keep F w w'
  more : More F F' w
section
variable {F F' : Nat → Prop} {w w' w'' : World} {g : Nat} {s s' : Se}
theorem Now.start (h : RS F w g s) : Now F w g F w s := ⟨h, Keep.refl _ _, More.refl _ _⟩
theorem Now.quiet (h : Now F w g F' w' s) (k : Keep (fun _ => False) w' w'') : Now F w g F' w'' s := ⟨h.rs.quiet k, h.kp.trans k (fun _ _ h => h.elim), h.more⟩
theorem Now.did {e : Ending} (h : Now F w g F' w' s) (d : Did F' g s' w' e w'') : e = .returned (.tuple #[]) ∧ ∃ F'', Now F w g F'' w'' s' := by
  obtain ⟨he, F'', h1, h2, h3⟩ := d
  exact ⟨he, F'', h1, keep_more h.kp h2 h.more, h.more.trans h3 h.kp.size⟩
theorem Now.done (h : Now F w g F' w' s) : Did F g s w (.returned (.tuple #[])) w' := ⟨rfl, F', h.rs, h.kp, h.more⟩
theorem Now.put (h : Now F w g F' w' s) (i : Nat) (u : Value) (he : ∀ wv ov rv bv, (sessCells s wv ov rv bv).setIfInBounds i u = sessCells s' wv ov rv bv) (ho : s'.out = s.out) (hb : s'.body = s.body) (hw : s'.wait = s.wait) (hr : s'.rcpts = s.rcpts) : Now F w g F' (w'.setCell ⟨g, i, none⟩ u) s' := by
  obtain ⟨wv, ov, rv, bv, qo, qb, xs, h1⟩ := h.rs
  exact ⟨⟨wv, ov, rv, bv, qo, qb, xs, h1.put i u (he _ _ _ _) ho hb hw hr⟩, keep_more h.kp (put_keep h1.fg i u) h.more, h.more⟩
theorem Now.cells (h : Now F w g F' w' s) : w'.cell? ⟨g, 0, none⟩ = some (.string s.host) ∧ w'.cell? ⟨g, 1, none⟩ = some (.int .i64 (s.size : Int)) ∧ w'.cell? ⟨g, 4, none⟩ = some (.int .i64 (s.st : Int)) ∧ w'.cell? ⟨g, 5, none⟩ = some (.string s.frm) ∧ w'.cell? ⟨g, 8, none⟩ = some (.int .i64 (s.bad : Int)) ∧ ∀ i, w'.frozen? ⟨g, i, none⟩ = false := by
  obtain ⟨wv, ov, rv, bv, qo, qb, xs, h1⟩ := h.rs
  obtain ⟨c0, c1, c2, c3, c4, c5, c6, c7, c8⟩ := h1.cells
  exact ⟨c0, c1, c4, c5, c8, h1.frozen⟩
end

/-! ### A Verb that is laid down -/
def vCells (a b : ByteArray) (n : Int) : Array Value := #[.string a, .string b, .int .i64 n]
theorem infoV : (Tryz.prog.info? 58).map (·.size) = some 3 := by kernel_rfl
theorem oneV (a b : ByteArray) (n : Int) : (vCells a b n).all (·.oneCell') = true := by simp [vCells, Value.oneCell']
def laidV (w : World) (A B : ByteArray) (n : Int) : World := (w.alloc (.cells #[.string { data := #[] }, .string { data := #[] }, .int .i64 0] 58)).setRow w.heap.size (vCells A B n)
theorem laidV_at (w : World) (A B : ByteArray) (n : Int) : At (laidV w A B n) w.heap.size 58 (vCells A B n) := setRow_heap _ _ _ _ _ _ (heap_alloc_new w _)
theorem laidV_keep (w : World) (A B : ByteArray) (n : Int) : Keep (fun _ => False) w (laidV w A B n) := by
  refine ⟨rfl, rfl, rfl, ?_, fun k hk _ => ?_⟩
  · rw [laidV, size_setRow]; simp
  · rw [laidV, setRow_other _ _ _ _ (by omega)]
    exact Below.heap_alloc _ _ _ hk
theorem laidV_cells (w : World) (A B : ByteArray) (n : Int) : (laidV w A B n).cell? ⟨w.heap.size, 0, none⟩ = some (.string A) ∧ (laidV w A B n).cell? ⟨w.heap.size, 1, none⟩ = some (.string B) ∧ (laidV w A B n).cell? ⟨w.heap.size, 2, none⟩ = some (.int .i64 n) :=
  ⟨(laidV_at w A B n).cell 0, (laidV_at w A B n).cell 1, (laidV_at w A B n).cell 2⟩
theorem step_laidV {ops : Array Oper} {rest : List Oper} {o : Oper} {a : Act} {w : World} {Q : Exit → Act → World → Prop} (hgd : o.guard = none) (x y : Operand) (ho : o.op = .store 58 x y)
    (A B : ByteArray) (n : Int) (hx : a.eval x = .pointer (some ⟨w.heap.size, 0, none⟩)) (hy : a.eval y = .agg #[.string A, .string B, .int .i64 n])
    (h : wpList Tryz.prog ops Q rest (a.put o.dst undef) (laidV w A B n)) : wpList Tryz.prog ops Q (o :: rest) a (w.alloc (.cells #[.string { data := #[] }, .string { data := #[] }, .int .i64 0] 58)) :=
  wpList_store_row hgd 58 x y ho w.heap.size (vCells A B n) hx hy 58 _ (heap_alloc_new w _) infoV rfl (oneV _ _ _) h

/-- What the document's own Verb returns. -/
def VerbC (V : ByteArray → VC) : Prop := (∀ l, 0 ≤ (V l).code ∧ (V l).code ≤ 999) ∧ ∀ (l : ByteArray) (w : World), l.size ≤ 512 →
  Calls Tryz.prog 25 #[.string l] w fun e w' => e = .returned (.tuple #[.agg #[.string (V l).name, .string (V l).arg, .int .i64 (V l).size], .int .i64 (V l).code]) ∧ Keep (fun _ => False) w w'
end Go.Proofs.YtcjljldknekhiaaGreatDoor.Ln
end

section
/-
  Copies of texts and of bytes, as runs of append.
-/
namespace Go.Proofs.YtcjljldknekhiaaGreatDoor.Ln
open Go.RowKit
set_option linter.unusedVariables false
set_option linter.unusedSimpArgs false

theorem wp_append_runT {o : Oper} {a : Act} {w w' : World} {K : Act → World → Prop} {Q : Exit → Act → World → Prop} {s t : Operand} {T : TypeId} {v u r : Value} (ho : o.op = .call { callee := .builtin .append, args := #[s, t], argTypes := #[T, T] }) (hs : a.eval s = v) (hx : a.eval t = u)
    (hr : (Builtin.append_ #[T, T] o.type #[v, u]).run Tryz.prog w = .ok r w') (hK : K (a.put o.dst r) w') : o.wp Tryz.prog a w K Q := by
  unfold Oper.wp execOp
  simp only [ho, resolve, invoke, builtin, Sem.run_bind, Sem.run_pure, Result.andThen_ok, List.map_toArray, List.map_cons, List.map_nil, hs, hx, hr]
  exact hK
theorem infoS : ∃ i z, Tryz.prog.info? 9 = some i ∧ i.zero = some z ∧ z.cells.size = i.size ∧ i.size = 1 ∧ i.bytes ≤ 1000 := by
  have h : (Tryz.prog.info? 9).map (fun i => (i.zero.map (·.cells.size), i.size, decide (i.bytes ≤ 1000))) = some (some 1, 1, true) := by kernel_rfl
  obtain ⟨i, hi, he⟩ := Option.map_eq_some_iff.1 h
  injection he with h1 h2
  injection h2 with h2 h3
  obtain ⟨z, hz, hs⟩ := Option.map_eq_some_iff.1 h1
  exact ⟨i, z, hi, hz, by rw [hs, h2], h2, of_decide_eq_true h3⟩
def strV (L : List ByteArray) : List Value := L.map fun t => .string t
theorem strV_length (L : List ByteArray) : (strV L).length = L.length := by simp [strV]
theorem strV_one (L : List ByteArray) : ∀ u ∈ strV L, u.oneCell' = true := fun u hu => by
  obtain ⟨t, _, rfl⟩ := List.mem_map.1 hu
  rfl
theorem TxtR.src {R : Nat → Prop} {w : World} {v : Value} {L : List ByteArray} (h : TxtR R w v L) : Src Tryz.prog 1 36 v L.length (strV L) w := by
  obtain ⟨x, cap, rfl, hc, h0⟩ := h
  rcases x with _ | ad
  · have hL : L = [] := by
      rcases h0 with h0 | ⟨b, off, _, hx, _⟩
      · exact h0
      · cases hx
    subst hL
    exact Src.ofNil w Tryz.underlying36 cap
  · refine Src.ofSlice w Tryz.underlying36 ad L.length cap (strV L) (by rw [strV_length, Nat.mul_one]) (fun j u hu => ?_) (strV_one L)
    have hj : j < L.length := by have := (List.getElem?_eq_some_iff.1 hu).1; rwa [strV_length] at this
    rcases h0 with h0 | ⟨b, off, _, hx, hcell⟩
    · subst h0; simp at hj
    · injection hx with hx
      subst hx
      rw [Addr.add_mid, hcell j hj, ← hu]
      simp [strV, hj]
theorem MidG.txt {w : World} {v : Value} {q : Option Nat} {n : Nat} {L : List ByteArray} (hn : n = L.length) (h : MidG 9 1 w v q n (strV L)) : TxtR (fun b => q = some b) w v L := by
  subst hn
  have hc := fun {x : Option Addr} {l c : Nat} (e : v = .slice x l c) => MidG.cell (e := 9) (size := 1) (w := w) (q := q) (n := L.length) (xs := strV L) (x := x) (L := l) (C := c) (e ▸ h)
  obtain ⟨x, cap, hv, hcap⟩ := h.shape
  refine ⟨x, cap, hv, hcap, ?_⟩
  by_cases h0 : L = []
  · exact .inl h0
  · have hpos : 0 < L.length := List.length_pos_iff.2 h0
    obtain ⟨g, off, hx, hq, _⟩ := hc hv 0 (by rw [strV_length]; exact hpos)
    refine .inr ⟨g, off, hq, hx, fun i hi => ?_⟩
    obtain ⟨g', off', hx', _, hcell⟩ := hc hv i (by rw [strV_length]; exact hi)
    rw [hx] at hx'
    injection hx' with hx'
    injection hx' with e1 e2
    subst e1 e2
    rw [hcell]
    simp [strV, hi]
/-- A copy of texts. -/
theorem app_txt {R : Nat → Prop} {w : World} {v : Value} {L : List ByteArray} (h : TxtR R w v L) (x : Option Addr) (ty : TypeId) (hl : L.length ≤ 1000000) :
    ∃ y k cap q w', (Builtin.append_ #[36, 36] ty #[.slice x 0 0, v]).run Tryz.prog w = .ok (.slice y k cap) w' ∧ MidG 9 1 w' (.slice y k cap) q L.length (strV L) ∧ Keep (fun _ => False) w w' ∧ New w none q := by
  obtain ⟨i0, z, hi, hz, hzs, h1, hby⟩ := infoS
  have hM : MidG 9 i0.size w (.slice x 0 0) none 0 [] := MidG.empty _ _ _ _
  have hsrc : Src Tryz.prog i0.size 36 v L.length (strV L) w := by rw [h1]; exact h.src
  obtain ⟨y, k, cap, q', w', hr, h2, h3, h4⟩ := run_append_midG (t := 36) ty Tryz.underlying36 hi hz hzs (by rw [h1]; decide) hby w _ none 0 [] hM v L.length (strV L) hsrc (by omega)
  rw [h1] at h2
  refine ⟨y, k, cap, q', w', hr, by simpa using h2, h3.mono (fun _ _ e => by cases e), h4⟩
theorem one_str (t : ByteArray) : ∀ u ∈ [Value.string t], u.oneCell' = true := fun u hu => by
  have : u = Value.string t := by simpa using hu
  subst this
  rfl
/-- One text more. -/
theorem app_one {w : World} {v : Value} {q : Option Nat} {n : Nat} {xs : List Value} (hM0 : MidG 9 1 w v q n xs) (ad : Addr) (t : ByteArray) (ht : w.cell? ad = some (.string t)) (ty : TypeId) (hl : n ≤ 1000000) :
    ∃ y k cap q' w', (Builtin.append_ #[36, 36] ty #[v, .slice (some ad) 1 1]).run Tryz.prog w = .ok (.slice y k cap) w' ∧ MidG 9 1 w' (.slice y k cap) q' (n + 1) (xs ++ [.string t]) ∧ Keep (fun k => q = some k) w w' ∧ New w q q' := by
  obtain ⟨i0, z, hi, hz, hzs, h1, hby⟩ := infoS
  have hM : MidG 9 i0.size w v q n xs := by rw [h1]; exact hM0
  have hsrc : Src Tryz.prog i0.size 36 (.slice (some ad) 1 1) 1 [.string t] w := by
    rw [h1]
    refine Src.ofSlice w Tryz.underlying36 ad 1 1 [.string t] rfl (fun j u hu => ?_) (one_str t)
    have hj : j = 0 := by have := (List.getElem?_eq_some_iff.1 hu).1; simpa using this
    subst hj
    have : u = .string t := by simpa using hu.symm
    subst this
    have e : ad.add 0 = ad := by simp [Addr.add]
    rw [e]
    exact ht
  obtain ⟨y, k, cap, q', w', hr, h2, h3, h4⟩ := run_append_midG (t := 36) ty Tryz.underlying36 hi hz hzs (by rw [h1]; decide) hby w _ q n xs hM _ 1 [.string t] hsrc (by omega)
  rw [h1] at h2
  exact ⟨y, k, cap, q', w', hr, h2, h3, h4⟩
/-- A copy of bytes. -/
theorem app_bytes {R : Nat → Prop} {w : World} {v : Value} {bs : List Nat} (h : ByV R w v bs) (x : Option Addr) (ty : TypeId) (hl : bs.length ≤ 1000000) :
    ∃ y k cap q w', (Builtin.append_ #[34, 34] ty #[.slice x 0 0, v]).run Tryz.prog w = .ok (.slice y k cap) w' ∧ Mid w' (.slice y k cap) q bs ∧ Keep (fun _ => False) w w' ∧ New w none q := by
  obtain ⟨y0, c0, rfl, hc, hB⟩ := h
  obtain ⟨y, n, cap, q', w', hr, h2, h3, h4⟩ := run_append_mid ty w (.slice x 0 0) none [] (Mid.empty _ _) R y0 bs.length c0 bs rfl hB (by simp; omega)
  exact ⟨y, n, cap, q', w', hr, by simpa using h2, h3.mono (fun _ _ e => by cases e), h4⟩
theorem Mid.byv {w : World} {v : Value} {q : Option Nat} {bs : List Nat} (h : Mid w v q bs) : ByV (fun b => q = some b) w v bs := by
  obtain ⟨x, cap, hv, hc, _, hB⟩ := h.shape
  exact ⟨x, cap, hv, hc, hB⟩
/-- The recipients' row is a new one. -/
theorem RSat.rcpt {F : Nat → Prop} {w X : World} {g : Nat} {s : Se} {wv ov rv bv v : Value} {qo qb q : Option Nat} {xs : List Value} {L : List ByteArray} (h : RSat F w g s wv ov rv bv qo qb xs) (k : Keep (fun _ => False) w X) {n : Nat} (hn : n = L.length) (hM : MidG 9 1 X v q n (strV L)) (hq : ∀ b, q = some b → w.heap.size ≤ b) :
    X.cell? ⟨g, 6, none⟩ = some rv ∧ X.frozen? ⟨g, 6, none⟩ = false ∧ ∃ F', RSat F' (X.setCell ⟨g, 6, none⟩ v) g { s with rcpts := L } wv ov v bv qo qb xs ∧ Keep F w (X.setCell ⟨g, 6, none⟩ v) ∧ More F F' w := by
  have k0 : Keep (fun k => qb = some k) w X := k.mono (fun _ _ e => e.elim)
  obtain ⟨hc, hf, F', h1, h2, h3⟩ := h.turn k0 (s' := { s with rcpts := L }) (i := 6) (u := v) (wv' := wv) (rv' := v) (bv' := bv) (qb' := qb) (by rfl) rfl (h.body.keep k (fun _ _ h => h)) (New.refl _ _) (R1 := fun b => Rd F g qo qb b ∨ q = some b) (fun b hb => by
      rcases hb with hb | hb
      · exact ⟨.inl hb, hb.2.2.2⟩
      · exact ⟨.inr ⟨hq b hb, hM.lt b hb⟩, fun e => by have := hq b hb; have := h.flt b (h.fb b e); omega⟩)
    (h.wait.keep k (fun b _ hR => ⟨fun h => h, .inl hR⟩)) ((hM.txt hn).keep (Keep.refl (fun _ => False) X) (fun b _ hR => ⟨fun h => h, .inr hR⟩))
  exact ⟨hc 6, hf, F', h1, h2, h3⟩
end Go.Proofs.YtcjljldknekhiaaGreatDoor.Ln
end

section
/-
  A session as the program holds it, in plain words; events that are told one by one; bytes that come.
-/
namespace Go.Proofs.YtcjljldknekhiaaGreatDoor.Ln
set_option linter.unusedVariables false
set_option linter.unusedSimpArgs false

/-! ### What the program holds -/
def Se.view (s : Se) : Se := { s with
  frm := if 5 ≤ s.st then nobody else s.frm
  rcpts := if 5 ≤ s.st then [] else s.rcpts
  body := if 5 ≤ s.st ∨ s.bad ≠ 0 then [] else s.body
  bad := if 5 ≤ s.st then 0 else s.bad }
def pfault (p : Se) (l : List Nat) : Nat := if 1000 < l.length ∨ odd (unT l) = true then 500 else if p.size < p.body.length + (unT l).length + 1 then 552 else 0
def Se.kept (p : Se) : Se := { p with out := p.out ++ [.keep p.frm p.rcpts p.body], frm := nobody, rcpts := [], body := [], st := 5 }
def Se.pend (p : Se) : Se := if p.bad = 0 then p.kept else p.reset.say (reply p.bad)
def Se.ptext (p : Se) (l : List Nat) : Se :=
  if unE l = true then p.pend
  else if p.bad = 0 then
    if pfault p l = 0 then { p with body := p.body ++ unT l ++ [10] } else { p with bad := pfault p l, body := [] }
  else p
def Se.pverb (p : Se) (v : VC) : Se := if v.name = nQUIT then p.reset.quit else p.verb v
def Se.pcommand (V : ByteArray → VC) (p : Se) (l : ByteArray) : Se :=
  if 512 < l.size then p.say (reply 500)
  else if 0 < (V l).code then p.say (reply (V l).code.toNat)
  else p.pverb (V l)
def Se.pline (V : ByteArray → VC) (p : Se) (l : List Nat) : Se := if p.st = 4 then p.ptext l else p.pcommand V (str l)

theorem view_say (s : Se) (t : ByteArray) : (s.say t).view = s.view.say t := rfl
theorem view_reset (s : Se) : s.reset.view = s.reset := by
  have h : ¬ 5 ≤ (if 1 < s.st then 1 else s.st) := by split <;> omega
  simp [Se.view, Se.reset, h]
theorem reset_view (s : Se) : s.view.reset = s.reset := rfl
theorem view_mail (s : Se) (v : VC) (h : s.st ≤ 3) : (s.mail v).view = s.view.mail v := by
  have h5 : ¬ 5 ≤ s.st := by omega
  unfold Se.mail
  by_cases h1 : s.st ≠ 1
  · rw [if_pos h1, if_pos (show s.view.st ≠ 1 from h1)]; rfl
  · rw [if_neg h1, if_neg (show ¬ s.view.st ≠ 1 from h1)]
    by_cases h2 : (s.size : Int) < v.size
    · rw [if_pos h2, if_pos (show (s.view.size : Int) < v.size from h2)]; rfl
    · rw [if_neg h2, if_neg (show ¬ (s.view.size : Int) < v.size from h2)]
      simp [Se.view, Se.say, h5]
theorem view_rcpt (s : Se) (v : VC) (h : s.st ≤ 3) : (s.rcpt v).view = s.view.rcpt v := by
  have h5 : ¬ 5 ≤ s.st := by omega
  have hr : s.view.rcpts = s.rcpts := by simp [Se.view, h5]
  unfold Se.rcpt
  by_cases h1 : s.st < 2
  · rw [if_pos h1, if_pos (show s.view.st < 2 from h1)]; rfl
  · rw [if_neg h1, if_neg (show ¬ s.view.st < 2 from h1), hr]
    by_cases h2 : 8 ≤ s.rcpts.length
    · rw [if_pos h2, if_pos h2]; rfl
    · rw [if_neg h2, if_neg h2]
      simp [Se.view, Se.say, h5]
theorem view_data (s : Se) (h : s.st ≤ 3) : s.data.view = s.view.data := by
  have h5 : ¬ 5 ≤ s.st := by omega
  unfold Se.data
  by_cases h1 : s.st ≠ 3
  · rw [if_pos h1, if_pos (show s.view.st ≠ 3 from h1)]; rfl
  · rw [if_neg h1, if_neg (show ¬ s.view.st ≠ 3 from h1)]
    simp [Se.view, Se.say, Se.to, h5]
theorem view_verb (s : Se) (v : VC) (h : s.st ≤ 3) : (s.verb v).view = s.view.pverb v := by
  unfold Se.pverb
  by_cases hq : v.name = nQUIT
  · rw [if_pos hq]
    have d1 : ¬ nQUIT = nHELO := by decide
    have d2 : ¬ nQUIT = nEHLO := by decide
    have d3 : ¬ nQUIT = nRSET := by decide
    have d4 : ¬ nQUIT = nNOOP := by decide
    have d5 : ¬ nQUIT = nVRFY := by decide
    unfold Se.verb
    rw [hq, if_neg d1, if_neg d2, if_neg d3, if_neg d4, if_neg d5, if_pos rfl]
    simp [Se.view, Se.quit, Se.reset]
  · rw [if_neg hq]
    unfold Se.verb
    rw [if_neg hq, if_neg hq]
    split; · rw [view_say, view_reset]; rfl
    split; · rw [view_say, view_reset]; rfl
    split; · rw [view_say, view_reset]; rfl
    split; · rfl
    split; · rfl
    split; · exact view_mail s v h
    split; · exact view_rcpt s v h
    split; · exact view_data s h
    rfl
theorem bad3_zeroed {s : Se} (h : s.bad = 0) (l : List Nat) : bad3 s l = pfault s l := by
  unfold bad3 bad2 bad1 pfault
  by_cases h1 : 1000 < l.length
  · simp [h, h1]
  · by_cases h2 : odd (unT l) = true
    · simp [h, h1, h2]
    · simp [h, h1, h2]
theorem bad3_stays {s : Se} (h : s.bad ≠ 0) (l : List Nat) : bad3 s l = s.bad := by
  unfold bad3 bad2 bad1
  simp [h]
theorem view_text (s : Se) (l : List Nat) (h : s.st = 4) : (s.text l).view = s.view.ptext l := by
  have h5 : ¬ 5 ≤ s.st := by omega
  have hb : s.view.bad = s.bad := by simp [Se.view, h5]
  unfold Se.text Se.ptext Se.pend
  rw [hb]
  by_cases hE : unE l = true
  · rw [if_pos hE, if_pos hE]
    by_cases h0 : s.bad = 0
    · rw [if_neg (by omega), if_pos h0]
      simp [Se.view, Se.kept, h5, h0]
    · rw [if_pos (by omega), if_neg h0, view_reset, reset_view]
      rfl
  · rw [if_neg hE, if_neg hE]
    by_cases h0 : s.bad = 0
    · rw [if_pos h0, bad3_zeroed h0]
      have hv : s.view = s := by
        obtain ⟨a1, a2, a3, a4, a5, a6, a7, a8, a9⟩ := s
        simp only at h5 h0
        subst h0
        simp [Se.view, h5]
      rw [hv]
      by_cases hf : pfault s l = 0
      · rw [if_pos hf, if_pos hf]
        simp [Se.view, h5, h0, hf]
      · rw [if_neg hf, if_neg hf]
        simp [Se.view, h5, hf]
    · rw [if_neg h0, bad3_stays h0, if_neg h0]
theorem view_line (V : ByteArray → VC) (s : Se) (l : List Nat) (h : s.st < 5) : (s.line V l).view = s.view.pline V l := by
  unfold Se.line Se.pline
  by_cases h4 : s.st = 4
  · rw [if_pos h4, if_pos (show s.view.st = 4 from h4)]
    exact view_text s l h4
  · rw [if_neg h4, if_neg (show ¬ s.view.st = 4 from h4)]
    unfold Se.command Se.pcommand
    split; · rfl
    split; · rfl
    exact view_verb s _ (by omega)

/-! ### Events ahead -/
def Se.pre (a : List Ev) (s : Se) : Se := { s with out := a ++ s.out }
theorem pre_say (a : List Ev) (s : Se) (t : ByteArray) : (s.pre a).say t = (s.say t).pre a := by simp [Se.pre, Se.say]
theorem pre_text (a : List Ev) (s : Se) (l : List Nat) : (s.pre a).text l = (s.text l).pre a := by
  unfold Se.text
  by_cases hE : unE l = true
  · rw [if_pos hE, if_pos hE]
    by_cases h0 : 0 < s.bad
    · rw [if_pos h0, if_pos (show 0 < (s.pre a).bad from h0)]
      simp [Se.pre, Se.say, Se.reset]
      rfl
    · rw [if_neg h0, if_neg (show ¬ 0 < (s.pre a).bad from h0)]
      simp [Se.pre]
  · rw [if_neg hE, if_neg hE]
    rfl
theorem pre_verb (a : List Ev) (s : Se) (v : VC) : (s.pre a).verb v = (s.verb v).pre a := by
  unfold Se.verb
  split; · simp [Se.pre, Se.say, Se.reset, Se.to]; rfl
  split; · simp [Se.pre, Se.say, Se.reset, Se.to]; rfl
  split; · simp [Se.pre, Se.say, Se.reset, Se.to]; rfl
  split; · simp [Se.pre, Se.say]
  split; · simp [Se.pre, Se.say]
  split; · simp [Se.pre, Se.quit]
  split
  · unfold Se.mail
    by_cases h1 : s.st ≠ 1
    · rw [if_pos h1, if_pos (show (s.pre a).st ≠ 1 from h1)]; simp [Se.pre, Se.say]
    · rw [if_neg h1, if_neg (show ¬ (s.pre a).st ≠ 1 from h1)]
      by_cases h2 : (s.size : Int) < v.size
      · rw [if_pos h2, if_pos (show ((s.pre a).size : Int) < v.size from h2)]; simp [Se.pre, Se.say]
      · rw [if_neg h2, if_neg (show ¬ ((s.pre a).size : Int) < v.size from h2)]; simp [Se.pre, Se.say]
  split
  · unfold Se.rcpt
    by_cases h1 : s.st < 2
    · rw [if_pos h1, if_pos (show (s.pre a).st < 2 from h1)]; simp [Se.pre, Se.say]
    · rw [if_neg h1, if_neg (show ¬ (s.pre a).st < 2 from h1)]
      by_cases h2 : 8 ≤ s.rcpts.length
      · rw [if_pos h2, if_pos (show 8 ≤ (s.pre a).rcpts.length from h2)]; simp [Se.pre, Se.say]
      · rw [if_neg h2, if_neg (show ¬ 8 ≤ (s.pre a).rcpts.length from h2)]; simp [Se.pre, Se.say]
  split
  · unfold Se.data
    by_cases h1 : s.st ≠ 3
    · rw [if_pos h1, if_pos (show (s.pre a).st ≠ 3 from h1)]; simp [Se.pre, Se.say]
    · rw [if_neg h1, if_neg (show ¬ (s.pre a).st ≠ 3 from h1)]; simp [Se.pre, Se.say, Se.to]
  rfl
theorem pre_line (V : ByteArray → VC) (a : List Ev) (s : Se) (l : List Nat) : (s.pre a).line V l = (s.line V l).pre a := by
  unfold Se.line
  by_cases h4 : s.st = 4
  · rw [if_pos h4, if_pos (show (s.pre a).st = 4 from h4)]
    exact pre_text a s l
  · rw [if_neg h4, if_neg (show ¬ (s.pre a).st = 4 from h4)]
    unfold Se.command
    split; · exact pre_say a s _
    split; · exact pre_say a s _
    exact pre_verb a s _
theorem pre_go (V : ByteArray → VC) (a : List Ev) : ∀ (n : Nat) (s : Se), s.wait.length = n → (s.pre a).go V = (s.go V).pre a := by
  intro n
  induction n using Nat.strongRecOn with
  | _ n ih =>
    intro s hn
    by_cases h5 : s.st < 5
    · cases hp : pos s.wait with
      | none => rw [go_none hp, go_none (s := s.pre a) hp]
      | some i =>
        rw [go_some h5 hp, go_some (s := s.pre a) h5 hp]
        have e : ((s.pre a).cut i).line V ((s.pre a).wait.take i) = ((s.cut i).line V (s.wait.take i)).pre a := pre_line V a (s.cut i) _
        rw [e]
        refine ih _ ?_ _ rfl
        have := pos_lt hp
        rw [line_wait]
        simp [Se.cut]
        omega
    · rw [go_over h5, go_over (s := s.pre a) h5]
theorem go_pop {V : ByteArray → VC} {s : Se} {e : Ev} {L : List Ev} (h : s.out = e :: L) : (s.go V).out = e :: (s.pop.go V).out ∧ (s.go V).pop = s.pop.go V := by
  have hs : s = s.pop.pre [e] := by
    cases s
    simp only at h
    subst h
    rfl
  have hg : s.go V = (s.pop.go V).pre [e] := by
    conv => lhs; rw [hs]
    exact pre_go V [e] _ s.pop rfl
  rw [hg]
  exact ⟨rfl, rfl⟩

/-! ### Bytes that come -/
theorem hit_more {a : List Nat} {i : Nat} (h : hit a i = true) (b : List Nat) : hit (a ++ b) i = true := by
  have hl := hit_lt h
  simp only [hit] at h ⊢
  rw [List.getElem?_append_left (by omega), List.getElem?_append_left (by omega)]
  exact h
theorem hit_less {a b : List Nat} {i : Nat} (h : hit (a ++ b) i = true) (hl : i + 2 ≤ a.length) : hit a i = true := by
  simp only [hit] at h ⊢
  rw [List.getElem?_append_left (by omega), List.getElem?_append_left (by omega)] at h
  exact h
theorem pos_more {a : List Nat} {i : Nat} (h : pos a = some i) (b : List Nat) : pos (a ++ b) = some i := by
  obtain ⟨h1, h2⟩ := pos_some_hit h
  have hl := hit_lt h1
  refine pos_first (hit_more h1 b) fun j hj => ?_
  cases hh : hit (a ++ b) j with
  | false => rfl
  | true =>
    have := hit_less hh (by omega)
    rw [h2 j hj] at this
    cases this
theorem fed_text (b : List Nat) (s : Se) (l : List Nat) : (s.fed b).text l = (s.text l).fed b := by
  unfold Se.text
  by_cases hE : unE l = true
  · rw [if_pos hE, if_pos hE]
    by_cases h0 : 0 < s.bad
    · rw [if_pos h0, if_pos (show 0 < (s.fed b).bad from h0)]
      rfl
    · rw [if_neg h0, if_neg (show ¬ 0 < (s.fed b).bad from h0)]
      rfl
  · rw [if_neg hE, if_neg hE]
    rfl
theorem fed_verb (b : List Nat) (s : Se) (v : VC) : (s.fed b).verb v = (s.verb v).fed b := by
  unfold Se.verb
  split; · rfl
  split; · rfl
  split; · rfl
  split; · rfl
  split; · rfl
  split; · rfl
  split
  · unfold Se.mail
    by_cases h1 : s.st ≠ 1
    · rw [if_pos h1, if_pos (show (s.fed b).st ≠ 1 from h1)]; rfl
    · rw [if_neg h1, if_neg (show ¬ (s.fed b).st ≠ 1 from h1)]
      by_cases h2 : (s.size : Int) < v.size
      · rw [if_pos h2, if_pos (show ((s.fed b).size : Int) < v.size from h2)]; rfl
      · rw [if_neg h2, if_neg (show ¬ ((s.fed b).size : Int) < v.size from h2)]; rfl
  split
  · unfold Se.rcpt
    by_cases h1 : s.st < 2
    · rw [if_pos h1, if_pos (show (s.fed b).st < 2 from h1)]; rfl
    · rw [if_neg h1, if_neg (show ¬ (s.fed b).st < 2 from h1)]
      by_cases h2 : 8 ≤ s.rcpts.length
      · rw [if_pos h2, if_pos (show 8 ≤ (s.fed b).rcpts.length from h2)]; rfl
      · rw [if_neg h2, if_neg (show ¬ 8 ≤ (s.fed b).rcpts.length from h2)]; rfl
  split
  · unfold Se.data
    by_cases h1 : s.st ≠ 3
    · rw [if_pos h1, if_pos (show (s.fed b).st ≠ 3 from h1)]; rfl
    · rw [if_neg h1, if_neg (show ¬ (s.fed b).st ≠ 3 from h1)]; rfl
  rfl
theorem fed_line (V : ByteArray → VC) (b : List Nat) (s : Se) (l : List Nat) : (s.fed b).line V l = (s.line V l).fed b := by
  unfold Se.line
  by_cases h4 : s.st = 4
  · rw [if_pos h4, if_pos (show (s.fed b).st = 4 from h4)]
    exact fed_text b s l
  · rw [if_neg h4, if_neg (show ¬ (s.fed b).st = 4 from h4)]
    unfold Se.command
    split; · rfl
    split; · rfl
    exact fed_verb b s _
theorem fed_go (V : ByteArray → VC) (b : List Nat) : ∀ (n : Nat) (s : Se), s.wait.length = n → ((s.go V).fed b).go V = (s.fed b).go V := by
  intro n
  induction n using Nat.strongRecOn with
  | _ n ih =>
    intro s hn
    by_cases h5 : s.st < 5
    · cases hp : pos s.wait with
      | none => rw [go_none hp]
      | some i =>
        have hl := pos_lt hp
        have hp2 : pos (s.fed b).wait = some i := pos_more hp b
        rw [go_some h5 hp, go_some (s := s.fed b) h5 hp2]
        have e : ((s.fed b).cut i).line V ((s.fed b).wait.take i) = ((s.cut i).line V (s.wait.take i)).fed b := by
          have e1 : (s.fed b).wait.take i = s.wait.take i := List.take_append_of_le_length (by omega)
          have e2 : (s.fed b).cut i = (s.cut i).fed b := by
            simp only [Se.fed, Se.cut]
            rw [List.drop_append_of_le_length (by omega)]
          rw [e1, e2, fed_line]
        rw [e]
        refine ih _ ?_ _ rfl
        rw [line_wait]
        simp [Se.cut]
        omega
    · rw [go_over h5]
theorem fed_none (s : Se) : s.fed [] = s := by simp [Se.fed]
theorem go_go (V : ByteArray → VC) (s : Se) : (s.go V).go V = s.go V := by
  have := fed_go V [] _ s rfl
  rwa [fed_none, fed_none] at this
theorem fed_fed (s : Se) (a b : List Nat) : (s.fed a).fed b = s.fed (a ++ b) := by simp [Se.fed]

/-! ### What a line tells; whether Shut was told -/
def Tells (s s' : Se) : Prop := ∃ es, s'.out = s.out ++ es ∧ ((s'.st ≠ 6 ∧ Ev.shut ∉ es) ∨ (s'.st = 6 ∧ ∃ t, es = [.say t, .shut]))
theorem Tells.say {s : Se} (t : ByteArray) {s' : Se} (ho : s'.out = s.out ++ [.say t]) (hst : s'.st ≠ 6) : Tells s s' := ⟨[.say t], ho, .inl ⟨hst, by simp⟩⟩
theorem tells_text (s : Se) (l : List Nat) (h : s.st = 4) : Tells s (s.text l) := by
  unfold Se.text
  split
  · split
    · exact Tells.say _ rfl (by show (if 1 < s.st then 1 else s.st) ≠ 6; split <;> omega)
    · exact ⟨[.keep s.frm s.rcpts s.body], rfl, .inl ⟨by show 5 ≠ 6; omega, by simp⟩⟩
  · exact ⟨[], by simp, .inl ⟨by show s.st ≠ 6; omega, by simp⟩⟩
theorem tells_verb (s : Se) (v : VC) (h : s.st < 5) : Tells s (s.verb v) := by
  unfold Se.verb
  split; · exact Tells.say _ rfl (by show (if 1 < max s.st 1 then 1 else max s.st 1) ≠ 6; split <;> omega)
  split; · exact Tells.say _ rfl (by show (if 1 < max s.st 1 then 1 else max s.st 1) ≠ 6; split <;> omega)
  split; · exact Tells.say _ rfl (by show (if 1 < s.st then 1 else s.st) ≠ 6; split <;> omega)
  split; · exact Tells.say _ rfl (by show s.st ≠ 6; omega)
  split; · exact Tells.say _ rfl (by show s.st ≠ 6; omega)
  split; · exact ⟨[.say (reply 221), .shut], by simp [Se.quit], .inr ⟨rfl, _, rfl⟩⟩
  split
  · unfold Se.mail
    split; · exact Tells.say _ rfl (by show s.st ≠ 6; omega)
    split; · exact Tells.say _ rfl (by show s.st ≠ 6; omega)
    exact Tells.say _ rfl (by show 2 ≠ 6; omega)
  split
  · unfold Se.rcpt
    split; · exact Tells.say _ rfl (by show s.st ≠ 6; omega)
    split; · exact Tells.say _ rfl (by show s.st ≠ 6; omega)
    exact Tells.say _ rfl (by show 3 ≠ 6; omega)
  split
  · unfold Se.data
    split; · exact Tells.say _ rfl (by show s.st ≠ 6; omega)
    exact Tells.say _ rfl (by show 4 ≠ 6; omega)
  exact ⟨[], by simp, .inl ⟨by omega, by simp⟩⟩
theorem tells_line (V : ByteArray → VC) (s : Se) (l : List Nat) (h : s.st < 5) : Tells s (s.line V l) := by
  unfold Se.line
  split
  · rename_i h4; exact tells_text s l h4
  · unfold Se.command
    split; · exact Tells.say _ rfl (by show s.st ≠ 6; omega)
    split; · exact Tells.say _ rfl (by show s.st ≠ 6; omega)
    exact tells_verb s _ h
/-- Whether Shut was told, and where it waits. -/
def Sh (over : Bool) (r : Se) : Prop := (over = true ∧ r.st = 6 ∧ r.out = []) ∨ (over = false ∧ r.st = 6 ∧ ∃ L, r.out = L ++ [.shut] ∧ Ev.shut ∉ L) ∨ (over = false ∧ r.st ≠ 6 ∧ Ev.shut ∉ r.out)
theorem Sh.line {over : Bool} {s : Se} (h : Sh over s) (V : ByteArray → VC) (l : List Nat) (h5 : s.st < 5) : Sh over (s.line V l) := by
  obtain ⟨es, ho, ht⟩ := tells_line V s l h5
  rcases h with ⟨_, h6, _⟩ | ⟨_, h6, _⟩ | ⟨h1, _, h3⟩
  · omega
  · omega
  · rcases ht with ⟨h6, hn⟩ | ⟨h6, t, he⟩
    · exact .inr (.inr ⟨h1, h6, by rw [ho]; simp [h3, hn]⟩)
    · refine .inr (.inl ⟨h1, h6, s.out ++ [.say t], by rw [ho, he]; simp, by simp [h3]⟩)
theorem Sh.go {over : Bool} (V : ByteArray → VC) : ∀ (n : Nat) (s : Se), s.wait.length = n → Sh over s → Sh over (s.go V) := by
  intro n
  induction n using Nat.strongRecOn with
  | _ n ih =>
    intro s hn h
    by_cases h5 : s.st < 5
    · cases hp : pos s.wait with
      | none => rw [go_none hp]; exact h
      | some i =>
        rw [go_some h5 hp]
        refine ih _ ?_ _ rfl (Sh.line (s := s.cut i) h V _ h5)
        have := pos_lt hp
        rw [line_wait]
        simp [Se.cut]
        omega
    · rw [go_over h5]; exact h
theorem Sh.fed {over : Bool} {s : Se} (h : Sh over s) (b : List Nat) : Sh over (s.fed b) := h
theorem Sh.new (host : ByteArray) (size : Int) : Sh false (Se.new host size) := .inr (.inr ⟨rfl, by simp [Se.new, Se.say], by simp [Se.new, Se.say]⟩)
theorem Sh.answer {over : Bool} {s : Se} (h : Sh over s) (code : Int) : Sh over (s.answer code) := by
  unfold Se.answer
  split
  · rename_i ha
    have ha := of_decide_eq_true ha
    rcases h with ⟨_, h6, _⟩ | ⟨_, h6, _⟩ | ⟨h1, _, h3⟩
    · omega
    · omega
    · refine .inr (.inr ⟨h1, ?_, ?_⟩)
      · show (if 1 < s.st then 1 else s.st) ≠ 6
        split <;> omega
      · show Ev.shut ∉ s.out ++ [.say _]
        simp [h3]
  · exact h
def isShut : Ev → Bool
  | .shut => true
  | _ => false
theorem Sh.pop {over : Bool} {s : Se} {e : Ev} {L : List Ev} (h : Sh over s) (ho : s.out = e :: L) : Sh (over || isShut e) s.pop := by
  have hp : s.pop.out = L := by simp [Se.pop, ho]
  rcases h with ⟨_, _, h3⟩ | ⟨h1, h6, M, h3, h4⟩ | ⟨h1, h6, h3⟩
  · rw [h3] at ho; cases ho
  · subst h1
    rw [ho] at h3
    rcases M with _ | ⟨m, M⟩
    · simp only [List.nil_append, List.cons.injEq] at h3
      obtain ⟨rfl, rfl⟩ := h3
      exact .inl ⟨rfl, h6, hp⟩
    · simp only [List.cons_append, List.cons.injEq] at h3
      obtain ⟨rfl, rfl⟩ := h3
      have hne : isShut e = false := by
        cases e with
        | shut => simp at h4
        | _ => rfl
      rw [hne]
      refine .inr (.inl ⟨rfl, h6, M, hp, fun hm => h4 (by simp [hm])⟩)
  · subst h1
    have hne : isShut e = false := by
      cases e with
      | shut => rw [ho] at h3; simp at h3
      | _ => rfl
    rw [hne]
    refine .inr (.inr ⟨rfl, h6, fun hm => h3 ?_⟩)
    rw [hp] at hm
    rw [ho]
    simp [hm]
/-- A session that goes on and is over then tells of it. -/
theorem go_six (V : ByteArray → VC) : ∀ (n : Nat) (s : Se), s.wait.length = n → s.st ≠ 6 → (s.go V).st = 6 → Ev.shut ∈ (s.go V).out := by
  intro n
  induction n using Nat.strongRecOn with
  | _ n ih =>
    intro s hn h6 hg
    by_cases h5 : s.st < 5
    · cases hp : pos s.wait with
      | none => rw [go_none hp] at hg; exact absurd hg h6
      | some i =>
        rw [go_some h5 hp] at hg ⊢
        have hlt : ((s.cut i).line V (s.wait.take i)).wait.length < n := by
          have := pos_lt hp
          rw [line_wait]
          simp [Se.cut]
          omega
        by_cases h6' : ((s.cut i).line V (s.wait.take i)).st = 6
        · rw [go_over (by omega)]
          obtain ⟨es, ho, ⟨h7, _⟩ | ⟨_, t, he⟩⟩ := tells_line V (s.cut i) (s.wait.take i) h5
          · exact absurd h6' h7
          · rw [ho, he]; simp
        · exact ih _ hlt _ rfl h6' hg
    · rw [go_over h5] at hg; exact absurd hg h6
theorem over_iff {V : ByteArray → VC} {over : Bool} {p r : Se} (hg : p.go V = r) (hs : Sh over r) : decide (p.st = 6 ∧ p.out = []) = over := by
  cases over with
  | true =>
    rcases hs with ⟨_, h6, h0⟩ | ⟨h1, _⟩ | ⟨h1, _⟩
    · rw [decide_eq_true_iff]
      by_cases hp : p.st = 6
      · rw [go_over (by omega)] at hg
        exact ⟨hp, by rw [hg]; exact h0⟩
      · have := go_six V _ p rfl hp (by rw [hg]; exact h6)
        rw [hg, h0] at this
        cases this
    · cases h1
    · cases h1
  | false =>
    rw [decide_eq_false_iff_not]
    rintro ⟨h6, h0⟩
    rw [go_over (by omega)] at hg
    subst hg
    rcases hs with ⟨h1, _⟩ | ⟨_, _, L, h3, _⟩ | ⟨_, h7, _⟩
    · cases h1
    · rw [h0] at h3
      simp at h3
    · exact h7 h6
end Go.Proofs.YtcjljldknekhiaaGreatDoor.Ln
end
