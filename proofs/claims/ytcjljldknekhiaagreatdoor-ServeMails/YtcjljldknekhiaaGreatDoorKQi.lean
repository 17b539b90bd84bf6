/-
  A session of the program beside the document's own one; the law's drain: its memory.
-/
import Derived.Test.YtcjljldknekhiaaGreatDoorKg11
import Derived.Test.YtcjljldknekhiaaGreatDoorKRz
namespace Go.Proofs.YtcjljldknekhiaaGreatDoor.Ln
open Go.RowKit
set_option linter.unusedVariables false
set_option linter.unusedSimpArgs false

/-! ### The document's own session: its first event is taken away -/
def cutV (x : Option Addr) (n c : Nat) : Value := .slice (if c = 1 then x else x.map (fun a => a.add 8)) (n - 1) (c - 1)
theorem RSat.popped {F : Nat → Prop} {w : World} {g : Nat} {s : Se} {wv rv bv : Value} {x : Option Addr} {n c : Nat} {qo qb : Option Nat} {xs : List Value} (h : RSat F w g s wv (.slice x n c) rv bv qo qb xs) (hn : n = s.out.length) (h1 : 1 ≤ n) :
    RS F (w.setCell ⟨g, 3, none⟩ (cutV x n c)) g s.pop ∧ Keep F w (w.setCell ⟨g, 3, none⟩ (cutV x n c)) := by
  obtain ⟨q', hM, hq⟩ := h.out.drop 1 h1 (by decide)
  have ng := h.nog
  have kg : Keep (fun k => k = g) w (w.setCell ⟨g, 3, none⟩ (cutV x n c)) := (Keep.refl (fun k => k = g) w).setCell (p := ⟨g, 3, none⟩) (fun _ => rfl) _
  have hRd : ∀ b, Rd F g qo qb b → ¬ b = g ∧ Rd F g q' qb b := fun b hb => by
    refine ⟨hb.2.1, hb.1, hb.2.1, ?_, hb.2.2.2⟩
    rcases hq with e | e
    · rw [e]; exact hb.2.2.1
    · rw [e]; exact (fun h => by cases h)
  have hA := h.row.put 3 (cutV x n c)
  refine ⟨⟨wv, cutV x n c, rv, bv, q', qb, xs.drop 8, ⟨hA, h.fg, ?_, ?_, h.fb, ?_, ?_, ?_, ?_, ?_⟩⟩, kg.mono (fun i _ e => e ▸ h.fg)⟩
  · intro k hk
    rw [show (w.setCell ⟨g, 3, none⟩ (cutV x n c)).heap.size = w.heap.size by simp [World.setCell]]
    exact h.flt k hk
  · intro k hk
    rcases hq with e | e
    · rw [e] at hk; exact h.fo k hk
    · rw [e] at hk; cases hk
  · rw [show s.pop.out.length = s.out.length - 1 by simp [Se.pop]]
    refine hM.keep kg (fun b hb e => ?_)
    rcases hq with e1 | e1
    · rw [e1] at hb; exact ng.1 (by rw [hb, e])
    · rw [e1] at hb; cases hb
  · exact (h.evs.keepW kg (fun b _ hb => hRd b hb)).tail
  · exact h.body.keep kg (fun b hb e => ng.2 (by rw [hb, e]))
  · exact h.wait.keep kg (fun b _ hb => hRd b hb)
  · exact h.rc.keep kg (fun b _ hb => hRd b hb)
/-- Its first event, by the cells. -/
theorem RSat.first {F : Nat → Prop} {w : World} {g : Nat} {s : Se} {wv rv bv : Value} {x : Option Addr} {n c : Nat} {qo qb : Option Nat} {xs : List Value} (h : RSat F w g s wv (.slice x n c) rv bv qo qb xs) {ev : Ev} {L : List Ev} (ho : s.out = ev :: L) :
    ∃ b off k t f rx rn rc bx bn bc, x = some ⟨b, off, none⟩ ∧ n = L.length + 1 ∧ n ≤ c ∧ EvAt (Rd F g qo qb) w ev (evCells k t f (.slice rx rn rc) (.slice bx bn bc)) ∧ b < w.heap.size ∧
      w.cell? ⟨b, off, none⟩ = some (.int .i64 k) ∧ w.cell? ⟨b, off + 1, none⟩ = some (.string t) ∧ w.cell? ⟨b, off + 2, none⟩ = some (.int .i64 0) ∧ w.cell? ⟨b, off + 3, none⟩ = some (.int .i64 0) ∧ w.cell? ⟨b, off + 4, none⟩ = some (.int .i64 0) ∧ w.cell? ⟨b, off + 5, none⟩ = some (.string f) ∧ w.cell? ⟨b, off + 6, none⟩ = some (.slice rx rn rc) ∧ w.cell? ⟨b, off + 7, none⟩ = some (.slice bx bn bc) := by
  have hev := h.evs
  rw [ho] at hev
  obtain ⟨cs, r, hxs, hEv, hEvs⟩ := hev
  obtain ⟨k, t, f, rx, rn, rc, bx, bn, bc, hcs, _⟩ := hEv.form
  have hMid := h.out
  obtain ⟨x', c', hv, hcap⟩ := hMid.shape
  injection hv with e1 e2 e3
  subst e1 e3
  have hlen := hMid.1
  have hol : s.out.length = L.length + 1 := by rw [ho]; rfl
  have hcl : ∀ j, j < 8 → ∃ b off, x = some ⟨b, off, none⟩ ∧ qo = some b ∧ w.cell? ⟨b, off + j, none⟩ = (evCells k t f (.slice rx rn rc) (.slice bx bn bc))[j]? := fun j hj => by
    obtain ⟨b, off, e1, e2, e3⟩ := hMid.cell j (by omega)
    refine ⟨b, off, e1, e2, ?_⟩
    rw [e3, hxs, ← hcs, List.getElem?_append_left (by rw [hEv.len]; exact hj)]
  obtain ⟨b, off, hx, hqe, _⟩ := hcl 0 (by omega)
  have dd : ∀ j, j < 8 → w.cell? ⟨b, off + j, none⟩ = (evCells k t f (.slice rx rn rc) (.slice bx bn bc))[j]? := fun j hj => by
    obtain ⟨b', off', e1, _, e3⟩ := hcl j hj
    rw [hx] at e1
    injection e1 with e1
    injection e1 with e4 e5
    subst e4 e5
    exact e3
  rw [hcs] at hEv
  exact ⟨b, off, k, t, f, rx, rn, rc, bx, bn, bc, hx, by rw [e2, hol], by rw [e2]; exact hcap, hEv, h.flt b (h.fo b hqe), dd 0 (by omega), dd 1 (by omega), dd 2 (by omega), dd 3 (by omega), dd 4 (by omega), dd 5 (by omega), dd 6 (by omega), dd 7 (by omega)⟩

/-! ### Both, and whether it is over -/
structure Pl (w0 w : World) (g h ob : Nat) (F G : Nat → Prop) (p r : Se) (over : Bool) : Prop where
  a : VS F w g p
  b : RS G w h r
  env : Env w
  kp : Keep (fun _ => False) w0 w
  fa : ∀ k, F k → w0.heap.size ≤ k
  fb : ∀ k, G k → w0.heap.size ≤ k
  ap : ∀ k, F k → ¬ G k
  oc : At w ob 4 #[.bool over]
  ol : w0.heap.size ≤ ob
  oa : ¬ F ob
  og : ¬ G ob
  h9 : 9 ≤ w0.heap.size
section
variable {w0 w w' : World} {g h ob : Nat} {F G F' G' : Nat → Prop} {p r p' r' : Se} {over : Bool}
theorem Pl.sz (T : Pl w0 w g h ob F G p r over) : 9 ≤ w.heap.size := Nat.le_trans T.h9 T.kp.size
theorem Pl.left (T : Pl w0 w g h ob F G p r over) (a : VS F' w' g p') (k : Keep F w w') (m : More F F' w) : Pl w0 w' g h ob F' G p' r over :=
  ⟨a, T.b.other k (fun i hi e => T.ap i e hi), T.a.env T.env k, T.kp.trans k (fun i hi e => by have := T.fa i e; omega), fun i hi => by
    rcases m i hi with e | e
    · exact T.fa i e
    · exact Nat.le_trans T.kp.size e, T.fb, fun i hi hG => by
    rcases m i hi with e | e
    · exact T.ap i e hG
    · have := T.b.lt i hG; omega, T.oc.keep k T.oa, T.ol, fun e => by
    rcases m ob e with e | e
    · exact T.oa e
    · have := T.oc.lt; omega, T.og, T.h9⟩
theorem Pl.right (T : Pl w0 w g h ob F G p r over) (b : RS G' w' h r') (k : Keep G w w') (m : More G G' w) : Pl w0 w' g h ob F G' p r' over :=
  ⟨T.a.other k (fun i hi e => T.ap i hi e), b, T.env.keep k (fun i hi e => by have h1 := T.fb i e; have h2 := T.h9; omega), T.kp.trans k (fun i hi e => by have := T.fb i e; omega), T.fa, fun i hi => by
    rcases m i hi with e | e
    · exact T.fb i e
    · exact Nat.le_trans T.kp.size e, fun i hF hi => by
    rcases m i hi with e | e
    · exact T.ap i hF e
    · have := T.a.lt i hF; omega, T.oc.keep k T.og, T.ol, T.oa, fun e => by
    rcases m ob e with e | e
    · exact T.og e
    · have := T.oc.lt; omega, T.h9⟩
theorem Pl.quiet (T : Pl w0 w g h ob F G p r over) (k : Keep (fun _ => False) w w') : Pl w0 w' g h ob F G p r over := ⟨T.a.quiet k, T.b.quiet k, T.env.quiet k, T.kp.trans k (fun _ _ h => h), T.fa, T.fb, T.ap, T.oc.keep k (fun h => h), T.ol, T.oa, T.og, T.h9⟩
theorem Pl.set (T : Pl w0 w g h ob F G p r over) (o : Bool) : Pl w0 (w.setCell ⟨ob, 0, none⟩ (.bool o)) g h ob F G p r o := by
  have kg : Keep (fun k => k = ob) w (w.setCell ⟨ob, 0, none⟩ (.bool o)) := (Keep.refl (fun k => k = ob) w).setCell (p := ⟨ob, 0, none⟩) (fun _ => rfl) _
  have ho := T.ol
  have h9 := T.h9
  exact ⟨T.a.other kg (fun i hi e => T.oa (e ▸ hi)), T.b.other kg (fun i hi e => T.og (e ▸ hi)), T.env.keep kg (fun i hi e => by omega), T.kp.trans kg (fun i hi e => by omega), T.fa, T.fb, T.ap, T.oc.put 0 _, T.ol, T.oa, T.og, T.h9⟩
theorem Pl.overCell (T : Pl w0 w g h ob F G p r over) : w.cell? ⟨ob, 0, none⟩ = some (.bool over) ∧ w.frozen? ⟨ob, 0, none⟩ = false := ⟨T.oc.cell 0, T.oc.frozen 0⟩
/-- The model's event stays while the program's session goes on. -/
theorem Pl.evR (T : Pl w0 w g h ob F G p r over) {E : Nat → Prop} {W W' : World} {e : Ev} {cs : List Value} (hE : EvAt E W e cs) (hEG : ∀ b, E b → G b) (k : Keep F W W') : EvAt E W' e cs := hE.keepW k (fun b _ hb => ⟨fun hF => T.ap b hF (hEG b hb), hb⟩)
/-- The program's event stays while the model's session goes on. -/
theorem Pl.evL (T : Pl w0 w g h ob F G p r over) {E : Nat → Prop} (m : More F E w) {W W' : World} {e : Ev} {cs : List Value} (hE : EvAt E W e cs) (k : Keep G W W') : EvAt E W' e cs := hE.keepW k (fun b _ hb => ⟨fun hG => by
  rcases m b hb with h1 | h1
  · exact T.ap b h1 hG
  · have := T.b.lt b hG; omega, hb⟩)
end

/-! ### What the program has still to tell -/
structure Dr (p r : Se) (over : Bool) : Prop where
  go : p.go V9 = r
  gd : Gd p
  ro : Ro r
  sh : Sh over r
theorem Dr.fix {p r : Se} {over : Bool} (h : Dr p r over) : r.go V9 = r := by rw [← h.go, go_go]
def Se.mute (r : Se) : Se := { r with out := [] }
theorem Se.mute_of {r : Se} (h : r.out = []) : r.mute = r := by cases r; simp [Se.mute] at h ⊢; exact h
theorem pop_mute (r : Se) : r.pop.mute = r.mute := rfl
theorem Dr.next {p p' r : Se} {over : Bool} (h : Dr p r over) {ev : Ev} {L : List Ev} (ho : r.out = ev :: L) (hg : p'.go V9 = (p.go V9).pop) (gd : Gd p') : Dr p' r.pop (over || isShut ev) := ⟨by rw [hg, h.go], gd, h.ro.pop, h.sh.pop ho⟩
theorem Dr.over {p r : Se} {over : Bool} (h : Dr p r over) : decide (p.st = 6 ∧ p.out = []) = over := over_iff h.go h.sh
theorem Dr.overR {p r : Se} {over : Bool} (h : Dr p r over) : decide (r.st = 6 ∧ r.out = []) = over := over_iff h.fix h.sh
theorem shut_kind (e : Ev) : (kindOf e = 3) = (isShut e = true) := by cases e <;> simp [kindOf, isShut]
end Go.Proofs.YtcjljldknekhiaaGreatDoor.Ln
