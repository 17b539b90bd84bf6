/-
  A cell of the document's own session is turned; what its reset returns.
-/
import Derived.Test.YtcjljldknekhiaaGreatDoorRa
namespace Go.Proofs.YtcjljldknekhiaaGreatDoor.Ln
open Go.RowKit
set_option linter.unusedVariables false
set_option linter.unusedSimpArgs false

section
variable {F : Nat → Prop} {w w1 : World} {g : Nat} {s : Se} {wv ov rv bv : Value} {qo qb : Option Nat} {xs : List Value}
/-- What is read goes on being read when only the body's row was written. -/
theorem RSat.read (h : RSat F w g s wv ov rv bv qo qb xs) (k0 : Keep (fun k => qb = some k) w w1) : ByV (Rd F g qo qb) w1 wv s.wait ∧ TxtR (Rd F g qo qb) w1 rv s.rcpts :=
  ⟨h.wait.keep k0 (fun b _ hR => ⟨fun e => hR.2.2.2 e, hR⟩), h.rc.keep k0 (fun b _ hR => ⟨fun e => hR.2.2.2 e, hR⟩)⟩
theorem RSat.turn (h : RSat F w g s wv ov rv bv qo qb xs) (k0 : Keep (fun k => qb = some k) w w1) {s' : Se} {i : Nat} {u wv' rv' bv' : Value} {qb' : Option Nat} (he : (sessCells s wv ov rv bv).setIfInBounds i u = sessCells s' wv' ov rv' bv') (ho : s'.out = s.out)
    (hb : Mid w1 bv' qb' s'.body) (hN : New w qb qb') {R1 : Nat → Prop} (hR1 : ∀ k, R1 k → (Rd F g qo qb k ∨ w.heap.size ≤ k ∧ k < w1.heap.size) ∧ qb' ≠ some k) (hw : ByV R1 w1 wv' s'.wait) (hr : TxtR R1 w1 rv' s'.rcpts) :
    (∀ j, w1.cell? ⟨g, j, none⟩ = (sessCells s wv ov rv bv)[j]?) ∧ w1.frozen? ⟨g, i, none⟩ = false ∧ ∃ F', RSat F' (w1.setCell ⟨g, i, none⟩ u) g s' wv' ov rv' bv' qo qb' xs ∧ Keep F w (w1.setCell ⟨g, i, none⟩ u) ∧ More F F' w := by
  have ng := h.nog
  have hsz0 := k0.size
  have hgl := h.flt g h.fg
  have hA1 : At w1 g 38 (sessCells s wv ov rv bv) := h.row.keep k0 (fun e => ng.2 e)
  have hqg : qb' ≠ some g := hb.ne hA1 (by decide)
  have kg : Keep (fun k => k = g) w1 (w1.setCell ⟨g, i, none⟩ u) := (Keep.refl (fun k => k = g) w1).setCell (p := ⟨g, i, none⟩) (fun _ => rfl) _
  have kF : Keep F w (w1.setCell ⟨g, i, none⟩ u) := (k0.mono (T := F) (fun j _ e => h.fb j e)).trans kg (fun j _ e => e ▸ h.fg)
  have hA2 := hA1.put i u
  rw [he] at hA2
  have hqo : ∀ b, qo = some b → b ≠ g ∧ qb ≠ some b ∧ qb' ≠ some b := fun b hb' => by
    refine ⟨fun e => ng.1 (by rw [hb', e]), h.nqq b hb', fun e => ?_⟩
    rcases hN b e with e1 | e1
    · exact h.nqq b hb' e1
    · have := h.flt b (h.fo b hb'); omega
  have hnew : ∀ b, R1 b → b < w1.heap.size → b ≠ g ∧ (F b ∨ qb' = some b ∨ (w.heap.size ≤ b ∧ b < w1.heap.size)) ∧ qo ≠ some b ∧ qb' ≠ some b := fun b hR hlt => by
    obtain ⟨h1, h2⟩ := hR1 b hR
    rcases h1 with h1 | h1
    · exact ⟨h1.2.1, .inl h1.1, h1.2.2.1, h2⟩
    · exact ⟨by omega, .inr (.inr h1), fun e => by have := h.flt b (h.fo b e); omega, h2⟩
  refine ⟨fun j => hA1.cell j, hA1.frozen i, fun k => F k ∨ qb' = some k ∨ (w.heap.size ≤ k ∧ k < w1.heap.size), ⟨hA2, .inl h.fg, ?_, fun k hk => .inl (h.fo k hk), fun k hk => .inr (.inl hk), ?_, ?_, ?_, ?_, ?_⟩, kF, fun k hk => ?_⟩
  · intro k hk
    rw [show (w1.setCell ⟨g, i, none⟩ u).heap.size = w1.heap.size by simp [World.setCell]]
    rcases hk with hk | hk | hk
    · have := h.flt k hk; omega
    · exact hb.lt k hk
    · omega
  · rw [ho]
    exact (h.out.keep k0 (fun b hb' e => (hqo b hb').2.1 e)).keep kg (fun b hb' e => (hqo b hb').1 e)
  · rw [ho]
    refine h.evs.keepW ((k0.mono (T := fun k => k = g ∨ qb = some k) (fun _ _ e => .inr e)).trans kg (fun _ _ e => .inl e)) (fun b hlt hR => ⟨fun e => e.elim hR.2.1 hR.2.2.2, .inl hR.1, hR.2.1, hR.2.2.1, fun e => ?_⟩)
    rcases hN b e with e1 | e1
    · exact hR.2.2.2 e1
    · omega
  · exact hb.keep kg (fun b hb' e => hqg (by rw [hb', e]))
  · exact hw.keep kg (fun b hlt hR => by
      have := hnew b hR hlt
      exact ⟨this.1, this.2.1, this.1, this.2.2.1, this.2.2.2⟩)
  · exact hr.keep kg (fun b hlt hR => by
      have := hnew b hR hlt
      exact ⟨this.1, this.2.1, this.1, this.2.2.1, this.2.2.2⟩)
  · rcases hk with hk | hk | hk
    · exact .inl hk
    · rcases hN k hk with e1 | e1
      · exact .inl (h.fb k e1)
      · exact .inr e1
    · exact .inr hk.1
/-- Two turns, one behind the other. -/
theorem Keep.two {F F' : Nat → Prop} {a w w' : World} (h : Keep F a w) (k : Keep F' w w') (m : More F F' a) : Keep F a w' := keep_more h k m
end
/-- What reset leaves in the four cells. -/
def wiped (w : World) (g : Nat) : World := (((w.setCell ⟨g, 5, none⟩ (.string { data := #[] })).setCell ⟨g, 6, none⟩ (.slice none 0 0)).setCell ⟨g, 7, none⟩ (.slice none 0 0)).setCell ⟨g, 8, none⟩ (.int .i64 0)
def Se.wipe (s : Se) : Se := { s with frm := nobody, rcpts := [], body := [], bad := 0 }
theorem RSat.wipe {F : Nat → Prop} {w : World} {g : Nat} {s : Se} {wv ov rv bv : Value} {qo qb : Option Nat} {xs : List Value} (h : RSat F w g s wv ov rv bv qo qb xs) :
    ∃ F', RSat F' (wiped w g) g s.wipe wv ov (.slice none 0 0) (.slice none 0 0) qo none xs ∧ Keep F w (wiped w g) ∧ More F F' w := by
  have h1 := h.put (s' := { s with frm := nobody }) 5 (.string nobody) (by rfl) rfl rfl rfl rfl
  obtain ⟨_, _, F2, h2, k2, m2⟩ := h1.turn (Keep.refl _ _) (s' := { s with frm := nobody, rcpts := [] }) (i := 6) (u := .slice none 0 0) (wv' := wv) (rv' := .slice none 0 0) (bv' := bv) (qb' := qb) (by rfl) rfl h1.body (New.refl _ _) (R1 := Rd F g qo qb) (fun k hk => ⟨.inl hk, hk.2.2.2⟩) h1.wait (TxtR.nil _ _)
  obtain ⟨_, _, F3, h3, k3, m3⟩ := h2.turn (Keep.refl _ _) (s' := { s with frm := nobody, rcpts := [], body := [] }) (i := 7) (u := .slice none 0 0) (wv' := wv) (rv' := .slice none 0 0) (bv' := .slice none 0 0) (qb' := none) (by rfl) rfl (Mid.empty _ _) (New.none _ _) (R1 := Rd F2 g qo qb) (fun k hk => ⟨.inl hk, by simp⟩) h2.wait (TxtR.nil _ _)
  have h4 := h3.put (s' := s.wipe) 8 (.int .i64 0) (by rfl) rfl rfl rfl rfl
  have e1 : (w.setCell ⟨g, 5, none⟩ (.string nobody)).heap.size = w.heap.size := by simp [World.setCell]
  have k1 : Keep F w (w.setCell ⟨g, 5, none⟩ (.string nobody)) := put_keep h.fg 5 _
  have m2' : More F F2 w := fun k hk => by rcases m2 k hk with h | h; · exact .inl h
                                           · exact .inr (by omega)
  have k12 := keep_more k1 k2 (More.refl F w)
  have k123 := keep_more k12 k3 m2'
  have m3' : More F F3 w := m2'.trans m3 k12.size
  exact ⟨F3, h4, keep_more k123 (put_keep h3.fg 8 _) m3', m3'⟩

set_option maxHeartbeats 1000000 in
set_option maxRecDepth 100000 in
theorem refReset {F : Nat → Prop} {w : World} {g : Nat} {s : Se} (h : RS F w g s) (hs : s.st ≤ 6) :
    Calls Tryz.prog 34 #[.pointer (some ⟨g, 0, none⟩)] w (Did F g s.reset w) := by
  obtain ⟨wv, ov, rv, bv, qo, qb, xs, h⟩ := h
  obtain ⟨c0, c1, c2, c3, c4, c5, c6, c7, c8⟩ := h.cells
  have f5 := h.frozen 5
  have f6 := h.frozen 6
  have f7 := h.frozen 7
  have f8 := h.frozen 8
  obtain ⟨F', h4, k4, m4⟩ := h.wipe
  obtain ⟨_, _, _, _, d4, _⟩ := h4.cells
  have fz4 := h4.frozen 4
  have hst : s.wipe.st = s.st := rfl
  rw [hst] at d4
  have d4' : ((((w.setCell ⟨g, 5, none⟩ (.string { data := #[] })).setCell ⟨g, 6, none⟩ (.slice none 0 0)).setCell ⟨g, 7, none⟩ (.slice none 0 0)).setCell ⟨g, 8, none⟩ (.int .i64 0)).cell? ⟨g, 4, none⟩ = some (.int .i64 (s.st : Int)) := d4
  have fz4' : ((((w.setCell ⟨g, 5, none⟩ (.string { data := #[] })).setCell ⟨g, 6, none⟩ (.slice none 0 0)).setCell ⟨g, 7, none⟩ (.slice none 0 0)).setCell ⟨g, 8, none⟩ (.int .i64 0)).frozen? ⟨g, 4, none⟩ = false := fz4
  have H4 : Hid (RSat F' ((((w.setCell ⟨g, 5, none⟩ (.string { data := #[] })).setCell ⟨g, 6, none⟩ (.slice none 0 0)).setCell ⟨g, 7, none⟩ (.slice none 0 0)).setCell ⟨g, 8, none⟩ (.int .i64 0)) g s.wipe wv ov (.slice none 0 0) (.slice none 0 0) qo none xs) := Lib.hid h4
  have K4 : Hid (Keep F w ((((w.setCell ⟨g, 5, none⟩ (.string { data := #[] })).setCell ⟨g, 6, none⟩ (.slice none 0 0)).setCell ⟨g, 7, none⟩ (.slice none 0 0)).setCell ⟨g, 8, none⟩ (.int .i64 0))) := Lib.hid k4
  have M4 := Lib.hid m4
  clear h h4 k4 m4 d4 fz4
  by_cases h1 : (1 : Int) < (s.st : Int)
  · have H5 := Lib.hid (H4.out.put (s' := s.reset) 4 (.int .i64 1) (by simp only [sessCells, Se.reset, Se.wipe]; rw [if_pos (by omega)]; rfl) rfl rfl rfl rfl)
    go_enter Tryz.func34, Tryz.ntmps34
    go_wp2
    go_end0
    exact ⟨rfl, F', ⟨_, _, _, _, _, _, _, H5.out⟩, keep_more K4.out (put_keep H4.out.fg 4 _) M4.out, M4.out⟩
  · have e : s.reset = s.wipe := by simp only [Se.reset, Se.wipe]; rw [if_neg (by omega)]
    go_enter Tryz.func34, Tryz.ntmps34
    go_wp2
    go_end0
    exact ⟨rfl, F', ⟨_, _, _, _, _, _, _, H4.out⟩, K4.out, M4.out⟩
end Go.Proofs.YtcjljldknekhiaaGreatDoor.Ln
