/-
  What the document's own say and reset return.
-/
import Derived.Test.YtcjljldknekhiaaGreatDoorRs
namespace Go.Proofs.YtcjljldknekhiaaGreatDoor.Ln
open Go.RowKit
set_option linter.unusedVariables false
set_option linter.unusedSimpArgs false

theorem infoEv : ∃ i z, Tryz.prog.info? 46 = some i ∧ i.zero = some z ∧ z.cells.size = i.size ∧ i.size = 8 ∧ i.bytes ≤ 1000 := by
  have h : (Tryz.prog.info? 46).map (fun i => (i.zero.map (·.cells.size), i.size, decide (i.bytes ≤ 1000))) = some (some 8, 8, true) := by kernel_rfl
  obtain ⟨i, hi, he⟩ := Option.map_eq_some_iff.1 h
  injection he with h1 h2
  injection h2 with h2 h3
  obtain ⟨z, hz, hs⟩ := Option.map_eq_some_iff.1 h1
  exact ⟨i, z, hi, hz, by rw [hs, h2], h2, of_decide_eq_true h3⟩
theorem wpList_append_ev {w : World} {ops : Array Oper} {rest : List Oper} {o : Oper} {a : Act} {Q : Exit → Act → World → Prop} (hgd : o.guard = none) (s t : Operand)
    (ho : o.op = .call { callee := .builtin .append, args := #[s, t], argTypes := #[35, 35] })
    (v : Value) (q : Option Nat) (n : Nat) (xs : List Value) (hs : a.eval s = v) (hM : MidG 46 8 w v q n xs) (ad : Addr) (cs : List Value) (hx : a.eval t = .slice (some ad) 1 1) (hcs : cs.length = 8) (hn : ∀ j u, cs[j]? = some u → w.cell? (ad.add j) = some u) (h1 : ∀ u ∈ cs, u.oneCell' = true) (hl : n ≤ 1000000)
    (hK : ∀ y k cap q' w', MidG 46 8 w' (.slice y k cap) q' (n + 1) (xs ++ cs) → Keep (fun k => q = some k) w w' → New w q q' → wpList Tryz.prog ops Q rest (a.put o.dst (.slice y k cap)) w') :
    wpList Tryz.prog ops Q (o :: rest) a w := by
  obtain ⟨i0, z, hi, hz, hzs, h8, hby⟩ := infoEv
  refine wpList_plain hgd fun K hK' => ?_
  have hM' : MidG 46 i0.size w v q n xs := by rw [h8]; exact hM
  have hsrc : Src Tryz.prog i0.size 35 (.slice (some ad) 1 1) 1 cs w := Src.ofSlice w Tryz.underlying35 ad 1 1 cs (by rw [h8, hcs]) hn h1
  obtain ⟨y, k, cap, q', w', hr, h2, h3, h4⟩ := run_append_midG (t := 35) o.type Tryz.underlying35 hi hz hzs (by rw [h8]; decide) hby w v q n xs hM' _ 1 cs hsrc (by omega)
  rw [h8] at h2
  unfold Oper.wp execOp
  simp only [ho, resolve, invoke, builtin, Sem.run_bind, Sem.run_pure, Result.andThen_ok, List.map_toArray, List.map_cons, List.map_nil, hs, hx, hr]
  exact hK' _ _ (hK y k cap q' w' h2 h3 h4)
theorem cells_new (w : World) (t : TypeId) (cs : List Value) : ∀ j u, cs[j]? = some u → (w.alloc (.cells cs.toArray t)).cell? ((⟨w.heap.size, 0, none⟩ : Addr).add j) = some u := fun j u hu => by
  rw [Addr.add_mid, Nat.zero_add, cell_of_row _ _ j _ _ (0, 0) (heap_alloc_new w _)]
  simpa using hu

section
variable {F : Nat → Prop} {w w' w1 : World} {g : Nat} {s : Se} {wv ov rv bv : Value} {qo qb : Option Nat} {xs : List Value}
/-- An event was appended, and the row's slice is stored. -/
theorem RSat.told (h : RSat F w g s wv ov rv bv qo qb xs) {S : Nat → Prop} (k0 : Keep S w w1) (hS : ∀ i, S i → w.heap.size ≤ i) {y : Option Addr} {k cap : Nat} {q' : Option Nat} {e : Ev} {cs : List Value} {R1 : Nat → Prop} (hR1 : ∀ i, R1 i → Rd F g qo qb i ∨ w.heap.size ≤ i ∧ i < w1.heap.size) (he : EvAt R1 w1 e cs)
    (hM : MidG 46 8 w' (.slice y k cap) q' (s.out.length + 1) (xs ++ cs)) (k1 : Keep (fun k => qo = some k) w1 w') (hN : New w1 qo q') :
    w'.cell? ⟨g, 3, none⟩ = some ov ∧ w'.frozen? ⟨g, 3, none⟩ = false ∧ ∃ F', RSat F' (w'.setCell ⟨g, 3, none⟩ (.slice y k cap)) g { s with out := s.out ++ [e] } wv (.slice y k cap) rv bv q' qb (xs ++ cs) ∧ Keep F w (w'.setCell ⟨g, 3, none⟩ (.slice y k cap)) ∧ More F F' w := by
  have ng := h.nog
  have hsz0 := k0.size
  have hsz1 := k1.size
  have hgl := h.flt g h.fg
  have hA1 : At w1 g 38 (sessCells s wv ov rv bv) := h.row.keep k0 (fun e => by have := hS g e; omega)
  have hA2 : At w' g 38 (sessCells s wv ov rv bv) := hA1.keep k1 (fun e => ng.1 e)
  have hq'g : q' ≠ some g := hM.ne hA2 (by decide)
  have kF : Keep F w w' := (k0.mono (T := F) (fun i hi e => by have := hS i e; omega)).trans k1 (fun i hi e => h.fo i e)
  have kg : Keep (fun k => k = g) w' (w'.setCell ⟨g, 3, none⟩ (.slice y k cap)) := (Keep.refl (fun k => k = g) w').setCell (p := ⟨g, 3, none⟩) (fun _ => rfl) _
  have hqb : ∀ b, qb = some b → b ≠ g ∧ qo ≠ some b ∧ q' ≠ some b := fun b hb => by
    refine ⟨fun e => ng.2 (by rw [hb, e]), fun e => h.nqq b e hb, fun e => ?_⟩
    rcases hN b e with e1 | e1
    · exact h.nqq b e1 hb
    · have := h.flt b (h.fb b hb)
      omega
  have hbad : ∀ b, Rd F g qo qb b → b ≠ g ∧ qo ≠ some b ∧ q' ≠ some b ∧ qb ≠ some b := fun b hR => by
    refine ⟨hR.2.1, hR.2.2.1, fun e => ?_, hR.2.2.2⟩
    rcases hN b e with e1 | e1
    · exact hR.2.2.1 e1
    · have := h.flt b hR.1
      omega
  refine ⟨hA2.cell 3, hA2.frozen 3, fun i => F i ∨ q' = some i ∨ (w.heap.size ≤ i ∧ i < w1.heap.size), ⟨?_, .inl h.fg, ?_, fun i hi => .inr (.inl hi), fun i hi => .inl (h.fb i hi), ?_, ?_, ?_, ?_, ?_⟩, kF.trans kg (fun i hi e => e ▸ h.fg), fun i hi => ?_⟩
  · exact hA2.put 3 _
  · intro i hi
    rw [show (w'.setCell ⟨g, 3, none⟩ (.slice y k cap)).heap.size = w'.heap.size by simp [World.setCell]]
    rcases hi with hi | hi | hi
    · have := h.flt i hi; omega
    · exact hM.lt i hi
    · omega
  · rw [show (s.out ++ [e]).length = s.out.length + 1 by simp]
    exact hM.keep kg (fun b hb e => hq'g (by rw [hb, e]))
  · have hall : ∀ b, (Rd F g qo qb b ∨ w.heap.size ≤ b ∧ b < w1.heap.size) → b < w1.heap.size → (q' ≠ some b) ∧ b ≠ g ∧ qo ≠ some b ∧ qb ≠ some b := fun b hb hlt => by
      rcases hb with hb | hb
      · have := hbad b hb
        exact ⟨this.2.2.1, this.1, this.2.1, this.2.2.2⟩
      · refine ⟨fun e => ?_, by omega, fun e => ?_, fun e => ?_⟩
        · rcases hN b e with e1 | e1
          · have := h.flt b (h.fo b e1); omega
          · omega
        · have := h.flt b (h.fo b e); omega
        · have := h.flt b (h.fb b e); omega
    refine EvsAt.snoc ?_ ?_
    · refine EvAt.keepW (R := R1) he ((k1.mono (T := fun i => i = g ∨ qo = some i) (fun i _ e => .inr e)).trans kg (fun i _ e => .inl e)) (fun b hb hR => ?_)
      have := hall b (hR1 b hR) hb
      exact ⟨fun e => e.elim this.2.1 this.2.2.1, by
        rcases hR1 b hR with h1 | h1
        · exact .inl h1.1
        · exact .inr (.inr h1), this.2.1, this.1, this.2.2.2⟩
    · exact h.evs.keepW (((k0.mono (T := fun i => i = g ∨ qo = some i ∨ w.heap.size ≤ i) (fun i _ e => .inr (.inr (hS i e)))).trans (k1.mono (T := fun i => i = g ∨ qo = some i) (fun i _ e => .inr e)) (fun i _ e => e.elim .inl (fun e => .inr (.inl e)))).trans kg (fun i _ e => .inl e)) (fun b hb hR => by
        have := hbad b hR
        exact ⟨fun e => by
          rcases e with e | e | e
          · exact this.1 e
          · exact this.2.1 e
          · omega, .inl hR.1, this.1, this.2.2.1, this.2.2.2⟩)
  · exact ((h.body.keep k0 (fun b hb e => by have := hS b e; have := h.flt b (h.fb b hb); omega)).keep k1 (fun b hb e => (hqb b hb).2.1 e)).keep kg (fun b hb e => (hqb b hb).1 e)
  · exact ((h.wait.keep k0 (fun b hb hR => ⟨fun e => by have := hS b e; omega, hR⟩)).keep k1 (fun b _ hR => ⟨fun e => hR.2.2.1 e, hR⟩)).keep kg (fun b _ hR => ⟨fun e => hR.2.1 e, .inl hR.1, (hbad b hR).1, (hbad b hR).2.2.1, (hbad b hR).2.2.2⟩)
  · exact ((h.rc.keep k0 (fun b hb hR => ⟨fun e => by have := hS b e; omega, hR⟩)).keep k1 (fun b _ hR => ⟨fun e => hR.2.2.1 e, hR⟩)).keep kg (fun b _ hR => ⟨fun e => hR.2.1 e, .inl hR.1, (hbad b hR).1, (hbad b hR).2.2.1, (hbad b hR).2.2.2⟩)
  · rcases hi with hi | hi | hi
    · exact .inl hi
    · rcases hN i hi with e1 | e1
      · exact .inl (h.fo i e1)
      · exact .inr (by omega)
    · exact .inr hi.1
end

set_option maxHeartbeats 1000000 in
set_option maxRecDepth 100000 in
theorem refSay {F : Nat → Prop} {w : World} {g : Nat} {s : Se} (h : RS F w g s) (t : ByteArray) (hl : s.out.length ≤ 1000000) :
    Calls Tryz.prog 31 #[.pointer (some ⟨g, 0, none⟩), .string t] w (Did F g (s.say t) w) := by
  obtain ⟨wv, ov, rv, bv, qo, qb, xs, h⟩ := h
  obtain ⟨x, cap, rfl, hc⟩ := h.out.shape
  obtain ⟨_, _, _, c3, _⟩ := h.cells
  have hM1 : MidG 46 8 (w.alloc (.cells (evCells 1 t nobody nilV nilV).toArray 46)) (.slice x s.out.length cap) qo s.out.length xs := h.out.keep ((Keep.refl (fun _ => False) w).alloc _) (fun _ _ h => h)
  have HM1 := Lib.hid hM1
  have HR := Lib.hid h
  have HN := Lib.hid (cells_new w 46 (evCells 1 t nobody nilV nilV))
  clear h hM1
  go_enter Tryz.func31, Tryz.ntmps31
  go_wp2_with (refine wpList_append_ev (by rfl) _ _ (by rfl) _ qo s.out.length xs (by rfl) HM1.out ⟨w.heap.size, 0, none⟩ (evCells 1 t nobody nilV nilV) (by rfl) (by rfl) HN.out (EvAt.one (R := fun _ => True) (w := w) (e := .say t) rfl) hl ?_; intro y k c q' w2 hM2 hK2 hN2; obtain ⟨c3', f3', F', hR', hK', hm'⟩ := HR.out.told (e := .say t) (R1 := fun _ => False) ((Keep.refl (fun _ => False) w).alloc _) (fun _ h => h.elim) (fun _ h => h.elim) rfl hM2 hK2 hN2; have HR' := Lib.hid hR'; have HK' := Lib.hid hK'; have HM' := Lib.hid hm'; clear hM2 hK2 hN2 hR' hK' hm')
  go_end0
  exact ⟨rfl, F', ⟨_, _, _, _, _, _, _, HR'.out⟩, HK'.out, HM'.out⟩
end Go.Proofs.YtcjljldknekhiaaGreatDoor.Ln
