/-
  For the law that plays: an append of a string's bytes where the order is open; what waits in the document's session; both sessions made.
-/
import Derived.Test.YtcjljldknekhiaaGreatDoorKQj
namespace Go.Proofs.YtcjljldknekhiaaGreatDoor.Ln
open Go.RowKit
set_option linter.unusedVariables false
set_option linter.unusedSimpArgs false

theorem app_bstr (ty : TypeId) {w : World} {v : Value} {q : Option Nat} {bs : List Nat} (hM : Mid w v q bs) (A : ByteArray) (hl : bs.length + A.size ≤ 1000000000) :
    ∃ y k cap q' w', (Builtin.append_ #[34, 9] ty #[v, .string A]).run Tryz.prog w = .ok (.slice y k cap) w' ∧ Mid w' (.slice y k cap) q' (bs ++ ns A) ∧ Keep (fun k => q = some k) w w' ∧ New w q q' := by
  obtain ⟨i0, hi, hz0, hz1, hz2⟩ := info_parts info5
  have hM' : MidG 5 i0.size w v q bs.length (cellsOf bs) := by rw [hz1]; exact hM.toG
  have hsrc : Src Tryz.prog i0.size 9 (.string A) A.size (byteCells A) w := by rw [hz1]; exact Src.ofString w Tryz.underlying9 A
  obtain ⟨y, k, cap, q', w', hr, h2, h3, h4⟩ := run_append_midG (t := 34) ty Tryz.underlying34 hi hz0 (by rw [hz1]; rfl) (by rw [hz1]; decide) (by rw [hz2]; decide) w v q bs.length (cellsOf bs) hM' _ A.size _ hsrc hl
  have e : cellsOf bs ++ byteCells A = cellsOf (bs ++ ns A) := by simp [cellsOf, byteCells, ns]
  rw [hz1, e] at h2
  exact ⟨y, k, cap, q', w', hr, MidG.toM (fun c hc => by
    rcases List.mem_append.1 hc with hc | hc
    · exact hM.1 c hc
    · exact ns_lt A c hc) h2, h3, h4⟩
theorem wp_append_runS {o : Oper} {a : Act} {w w' : World} {K : Act → World → Prop} {Q : Exit → Act → World → Prop} {s t : Operand} {T U : TypeId} {v u r : Value} (ho : o.op = .call { callee := .builtin .append, args := #[s, t], argTypes := #[T, U] }) (hs : a.eval s = v) (hx : a.eval t = u)
    (hr : (Builtin.append_ #[T, U] o.type #[v, u]).run Tryz.prog w = .ok r w') (hK : K (a.put o.dst r) w') : o.wp Tryz.prog a w K Q := by
  unfold Oper.wp execOp
  simp only [ho, resolve, invoke, builtin, Sem.run_bind, Sem.run_pure, Result.andThen_ok, List.map_toArray, List.map_cons, List.map_nil, hs, hx, hr]
  exact hK
/-- What waits in the document's session is laid anew. -/
theorem RSat.waits {F : Nat → Prop} {w X : World} {g : Nat} {s : Se} {wv ov rv bv v : Value} {qo qb q : Option Nat} {xs : List Value} {bs : List Nat} (hR : RSat F w g s wv ov rv bv qo qb xs) (k : Keep (fun _ => False) w X) (hM : Mid X v q bs) (hq : ∀ b, q = some b → w.heap.size ≤ b) :
    (∃ u, X.cell? ⟨g, 2, none⟩ = some u) ∧ X.frozen? ⟨g, 2, none⟩ = false ∧ ∃ F2, RS F2 (X.setCell ⟨g, 2, none⟩ v) g { s with wait := bs } ∧ Keep F w (X.setCell ⟨g, 2, none⟩ v) ∧ More F F2 w := by
  have k0 : Keep (fun k => qb = some k) w X := k.mono (fun _ _ e => e.elim)
  obtain ⟨hc, hf, F2, h1, h2, h3⟩ := hR.turn k0 (s' := { s with wait := bs }) (i := 2) (u := v) (wv' := v) (rv' := rv) (bv' := bv) (qb' := qb) (by rfl) rfl (hR.body.keep k (fun _ _ h => h)) (New.refl _ _) (R1 := fun b => Rd F g qo qb b ∨ q = some b) (fun b hb => by
      rcases hb with hb | hb
      · exact ⟨.inl hb, hb.2.2.2⟩
      · exact ⟨.inr ⟨hq b hb, hM.lt b hb⟩, fun e => by have := hq b hb; have := hR.flt b (hR.fb b e); omega⟩)
    (hM.byv.keep (Keep.refl (fun _ => False) X) (fun b _ hb => ⟨fun h => h, .inr hb⟩)) (hR.rc.keep k (fun b _ hb => ⟨fun h => h, .inl hb⟩))
  exact ⟨⟨wv, hc 2⟩, hf, F2, ⟨_, _, _, _, _, _, _, h1⟩, h2, h3⟩
theorem fed_back {F : Nat → Prop} {w : World} {g : Nat} {s : Se} {b : List Nat} (h : VS F w g (s.fed b)) (h6 : s.st = 6) : VS F w g s := by
  obtain ⟨lv, ev, rv, bv, o, xs, h⟩ := h
  refine ⟨lv, ev, rv, bv, o, xs, ⟨h.row, h.fg, h.flt, h.lo, h.own, h.out, h.evs, h.rc, h.body, ?_, h.nbl⟩⟩
  rcases h.lin with hx | ⟨hx, _⟩
  · exact .inl hx
  · exact absurd h6 hx
/-- Both are made, and nothing is over. -/
theorem pl_made {w0 w1 w2 : World} {g h : Nat} {F G : Nat → Prop} {p r : Se} (hE : Env w0) (h9 : 9 ≤ w0.heap.size) (a : VS F w1 g p) (k1 : Keep (fun _ => False) w0 w1) (m1 : ∀ k, F k → w0.heap.size ≤ k) (b : RS G w2 h r) (k2 : Keep (fun _ => False) w1 w2) (m2 : ∀ k, G k → w1.heap.size ≤ k) :
    Pl w0 (w2.alloc (.cells #[.bool false] 4)) g h w2.heap.size F G p r false := by
  have kA : Keep (fun _ => False) w2 (w2.alloc (.cells #[.bool false] 4)) := (Keep.refl (fun _ => False) w2).alloc _
  have a2 := a.quiet k2
  exact ⟨a2.quiet kA, b.quiet kA, ((hE.quiet k1).quiet k2).quiet kA, (k1.trans k2 (fun _ _ h => h)).trans kA (fun _ _ h => h), m1, fun k hk => Nat.le_trans k1.size (m2 k hk), fun k hF hG => by have := a.lt k hF; have := m2 k hG; omega, At.new w2 _ _, Nat.le_trans k1.size k2.size, fun e => by have := a2.lt _ e; omega, fun e => by have := b.lt _ e; omega, h9⟩
end Go.Proofs.YtcjljldknekhiaaGreatDoor.Ln
