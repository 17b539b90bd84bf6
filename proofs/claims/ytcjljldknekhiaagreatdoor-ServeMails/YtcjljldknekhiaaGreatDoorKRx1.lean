/-
  What the document's own text returns and does at a body's end.
-/
import Derived.Test.YtcjljldknekhiaaGreatDoorKRg
import Derived.Deep.RegionHeld3
namespace Go.Proofs.YtcjljldknekhiaaGreatDoor.Ln
open Go.RowKit
set_option linter.unusedVariables false
set_option linter.unusedSimpArgs false

theorem app_ev {w : World} {v : Value} {q : Option Nat} {n : Nat} {xs : List Value} (hM0 : MidG 46 8 w v q n xs) (ad : Addr) (cs : List Value) (hcs : cs.length = 8) (hn : ∀ j u, cs[j]? = some u → w.cell? (ad.add j) = some u) (h1 : ∀ u ∈ cs, u.oneCell' = true) (ty : TypeId) (hl : n ≤ 1000000) :
    ∃ y k cap q' w', (Builtin.append_ #[35, 35] ty #[v, .slice (some ad) 1 1]).run Tryz.prog w = .ok (.slice y k cap) w' ∧ MidG 46 8 w' (.slice y k cap) q' (n + 1) (xs ++ cs) ∧ Keep (fun k => q = some k) w w' ∧ New w q q' := by
  obtain ⟨i0, z, hi, hz, hzs, h8, hby⟩ := infoEv
  have hM' : MidG 46 i0.size w v q n xs := by rw [h8]; exact hM0
  have hsrc : Src Tryz.prog i0.size 35 (.slice (some ad) 1 1) 1 cs w := Src.ofSlice w Tryz.underlying35 ad 1 1 cs (by rw [h8, hcs]) hn h1
  obtain ⟨y, k, cap, q', w', hr, h2, h3, h4⟩ := run_append_midG (t := 35) ty Tryz.underlying35 hi hz hzs (by rw [h8]; decide) hby w v q n xs hM' _ 1 cs hsrc (by omega)
  rw [h8] at h2
  exact ⟨y, k, cap, q', w', hr, h2, h3, h4⟩
theorem More.up' {F F' : Nat → Prop} {w W : World} (m : More F F' W) (h : w.heap.size ≤ W.heap.size) : More F F' w := fun i hi => (m i hi).elim .inl (fun h' => .inr (Nat.le_trans h h'))
/-- All that is told at a body's end, in one of the orders: the two copies, the event, its row. -/
theorem RSat.kept {F : Nat → Prop} {W X : World} {g : Nat} {s : Se} {wv ov rv bv r' b' : Value} {qo qb q1 q2 : Option Nat} {xs : List Value} (h : RSat F W g s wv ov rv bv qo qb xs) (k : Keep (fun _ => False) W X) (hr : TxtR (fun b => q1 = some b) X r' s.rcpts) (hb : ByV (fun b => q2 = some b) X b' s.body)
    (n1 : ∀ b, q1 = some b → W.heap.size ≤ b ∧ b < X.heap.size) (n2 : ∀ b, q2 = some b → W.heap.size ≤ b ∧ b < X.heap.size) (ho : s.out.length ≤ 1000000) (ty : TypeId) :
    ∃ y j d u, (Builtin.append_ #[35, 35] ty #[ov, .slice (some ⟨X.heap.size, 0, none⟩) 1 1]).run Tryz.prog (X.alloc (.cells (evCells 2 nobody s.frm r' b').toArray 46)) = .ok (.slice y j d) u ∧ u.cell? ⟨g, 3, none⟩ = some ov ∧ u.frozen? ⟨g, 3, none⟩ = false ∧
      (∀ i v, i ≠ 3 → W.cell? ⟨g, i, none⟩ = some v → u.cell? ⟨g, i, none⟩ = some v ∧ (u.setCell ⟨g, 3, none⟩ (.slice y j d)).cell? ⟨g, i, none⟩ = some v) ∧
      ∃ F', RS F' (u.setCell ⟨g, 3, none⟩ (.slice y j d)) g { s with out := s.out ++ [.keep s.frm s.rcpts s.body] } ∧ Keep F W (u.setCell ⟨g, 3, none⟩ (.slice y j d)) ∧ More F F' W := by
  have kX : Keep (fun _ => False) W (X.alloc (.cells (evCells 2 nobody s.frm r' b').toArray 46)) := k.alloc _
  have kXX : Keep (fun _ => False) X (X.alloc (.cells (evCells 2 nobody s.frm r' b').toArray 46)) := (Keep.refl _ X).alloc _
  have hEv : EvAt (fun b => q1 = some b ∨ q2 = some b) (X.alloc (.cells (evCells 2 nobody s.frm r' b').toArray 46)) (.keep s.frm s.rcpts s.body) (evCells 2 nobody s.frm r' b') :=
    ⟨r', b', rfl, hr.keep kXX (fun b _ e => ⟨fun h => h, .inl e⟩), hb.keep kXX (fun b _ e => ⟨fun h => h, .inr e⟩)⟩
  obtain ⟨y, j, d, q', u, hrun, hM, hK, hN⟩ := app_ev (h.out.keep kX (fun _ _ h => h)) ⟨X.heap.size, 0, none⟩ (evCells 2 nobody s.frm r' b') rfl (cells_new X 46 _) hEv.one ty ho
  have hsz : X.heap.size ≤ (X.alloc (.cells (evCells 2 nobody s.frm r' b').toArray 46)).heap.size := kXX.size
  obtain ⟨c3, f3, F', hR, hKF, hm⟩ := h.told kX (fun _ h => h.elim) (R1 := fun b => q1 = some b ∨ q2 = some b) (fun i hi => by
    rcases hi with hi | hi
    · exact .inr ⟨(n1 i hi).1, Nat.lt_of_lt_of_le (n1 i hi).2 hsz⟩
    · exact .inr ⟨(n2 i hi).1, Nat.lt_of_lt_of_le (n2 i hi).2 hsz⟩) hEv hM hK hN
  refine ⟨y, j, d, u, hrun, c3, f3, fun i v hi hc => ?_, F', ⟨_, _, _, _, _, _, _, hR⟩, hKF, hm⟩
  have hu : u.cell? ⟨g, i, none⟩ = some v := hK.cell (kX.cell hc (fun h => h)) (fun e => h.nog.1 e)
  refine ⟨hu, ?_⟩
  have hne : (⟨g, 3, none⟩ : Addr) ≠ ⟨g, i, none⟩ := by first | (simp; done) | (simp; omega)
  exact (World.cell?_setCell_other (h := hne) ..).trans hu

end Go.Proofs.YtcjljldknekhiaaGreatDoor.Ln
