/-
  A row of bytes that is written into.
-/
import Derived.Test.YtflnmgameihglaaStr
namespace Go.Proofs.Ytflnmgameihglaa.Ln
open Go.RowKit
set_option linter.unusedVariables false
set_option linter.unusedSimpArgs false

def URow (w : World) (y : Option Addr) (n : Nat) (q : Option Nat) : Prop := n = 0 ∨ ∃ g off cur, q = some g ∧ y = some ⟨g, off, none⟩ ∧ At w g 5 cur ∧ ∀ i, i < n → ∃ z, cur[off + i]? = some (.int .u8 z)
theorem URow.keep {w w' : World} {y : Option Addr} {n : Nat} {q : Option Nat} {S : Nat → Prop} (h : URow w y n q) (k : Keep S w w') (hs : ∀ g, q = some g → ¬ S g) : URow w' y n q := by
  rcases h with h | ⟨g, off, cur, hq, hy, hA, hc⟩
  · exact .inl h
  · exact .inr ⟨g, off, cur, hq, hy, hA.keep k (hs g hq), hc⟩
theorem URow.at {w : World} {y : Option Addr} {n : Nat} {q : Option Nat} (h : URow w y n q) {i : Nat} (hi : i < n) :
    ∃ g off z, q = some g ∧ y = some ⟨g, off, none⟩ ∧ w.cell? ⟨g, off + i, none⟩ = some (.int .u8 z) ∧ w.frozen? ⟨g, off + i, none⟩ = false ∧ g < w.heap.size ∧ ∀ u, Hid (URow (w.setCell ⟨g, off + i, none⟩ (.int .u8 u)) y n q) := by
  rcases h with h | ⟨g, off, cur, hq, hy, hA, hc⟩
  · omega
  · obtain ⟨z, hz⟩ := hc i hi
    refine ⟨g, off, z, hq, hy, (hA.cell _).trans hz, hA.frozen _, hA.lt, fun u => .inr ⟨g, off, _, hq, hy, hA.put (off + i) _, fun j hj => ?_⟩⟩
    rw [Array.getElem?_setIfInBounds]
    by_cases e : i = j
    · subst e
      have : off + i < cur.size := (Array.getElem?_eq_some_iff.1 hz).1
      simp [this]
    · have e' : ¬ off + i = off + j := by omega
      simp only [e', if_false]
      exact hc j hj
theorem URow.of_mid {w : World} {y : Option Addr} {n cap : Nat} {q : Option Nat} {bs : List Nat} (h : Mid w (.slice y n cap) q bs) : URow w y n q := by
  obtain ⟨_, x, c, hv, _, h0 | ⟨g, off, cur, hx, hq, hA, _, hc⟩⟩ := h
  · injection hv with e1 e2 e3
    exact .inl (by omega)
  · injection hv with e1 e2 e3
    subst e1 e2
    exact .inr ⟨g, off, cur, hq, hx, hA, fun i hi => ⟨_, hc i hi⟩⟩
theorem Mid.alloc {w : World} {v : Value} {q : Option Nat} {bs : List Nat} (h : Mid w v q bs) (o : Obj) : Mid (w.alloc o) v q bs := h.keep ((Keep.refl (fun _ => False) w).alloc o) (fun _ _ h => h)
theorem Lin.alloc {B : Nat} {w : World} {g : Nat} {q : Option Nat} {bs : List Nat} (h : Lin B w g q bs) (o : Obj) : Lin B (w.alloc o) g q bs := h.keep ((Keep.refl (fun _ => False) w).alloc o) (fun h => h) (fun _ _ h => h)
theorem Lin.quiet {B : Nat} {w w' : World} {g : Nat} {q : Option Nat} {bs : List Nat} (h : Lin B w g q bs) (k : Keep (fun _ => False) w w') : Lin B w' g q bs := h.keep k (fun h => h) (fun _ _ h => h)
theorem Keep.none_row {w w' : World} (h : Keep (fun k => (none : Option Nat) = some k) w w') : Keep (fun _ => False) w w' := h.mono (fun _ _ e => by cases e)
end Go.Proofs.Ytflnmgameihglaa.Ln
