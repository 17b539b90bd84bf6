/-
  A stream, and beside it a slice of the law's own, whose blocks are apart.
-/
import Derived.Test.YtflnmgameihglaaInv
namespace Go.Proofs.Ytflnmgameihglaa.Ln
open Go.RowKit
set_option linter.unusedVariables false
set_option linter.unusedSimpArgs false

/-- How long a slice is. -/
def vlen : Value → Nat
  | .slice _ n _ => n
  | _ => 0
/-- The stream in block g has bs, the slice v has cs. -/
def Both (w0 w : World) (g : Nat) (v : Value) (bs cs : List Nat) : Prop :=
  ∃ p q, Lin w0.heap.size w g p bs ∧ Mid w v q cs ∧ ∀ k, q = some k → w0.heap.size ≤ k ∧ k ≠ g ∧ p ≠ some k
section
variable {w0 w w' : World} {g : Nat} {v : Value} {bs cs : List Nat}
theorem Both.start (w : World) : Both w (w.alloc (.cells #[.slice none 0 0] 26)) w.heap.size (.slice none 0 0) [] [] :=
  ⟨none, none, Lin.new w w.heap.size (Nat.le_refl _), Mid.empty _ _, fun k hk => by cases hk⟩
theorem Both.quiet (H : Both w0 w g v bs cs) (k : Keep (fun _ => False) w w') : Both w0 w' g v bs cs := by
  obtain ⟨p, q, h1, h2, h3⟩ := H
  exact ⟨p, q, h1.quiet k, h2.keep k (fun _ _ h => h), h3⟩
theorem Both.lt (H : Both w0 w g v bs cs) : g < w.heap.size := by
  obtain ⟨p, q, h1, h2, h3⟩ := H
  exact h1.lt
theorem Both.shape (H : Both w0 w g v bs cs) : ∃ x cap, v = .slice x cs.length cap ∧ cs.length ≤ cap ∧ ∃ P, Bytes P w x cs := by
  obtain ⟨p, q, h1, h2, h3⟩ := H
  obtain ⟨x, cap, hv, hc, _, hB⟩ := h2.shape
  exact ⟨x, cap, hv, hc, _, hB⟩
theorem both_feed (hS : Since w0 w) (H : Both w0 w g v bs cs) {P : Nat → Prop} (x : Option Addr) (m c : Nat) (ds : List Nat) (hm : ds.length = m) (hB : Bytes P w x ds) (hl : bs.length + m ≤ 1099511627776) :
    Calls Try.prog 8 #[.pointer (some ⟨g, 0, none⟩), .slice x m c] w fun e w' => e = .returned (.tuple #[]) ∧ Both w0 w' g v (bs ++ ds) cs ∧ Since w0 w' := by
  obtain ⟨p, q, h1, h2, h3⟩ := H
  refine (feedS hS h1 x m c ds hm hB hl).mono ?_
  rintro e w' ⟨rfl, p', h5, h6, h7, h8⟩
  have hq := h2.lt
  refine ⟨rfl, ⟨p', q, h5, h2.keep h7 (fun b hb e => ?_), fun k hk => ⟨(h3 k hk).1, (h3 k hk).2.1, fun e => ?_⟩⟩, h6⟩
  · rcases e with e | e
    · exact (h3 b hb).2.1 e
    · exact (h3 b hb).2.2 e
  · rcases h8 k e with e | e
    · exact (h3 k hk).2.2 e
    · have := hq k hk; omega
theorem both_next (hS : Since w0 w) (hm : Hm w0) (H : Both w0 w g v bs cs) (most : Int) (hmost : (Lit.int .i64 most).wf = true) (hl : bs.length ≤ 4294967280) :
    Calls Try.prog 10 #[.pointer (some ⟨g, 0, none⟩), .int .i64 most] w fun e w' => e = .returned (.tuple #[.string (str (nextT bs most)), .bool (nextL bs most), .bool (nextK bs)]) ∧ Both w0 w' g v (nextS bs) cs ∧ Since w0 w' := by
  obtain ⟨p, q, h1, h2, h3⟩ := H
  refine (nextS' hS hm h1 most hmost hl).mono ?_
  rintro e w' ⟨rfl, p', h5, h6, h7, h8⟩
  have hq := h2.lt
  refine ⟨rfl, ⟨p', q, h5, h2.keep h7 (fun b hb e => (h3 b hb).2.1 e), fun k hk => ⟨(h3 k hk).1, (h3 k hk).2.1, fun e => ?_⟩⟩, h6⟩
  rcases h8 k e with e | e
  · exact (h3 k hk).2.2 e
  · have := hq k hk; omega
theorem both_held (H : Both w0 w g v bs cs) : Calls Try.prog 11 #[.pointer (some ⟨g, 0, none⟩)] w fun e w' => e = .returned (.int .i64 (bs.length : Int)) ∧ w' = w := by
  obtain ⟨p, q, h1, _⟩ := H
  exact held h1
theorem Both.drop {x : Option Addr} {L C : Nat} (H : Both w0 w g (.slice x L C) bs cs) (n : Nat) (hn : n ≤ L) :
    Both w0 w g (.slice (if C = n then x else x.map (fun a => a.add n)) (L - n) (C - n)) bs (cs.drop n) := by
  obtain ⟨p, q, h1, h2, h3⟩ := H
  obtain ⟨q', h4, h5⟩ := h2.drop n hn
  refine ⟨p, q', h1, h4, fun k hk => h3 k ?_⟩
  rcases h5 with e | e
  · rw [← e]; exact hk
  · rw [e] at hk; cases hk
end
/-- The slice is appended to. -/
theorem wpList_append_both {w0 w : World} {g : Nat} {ops : Array Oper} {rest : List Oper} {o : Oper} {a : Act} {Q : Exit → Act → World → Prop} (hgd : o.guard = none) (s t : Operand)
    (ho : o.op = .call { callee := .builtin .append, args := #[s, t], argTypes := #[24, 24] })
    (v : Value) (bs cs : List Nat) (hs : a.eval s = v) (hS : Since w0 w) (H : Both w0 w g v bs cs) (P : Nat → Prop) (x : Option Addr) (m c : Nat) (ds : List Nat) (hx : a.eval t = .slice x m c) (hm : ds.length = m) (h : Bytes P w x ds) (hl : cs.length + m ≤ 1099511627776)
    (hK : ∀ y n cap w', Both w0 w' g (.slice y n cap) bs (cs ++ ds) → Since w0 w' → wpList Try.prog ops Q rest (a.put o.dst (.slice y n cap)) w') :
    wpList Try.prog ops Q (o :: rest) a w := by
  obtain ⟨p, q, h1, h2, h3⟩ := H
  refine wpList_append_mid hgd s t ho v q cs hs h2 P x m c ds hx hm h hl ?_
  intro y n cap q' w' hM hk hn
  have hp := h1.qlt
  have hg := h1.lt
  have hz := hS.size
  refine hK y n cap w' ⟨p, q', h1.keep hk (fun e => (h3 g e).2.1 rfl) (fun b hb e => (h3 b e).2.2 hb), hM, fun k hk => ?_⟩ (hS.next hk (fun i hi => (h3 i hi).1))
  rcases hn k hk with e | e
  · exact h3 k e
  · exact ⟨by omega, by omega, fun e' => by have := hp k e'; omega⟩
end Go.Proofs.Ytflnmgameihglaa.Ln
