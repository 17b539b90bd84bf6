/-
  A slice cut in its middle; two streams of the law's own, side by side.
-/
import Derived.Test.YtflnmgameihglaaInv
namespace Go.Proofs.Ytflnmgameihglaa.Ln
open Go.RowKit
set_option linter.unusedVariables false
set_option linter.unusedSimpArgs false

/-- A slice cut in its middle: n bytes from l on. -/
theorem cut_midn (x : Option Addr) (L C l n : Nat) (hh : l + n ≤ C) :
    ∃ Y, (∀ w, (Instr.slice 24 (.slice x L C) (some (.int .i64 (l : Int))) (some (.int .i64 ((l : Int) + (n : Int)))) none).run Try.prog w = .ok (.slice Y n (C - l)) w) ∧
    (∀ w, (Instr.sliceAt 24 (.slice x L C) (some (.int .i64 (l : Int))) (some (.int .i64 ((l : Int) + (n : Int)))) none).run Try.prog w = .ok (.slice Y n (C - l)) w) ∧
    ∀ (P : Nat → Prop) (w : World) (bs : List Nat), bs.length = L → L ≤ C → l + n ≤ L → Bytes P w x bs → Bytes P w Y ((bs.drop l).take n) := by
  obtain ⟨s1, s2⟩ := cut_mid x L C l (l + n) (by omega) hh
  rw [show l + n - l = n by omega] at s1 s2
  rw [Int.natCast_add] at s1 s2
  refine ⟨_, s1, s2, fun P w bs hl hC hn hB => ?_⟩
  have := hB.mid C l (l + n) (by omega) (by omega) (by omega)
  rw [List.drop_take, show l + n - l = n by omega] at this
  exact this

/-! ### Two streams side by side -/
/-- Two streams of the law's own, whose blocks are apart. -/
structure Pair (w0 w : World) (g h : Nat) (bs cs : List Nat) : Prop where
  two : ∃ p q, Lin w0.heap.size w g p bs ∧ Lin w0.heap.size w h q cs ∧ (∀ k, p = some k → q ≠ some k ∧ k ≠ h) ∧ ∀ k, q = some k → k ≠ g
  ne : g ≠ h
section
variable {w0 w : World} {g h : Nat} {bs cs : List Nat}
theorem Pair.swap (H : Pair w0 w g h bs cs) : Pair w0 w h g cs bs := by
  obtain ⟨p, q, h1, h2, h3, h4⟩ := H.two
  exact ⟨⟨q, p, h2, h1, fun k hk => ⟨fun e => (h3 k e).1 hk, h4 k hk⟩, fun k hk => (h3 k hk).2⟩, H.ne.symm⟩
theorem Pair.quiet {w' : World} (H : Pair w0 w g h bs cs) (k : Keep (fun _ => False) w w') : Pair w0 w' g h bs cs := by
  obtain ⟨p, q, h1, h2, h3, h4⟩ := H.two
  exact ⟨⟨p, q, h1.quiet k, h2.quiet k, h3, h4⟩, H.ne⟩
theorem Pair.start (w : World) : Pair w ((w.alloc (.cells #[.slice none 0 0] 26)).alloc (.cells #[.slice none 0 0] 26)) w.heap.size (w.heap.size + 1) [] [] := by
  have e : (w.alloc (.cells #[.slice none 0 0] 26)).heap.size = w.heap.size + 1 := by simp
  have h2 := Lin.new (w.alloc (.cells #[.slice none 0 0] 26)) w.heap.size (by omega)
  rw [e] at h2
  exact ⟨⟨none, none, (Lin.new w w.heap.size (Nat.le_refl _)).alloc _, h2, (fun k hk => by cases hk), (fun k hk => by cases hk)⟩, by omega⟩
/-- One of the two is fed. -/
theorem pair_feed (hS : Since w0 w) (H : Pair w0 w g h bs cs) {P : Nat → Prop} (x : Option Addr) (m c : Nat) (ds : List Nat) (hm : ds.length = m) (hB : Bytes P w x ds) (hl : bs.length + m ≤ 1099511627776) :
    Calls Try.prog 8 #[.pointer (some ⟨g, 0, none⟩), .slice x m c] w fun e w' => e = .returned (.tuple #[]) ∧ Pair w0 w' g h (bs ++ ds) cs ∧ Since w0 w' := by
  obtain ⟨p, q, h1, h2, h3, h4⟩ := H.two
  refine (feedS hS h1 x m c ds hm hB hl).mono ?_
  rintro e w' ⟨rfl, p', h5, h6, h7, h8⟩
  have hne := H.ne
  have hq := h2.qlt
  have hh := h2.lt
  refine ⟨rfl, ⟨⟨p', q, h5, h2.keep h7 (fun e => ?_) (fun b hb e => ?_), fun k hk => ?_, h4⟩, hne⟩, h6⟩
  · rcases e with e | e
    · exact hne e.symm
    · exact (h3 _ e).2 rfl
  · rcases e with e | e
    · exact h4 b hb e
    · exact (h3 b e).1 hb
  · rcases h8 k hk with e | e
    · exact h3 k e
    · exact ⟨fun e' => by have := hq k e'; omega, by omega⟩
/-- One of the two is asked for a line. -/
theorem pair_next (hS : Since w0 w) (hm : Hm w0) (H : Pair w0 w g h bs cs) (most : Int) (hmost : (Lit.int .i64 most).wf = true) (hl : bs.length ≤ 4294967280) :
    Calls Try.prog 10 #[.pointer (some ⟨g, 0, none⟩), .int .i64 most] w fun e w' => e = .returned (.tuple #[.string (str (nextT bs most)), .bool (nextL bs most), .bool (nextK bs)]) ∧ Pair w0 w' g h (nextS bs) cs ∧ Since w0 w' := by
  obtain ⟨p, q, h1, h2, h3, h4⟩ := H.two
  refine (nextS' hS hm h1 most hmost hl).mono ?_
  rintro e w' ⟨rfl, p', h5, h6, h7, h8⟩
  have hne := H.ne
  have hq := h2.qlt
  have hh := h2.lt
  refine ⟨rfl, ⟨⟨p', q, h5, h2.keep h7 (fun e => hne e.symm) (fun b hb e => h4 b hb e), fun k hk => ?_, h4⟩, hne⟩, h6⟩
  rcases h8 k hk with e | e
  · exact h3 k e
  · exact ⟨fun e' => by have := hq k e'; omega, by omega⟩
theorem pair_held (H : Pair w0 w g h bs cs) : Calls Try.prog 11 #[.pointer (some ⟨g, 0, none⟩)] w fun e w' => e = .returned (.int .i64 (bs.length : Int)) ∧ w' = w := by
  obtain ⟨p, q, h1, _⟩ := H.two
  exact held h1
end
theorem nextS_le (bs : List Nat) : (nextS bs).length ≤ bs.length := by
  unfold nextS
  split
  · exact Nat.le_refl _
  · simp
end Go.Proofs.Ytflnmgameihglaa.Ln
