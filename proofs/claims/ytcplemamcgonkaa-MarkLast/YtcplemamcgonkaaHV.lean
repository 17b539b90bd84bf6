/-
  Rows of marks of the call's own; cuts of such rows.
-/
import Derived.Test.YtcplemamcgonkaaHW
namespace Go.Proofs.Ytcplemamcgonkaa.Ln
open Go.RowKit
set_option linter.unusedVariables false
set_option linter.unusedSimpArgs false

theorem cut_pre_mk (x : Option Addr) (L C n : Nat) (hn : n ≤ C) :
    (∀ w, (Instr.slice 30 (.slice x L C) none (some (.int .i64 (n : Int))) none).run Try.prog w = .ok (.slice x n C) w) ∧
    (∀ w, (Instr.sliceAt 30 (.slice x L C) none (some (.int .i64 (n : Int))) none).run Try.prog w = .ok (.slice x n C) w) := by
  obtain ⟨i0, hi, hz0, hz1, hz2⟩ := info_parts infoK
  have h1 : (n : Int) ≤ (C : Int) := by omega
  have r : ∀ w, (Instr.slice 30 (.slice x L C) none (some (.int .i64 (n : Int))) none).run Try.prog w = .ok (.slice x n C) w := by
    intro w
    have hb : ∀ code, (Instr.sliceBound (.int .i64 (n : Int)) C code).run Try.prog w = .ok n w := by
      intro code; simp [Instr.sliceBound, asIntOf, h1]
    have e : (if C = 0 then x else x.map (fun a => a.add 0)) = x := by
      rcases x with _ | a <;> simp [Addr.add]
    simp [Instr.slice, run_underlying Try.underlying30, Instr.sliceBounds, hb, sizeOf, typeInfo, hi]
    simpa using e
  refine ⟨r, fun w => ?_⟩
  rw [← r w]
  simp [Instr.sliceAt, run_underlying Try.underlying30]

/-! ### Marks of one's own -/
structure Mo (w wr : World) (y : Option Addr) (n c : Nat) (q : Option Nat) (L : List Mk) : Prop where
  own : MkO wr (.slice y n c) q L
  new : ∀ b, q = some b → w.heap.size ≤ b
  kp : Keep (fun _ => False) w wr
theorem Mo.start {w wr : World} (k : Keep (fun _ => False) w wr) (y : Option Addr) : Mo w wr y 0 0 none [] := ⟨StO.empty _ _ _ _ _, fun b h => (by cases h), k⟩
theorem Mo.quiet {w wr w' : World} {y : Option Addr} {n c : Nat} {q : Option Nat} {L : List Mk} (h : Mo w wr y n c q L) (k : Keep (fun _ => False) wr w') : Mo w w' y n c q L := ⟨MidG.keep h.own k (fun _ _ h => h), h.new, h.kp.trans k (fun _ _ h => h)⟩
theorem Mo.app {w wr w' : World} {y y' : Option Addr} {n c n' c' : Nat} {q q' : Option Nat} {L M : List Mk} (h : Mo w wr y n c q L) (ho : MkO w' (.slice y' n' c') q' (L ++ M)) (kp : Keep (fun j => q = some j) wr w') (hn : New wr q q') : Mo w w' y' n' c' q' (L ++ M) :=
  ⟨ho, fun b hb => by
    rcases hn b hb with h1 | h1
    · exact h.new b h1
    · exact Nat.le_trans h.kp.size h1, h.kp.trans kp (fun i hi e => by have := h.new i e; omega)⟩
theorem Mo.row {w wr : World} {y : Option Addr} {n c : Nat} {q : Option Nat} {L : List Mk} (h : Mo w wr y n c q L) : n = L.length ∧ n ≤ c ∧ MkP (fun b => q = some b) wr y L := by
  obtain ⟨x, c', hv, hc, hp⟩ := StO.row mkL_len h.own
  injection hv with e1 e2 e3
  subst e1 e3
  exact ⟨e2, by omega, hp⟩
theorem filter_snoc (p : Mk → Bool) (x : List Mk) (k : Nat) (hk : k < x.length) : (x.take (k + 1)).filter p = (x.take k).filter p ++ (if p x[k] = true then [x[k]] else []) := by
  rw [List.take_succ_eq_append_getElem hk, List.filter_append]
  congr 1
  by_cases h : p x[k] = true
  · simp [h]
  · simp [h]
theorem filter_len (p : Mk → Bool) (x : List Mk) (k : Nat) : ((x.take k).filter p).length ≤ k := Nat.le_trans (List.length_filter_le _ _) (by rw [List.length_take]; omega)
theorem cnt8 : cntF 8 = 8 := by decide
theorem ft_get (N : Nat) (L : List Mk) (i : Nat) (hi : i < (fatesM N L).length) : (fatesM N L)[i] = (fatesM N L).getD i ft0 := by simp [List.getD_eq_getElem?_getD, hi]
end Go.Proofs.Ytcplemamcgonkaa.Ln
