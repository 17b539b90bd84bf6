/-
  What a program that does nothing does not answer.
-/
import Derived.Test.YtcjljldknekhiaaGreatDoorAV6
namespace Go.Proofs.YtcjljldknekhiaaGreatDoor.Ad
open Go.RowKit
set_option linter.unusedVariables false
set_option linter.unusedSimpArgs false

theorem Row3.cells {w : World} {g : Nat} {a b : ByteArray} {n : Int} (h : Row3 w g a b n) : w.cell? ⟨g, 0, none⟩ = some (.string a) ∧ w.cell? ⟨g, 1, none⟩ = some (.string b) ∧ w.cell? ⟨g, 2, none⟩ = some (.int .i64 n) :=
  ⟨cell_of_row w g 0 _ 58 (0, 0) h, cell_of_row w g 1 _ 58 (0, 0) h, cell_of_row w g 2 _ 58 (0, 0) h⟩
theorem Row3.load {w : World} {g : Nat} {a b : ByteArray} {n : Int} (h : Row3 w g a b n) : (loadVar 58 ⟨g, 0, none⟩).run Tryz.prog w = .ok (.agg (cells3 a b n)) w :=
  run_loadVar_row (P := Tryz.prog) w g 58 58 (cells3 a b n) (0, 0) _ h Tryz.underlying58 rfl info24
theorem verbM_ex : verbM [109, 97, 105, 108, 32, 102, 114, 111, 109, 58, 60, 65, 64, 66, 46, 99, 62, 32, 115, 105, 122, 101, 61, 53] = ⟨[77, 65, 73, 76], [65, 64, 98, 46, 99], 5, 0⟩ := by kernel_rfl
theorem verbM_frob : verbM [102, 114, 111, 98] = ⟨[], [], 0, 500⟩ := by kernel_rfl

theorem vparse_at (s : ByteArray) (hs : s.size < 4294967281) (m : Int) {N A : ByteArray} {z c : Int} (h : cmdV (verbM s.data.toList) = .tuple #[.agg #[.string N, .string A, .int .i64 z], .int .i64 c]) (w : World) (hm : w.cell? ⟨2, 0, none⟩ = some (.int .i64 m)) :
    Calls Tryz.prog 88 #[.string s] w fun e w' => e = .returned (.tuple #[.agg #[.string N, .string A, .int .i64 z], .int .i64 c]) ∧ Below w.heap.size w w' := by
  rw [← h]
  exact vparse_walk s hs m w hm

/-- A Verb that is laid down. -/
def laid (w : World) (A B : ByteArray) (n : Int) : World := (w.alloc (.cells #[.string { data := #[] }, .string { data := #[] }, .int .i64 0] 58)).setRow w.heap.size (cells3 A B n)
theorem laid_row (w : World) (A B : ByteArray) (n : Int) : Row3 (laid w A B n) w.heap.size A B n := (row3_new w _ _ _).set _ _ _
theorem laid_below (w : World) (A B : ByteArray) (n : Int) : Below w.heap.size w (laid w A B n) := below_setRow ((Below.refl w.heap.size w).alloc (Nat.le_refl _) _) (Nat.le_refl _) _
theorem step_laid {ops : Array Oper} {rest : List Oper} {o : Oper} {a : Act} {w : World} {Q : Exit → Act → World → Prop} (hgd : o.guard = none) (x y : Operand) (ho : o.op = .store 58 x y)
    (A B : ByteArray) (n : Int) (hx : a.eval x = .pointer (some ⟨w.heap.size, 0, none⟩)) (hy : a.eval y = .agg #[.string A, .string B, .int .i64 n])
    (h : wpList Tryz.prog ops Q rest (a.put o.dst undef) (laid w A B n)) : wpList Tryz.prog ops Q (o :: rest) a (w.alloc (.cells #[.string { data := #[] }, .string { data := #[] }, .int .i64 0] 58)) :=
  step_row hgd x y ho w.heap.size A B n hx hy _ _ _ (row3_new w _ _ _) h

end Go.Proofs.YtcjljldknekhiaaGreatDoor.Ad
