/-
  What a program that does nothing does not answer.
-/
import Derived.Test.YtkncojmalldifaaGreatDoorV6
namespace Go.Proofs.YtkncojmalldifaaGreatDoor.Ad
open Go.RowKit
set_option linter.unusedVariables false
set_option linter.unusedSimpArgs false

theorem Row3.cells {w : World} {g : Nat} {a b : ByteArray} {n : Int} (h : Row3 w g a b n) : w.cell? ⟨g, 0, none⟩ = some (.string a) ∧ w.cell? ⟨g, 1, none⟩ = some (.string b) ∧ w.cell? ⟨g, 2, none⟩ = some (.int .i64 n) :=
  ⟨cell_of_row w g 0 _ 24 (0, 0) h, cell_of_row w g 1 _ 24 (0, 0) h, cell_of_row w g 2 _ 24 (0, 0) h⟩
theorem Row3.load {w : World} {g : Nat} {a b : ByteArray} {n : Int} (h : Row3 w g a b n) : (loadVar 24 ⟨g, 0, none⟩).run Tryz.prog w = .ok (.agg (cells3 a b n)) w :=
  run_loadVar_row (P := Tryz.prog) w g 24 24 (cells3 a b n) (0, 0) _ h Tryz.underlying24 rfl info24
theorem verbM_ex : verbM [109, 97, 105, 108, 32, 102, 114, 111, 109, 58, 60, 65, 64, 66, 46, 99, 62, 32, 115, 105, 122, 101, 61, 53] = ⟨[77, 65, 73, 76], [65, 64, 98, 46, 99], 5, 0⟩ := by kernel_rfl
theorem verbM_frob : verbM [102, 114, 111, 98] = ⟨[], [], 0, 500⟩ := by kernel_rfl

theorem vparse_at (s : ByteArray) (hs : s.size < 4294967281) (m : Int) {N A : ByteArray} {z c : Int} (h : cmdV (verbM s.data.toList) = .tuple #[.agg #[.string N, .string A, .int .i64 z], .int .i64 c]) (w : World) (hm : w.cell? ⟨0, 0, none⟩ = some (.int .i64 m)) :
    Calls Tryz.prog 6 #[.string s] w fun e w' => e = .returned (.tuple #[.agg #[.string N, .string A, .int .i64 z], .int .i64 c]) ∧ Below w.heap.size w w' := by
  rw [← h]
  exact vparse_walk s hs m w hm

/-- A Verb that is laid down. -/
def laid (w : World) (A B : ByteArray) (n : Int) : World := (w.alloc (.cells #[.string { data := #[] }, .string { data := #[] }, .int .i64 0] 24)).setRow w.heap.size (cells3 A B n)
theorem laid_row (w : World) (A B : ByteArray) (n : Int) : Row3 (laid w A B n) w.heap.size A B n := (row3_new w _ _ _).set _ _ _
theorem laid_below (w : World) (A B : ByteArray) (n : Int) : Below w.heap.size w (laid w A B n) := below_setRow ((Below.refl w.heap.size w).alloc (Nat.le_refl _) _) (Nat.le_refl _) _
theorem step_laid {ops : Array Oper} {rest : List Oper} {o : Oper} {a : Act} {w : World} {Q : Exit → Act → World → Prop} (hgd : o.guard = none) (x y : Operand) (ho : o.op = .store 24 x y)
    (A B : ByteArray) (n : Int) (hx : a.eval x = .pointer (some ⟨w.heap.size, 0, none⟩)) (hy : a.eval y = .agg #[.string A, .string B, .int .i64 n])
    (h : wpList Tryz.prog ops Q rest (a.put o.dst undef) (laid w A B n)) : wpList Tryz.prog ops Q (o :: rest) a (w.alloc (.cells #[.string { data := #[] }, .string { data := #[] }, .int .i64 0] 24)) :=
  step_row hgd x y ho w.heap.size A B n hx hy _ _ _ (row3_new w _ _ _) h

set_option maxHeartbeats 4000000 in
set_option maxRecDepth 100000 in
theorem vans_walk (m : Int) (w : World) (hm : w.cell? ⟨0, 0, none⟩ = some (.int .i64 m)) : Calls Tryz.prog 5 #[] w fun e w' => e = .returned (.bool true) ∧ Below w.heap.size w w' := by
  have c1 := fun W h => vparse_at { data := #[109, 97, 105, 108, 32, 102, 114, 111, 109, 58, 60, 65, 64, 66, 46, 99, 62, 32, 115, 105, 122, 101, 61, 53] } (by decide) m (N := { data := #[77, 65, 73, 76] }) (A := { data := #[65, 64, 98, 46, 99] }) (z := 5) (c := 0) (congrArg cmdV verbM_ex) W h
  have c2 := fun W h => vparse_at { data := #[102, 114, 111, 98] } (by decide) m (N := { data := #[] }) (A := { data := #[] }) (z := 0) (c := 500) (congrArg cmdV verbM_frob) W h
  have C1 := Lib.hid c1
  have C2 := Lib.hid c2
  clear c1 c2
  have HM : ∀ W, Below w.heap.size w W → W.cell? ⟨0, 0, none⟩ = some (.int .i64 m) := fun W h => cell_below hm h
  go_enter Tryz.func5, Tryz.ntmps5
  go_wp2_with fail
  refine (C1.out _ hm).mono ?_
  rintro e w1 ⟨rfl, hb1⟩
  have HB1 := Lib.hid hb1
  clear hb1
  have HR1 := Lib.hid (laid_row w1 { data := #[77, 65, 73, 76] } { data := #[65, 64, 98, 46, 99] } 5)
  have HL1 := Lib.hid (HB1.out.trans ((laid_below w1 { data := #[77, 65, 73, 76] } { data := #[65, 64, 98, 46, 99] } 5).mono HB1.out.size))
  go_wp2_with (refine step_laid (by rfl) (.tmp 1) (.tmp 7) (by rfl) { data := #[77, 65, 73, 76] } { data := #[65, 64, 98, 46, 99] } 5 (by rfl) (by rfl) ?_)
  refine (C2.out _ (HM _ HL1.out)).mono ?_
  rintro e w2 ⟨rfl, hb2⟩
  have HB2 := Lib.hid (HL1.out.trans (hb2.mono HL1.out.size))
  have HR2 := Lib.hid (HR1.out.keep HR1.out.lt hb2)
  clear hb2
  have HR3 := Lib.hid (HR2.out.keep HR2.out.lt (laid_below w2 { data := #[] } { data := #[] } 0))
  have HL2 := Lib.hid (HB2.out.trans ((laid_below w2 { data := #[] } { data := #[] } 0).mono HB2.out.size))
  obtain ⟨k0, k1, k2⟩ := HR3.out.cells
  go_wp2_with (refine step_laid (by rfl) (.tmp 3) (.tmp 11) (by rfl) { data := #[] } { data := #[] } 0 (by rfl) (by rfl) ?_)
  go_ret
  exact ⟨rfl, HL2.out⟩
end Go.Proofs.YtkncojmalldifaaGreatDoor.Ad
