/-
  What the laws' own helper 'answers' returns (true): the sum of nine digits, and the table's entry 128. No condition. And what the document's sum bit by bit returns: the same sum.
-/
import Derived.Test.YtkohgbmmjcpfmaaSum
import Derived.Lib.SlBytesConst
namespace Go.Proofs.Ytkohgbmmjcpfmaa.Crc
open Go.RowKit

theorem info24 : (Try.prog.info? 24).map (fun i => (i.zero, i.size, i.bytes)) = some (some (.int .u32 0), 1, 4) := by kernel_rfl

theorem run_index_tab (w : World) (k : IntKind) (j : Nat) (hj : j < 256) : (Instr.index 27 (.agg tab) (.int k (j : Int))).run Try.prog w = .ok (.int .u32 ((sts 8 j : Nat) : Int)) w := by
  have hj0 : (0 : Int) ≤ (j : Int) := by omega
  obtain ⟨i0, hi, hz0, hz1, hz2⟩ := info_parts info24
  simp [Instr.index, run_underlying Try.underlying27, asIntOf, hj0, go_sem, sizeOf, typeInfo, hi, hz1]
  rw [if_pos hj, tab_at j hj]
  rfl

theorem nine : sum [49, 50, 51, 52, 53, 54, 55, 56, 57] = 3421780262 := by decide +kernel
theorem e128 : sts 8 128 = 3988292384 := by decide +kernel

theorem nineAt (w : World) (fr : Nat × Nat) : ∀ i, i < [49, 50, 51, 52, 53, 54, 55, 56, 57].length → (w.alloc (.cells #[.int .u8 49, .int .u8 50, .int .u8 51, .int .u8 52, .int .u8 53, .int .u8 54, .int .u8 55, .int .u8 56, .int .u8 57] 5 fr)).cell? ⟨w.heap.size, 0 + i, none⟩ = some (.int .u8 (([49, 50, 51, 52, 53, 54, 55, 56, 57].getD i 0 : Nat) : Int)) := by
  intro i hi
  rw [cell_of_row _ _ (0 + i) _ _ fr (heap_alloc_new _ _)]
  match i, hi with
  | 0, _ | 1, _ | 2, _ | 3, _ | 4, _ | 5, _ | 6, _ | 7, _ | 8, _ => rfl
  | n + 9, h => exact absurd h (by simp)

set_option maxHeartbeats 1000000 in
set_option maxRecDepth 100000 in
theorem answers (w : World) :
    Calls Try.prog 7 #[] w fun e w' => e = .returned (.bool true) ∧ Below w.heap.size w w' := by
  have hx : ∀ w, (Instr.index 27 (.agg tab) (.int .i64 128)).run Try.prog w = .ok (.int .u32 3988292384) w := by
    intro w
    have := run_index_tab w .i64 128 (by omega)
    rw [e128] at this
    exact this
  have kc := fun (w : World) (C : Array Value) (n c : Nat) => Lib.run_convert_bytes_const (P := Try.prog) w 22 5 C n c Try.underlying22 Try.underlying5
  have e1 : (((sum [49, 50, 51, 52, 53, 54, 55, 56, 57] : Nat) : Int) == 3421780262) = true := by rw [nine]; rfl
  go_enter Try.func7, Try.ntmps7
  go_wp2_with (first
    | (go_at_call 10; refine (table _).mono ?_; rintro e w2 ⟨rfl, hb2⟩)
    | (go_at_call 8; refine (sumSome w.heap.size 0 9 [49, 50, 51, 52, 53, 54, 55, 56, 57] (by decide) _ (by decide) (nineAt w _)).mono ?_; rintro e w1 ⟨rfl, hb1⟩))
  go_ret
  exact ⟨rfl, ((Below.refl _ w).alloc (Nat.le_refl _) _ |>.trans (hb1.mono (by simp))).trans (hb2.mono (by have := hb1.size; simp at this; omega))⟩

end Go.Proofs.Ytkohgbmmjcpfmaa.Crc
