/-
  What the program's numbers, Good and checksum return, and the document's MayMark and sum.
-/
import Derived.Test.YtcplemamcgonkaaHBase
namespace Go.Proofs.Ytcplemamcgonkaa.Ln
open Go.RowKit
set_option linter.unusedVariables false
set_option linter.unusedSimpArgs false
theorem infoA : (Try.prog.info? 47).map (·.size) = some 3 := by kernel_rfl
theorem info3 : (Try.prog.info? 3).map (fun i => (i.zero, i.size, i.bytes)) = some (some (.int .i64 0), 1, 8) := by kernel_rfl
theorem ret_arr {fn : Func} {p : Tmp} (h : fn.results = #[.cell p 47]) (tmps : Array Value) (w : World) (g : Nat) {cs : Array Value} (hp : tmps.getD p undef = .pointer (some ⟨g, 0, none⟩)) (hg : At w g 47 cs ∧ cs.size = 3) :
    (results fn tmps).run Try.prog w = .ok (.agg cs) w := results_cell_row h tmps w g 47 cs (0, 0) _ hp hg.1 Try.underlying47 rfl (by rw [hg.2]; exact infoA)
theorem run_index3 (x y z : Int) : (∀ w, (Instr.index 47 (.agg #[.int .i64 x, .int .i64 y, .int .i64 z]) (.int .i64 0)).run Try.prog w = .ok (.int .i64 x) w) ∧ (∀ w, (Instr.index 47 (.agg #[.int .i64 x, .int .i64 y, .int .i64 z]) (.int .i64 1)).run Try.prog w = .ok (.int .i64 y) w) ∧ (∀ w, (Instr.index 47 (.agg #[.int .i64 x, .int .i64 y, .int .i64 z]) (.int .i64 2)).run Try.prog w = .ok (.int .i64 z) w) := by
  obtain ⟨i0, hi, hz0, hz1, hz2⟩ := info_parts info3
  refine ⟨fun w => ?_, fun w => ?_, fun w => ?_⟩ <;> simp [Instr.index, run_underlying Try.underlying47, asIntOf, go_sem, sizeOf, typeInfo, hi, hz1]
set_option maxHeartbeats 2000000 in
theorem numbersC (k : Mk) (w : World) : Calls Try.prog 20 #[.agg (mkC k)] w (Quiet (.agg (mkC k)) w) := by
  obtain ⟨x, y, z⟩ := k
  unfold mkC
  simp only
  have hA : Hid (At ((w.alloc (Obj.cells #[Value.int IntKind.i64 x, Value.int IntKind.i64 y, Value.int IntKind.i64 z] 23)).alloc (Obj.cells #[Value.int IntKind.i64 x, Value.int IntKind.i64 y, Value.int IntKind.i64 z] 47)) (w.heap.size + 1) 47 #[Value.int IntKind.i64 x, Value.int IntKind.i64 y, Value.int IntKind.i64 z]) := Lib.hid (by
    have := At.new (w.alloc (Obj.cells #[Value.int IntKind.i64 x, Value.int IntKind.i64 y, Value.int IntKind.i64 z] 23)) 47 #[Value.int IntKind.i64 x, Value.int IntKind.i64 y, Value.int IntKind.i64 z]
    rwa [show (w.alloc (Obj.cells #[Value.int IntKind.i64 x, Value.int IntKind.i64 y, Value.int IntKind.i64 z] 23)).heap.size = w.heap.size + 1 by simp] at this)
  go_enter Try.func20, Try.ntmps20
  go_wp2
  refine bodyPost_ret (ret_arr (fn := Try.f20) (p := 2) rfl _ _ (w.heap.size + 1) rfl ⟨hA.out, rfl⟩) rfl ?_
  exact ⟨rfl, (keep_new w _).alloc _⟩
set_option maxHeartbeats 4000000 in
theorem goodKC (k : Mk) (w : World) : Calls Try.prog 12 #[.agg (mkC k)] w (Quiet (.bool (goodK k)) w) := by
  obtain ⟨x, y, z⟩ := k
  have HG : Hid (∀ q : Bool, (q = true ↔ 1 ≤ x ∧ x ≤ 5 ∧ 0 ≤ y ∧ y ≤ 7 ∧ 0 ≤ z ∧ z ≤ 1099511627776) → q = goodK ⟨x, y, z⟩) := Lib.hid (fun q hq => Bool.eq_iff_iff.2 (hq.trans (goodK_iff (k := ⟨x, y, z⟩)).symm))
  obtain ⟨W, hW⟩ : ∃ W, W = (((w.alloc (Obj.cells #[Value.int .i64 x, Value.int .i64 y, Value.int .i64 z] 23)).alloc (Obj.cells #[Value.int .i64 1, Value.int .i64 0, Value.int .i64 0] 47)).alloc (Obj.cells #[Value.int .i64 5, Value.int .i64 7, Value.int .i64 1099511627776] 47)) := ⟨_, rfl⟩
  have hA : At W (w.heap.size + 1) 47 #[Value.int .i64 1, Value.int .i64 0, Value.int .i64 0] := by
    rw [hW]
    refine At.alloc ?_ _
    have := At.new (w.alloc (Obj.cells #[Value.int .i64 x, Value.int .i64 y, Value.int .i64 z] 23)) 47 #[Value.int .i64 1, Value.int .i64 0, Value.int .i64 0]
    rwa [show (w.alloc (Obj.cells #[Value.int .i64 x, Value.int .i64 y, Value.int .i64 z] 23)).heap.size = w.heap.size + 1 by simp] at this
  have hB : At W (w.heap.size + 2) 47 #[Value.int .i64 5, Value.int .i64 7, Value.int .i64 1099511627776] := by
    rw [hW]
    have := At.new ((w.alloc (Obj.cells #[Value.int .i64 x, Value.int .i64 y, Value.int .i64 z] 23)).alloc (Obj.cells #[Value.int .i64 1, Value.int .i64 0, Value.int .i64 0] 47)) 47 #[Value.int .i64 5, Value.int .i64 7, Value.int .i64 1099511627776]
    rwa [show ((w.alloc (Obj.cells #[Value.int .i64 x, Value.int .i64 y, Value.int .i64 z] 23)).alloc (Obj.cells #[Value.int .i64 1, Value.int .i64 0, Value.int .i64 0] 47)).heap.size = w.heap.size + 2 by simp] at this
  have KW := Lib.hid (show Keep (fun _ => False) w W by rw [hW]; exact ((keep_new w _).alloc _).alloc _)
  have HW := Lib.hid hW
  have HA := Lib.hid hA
  have HB := Lib.hid hB
  clear hA hB hW
  unfold mkC
  simp only
  obtain ⟨x0, x1, x2⟩ := run_index3 x y z
  go_enter Try.func12, Try.ntmps12
  go_wp2_with fail
  rw [← HW.out]
  refine (numbersC ⟨x, y, z⟩ W).mono ?_
  rintro e w1 ⟨rfl, k1⟩
  unfold mkC
  simp only
  obtain ⟨a0, a1, a2⟩ : w1.cell? ⟨w.heap.size + 1, 0, none⟩ = some (.int .i64 1) ∧ w1.cell? ⟨w.heap.size + 1, 1, none⟩ = some (.int .i64 0) ∧ w1.cell? ⟨w.heap.size + 1, 2, none⟩ = some (.int .i64 0) := by
    have h := HA.out.keep k1 (fun h => h)
    exact ⟨h.cell 0, h.cell 1, h.cell 2⟩
  obtain ⟨b0, b1, b2⟩ : w1.cell? ⟨w.heap.size + 2, 0, none⟩ = some (.int .i64 5) ∧ w1.cell? ⟨w.heap.size + 2, 1, none⟩ = some (.int .i64 7) ∧ w1.cell? ⟨w.heap.size + 2, 2, none⟩ = some (.int .i64 1099511627776) := by
    have h := HB.out.keep k1 (fun h => h)
    exact ⟨h.cell 0, h.cell 1, h.cell 2⟩
  have K1 := Lib.hid (KW.out.trans k1 (fun _ _ h => h))
  clear k1
  go_wp2
  go_loopw [11] (fun i wr => wr = w1 ∧ ∃ j : Nat, j ≤ 3 ∧ i = .int .i64 (j : Int) ∧ Hid ((1 ≤ j → 1 ≤ x ∧ x ≤ 5) ∧ (2 ≤ j → 0 ≤ y ∧ y ≤ 7) ∧ (3 ≤ j → 0 ≤ z ∧ z ≤ 1099511627776))) (fun i _ => 3 - (intOf i).toNat)
  case atStart => exact ⟨rfl, 0, by omega, rfl, ⟨by omega, by omega, by omega⟩⟩
  case round =>
    obtain ⟨hwr, j, hj, rfl, HR⟩ := hrel
    subst hwr
    obtain rfl | rfl | rfl | rfl : j = 0 ∨ j = 1 ∨ j = 2 ∨ j = 3 := by omega
    · by_cases h1 : x < 1
      · go_wp2
        go_ret
        exact ⟨congrArg (fun b => Ending.returned (.bool b)) (HG.out false (by simp; omega)), K1.out⟩
      · have d1 : decide (x < 1) = false := decide_eq_false h1
        by_cases h2 : 5 < x
        · go_wp2
          go_ret
          exact ⟨congrArg (fun b => Ending.returned (.bool b)) (HG.out false (by simp; omega)), K1.out⟩
        · have d2 : decide (5 < x) = false := decide_eq_false h2
          go_wp2
          go_roundw
          case rel => exact ⟨trivial, 0+1, by omega, by go_num, by obtain ⟨q1, q2, q3⟩ := HR.out; exact ⟨fun _ => by first | omega | exact q1 (by omega), fun _ => by first | omega | exact q2 (by omega), fun _ => by first | omega | exact q3 (by omega)⟩⟩
          case measure => simp [intOf]
    · by_cases h1 : y < 0
      · go_wp2
        go_ret
        exact ⟨congrArg (fun b => Ending.returned (.bool b)) (HG.out false (by simp; omega)), K1.out⟩
      · have d1 : decide (y < 0) = false := decide_eq_false h1
        by_cases h2 : 7 < y
        · go_wp2
          go_ret
          exact ⟨congrArg (fun b => Ending.returned (.bool b)) (HG.out false (by simp; omega)), K1.out⟩
        · have d2 : decide (7 < y) = false := decide_eq_false h2
          go_wp2
          go_roundw
          case rel => exact ⟨trivial, 1+1, by omega, by go_num, by obtain ⟨q1, q2, q3⟩ := HR.out; exact ⟨fun _ => by first | omega | exact q1 (by omega), fun _ => by first | omega | exact q2 (by omega), fun _ => by first | omega | exact q3 (by omega)⟩⟩
          case measure => simp [intOf]
    · by_cases h1 : z < 0
      · go_wp2
        go_ret
        exact ⟨congrArg (fun b => Ending.returned (.bool b)) (HG.out false (by simp; omega)), K1.out⟩
      · have d1 : decide (z < 0) = false := decide_eq_false h1
        by_cases h2 : 1099511627776 < z
        · go_wp2
          go_ret
          exact ⟨congrArg (fun b => Ending.returned (.bool b)) (HG.out false (by simp; omega)), K1.out⟩
        · have d2 : decide (1099511627776 < z) = false := decide_eq_false h2
          go_wp2
          go_roundw
          case rel => exact ⟨trivial, 2+1, by omega, by go_num, by obtain ⟨q1, q2, q3⟩ := HR.out; exact ⟨fun _ => by first | omega | exact q1 (by omega), fun _ => by first | omega | exact q2 (by omega), fun _ => by first | omega | exact q3 (by omega)⟩⟩
          case measure => simp [intOf]
    · go_wp2
      go_ret
      exact ⟨congrArg (fun b => Ending.returned (.bool b)) (HG.out true (by obtain ⟨h1, h2, h3⟩ := HR.out; have := h1 (by omega); have := h2 (by omega); have := h3 (by omega); simp; omega)), K1.out⟩

/-! ### The sum -/
set_option maxHeartbeats 2000000 in
theorem checksumK {P : Nat → Prop} {w : World} (x : Option Addr) (n cap : Nat) (bs : List Nat) (hn : n = bs.length) (hl : n ≤ 1000000) (h : Bytes P w x bs) :
    Calls Try.prog 23 #[.slice x n cap] w (Copy (sum4 bs) w) := by
  have HC := Lib.hid (sumC x n cap bs hn hl h)
  have hs := Crc.sum_lt bs
  have HS4 : Hid (sum4 bs = [Crc.sum bs / 16777216, Crc.sum bs / 65536 % 256, Crc.sum bs / 256 % 256, Crc.sum bs % 256]) := Lib.hid rfl
  obtain ⟨s, hse⟩ : ∃ s, s = Crc.sum bs := ⟨_, rfl⟩
  rw [← hse] at HC hs HS4
  have s0 : (0 : Int) ≤ (s : Int) := by omega
  have s1 : (s : Int) ≤ 4294967295 := by omega
  clear h hn hse
  go_enter Try.func23, Try.ntmps23
  go_wp2_with fail
  refine HC.out.mono ?_
  rintro e w1 ⟨rfl, hk1⟩
  go_wp2
  go_ret
  refine ⟨w1.heap.size, 4, rfl, hk1.size, rfl, ?_, hk1.alloc _⟩
  have e4 : (cellsOf (sum4 bs)).toArray = #[.int .u8 ((s : Int) / 16777216), .int .u8 ((s : Int) / 65536 % 256), .int .u8 ((s : Int) / 256 % 256), .int .u8 ((s : Int) % 256)] := by
    rw [HS4.out]
    simp [cellsOf]
  rw [e4]
  exact At.new w1 5 _

end Go.Proofs.Ytcplemamcgonkaa.Ln
