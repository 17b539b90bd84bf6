/-
  Several texts in one: H1 H2 H3.
-/
import Derived.Test.YtimoebicacnihaaGreatDoorKg9

section
/-
  What the program's numbers, Good and checksum return, and the document's MayMark and sum.
-/
namespace Go.Proofs.YtimoebicacnihaaGreatDoor.Ln
open Go.RowKit
set_option linter.unusedVariables false
set_option linter.unusedSimpArgs false
theorem infoA : (Tryz.prog.info? 90).map (·.size) = some 3 := by kernel_rfl
theorem info3 : (Tryz.prog.info? 3).map (fun i => (i.zero, i.size, i.bytes)) = some (some (.int .i64 0), 1, 8) := by kernel_rfl
theorem ret_arr {fn : Func} {p : Tmp} (h : fn.results = #[.cell p 90]) (tmps : Array Value) (w : World) (g : Nat) {cs : Array Value} (hp : tmps.getD p undef = .pointer (some ⟨g, 0, none⟩)) (hg : At w g 90 cs ∧ cs.size = 3) :
    (results fn tmps).run Tryz.prog w = .ok (.agg cs) w := results_cell_row h tmps w g 90 cs (0, 0) _ hp hg.1 Tryz.underlying90 rfl (by rw [hg.2]; exact infoA)
theorem run_index3 (x y z : Int) : (∀ w, (Instr.index 90 (.agg #[.int .i64 x, .int .i64 y, .int .i64 z]) (.int .i64 0)).run Tryz.prog w = .ok (.int .i64 x) w) ∧ (∀ w, (Instr.index 90 (.agg #[.int .i64 x, .int .i64 y, .int .i64 z]) (.int .i64 1)).run Tryz.prog w = .ok (.int .i64 y) w) ∧ (∀ w, (Instr.index 90 (.agg #[.int .i64 x, .int .i64 y, .int .i64 z]) (.int .i64 2)).run Tryz.prog w = .ok (.int .i64 z) w) := by
  obtain ⟨i0, hi, hz0, hz1, hz2⟩ := info_parts info3
  refine ⟨fun w => ?_, fun w => ?_, fun w => ?_⟩ <;> simp [Instr.index, run_underlying Tryz.underlying90, asIntOf, go_sem, sizeOf, typeInfo, hi, hz1]
set_option maxHeartbeats 2000000 in
theorem numbersC (k : Mk) (w : World) : Calls Tryz.prog 59 #[.agg (mkC k)] w (Quiet (.agg (mkC k)) w) := by
  obtain ⟨x, y, z⟩ := k
  unfold mkC
  simp only
  have hA : Hid (At ((w.alloc (Obj.cells #[Value.int IntKind.i64 x, Value.int IntKind.i64 y, Value.int IntKind.i64 z] 57)).alloc (Obj.cells #[Value.int IntKind.i64 x, Value.int IntKind.i64 y, Value.int IntKind.i64 z] 90)) (w.heap.size + 1) 90 #[Value.int IntKind.i64 x, Value.int IntKind.i64 y, Value.int IntKind.i64 z]) := Lib.hid (by
    have := At.new (w.alloc (Obj.cells #[Value.int IntKind.i64 x, Value.int IntKind.i64 y, Value.int IntKind.i64 z] 57)) 90 #[Value.int IntKind.i64 x, Value.int IntKind.i64 y, Value.int IntKind.i64 z]
    rwa [show (w.alloc (Obj.cells #[Value.int IntKind.i64 x, Value.int IntKind.i64 y, Value.int IntKind.i64 z] 57)).heap.size = w.heap.size + 1 by simp] at this)
  go_enter Tryz.func59, Tryz.ntmps59
  go_wp2
  refine bodyPost_ret (ret_arr (fn := Tryz.f59) (p := 2) rfl _ _ (w.heap.size + 1) rfl ⟨hA.out, rfl⟩) rfl ?_
  exact ⟨rfl, (keep_new w _).alloc _⟩
set_option maxHeartbeats 4000000 in
theorem goodKC (k : Mk) (w : World) : Calls Tryz.prog 45 #[.agg (mkC k)] w (Quiet (.bool (goodK k)) w) := by
  obtain ⟨x, y, z⟩ := k
  have HG : Hid (∀ q : Bool, (q = true ↔ 1 ≤ x ∧ x ≤ 5 ∧ 0 ≤ y ∧ y ≤ 7 ∧ 0 ≤ z ∧ z ≤ 1099511627776) → q = goodK ⟨x, y, z⟩) := Lib.hid (fun q hq => Bool.eq_iff_iff.2 (hq.trans (goodK_iff (k := ⟨x, y, z⟩)).symm))
  obtain ⟨W, hW⟩ : ∃ W, W = (((w.alloc (Obj.cells #[Value.int .i64 x, Value.int .i64 y, Value.int .i64 z] 57)).alloc (Obj.cells #[Value.int .i64 1, Value.int .i64 0, Value.int .i64 0] 90)).alloc (Obj.cells #[Value.int .i64 5, Value.int .i64 7, Value.int .i64 1099511627776] 90)) := ⟨_, rfl⟩
  have hA : At W (w.heap.size + 1) 90 #[Value.int .i64 1, Value.int .i64 0, Value.int .i64 0] := by
    rw [hW]
    refine At.alloc ?_ _
    have := At.new (w.alloc (Obj.cells #[Value.int .i64 x, Value.int .i64 y, Value.int .i64 z] 57)) 90 #[Value.int .i64 1, Value.int .i64 0, Value.int .i64 0]
    rwa [show (w.alloc (Obj.cells #[Value.int .i64 x, Value.int .i64 y, Value.int .i64 z] 57)).heap.size = w.heap.size + 1 by simp] at this
  have hB : At W (w.heap.size + 2) 90 #[Value.int .i64 5, Value.int .i64 7, Value.int .i64 1099511627776] := by
    rw [hW]
    have := At.new ((w.alloc (Obj.cells #[Value.int .i64 x, Value.int .i64 y, Value.int .i64 z] 57)).alloc (Obj.cells #[Value.int .i64 1, Value.int .i64 0, Value.int .i64 0] 90)) 90 #[Value.int .i64 5, Value.int .i64 7, Value.int .i64 1099511627776]
    rwa [show ((w.alloc (Obj.cells #[Value.int .i64 x, Value.int .i64 y, Value.int .i64 z] 57)).alloc (Obj.cells #[Value.int .i64 1, Value.int .i64 0, Value.int .i64 0] 90)).heap.size = w.heap.size + 2 by simp] at this
  have KW := Lib.hid (show Keep (fun _ => False) w W by rw [hW]; exact ((keep_new w _).alloc _).alloc _)
  have HW := Lib.hid hW
  have HA := Lib.hid hA
  have HB := Lib.hid hB
  clear hA hB hW
  unfold mkC
  simp only
  obtain ⟨x0, x1, x2⟩ := run_index3 x y z
  go_enter Tryz.func45, Tryz.ntmps45
  go_wp2_with fail
  rw [← HW.out]
  refine (numbersC ⟨x, y, z⟩ W).mono ?_
  rintro e w1 ⟨rfl, k1⟩
  unfold mkC
  simp only
  obtain ⟨a0, a1, a2⟩ : w1.cell? ⟨w.heap.size + 1, 0, none⟩ = some (.int .i64 1) ∧ w1.cell? ⟨w.heap.size + 1, 1, none⟩ = some (.int .i64 0) ∧ w1.cell? ⟨w.heap.size + 1, 2, none⟩ = some (.int .i64 0) := by
    have h := HA.out.keep k1 (fun h => h)
    exact ⟨h.cell 0, h.cell 1, h.cell 2⟩
  obtain ⟨b0, b1, b2⟩ : w1.cell? ⟨w.heap.size + 2, 0, none⟩ = some (.int .i64 5) ∧ w1.cell? ⟨w.heap.size + 2, 1, none⟩ = some (.int .i64 7) ∧ w1.cell? ⟨w.heap.size + 2, 2, none⟩ = some (.int .i64 1099511627776) := by
    have h := HB.out.keep k1 (fun h => h)
    exact ⟨h.cell 0, h.cell 1, h.cell 2⟩
  have K1 := Lib.hid (KW.out.trans k1 (fun _ _ h => h))
  clear k1
  go_wp2
  go_loopw [11] (fun i wr => wr = w1 ∧ ∃ j : Nat, j ≤ 3 ∧ i = .int .i64 (j : Int) ∧ Hid ((1 ≤ j → 1 ≤ x ∧ x ≤ 5) ∧ (2 ≤ j → 0 ≤ y ∧ y ≤ 7) ∧ (3 ≤ j → 0 ≤ z ∧ z ≤ 1099511627776))) (fun i _ => 3 - (intOf i).toNat)
  case atStart => exact ⟨rfl, 0, by omega, rfl, ⟨by omega, by omega, by omega⟩⟩
  case round =>
    obtain ⟨hwr, j, hj, rfl, HR⟩ := hrel
    subst hwr
    obtain rfl | rfl | rfl | rfl : j = 0 ∨ j = 1 ∨ j = 2 ∨ j = 3 := by omega
    · by_cases h1 : x < 1
      · go_wp2
        go_ret
        exact ⟨congrArg (fun b => Ending.returned (.bool b)) (HG.out false (by simp; omega)), K1.out⟩
      · have d1 : decide (x < 1) = false := decide_eq_false h1
        by_cases h2 : 5 < x
        · go_wp2
          go_ret
          exact ⟨congrArg (fun b => Ending.returned (.bool b)) (HG.out false (by simp; omega)), K1.out⟩
        · have d2 : decide (5 < x) = false := decide_eq_false h2
          go_wp2
          go_roundw
          case rel => exact ⟨trivial, 0+1, by omega, by go_num, by obtain ⟨q1, q2, q3⟩ := HR.out; exact ⟨fun _ => by first | omega | exact q1 (by omega), fun _ => by first | omega | exact q2 (by omega), fun _ => by first | omega | exact q3 (by omega)⟩⟩
          case measure => simp [intOf]
    · by_cases h1 : y < 0
      · go_wp2
        go_ret
        exact ⟨congrArg (fun b => Ending.returned (.bool b)) (HG.out false (by simp; omega)), K1.out⟩
      · have d1 : decide (y < 0) = false := decide_eq_false h1
        by_cases h2 : 7 < y
        · go_wp2
          go_ret
          exact ⟨congrArg (fun b => Ending.returned (.bool b)) (HG.out false (by simp; omega)), K1.out⟩
        · have d2 : decide (7 < y) = false := decide_eq_false h2
          go_wp2
          go_roundw
          case rel => exact ⟨trivial, 1+1, by omega, by go_num, by obtain ⟨q1, q2, q3⟩ := HR.out; exact ⟨fun _ => by first | omega | exact q1 (by omega), fun _ => by first | omega | exact q2 (by omega), fun _ => by first | omega | exact q3 (by omega)⟩⟩
          case measure => simp [intOf]
    · by_cases h1 : z < 0
      · go_wp2
        go_ret
        exact ⟨congrArg (fun b => Ending.returned (.bool b)) (HG.out false (by simp; omega)), K1.out⟩
      · have d1 : decide (z < 0) = false := decide_eq_false h1
        by_cases h2 : 1099511627776 < z
        · go_wp2
          go_ret
          exact ⟨congrArg (fun b => Ending.returned (.bool b)) (HG.out false (by simp; omega)), K1.out⟩
        · have d2 : decide (1099511627776 < z) = false := decide_eq_false h2
          go_wp2
          go_roundw
          case rel => exact ⟨trivial, 2+1, by omega, by go_num, by obtain ⟨q1, q2, q3⟩ := HR.out; exact ⟨fun _ => by first | omega | exact q1 (by omega), fun _ => by first | omega | exact q2 (by omega), fun _ => by first | omega | exact q3 (by omega)⟩⟩
          case measure => simp [intOf]
    · go_wp2
      go_ret
      exact ⟨congrArg (fun b => Ending.returned (.bool b)) (HG.out true (by obtain ⟨h1, h2, h3⟩ := HR.out; have := h1 (by omega); have := h2 (by omega); have := h3 (by omega); simp; omega)), K1.out⟩

/-! ### The sum -/
set_option maxHeartbeats 2000000 in
theorem checksumK {P : Nat → Prop} {w : World} (x : Option Addr) (n cap : Nat) (bs : List Nat) (hn : n = bs.length) (hl : n ≤ 1000000) (h : Bytes P w x bs) :
    Calls Tryz.prog 58 #[.slice x n cap] w (Copy (sum4 bs) w) := by
  have HC := Lib.hid (sumC x n cap bs hn hl h)
  have hs := Crc.sum_lt bs
  have HS4 : Hid (sum4 bs = [Crc.sum bs / 16777216, Crc.sum bs / 65536 % 256, Crc.sum bs / 256 % 256, Crc.sum bs % 256]) := Lib.hid rfl
  obtain ⟨s, hse⟩ : ∃ s, s = Crc.sum bs := ⟨_, rfl⟩
  rw [← hse] at HC hs HS4
  have s0 : (0 : Int) ≤ (s : Int) := by omega
  have s1 : (s : Int) ≤ 4294967295 := by omega
  clear h hn hse
  go_enter Tryz.func58, Tryz.ntmps58
  go_wp2_with fail
  refine HC.out.mono ?_
  rintro e w1 ⟨rfl, hk1⟩
  go_wp2
  go_ret
  refine ⟨w1.heap.size, 4, rfl, hk1.size, rfl, ?_, hk1.alloc _⟩
  have e4 : (cellsOf (sum4 bs)).toArray = #[.int .u8 ((s : Int) / 16777216), .int .u8 ((s : Int) / 65536 % 256), .int .u8 ((s : Int) / 256 % 256), .int .u8 ((s : Int) % 256)] := by
    rw [HS4.out]
    simp [cellsOf]
  rw [e4]
  exact At.new w1 5 _

end Go.Proofs.YtimoebicacnihaaGreatDoor.Ln
end

section
/-
  What the document's MayMark returns.
-/
namespace Go.Proofs.YtimoebicacnihaaGreatDoor.Ln
open Go.RowKit
set_option linter.unusedVariables false
set_option linter.unusedSimpArgs false
set_option maxHeartbeats 2000000 in
theorem mayMarkC (k : Mk) (w : World) : Calls Tryz.prog 27 #[.agg (mkC k)] w (Quiet (.bool (goodK k)) w) := by
  obtain ⟨x, y, z⟩ := k
  have HG : Hid (∀ (q : Bool), (q = true ↔ 1 ≤ x ∧ x ≤ 5 ∧ 0 ≤ y ∧ y ≤ 7 ∧ 0 ≤ z ∧ z ≤ 1099511627776) → ∀ w', Keep (fun _ => False) w w' → Quiet (.bool (goodK ⟨x, y, z⟩)) w (.returned (.bool q)) w') := Lib.hid (fun q hq w' kw => quiet_of (by rw [Bool.eq_iff_iff.2 (hq.trans (goodK_iff (k := ⟨x, y, z⟩)).symm)]) kw)
  have K0 := Lib.hid (keep_new w (.cells #[Value.int .i64 x, Value.int .i64 y, Value.int .i64 z] 57))
  unfold mkC
  simp only
  by_cases h0 : (1 : Int) ≤ x
  · skip
    by_cases h1 : x ≤ 5
    · skip
      by_cases h2 : (0 : Int) ≤ y
      · skip
        by_cases h3 : y < 8
        · skip
          by_cases h4 : (0 : Int) ≤ z
          · skip
            by_cases h5 : z ≤ 1099511627776
            · skip
              go_enter Tryz.func27, Tryz.ntmps27
              go_wp2
              go_ret
              exact HG.out _ (by simp; omega) _ K0.out
            · have d5 : decide (z ≤ 1099511627776) = false := decide_eq_false h5
              have H5 := Lib.hid h5
              clear h5
              go_enter Tryz.func27, Tryz.ntmps27
              go_wp2
              go_ret
              exact HG.out _ (by have := H5.out; simp; omega) _ K0.out
          · have d4 : decide ((0 : Int) ≤ z) = false := decide_eq_false h4
            have H4 := Lib.hid h4
            clear h4
            go_enter Tryz.func27, Tryz.ntmps27
            go_wp2
            go_ret
            exact HG.out _ (by have := H4.out; simp; omega) _ K0.out
        · have d3 : decide (y < 8) = false := decide_eq_false h3
          have H3 := Lib.hid h3
          clear h3
          go_enter Tryz.func27, Tryz.ntmps27
          go_wp2
          go_ret
          exact HG.out _ (by have := H3.out; simp; omega) _ K0.out
      · have d2 : decide ((0 : Int) ≤ y) = false := decide_eq_false h2
        have H2 := Lib.hid h2
        clear h2
        go_enter Tryz.func27, Tryz.ntmps27
        go_wp2
        go_ret
        exact HG.out _ (by have := H2.out; simp; omega) _ K0.out
    · have d1 : decide (x ≤ 5) = false := decide_eq_false h1
      have H1 := Lib.hid h1
      clear h1
      go_enter Tryz.func27, Tryz.ntmps27
      go_wp2
      go_ret
      exact HG.out _ (by have := H1.out; simp; omega) _ K0.out
  · have d0 : decide ((1 : Int) ≤ x) = false := decide_eq_false h0
    have H0 := Lib.hid h0
    clear h0
    go_enter Tryz.func27, Tryz.ntmps27
    go_wp2
    go_ret
    exact HG.out _ (by have := H0.out; simp; omega) _ K0.out
end Go.Proofs.YtimoebicacnihaaGreatDoor.Ln
end

section
/-
  What the program's Encode and the document's Mark return.
-/
namespace Go.Proofs.YtimoebicacnihaaGreatDoor.Ln
open Go.RowKit
set_option linter.unusedVariables false
set_option linter.unusedSimpArgs false

/-! ### The document's Mark -/
def Marked (k : Mk) (w : World) (e : Ending) (w' : World) : Prop := ∃ y n cap, n = 28 ∧ e = .returned (.slice y n cap) ∧ Gr w w' (.slice y n cap) (markB k)
def K3 (w : World) (g : Nat) (x y z : Int) : Prop := w.cell? ⟨g, 0, none⟩ = some (.int .i64 x) ∧ w.cell? ⟨g, 1, none⟩ = some (.int .i64 y) ∧ w.cell? ⟨g, 2, none⟩ = some (.int .i64 z)
theorem k3_of {w : World} {g : Nat} {k : Mk} (h : At w g 57 (mkC k)) : K3 w g k.kind k.rcpt k.n := ⟨h.cell 0, h.cell 1, h.cell 2⟩
set_option maxHeartbeats 8000000 in
set_option maxRecDepth 100000 in
theorem refMarkC {w : World} {k : Mk} (hg : goodK k = true) : Calls Tryz.prog 25 #[.agg (mkC k)] w (Marked k w) := by
  obtain ⟨hx1, hx2, hy1, hy2, hz1, hz2⟩ := goodK_iff.1 hg
  have HT : Hid (three k = num8 k.kind.toNat ++ num8 k.rcpt.toNat ++ num8 k.n.toNat) := Lib.hid (by simp [three])
  have HT2 : Hid (markB k = three k ++ sum4 (three k)) := Lib.hid rfl
  have HTL : Hid ((three k).length = 24) := Lib.hid (three_length k)
  have HTB := Lib.hid (three_lt k)
  have HMB : Hid (∀ bs, bs = markB k → bs.length = 28) := Lib.hid (fun bs h => by rw [h, markB_length])
  have K0 := Lib.hid (keep_new w (.cells (mkC k) 57))
  have HA : Hid (At (w.alloc (.cells (mkC k) 57)) w.heap.size 57 (mkC k)) := Lib.hid (At.new w _ _)
  have HC : Hid (∀ W, Keep (fun _ => False) (w.alloc (.cells (mkC k) 57)) W → K3 W w.heap.size k.kind k.rcpt k.n) := Lib.hid (fun W kk => k3_of (HA.out.keep kk (fun h => h)))
  have HE : Hid (∀ e w', Marked k w e w' = ∃ y n cap, n = 28 ∧ e = .returned (.slice y n cap) ∧ Gr w w' (.slice y n cap) (markB k)) := Lib.hid (fun _ _ => rfl)
  clear HA hg
  obtain ⟨W0, hW0⟩ : ∃ W0, W0 = w.alloc (.cells (mkC k) 57) := ⟨_, rfl⟩
  rw [← hW0] at K0 HC
  unfold mkC at *
  obtain ⟨x, hx⟩ : ∃ x, x = k.kind := ⟨_, rfl⟩
  obtain ⟨y, hy⟩ : ∃ y, y = k.rcpt := ⟨_, rfl⟩
  obtain ⟨z, hz⟩ : ∃ z, z = k.n := ⟨_, rfl⟩
  rw [← hx, ← hy, ← hz] at hW0 HC HT
  rw [← hx] at hx1 hx2
  rw [← hy] at hy1 hy2
  rw [← hz] at hz1 hz2
  rw [← hx, ← hy, ← hz]
  obtain ⟨T, hT⟩ : ∃ T, T = three k := ⟨_, rfl⟩
  obtain ⟨M, hM⟩ : ∃ M, M = Marked k w := ⟨_, rfl⟩
  obtain ⟨B, hB⟩ : ∃ B, B = markB k := ⟨_, rfl⟩
  rw [← hM, ← hB] at HE
  rw [← hT] at HT HT2 HTL HTB
  rw [← hB] at HT2 HMB
  rw [← hM]
  have HW0 := Lib.hid hW0
  clear hW0 hx hy hz hT hM hB
  clear k
  have kD : Keep (fun _ => False) W0 W0.drew := (Keep.refl _ W0).drew
  have hc0 := HC.out _ kD
  go_enter Tryz.func25, Tryz.ntmps25
  go_wp2
  rw [← HW0.out]
  refine wp_region_noPanic ?_
  refine wp_region_held_drew (S := fun w' => w'.cell? ⟨w.heap.size, 0, none⟩ = some (.int .i64 x) ∧ w'.cell? ⟨w.heap.size, 1, none⟩ = some (.int .i64 y) ∧ w'.cell? ⟨w.heap.size, 2, none⟩ = some (.int .i64 z)) (by kernel_rfl) ⟨hc0.1, hc0.2.1, hc0.2.2⟩ (fun hHeld => ?_)
  refine wpAnyH_take (i := 0) (v := ?_) rfl (by kernel_rfl) (by kernel_rfl) (by kernel_rfl) (fun _ _ _ h => h) (Or.inl ⟨by rfl, ?_⟩) (by assumption) ?_
  rotate_left
  · (intro wS hSw; (try dsimp only at hSw); obtain ⟨hS1, hS2, hS3⟩ := hSw; (try simp only [List.getElem_toArray, List.getElem_cons_succ, List.getElem_cons_zero]); go_simp; try (with_reducible rfl))
  try simp only [Act.put, List.getElem_toArray, List.getElem_cons_succ, List.getElem_cons_zero, List.setIfInBounds_toArray, List.set_cons_zero, List.set_cons_succ]
  refine wpAnyH_take (i := 1) (v := ?_) rfl (by kernel_rfl) (by kernel_rfl) (by kernel_rfl) (fun _ _ _ h => h) (Or.inl ⟨by rfl, ?_⟩) (by assumption) ?_
  rotate_left
  · (intro wS hSw; (try dsimp only at hSw); obtain ⟨hS1, hS2, hS3⟩ := hSw; (try simp only [List.getElem_toArray, List.getElem_cons_succ, List.getElem_cons_zero]); go_simp; try (with_reducible rfl))
  try simp only [Act.put, List.getElem_toArray, List.getElem_cons_succ, List.getElem_cons_zero, List.setIfInBounds_toArray, List.set_cons_zero, List.set_cons_succ]
  refine wpAnyH_take (i := 3) (v := ?_) rfl (by kernel_rfl) (by kernel_rfl) (by kernel_rfl) (fun _ _ _ h => h) (Or.inl ⟨by rfl, ?_⟩) (by assumption) ?_
  rotate_left
  · (intro wS hSw; (try dsimp only at hSw); obtain ⟨hS1, hS2, hS3⟩ := hSw; (try simp only [List.getElem_toArray, List.getElem_cons_succ, List.getElem_cons_zero]); go_simp; try (with_reducible rfl))
  try simp only [Act.put, List.getElem_toArray, List.getElem_cons_succ, List.getElem_cons_zero, List.setIfInBounds_toArray, List.set_cons_zero, List.set_cons_succ]
  refine wpAnyH_take (i := 4) (v := ?_) rfl (by kernel_rfl) (by kernel_rfl) (by kernel_rfl) (fun _ _ _ h => h) (Or.inl ⟨by rfl, ?_⟩) (by assumption) ?_
  rotate_left
  · (intro wS hSw; (try dsimp only at hSw); obtain ⟨hS1, hS2, hS3⟩ := hSw; (try simp only [List.getElem_toArray, List.getElem_cons_succ, List.getElem_cons_zero]); go_simp; try (with_reducible rfl))
  try simp only [Act.put, List.getElem_toArray, List.getElem_cons_succ, List.getElem_cons_zero, List.setIfInBounds_toArray, List.set_cons_zero, List.set_cons_succ]
  refine wpAnyH_take (i := 7) (v := ?_) rfl (by kernel_rfl) (by kernel_rfl) (by kernel_rfl) (fun _ _ _ h => h) (Or.inl ⟨by rfl, ?_⟩) (by assumption) ?_
  rotate_left
  · (intro wS hSw; (try dsimp only at hSw); obtain ⟨hS1, hS2, hS3⟩ := hSw; (try simp only [List.getElem_toArray, List.getElem_cons_succ, List.getElem_cons_zero]); go_simp; try (with_reducible rfl))
  try simp only [Act.put, List.getElem_toArray, List.getElem_cons_succ, List.getElem_cons_zero, List.setIfInBounds_toArray, List.set_cons_zero, List.set_cons_succ]
  refine wpAnyH_take (i := 8) (v := ?_) rfl (by kernel_rfl) (by kernel_rfl) (by kernel_rfl) (fun _ _ _ h => h) (Or.inl ⟨by rfl, ?_⟩) (by assumption) ?_
  rotate_left
  · (intro wS hSw; (try dsimp only at hSw); obtain ⟨hS1, hS2, hS3⟩ := hSw; (try simp only [List.getElem_toArray, List.getElem_cons_succ, List.getElem_cons_zero]); go_simp; try (with_reducible rfl))
  try simp only [Act.put, List.getElem_toArray, List.getElem_cons_succ, List.getElem_cons_zero, List.setIfInBounds_toArray, List.set_cons_zero, List.set_cons_succ]
  refine wpAnyH_ready (rs := [2]) (by kernel_rfl) (by simp) ?_
  refine AllReadyH.cons rfl (fun K hK => ?_) AllReadyH.nil
  go_simp
  refine (refNumI x (by omega) (by omega) _).mono ?_
  rintro e w1 ⟨g1, n1, hn1, hg1, rfl, hat1, hk1⟩
  obtain rfl : n1 = 8 := hn1
  have k1 := kD.trans hk1 (fun _ _ h => h)
  have G1 := Lib.hid (Gr.of_copy kD (num8_length _).symm hg1 hat1 hk1 (num8_lt _) (by omega))
  have hc1 := HC.out _ k1
  clear hg1 hat1 hk1
  go_wp2_with fail
  refine hK.out _ _ ⟨hc1.1, hc1.2.1, hc1.2.2⟩ (fun hHeld => ?_)
  clear hK K
  try simp only [Act.put, List.getElem_toArray, List.getElem_cons_succ, List.getElem_cons_zero, List.setIfInBounds_toArray, List.set_cons_zero, List.set_cons_succ]
  refine wpAnyH_ready (rs := [5]) (by kernel_rfl) (by simp) ?_
  refine AllReadyH.cons rfl (fun K hK => ?_) AllReadyH.nil
  go_simp
  refine (refNumI y (by omega) (by omega) _).mono ?_
  rintro e w2 ⟨g2, n2, hn2, hg2, rfl, hat2, hk2⟩
  obtain rfl : n2 = 8 := hn2
  have k2 := k1.trans hk2 (fun _ _ h => h)
  have G2 := Lib.hid (G1.out.quiet hk2)
  have HB2 := Lib.hid (Bytes.of_at hat2 (num8_lt y.toNat))
  have hc2 := HC.out _ k2
  clear hat2 hk2 hg2
  go_wp2_with fail
  refine hK.out _ _ ⟨hc2.1, hc2.2.1, hc2.2.2⟩ (fun hHeld => ?_)
  clear hK K
  try simp only [Act.put, List.getElem_toArray, List.getElem_cons_succ, List.getElem_cons_zero, List.setIfInBounds_toArray, List.set_cons_zero, List.set_cons_succ]
  refine wpAnyH_ready (rs := [6]) (by kernel_rfl) (by simp) ?_
  refine AllReadyH.cons rfl (fun K hK => ?_) AllReadyH.nil
  obtain ⟨y3, n3, c3, w3, hr3, hn3, hG3, hk3⟩ := G2.out.app 23 _ (some ⟨g2, 0, none⟩) 8 8 (num8 y.toNat) (num8_length _) HB2.out (by rw [num8_length]; omega)
  refine wp_append_runB (by rfl) (by rfl) (by rfl) hr3 ?_
  have hc3 := HC.out _ hG3.kp
  have G3 := Lib.hid hG3
  clear hG3 hn3 hk3 hr3
  refine hK.out _ _ ⟨hc3.1, hc3.2.1, hc3.2.2⟩ (fun hHeld => ?_)
  clear hK K
  try simp only [Act.put, List.getElem_toArray, List.getElem_cons_succ, List.getElem_cons_zero, List.setIfInBounds_toArray, List.set_cons_zero, List.set_cons_succ]
  refine wpAnyH_ready (rs := [9]) (by kernel_rfl) (by simp) ?_
  refine AllReadyH.cons rfl (fun K hK => ?_) AllReadyH.nil
  go_simp
  refine (refNumI z (by omega) (by omega) _).mono ?_
  rintro e w4 ⟨g4, n4, hn4, hg4, rfl, hat4, hk4⟩
  obtain rfl : n4 = 8 := hn4
  have G4 := Lib.hid (G3.out.quiet hk4)
  have HB4 := Lib.hid (Bytes.of_at hat4 (num8_lt z.toNat))
  have hc4 := HC.out _ G4.out.kp
  clear hat4 hk4 hg4
  go_wp2_with fail
  refine hK.out _ _ ⟨hc4.1, hc4.2.1, hc4.2.2⟩ (fun hHeld => ?_)
  clear hK K
  try simp only [Act.put, List.getElem_toArray, List.getElem_cons_succ, List.getElem_cons_zero, List.setIfInBounds_toArray, List.set_cons_zero, List.set_cons_succ]
  refine wpAnyH_ready (rs := [10]) (by kernel_rfl) (by simp) ?_
  refine AllReadyH.cons rfl (fun K hK => ?_) AllReadyH.nil
  obtain ⟨y5, n5, c5, w5, hr5, hn5, hG5, hk5⟩ := G4.out.app 23 _ (some ⟨g4, 0, none⟩) 8 8 (num8 z.toNat) (num8_length _) HB4.out (by simp [num8_length])
  refine wp_append_runB (by rfl) (by rfl) (by rfl) hr5 ?_
  have hc5 := HC.out _ hG5.kp
  rw [← HT.out] at hG5 hn5
  have G5 := Lib.hid hG5
  have HN5 : Hid (n5 = 24) := Lib.hid (by rw [hn5, HTL.out])
  have HB5 := Lib.hid hG5.own.bytesO
  clear hG5 hn5 hk5 hr5
  refine hK.out _ _ ⟨hc5.1, hc5.2.1, hc5.2.2⟩ (fun hHeld => ?_)
  clear hK K
  try simp only [Act.put, List.getElem_toArray, List.getElem_cons_succ, List.getElem_cons_zero, List.setIfInBounds_toArray, List.set_cons_zero, List.set_cons_succ]
  refine wpAnyH_take (i := 11) (v := ?_) rfl (by kernel_rfl) (by kernel_rfl) (by kernel_rfl) (fun _ _ _ h => h) (Or.inl ⟨by rfl, ?_⟩) (by assumption) ?_
  rotate_left
  · (intro wS hSw; (try dsimp only at hSw); (try simp only [List.getElem_toArray, List.getElem_cons_succ, List.getElem_cons_zero]); go_simp; try (with_reducible rfl))
  try simp only [Act.put, List.getElem_toArray, List.getElem_cons_succ, List.getElem_cons_zero, List.setIfInBounds_toArray, List.set_cons_zero, List.set_cons_succ]
  refine wpAnyH_done (by kernel_rfl) ?_ _
  refine NoPanic.normal ?_
  go_wp2_with fail
  refine (refSumC y5 n5 c5 T HB5.out.2.1 (by have := HN5.out; omega) HB5.out.1).mono ?_
  rintro e w6 ⟨g6, n6, hn6, hg6, rfl, hat6, hk6⟩
  obtain rfl : n6 = 4 := hn6
  have G6 := Lib.hid (G5.out.quiet hk6)
  have HB6 := Lib.hid (Bytes.of_at hat6 (sum4_lt T))
  clear hat6 hk6 hg6
  go_wp2_with
    (at_builtin
     refine wpList_app (by rfl) (.tmp 15) (.tmp 17) (by rfl) (.slice y5 n5 c5) T (by rfl) G6.out _ (some ⟨g6, 0, none⟩) 4 4 (sum4 T) (by rfl) rfl HB6.out (by have := HTL.out; omega) ?_
     intro y7 n7 c7 w7 hn7 hG7
     rw [← HT2.out] at hG7 hn7
     have G7 := Lib.hid hG7
     have HN7 := Lib.hid hn7.out
     clear hG7 hn7)
  show M (.returned (.slice y7 n7 c7)) w7
  rw [HE.out]
  exact ⟨y7, n7, c7, by rw [HN7.out]; exact HMB.out _ rfl, rfl, G7.out.up K0.out⟩

/-! ### Encode -/
end Go.Proofs.YtimoebicacnihaaGreatDoor.Ln
end
