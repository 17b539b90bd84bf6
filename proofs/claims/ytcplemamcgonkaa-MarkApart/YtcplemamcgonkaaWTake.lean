/-
  What the program's 'fail', 'take', 'copied', 'Read' and 'Done' return, for every reader and all bytes.
-/
import Derived.Test.YtcplemamcgonkaaWOwn
import Derived.Laws.CopyOwn
import Derived.Deep.WholeRow
namespace Go.Proofs.Ytcplemamcgonkaa.Ln
open Go.RowKit

/-! ### Cuts -/
theorem cut_pre3 (x : Option Addr) (L C n : Nat) (hn : n ≤ C) :
    (∀ w, (Instr.slice 24 (.slice x L C) none (some (.int .i64 (n : Int))) (some (.int .i64 (n : Int)))).run Try.prog w = .ok (.slice x n n) w) ∧
    (∀ w, (Instr.sliceAt 24 (.slice x L C) none (some (.int .i64 (n : Int))) (some (.int .i64 (n : Int)))).run Try.prog w = .ok (.slice x n n) w) := by
  obtain ⟨i0, hi, hz0, hz1, hz2⟩ := info_parts info5
  have h1 : (n : Int) ≤ (C : Int) := by omega
  have r : ∀ w, (Instr.slice 24 (.slice x L C) none (some (.int .i64 (n : Int))) (some (.int .i64 (n : Int)))).run Try.prog w = .ok (.slice x n n) w := by
    intro w
    have hb : ∀ code, (Instr.sliceBound (.int .i64 (n : Int)) C code).run Try.prog w = .ok n w := by
      intro code; simp [Instr.sliceBound, asIntOf, h1]
    have hc : ∀ code, (Instr.sliceBound (.int .i64 (n : Int)) n code).run Try.prog w = .ok n w := by
      intro code; simp [Instr.sliceBound, asIntOf]
    have e : (if n = 0 then x else x.map (fun a => a.add 0)) = x := by
      rcases x with _ | a <;> simp [Addr.add]
    simp [Instr.slice, run_underlying Try.underlying24, Instr.sliceBounds, hb, hc, sizeOf, typeInfo, hi]
    simpa using e
  refine ⟨r, fun w => ?_⟩
  rw [← r w]
  simp [Instr.sliceAt, run_underlying Try.underlying24]
theorem wcut_pre (x : Option Addr) (L C n : Nat) (hn : n ≤ C) :
    (∀ w, (Instr.slice 24 (.slice x L C) none (some (.int .i64 (n : Int))) none).run Try.prog w = .ok (.slice x n C) w) ∧
    (∀ w, (Instr.sliceAt 24 (.slice x L C) none (some (.int .i64 (n : Int))) none).run Try.prog w = .ok (.slice x n C) w) := by
  obtain ⟨i0, hi, hz0, hz1, hz2⟩ := info_parts info5
  have h1 : (n : Int) ≤ (C : Int) := by omega
  have r : ∀ w, (Instr.slice 24 (.slice x L C) none (some (.int .i64 (n : Int))) none).run Try.prog w = .ok (.slice x n C) w := by
    intro w
    have hb : ∀ code, (Instr.sliceBound (.int .i64 (n : Int)) C code).run Try.prog w = .ok n w := by
      intro code; simp [Instr.sliceBound, asIntOf, h1]
    have e : (if C = 0 then x else x.map (fun a => a.add 0)) = x := by
      rcases x with _ | a <;> simp [Addr.add]
    simp [Instr.slice, run_underlying Try.underlying24, Instr.sliceBounds, hb, sizeOf, typeInfo, hi]
    simpa using e
  refine ⟨r, fun w => ?_⟩
  rw [← r w]
  simp [Instr.sliceAt, run_underlying Try.underlying24]
theorem wcut_drop (x : Option Addr) (L C n : Nat) (hn : n ≤ L) (hL : L ≤ C) :
    ∃ y, (∀ w, (Instr.slice 24 (.slice x L C) (some (.int .i64 (n : Int))) none none).run Try.prog w = .ok (.slice y (L - n) (C - n)) w) ∧
    (∀ w, (Instr.sliceAt 24 (.slice x L C) (some (.int .i64 (n : Int))) none none).run Try.prog w = .ok (.slice y (L - n) (C - n)) w) ∧
    ∀ (P : Nat → Prop) (w : World) (bs : List Nat), bs.length = L → Bytes P w x bs → Bytes P w y (bs.drop n) := by
  obtain ⟨i0, hi, hz0, hz1, hz2⟩ := info_parts info5
  have h1 : (n : Int) ≤ (L : Int) := by omega
  have r : ∀ w, (Instr.slice 24 (.slice x L C) (some (.int .i64 (n : Int))) none none).run Try.prog w = .ok (.slice (if C = n then x else x.map (fun a => a.add n)) (L - n) (C - n)) w := by
    intro w
    have hb : ∀ code, (Instr.sliceBound (.int .i64 (n : Int)) L code).run Try.prog w = .ok n w := by
      intro code; simp [Instr.sliceBound, asIntOf, h1]
    simp [Instr.slice, run_underlying Try.underlying24, Instr.sliceBounds, hb, sizeOf, typeInfo, hi, hz1]
  refine ⟨_, r, fun w => ?_, ?_⟩
  · rw [← r w]
    simp [Instr.sliceAt, run_underlying Try.underlying24]
  · intro P w bs hl h
    refine ⟨fun c hc => h.1 c (List.mem_of_mem_drop hc), ?_⟩
    by_cases h0 : n = bs.length
    · left; rw [h0]; simp
    · right
      rcases h.2 with h2 | ⟨b, off, hp, rfl, hc⟩
      · subst h2; simp at hl h0; omega
      · rw [if_neg (by omega)]
        refine ⟨b, off + n, hp, by simp [Addr.add_mid], fun i hi => ?_⟩
        have hi' : n + i < bs.length := by simp at hi; omega
        rw [Nat.add_assoc, hc (n + i) hi']
        simp

/-! ### Readers -/
/-- The reader in block p stands at s; what it reads lies in a block of P. -/
def Rd (P : Nat → Prop) (w : World) (p : Nat) : Option (List Nat) → Prop
  | none => At w p 72 #[.slice none 0 0, .bool true]
  | some bs => ∃ x, At w p 72 #[.slice x bs.length bs.length, .bool false] ∧ Bytes P w x bs
theorem Rd.at {P : Nat → Prop} {w : World} {p : Nat} {s : Option (List Nat)} (h : Rd P w p s) : ∃ cs, At w p 72 cs := by
  rcases s with _ | bs
  · exact ⟨_, h⟩
  · obtain ⟨x, h, _⟩ := h
    exact ⟨_, h⟩
theorem Rd.keep {P S : Nat → Prop} {w w' : World} {p : Nat} {s : Option (List Nat)} (h : Rd P w p s) (k : Keep S w w') (hp : ¬ S p) (hs : ∀ b, b < w.heap.size → P b → ¬ S b) : Rd P w' p s := by
  rcases s with _ | bs
  · exact At.keep h k hp
  · obtain ⟨x, h1, h2⟩ := h
    exact ⟨x, h1.keep k hp, h2.keep k hs⟩

set_option maxHeartbeats 400000 in
theorem fail (p : Nat) (v u : Value) (w : World) (h : At w p 72 #[v, u]) :
    Calls Try.prog 39 #[.pointer (some ⟨p, 0, none⟩)] w fun e w' => e = .returned (.tuple #[]) ∧ At w' p 72 #[.slice none 0 0, .bool true] ∧ Keep (· = p) w w' := by
  have c0 := h.cell 0
  have c1 := h.cell 1
  have f0 := h.frozen 0
  have f1 := h.frozen 1
  have H := Lib.hid h
  simp at c0 c1
  clear h
  go_enter Try.func39, Try.ntmps39
  go_wp2
  go_end0
  refine ⟨rfl, ?_, ?_⟩
  · have := (H.out.put 0 (.slice none 0 0)).put 1 (.bool true)
    exact this
  · exact ((Keep.refl (· = p) w).setCell (p := ⟨p, 0, none⟩) (fun _ => rfl) _).setCell (p := ⟨p, 1, none⟩) (fun _ => rfl) _

/-- What 'take' answers. -/
def Took (P : Nat → Prop) (p n : Nat) (s : Option (List Nat)) (w : World) (e : Ending) (w' : World) : Prop :=
  ∃ x m, m = (takeV n s).length ∧ e = .returned (.tuple #[.slice x m m, .bool (takeOk n s)]) ∧ Bytes P w' x (takeV n s) ∧ Rd P w' p (takeS n s) ∧ Keep (· = p) w w'

set_option maxHeartbeats 1000000 in
theorem take (P : Nat → Prop) (p : Nat) (hP : ¬ P p) (n : Nat) (s : Option (List Nat)) (w : World) (h : Rd P w p s) :
    Calls Try.prog 38 #[.pointer (some ⟨p, 0, none⟩), .int .i64 (n : Int)] w (Took P p n s w) := by
  rcases s with _ | bs
  · have hA : At w p 72 #[.slice none 0 0, .bool true] := h
    have c0 := hA.cell 0
    have c1 := hA.cell 1
    simp at c0 c1
    have H := Lib.hid h
    clear h hA
    go_enter Try.func38, Try.ntmps38
    go_wp2
    go_ret2
    exact ⟨none, 0, rfl, rfl, Bytes.nil _ _ _, H.out, Keep.refl _ _⟩
  · obtain ⟨x, hA, hB⟩ := h
    have c0 := hA.cell 0
    have c1 := hA.cell 1
    have f0 := hA.frozen 0
    simp at c0 c1
    have HA := Lib.hid hA
    have HB := Lib.hid hB
    clear hA hB
    obtain ⟨L, hL⟩ : ∃ L, L = bs.length := ⟨_, rfl⟩
    rw [← hL] at c0 HA
    have HL := Lib.hid hL
    clear hL
    by_cases hle : (n : Int) ≤ (L : Int)
    · have hle' : n ≤ bs.length := by have := HL.out; omega
      obtain ⟨s1, s2⟩ := cut_pre3 x L L n (by omega)
      obtain ⟨y, s3, s4, hy⟩ := wcut_drop x L L n (by omega) (Nat.le_refl _)
      have HY := Lib.hid hy
      have HE := Lib.hid hle'
      clear hy hle'
      have hlt : ¬ ((L : Int) < (n : Int)) := by omega
      go_enter Try.func38, Try.ntmps38
      go_wp2
      go_ret2
      have k : Keep (· = p) w (w.setCell ⟨p, 0, none⟩ (.slice y (L - n) (L - n))) := (Keep.refl (· = p) w).setCell (p := ⟨p, 0, none⟩) (fun _ => rfl) _
      refine ⟨x, n, ?_, ?_, ?_, ?_, k⟩
      · rw [takeV_ok HE.out]; have := HE.out; simp; omega
      · rw [takeOk_ok HE.out]; rfl
      · rw [takeV_ok HE.out]; exact (HB.out.take n).keep k (fun b _ hb e => hP (e ▸ hb))
      · rw [takeS_ok HE.out]
        refine ⟨y, ?_, (HY.out P w bs HL.out.symm HB.out).keep k (fun b _ hb e => hP (e ▸ hb))⟩
        have := HA.out.put 0 (.slice y (L - n) (L - n))
        rw [List.length_drop, ← HL.out]
        exact this
    · have hno : ¬ n ≤ bs.length := by have := HL.out; omega
      have HE := Lib.hid hno
      clear hno
      have hlt : (L : Int) < (n : Int) := by omega
      go_enter Try.func38, Try.ntmps38
      go_wp2_with (go_at_call 39; refine (fail p _ _ w HA.out).mono ?_; rintro e w1 ⟨rfl, hat, hk⟩)
      go_ret2
      refine ⟨none, 0, ?_, ?_, ?_, ?_, hk⟩
      · rw [takeV_no (takeOk_no HE.out)]; rfl
      · rw [takeOk_no HE.out]; rfl
      · rw [takeV_no (takeOk_no HE.out)]; exact Bytes.nil _ _ _
      · rw [takeS_no (takeOk_no HE.out)]; exact hat

set_option maxHeartbeats 400000 in
theorem takeNil (n : Nat) (w : World) : Calls Try.prog 38 #[.pointer none, .int .i64 (n : Int)] w fun e w' => e = .returned (.tuple #[.slice none 0 0, .bool false]) ∧ w = w' := by
  go_enter Try.func38, Try.ntmps38
  go_wp2
  go_ret2
  exact ⟨rfl, rfl⟩

set_option maxHeartbeats 400000 in
theorem done (P : Nat → Prop) (p : Nat) (s : Option (List Nat)) (w : World) (h : Rd P w p s) :
    Calls Try.prog 36 #[.pointer (some ⟨p, 0, none⟩)] w fun e w' => e = .returned (.bool (doneB s)) ∧ w = w' := by
  rcases s with _ | bs
  · have hA : At w p 72 #[.slice none 0 0, .bool true] := h
    have c0 := hA.cell 0
    have c1 := hA.cell 1
    simp at c0 c1
    clear h hA
    go_enter Try.func36, Try.ntmps36
    go_wp2
    go_ret
    exact ⟨rfl, rfl⟩
  · obtain ⟨x, hA, hB⟩ := h
    have c0 := hA.cell 0
    have c1 := hA.cell 1
    simp at c0 c1
    clear hA hB
    by_cases h0 : bs = []
    · subst h0
      go_enter Try.func36, Try.ntmps36
      go_wp2
      go_ret
      exact ⟨rfl, rfl⟩
    · obtain ⟨L, hL⟩ : ∃ L, L = bs.length := ⟨_, rfl⟩
      rw [← hL] at c0
      have hL0 : 0 < L := by rw [hL]; exact List.length_pos_iff.2 h0
      have HD : Hid (doneB (some bs) = false) := by show _ = _; simp [doneB, h0]
      have hq : ((L : Int) == 0) = false := by simp; omega
      clear hL h0
      go_enter Try.func36, Try.ntmps36
      go_wp2
      go_ret
      rw [HD.out]
      exact ⟨rfl, rfl⟩
set_option maxHeartbeats 400000 in
theorem doneNil (w : World) : Calls Try.prog 36 #[.pointer none] w fun e w' => e = .returned (.bool false) ∧ w = w' := by
  go_enter Try.func36, Try.ntmps36
  go_wp2
  go_ret
  exact ⟨rfl, rfl⟩

/-- 'make([]byte, n)'. -/
theorem make_u8 (N : Nat) (hN : N ≤ 1099511627776) : ∀ w, (Instr.makeSlice 24 (.int .i64 (N : Int)) (.int .i64 (N : Int))).run Try.prog w = .ok (.slice (some ⟨w.heap.size, 0, none⟩) N N) (w.alloc (.cells (madeCells #[.int .u8 0] N) 5)) := by
  intro w
  obtain ⟨i0, hi, hz0, hz1, hz2⟩ := info_parts info5
  have h := run_make (P := Try.prog) w 24 5 i0 (.int .u8 0) Try.underlying24 hi hz0 .i64 .i64 N N (by omega) (by omega) (by rw [hz2]; omega) (by omega)
  rw [hz1] at h
  simpa [Value.cells] using h
theorem madeCells_size (N : Nat) : (madeCells #[.int .u8 0] N).size = N := by simp [madeCells]

/-- What 'copied' answers: a row of its own, of just these bytes. -/
def Copy (bs : List Nat) (w : World) (e : Ending) (w' : World) : Prop :=
  ∃ g m, m = bs.length ∧ w.heap.size ≤ g ∧ e = .returned (.slice (some ⟨g, 0, none⟩) m m) ∧ At w' g 5 (cellsOf bs).toArray ∧ Keep (fun _ => False) w w'

set_option maxHeartbeats 1000000 in
theorem copied (P : Nat → Prop) (x : Option Addr) (n cap : Nat) (bs : List Nat) (hn : bs.length = n) (hl : n ≤ 1099511627776) (w : World) (h : Bytes P w x bs) :
    Calls Try.prog 30 #[.slice x n cap] w (Copy bs w) := by
  have hmk := make_u8 n hl
  have HB := Lib.hid h
  have HN := Lib.hid hn
  clear h hn
  go_enter Try.func30, Try.ntmps30
  go_wp2_with (
    (refine wpList_copy_splice (by rfl) (.tmp 7) (.tmp 8) 24 24 (by rfl) 5 Try.underlying24 (by kernel_rfl) (some ⟨w.heap.size, 0, none⟩) x n n n cap (by rfl) (by rfl) w.heap.size 0 (madeCells #[.int .u8 0] n).toList 5 (by simpa using heap_alloc_new w _)
      (cellsOf bs) (by rw [cellsOf_length, HN.out]; simp) ?hpos (by simp [cellsOf_length, HN.out, madeCells_size]) (cellsOf_one bs) w.heap.size w ((Below.refl _ w).alloc (Nat.le_refl _) _) (Nat.le_refl _) ?_
     case hpos =>
       intro h0
       rw [cellsOf_length] at h0
       obtain ⟨b, off, _, rfl, hc⟩ := HB.out.at 0 h0
       refine ⟨rfl, _, rfl, fun j v hj => ?_⟩
       have := HB.out.news j v hj
       rw [Addr.add_mid] at this ⊢
       rw [World.cell?_alloc_past _ _ _ (block_lt_of_cell hc)]
       exact this
     intro w1 HW hb1))
  go_ret
  refine ⟨w.heap.size, n, HN.out.symm, Nat.le_refl _, rfl, ?_, Keep.of_below hb1⟩
  have := HW.out
  have e : splice (madeCells #[.int .u8 0] n).toList 0 (cellsOf bs) = cellsOf bs := by
    simp only [splice, List.take_zero, List.nil_append, Nat.zero_add]
    rw [List.drop_of_length_le (by simp [cellsOf_length, HN.out, madeCells_size]), List.append_nil]
  rw [e] at this
  exact this

end Go.Proofs.Ytcplemamcgonkaa.Ln
