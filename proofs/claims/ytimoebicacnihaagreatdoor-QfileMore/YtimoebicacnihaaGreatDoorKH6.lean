/-
  What the document's Marks returns, for all bytes.
-/
import Derived.Test.YtimoebicacnihaaGreatDoorKg11
namespace Go.Proofs.YtimoebicacnihaaGreatDoor.Ln
open Go.RowKit
set_option linter.unusedVariables false
set_option linter.unusedSimpArgs false

/-! ### An eye of the call's own -/
structure Eyo (w0 wr : World) (p : Nat) (P : Nat → Prop) (s : Option (List Nat)) : Prop where
  ey : Ey P wr p s
  kp : Keep (fun _ => False) w0 wr
  hp : w0.heap.size ≤ p
  np : ¬ P p
theorem Eyo.num {w0 wr : World} {p : Nat} {P : Nat → Prop} {s : Option (List Nat)} (h : Eyo w0 wr p P s) : Calls Tryz.prog 34 #[.pointer (some ⟨p, 0, none⟩)] wr fun e w' => e = .returned (.int .i64 ((numV s : Nat) : Int)) ∧ Eyo w0 w' p P (numS s) :=
  (eyNum P p h.np s wr h.ey).mono fun e w' ⟨he, hE, hk, _⟩ => ⟨he, hE, h.kp.trans hk (fun i hi e => by have := h.hp; omega), h.hp, h.np⟩
theorem Eyo.quiet {w0 wr w' : World} {p : Nat} {P : Nat → Prop} {s : Option (List Nat)} (h : Eyo w0 wr p P s) (k : Keep (fun _ => False) wr w') : Eyo w0 w' p P s := ⟨h.ey.keep k (fun h => h) (fun _ _ _ h => h), h.kp.trans k (fun _ _ h => h), h.hp, h.np⟩
theorem Eyo.bad {w0 wr : World} {p : Nat} {P : Nat → Prop} {s : Option (List Nat)} (h : Eyo w0 wr p P s) : wr.cell? ⟨p, 1, none⟩ = some (.bool s.isNone) := by
  have := h.ey
  rcases s with _ | bs
  · obtain ⟨x, n, cap, _, hA⟩ := this
    exact hA.cell 1
  · obtain ⟨x, n, cap, _, _, hA, _⟩ := this
    exact hA.cell 1
def Sb4 (w : World) (p B : Nat) (b : Bool) (x y z : Int) : Prop := w.cell? ⟨p, 1, none⟩ = some (.bool b) ∧ w.cell? ⟨B, 0, none⟩ = some (.int .i64 x) ∧ w.cell? ⟨B, 1, none⟩ = some (.int .i64 y) ∧ w.cell? ⟨B, 2, none⟩ = some (.int .i64 z)
set_option maxHeartbeats 16000000 in
set_option maxRecDepth 100000 in
theorem refMarksC {P0 : Nat → Prop} {w : World} (x : Option Addr) (n cap : Nat) (bs : List Nat) (hn : bs.length = n) (hc : n ≤ cap) (hl : n ≤ 140737488355328) (h : Bytes P0 w x bs) :
    Calls Tryz.prog 15 #[.slice x n cap] w (DecP bs w) := by
  have HX := Lib.hid (h.mono (Q := fun k => k < w.heap.size) (fun b hb _ => hb))
  have HN := Lib.hid hn
  have HD : Hid (∀ (wr : World) (y : Option Addr) (l c : Nat) (q : Option Nat) (L : List Mk), Run bs w wr y l c q L → marksM bs = L → ∀ i, i = ((28 * l : Nat) : Int) → DecP bs w (.returned (.tuple #[.slice y l c, .int .i64 i])) wr) := Lib.hid (fun wr y l c q L hR hm i hi => hR.done hm i hi)
  clear h hn
  go_enter Tryz.func15, Tryz.ntmps15
  go_wp2
  go_loopw [4, 5] (fun v i wr => ∃ (y : Option Addr) (l c a : Nat) (q : Option Nat) (L : List Mk), v = .slice y l c ∧ i = .int .i64 (a : Int) ∧ l ≤ 4096 ∧ a ≤ n ∧ Hid (a = 28 * l) ∧ Hid (Run bs w wr y l c q L)) (fun _ i _ => 114689 - (intOf i).toNat)
  case atStart => exact ⟨none, 0, 0, 0, none, [], rfl, rfl, by omega, by omega, rfl, Run.start (Keep.refl _ _)⟩
  case round =>
    obtain ⟨y, l, c, a, q, L, rfl, rfl, hl4, han, HAl, R⟩ := hrel
    have HLen := Lib.hid R.out.len
    have HLa : Hid (28 * L.length = a) := Lib.hid (by have := HLen.out.1; have := HAl.out; omega)
    have HDL : Hid ((bs.drop a).length = n - a) := Lib.hid (by rw [List.length_drop, HN.out])
    have ha0 : (0 : Int) ≤ (a : Int) := by omega
    have hab : a ≤ 114688 := by have := HAl.out; omega
    by_cases h28 : (n : Int) - (a : Int) < 28
    · have hd : decide (28 ≤ (n : Int) - (a : Int)) = false := decide_eq_false (by omega)
      have HE : Hid (marksM bs = L) := Lib.hid (R.out.seen.stop (by rw [HLa.out]; exact first_short (by rw [HDL.out]; omega)))
      go_wp2
      go_ret2
      exact HD.out _ _ _ _ _ _ R.out HE.out _ (by rw [HAl.out])
    by_cases hlt : (l : Int) < 4096
    · have hr : a + 28 ≤ n := by omega
      obtain ⟨r1, r2⟩ := cut_mid x n cap a (a + 24) (by omega) (by omega)
      obtain ⟨q1, q2⟩ := cut_mid x n cap a (a + 28) (by omega) (by omega)
      have hB := HX.out.mid cap a (a + 24) (by omega) (by have := HN.out; omega) (by have := HN.out; omega)
      have hC := HX.out.mid cap a (a + 28) (by omega) (by have := HN.out; omega) (by have := HN.out; omega)
      rw [List.drop_take, Nat.add_sub_cancel_left] at hB hC
      rw [Nat.add_sub_cancel_left] at r1 r2 q1 q2
      obtain ⟨xd, hxd⟩ : ∃ xd, xd = (if cap = a then x else x.map (fun b => b.add a)) := ⟨_, rfl⟩
      rw [← hxd] at r1 r2 q1 q2 hB hC
      have r3 : ∀ w, (Instr.slice 23 (.slice x n cap) (some (.int .i64 (a : Int))) (some (.int .i64 ((a : Int) + 24))) none).run Tryz.prog w = .ok (.slice xd 24 (cap - a)) w := r1
      have r4 : ∀ w, (Instr.sliceAt 23 (.slice x n cap) (some (.int .i64 (a : Int))) (some (.int .i64 ((a : Int) + 24))) none).run Tryz.prog w = .ok (.slice xd 24 (cap - a)) w := r2
      have q3 : ∀ w, (Instr.slice 23 (.slice x n cap) (some (.int .i64 (a : Int))) (some (.int .i64 ((a : Int) + 28))) none).run Tryz.prog w = .ok (.slice xd 28 (cap - a)) w := q1
      have q4 : ∀ w, (Instr.sliceAt 23 (.slice x n cap) (some (.int .i64 (a : Int))) (some (.int .i64 ((a : Int) + 28))) none).run Tryz.prog w = .ok (.slice xd 28 (cap - a)) w := q2
      obtain ⟨I, hI⟩ : ∃ I, I = (bs.drop a).take 24 := ⟨_, rfl⟩
      obtain ⟨J, hJ⟩ : ∃ J, J = (bs.drop a).take 28 := ⟨_, rfl⟩
      rw [← hI] at hB
      rw [← hJ] at hC
      have HB : Hid (Bytes (fun k => k < w.heap.size) w xd I) := Lib.hid hB
      have HC28 : Hid (Bytes (fun k => k < w.heap.size) w xd J) := Lib.hid hC
      have HIL : Hid (I.length = 24) := Lib.hid (by rw [hI, List.length_take, HDL.out]; omega)
      have HJL : Hid (J.length = 28) := Lib.hid (by rw [hJ, List.length_take, HDL.out]; omega)
      have HBad : Hid (s3 I = none → marksM bs = L) := Lib.hid (fun e => R.out.seen.stop (by rw [HLa.out]; exact first_bad (by rw [← hI]; exact e)))
      have HNot : Hid (goodK (readK I) = false → marksM bs = L) := Lib.hid (fun e => R.out.seen.stop (by rw [HLa.out]; exact first_not (by rw [← hI]; exact e)))
      have HSame : Hid (∀ r, s3 I = some r → goodK (readK I) = true → firstB (bs.drop a) = decide (markB (readK I) = J)) := Lib.hid (fun r e g => by
        rw [hI, hJ]
        exact first_same (by rw [HDL.out]; omega) (fun c hc => HX.out.1 c (List.mem_of_mem_drop hc)) (by rw [← hI]; exact e) (by rw [← hI]; exact g))
      have HStop : Hid (firstB (bs.drop a) = false → marksM bs = L) := Lib.hid (fun e => R.out.seen.stop (by rw [HLa.out]; exact e))
      have HII := Lib.hid hI
      clear hB hC hxd r1 r2 q1 q2 hI hJ
      obtain ⟨p, hp⟩ : ∃ p, p = wr.heap.size := ⟨_, rfl⟩
      have E0 : Hid (Eyo wr (wr.alloc (.cells #[.slice xd 24 (cap - a), .bool false] 66)) p (fun k => k < w.heap.size) (some I)) := Lib.hid (by
        have k : Keep (fun _ => False) wr (wr.alloc (.cells #[.slice xd 24 (cap - a), .bool false] 66)) := keep_new wr _
        refine ⟨⟨xd, 24, cap - a, HIL.out.symm, by omega, by rw [hp]; exact At.new wr _ _, HB.out.quiet (R.out.kp.trans k (fun _ _ h => h))⟩, k, by omega, ?_⟩
        have := R.out.kp.size
        show ¬ p < w.heap.size
        omega)
      have HP := Lib.hid hp
      clear hp
      go_wp2_with fail
      rw [← HP.out]
      refine E0.out.num.mono ?_
      rintro e w1 ⟨rfl, hE1⟩
      have E1 := Lib.hid hE1
      clear hE1
      go_wp2_with fail
      refine E1.out.num.mono ?_
      rintro e w2 ⟨rfl, hE2⟩
      have E2 := Lib.hid hE2
      clear hE2
      go_wp2_with fail
      refine E2.out.num.mono ?_
      rintro e w3 ⟨rfl, hE3⟩
      obtain ⟨M, hM⟩ : ∃ M, M = readK I := ⟨_, rfl⟩
      have m0 : ((numV (some I) : Nat) : Int) = M.kind := by rw [hM]; rfl
      have m1 : ((numV (numS (some I)) : Nat) : Int) = M.rcpt := by rw [hM]; rfl
      have m2 : ((numV (numS (numS (some I))) : Nat) : Int) = M.n := by rw [hM]; rfl
      rw [m0, m1, m2]
      have E3 : Hid (Eyo wr w3 p (fun k => k < w.heap.size) (s3 I)) := Lib.hid hE3
      rw [← hM] at HNot HSame
      have HMM := Lib.hid hM
      obtain ⟨B, hBB⟩ : ∃ B, B = w3.heap.size := ⟨_, rfl⟩
      obtain ⟨X, hX⟩ : ∃ X, X = w3.alloc (.cells #[.int .i64 M.kind, .int .i64 M.rcpt, .int .i64 M.n] 57) := ⟨_, rfl⟩
      have E4 : Hid (Eyo wr X p (fun k => k < w.heap.size) (s3 I)) := Lib.hid (hE3.quiet (by rw [hX]; exact keep_new w3 _))
      have HAB : Hid (At X B 57 #[.int .i64 M.kind, .int .i64 M.rcpt, .int .i64 M.n]) := Lib.hid (by rw [hX, hBB]; exact At.new w3 _ _)
      have HX2 := Lib.hid hX
      have HBe := Lib.hid hBB
      clear m0 m1 m2 hE3 hM hX hBB E0 E1 E2 E3 r3 r4
      obtain ⟨o, ho⟩ : ∃ o, o = s3 I := ⟨_, rfl⟩
      rw [← ho] at HBad HSame E4
      clear ho
      obtain ⟨mk, mr, mn⟩ := M
      simp only at HX2 HAB ⊢
      have hSall : Hid (∀ Z, Keep (fun _ => False) X Z → Sb4 Z p B o.isNone mk mr mn) := Lib.hid (fun Z k => by
        have h := HAB.out.keep k (fun h => h)
        exact ⟨(E4.out.quiet k).bad, h.cell 0, h.cell 1, h.cell 2⟩)
      have RX : Hid (Run bs w X y l c q L) := Lib.hid (R.out.quiet E4.out.kp)
      have kD : Keep (fun _ => False) X X.drew := (Keep.refl _ X).drew
      clear R
      go_wp2
      rw [← HX2.out, ← HBe.out]
      cases o with
      | none =>
        have HE : Hid (marksM bs = L) := Lib.hid (HBad.out rfl)
        have hS0 := hSall.out _ kD
        refine wp_region_noPanic ?_
        refine wp_region_held_drew (S := fun Z => Z.cell? ⟨p, 1, none⟩ = some (.bool true) ∧ Z.cell? ⟨B, 0, none⟩ = some (.int .i64 mk) ∧ Z.cell? ⟨B, 1, none⟩ = some (.int .i64 mr) ∧ Z.cell? ⟨B, 2, none⟩ = some (.int .i64 mn)) (by kernel_rfl) ⟨hS0.1, hS0.2.1, hS0.2.2.1, hS0.2.2.2⟩ (fun hHeld => ?_)
        refine wpAnyH_take (i := 0) (v := ?_) rfl (by kernel_rfl) (by kernel_rfl) (by kernel_rfl) (fun _ _ _ h => h) (Or.inl ⟨by rfl, ?_⟩) (by assumption) ?_
        rotate_left
        · (intro wS hSw; (try dsimp only at hSw); obtain ⟨hS1, hS2, hS3, hS4⟩ := hSw; (try simp only [List.getElem_toArray, List.getElem_cons_succ, List.getElem_cons_zero]); go_simp; try (with_reducible rfl))
        try simp only [Act.put, List.getElem_toArray, List.getElem_cons_succ, List.getElem_cons_zero, List.setIfInBounds_toArray, List.set_cons_zero, List.set_cons_succ]
        refine wpAnyH_take (i := 1) (v := ?_) rfl (by kernel_rfl) (by kernel_rfl) (by kernel_rfl) (fun _ _ _ h => h) (Or.inl ⟨by rfl, ?_⟩) (by assumption) ?_
        rotate_left
        · (intro wS hSw; (try dsimp only at hSw); obtain ⟨hS1, hS2, hS3, hS4⟩ := hSw; (try simp only [List.getElem_toArray, List.getElem_cons_succ, List.getElem_cons_zero]); go_simp; try (with_reducible rfl))
        try simp only [Act.put, List.getElem_toArray, List.getElem_cons_succ, List.getElem_cons_zero, List.setIfInBounds_toArray, List.set_cons_zero, List.set_cons_succ]
        refine wpAnyH_take (i := 2) (v := ?_) rfl (by kernel_rfl) (by kernel_rfl) (by kernel_rfl) (fun _ _ _ h => h) (Or.inl ⟨by rfl, ?_⟩) (by assumption) ?_
        rotate_left
        · (intro wS hSw; (try dsimp only at hSw); obtain ⟨hS1, hS2, hS3, hS4⟩ := hSw; (try simp only [List.getElem_toArray, List.getElem_cons_succ, List.getElem_cons_zero]); go_simp; try (with_reducible rfl))
        try simp only [Act.put, List.getElem_toArray, List.getElem_cons_succ, List.getElem_cons_zero, List.setIfInBounds_toArray, List.set_cons_zero, List.set_cons_succ]
        refine wpAnyH_take (i := 3) (v := ?_) rfl (by kernel_rfl) (by kernel_rfl) (by kernel_rfl) (fun _ _ _ h => h) (Or.inl ⟨by rfl, ?_⟩) (by assumption) ?_
        rotate_left
        · (intro wS hSw; (try dsimp only at hSw); obtain ⟨hS1, hS2, hS3, hS4⟩ := hSw; (try simp only [List.getElem_toArray, List.getElem_cons_succ, List.getElem_cons_zero]); go_simp; try (with_reducible rfl))
        try simp only [Act.put, List.getElem_toArray, List.getElem_cons_succ, List.getElem_cons_zero, List.setIfInBounds_toArray, List.set_cons_zero, List.set_cons_succ]
        refine wpAnyH_take (i := 4) (v := ?_) rfl (by kernel_rfl) (by kernel_rfl) (by kernel_rfl) (fun _ _ _ h => h) (Or.inl ⟨by rfl, ?_⟩) (by assumption) ?_
        rotate_left
        · (intro wS hSw; (try dsimp only at hSw); obtain ⟨hS1, hS2, hS3, hS4⟩ := hSw; (try simp only [List.getElem_toArray, List.getElem_cons_succ, List.getElem_cons_zero]); go_simp; try (with_reducible rfl))
        try simp only [Act.put, List.getElem_toArray, List.getElem_cons_succ, List.getElem_cons_zero, List.setIfInBounds_toArray, List.set_cons_zero, List.set_cons_succ]
        refine wpAnyH_take (i := 5) (v := undef) rfl (by kernel_rfl) (by kernel_rfl) (by kernel_rfl) (fun _ _ _ h => h) (Or.inr ⟨by rfl, rfl⟩) (by assumption) ?_
        try simp only [Act.put, List.getElem_toArray, List.getElem_cons_succ, List.getElem_cons_zero, List.setIfInBounds_toArray, List.set_cons_zero, List.set_cons_succ]
        refine wpAnyH_take (i := 6) (v := undef) rfl (by kernel_rfl) (by kernel_rfl) (by kernel_rfl) (fun _ _ _ h => h) (Or.inr ⟨by rfl, rfl⟩) (by assumption) ?_
        try simp only [Act.put, List.getElem_toArray, List.getElem_cons_succ, List.getElem_cons_zero, List.setIfInBounds_toArray, List.set_cons_zero, List.set_cons_succ]
        refine wpAnyH_take (i := 7) (v := undef) rfl (by kernel_rfl) (by kernel_rfl) (by kernel_rfl) (fun _ _ _ h => h) (Or.inr ⟨by rfl, rfl⟩) (by assumption) ?_
        try simp only [Act.put, List.getElem_toArray, List.getElem_cons_succ, List.getElem_cons_zero, List.setIfInBounds_toArray, List.set_cons_zero, List.set_cons_succ]
        refine wpAnyH_take (i := 8) (v := ?_) rfl (by kernel_rfl) (by kernel_rfl) (by kernel_rfl) (fun _ _ _ h => h) (Or.inl ⟨by rfl, ?_⟩) (by assumption) ?_
        rotate_left
        · (intro wS hSw; (try dsimp only at hSw); obtain ⟨hS1, hS2, hS3, hS4⟩ := hSw; (try simp only [List.getElem_toArray, List.getElem_cons_succ, List.getElem_cons_zero]); go_simp; try (with_reducible rfl))
        try simp only [Act.put, List.getElem_toArray, List.getElem_cons_succ, List.getElem_cons_zero, List.setIfInBounds_toArray, List.set_cons_zero, List.set_cons_succ]
        refine wpAnyH_take (i := 9) (v := ?_) rfl (by kernel_rfl) (by kernel_rfl) (by kernel_rfl) (fun _ _ _ h => h) (Or.inl ⟨by rfl, ?_⟩) (by assumption) ?_
        rotate_left
        · (intro wS hSw; (try dsimp only at hSw); obtain ⟨hS1, hS2, hS3, hS4⟩ := hSw; (try simp only [List.getElem_toArray, List.getElem_cons_succ, List.getElem_cons_zero]); go_simp; try (with_reducible rfl))
        try simp only [Act.put, List.getElem_toArray, List.getElem_cons_succ, List.getElem_cons_zero, List.setIfInBounds_toArray, List.set_cons_zero, List.set_cons_succ]
        refine wpAnyH_take (i := 10) (v := undef) rfl (by kernel_rfl) (by kernel_rfl) (by kernel_rfl) (fun _ _ _ h => h) (Or.inr ⟨by rfl, rfl⟩) (by assumption) ?_
        try simp only [Act.put, List.getElem_toArray, List.getElem_cons_succ, List.getElem_cons_zero, List.setIfInBounds_toArray, List.set_cons_zero, List.set_cons_succ]
        refine wpAnyH_take (i := 11) (v := undef) rfl (by kernel_rfl) (by kernel_rfl) (by kernel_rfl) (fun _ _ _ h => h) (Or.inr ⟨by rfl, rfl⟩) (by assumption) ?_
        try simp only [Act.put, List.getElem_toArray, List.getElem_cons_succ, List.getElem_cons_zero, List.setIfInBounds_toArray, List.set_cons_zero, List.set_cons_succ]
        refine wpAnyH_take (i := 12) (v := undef) rfl (by kernel_rfl) (by kernel_rfl) (by kernel_rfl) (fun _ _ _ h => h) (Or.inr ⟨by rfl, rfl⟩) (by assumption) ?_
        try simp only [Act.put, List.getElem_toArray, List.getElem_cons_succ, List.getElem_cons_zero, List.setIfInBounds_toArray, List.set_cons_zero, List.set_cons_succ]
        refine wpAnyH_take (i := 13) (v := undef) rfl (by kernel_rfl) (by kernel_rfl) (by kernel_rfl) (fun _ _ _ h => h) (Or.inr ⟨by rfl, rfl⟩) (by assumption) ?_
        try simp only [Act.put, List.getElem_toArray, List.getElem_cons_succ, List.getElem_cons_zero, List.setIfInBounds_toArray, List.set_cons_zero, List.set_cons_succ]
        refine wpAnyH_take (i := 14) (v := undef) rfl (by kernel_rfl) (by kernel_rfl) (by kernel_rfl) (fun _ _ _ h => h) (Or.inr ⟨by rfl, rfl⟩) (by assumption) ?_
        try simp only [Act.put, List.getElem_toArray, List.getElem_cons_succ, List.getElem_cons_zero, List.setIfInBounds_toArray, List.set_cons_zero, List.set_cons_succ]
        refine wpAnyH_take (i := 15) (v := undef) rfl (by kernel_rfl) (by kernel_rfl) (by kernel_rfl) (fun _ _ _ h => h) (Or.inr ⟨by rfl, rfl⟩) (by assumption) ?_
        try simp only [Act.put, List.getElem_toArray, List.getElem_cons_succ, List.getElem_cons_zero, List.setIfInBounds_toArray, List.set_cons_zero, List.set_cons_succ]
        refine wpAnyH_take (i := 16) (v := undef) rfl (by kernel_rfl) (by kernel_rfl) (by kernel_rfl) (fun _ _ _ h => h) (Or.inr ⟨by rfl, rfl⟩) (by assumption) ?_
        try simp only [Act.put, List.getElem_toArray, List.getElem_cons_succ, List.getElem_cons_zero, List.setIfInBounds_toArray, List.set_cons_zero, List.set_cons_succ]
        refine wpAnyH_take (i := 17) (v := undef) rfl (by kernel_rfl) (by kernel_rfl) (by kernel_rfl) (fun _ _ _ h => h) (Or.inr ⟨by rfl, rfl⟩) (by assumption) ?_
        try simp only [Act.put, List.getElem_toArray, List.getElem_cons_succ, List.getElem_cons_zero, List.setIfInBounds_toArray, List.set_cons_zero, List.set_cons_succ]
        refine wpAnyH_take (i := 18) (v := undef) rfl (by kernel_rfl) (by kernel_rfl) (by kernel_rfl) (fun _ _ _ h => h) (Or.inr ⟨by rfl, rfl⟩) (by assumption) ?_
        try simp only [Act.put, List.getElem_toArray, List.getElem_cons_succ, List.getElem_cons_zero, List.setIfInBounds_toArray, List.set_cons_zero, List.set_cons_succ]
        refine wpAnyH_take (i := 19) (v := undef) rfl (by kernel_rfl) (by kernel_rfl) (by kernel_rfl) (fun _ _ _ h => h) (Or.inr ⟨by rfl, rfl⟩) (by assumption) ?_
        try simp only [Act.put, List.getElem_toArray, List.getElem_cons_succ, List.getElem_cons_zero, List.setIfInBounds_toArray, List.set_cons_zero, List.set_cons_succ]
        refine wpAnyH_take (i := 20) (v := ?_) rfl (by kernel_rfl) (by kernel_rfl) (by kernel_rfl) (fun _ _ _ h => h) (Or.inl ⟨by rfl, ?_⟩) (by assumption) ?_
        rotate_left
        · (intro wS hSw; (try dsimp only at hSw); obtain ⟨hS1, hS2, hS3, hS4⟩ := hSw; (try simp only [List.getElem_toArray, List.getElem_cons_succ, List.getElem_cons_zero]); go_simp; try (with_reducible rfl))
        try simp only [Act.put, List.getElem_toArray, List.getElem_cons_succ, List.getElem_cons_zero, List.setIfInBounds_toArray, List.set_cons_zero, List.set_cons_succ]
        refine wpAnyH_done (by kernel_rfl) ?_ _
        refine NoPanic.normal ?_
        have RD := Lib.hid (RX.out.quiet kD)
        go_wp2
        go_ret2
        exact HD.out _ _ _ _ _ _ RD.out HE.out _ (by rw [HAl.out])
      | some r =>
        cases hg : goodK ⟨mk, mr, mn⟩ with
        | false =>
          have HE : Hid (marksM bs = L) := Lib.hid (HNot.out hg)
          have hS0 := hSall.out _ kD
          have HG := Lib.hid hg
          clear hg
          refine wp_region_noPanic ?_
          refine wp_region_held_drew (S := fun Z => Z.cell? ⟨p, 1, none⟩ = some (.bool false) ∧ Z.cell? ⟨B, 0, none⟩ = some (.int .i64 mk) ∧ Z.cell? ⟨B, 1, none⟩ = some (.int .i64 mr) ∧ Z.cell? ⟨B, 2, none⟩ = some (.int .i64 mn)) (by kernel_rfl) ⟨hS0.1, hS0.2.1, hS0.2.2.1, hS0.2.2.2⟩ (fun hHeld => ?_)
          refine wpAnyH_take (i := 0) (v := ?_) rfl (by kernel_rfl) (by kernel_rfl) (by kernel_rfl) (fun _ _ _ h => h) (Or.inl ⟨by rfl, ?_⟩) (by assumption) ?_
          rotate_left
          · (intro wS hSw; (try dsimp only at hSw); obtain ⟨hS1, hS2, hS3, hS4⟩ := hSw; (try simp only [List.getElem_toArray, List.getElem_cons_succ, List.getElem_cons_zero]); go_simp; try (with_reducible rfl))
          try simp only [Act.put, List.getElem_toArray, List.getElem_cons_succ, List.getElem_cons_zero, List.setIfInBounds_toArray, List.set_cons_zero, List.set_cons_succ]
          refine wpAnyH_take (i := 1) (v := ?_) rfl (by kernel_rfl) (by kernel_rfl) (by kernel_rfl) (fun _ _ _ h => h) (Or.inl ⟨by rfl, ?_⟩) (by assumption) ?_
          rotate_left
          · (intro wS hSw; (try dsimp only at hSw); obtain ⟨hS1, hS2, hS3, hS4⟩ := hSw; (try simp only [List.getElem_toArray, List.getElem_cons_succ, List.getElem_cons_zero]); go_simp; try (with_reducible rfl))
          try simp only [Act.put, List.getElem_toArray, List.getElem_cons_succ, List.getElem_cons_zero, List.setIfInBounds_toArray, List.set_cons_zero, List.set_cons_succ]
          refine wpAnyH_take (i := 2) (v := ?_) rfl (by kernel_rfl) (by kernel_rfl) (by kernel_rfl) (fun _ _ _ h => h) (Or.inl ⟨by rfl, ?_⟩) (by assumption) ?_
          rotate_left
          · (intro wS hSw; (try dsimp only at hSw); obtain ⟨hS1, hS2, hS3, hS4⟩ := hSw; (try simp only [List.getElem_toArray, List.getElem_cons_succ, List.getElem_cons_zero]); go_simp; try (with_reducible rfl))
          try simp only [Act.put, List.getElem_toArray, List.getElem_cons_succ, List.getElem_cons_zero, List.setIfInBounds_toArray, List.set_cons_zero, List.set_cons_succ]
          refine wpAnyH_take (i := 3) (v := ?_) rfl (by kernel_rfl) (by kernel_rfl) (by kernel_rfl) (fun _ _ _ h => h) (Or.inl ⟨by rfl, ?_⟩) (by assumption) ?_
          rotate_left
          · (intro wS hSw; (try dsimp only at hSw); obtain ⟨hS1, hS2, hS3, hS4⟩ := hSw; (try simp only [List.getElem_toArray, List.getElem_cons_succ, List.getElem_cons_zero]); go_simp; try (with_reducible rfl))
          try simp only [Act.put, List.getElem_toArray, List.getElem_cons_succ, List.getElem_cons_zero, List.setIfInBounds_toArray, List.set_cons_zero, List.set_cons_succ]
          refine wpAnyH_take (i := 4) (v := ?_) rfl (by kernel_rfl) (by kernel_rfl) (by kernel_rfl) (fun _ _ _ h => h) (Or.inl ⟨by rfl, ?_⟩) (by assumption) ?_
          rotate_left
          · (intro wS hSw; (try dsimp only at hSw); obtain ⟨hS1, hS2, hS3, hS4⟩ := hSw; (try simp only [List.getElem_toArray, List.getElem_cons_succ, List.getElem_cons_zero]); go_simp; try (with_reducible rfl))
          try simp only [Act.put, List.getElem_toArray, List.getElem_cons_succ, List.getElem_cons_zero, List.setIfInBounds_toArray, List.set_cons_zero, List.set_cons_succ]
          refine wpAnyH_take (i := 5) (v := ?_) rfl (by kernel_rfl) (by kernel_rfl) (by kernel_rfl) (fun _ _ _ h => h) (Or.inl ⟨by rfl, ?_⟩) (by assumption) ?_
          rotate_left
          · (intro wS hSw; (try dsimp only at hSw); obtain ⟨hS1, hS2, hS3, hS4⟩ := hSw; (try simp only [List.getElem_toArray, List.getElem_cons_succ, List.getElem_cons_zero]); go_simp; try (with_reducible rfl))
          try simp only [Act.put, List.getElem_toArray, List.getElem_cons_succ, List.getElem_cons_zero, List.setIfInBounds_toArray, List.set_cons_zero, List.set_cons_succ]
          refine wpAnyH_ready (rs := [6]) (by kernel_rfl) (by simp) ?_
          refine AllReadyH.cons rfl (fun K hK => ?_) AllReadyH.nil
          go_simp
          refine (mayMarkC ⟨mk, mr, mn⟩ _).mono ?_
          rintro e w5 ⟨rfl, hk5⟩
          rw [HG.out]
          have k5 := kD.trans hk5 (fun _ _ h => h)
          have hS5 := hSall.out _ k5
          clear hk5
          go_wp2_with fail
          refine hK.out _ _ ⟨hS5.1, hS5.2.1, hS5.2.2.1, hS5.2.2.2⟩ (fun hHeld => ?_)
          clear hK K
          try simp only [Act.put, List.getElem_toArray, List.getElem_cons_succ, List.getElem_cons_zero, List.setIfInBounds_toArray, List.set_cons_zero, List.set_cons_succ]
          refine wpAnyH_take (i := 7) (v := ?_) rfl (by kernel_rfl) (by kernel_rfl) (by kernel_rfl) (fun _ _ _ h => h) (Or.inl ⟨by rfl, ?_⟩) (by assumption) ?_
          rotate_left
          · (intro wS hSw; (try dsimp only at hSw); obtain ⟨hS1, hS2, hS3, hS4⟩ := hSw; (try simp only [List.getElem_toArray, List.getElem_cons_succ, List.getElem_cons_zero]); go_simp; try (with_reducible rfl))
          try simp only [Act.put, List.getElem_toArray, List.getElem_cons_succ, List.getElem_cons_zero, List.setIfInBounds_toArray, List.set_cons_zero, List.set_cons_succ]
          refine wpAnyH_take (i := 8) (v := ?_) rfl (by kernel_rfl) (by kernel_rfl) (by kernel_rfl) (fun _ _ _ h => h) (Or.inl ⟨by rfl, ?_⟩) (by assumption) ?_
          rotate_left
          · (intro wS hSw; (try dsimp only at hSw); obtain ⟨hS1, hS2, hS3, hS4⟩ := hSw; (try simp only [List.getElem_toArray, List.getElem_cons_succ, List.getElem_cons_zero]); go_simp; try (with_reducible rfl))
          try simp only [Act.put, List.getElem_toArray, List.getElem_cons_succ, List.getElem_cons_zero, List.setIfInBounds_toArray, List.set_cons_zero, List.set_cons_succ]
          refine wpAnyH_take (i := 9) (v := ?_) rfl (by kernel_rfl) (by kernel_rfl) (by kernel_rfl) (fun _ _ _ h => h) (Or.inl ⟨by rfl, ?_⟩) (by assumption) ?_
          rotate_left
          · (intro wS hSw; (try dsimp only at hSw); obtain ⟨hS1, hS2, hS3, hS4⟩ := hSw; (try simp only [List.getElem_toArray, List.getElem_cons_succ, List.getElem_cons_zero]); go_simp; try (with_reducible rfl))
          try simp only [Act.put, List.getElem_toArray, List.getElem_cons_succ, List.getElem_cons_zero, List.setIfInBounds_toArray, List.set_cons_zero, List.set_cons_succ]
          refine wpAnyH_take (i := 10) (v := undef) rfl (by kernel_rfl) (by kernel_rfl) (by kernel_rfl) (fun _ _ _ h => h) (Or.inr ⟨by rfl, rfl⟩) (by assumption) ?_
          try simp only [Act.put, List.getElem_toArray, List.getElem_cons_succ, List.getElem_cons_zero, List.setIfInBounds_toArray, List.set_cons_zero, List.set_cons_succ]
          refine wpAnyH_take (i := 11) (v := undef) rfl (by kernel_rfl) (by kernel_rfl) (by kernel_rfl) (fun _ _ _ h => h) (Or.inr ⟨by rfl, rfl⟩) (by assumption) ?_
          try simp only [Act.put, List.getElem_toArray, List.getElem_cons_succ, List.getElem_cons_zero, List.setIfInBounds_toArray, List.set_cons_zero, List.set_cons_succ]
          refine wpAnyH_take (i := 12) (v := undef) rfl (by kernel_rfl) (by kernel_rfl) (by kernel_rfl) (fun _ _ _ h => h) (Or.inr ⟨by rfl, rfl⟩) (by assumption) ?_
          try simp only [Act.put, List.getElem_toArray, List.getElem_cons_succ, List.getElem_cons_zero, List.setIfInBounds_toArray, List.set_cons_zero, List.set_cons_succ]
          refine wpAnyH_take (i := 13) (v := undef) rfl (by kernel_rfl) (by kernel_rfl) (by kernel_rfl) (fun _ _ _ h => h) (Or.inr ⟨by rfl, rfl⟩) (by assumption) ?_
          try simp only [Act.put, List.getElem_toArray, List.getElem_cons_succ, List.getElem_cons_zero, List.setIfInBounds_toArray, List.set_cons_zero, List.set_cons_succ]
          refine wpAnyH_take (i := 14) (v := undef) rfl (by kernel_rfl) (by kernel_rfl) (by kernel_rfl) (fun _ _ _ h => h) (Or.inr ⟨by rfl, rfl⟩) (by assumption) ?_
          try simp only [Act.put, List.getElem_toArray, List.getElem_cons_succ, List.getElem_cons_zero, List.setIfInBounds_toArray, List.set_cons_zero, List.set_cons_succ]
          refine wpAnyH_take (i := 15) (v := undef) rfl (by kernel_rfl) (by kernel_rfl) (by kernel_rfl) (fun _ _ _ h => h) (Or.inr ⟨by rfl, rfl⟩) (by assumption) ?_
          try simp only [Act.put, List.getElem_toArray, List.getElem_cons_succ, List.getElem_cons_zero, List.setIfInBounds_toArray, List.set_cons_zero, List.set_cons_succ]
          refine wpAnyH_take (i := 16) (v := undef) rfl (by kernel_rfl) (by kernel_rfl) (by kernel_rfl) (fun _ _ _ h => h) (Or.inr ⟨by rfl, rfl⟩) (by assumption) ?_
          try simp only [Act.put, List.getElem_toArray, List.getElem_cons_succ, List.getElem_cons_zero, List.setIfInBounds_toArray, List.set_cons_zero, List.set_cons_succ]
          refine wpAnyH_take (i := 17) (v := undef) rfl (by kernel_rfl) (by kernel_rfl) (by kernel_rfl) (fun _ _ _ h => h) (Or.inr ⟨by rfl, rfl⟩) (by assumption) ?_
          try simp only [Act.put, List.getElem_toArray, List.getElem_cons_succ, List.getElem_cons_zero, List.setIfInBounds_toArray, List.set_cons_zero, List.set_cons_succ]
          refine wpAnyH_take (i := 18) (v := undef) rfl (by kernel_rfl) (by kernel_rfl) (by kernel_rfl) (fun _ _ _ h => h) (Or.inr ⟨by rfl, rfl⟩) (by assumption) ?_
          try simp only [Act.put, List.getElem_toArray, List.getElem_cons_succ, List.getElem_cons_zero, List.setIfInBounds_toArray, List.set_cons_zero, List.set_cons_succ]
          refine wpAnyH_take (i := 19) (v := undef) rfl (by kernel_rfl) (by kernel_rfl) (by kernel_rfl) (fun _ _ _ h => h) (Or.inr ⟨by rfl, rfl⟩) (by assumption) ?_
          try simp only [Act.put, List.getElem_toArray, List.getElem_cons_succ, List.getElem_cons_zero, List.setIfInBounds_toArray, List.set_cons_zero, List.set_cons_succ]
          refine wpAnyH_take (i := 20) (v := ?_) rfl (by kernel_rfl) (by kernel_rfl) (by kernel_rfl) (fun _ _ _ h => h) (Or.inl ⟨by rfl, ?_⟩) (by assumption) ?_
          rotate_left
          · (intro wS hSw; (try dsimp only at hSw); obtain ⟨hS1, hS2, hS3, hS4⟩ := hSw; (try simp only [List.getElem_toArray, List.getElem_cons_succ, List.getElem_cons_zero]); go_simp; try (with_reducible rfl))
          try simp only [Act.put, List.getElem_toArray, List.getElem_cons_succ, List.getElem_cons_zero, List.setIfInBounds_toArray, List.set_cons_zero, List.set_cons_succ]
          refine wpAnyH_done (by kernel_rfl) ?_ _
          refine NoPanic.normal ?_
          have RD := Lib.hid (RX.out.quiet k5)
          go_wp2
          go_ret2
          exact HD.out _ _ _ _ _ _ RD.out HE.out _ (by rw [HAl.out])
        | true =>
          have HFs := Lib.hid (HSame.out r rfl hg)
          have HG := Lib.hid hg
          obtain ⟨T, hT⟩ : ∃ T, T = str J := ⟨_, rfl⟩
          have hS5 : Hid (∀ Z, Keep (fun _ => False) X Z → (convert 23 9 (.slice xd 28 (cap - a))).run Tryz.prog Z = .ok (.string T) Z) := Lib.hid (fun Z k => by
            rw [hT]
            exact run_str (HC28.out.quiet (RX.out.kp.trans k (fun _ _ h => h))) 28 (cap - a) HJL.out)
          have HT := Lib.hid hT
          have hS0 := hSall.out _ kD
          have hw28 : IntKind.i64.wrap ((a : Int) + 28) = (a : Int) + 28 := IntWalk.i64_in _ (by omega)
          clear hg hT
          refine wp_region_noPanic ?_
          refine wp_region_held_drew (S := fun Z => Z.cell? ⟨p, 1, none⟩ = some (.bool false) ∧ Z.cell? ⟨B, 0, none⟩ = some (.int .i64 mk) ∧ Z.cell? ⟨B, 1, none⟩ = some (.int .i64 mr) ∧ Z.cell? ⟨B, 2, none⟩ = some (.int .i64 mn) ∧ (convert 23 9 (.slice xd 28 (cap - a))).run Tryz.prog Z = .ok (.string T) Z) (by kernel_rfl) ⟨hS0.1, hS0.2.1, hS0.2.2.1, hS0.2.2.2, hS5.out _ kD⟩ (fun hHeld => ?_)
          refine wpAnyH_take (i := 0) (v := ?_) rfl (by kernel_rfl) (by kernel_rfl) (by kernel_rfl) (fun _ _ _ h => h) (Or.inl ⟨by rfl, ?_⟩) (by assumption) ?_
          rotate_left
          · (intro wS hSw; (try dsimp only at hSw); obtain ⟨hS1, hS2, hS3, hS4, hS5⟩ := hSw; (try simp only [List.getElem_toArray, List.getElem_cons_succ, List.getElem_cons_zero]); go_simp; try (with_reducible rfl))
          try simp only [Act.put, List.getElem_toArray, List.getElem_cons_succ, List.getElem_cons_zero, List.setIfInBounds_toArray, List.set_cons_zero, List.set_cons_succ]
          refine wpAnyH_take (i := 1) (v := ?_) rfl (by kernel_rfl) (by kernel_rfl) (by kernel_rfl) (fun _ _ _ h => h) (Or.inl ⟨by rfl, ?_⟩) (by assumption) ?_
          rotate_left
          · (intro wS hSw; (try dsimp only at hSw); obtain ⟨hS1, hS2, hS3, hS4, hS5⟩ := hSw; (try simp only [List.getElem_toArray, List.getElem_cons_succ, List.getElem_cons_zero]); go_simp; try (with_reducible rfl))
          try simp only [Act.put, List.getElem_toArray, List.getElem_cons_succ, List.getElem_cons_zero, List.setIfInBounds_toArray, List.set_cons_zero, List.set_cons_succ]
          refine wpAnyH_take (i := 2) (v := ?_) rfl (by kernel_rfl) (by kernel_rfl) (by kernel_rfl) (fun _ _ _ h => h) (Or.inl ⟨by rfl, ?_⟩) (by assumption) ?_
          rotate_left
          · (intro wS hSw; (try dsimp only at hSw); obtain ⟨hS1, hS2, hS3, hS4, hS5⟩ := hSw; (try simp only [List.getElem_toArray, List.getElem_cons_succ, List.getElem_cons_zero]); go_simp; try (with_reducible rfl))
          try simp only [Act.put, List.getElem_toArray, List.getElem_cons_succ, List.getElem_cons_zero, List.setIfInBounds_toArray, List.set_cons_zero, List.set_cons_succ]
          refine wpAnyH_take (i := 3) (v := ?_) rfl (by kernel_rfl) (by kernel_rfl) (by kernel_rfl) (fun _ _ _ h => h) (Or.inl ⟨by rfl, ?_⟩) (by assumption) ?_
          rotate_left
          · (intro wS hSw; (try dsimp only at hSw); obtain ⟨hS1, hS2, hS3, hS4, hS5⟩ := hSw; (try simp only [List.getElem_toArray, List.getElem_cons_succ, List.getElem_cons_zero]); go_simp; try (with_reducible rfl))
          try simp only [Act.put, List.getElem_toArray, List.getElem_cons_succ, List.getElem_cons_zero, List.setIfInBounds_toArray, List.set_cons_zero, List.set_cons_succ]
          refine wpAnyH_take (i := 4) (v := ?_) rfl (by kernel_rfl) (by kernel_rfl) (by kernel_rfl) (fun _ _ _ h => h) (Or.inl ⟨by rfl, ?_⟩) (by assumption) ?_
          rotate_left
          · (intro wS hSw; (try dsimp only at hSw); obtain ⟨hS1, hS2, hS3, hS4, hS5⟩ := hSw; (try simp only [List.getElem_toArray, List.getElem_cons_succ, List.getElem_cons_zero]); go_simp; try (with_reducible rfl))
          try simp only [Act.put, List.getElem_toArray, List.getElem_cons_succ, List.getElem_cons_zero, List.setIfInBounds_toArray, List.set_cons_zero, List.set_cons_succ]
          refine wpAnyH_take (i := 5) (v := ?_) rfl (by kernel_rfl) (by kernel_rfl) (by kernel_rfl) (fun _ _ _ h => h) (Or.inl ⟨by rfl, ?_⟩) (by assumption) ?_
          rotate_left
          · (intro wS hSw; (try dsimp only at hSw); obtain ⟨hS1, hS2, hS3, hS4, hS5⟩ := hSw; (try simp only [List.getElem_toArray, List.getElem_cons_succ, List.getElem_cons_zero]); go_simp; try (with_reducible rfl))
          try simp only [Act.put, List.getElem_toArray, List.getElem_cons_succ, List.getElem_cons_zero, List.setIfInBounds_toArray, List.set_cons_zero, List.set_cons_succ]
          refine wpAnyH_ready (rs := [6]) (by kernel_rfl) (by simp) ?_
          refine AllReadyH.cons rfl (fun K hK => ?_) AllReadyH.nil
          go_simp
          refine (mayMarkC ⟨mk, mr, mn⟩ _).mono ?_
          rintro e w5 ⟨rfl, hk5⟩
          rw [HG.out]
          have k5 := kD.trans hk5 (fun _ _ h => h)
          have hS6 := hSall.out _ k5
          clear hk5
          go_wp2_with fail
          refine hK.out _ _ ⟨hS6.1, hS6.2.1, hS6.2.2.1, hS6.2.2.2, hS5.out _ k5⟩ (fun hHeld => ?_)
          clear hK K
          try simp only [Act.put, List.getElem_toArray, List.getElem_cons_succ, List.getElem_cons_zero, List.setIfInBounds_toArray, List.set_cons_zero, List.set_cons_succ]
          refine wpAnyH_take (i := 7) (v := ?_) rfl (by kernel_rfl) (by kernel_rfl) (by kernel_rfl) (fun _ _ _ h => h) (Or.inl ⟨by rfl, ?_⟩) (by assumption) ?_
          rotate_left
          · (intro wS hSw; (try dsimp only at hSw); obtain ⟨hS1, hS2, hS3, hS4, hS5⟩ := hSw; (try simp only [List.getElem_toArray, List.getElem_cons_succ, List.getElem_cons_zero]); go_simp; try (with_reducible rfl))
          try simp only [Act.put, List.getElem_toArray, List.getElem_cons_succ, List.getElem_cons_zero, List.setIfInBounds_toArray, List.set_cons_zero, List.set_cons_succ]
          refine wpAnyH_take (i := 8) (v := ?_) rfl (by kernel_rfl) (by kernel_rfl) (by kernel_rfl) (fun _ _ _ h => h) (Or.inl ⟨by rfl, ?_⟩) (by assumption) ?_
          rotate_left
          · (intro wS hSw; (try dsimp only at hSw); obtain ⟨hS1, hS2, hS3, hS4, hS5⟩ := hSw; (try simp only [List.getElem_toArray, List.getElem_cons_succ, List.getElem_cons_zero]); go_simp; try (with_reducible rfl))
          try simp only [Act.put, List.getElem_toArray, List.getElem_cons_succ, List.getElem_cons_zero, List.setIfInBounds_toArray, List.set_cons_zero, List.set_cons_succ]
          refine wpAnyH_take (i := 9) (v := ?_) rfl (by kernel_rfl) (by kernel_rfl) (by kernel_rfl) (fun _ _ _ h => h) (Or.inl ⟨by rfl, ?_⟩) (by assumption) ?_
          rotate_left
          · (intro wS hSw; (try dsimp only at hSw); obtain ⟨hS1, hS2, hS3, hS4, hS5⟩ := hSw; (try simp only [List.getElem_toArray, List.getElem_cons_succ, List.getElem_cons_zero]); go_simp; try (with_reducible rfl))
          try simp only [Act.put, List.getElem_toArray, List.getElem_cons_succ, List.getElem_cons_zero, List.setIfInBounds_toArray, List.set_cons_zero, List.set_cons_succ]
          refine wpAnyH_take (i := 10) (v := ?_) rfl (by kernel_rfl) (by kernel_rfl) (by kernel_rfl) (fun _ _ _ h => h) (Or.inl ⟨by rfl, ?_⟩) (by assumption) ?_
          rotate_left
          · (intro wS hSw; (try dsimp only at hSw); obtain ⟨hS1, hS2, hS3, hS4, hS5⟩ := hSw; (try simp only [List.getElem_toArray, List.getElem_cons_succ, List.getElem_cons_zero]); go_simp; try (with_reducible rfl))
          try simp only [Act.put, List.getElem_toArray, List.getElem_cons_succ, List.getElem_cons_zero, List.setIfInBounds_toArray, List.set_cons_zero, List.set_cons_succ]
          refine wpAnyH_take (i := 13) (v := ?_) rfl (by kernel_rfl) (by kernel_rfl) (by kernel_rfl) (fun _ _ _ h => h) (Or.inl ⟨by rfl, ?_⟩) (by assumption) ?_
          rotate_left
          · (intro wS hSw; (try dsimp only at hSw); obtain ⟨hS1, hS2, hS3, hS4, hS5⟩ := hSw; (try simp only [List.getElem_toArray, List.getElem_cons_succ, List.getElem_cons_zero]); go_simp; try (with_reducible rfl))
          try simp only [Act.put, List.getElem_toArray, List.getElem_cons_succ, List.getElem_cons_zero, List.setIfInBounds_toArray, List.set_cons_zero, List.set_cons_succ]
          refine wpAnyH_take (i := 14) (v := ?_) rfl (by kernel_rfl) (by kernel_rfl) (by kernel_rfl) (fun _ _ _ h => h) (Or.inl ⟨by rfl, ?_⟩) (by assumption) ?_
          rotate_left
          · (intro wS hSw; (try dsimp only at hSw); obtain ⟨hS1, hS2, hS3, hS4, hS5⟩ := hSw; (try simp only [List.getElem_toArray, List.getElem_cons_succ, List.getElem_cons_zero]); go_simp; try (with_reducible rfl))
          try simp only [Act.put, List.getElem_toArray, List.getElem_cons_succ, List.getElem_cons_zero, List.setIfInBounds_toArray, List.set_cons_zero, List.set_cons_succ]
          refine wpAnyH_take (i := 15) (v := ?_) rfl (by kernel_rfl) (by kernel_rfl) (by kernel_rfl) (fun _ _ _ h => h) (Or.inl ⟨by rfl, ?_⟩) (by assumption) ?_
          rotate_left
          · (intro wS hSw; (try dsimp only at hSw); obtain ⟨hS1, hS2, hS3, hS4, hS5⟩ := hSw; (try simp only [List.getElem_toArray, List.getElem_cons_succ, List.getElem_cons_zero]); go_simp; try (with_reducible rfl))
          try simp only [Act.put, List.getElem_toArray, List.getElem_cons_succ, List.getElem_cons_zero, List.setIfInBounds_toArray, List.set_cons_zero, List.set_cons_succ]
          refine wpAnyH_take (i := 16) (v := ?_) rfl (by kernel_rfl) (by kernel_rfl) (by kernel_rfl) (fun _ _ _ h => h) (Or.inl ⟨by rfl, ?_⟩) (by assumption) ?_
          rotate_left
          · (intro wS hSw; (try dsimp only at hSw); obtain ⟨hS1, hS2, hS3, hS4, hS5⟩ := hSw; (try simp only [List.getElem_toArray, List.getElem_cons_succ, List.getElem_cons_zero]); go_simp; try (with_reducible rfl))
          try simp only [Act.put, List.getElem_toArray, List.getElem_cons_succ, List.getElem_cons_zero, List.setIfInBounds_toArray, List.set_cons_zero, List.set_cons_succ]
          refine wpAnyH_take (i := 17) (v := ?_) rfl (by kernel_rfl) (by kernel_rfl) (by kernel_rfl) (fun _ _ _ h => h) (Or.inl ⟨by rfl, ?_⟩) (by assumption) ?_
          rotate_left
          · (intro wS hSw; (try dsimp only at hSw); obtain ⟨hS1, hS2, hS3, hS4, hS5⟩ := hSw; (try simp only [List.getElem_toArray, List.getElem_cons_succ, List.getElem_cons_zero]); go_simp; try (with_reducible rfl))
          try simp only [Act.put, List.getElem_toArray, List.getElem_cons_succ, List.getElem_cons_zero, List.setIfInBounds_toArray, List.set_cons_zero, List.set_cons_succ]
          refine wpAnyH_take (i := 18) (v := ?_) rfl (by kernel_rfl) (by kernel_rfl) (by kernel_rfl) (fun _ _ _ h => h) (Or.inl ⟨by rfl, ?_⟩) (by assumption) ?_
          rotate_left
          · (intro wS hSw; (try dsimp only at hSw); obtain ⟨hS1, hS2, hS3, hS4, hS5⟩ := hSw; (try simp only [List.getElem_toArray, List.getElem_cons_succ, List.getElem_cons_zero]); go_simp; try (with_reducible rfl))
          try simp only [Act.put, List.getElem_toArray, List.getElem_cons_succ, List.getElem_cons_zero, List.setIfInBounds_toArray, List.set_cons_zero, List.set_cons_succ]
          refine wpAnyH_ready (rs := [11]) (by kernel_rfl) (by simp) ?_
          refine AllReadyH.cons rfl (fun K hK => ?_) AllReadyH.nil
          go_simp
          refine (refMarkC (k := ⟨mk, mr, mn⟩) HG.out).mono ?_
          rintro e w6 ⟨y6, n6, c6, hn6, rfl, hG6⟩
          subst hn6
          have k6 := k5.trans hG6.kp (fun _ _ h => h)
          have hS7 := hSall.out _ k6
          have hB6 := hG6.own.bytesO
          have hv6 := run_str hB6.1 28 c6 hB6.2.1.symm
          obtain ⟨U, hU⟩ : ∃ U, U = str (markB ⟨mk, mr, mn⟩) := ⟨_, rfl⟩
          rw [← hU] at hv6
          have HB6 := Lib.hid hB6.1.1
          have HU := Lib.hid hU
          clear hG6 hB6 hU
          go_wp2_with fail
          refine hK.out _ _ ⟨hS7.1, hS7.2.1, hS7.2.2.1, hS7.2.2.2, hS5.out _ k6⟩ (fun hHeld => ?_)
          clear hK K
          try simp only [Act.put, List.getElem_toArray, List.getElem_cons_succ, List.getElem_cons_zero, List.setIfInBounds_toArray, List.set_cons_zero, List.set_cons_succ]
          refine wpAnyH_ready (rs := [12]) (by kernel_rfl) (by simp) ?_
          refine AllReadyH.cons rfl (fun K hK => ?_) AllReadyH.nil
          go_simp
          refine hK.out _ _ ⟨hS7.1, hS7.2.1, hS7.2.2.1, hS7.2.2.2, hS5.out _ k6⟩ (fun hHeld => ?_)
          clear hK K
          try simp only [Act.put, List.getElem_toArray, List.getElem_cons_succ, List.getElem_cons_zero, List.setIfInBounds_toArray, List.set_cons_zero, List.set_cons_succ]
          have RD := Lib.hid (RX.out.quiet k6)
          by_cases hm : markB ⟨mk, mr, mn⟩ = J
          · have hF : Hid (firstB (bs.drop a) = true) := Lib.hid (by rw [HFs.out]; exact decide_eq_true hm)
            have hUT : U = T := by rw [HU.out, HT.out, hm]
            subst hUT
            clear hm hv6
            refine wpAnyH_take (i := 19) (v := ?_) rfl (by kernel_rfl) (by kernel_rfl) (by kernel_rfl) (fun _ _ _ h => h) (Or.inl ⟨by rfl, ?_⟩) (by assumption) ?_
            rotate_left
            · (intro wS hSw; (try dsimp only at hSw); obtain ⟨hS1, hS2, hS3, hS4, hS5⟩ := hSw; (try simp only [List.getElem_toArray, List.getElem_cons_succ, List.getElem_cons_zero]); go_simp; try (with_reducible rfl))
            try simp only [Act.put, List.getElem_toArray, List.getElem_cons_succ, List.getElem_cons_zero, List.setIfInBounds_toArray, List.set_cons_zero, List.set_cons_succ]
            refine wpAnyH_take (i := 20) (v := ?_) rfl (by kernel_rfl) (by kernel_rfl) (by kernel_rfl) (fun _ _ _ h => h) (Or.inl ⟨by rfl, ?_⟩) (by assumption) ?_
            rotate_left
            · (intro wS hSw; (try dsimp only at hSw); obtain ⟨hS1, hS2, hS3, hS4, hS5⟩ := hSw; (try simp only [List.getElem_toArray, List.getElem_cons_succ, List.getElem_cons_zero]); go_simp; try (with_reducible rfl))
            try simp only [Act.put, List.getElem_toArray, List.getElem_cons_succ, List.getElem_cons_zero, List.setIfInBounds_toArray, List.set_cons_zero, List.set_cons_succ]
            refine wpAnyH_done (by kernel_rfl) ?_ _
            refine NoPanic.normal ?_
            obtain ⟨t0, t1, t2⟩ := hS7.2
            have H1 := Lib.hid (mk_one w6 ⟨mk, mr, mn⟩)
            have R3 : Hid (Run bs w (w6.alloc (.cells #[.int .i64 mk, .int .i64 mr, .int .i64 mn] 57)) y l c q L) := Lib.hid (RD.out.quiet (keep_new w6 _))
            clear hS0 hS6 hS7 k5 k6 kD q3 q4 hHeld
            go_wp2_with
              (at_builtin
               refine wpList_app_mk (by rfl) (.tmp 53) (.tmp 55) (by rfl) (.slice y l c) (by rfl) q L R3.out.own (some ⟨w6.heap.size, 0, none⟩) 1 1 (by rfl) [⟨mk, mr, mn⟩] rfl H1.out (by have := HLen.out.1; omega) ?_
               intro y8 l8 c8 q8 w8 hl8 ho8 hk8 hn8
               have hl8' : l8 = l + 1 := by rw [hl8.out, List.length_append, ← HLen.out.1]; rfl
               subst hl8'
               have R4 := Lib.hid (R3.out.more (by have := HLen.out.1; omega) (by rw [HLa.out]; exact hF.out) (by rw [HLa.out, ← HII.out]; exact HMM.out) ho8 hn8 hk8)
               clear hl8 ho8 hk8 hn8)
            go_roundw
            case rel => exact ⟨y8, l + 1, c8, a + 28, q8, L ++ [⟨mk, mr, mn⟩], rfl, by go_num, by omega, by omega, Lib.hid (by have := HAl.out; omega), R4⟩
            case measure => simp [intOf]; omega
          · have HE : Hid (marksM bs = L) := Lib.hid (HStop.out (by rw [HFs.out]; exact decide_eq_false hm))
            have hne : U ≠ T := fun e => hm (str_inj HB6.out HC28.out.1 (by rw [← HU.out, ← HT.out, e]))
            have hb1 := list_bne hne
            have hb2 := list_beq hne
            clear hm hv6 hne
            refine wpAnyH_take (i := 19) (v := ?_) rfl (by kernel_rfl) (by kernel_rfl) (by kernel_rfl) (fun _ _ _ h => h) (Or.inl ⟨by rfl, ?_⟩) (by assumption) ?_
            rotate_left
            · (intro wS hSw; (try dsimp only at hSw); obtain ⟨hS1, hS2, hS3, hS4, hS5⟩ := hSw; (try simp only [List.getElem_toArray, List.getElem_cons_succ, List.getElem_cons_zero]); go_simp; try (with_reducible rfl))
            try simp only [Act.put, List.getElem_toArray, List.getElem_cons_succ, List.getElem_cons_zero, List.setIfInBounds_toArray, List.set_cons_zero, List.set_cons_succ]
            refine wpAnyH_take (i := 20) (v := ?_) rfl (by kernel_rfl) (by kernel_rfl) (by kernel_rfl) (fun _ _ _ h => h) (Or.inl ⟨by rfl, ?_⟩) (by assumption) ?_
            rotate_left
            · (intro wS hSw; (try dsimp only at hSw); obtain ⟨hS1, hS2, hS3, hS4, hS5⟩ := hSw; (try simp only [List.getElem_toArray, List.getElem_cons_succ, List.getElem_cons_zero]); go_simp; try (with_reducible rfl))
            try simp only [Act.put, List.getElem_toArray, List.getElem_cons_succ, List.getElem_cons_zero, List.setIfInBounds_toArray, List.set_cons_zero, List.set_cons_succ]
            refine wpAnyH_done (by kernel_rfl) ?_ _
            refine NoPanic.normal ?_
            clear hS0 hS6 hS7 k5 k6 kD q3 q4 hHeld
            go_wp2
            go_ret2
            exact HD.out _ _ _ _ _ _ RD.out HE.out _ (by rw [HAl.out])
    · have hd : decide ((l : Int) < 4096) = false := decide_eq_false hlt
      have HE : Hid (marksM bs = L) := Lib.hid (R.out.seen.full (by have := HLen.out.1; omega))
      go_wp2
      go_ret2
      exact HD.out _ _ _ _ _ _ R.out HE.out _ (by rw [HAl.out])
end Go.Proofs.YtimoebicacnihaaGreatDoor.Ln
