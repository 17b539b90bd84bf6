/-
  Several texts in one: H8 H9 H10.
-/
import Derived.Test.YtimoebicacnihaaGreatDoorKg10
import Derived.Test.YtimoebicacnihaaGreatDoorKH7
import Derived.Test.YtimoebicacnihaaGreatDoorKH6

section
/-
  What the program's Fates returns, for every number and every row of marks.
-/
namespace Go.Proofs.YtimoebicacnihaaGreatDoor.Ln
open Go.RowKit
set_option linter.unusedVariables false
set_option linter.unusedSimpArgs false

/-! ### A row of fates that is made -/
def zF : Array Value := #[.int .i64 0, .int .i64 0, .int .i64 0, .int .i64 0, .bool false]
theorem make_ft (N : Nat) (hN : N ≤ 8) : ∀ w, (Instr.makeSlice 42 (.int .i64 (N : Int)) (.int .i64 (N : Int))).run Tryz.prog w = .ok (.slice (some ⟨w.heap.size, 0, none⟩) N N) (w.alloc (.cells (madeCells zF (N * 5)) 46)) := by
  intro w
  obtain ⟨i0, hi, hz0, hz1, hz2⟩ := info_parts infoF
  have h := run_make (P := Tryz.prog) w 42 46 i0 (.agg zF) Tryz.underlying42 hi hz0 .i64 .i64 N N (by omega) (by omega) (by rw [hz2]; omega) (by omega)
  rw [hz1] at h
  simpa [Value.cells] using h
theorem made_ft (w : World) (N : Nat) : FtR (w.alloc (.cells (madeCells zF (N * 5)) 46)) w.heap.size (fatesM N []) := by
  refine ⟨_, At.new w _ _, by simp [madeCells, fatesM_length], fun i k hk j hj => ?_⟩
  have hi : i < N := by have := (List.getElem?_eq_some_iff.1 hk).1; rwa [fatesM_length] at this
  have hk' : k = ft0 := by simpa [fatesM, hi] using hk.symm
  subst hk'
  have hlt : i * 5 + j < N * 5 := by omega
  have hmod : (i * 5 + j) % 5 = j := by omega
  have hz : zF.size = 5 := rfl
  unfold madeCells
  rw [Array.getElem?_map, Array.getElem?_range, if_pos hlt, hz]
  simp only [Option.map_some, hmod]
  obtain rfl | rfl | rfl | rfl | rfl : j = 0 ∨ j = 1 ∨ j = 2 ∨ j = 3 ∨ j = 4 := by omega
  all_goals rfl
def cntF (n : Int) : Nat := (min (max n 0) 8).toNat
theorem cntF_le (n : Int) : cntF n ≤ 8 := by unfold cntF; omega
theorem run_cnt (n : Int) : ∃ M : Int, (∀ w, (Builtin.max_ #[3, 3] 3 #[.int .i64 n, .int .i64 0]).run Tryz.prog w = .ok (.int .i64 M) w) ∧ (∀ w, (Builtin.min_ #[3, 3] 3 #[.int .i64 M, .int .i64 8]).run Tryz.prog w = .ok (.int .i64 (cntF n : Int)) w) := by
  refine ⟨max n 0, fun w => ?_, fun w => ?_⟩
  · rw [run_max_int2]
    congr 2
    split <;> omega
  · rw [run_min_int2]
    congr 2
    unfold cntF
    split <;> omega

/-! ### Fates -/
/-- What Fates answers. -/
def FatP (N : Nat) (L : List Mk) (w : World) (e : Ending) (w' : World) : Prop := ∃ g, w.heap.size ≤ g ∧ e = .returned (.slice (some ⟨g, 0, none⟩) N N) ∧ FtR w' g (fatesM N L) ∧ Keep (fun _ => False) w w'
theorem fatesM_take (N : Nat) (L : List Mk) (i : Nat) (hi : i < L.length) : fatesM N (L.take (i + 1)) = putF (fatesM N (L.take i)) L[i] := by rw [List.take_succ_eq_append_getElem hi, fatesM_snoc]
/-- Where the loop over marks stands. -/
structure Fg (w wr : World) (g N i : Nat) (L : List Mk) : Prop where
  row : FtR wr g (fatesM N (L.take i))
  kp : Keep (fun _ => False) w wr
  new : w.heap.size ≤ g
theorem Fg.quiet {w wr w' : World} {g N i : Nat} {L : List Mk} (h : Fg w wr g N i L) (k : Keep (fun _ => False) wr w') : Fg w w' g N i L := ⟨StR.keep h.row k (fun h => h), h.kp.trans k (fun _ _ h => h), h.new⟩
theorem Fg.skip {w wr : World} {g N i : Nat} {L : List Mk} (h : Fg w wr g N i L) (hi : i < L.length) (hn : ¬ (goodK L[i] = true ∧ L[i].rcpt < (N : Int))) : Fg w wr g N (i + 1) L := ⟨by
  rw [fatesM_take N L i hi, putF, if_neg (by rw [fatesM_length]; exact hn)]
  exact h.row, h.kp, h.new⟩
theorem Fg.put {w wr : World} {g N i : Nat} {L : List Mk} (h : Fg w wr g N i L) (hi : i < L.length) (hg : goodK L[i] = true) (r : Nat) (hr : L[i].rcpt = (r : Int)) (hN : r < N) : Fg w (wr.setCells g (r * 5) (ftL (stepF ((fatesM N (L.take i)).getD r ft0) L[i]))) g N (i + 1) L := ⟨by
  rw [fatesM_take N L i hi, putF, if_pos ⟨hg, by rw [fatesM_length, hr]; omega⟩, hr, Int.toNat_natCast]
  exact StR.put ftL_len h.row r (by rw [fatesM_length]; exact hN) _, Keep.setCells (fun h' => by have := h.new; omega) _ _ h.kp, h.new⟩
theorem Fg.cell {w wr : World} {g N i : Nat} {L : List Mk} (h : Fg w wr g N i L) (r : Nat) (hN : r < N) : ∃ f, f = (fatesM N (L.take i)).getD r ft0 ∧ wr.cell? ⟨g, r * 5, none⟩ = some (.int .i64 f.st) ∧ wr.cell? ⟨g, r * 5 + 1, none⟩ = some (.int .i64 f.tries) ∧ wr.cell? ⟨g, r * 5 + 2, none⟩ = some (.int .i64 f.next) ∧ wr.cell? ⟨g, r * 5 + 3, none⟩ = some (.int .i64 f.crashes) ∧ wr.cell? ⟨g, r * 5 + 4, none⟩ = some (.bool f.op) := by
  obtain ⟨b, off, rfl, _, hx, c0, c1, c2, c3, c4⟩ := ft_at (StR.row h.row) r (by rw [fatesM_length]; exact hN)
  cases hx
  simp only [Nat.zero_add] at c0 c1 c2 c3 c4
  refine ⟨(fatesM N (L.take i))[r]'(by rw [fatesM_length]; exact hN), ?_, c0, c1, c2, c3, c4⟩
  simp [List.getD_eq_getElem?_getD, fatesM_length, hN]
theorem Fg.frozen {w wr : World} {g N i : Nat} {L : List Mk} (h : Fg w wr g N i L) (j : Nat) : wr.frozen? ⟨g, j, none⟩ = false := StR.frozen h.row j
def F5 (w : World) (g o : Nat) (f : Ft) : Prop := w.cell? ⟨g, o, none⟩ = some (.int .i64 f.st) ∧ w.cell? ⟨g, o + 1, none⟩ = some (.int .i64 f.tries) ∧ w.cell? ⟨g, o + 2, none⟩ = some (.int .i64 f.next) ∧ w.cell? ⟨g, o + 3, none⟩ = some (.int .i64 f.crashes) ∧ w.cell? ⟨g, o + 4, none⟩ = some (.bool f.op)
set_option maxHeartbeats 16000000 in
set_option maxRecDepth 100000 in
theorem fatesC {P : Nat → Prop} {w : World} (n : Int) (x : Option Addr) (l c : Nat) (L : List Mk) (hn : l = L.length) (hl : l ≤ 1000000000) (h : MkP P w x L) :
    Calls Tryz.prog 35 #[.int .i64 n, .slice x l c] w (FatP (cntF n) L w) := by
  obtain ⟨M, hM1, hM2⟩ := run_cnt n
  have hN8 := cntF_le n
  have HQ : Hid (∀ g w', Fg w w' g (cntF n) L.length L → FatP (cntF n) L w (.returned (.slice (some ⟨g, 0, none⟩) (cntF n) (cntF n))) w') := Lib.hid (fun g w' hg => ⟨g, hg.new, rfl, by have := hg.row; rwa [List.take_length] at this, hg.kp⟩)
  obtain ⟨N, hN⟩ : ∃ N, N = cntF n := ⟨_, rfl⟩
  rw [← hN] at hM2 hN8 HQ
  rw [← hN]
  have hmk := make_ft N hN8
  have F0 : Hid (Fg w (w.alloc (.cells (madeCells zF (N * 5)) 46)) w.heap.size N 0 L) := Lib.hid ⟨made_ft w N, keep_new w _, Nat.le_refl _⟩
  have HX := Lib.hid (mk_quiet (StP.mono h (Q := fun k => k < w.heap.size) (fun b hb _ => hb)) (keep_new w (.cells (madeCells zF (N * 5)) 46)))
  have HX0 := Lib.hid (StP.mono h (Q := fun k => k < w.heap.size) (fun b hb _ => hb))
  have HL := Lib.hid hn
  clear h hn hN
  go_enter Tryz.func35, Tryz.ntmps35
  go_wp2
  go_loopw [14] (fun i wr => ∃ (k : Nat), k ≤ l ∧ i = .int .i64 (k : Int) ∧ Hid (Fg w wr w.heap.size N k L)) (fun i _ => l - (intOf i).toNat)
  case atStart => exact ⟨0, by omega, rfl, F0.out⟩
  case round =>
    obtain ⟨k, hk, rfl, F⟩ := hrel
    by_cases hlt : (k : Int) < (l : Int)
    · have hkl : k < L.length := by have := HL.out; omega
      obtain ⟨b, off, hb, _, hx, c0, c1, c2⟩ := mk_at (mk_quiet HX0.out F.out.kp) k hkl
      subst hx
      obtain ⟨m, hm⟩ : ∃ m, m = L[k] := ⟨_, rfl⟩
      rw [← hm] at c0 c1 c2
      have HSkip : Hid (∀ wr, Fg w wr w.heap.size N k L → ¬ (goodK m = true ∧ m.rcpt < (N : Int)) → Fg w wr w.heap.size N (k + 1) L) := Lib.hid (fun wr h hn => h.skip hkl (by rw [← hm]; exact hn))
      have HPut : Hid (∀ wr, Fg w wr w.heap.size N k L → goodK m = true → ∀ r : Nat, m.rcpt = (r : Int) → r < N → ∀ f, f = (fatesM N (L.take k)).getD r ft0 → Fg w (wr.setCells w.heap.size (r * 5) (ftL (stepF f m))) w.heap.size N (k + 1) L) := Lib.hid (fun wr h hg r hr hrN f hf => by
        rw [hf, hm]
        exact h.put hkl (by rw [← hm]; exact hg) r (by rw [← hm]; exact hr) hrN)
      have HSm : Hid (∀ r, r < N → Small 4611686018427387904 ((fatesM N (L.take k)).getD r ft0)) := Lib.hid (fun r hr => (fatesM_small N (L.take k) r hr).mono (by rw [List.length_take]; omega))
      clear hm
      obtain ⟨kd, rc, kn⟩ := m
      simp only at c0 c1 c2
      obtain ⟨B, hB⟩ : ∃ B, B = wr.heap.size := ⟨_, rfl⟩
      obtain ⟨X, hX⟩ : ∃ X, X = wr.alloc (.cells #[.int .i64 kd, .int .i64 rc, .int .i64 kn] 57) := ⟨_, rfl⟩
      have hAB : At X B 57 #[.int .i64 kd, .int .i64 rc, .int .i64 kn] := by rw [hX, hB]; exact At.new wr _ _
      have HWl : Hid (w.heap.size < wr.heap.size) := Lib.hid (StR.lt F.out.row)
      have FX : Hid (Fg w X w.heap.size N k L) := Lib.hid (F.out.quiet (by rw [hX]; exact keep_new wr _))
      obtain ⟨b0, b1, b2⟩ : X.cell? ⟨B, 0, none⟩ = some (.int .i64 kd) ∧ X.cell? ⟨B, 1, none⟩ = some (.int .i64 rc) ∧ X.cell? ⟨B, 2, none⟩ = some (.int .i64 kn) := ⟨hAB.cell 0, hAB.cell 1, hAB.cell 2⟩
      have HAB := Lib.hid hAB
      have HX1 := Lib.hid hX
      have HB1 := Lib.hid hB
      rw [hX, hB] at b0 b1 b2
      clear hAB hX hB F
      go_wp2_with fail
      rw [← HX1.out]
      refine (goodKC ⟨kd, rc, kn⟩ X).mono ?_
      rintro e w2 ⟨rfl, hk2⟩
      rw [← HB1.out]
      have F2 := Lib.hid (FX.out.quiet hk2)
      obtain ⟨d0, d1, d2⟩ : w2.cell? ⟨B, 0, none⟩ = some (.int .i64 kd) ∧ w2.cell? ⟨B, 1, none⟩ = some (.int .i64 rc) ∧ w2.cell? ⟨B, 2, none⟩ = some (.int .i64 kn) := by
        have h := HAB.out.keep hk2 (fun h => h)
        exact ⟨h.cell 0, h.cell 1, h.cell 2⟩
      have HAB2 := Lib.hid (HAB.out.keep hk2 (fun h => h))
      clear hk2 b0 b1 b2 c0 c1 c2
      cases hg : goodK ⟨kd, rc, kn⟩ with
      | false =>
        have FS : Hid (Fg w w2 w.heap.size N (k + 1) L) := Lib.hid (HSkip.out w2 F2.out (fun h => by rw [hg] at h; exact absurd h.1 (by decide)))
        clear hg
        go_wp2
        go_roundw
        case rel => exact ⟨k + 1, by omega, by go_num, FS⟩
        case measure => simp [intOf]; omega
      | true =>
        have hG := goodK_iff.1 hg
        have hr0 : 0 ≤ rc := hG.2.2.1
        have HG := Lib.hid hg
        clear hg hG
        by_cases hr : rc < (N : Int)
        · obtain ⟨r, rfl⟩ : ∃ r : Nat, rc = (r : Int) := ⟨rc.toNat, by omega⟩
          have hrN : r < N := by omega
          obtain ⟨f, hf, f0, f1, f2, f3, f4⟩ := F2.out.cell r hrN
          have HFf := Lib.hid hf
          have HS := Lib.hid (HSm.out r hrN)
          rw [← hf] at HS
          have kD : Keep (fun _ => False) w2 w2.drew := (Keep.refl _ w2).drew
          have hCC : Hid (∀ Z, Keep (fun _ => False) w2 Z → K3 Z B kd (r : Int) kn ∧ F5 Z w.heap.size (r * 5) f) := Lib.hid (fun Z k => by
            have h := HAB2.out.keep k (fun h => h)
            refine ⟨⟨h.cell 0, h.cell 1, h.cell 2⟩, ?_⟩
            obtain ⟨f', hf', q⟩ := (F2.out.quiet k).cell r hrN
            rw [← hf] at hf'
            subst hf'
            exact q)
          obtain ⟨⟨u0, u1, u2⟩, v0, v1, v2, v3, v4⟩ := hCC.out _ kD
          clear hf d0 d2
          go_wp2
          refine wp_region_noPanic ?_
          refine wp_region_held_drew (S := fun Z => Z.cell? ⟨B, 0, none⟩ = some (.int .i64 kd) ∧ Z.cell? ⟨B, 1, none⟩ = some (.int .i64 (r : Int)) ∧ Z.cell? ⟨B, 2, none⟩ = some (.int .i64 kn)) (by kernel_rfl) ⟨u0, u1, u2⟩ (fun hHeld => ?_)
          clear u0 u1 u2 f0 f1 f2 f3 f4 d1
          refine wpAnyH_take (i := 0) (v := ?_) rfl (by kernel_rfl) (by kernel_rfl) (by kernel_rfl) (fun _ _ _ h => h) (Or.inl ⟨by rfl, ?_⟩) (by assumption) ?_
          rotate_left
          · (intro wS hSw; (try dsimp only at hSw); obtain ⟨hS1, hS2, hS3⟩ := hSw; (try simp only [List.getElem_toArray, List.getElem_cons_succ, List.getElem_cons_zero]); go_simp; try (with_reducible rfl))
          try simp only [Act.put, List.getElem_toArray, List.getElem_cons_succ, List.getElem_cons_zero, List.setIfInBounds_toArray, List.set_cons_zero, List.set_cons_succ]
          refine wpAnyH_take (i := 1) (v := ?_) rfl (by kernel_rfl) (by kernel_rfl) (by kernel_rfl) (fun _ _ _ h => h) (Or.inl ⟨by rfl, ?_⟩) (by assumption) ?_
          rotate_left
          · (intro wS hSw; (try dsimp only at hSw); obtain ⟨hS1, hS2, hS3⟩ := hSw; (try simp only [List.getElem_toArray, List.getElem_cons_succ, List.getElem_cons_zero]); go_simp; try (with_reducible rfl))
          try simp only [Act.put, List.getElem_toArray, List.getElem_cons_succ, List.getElem_cons_zero, List.setIfInBounds_toArray, List.set_cons_zero, List.set_cons_succ]
          refine wpAnyH_take (i := 2) (v := ?_) rfl (by kernel_rfl) (by kernel_rfl) (by kernel_rfl) (fun _ _ _ h => h) (Or.inl ⟨by rfl, ?_⟩) (by assumption) ?_
          rotate_left
          · (intro wS hSw; (try dsimp only at hSw); obtain ⟨hS1, hS2, hS3⟩ := hSw; (try simp only [List.getElem_toArray, List.getElem_cons_succ, List.getElem_cons_zero]); go_simp; try (with_reducible rfl))
          try simp only [Act.put, List.getElem_toArray, List.getElem_cons_succ, List.getElem_cons_zero, List.setIfInBounds_toArray, List.set_cons_zero, List.set_cons_succ]
          refine wpAnyH_take (i := 3) (v := ?_) rfl (by kernel_rfl) (by kernel_rfl) (by kernel_rfl) (fun _ _ _ h => h) (Or.inl ⟨by rfl, ?_⟩) (by assumption) ?_
          rotate_left
          · (intro wS hSw; (try dsimp only at hSw); obtain ⟨hS1, hS2, hS3⟩ := hSw; (try simp only [List.getElem_toArray, List.getElem_cons_succ, List.getElem_cons_zero]); go_simp; try (with_reducible rfl))
          try simp only [Act.put, List.getElem_toArray, List.getElem_cons_succ, List.getElem_cons_zero, List.setIfInBounds_toArray, List.set_cons_zero, List.set_cons_succ]
          refine wpAnyH_take (i := 4) (v := ?_) rfl (by kernel_rfl) (by kernel_rfl) (by kernel_rfl) (fun _ _ _ h => h) (Or.inl ⟨by rfl, ?_⟩) (by assumption) ?_
          rotate_left
          · (intro wS hSw; (try dsimp only at hSw); obtain ⟨hS1, hS2, hS3⟩ := hSw; (try simp only [List.getElem_toArray, List.getElem_cons_succ, List.getElem_cons_zero]); go_simp; try (with_reducible rfl))
          try simp only [Act.put, List.getElem_toArray, List.getElem_cons_succ, List.getElem_cons_zero, List.setIfInBounds_toArray, List.set_cons_zero, List.set_cons_succ]
          refine wpAnyH_take (i := 5) (v := ?_) rfl (by kernel_rfl) (by kernel_rfl) (by kernel_rfl) (fun _ _ _ h => h) (Or.inl ⟨by rfl, ?_⟩) (by assumption) ?_
          rotate_left
          · (intro wS hSw; (try dsimp only at hSw); obtain ⟨hS1, hS2, hS3⟩ := hSw; (try simp only [List.getElem_toArray, List.getElem_cons_succ, List.getElem_cons_zero]); go_simp; try (with_reducible rfl))
          try simp only [Act.put, List.getElem_toArray, List.getElem_cons_succ, List.getElem_cons_zero, List.setIfInBounds_toArray, List.set_cons_zero, List.set_cons_succ]
          refine wpAnyH_take (i := 6) (v := ?_) rfl (by kernel_rfl) (by kernel_rfl) (by kernel_rfl) (fun _ _ _ h => h) (Or.inl ⟨by rfl, ?_⟩) (by assumption) ?_
          rotate_left
          · (intro wS hSw; (try dsimp only at hSw); obtain ⟨hS1, hS2, hS3⟩ := hSw; (try simp only [List.getElem_toArray, List.getElem_cons_succ, List.getElem_cons_zero]); go_simp; try (with_reducible rfl))
          try simp only [Act.put, List.getElem_toArray, List.getElem_cons_succ, List.getElem_cons_zero, List.setIfInBounds_toArray, List.set_cons_zero, List.set_cons_succ]
          refine wpAnyH_take (i := 8) (v := ?_) rfl (by kernel_rfl) (by kernel_rfl) (by kernel_rfl) (fun _ _ _ h => h) (Or.inl ⟨by rfl, ?_⟩) (by assumption) ?_
          rotate_left
          · (intro wS hSw; (try dsimp only at hSw); obtain ⟨hS1, hS2, hS3⟩ := hSw; (try simp only [List.getElem_toArray, List.getElem_cons_succ, List.getElem_cons_zero]); go_simp; try (with_reducible rfl))
          try simp only [Act.put, List.getElem_toArray, List.getElem_cons_succ, List.getElem_cons_zero, List.setIfInBounds_toArray, List.set_cons_zero, List.set_cons_succ]
          refine wpAnyH_ready (rs := [7]) (by kernel_rfl) (by simp) ?_
          refine AllReadyH.cons rfl (fun K hK => ?_) AllReadyH.nil
          go_simp
          obtain ⟨⟨u0, u1, u2⟩, _⟩ := hCC.out _ kD
          refine hK.out _ _ ⟨u0, u1, u2⟩ (fun hHeld => ?_)
          clear hK K
          try simp only [Act.put, List.getElem_toArray, List.getElem_cons_succ, List.getElem_cons_zero, List.setIfInBounds_toArray, List.set_cons_zero, List.set_cons_succ]
          clear u0 u1 u2 v0 v1 v2 v3 v4
          refine wpAnyH_ready (rs := [9]) (by kernel_rfl) (by simp) ?_
          refine AllReadyH.cons rfl (fun K hK => ?_) AllReadyH.nil
          go_simp
          refine (changedC f ⟨kd, (r : Int), kn⟩ _ HG.out HS.out).mono ?_
          rintro e w3 ⟨rfl, hk3⟩
          have k3 := kD.trans hk3 (fun _ _ h => h)
          obtain ⟨⟨u0, u1, u2⟩, v0, v1, v2, v3, v4⟩ := hCC.out _ k3
          have F3 := Lib.hid (F2.out.quiet k3)
          have FP := Lib.hid (HPut.out w3 F3.out HG.out r rfl hrN f HFf.out)
          have HAB3 := Lib.hid (HAB2.out.keep k3 (fun h => h))
          obtain ⟨V, hV⟩ : ∃ V, V = stepF f ⟨kd, (r : Int), kn⟩ := ⟨_, rfl⟩
          rw [← hV] at FP
          rw [← hV]
          clear hk3 hV
          unfold ftC
          go_wp2_with fail
          refine hK.out _ _ ⟨u0, u1, u2⟩ (fun hHeld => ?_)
          clear hK K
          try simp only [Act.put, List.getElem_toArray, List.getElem_cons_succ, List.getElem_cons_zero, List.setIfInBounds_toArray, List.set_cons_zero, List.set_cons_succ]
          refine wpAnyH_take (i := 10) (v := ?_) rfl (by kernel_rfl) (by kernel_rfl) (by kernel_rfl) (fun _ _ _ h => h) (Or.inl ⟨by rfl, ?_⟩) (by assumption) ?_
          rotate_left
          · (intro wS hSw; (try dsimp only at hSw); obtain ⟨hS1, hS2, hS3⟩ := hSw; (try simp only [List.getElem_toArray, List.getElem_cons_succ, List.getElem_cons_zero]); go_simp; try (with_reducible rfl))
          try simp only [Act.put, List.getElem_toArray, List.getElem_cons_succ, List.getElem_cons_zero, List.setIfInBounds_toArray, List.set_cons_zero, List.set_cons_succ]
          clear u0 u1 u2
          have g0 := F3.out.frozen (r * 5)
          have g1 := F3.out.frozen (r * 5 + 1)
          have g2 := F3.out.frozen (r * 5 + 2)
          have g3 := F3.out.frozen (r * 5 + 3)
          have g4 := F3.out.frozen (r * 5 + 4)
          refine wpAnyH_ready (rs := [11]) (by kernel_rfl) (by simp) ?_
          refine AllReadyH.cons rfl (fun K hK => ?_) AllReadyH.nil
          go_simp
          obtain ⟨Z, hZ⟩ : ∃ Z, Z = w3.setCells w.heap.size (r * 5) (ftL V) := ⟨_, rfl⟩
          rw [← hZ] at FP
          have kZ : Keep (fun i => i = w.heap.size) w3 Z := by rw [hZ]; exact Keep.setCells (S := fun i => i = w.heap.size) (fun _ => rfl) _ _ (Keep.refl _ w3)
          have hAZ := HAB3.out.keep kZ (fun e => by have h1 := HB1.out; have h2 := FX.out.kp.size; have h3 := HWl.out; omega)
          obtain ⟨u0, u1, u2⟩ : K3 Z B kd (r : Int) kn := ⟨hAZ.cell 0, hAZ.cell 1, hAZ.cell 2⟩
          clear hAZ kZ v0 v1 v2 v3 v4 g0 g1 g2 g3 g4
          show K _ (w3.setCells w.heap.size (r * 5) (ftL V))
          rw [← hZ]
          clear hZ
          refine hK.out _ _ ⟨u0, u1, u2⟩ (fun hHeld => ?_)
          clear hK K
          try simp only [Act.put, List.getElem_toArray, List.getElem_cons_succ, List.getElem_cons_zero, List.setIfInBounds_toArray, List.set_cons_zero, List.set_cons_succ]
          refine wpAnyH_done (by kernel_rfl) ?_ _
          refine NoPanic.normal ?_
          clear u0 u1 u2 hHeld
          go_wp2
          go_roundw
          case rel => exact ⟨k + 1, by omega, by go_num, FP⟩
          case measure => simp [intOf]; omega
        · have d : decide (rc < (N : Int)) = false := decide_eq_false hr
          have FS : Hid (Fg w w2 w.heap.size N (k + 1) L) := Lib.hid (HSkip.out w2 F2.out (fun h => hr h.2))
          go_wp2
          go_roundw
          case rel => exact ⟨k + 1, by omega, by go_num, FS⟩
          case measure => simp [intOf]; omega
    · have FE : Hid (Fg w wr w.heap.size N L.length L) := Lib.hid (by
        have e : k = L.length := by have := HL.out; omega
        rw [← e]
        exact F.out)
      go_wp2
      go_ret
      exact HQ.out _ _ FE.out
end Go.Proofs.YtimoebicacnihaaGreatDoor.Ln
end

section
/-
  What the document's Fates returns, for rows of good marks.
-/
namespace Go.Proofs.YtimoebicacnihaaGreatDoor.Ln
open Go.RowKit
set_option linter.unusedVariables false
set_option linter.unusedSimpArgs false

set_option maxHeartbeats 16000000 in
set_option maxRecDepth 100000 in
theorem refFatesC {P : Nat → Prop} {w : World} (N : Nat) (hN8 : N ≤ 8) (x : Option Addr) (l c : Nat) (L : List Mk) (hn : l = L.length) (hl : l ≤ 1000000000) (hgood : ∀ m ∈ L, goodK m = true) (h : MkP P w x L) :
    Calls Tryz.prog 16 #[.int .i64 (N : Int), .slice x l c] w (FatP N L w) := by
  have HQ : Hid (∀ g w', Fg w w' g N L.length L → FatP N L w (.returned (.slice (some ⟨g, 0, none⟩) N N)) w') := Lib.hid (fun g w' hg => ⟨g, hg.new, rfl, by have := hg.row; rwa [List.take_length] at this, hg.kp⟩)
  have hmk := make_ft N hN8
  have F0 : Hid (Fg w (w.alloc (.cells (madeCells zF (N * 5)) 46)) w.heap.size N 0 L) := Lib.hid ⟨made_ft w N, keep_new w _, Nat.le_refl _⟩
  have HX0 := Lib.hid (StP.mono h (Q := fun k => k < w.heap.size) (fun b hb _ => hb))
  have HL := Lib.hid hn
  have HGd := Lib.hid hgood
  clear h hn hgood
  go_enter Tryz.func16, Tryz.ntmps16
  go_wp2
  go_loopw [6] (fun i wr => ∃ (k : Nat), k ≤ l ∧ i = .int .i64 (k : Int) ∧ Hid (Fg w wr w.heap.size N k L)) (fun i _ => l - (intOf i).toNat)
  case atStart => exact ⟨0, by omega, rfl, F0.out⟩
  case round =>
    obtain ⟨k, hk, rfl, F⟩ := hrel
    by_cases hlt : (k : Int) < (l : Int)
    · have hkl : k < L.length := by have := HL.out; omega
      have k0 : (0 : Int) ≤ (k : Int) := by omega
      obtain ⟨b, off, hb, _, hx, c0, c1, c2⟩ := mk_at (mk_quiet HX0.out F.out.kp) k hkl
      have hCk : Hid (∀ Z, Keep (fun i => i = w.heap.size) wr Z → Z.cell? ⟨b, off + k * 3, none⟩ = some (.int .i64 L[k].kind) ∧ Z.cell? ⟨b, off + k * 3 + 1, none⟩ = some (.int .i64 L[k].rcpt) ∧ Z.cell? ⟨b, off + k * 3 + 2, none⟩ = some (.int .i64 L[k].n)) := Lib.hid (fun Z kk => by
        have hne : ¬ b = w.heap.size := by omega
        exact ⟨kk.cell c0 hne, kk.cell c1 hne, kk.cell c2 hne⟩)
      subst hx
      have HG : Hid (goodK L[k] = true) := Lib.hid (HGd.out _ (List.getElem_mem hkl))
      obtain ⟨m, hm⟩ : ∃ m, m = L[k] := ⟨_, rfl⟩
      rw [← hm] at c0 c1 c2 hCk HG
      have HSkip : Hid (∀ wr, Fg w wr w.heap.size N k L → ¬ (goodK m = true ∧ m.rcpt < (N : Int)) → Fg w wr w.heap.size N (k + 1) L) := Lib.hid (fun wr h hn => h.skip hkl (by rw [← hm]; exact hn))
      have HPut : Hid (∀ wr, Fg w wr w.heap.size N k L → goodK m = true → ∀ r : Nat, m.rcpt = (r : Int) → r < N → ∀ f, f = (fatesM N (L.take k)).getD r ft0 → Fg w (wr.setCells w.heap.size (r * 5) (ftL (stepF f m))) w.heap.size N (k + 1) L) := Lib.hid (fun wr h hg r hr hrN f hf => by
        rw [hf, hm]
        exact h.put hkl (by rw [← hm]; exact hg) r (by rw [← hm]; exact hr) hrN)
      have HSm : Hid (∀ r, r < N → Small 4611686018427387904 ((fatesM N (L.take k)).getD r ft0)) := Lib.hid (fun r hr => (fatesM_small N (L.take k) r hr).mono (by rw [List.length_take]; omega))
      clear hm
      obtain ⟨kd, rc, kn⟩ := m
      simp only at c0 c1 c2
      have hG := goodK_iff.1 HG.out
      have hr0 : 0 ≤ rc := hG.2.2.1
      clear hG
      by_cases hr : rc < (N : Int)
      · obtain ⟨r, rfl⟩ : ∃ r : Nat, rc = (r : Int) := ⟨rc.toNat, by omega⟩
        have hrN : r < N := by omega
        obtain ⟨f, hf, f0, f1, f2, f3, f4⟩ := F.out.cell r hrN
        have HFf := Lib.hid hf
        have HS := Lib.hid (HSm.out r hrN)
        rw [← hf] at HS
        have kD : Keep (fun _ => False) wr wr.drew := (Keep.refl _ wr).drew
        have hCF : Hid (∀ Z, Keep (fun _ => False) wr Z → F5 Z w.heap.size (r * 5) f) := Lib.hid (fun Z k => by
          obtain ⟨f', hf', q⟩ := (F.out.quiet k).cell r hrN
          rw [← hf] at hf'
          subst hf'
          exact q)
        have kg : ∀ {Z}, Keep (fun _ => False) wr Z → Keep (fun i => i = w.heap.size) wr Z := fun k => k.mono (fun _ _ h => h.elim)
        obtain ⟨v0, v1, v2, v3, v4⟩ := hCF.out _ kD
        obtain ⟨u0, u1, u2⟩ := hCk.out _ (kg kD)
        clear hf c0 c2
        go_wp2
        refine wp_region_noPanic ?_
        refine wp_region_held_drew (S := fun Z => Z.cell? ⟨b, off + k * 3, none⟩ = some (.int .i64 kd) ∧ Z.cell? ⟨b, off + k * 3 + 1, none⟩ = some (.int .i64 (r : Int)) ∧ Z.cell? ⟨b, off + k * 3 + 2, none⟩ = some (.int .i64 kn)) (by kernel_rfl) ⟨u0, u1, u2⟩ (fun hHeld => ?_)
        clear u0 u1 u2 f0 f1 f2 f3 f4 c1
        refine wpAnyH_take (i := 0) (v := ?_) rfl (by kernel_rfl) (by kernel_rfl) (by kernel_rfl) (fun _ _ _ h => h) (Or.inl ⟨by rfl, ?_⟩) (by assumption) ?_
        rotate_left
        · (intro wS hSw; (try dsimp only at hSw); obtain ⟨hS1, hS2, hS3⟩ := hSw; (try simp only [List.getElem_toArray, List.getElem_cons_succ, List.getElem_cons_zero]); go_simp; try (with_reducible rfl))
        try simp only [Act.put, List.getElem_toArray, List.getElem_cons_succ, List.getElem_cons_zero, List.setIfInBounds_toArray, List.set_cons_zero, List.set_cons_succ]
        refine wpAnyH_take (i := 1) (v := ?_) rfl (by kernel_rfl) (by kernel_rfl) (by kernel_rfl) (fun _ _ _ h => h) (Or.inl ⟨by rfl, ?_⟩) (by assumption) ?_
        rotate_left
        · (intro wS hSw; (try dsimp only at hSw); obtain ⟨hS1, hS2, hS3⟩ := hSw; (try simp only [List.getElem_toArray, List.getElem_cons_succ, List.getElem_cons_zero]); go_simp; try (with_reducible rfl))
        try simp only [Act.put, List.getElem_toArray, List.getElem_cons_succ, List.getElem_cons_zero, List.setIfInBounds_toArray, List.set_cons_zero, List.set_cons_succ]
        refine wpAnyH_take (i := 2) (v := ?_) rfl (by kernel_rfl) (by kernel_rfl) (by kernel_rfl) (fun _ _ _ h => h) (Or.inl ⟨by rfl, ?_⟩) (by assumption) ?_
        rotate_left
        · (intro wS hSw; (try dsimp only at hSw); obtain ⟨hS1, hS2, hS3⟩ := hSw; (try simp only [List.getElem_toArray, List.getElem_cons_succ, List.getElem_cons_zero]); go_simp; try (with_reducible rfl))
        try simp only [Act.put, List.getElem_toArray, List.getElem_cons_succ, List.getElem_cons_zero, List.setIfInBounds_toArray, List.set_cons_zero, List.set_cons_succ]
        refine wpAnyH_take (i := 3) (v := ?_) rfl (by kernel_rfl) (by kernel_rfl) (by kernel_rfl) (fun _ _ _ h => h) (Or.inl ⟨by rfl, ?_⟩) (by assumption) ?_
        rotate_left
        · (intro wS hSw; (try dsimp only at hSw); obtain ⟨hS1, hS2, hS3⟩ := hSw; (try simp only [List.getElem_toArray, List.getElem_cons_succ, List.getElem_cons_zero]); go_simp; try (with_reducible rfl))
        try simp only [Act.put, List.getElem_toArray, List.getElem_cons_succ, List.getElem_cons_zero, List.setIfInBounds_toArray, List.set_cons_zero, List.set_cons_succ]
        refine wpAnyH_take (i := 4) (v := ?_) rfl (by kernel_rfl) (by kernel_rfl) (by kernel_rfl) (fun _ _ _ h => h) (Or.inl ⟨by rfl, ?_⟩) (by assumption) ?_
        rotate_left
        · (intro wS hSw; (try dsimp only at hSw); obtain ⟨hS1, hS2, hS3⟩ := hSw; (try simp only [List.getElem_toArray, List.getElem_cons_succ, List.getElem_cons_zero]); go_simp; try (with_reducible rfl))
        try simp only [Act.put, List.getElem_toArray, List.getElem_cons_succ, List.getElem_cons_zero, List.setIfInBounds_toArray, List.set_cons_zero, List.set_cons_succ]
        refine wpAnyH_take (i := 5) (v := ?_) rfl (by kernel_rfl) (by kernel_rfl) (by kernel_rfl) (fun _ _ _ h => h) (Or.inl ⟨by rfl, ?_⟩) (by assumption) ?_
        rotate_left
        · (intro wS hSw; (try dsimp only at hSw); obtain ⟨hS1, hS2, hS3⟩ := hSw; (try simp only [List.getElem_toArray, List.getElem_cons_succ, List.getElem_cons_zero]); go_simp; try (with_reducible rfl))
        try simp only [Act.put, List.getElem_toArray, List.getElem_cons_succ, List.getElem_cons_zero, List.setIfInBounds_toArray, List.set_cons_zero, List.set_cons_succ]
        refine wpAnyH_take (i := 6) (v := ?_) rfl (by kernel_rfl) (by kernel_rfl) (by kernel_rfl) (fun _ _ _ h => h) (Or.inl ⟨by rfl, ?_⟩) (by assumption) ?_
        rotate_left
        · (intro wS hSw; (try dsimp only at hSw); obtain ⟨hS1, hS2, hS3⟩ := hSw; (try simp only [List.getElem_toArray, List.getElem_cons_succ, List.getElem_cons_zero]); go_simp; try (with_reducible rfl))
        try simp only [Act.put, List.getElem_toArray, List.getElem_cons_succ, List.getElem_cons_zero, List.setIfInBounds_toArray, List.set_cons_zero, List.set_cons_succ]
        refine wpAnyH_take (i := 7) (v := ?_) rfl (by kernel_rfl) (by kernel_rfl) (by kernel_rfl) (fun _ _ _ h => h) (Or.inl ⟨by rfl, ?_⟩) (by assumption) ?_
        rotate_left
        · (intro wS hSw; (try dsimp only at hSw); obtain ⟨hS1, hS2, hS3⟩ := hSw; (try simp only [List.getElem_toArray, List.getElem_cons_succ, List.getElem_cons_zero]); go_simp; try (with_reducible rfl))
        try simp only [Act.put, List.getElem_toArray, List.getElem_cons_succ, List.getElem_cons_zero, List.setIfInBounds_toArray, List.set_cons_zero, List.set_cons_succ]
        refine wpAnyH_take (i := 8) (v := ?_) rfl (by kernel_rfl) (by kernel_rfl) (by kernel_rfl) (fun _ _ _ h => h) (Or.inl ⟨by rfl, ?_⟩) (by assumption) ?_
        rotate_left
        · (intro wS hSw; (try dsimp only at hSw); obtain ⟨hS1, hS2, hS3⟩ := hSw; (try simp only [List.getElem_toArray, List.getElem_cons_succ, List.getElem_cons_zero]); go_simp; try (with_reducible rfl))
        try simp only [Act.put, List.getElem_toArray, List.getElem_cons_succ, List.getElem_cons_zero, List.setIfInBounds_toArray, List.set_cons_zero, List.set_cons_succ]
        refine wpAnyH_take (i := 9) (v := ?_) rfl (by kernel_rfl) (by kernel_rfl) (by kernel_rfl) (fun _ _ _ h => h) (Or.inl ⟨by rfl, ?_⟩) (by assumption) ?_
        rotate_left
        · (intro wS hSw; (try dsimp only at hSw); obtain ⟨hS1, hS2, hS3⟩ := hSw; (try simp only [List.getElem_toArray, List.getElem_cons_succ, List.getElem_cons_zero]); go_simp; try (with_reducible rfl))
        try simp only [Act.put, List.getElem_toArray, List.getElem_cons_succ, List.getElem_cons_zero, List.setIfInBounds_toArray, List.set_cons_zero, List.set_cons_succ]
        refine wpAnyH_take (i := 10) (v := ?_) rfl (by kernel_rfl) (by kernel_rfl) (by kernel_rfl) (fun _ _ _ h => h) (Or.inl ⟨by rfl, ?_⟩) (by assumption) ?_
        rotate_left
        · (intro wS hSw; (try dsimp only at hSw); obtain ⟨hS1, hS2, hS3⟩ := hSw; (try simp only [List.getElem_toArray, List.getElem_cons_succ, List.getElem_cons_zero]); go_simp; try (with_reducible rfl))
        try simp only [Act.put, List.getElem_toArray, List.getElem_cons_succ, List.getElem_cons_zero, List.setIfInBounds_toArray, List.set_cons_zero, List.set_cons_succ]
        refine wpAnyH_take (i := 11) (v := ?_) rfl (by kernel_rfl) (by kernel_rfl) (by kernel_rfl) (fun _ _ _ h => h) (Or.inl ⟨by rfl, ?_⟩) (by assumption) ?_
        rotate_left
        · (intro wS hSw; (try dsimp only at hSw); obtain ⟨hS1, hS2, hS3⟩ := hSw; (try simp only [List.getElem_toArray, List.getElem_cons_succ, List.getElem_cons_zero]); go_simp; try (with_reducible rfl))
        try simp only [Act.put, List.getElem_toArray, List.getElem_cons_succ, List.getElem_cons_zero, List.setIfInBounds_toArray, List.set_cons_zero, List.set_cons_succ]
        refine wpAnyH_take (i := 12) (v := ?_) rfl (by kernel_rfl) (by kernel_rfl) (by kernel_rfl) (fun _ _ _ h => h) (Or.inl ⟨by rfl, ?_⟩) (by assumption) ?_
        rotate_left
        · (intro wS hSw; (try dsimp only at hSw); obtain ⟨hS1, hS2, hS3⟩ := hSw; (try simp only [List.getElem_toArray, List.getElem_cons_succ, List.getElem_cons_zero]); go_simp; try (with_reducible rfl))
        try simp only [Act.put, List.getElem_toArray, List.getElem_cons_succ, List.getElem_cons_zero, List.setIfInBounds_toArray, List.set_cons_zero, List.set_cons_succ]
        refine wpAnyH_take (i := 14) (v := ?_) rfl (by kernel_rfl) (by kernel_rfl) (by kernel_rfl) (fun _ _ _ h => h) (Or.inl ⟨by rfl, ?_⟩) (by assumption) ?_
        rotate_left
        · (intro wS hSw; (try dsimp only at hSw); obtain ⟨hS1, hS2, hS3⟩ := hSw; (try simp only [List.getElem_toArray, List.getElem_cons_succ, List.getElem_cons_zero]); go_simp; try (with_reducible rfl))
        try simp only [Act.put, List.getElem_toArray, List.getElem_cons_succ, List.getElem_cons_zero, List.setIfInBounds_toArray, List.set_cons_zero, List.set_cons_succ]
        refine wpAnyH_take (i := 15) (v := ?_) rfl (by kernel_rfl) (by kernel_rfl) (by kernel_rfl) (fun _ _ _ h => h) (Or.inl ⟨by rfl, ?_⟩) (by assumption) ?_
        rotate_left
        · (intro wS hSw; (try dsimp only at hSw); obtain ⟨hS1, hS2, hS3⟩ := hSw; (try simp only [List.getElem_toArray, List.getElem_cons_succ, List.getElem_cons_zero]); go_simp; try (with_reducible rfl))
        try simp only [Act.put, List.getElem_toArray, List.getElem_cons_succ, List.getElem_cons_zero, List.setIfInBounds_toArray, List.set_cons_zero, List.set_cons_succ]
        refine wpAnyH_take (i := 16) (v := ?_) rfl (by kernel_rfl) (by kernel_rfl) (by kernel_rfl) (fun _ _ _ h => h) (Or.inl ⟨by rfl, ?_⟩) (by assumption) ?_
        rotate_left
        · (intro wS hSw; (try dsimp only at hSw); obtain ⟨hS1, hS2, hS3⟩ := hSw; (try simp only [List.getElem_toArray, List.getElem_cons_succ, List.getElem_cons_zero]); go_simp; try (with_reducible rfl))
        try simp only [Act.put, List.getElem_toArray, List.getElem_cons_succ, List.getElem_cons_zero, List.setIfInBounds_toArray, List.set_cons_zero, List.set_cons_succ]
        refine wpAnyH_take (i := 17) (v := ?_) rfl (by kernel_rfl) (by kernel_rfl) (by kernel_rfl) (fun _ _ _ h => h) (Or.inl ⟨by rfl, ?_⟩) (by assumption) ?_
        rotate_left
        · (intro wS hSw; (try dsimp only at hSw); obtain ⟨hS1, hS2, hS3⟩ := hSw; (try simp only [List.getElem_toArray, List.getElem_cons_succ, List.getElem_cons_zero]); go_simp; try (with_reducible rfl))
        try simp only [Act.put, List.getElem_toArray, List.getElem_cons_succ, List.getElem_cons_zero, List.setIfInBounds_toArray, List.set_cons_zero, List.set_cons_succ]
        refine wpAnyH_ready (rs := [13]) (by kernel_rfl) (by simp) ?_
        refine AllReadyH.cons rfl (fun K hK => ?_) AllReadyH.nil
        go_simp
        obtain ⟨u0, u1, u2⟩ := hCk.out _ (kg kD)
        refine hK.out _ _ ⟨u0, u1, u2⟩ (fun hHeld => ?_)
        clear hK K
        try simp only [Act.put, List.getElem_toArray, List.getElem_cons_succ, List.getElem_cons_zero, List.setIfInBounds_toArray, List.set_cons_zero, List.set_cons_succ]
        clear u0 u1 u2 v0 v1 v2 v3 v4
        refine wpAnyH_ready (rs := [18]) (by kernel_rfl) (by simp) ?_
        refine AllReadyH.cons rfl (fun K hK => ?_) AllReadyH.nil
        go_simp
        refine (stepC f ⟨kd, (r : Int), kn⟩ _ HG.out HS.out).mono ?_
        rintro e w3 ⟨rfl, hk3⟩
        have k3 := kD.trans hk3 (fun _ _ h => h)
        obtain ⟨v0, v1, v2, v3, v4⟩ := hCF.out _ k3
        obtain ⟨u0, u1, u2⟩ := hCk.out _ (kg k3)
        have F3 := Lib.hid (F.out.quiet k3)
        have FP := Lib.hid (HPut.out w3 F3.out HG.out r rfl hrN f HFf.out)
        obtain ⟨V, hV⟩ : ∃ V, V = stepF f ⟨kd, (r : Int), kn⟩ := ⟨_, rfl⟩
        rw [← hV] at FP
        rw [← hV]
        clear hk3 hV
        unfold ftC
        go_wp2_with fail
        refine hK.out _ _ ⟨u0, u1, u2⟩ (fun hHeld => ?_)
        clear hK K
        try simp only [Act.put, List.getElem_toArray, List.getElem_cons_succ, List.getElem_cons_zero, List.setIfInBounds_toArray, List.set_cons_zero, List.set_cons_succ]
        refine wpAnyH_take (i := 19) (v := ?_) rfl (by kernel_rfl) (by kernel_rfl) (by kernel_rfl) (fun _ _ _ h => h) (Or.inl ⟨by rfl, ?_⟩) (by assumption) ?_
        rotate_left
        · (intro wS hSw; (try dsimp only at hSw); obtain ⟨hS1, hS2, hS3⟩ := hSw; (try simp only [List.getElem_toArray, List.getElem_cons_succ, List.getElem_cons_zero]); go_simp; try (with_reducible rfl))
        try simp only [Act.put, List.getElem_toArray, List.getElem_cons_succ, List.getElem_cons_zero, List.setIfInBounds_toArray, List.set_cons_zero, List.set_cons_succ]
        clear u0 u1 u2
        have g0 := F3.out.frozen (r * 5)
        have g1 := F3.out.frozen (r * 5 + 1)
        have g2 := F3.out.frozen (r * 5 + 2)
        have g3 := F3.out.frozen (r * 5 + 3)
        have g4 := F3.out.frozen (r * 5 + 4)
        refine wpAnyH_ready (rs := [20]) (by kernel_rfl) (by simp) ?_
        refine AllReadyH.cons rfl (fun K hK => ?_) AllReadyH.nil
        go_simp
        obtain ⟨Z, hZ⟩ : ∃ Z, Z = w3.setCells w.heap.size (r * 5) (ftL V) := ⟨_, rfl⟩
        rw [← hZ] at FP
        have kZ : Keep (fun i => i = w.heap.size) w3 Z := by rw [hZ]; exact Keep.setCells (S := fun i => i = w.heap.size) (fun _ => rfl) _ _ (Keep.refl _ w3)
        obtain ⟨u0, u1, u2⟩ := hCk.out Z ((kg k3).trans kZ (fun _ _ h => h))
        clear kZ v0 v1 v2 v3 v4 g0 g1 g2 g3 g4
        show K _ (w3.setCells w.heap.size (r * 5) (ftL V))
        rw [← hZ]
        clear hZ
        refine hK.out _ _ ⟨u0, u1, u2⟩ (fun hHeld => ?_)
        clear hK K
        try simp only [Act.put, List.getElem_toArray, List.getElem_cons_succ, List.getElem_cons_zero, List.setIfInBounds_toArray, List.set_cons_zero, List.set_cons_succ]
        refine wpAnyH_done (by kernel_rfl) ?_ _
        refine NoPanic.normal ?_
        clear u0 u1 u2 hHeld
        go_wp2
        go_roundw
        case rel => exact ⟨k + 1, by omega, by go_num, FP⟩
        case measure => simp [intOf]; omega
      · have d : decide (rc < (N : Int)) = false := decide_eq_false hr
        have FS : Hid (Fg w wr w.heap.size N (k + 1) L) := Lib.hid (HSkip.out wr F.out (fun h => hr h.2))
        go_wp2
        go_roundw
        case rel => exact ⟨k + 1, by omega, by go_num, FS⟩
        case measure => simp [intOf]; omega
    · have FE : Hid (Fg w wr w.heap.size N L.length L) := Lib.hid (by
        have e : k = L.length := by have := HL.out; omega
        rw [← e]
        exact F.out)
      go_wp2
      go_ret
      exact HQ.out _ _ FE.out
end Go.Proofs.YtimoebicacnihaaGreatDoor.Ln
end

section
/-
  SameMarks and SameFates of equal rows; the law's answers.
-/
namespace Go.Proofs.YtimoebicacnihaaGreatDoor.Ln
open Go.RowKit
set_option linter.unusedVariables false
set_option linter.unusedSimpArgs false

set_option maxHeartbeats 4000000 in
set_option maxRecDepth 100000 in
theorem sameMarksC {P Q : Nat → Prop} {w : World} (x y : Option Addr) (l c d : Nat) (L : List Mk) (hn : l = L.length) (hl : l ≤ 1000000000) (h : MkP P w x L) (h' : MkP Q w y L) :
    Calls Tryz.prog 13 #[.slice x l c, .slice y l d] w (Quiet (.bool true) w) := by
  have HX := Lib.hid h
  have HY := Lib.hid h'
  have HL := Lib.hid hn
  clear h h' hn
  go_enter Tryz.func13, Tryz.ntmps13
  go_wp2
  go_loopw [5] (fun i wr => ∃ (k : Nat), k ≤ l ∧ i = .int .i64 (k : Int) ∧ Hid (Keep (fun _ => False) w wr)) (fun i _ => l - (intOf i).toNat)
  case atStart => exact ⟨0, by omega, rfl, Lib.hid (Keep.refl _ w)⟩
  case round =>
    obtain ⟨k, hk, rfl, K⟩ := hrel
    by_cases hlt : (k : Int) < (l : Int)
    · have hkl : k < L.length := by have := HL.out; omega
      have k0 : (0 : Int) ≤ (k : Int) := by omega
      obtain ⟨b, off, _, _, hx, c0, c1, c2⟩ := mk_at (mk_quiet HX.out K.out) k hkl
      obtain ⟨b', off', _, _, hy, d0, d1, d2⟩ := mk_at (mk_quiet HY.out K.out) k hkl
      subst hx hy
      obtain ⟨m, hm⟩ : ∃ m, m = L[k] := ⟨_, rfl⟩
      rw [← hm] at c0 c1 c2 d0 d1 d2
      clear hm
      go_wp2
      go_quiet (fail)
      obtain ⟨W2, hW2⟩ : ∃ W2, W2 = wr.drewN nq := ⟨_, rfl⟩
      have K2 : Hid (Keep (fun _ => False) w W2) := Lib.hid (by rw [hW2]; exact keepDrewN K.out nq)
      rw [← hW2]
      clear hW2 c0 c1 c2 d0 d1 d2
      go_wp2
      go_roundw
      case rel => exact ⟨k + 1, by omega, by go_num, K2⟩
      case measure => simp [intOf]; omega
    · go_wp2
      go_ret
      exact ⟨rfl, K.out⟩
set_option maxHeartbeats 4000000 in
set_option maxRecDepth 100000 in
theorem sameFatesC {P Q : Nat → Prop} {w : World} (x y : Option Addr) (l c d : Nat) (L : List Ft) (hn : l = L.length) (hl : l ≤ 1000000000) (h : FtP P w x L) (h' : FtP Q w y L) :
    Calls Tryz.prog 17 #[.slice x l c, .slice y l d] w (Quiet (.bool true) w) := by
  have HX := Lib.hid h
  have HY := Lib.hid h'
  have HL := Lib.hid hn
  clear h h' hn
  go_enter Tryz.func17, Tryz.ntmps17
  go_wp2
  go_loopw [5] (fun i wr => ∃ (k : Nat), k ≤ l ∧ i = .int .i64 (k : Int) ∧ Hid (Keep (fun _ => False) w wr)) (fun i _ => l - (intOf i).toNat)
  case atStart => exact ⟨0, by omega, rfl, Lib.hid (Keep.refl _ w)⟩
  case round =>
    obtain ⟨k, hk, rfl, K⟩ := hrel
    by_cases hlt : (k : Int) < (l : Int)
    · have hkl : k < L.length := by have := HL.out; omega
      have k0 : (0 : Int) ≤ (k : Int) := by omega
      obtain ⟨b, off, _, _, hx, c0, c1, c2, c3, c4⟩ := ft_at (ft_quiet HX.out K.out) k hkl
      obtain ⟨b', off', _, _, hy, d0, d1, d2, d3, d4⟩ := ft_at (ft_quiet HY.out K.out) k hkl
      subst hx hy
      obtain ⟨m, hm⟩ : ∃ m, m = L[k] := ⟨_, rfl⟩
      rw [← hm] at c0 c1 c2 c3 c4 d0 d1 d2 d3 d4
      clear hm
      go_wp2
      go_quiet (fail)
      obtain ⟨W2, hW2⟩ : ∃ W2, W2 = wr.drewN nq := ⟨_, rfl⟩
      have K2 : Hid (Keep (fun _ => False) w W2) := Lib.hid (by rw [hW2]; exact keepDrewN K.out nq)
      rw [← hW2]
      clear hW2 c0 c1 c2 c3 c4 d0 d1 d2 d3 d4
      go_wp2
      go_roundw
      case rel => exact ⟨k + 1, by omega, by go_num, K2⟩
      case measure => simp [intOf]; omega
    · go_wp2
      go_ret
      exact ⟨rfl, K.out⟩

end Go.Proofs.YtimoebicacnihaaGreatDoor.Ln
end
