/-
  What the document's Fates returns, for rows of good marks.
-/
import Derived.Test.YtcplemamcgonkaaH8
namespace Go.Proofs.Ytcplemamcgonkaa.Ln
open Go.RowKit
set_option linter.unusedVariables false
set_option linter.unusedSimpArgs false

set_option maxHeartbeats 16000000 in
set_option maxRecDepth 100000 in
theorem refFatesC {P : Nat → Prop} {w : World} (N : Nat) (hN8 : N ≤ 8) (x : Option Addr) (l c : Nat) (L : List Mk) (hn : l = L.length) (hl : l ≤ 1000000000) (hgood : ∀ m ∈ L, goodK m = true) (h : MkP P w x L) :
    Calls Try.prog 19 #[.int .i64 (N : Int), .slice x l c] w (FatP N L w) := by
  have HQ : Hid (∀ g w', Fg w w' g N L.length L → FatP N L w (.returned (.slice (some ⟨g, 0, none⟩) N N)) w') := Lib.hid (fun g w' hg => ⟨g, hg.new, rfl, by have := hg.row; rwa [List.take_length] at this, hg.kp⟩)
  have hmk := make_ft N hN8
  have F0 : Hid (Fg w (w.alloc (.cells (madeCells zF (N * 5)) 42)) w.heap.size N 0 L) := Lib.hid ⟨made_ft w N, keep_new w _, Nat.le_refl _⟩
  have HX0 := Lib.hid (StP.mono h (Q := fun k => k < w.heap.size) (fun b hb _ => hb))
  have HL := Lib.hid hn
  have HGd := Lib.hid hgood
  clear h hn hgood
  go_enter Try.func19, Try.ntmps19
  go_wp2
  go_loopw [6] (fun i wr => ∃ (k : Nat), k ≤ l ∧ i = .int .i64 (k : Int) ∧ Hid (Fg w wr w.heap.size N k L)) (fun i _ => l - (intOf i).toNat)
  case atStart => exact ⟨0, by omega, rfl, F0.out⟩
  case round =>
    obtain ⟨k, hk, rfl, F⟩ := hrel
    by_cases hlt : (k : Int) < (l : Int)
    · have hkl : k < L.length := by have := HL.out; omega
      have k0 : (0 : Int) ≤ (k : Int) := by omega
      obtain ⟨b, off, hb, _, hx, c0, c1, c2⟩ := mk_at (mk_quiet HX0.out F.out.kp) k hkl
      have hCk : Hid (∀ Z, Keep (fun i => i = w.heap.size) wr Z → Z.cell? ⟨b, off + k * 3, none⟩ = some (.int .i64 L[k].kind) ∧ Z.cell? ⟨b, off + k * 3 + 1, none⟩ = some (.int .i64 L[k].rcpt) ∧ Z.cell? ⟨b, off + k * 3 + 2, none⟩ = some (.int .i64 L[k].n)) := Lib.hid (fun Z kk => by
        have hne : ¬ b = w.heap.size := by omega
        exact ⟨kk.cell c0 hne, kk.cell c1 hne, kk.cell c2 hne⟩)
      subst hx
      have HG : Hid (goodK L[k] = true) := Lib.hid (HGd.out _ (List.getElem_mem hkl))
      obtain ⟨m, hm⟩ : ∃ m, m = L[k] := ⟨_, rfl⟩
      rw [← hm] at c0 c1 c2 hCk HG
      have HSkip : Hid (∀ wr, Fg w wr w.heap.size N k L → ¬ (goodK m = true ∧ m.rcpt < (N : Int)) → Fg w wr w.heap.size N (k + 1) L) := Lib.hid (fun wr h hn => h.skip hkl (by rw [← hm]; exact hn))
      have HPut : Hid (∀ wr, Fg w wr w.heap.size N k L → goodK m = true → ∀ r : Nat, m.rcpt = (r : Int) → r < N → ∀ f, f = (fatesM N (L.take k)).getD r ft0 → Fg w (wr.setCells w.heap.size (r * 5) (ftL (stepF f m))) w.heap.size N (k + 1) L) := Lib.hid (fun wr h hg r hr hrN f hf => by
        rw [hf, hm]
        exact h.put hkl (by rw [← hm]; exact hg) r (by rw [← hm]; exact hr) hrN)
      have HSm : Hid (∀ r, r < N → Small 4611686018427387904 ((fatesM N (L.take k)).getD r ft0)) := Lib.hid (fun r hr => (fatesM_small N (L.take k) r hr).mono (by rw [List.length_take]; omega))
      clear hm
      obtain ⟨kd, rc, kn⟩ := m
      simp only at c0 c1 c2
      have hG := goodK_iff.1 HG.out
      have hr0 : 0 ≤ rc := hG.2.2.1
      clear hG
      by_cases hr : rc < (N : Int)
      · obtain ⟨r, rfl⟩ : ∃ r : Nat, rc = (r : Int) := ⟨rc.toNat, by omega⟩
        have hrN : r < N := by omega
        obtain ⟨f, hf, f0, f1, f2, f3, f4⟩ := F.out.cell r hrN
        have HFf := Lib.hid hf
        have HS := Lib.hid (HSm.out r hrN)
        rw [← hf] at HS
        have kD : Keep (fun _ => False) wr wr.drew := (Keep.refl _ wr).drew
        have hCF : Hid (∀ Z, Keep (fun _ => False) wr Z → F5 Z w.heap.size (r * 5) f) := Lib.hid (fun Z k => by
          obtain ⟨f', hf', q⟩ := (F.out.quiet k).cell r hrN
          rw [← hf] at hf'
          subst hf'
          exact q)
        have kg : ∀ {Z}, Keep (fun _ => False) wr Z → Keep (fun i => i = w.heap.size) wr Z := fun k => k.mono (fun _ _ h => h.elim)
        obtain ⟨v0, v1, v2, v3, v4⟩ := hCF.out _ kD
        obtain ⟨u0, u1, u2⟩ := hCk.out _ (kg kD)
        clear hf c0 c2
        go_wp2
        refine wp_region_noPanic ?_
        refine wp_region_held_drew (S := fun Z => Z.cell? ⟨b, off + k * 3, none⟩ = some (.int .i64 kd) ∧ Z.cell? ⟨b, off + k * 3 + 1, none⟩ = some (.int .i64 (r : Int)) ∧ Z.cell? ⟨b, off + k * 3 + 2, none⟩ = some (.int .i64 kn)) (by kernel_rfl) ⟨u0, u1, u2⟩ (fun hHeld => ?_)
        clear u0 u1 u2 f0 f1 f2 f3 f4 c1
        refine wpAnyH_take (i := 0) (v := ?_) rfl (by kernel_rfl) (by kernel_rfl) (by kernel_rfl) (fun _ _ _ h => h) (Or.inl ⟨by rfl, ?_⟩) (by assumption) ?_
        rotate_left
        · (intro wS hSw; (try dsimp only at hSw); obtain ⟨hS1, hS2, hS3⟩ := hSw; (try simp only [List.getElem_toArray, List.getElem_cons_succ, List.getElem_cons_zero]); go_simp; try (with_reducible rfl))
        try simp only [Act.put, List.getElem_toArray, List.getElem_cons_succ, List.getElem_cons_zero, List.setIfInBounds_toArray, List.set_cons_zero, List.set_cons_succ]
        refine wpAnyH_take (i := 1) (v := ?_) rfl (by kernel_rfl) (by kernel_rfl) (by kernel_rfl) (fun _ _ _ h => h) (Or.inl ⟨by rfl, ?_⟩) (by assumption) ?_
        rotate_left
        · (intro wS hSw; (try dsimp only at hSw); obtain ⟨hS1, hS2, hS3⟩ := hSw; (try simp only [List.getElem_toArray, List.getElem_cons_succ, List.getElem_cons_zero]); go_simp; try (with_reducible rfl))
        try simp only [Act.put, List.getElem_toArray, List.getElem_cons_succ, List.getElem_cons_zero, List.setIfInBounds_toArray, List.set_cons_zero, List.set_cons_succ]
        refine wpAnyH_take (i := 2) (v := ?_) rfl (by kernel_rfl) (by kernel_rfl) (by kernel_rfl) (fun _ _ _ h => h) (Or.inl ⟨by rfl, ?_⟩) (by assumption) ?_
        rotate_left
        · (intro wS hSw; (try dsimp only at hSw); obtain ⟨hS1, hS2, hS3⟩ := hSw; (try simp only [List.getElem_toArray, List.getElem_cons_succ, List.getElem_cons_zero]); go_simp; try (with_reducible rfl))
        try simp only [Act.put, List.getElem_toArray, List.getElem_cons_succ, List.getElem_cons_zero, List.setIfInBounds_toArray, List.set_cons_zero, List.set_cons_succ]
        refine wpAnyH_take (i := 3) (v := ?_) rfl (by kernel_rfl) (by kernel_rfl) (by kernel_rfl) (fun _ _ _ h => h) (Or.inl ⟨by rfl, ?_⟩) (by assumption) ?_
        rotate_left
        · (intro wS hSw; (try dsimp only at hSw); obtain ⟨hS1, hS2, hS3⟩ := hSw; (try simp only [List.getElem_toArray, List.getElem_cons_succ, List.getElem_cons_zero]); go_simp; try (with_reducible rfl))
        try simp only [Act.put, List.getElem_toArray, List.getElem_cons_succ, List.getElem_cons_zero, List.setIfInBounds_toArray, List.set_cons_zero, List.set_cons_succ]
        refine wpAnyH_take (i := 4) (v := ?_) rfl (by kernel_rfl) (by kernel_rfl) (by kernel_rfl) (fun _ _ _ h => h) (Or.inl ⟨by rfl, ?_⟩) (by assumption) ?_
        rotate_left
        · (intro wS hSw; (try dsimp only at hSw); obtain ⟨hS1, hS2, hS3⟩ := hSw; (try simp only [List.getElem_toArray, List.getElem_cons_succ, List.getElem_cons_zero]); go_simp; try (with_reducible rfl))
        try simp only [Act.put, List.getElem_toArray, List.getElem_cons_succ, List.getElem_cons_zero, List.setIfInBounds_toArray, List.set_cons_zero, List.set_cons_succ]
        refine wpAnyH_take (i := 5) (v := ?_) rfl (by kernel_rfl) (by kernel_rfl) (by kernel_rfl) (fun _ _ _ h => h) (Or.inl ⟨by rfl, ?_⟩) (by assumption) ?_
        rotate_left
        · (intro wS hSw; (try dsimp only at hSw); obtain ⟨hS1, hS2, hS3⟩ := hSw; (try simp only [List.getElem_toArray, List.getElem_cons_succ, List.getElem_cons_zero]); go_simp; try (with_reducible rfl))
        try simp only [Act.put, List.getElem_toArray, List.getElem_cons_succ, List.getElem_cons_zero, List.setIfInBounds_toArray, List.set_cons_zero, List.set_cons_succ]
        refine wpAnyH_take (i := 6) (v := ?_) rfl (by kernel_rfl) (by kernel_rfl) (by kernel_rfl) (fun _ _ _ h => h) (Or.inl ⟨by rfl, ?_⟩) (by assumption) ?_
        rotate_left
        · (intro wS hSw; (try dsimp only at hSw); obtain ⟨hS1, hS2, hS3⟩ := hSw; (try simp only [List.getElem_toArray, List.getElem_cons_succ, List.getElem_cons_zero]); go_simp; try (with_reducible rfl))
        try simp only [Act.put, List.getElem_toArray, List.getElem_cons_succ, List.getElem_cons_zero, List.setIfInBounds_toArray, List.set_cons_zero, List.set_cons_succ]
        refine wpAnyH_take (i := 7) (v := ?_) rfl (by kernel_rfl) (by kernel_rfl) (by kernel_rfl) (fun _ _ _ h => h) (Or.inl ⟨by rfl, ?_⟩) (by assumption) ?_
        rotate_left
        · (intro wS hSw; (try dsimp only at hSw); obtain ⟨hS1, hS2, hS3⟩ := hSw; (try simp only [List.getElem_toArray, List.getElem_cons_succ, List.getElem_cons_zero]); go_simp; try (with_reducible rfl))
        try simp only [Act.put, List.getElem_toArray, List.getElem_cons_succ, List.getElem_cons_zero, List.setIfInBounds_toArray, List.set_cons_zero, List.set_cons_succ]
        refine wpAnyH_take (i := 8) (v := ?_) rfl (by kernel_rfl) (by kernel_rfl) (by kernel_rfl) (fun _ _ _ h => h) (Or.inl ⟨by rfl, ?_⟩) (by assumption) ?_
        rotate_left
        · (intro wS hSw; (try dsimp only at hSw); obtain ⟨hS1, hS2, hS3⟩ := hSw; (try simp only [List.getElem_toArray, List.getElem_cons_succ, List.getElem_cons_zero]); go_simp; try (with_reducible rfl))
        try simp only [Act.put, List.getElem_toArray, List.getElem_cons_succ, List.getElem_cons_zero, List.setIfInBounds_toArray, List.set_cons_zero, List.set_cons_succ]
        refine wpAnyH_take (i := 9) (v := ?_) rfl (by kernel_rfl) (by kernel_rfl) (by kernel_rfl) (fun _ _ _ h => h) (Or.inl ⟨by rfl, ?_⟩) (by assumption) ?_
        rotate_left
        · (intro wS hSw; (try dsimp only at hSw); obtain ⟨hS1, hS2, hS3⟩ := hSw; (try simp only [List.getElem_toArray, List.getElem_cons_succ, List.getElem_cons_zero]); go_simp; try (with_reducible rfl))
        try simp only [Act.put, List.getElem_toArray, List.getElem_cons_succ, List.getElem_cons_zero, List.setIfInBounds_toArray, List.set_cons_zero, List.set_cons_succ]
        refine wpAnyH_take (i := 10) (v := ?_) rfl (by kernel_rfl) (by kernel_rfl) (by kernel_rfl) (fun _ _ _ h => h) (Or.inl ⟨by rfl, ?_⟩) (by assumption) ?_
        rotate_left
        · (intro wS hSw; (try dsimp only at hSw); obtain ⟨hS1, hS2, hS3⟩ := hSw; (try simp only [List.getElem_toArray, List.getElem_cons_succ, List.getElem_cons_zero]); go_simp; try (with_reducible rfl))
        try simp only [Act.put, List.getElem_toArray, List.getElem_cons_succ, List.getElem_cons_zero, List.setIfInBounds_toArray, List.set_cons_zero, List.set_cons_succ]
        refine wpAnyH_take (i := 11) (v := ?_) rfl (by kernel_rfl) (by kernel_rfl) (by kernel_rfl) (fun _ _ _ h => h) (Or.inl ⟨by rfl, ?_⟩) (by assumption) ?_
        rotate_left
        · (intro wS hSw; (try dsimp only at hSw); obtain ⟨hS1, hS2, hS3⟩ := hSw; (try simp only [List.getElem_toArray, List.getElem_cons_succ, List.getElem_cons_zero]); go_simp; try (with_reducible rfl))
        try simp only [Act.put, List.getElem_toArray, List.getElem_cons_succ, List.getElem_cons_zero, List.setIfInBounds_toArray, List.set_cons_zero, List.set_cons_succ]
        refine wpAnyH_take (i := 12) (v := ?_) rfl (by kernel_rfl) (by kernel_rfl) (by kernel_rfl) (fun _ _ _ h => h) (Or.inl ⟨by rfl, ?_⟩) (by assumption) ?_
        rotate_left
        · (intro wS hSw; (try dsimp only at hSw); obtain ⟨hS1, hS2, hS3⟩ := hSw; (try simp only [List.getElem_toArray, List.getElem_cons_succ, List.getElem_cons_zero]); go_simp; try (with_reducible rfl))
        try simp only [Act.put, List.getElem_toArray, List.getElem_cons_succ, List.getElem_cons_zero, List.setIfInBounds_toArray, List.set_cons_zero, List.set_cons_succ]
        refine wpAnyH_take (i := 14) (v := ?_) rfl (by kernel_rfl) (by kernel_rfl) (by kernel_rfl) (fun _ _ _ h => h) (Or.inl ⟨by rfl, ?_⟩) (by assumption) ?_
        rotate_left
        · (intro wS hSw; (try dsimp only at hSw); obtain ⟨hS1, hS2, hS3⟩ := hSw; (try simp only [List.getElem_toArray, List.getElem_cons_succ, List.getElem_cons_zero]); go_simp; try (with_reducible rfl))
        try simp only [Act.put, List.getElem_toArray, List.getElem_cons_succ, List.getElem_cons_zero, List.setIfInBounds_toArray, List.set_cons_zero, List.set_cons_succ]
        refine wpAnyH_take (i := 15) (v := ?_) rfl (by kernel_rfl) (by kernel_rfl) (by kernel_rfl) (fun _ _ _ h => h) (Or.inl ⟨by rfl, ?_⟩) (by assumption) ?_
        rotate_left
        · (intro wS hSw; (try dsimp only at hSw); obtain ⟨hS1, hS2, hS3⟩ := hSw; (try simp only [List.getElem_toArray, List.getElem_cons_succ, List.getElem_cons_zero]); go_simp; try (with_reducible rfl))
        try simp only [Act.put, List.getElem_toArray, List.getElem_cons_succ, List.getElem_cons_zero, List.setIfInBounds_toArray, List.set_cons_zero, List.set_cons_succ]
        refine wpAnyH_take (i := 16) (v := ?_) rfl (by kernel_rfl) (by kernel_rfl) (by kernel_rfl) (fun _ _ _ h => h) (Or.inl ⟨by rfl, ?_⟩) (by assumption) ?_
        rotate_left
        · (intro wS hSw; (try dsimp only at hSw); obtain ⟨hS1, hS2, hS3⟩ := hSw; (try simp only [List.getElem_toArray, List.getElem_cons_succ, List.getElem_cons_zero]); go_simp; try (with_reducible rfl))
        try simp only [Act.put, List.getElem_toArray, List.getElem_cons_succ, List.getElem_cons_zero, List.setIfInBounds_toArray, List.set_cons_zero, List.set_cons_succ]
        refine wpAnyH_take (i := 17) (v := ?_) rfl (by kernel_rfl) (by kernel_rfl) (by kernel_rfl) (fun _ _ _ h => h) (Or.inl ⟨by rfl, ?_⟩) (by assumption) ?_
        rotate_left
        · (intro wS hSw; (try dsimp only at hSw); obtain ⟨hS1, hS2, hS3⟩ := hSw; (try simp only [List.getElem_toArray, List.getElem_cons_succ, List.getElem_cons_zero]); go_simp; try (with_reducible rfl))
        try simp only [Act.put, List.getElem_toArray, List.getElem_cons_succ, List.getElem_cons_zero, List.setIfInBounds_toArray, List.set_cons_zero, List.set_cons_succ]
        refine wpAnyH_ready (rs := [13]) (by kernel_rfl) (by simp) ?_
        refine AllReadyH.cons rfl (fun K hK => ?_) AllReadyH.nil
        go_simp
        obtain ⟨u0, u1, u2⟩ := hCk.out _ (kg kD)
        refine hK.out _ _ ⟨u0, u1, u2⟩ (fun hHeld => ?_)
        clear hK K
        try simp only [Act.put, List.getElem_toArray, List.getElem_cons_succ, List.getElem_cons_zero, List.setIfInBounds_toArray, List.set_cons_zero, List.set_cons_succ]
        clear u0 u1 u2 v0 v1 v2 v3 v4
        refine wpAnyH_ready (rs := [18]) (by kernel_rfl) (by simp) ?_
        refine AllReadyH.cons rfl (fun K hK => ?_) AllReadyH.nil
        go_simp
        refine (stepC f ⟨kd, (r : Int), kn⟩ _ HG.out HS.out).mono ?_
        rintro e w3 ⟨rfl, hk3⟩
        have k3 := kD.trans hk3 (fun _ _ h => h)
        obtain ⟨v0, v1, v2, v3, v4⟩ := hCF.out _ k3
        obtain ⟨u0, u1, u2⟩ := hCk.out _ (kg k3)
        have F3 := Lib.hid (F.out.quiet k3)
        have FP := Lib.hid (HPut.out w3 F3.out HG.out r rfl hrN f HFf.out)
        obtain ⟨V, hV⟩ : ∃ V, V = stepF f ⟨kd, (r : Int), kn⟩ := ⟨_, rfl⟩
        rw [← hV] at FP
        rw [← hV]
        clear hk3 hV
        unfold ftC
        go_wp2_with fail
        refine hK.out _ _ ⟨u0, u1, u2⟩ (fun hHeld => ?_)
        clear hK K
        try simp only [Act.put, List.getElem_toArray, List.getElem_cons_succ, List.getElem_cons_zero, List.setIfInBounds_toArray, List.set_cons_zero, List.set_cons_succ]
        refine wpAnyH_take (i := 19) (v := ?_) rfl (by kernel_rfl) (by kernel_rfl) (by kernel_rfl) (fun _ _ _ h => h) (Or.inl ⟨by rfl, ?_⟩) (by assumption) ?_
        rotate_left
        · (intro wS hSw; (try dsimp only at hSw); obtain ⟨hS1, hS2, hS3⟩ := hSw; (try simp only [List.getElem_toArray, List.getElem_cons_succ, List.getElem_cons_zero]); go_simp; try (with_reducible rfl))
        try simp only [Act.put, List.getElem_toArray, List.getElem_cons_succ, List.getElem_cons_zero, List.setIfInBounds_toArray, List.set_cons_zero, List.set_cons_succ]
        clear u0 u1 u2
        have g0 := F3.out.frozen (r * 5)
        have g1 := F3.out.frozen (r * 5 + 1)
        have g2 := F3.out.frozen (r * 5 + 2)
        have g3 := F3.out.frozen (r * 5 + 3)
        have g4 := F3.out.frozen (r * 5 + 4)
        refine wpAnyH_ready (rs := [20]) (by kernel_rfl) (by simp) ?_
        refine AllReadyH.cons rfl (fun K hK => ?_) AllReadyH.nil
        go_simp
        obtain ⟨Z, hZ⟩ : ∃ Z, Z = w3.setCells w.heap.size (r * 5) (ftL V) := ⟨_, rfl⟩
        rw [← hZ] at FP
        have kZ : Keep (fun i => i = w.heap.size) w3 Z := by rw [hZ]; exact Keep.setCells (S := fun i => i = w.heap.size) (fun _ => rfl) _ _ (Keep.refl _ w3)
        obtain ⟨u0, u1, u2⟩ := hCk.out Z ((kg k3).trans kZ (fun _ _ h => h))
        clear kZ v0 v1 v2 v3 v4 g0 g1 g2 g3 g4
        show K _ (w3.setCells w.heap.size (r * 5) (ftL V))
        rw [← hZ]
        clear hZ
        refine hK.out _ _ ⟨u0, u1, u2⟩ (fun hHeld => ?_)
        clear hK K
        try simp only [Act.put, List.getElem_toArray, List.getElem_cons_succ, List.getElem_cons_zero, List.setIfInBounds_toArray, List.set_cons_zero, List.set_cons_succ]
        refine wpAnyH_done (by kernel_rfl) ?_ _
        refine NoPanic.normal ?_
        clear u0 u1 u2 hHeld
        go_wp2
        go_roundw
        case rel => exact ⟨k + 1, by omega, by go_num, FP⟩
        case measure => simp [intOf]; omega
      · have d : decide (rc < (N : Int)) = false := decide_eq_false hr
        have FS : Hid (Fg w wr w.heap.size N (k + 1) L) := Lib.hid (HSkip.out wr F.out (fun h => hr h.2))
        go_wp2
        go_roundw
        case rel => exact ⟨k + 1, by omega, by go_num, FS⟩
        case measure => simp [intOf]; omega
    · have FE : Hid (Fg w wr w.heap.size N L.length L) := Lib.hid (by
        have e : k = L.length := by have := HL.out; omega
        rw [← e]
        exact F.out)
      go_wp2
      go_ret
      exact HQ.out _ _ FE.out
end Go.Proofs.Ytcplemamcgonkaa.Ln
