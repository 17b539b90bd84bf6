/-
  Proved here: of at most 200 marks, a recipient's fate is what its own marks make. Conditions: none.
-/
import Derived.Test.YtcplemamcgonkaaRows
import Derived.Test.YtcplemamcgonkaaHV
import Derived.Lib.Hide
import Derived.WalkKit
import Derived.ProofKit
import Derived.OpenShut
import Derived.ShutString
import Derived.ChangeOld
import Derived.Below
namespace Go.Proofs.Ytcplemamcgonkaa.markApart
open Go.ChangeShapes Go.WideShapes Go.ChangeAt Go.RowKit
set_option linter.unusedVariables false
set_option linter.unusedSimpArgs false
open Ln
theorem own : ownKnob Try.prog.godebug = none := by kernel_rfl
theorem laidOut : laidOutB Try.prog = true := by kernel_rfl

/-! ### The walk -/
set_option maxHeartbeats 16000000 in
set_option maxRecDepth 100000 in
theorem walk (a0 : Option Addr) (x0 : List Ln.Mk) (cap0 : Nat) (a1 : Int) (w : World) (l0 : x0.length ≤ cap0) (m0 : cap0 ≤ 140737488351232) (B0 : Ln.MkP (fun k => k < w.heap.size) w a0 x0) (w1 : (Lit.int .u8 a1).wf = true) :
    Calls Try.prog 8 #[.slice a0 x0.length cap0, .int .u8 a1] w fun e w' => e = .returned (.bool true) ∧ Below w.heap.size w w' := by
  have a1b := bounds_u8 w1
  obtain ⟨R, rfl⟩ : ∃ R : Nat, a1 = (R : Int) := ⟨a1.toNat, by omega⟩
  have hR : R < 256 := by omega
  obtain ⟨K, hK⟩ : ∃ K, K = R % 8 := ⟨_, rfl⟩
  have hK8 : K < 8 := by omega
  have hK1 : (R : Int) % 8 = (K : Int) := by rw [hK]; rfl
  have hK2 : Int.tmod (R : Int) 8 = (K : Int) := by rw [hK]; rfl
  obtain ⟨p, hp⟩ : ∃ p : Mk → Bool, p = fun m => decide (m.rcpt = (K : Int)) := ⟨_, rfl⟩
  have HP := Lib.hid hp
  have HAp : Hid ((fatesM 8 (x0.filter p)).getD K ft0 = (fatesM 8 x0).getD K ft0) := Lib.hid (by rw [hp]; exact fatesM_apart 8 x0 K hK8)
  obtain ⟨l, hl⟩ : ∃ l, l = x0.length := ⟨_, rfl⟩
  rw [← hl] at l0
  rw [← hl]
  have HL := Lib.hid hl
  have HX := Lib.hid B0
  have kk0 : (0 : Int) ≤ (K : Int) := by omega
  have kk8 : (K : Int) < 8 := by omega
  clear hl B0 hK hp w1 a1b
  by_cases h200 : (200 : Int) < (l : Int)
  · go_enter Try.func8, Try.ntmps8
    go_wp2_with fail
    refine (answersK _).mono ?_
    rintro e ua ⟨rfl, hka⟩
    have KA := Lib.hid ((Keep.refl (fun _ => False) w).trans hka (fun _ _ h => h))
    clear hka
    go_wp2
    go_ret
    exact ⟨rfl, KA.out.below (Nat.le_refl _) (fun _ h => h.elim)⟩
  · go_enter Try.func8, Try.ntmps8
    go_wp2
    clear hK1 hK2
    go_loopw [6, 7] (fun v i wr => ∃ (k : Nat) (y : Option Addr) (n c : Nat) (q : Option Nat), k ≤ l ∧ v = .slice y n c ∧ i = .int .i64 (k : Int) ∧ Hid (Mo w wr y n c q ((x0.take k).filter p))) (fun _ i _ => l - (intOf i).toNat)
    case atStart => exact ⟨0, none, 0, 0, none, by omega, rfl, rfl, Mo.start (Keep.refl _ w) none⟩
    case round =>
      obtain ⟨k, y, n, c, q, hk, rfl, rfl, G⟩ := hrel
      by_cases hlt : (k : Int) < (l : Int)
      · have hkl : k < x0.length := by have := HL.out; omega
        have k0 : (0 : Int) ≤ (k : Int) := by omega
        have KW := Lib.hid G.out.kp
        obtain ⟨b, off, _, _, hx, c0, c1, c2⟩ := mk_at (mk_quiet HX.out KW.out) k hkl
        subst hx
        have hfs := filter_snoc p x0 k hkl
        obtain ⟨m, hm⟩ : ∃ m, m = x0[k] := ⟨_, rfl⟩
        rw [← hm] at c0 c1 c2 hfs
        have HFL := Lib.hid (filter_len p x0 k)
        have HFs := Lib.hid hfs
        clear hm hfs
        obtain ⟨kd, rc, kn⟩ := m
        simp only at c0 c1 c2
        by_cases hr : rc = (K : Int)
        · subst hr
          have HFe : Hid (((x0.take (k + 1)).filter p) = ((x0.take k).filter p) ++ [⟨kd, (K : Int), kn⟩]) := Lib.hid (by rw [HFs.out, HP.out]; simp)
          have H1 := Lib.hid (mk_one wr ⟨kd, (K : Int), kn⟩)
          have G1 : Hid (Mo w (wr.alloc (.cells #[.int .i64 kd, .int .i64 (K : Int), .int .i64 kn] 23)) y n c q ((x0.take k).filter p)) := Lib.hid (G.out.quiet (keep_new wr _))
          clear G HFs
          go_wp2_with
            (at_builtin
             refine wpList_app_mk (by rfl) (.tmp 30) (.tmp 35) (by rfl) (.slice y n c) (by rfl) q ((x0.take k).filter p) G1.out.own (some ⟨wr.heap.size, 0, none⟩) 1 1 (by rfl) [⟨kd, (K : Int), kn⟩] rfl H1.out (by have := HFL.out; omega) ?_
             intro y3 n3 c3 q3 w3 hn3 ho3 hk3 hw3
             have G3 := Lib.hid (G1.out.app ho3 hk3 hw3)
             rw [← HFe.out] at G3
             clear hn3 ho3 hk3 hw3)
          go_roundw
          case rel => exact ⟨k + 1, y3, n3, c3, q3, by omega, rfl, by go_num, G3⟩
          case measure => simp [intOf]; omega
        · have G1 : Hid (Mo w wr y n c q ((x0.take (k + 1)).filter p)) := Lib.hid (by
            rw [HFs.out, HP.out]
            simp only [decide_eq_true_eq, if_neg hr, List.append_nil]
            rw [← HP.out]
            exact G.out)
          have hb : (rc == (K : Int)) = false := by simpa using hr
          go_wp2
          go_roundw
          case rel => exact ⟨k + 1, y, n, c, q, by omega, rfl, by go_num, G1⟩
          case measure => simp [intOf]; omega
      · have hkl : k = l := by omega
        subst hkl
        have ht : x0.take k = x0 := List.take_of_length_le (by have := HL.out; omega)
        rw [ht] at G
        have KW := Lib.hid G.out.kp
        have hrow := G.out.row
        have HNF := Lib.hid hrow.1
        have HPF := Lib.hid hrow.2.2
        have hn200 : n ≤ 200 := by rw [hrow.1]; have := List.length_filter_le p x0; have := HL.out; omega
        clear hrow ht G
        have hFt1 := fatesC 8 a0 k cap0 x0 HL.out (by omega) (mk_quiet HX.out KW.out)
        rw [cnt8] at hFt1
        go_wp2_with fail
        refine hFt1.mono ?_
        rintro e w3 ⟨g3, hg3, rfl, hR3, hk3⟩
        have K3 := Lib.hid (KW.out.trans hk3 (fun _ _ h => h))
        have hFt2 := fatesC 8 y n c (x0.filter p) HNF.out (by omega) (mk_quiet HPF.out hk3)
        rw [cnt8] at hFt2
        have HR3 := Lib.hid hR3
        clear hg3 hR3 hk3 hFt1
        go_wp2_with fail
        refine hFt2.mono ?_
        rintro e w4 ⟨g4, hg4, rfl, hR4, hk4⟩
        have K4 := Lib.hid (K3.out.trans hk4 (fun _ _ h => h))
        have HR4 := Lib.hid hR4
        have HR3' := Lib.hid (StR.keep HR3.out hk4 (fun h => h))
        obtain ⟨f, hf⟩ : ∃ f, f = (fatesM 8 x0).getD K ft0 := ⟨_, rfl⟩
        have HS : Hid (∀ Z, Keep (fun _ => False) w4 Z → F5 Z g3 (K * 5) f ∧ F5 Z g4 (K * 5) f) := Lib.hid (fun Z kz => by
          constructor
          · obtain ⟨b, off, _, _, hx, q⟩ := ft_at (StR.row (StR.keep HR3'.out kz (fun h => h))) K (by rw [fatesM_length]; exact hK8)
            cases hx
            rw [ft_get _ _ _ (by rw [fatesM_length]; exact hK8), ← hf] at q
            simp only [Nat.zero_add] at q
            exact q
          · obtain ⟨b, off, _, _, hx, q⟩ := ft_at (StR.row (StR.keep HR4.out kz (fun h => h))) K (by rw [fatesM_length]; exact hK8)
            cases hx
            rw [ft_get _ _ _ (by rw [fatesM_length]; exact hK8), HAp.out, ← hf] at q
            simp only [Nat.zero_add] at q
            exact q)
        have kD : Keep (fun _ => False) w4 w4.drew := (Keep.refl _ w4).drew
        obtain ⟨⟨s0, s1, s2, s3, s4⟩, s5, s6, s7, s8, s9⟩ := HS.out _ kD
        clear hg4 hR4 hk4 hFt2 hf
        go_wp2
        refine wp_region_noPanic ?_
        refine wp_region_held_drew (S := fun Z => Z.cell? ⟨g3, K * 5, none⟩ = some (.int .i64 f.st) ∧ Z.cell? ⟨g3, K * 5 + 1, none⟩ = some (.int .i64 f.tries) ∧ Z.cell? ⟨g3, K * 5 + 2, none⟩ = some (.int .i64 f.next) ∧ Z.cell? ⟨g3, K * 5 + 3, none⟩ = some (.int .i64 f.crashes) ∧ Z.cell? ⟨g3, K * 5 + 4, none⟩ = some (.bool f.op) ∧ Z.cell? ⟨g4, K * 5, none⟩ = some (.int .i64 f.st) ∧ Z.cell? ⟨g4, K * 5 + 1, none⟩ = some (.int .i64 f.tries) ∧ Z.cell? ⟨g4, K * 5 + 2, none⟩ = some (.int .i64 f.next) ∧ Z.cell? ⟨g4, K * 5 + 3, none⟩ = some (.int .i64 f.crashes) ∧ Z.cell? ⟨g4, K * 5 + 4, none⟩ = some (.bool f.op)) (by kernel_rfl) ⟨s0, s1, s2, s3, s4, s5, s6, s7, s8, s9⟩ (fun hHeld => ?_)
        clear s0 s1 s2 s3 s4 s5 s6 s7 s8 s9
        refine wpAnyH_ready (rs := [0]) (by kernel_rfl) (by simp) ?_
        refine AllReadyH.cons rfl (fun K hK => ?_) AllReadyH.nil
        go_simp
        refine (answersK _).mono ?_
        rintro e w5 ⟨rfl, hk5⟩
        have k5 := kD.trans hk5 (fun _ _ h => h)
        obtain ⟨⟨s0, s1, s2, s3, s4⟩, s5, s6, s7, s8, s9⟩ := HS.out _ k5
        clear hk5
        go_wp2_with fail
        refine hK.out _ _ ⟨s0, s1, s2, s3, s4, s5, s6, s7, s8, s9⟩ (fun hHeld => ?_)
        clear hK K
        try simp only [Act.put, List.getElem_toArray, List.getElem_cons_succ, List.getElem_cons_zero, List.setIfInBounds_toArray, List.set_cons_zero, List.set_cons_succ]
        clear s0 s1 s2 s3 s4 s5 s6 s7 s8 s9
        refine wpAnyH_take (i := 1) (v := ?_) rfl (by kernel_rfl) (by kernel_rfl) (by kernel_rfl) (fun _ _ _ h => h) (Or.inl ⟨by rfl, ?_⟩) (by assumption) ?_
        rotate_left
        · (intro wS hSw; (try dsimp only at hSw); obtain ⟨hS1, hS2, hS3, hS4, hS5, hS6, hS7, hS8, hS9, hS10⟩ := hSw; (try simp only [List.getElem_toArray, List.getElem_cons_succ, List.getElem_cons_zero]); go_simp; try (with_reducible rfl))
        try simp only [Act.put, List.getElem_toArray, List.getElem_cons_succ, List.getElem_cons_zero, List.setIfInBounds_toArray, List.set_cons_zero, List.set_cons_succ]
        refine wpAnyH_take (i := 2) (v := ?_) rfl (by kernel_rfl) (by kernel_rfl) (by kernel_rfl) (fun _ _ _ h => h) (Or.inl ⟨by rfl, ?_⟩) (by assumption) ?_
        rotate_left
        · (intro wS hSw; (try dsimp only at hSw); obtain ⟨hS1, hS2, hS3, hS4, hS5, hS6, hS7, hS8, hS9, hS10⟩ := hSw; (try simp only [List.getElem_toArray, List.getElem_cons_succ, List.getElem_cons_zero]); go_simp; try (with_reducible rfl))
        try simp only [Act.put, List.getElem_toArray, List.getElem_cons_succ, List.getElem_cons_zero, List.setIfInBounds_toArray, List.set_cons_zero, List.set_cons_succ]
        refine wpAnyH_take (i := 3) (v := ?_) rfl (by kernel_rfl) (by kernel_rfl) (by kernel_rfl) (fun _ _ _ h => h) (Or.inl ⟨by rfl, ?_⟩) (by assumption) ?_
        rotate_left
        · (intro wS hSw; (try dsimp only at hSw); obtain ⟨hS1, hS2, hS3, hS4, hS5, hS6, hS7, hS8, hS9, hS10⟩ := hSw; (try simp only [List.getElem_toArray, List.getElem_cons_succ, List.getElem_cons_zero]); go_simp; try (with_reducible rfl))
        try simp only [Act.put, List.getElem_toArray, List.getElem_cons_succ, List.getElem_cons_zero, List.setIfInBounds_toArray, List.set_cons_zero, List.set_cons_succ]
        refine wpAnyH_take (i := 4) (v := ?_) rfl (by kernel_rfl) (by kernel_rfl) (by kernel_rfl) (fun _ _ _ h => h) (Or.inl ⟨by rfl, ?_⟩) (by assumption) ?_
        rotate_left
        · (intro wS hSw; (try dsimp only at hSw); obtain ⟨hS1, hS2, hS3, hS4, hS5, hS6, hS7, hS8, hS9, hS10⟩ := hSw; (try simp only [List.getElem_toArray, List.getElem_cons_succ, List.getElem_cons_zero]); go_simp; try (with_reducible rfl))
        try simp only [Act.put, List.getElem_toArray, List.getElem_cons_succ, List.getElem_cons_zero, List.setIfInBounds_toArray, List.set_cons_zero, List.set_cons_succ]
        refine wpAnyH_take (i := 5) (v := ?_) rfl (by kernel_rfl) (by kernel_rfl) (by kernel_rfl) (fun _ _ _ h => h) (Or.inl ⟨by rfl, ?_⟩) (by assumption) ?_
        rotate_left
        · (intro wS hSw; (try dsimp only at hSw); obtain ⟨hS1, hS2, hS3, hS4, hS5, hS6, hS7, hS8, hS9, hS10⟩ := hSw; (try simp only [List.getElem_toArray, List.getElem_cons_succ, List.getElem_cons_zero]); go_simp; try (with_reducible rfl))
        try simp only [Act.put, List.getElem_toArray, List.getElem_cons_succ, List.getElem_cons_zero, List.setIfInBounds_toArray, List.set_cons_zero, List.set_cons_succ]
        refine wpAnyH_take (i := 6) (v := ?_) rfl (by kernel_rfl) (by kernel_rfl) (by kernel_rfl) (fun _ _ _ h => h) (Or.inl ⟨by rfl, ?_⟩) (by assumption) ?_
        rotate_left
        · (intro wS hSw; (try dsimp only at hSw); obtain ⟨hS1, hS2, hS3, hS4, hS5, hS6, hS7, hS8, hS9, hS10⟩ := hSw; (try simp only [List.getElem_toArray, List.getElem_cons_succ, List.getElem_cons_zero]); go_simp; try (with_reducible rfl))
        try simp only [Act.put, List.getElem_toArray, List.getElem_cons_succ, List.getElem_cons_zero, List.setIfInBounds_toArray, List.set_cons_zero, List.set_cons_succ]
        refine wpAnyH_take (i := 7) (v := ?_) rfl (by kernel_rfl) (by kernel_rfl) (by kernel_rfl) (fun _ _ _ h => h) (Or.inl ⟨by rfl, ?_⟩) (by assumption) ?_
        rotate_left
        · (intro wS hSw; (try dsimp only at hSw); obtain ⟨hS1, hS2, hS3, hS4, hS5, hS6, hS7, hS8, hS9, hS10⟩ := hSw; (try simp only [List.getElem_toArray, List.getElem_cons_succ, List.getElem_cons_zero]); go_simp; try (with_reducible rfl))
        try simp only [Act.put, List.getElem_toArray, List.getElem_cons_succ, List.getElem_cons_zero, List.setIfInBounds_toArray, List.set_cons_zero, List.set_cons_succ]
        refine wpAnyH_take (i := 8) (v := ?_) rfl (by kernel_rfl) (by kernel_rfl) (by kernel_rfl) (fun _ _ _ h => h) (Or.inl ⟨by rfl, ?_⟩) (by assumption) ?_
        rotate_left
        · (intro wS hSw; (try dsimp only at hSw); obtain ⟨hS1, hS2, hS3, hS4, hS5, hS6, hS7, hS8, hS9, hS10⟩ := hSw; (try simp only [List.getElem_toArray, List.getElem_cons_succ, List.getElem_cons_zero]); go_simp; try (with_reducible rfl))
        try simp only [Act.put, List.getElem_toArray, List.getElem_cons_succ, List.getElem_cons_zero, List.setIfInBounds_toArray, List.set_cons_zero, List.set_cons_succ]
        refine wpAnyH_take (i := 9) (v := ?_) rfl (by kernel_rfl) (by kernel_rfl) (by kernel_rfl) (fun _ _ _ h => h) (Or.inl ⟨by rfl, ?_⟩) (by assumption) ?_
        rotate_left
        · (intro wS hSw; (try dsimp only at hSw); obtain ⟨hS1, hS2, hS3, hS4, hS5, hS6, hS7, hS8, hS9, hS10⟩ := hSw; (try simp only [List.getElem_toArray, List.getElem_cons_succ, List.getElem_cons_zero]); go_simp; try (with_reducible rfl))
        try simp only [Act.put, List.getElem_toArray, List.getElem_cons_succ, List.getElem_cons_zero, List.setIfInBounds_toArray, List.set_cons_zero, List.set_cons_succ]
        refine wpAnyH_take (i := 10) (v := ?_) rfl (by kernel_rfl) (by kernel_rfl) (by kernel_rfl) (fun _ _ _ h => h) (Or.inl ⟨by rfl, ?_⟩) (by assumption) ?_
        rotate_left
        · (intro wS hSw; (try dsimp only at hSw); obtain ⟨hS1, hS2, hS3, hS4, hS5, hS6, hS7, hS8, hS9, hS10⟩ := hSw; (try simp only [List.getElem_toArray, List.getElem_cons_succ, List.getElem_cons_zero]); go_simp; try (with_reducible rfl))
        try simp only [Act.put, List.getElem_toArray, List.getElem_cons_succ, List.getElem_cons_zero, List.setIfInBounds_toArray, List.set_cons_zero, List.set_cons_succ]
        refine wpAnyH_take (i := 11) (v := ?_) rfl (by kernel_rfl) (by kernel_rfl) (by kernel_rfl) (fun _ _ _ h => h) (Or.inl ⟨by rfl, ?_⟩) (by assumption) ?_
        rotate_left
        · (intro wS hSw; (try dsimp only at hSw); obtain ⟨hS1, hS2, hS3, hS4, hS5, hS6, hS7, hS8, hS9, hS10⟩ := hSw; (try simp only [List.getElem_toArray, List.getElem_cons_succ, List.getElem_cons_zero]); go_simp; try (with_reducible rfl))
        try simp only [Act.put, List.getElem_toArray, List.getElem_cons_succ, List.getElem_cons_zero, List.setIfInBounds_toArray, List.set_cons_zero, List.set_cons_succ]
        refine wpAnyH_take (i := 12) (v := ?_) rfl (by kernel_rfl) (by kernel_rfl) (by kernel_rfl) (fun _ _ _ h => h) (Or.inl ⟨by rfl, ?_⟩) (by assumption) ?_
        rotate_left
        · (intro wS hSw; (try dsimp only at hSw); obtain ⟨hS1, hS2, hS3, hS4, hS5, hS6, hS7, hS8, hS9, hS10⟩ := hSw; (try simp only [List.getElem_toArray, List.getElem_cons_succ, List.getElem_cons_zero]); go_simp; try (with_reducible rfl))
        try simp only [Act.put, List.getElem_toArray, List.getElem_cons_succ, List.getElem_cons_zero, List.setIfInBounds_toArray, List.set_cons_zero, List.set_cons_succ]
        refine wpAnyH_take (i := 13) (v := ?_) rfl (by kernel_rfl) (by kernel_rfl) (by kernel_rfl) (fun _ _ _ h => h) (Or.inl ⟨by rfl, ?_⟩) (by assumption) ?_
        rotate_left
        · (intro wS hSw; (try dsimp only at hSw); obtain ⟨hS1, hS2, hS3, hS4, hS5, hS6, hS7, hS8, hS9, hS10⟩ := hSw; (try simp only [List.getElem_toArray, List.getElem_cons_succ, List.getElem_cons_zero]); go_simp; try (with_reducible rfl))
        try simp only [Act.put, List.getElem_toArray, List.getElem_cons_succ, List.getElem_cons_zero, List.setIfInBounds_toArray, List.set_cons_zero, List.set_cons_succ]
        refine wpAnyH_take (i := 14) (v := ?_) rfl (by kernel_rfl) (by kernel_rfl) (by kernel_rfl) (fun _ _ _ h => h) (Or.inl ⟨by rfl, ?_⟩) (by assumption) ?_
        rotate_left
        · (intro wS hSw; (try dsimp only at hSw); obtain ⟨hS1, hS2, hS3, hS4, hS5, hS6, hS7, hS8, hS9, hS10⟩ := hSw; (try simp only [List.getElem_toArray, List.getElem_cons_succ, List.getElem_cons_zero]); go_simp; try (with_reducible rfl))
        try simp only [Act.put, List.getElem_toArray, List.getElem_cons_succ, List.getElem_cons_zero, List.setIfInBounds_toArray, List.set_cons_zero, List.set_cons_succ]
        refine wpAnyH_take (i := 15) (v := ?_) rfl (by kernel_rfl) (by kernel_rfl) (by kernel_rfl) (fun _ _ _ h => h) (Or.inl ⟨by rfl, ?_⟩) (by assumption) ?_
        rotate_left
        · (intro wS hSw; (try dsimp only at hSw); obtain ⟨hS1, hS2, hS3, hS4, hS5, hS6, hS7, hS8, hS9, hS10⟩ := hSw; (try simp only [List.getElem_toArray, List.getElem_cons_succ, List.getElem_cons_zero]); go_simp; try (with_reducible rfl))
        try simp only [Act.put, List.getElem_toArray, List.getElem_cons_succ, List.getElem_cons_zero, List.setIfInBounds_toArray, List.set_cons_zero, List.set_cons_succ]
        refine wpAnyH_take (i := 16) (v := ?_) rfl (by kernel_rfl) (by kernel_rfl) (by kernel_rfl) (fun _ _ _ h => h) (Or.inl ⟨by rfl, ?_⟩) (by assumption) ?_
        rotate_left
        · (intro wS hSw; (try dsimp only at hSw); obtain ⟨hS1, hS2, hS3, hS4, hS5, hS6, hS7, hS8, hS9, hS10⟩ := hSw; (try simp only [List.getElem_toArray, List.getElem_cons_succ, List.getElem_cons_zero]); go_simp; try (with_reducible rfl))
        try simp only [Act.put, List.getElem_toArray, List.getElem_cons_succ, List.getElem_cons_zero, List.setIfInBounds_toArray, List.set_cons_zero, List.set_cons_succ]
        refine wpAnyH_take (i := 17) (v := ?_) rfl (by kernel_rfl) (by kernel_rfl) (by kernel_rfl) (fun _ _ _ h => h) (Or.inl ⟨by rfl, ?_⟩) (by assumption) ?_
        rotate_left
        · (intro wS hSw; (try dsimp only at hSw); obtain ⟨hS1, hS2, hS3, hS4, hS5, hS6, hS7, hS8, hS9, hS10⟩ := hSw; (try simp only [List.getElem_toArray, List.getElem_cons_succ, List.getElem_cons_zero]); go_simp; try (with_reducible rfl))
        try simp only [Act.put, List.getElem_toArray, List.getElem_cons_succ, List.getElem_cons_zero, List.setIfInBounds_toArray, List.set_cons_zero, List.set_cons_succ]
        refine wpAnyH_take (i := 18) (v := ?_) rfl (by kernel_rfl) (by kernel_rfl) (by kernel_rfl) (fun _ _ _ h => h) (Or.inl ⟨by rfl, ?_⟩) (by assumption) ?_
        rotate_left
        · (intro wS hSw; (try dsimp only at hSw); obtain ⟨hS1, hS2, hS3, hS4, hS5, hS6, hS7, hS8, hS9, hS10⟩ := hSw; (try simp only [List.getElem_toArray, List.getElem_cons_succ, List.getElem_cons_zero]); go_simp; try (with_reducible rfl))
        try simp only [Act.put, List.getElem_toArray, List.getElem_cons_succ, List.getElem_cons_zero, List.setIfInBounds_toArray, List.set_cons_zero, List.set_cons_succ]
        refine wpAnyH_take (i := 19) (v := ?_) rfl (by kernel_rfl) (by kernel_rfl) (by kernel_rfl) (fun _ _ _ h => h) (Or.inl ⟨by rfl, ?_⟩) (by assumption) ?_
        rotate_left
        · (intro wS hSw; (try dsimp only at hSw); obtain ⟨hS1, hS2, hS3, hS4, hS5, hS6, hS7, hS8, hS9, hS10⟩ := hSw; (try simp only [List.getElem_toArray, List.getElem_cons_succ, List.getElem_cons_zero]); go_simp; try (with_reducible rfl))
        try simp only [Act.put, List.getElem_toArray, List.getElem_cons_succ, List.getElem_cons_zero, List.setIfInBounds_toArray, List.set_cons_zero, List.set_cons_succ]
        refine wpAnyH_take (i := 20) (v := ?_) rfl (by kernel_rfl) (by kernel_rfl) (by kernel_rfl) (fun _ _ _ h => h) (Or.inl ⟨by rfl, ?_⟩) (by assumption) ?_
        rotate_left
        · (intro wS hSw; (try dsimp only at hSw); obtain ⟨hS1, hS2, hS3, hS4, hS5, hS6, hS7, hS8, hS9, hS10⟩ := hSw; (try simp only [List.getElem_toArray, List.getElem_cons_succ, List.getElem_cons_zero]); go_simp; try (with_reducible rfl))
        try simp only [Act.put, List.getElem_toArray, List.getElem_cons_succ, List.getElem_cons_zero, List.setIfInBounds_toArray, List.set_cons_zero, List.set_cons_succ]
        refine wpAnyH_take (i := 21) (v := ?_) rfl (by kernel_rfl) (by kernel_rfl) (by kernel_rfl) (fun _ _ _ h => h) (Or.inl ⟨by rfl, ?_⟩) (by assumption) ?_
        rotate_left
        · (intro wS hSw; (try dsimp only at hSw); obtain ⟨hS1, hS2, hS3, hS4, hS5, hS6, hS7, hS8, hS9, hS10⟩ := hSw; (try simp only [List.getElem_toArray, List.getElem_cons_succ, List.getElem_cons_zero]); go_simp; try (with_reducible rfl))
        try simp only [Act.put, List.getElem_toArray, List.getElem_cons_succ, List.getElem_cons_zero, List.setIfInBounds_toArray, List.set_cons_zero, List.set_cons_succ]
        refine wpAnyH_take (i := 22) (v := ?_) rfl (by kernel_rfl) (by kernel_rfl) (by kernel_rfl) (fun _ _ _ h => h) (Or.inl ⟨by rfl, ?_⟩) (by assumption) ?_
        rotate_left
        · (intro wS hSw; (try dsimp only at hSw); obtain ⟨hS1, hS2, hS3, hS4, hS5, hS6, hS7, hS8, hS9, hS10⟩ := hSw; (try simp only [List.getElem_toArray, List.getElem_cons_succ, List.getElem_cons_zero]); go_simp; try (with_reducible rfl))
        try simp only [Act.put, List.getElem_toArray, List.getElem_cons_succ, List.getElem_cons_zero, List.setIfInBounds_toArray, List.set_cons_zero, List.set_cons_succ]
        refine wpAnyH_done (by kernel_rfl) ?_ _
        refine NoPanic.normal ?_
        go_wp2
        go_ret
        exact ⟨rfl, (K4.out.trans k5 (fun _ _ h => h)).below (Nat.le_refl _) (fun _ h => h.elim)⟩

/-! ### The row's step -/
set_option maxRecDepth 100000 in
theorem lifted (os : Os) (started : os.Started) (H : Type) (enc : TypeId × Value → H) :
    ReturnsInHanded {} Try.checked os 8 .any (Rows.markApartSpec.pre6 enc Try.prog Try.f8 Rows.markApartRow.domain false) (Rows.markApartSpec.post enc Try.prog Try.f8 false true false false) := by
  refine returnsInHanded_of_change_sized (C := Try.checked) own started (by kernel_rfl) Try.func8
    (ChangeSpec.witness6 (enc := enc) (C := Try.checked) false ⟨#[], #[.slice none 0 0, .int .u8 0], []⟩ 8 (by kernel_rfl) (by kernel_rfl) (by kernel_rfl) (by kernel_rfl)) ?_
  intro W base args ds gs before hval0 hW hcnd hsz _
  have hval : ∀ (j : Nat) t v, Try.f8.params[j]? = some t → args[j]? = some v → Value.okWide Try.prog W .any base t v := hval0
  have hW' := hW
  obtain ⟨p, q, hA0, hV, rfl, hfz, hnd⟩ := hW
  have hA : DataW.TrodAll enc Try.prog W 0 (fun _ => true) true Try.f8.params.toList args.toList ds p := hA0
  rw [Try.params8] at hA hval hsz
  obtain ⟨v0, vs0, d0, ds0, p0, q0, hargs, rfl, rfl, h0, r0⟩ := trodAll_cons hA
  obtain ⟨v1, vs1, d1, ds1, p1, q1, rfl, rfl, rfl, h1, r1⟩ := trodAll_cons r0
  obtain ⟨rfl, rfl, rfl⟩ := trodAll_nil r1
  obtain rfl : args = #[v0, v1] := by cases args; simp_all
  obtain ⟨rfl, rfl⟩ := trodVars_none hV
  obtain ⟨a0, len0, cap0, rfl⟩ := okWide_slice Try.underlying30 (hval 0 30 v0 rfl rfl)
  have k0 := h0
  have lt0 : ∀ x ∈ p0, x.block < W.heap.size := by obtain ⟨m, hm⟩ := k0; exact DataW.trod_lt m _ _ _ hm
  obtain ⟨b0, x0, c0, e0, l0, _, B0, m0⟩ : ∃ a L cap, Value.slice a0 len0 cap0 = .slice a L.length cap ∧ L.length ≤ cap ∧ cap ≤ 9223372036854775807 ∧ Ln.MkP (fun k => k < W.heap.size) W a L ∧ ((∀ n ∈ d0.weights Try.prog 30, n ≤ reachBytes) → cap ≤ 140737488351232) := by
    obtain ⟨fuel, hf⟩ := h0
    exact Ln.arg_marks hf
  have hs0 : ∀ n ∈ d0.weights Try.prog 30, n ≤ reachBytes := fun n hn => by
    have := List.all_eq_true.1 hsz n (DataW.weights_mem_each (j := 0) rfl rfl n hn)
    simpa using this
  injection e0 with e0 f0 g0
  subst e0 f0 g0
  obtain ⟨a1, rfl, rfl, rfl, w1⟩ := open_int Try.underlying5 (hval 1 5 v1 rfl rfl) h1
  clear hA0 hval0
  refine (walk a0 x0 cap0 a1 W l0 (m0 hs0) B0 w1).mono fun e W' ⟨he, bel⟩ => ?_
  subst he
  exact ⟨_, rfl, _, _, _, [], _, [], hW', trodAll_mk1 (shut_bool Try.underlying4 _), (trodAll_cons_mk (Below.trod laidOut (by kernel_rfl) (of_decide_eq_true (by kernel_rfl)) k0 bel lt0) (trodAll_cons_mk (shut_int Try.underlying5 w1) trodAll_mk0)), rfl, bel.frame _, fun h => by cases h⟩

theorem over : Rows.markApartRow.holds Try.pinned (OpenSpec.ofChange Rows.markApartSpec) :=
  OpenClaim.holds_of_wide 8 Try.f8 rfl rfl rfl rfl rfl rfl rfl ⟨rfl, rfl, rfl, rfl, rfl⟩ rfl rfl rfl rfl rfl (by kernel_rfl) Try.func8 (by kernel_rfl)
    (of_decide_eq_true (by kernel_rfl)) (by unfold Func.isWrapper; first | (rw [if_pos (by decide +kernel)]; kernel_rfl) | (rw [if_neg (by decide +kernel)]; exact ⟨rfl, rfl⟩))
    (fun os started H enc _ => lifted os started H enc)

/-- The statement. -/
theorem proved : Rows.MarkApartSaid := over
#print axioms proved
end Go.Proofs.Ytcplemamcgonkaa.markApart
