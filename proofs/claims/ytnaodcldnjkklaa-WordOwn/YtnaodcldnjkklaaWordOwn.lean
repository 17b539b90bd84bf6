/-
  Proved here: what is handed in is not kept, what is answered is new; a writer, and a reader, that are none (the law WordOwn returns true). Conditions: none.
-/
import Derived.Test.YtnaodcldnjkklaaRows
import Derived.Test.YtnaodcldnjkklaaInv
import Derived.Lib.Hide
import Derived.Deep.RegionHeld3
import Derived.WalkKit
import Derived.ProofKit
import Derived.OpenShut
import Derived.ShutString
import Derived.ChangeOld
import Derived.Below
namespace Go.Proofs.Ytnaodcldnjkklaa.wordOwn
open Go.ChangeShapes Go.WideShapes Go.ChangeAt Go.RowKit
set_option linter.unusedVariables false

theorem own : ownKnob Try.prog.godebug = none := by kernel_rfl
theorem laidOut : laidOutB Try.prog = true := by kernel_rfl

/-! ### The walk -/
set_option maxHeartbeats 4000000 in
set_option maxRecDepth 100000 in
theorem walk (a0 : Option Addr) (x0 : List Nat) (cap0 : Nat) (a1 : Int) (w : World) (l0 : x0.length ≤ cap0) (m0 : cap0 ≤ 140737488351232) (B0 : Wd.Bytes (fun k => k < w.heap.size) w a0 x0) (w1 : (Lit.int .i64 a1).wf = true) :
    Calls Try.prog 6 #[.slice a0 x0.length cap0, .int .i64 a1] w fun e w' => e = .returned (.bool true) ∧ Below w.heap.size w w' := by
  obtain ⟨N, hN⟩ : ∃ N, N = x0.length := ⟨_, rfl⟩
  rw [← hN] at l0
  rw [← hN]
  have HN := Lib.hid hN
  have HA := Lib.hid B0
  clear hN B0
  by_cases hbig : (500 : Int) < (N : Int)
  · go_enter Try.func6, Try.ntmps6
    go_wp2_with (go_at_call 8; refine (Wd.answers w).mono ?_; rintro e w1 ⟨rfl, hk1⟩)
    go_ret
    exact ⟨rfl, hk1.below (Nat.le_refl _) (fun _ h => h.elim)⟩
  go_enter Try.func6, Try.ntmps6
  go_wp2_with
    (at_builtin
     refine Wd.wpList_append_bytes (by rfl) (.tmp 28) (.tmp 29) (by rfl) (.slice (some ⟨w.heap.size, 0, none⟩) 0 0) [] (by rfl) (Wd.Own.of_at (Wd.At.new w 5 _) (by simp) (by decide)) _ a0 N cap0 x0 (by rfl) HN.out.symm
        (HA.out.quiet ((Wd.Keep.refl _ w).alloc _)) (by simp; omega) ?_
     intro y1 n1 c1 w1 hn1 hO1 hk1 hnew1
     have HO1 := Lib.hid hO1
     have HN1 : Hid (n1 = N) := by show n1 = N; rw [hn1.out, HN.out]; rfl
     have kp1 : Wd.Keep (fun _ => False) w w1 := ((Wd.Keep.refl (fun _ => False) w).alloc _).trans hk1 (fun k hk h => by injection h with h; simp at h; omega)
     have HNEW1 : Hid (∀ b, (Value.slice y1 n1 c1).ownBlock = some b → w.heap.size ≤ b) := fun b hb => by
       rcases hnew1 b hb with h | h
       · injection h with h; simp at h; omega
       · simp at h; omega
     have hn1b : n1 ≤ 500 := by have := HN1.out; omega
     clear hO1 hk1 hnew1 hn1)
  obtain ⟨p2, hp2⟩ : ∃ p2, p2 = w1.heap.size := ⟨_, rfl⟩
  have hs1 := kp1.size
  refine (Wd.wBytes (fun b => (Value.slice y1 n1 c1).ownBlock = some b) w1.heap.size none (some []) y1 n1 c1 x0 (by rw [HN1.out, HN.out]) (by have := HN1.out; simp; omega) _ (Wd.Wr.new w1)
    (HO1.out.bytes.quiet ((Wd.Keep.refl _ w1).alloc _)) (fun b hb => ⟨by have := HO1.out.lt b hb; omega, by simp⟩)).mono ?_
  rintro e w3 ⟨q3, rfl, hW3, hk3, hnew3⟩
  have HW3 : Hid (Wd.Wr w3 w1.heap.size q3 (some (Wd.enc x0))) := hW3
  have HQ3 : Hid (∀ b, q3 = some b → w1.heap.size < b) := fun b hb => by
    rcases hnew3 b hb with h | h
    · cases h
    · simp at h; omega
  have kp3 : Wd.Keep (fun b => w.heap.size ≤ b) w w3 := ((kp1.mono (fun _ _ h => h.elim)).alloc _).trans hk3 (fun b _ h => by rcases h with h | h; omega; cases h)
  have HU3 : Hid (Wd.URow w3 y1 n1 (fun g => w.heap.size ≤ g ∧ g < w1.heap.size)) := by
    have h1 := Wd.URow.of_own HO1.out
    have h2 : Wd.URow w1 y1 n1 (fun g => w.heap.size ≤ g ∧ g < w1.heap.size) := by
      rcases h1 with h | ⟨g, cur, hq, hy, hA, hc⟩
      · exact .inl h
      · exact .inr ⟨g, cur, ⟨HNEW1.out g hq, HO1.out.lt g hq⟩, hy, hA, hc⟩
    exact (h2.keep ((Wd.Keep.refl (fun _ => False) w1).alloc _) (fun _ _ h => h)).keep hk3 (fun g hg h => by rcases h with h | h; omega; cases h)
  have KP3 := Lib.hid kp3
  clear hW3 hk3 hnew3 kp3 hp2
  go_wp2
  go_loopw [7] (fun i wr => ∃ k : Nat, k ≤ n1 ∧ i = .int .i64 (k : Int) ∧ Hid (Wd.URow wr y1 n1 (fun g => w.heap.size ≤ g ∧ g < w1.heap.size)) ∧ Hid (Wd.Wr wr w1.heap.size q3 (some (Wd.enc x0))) ∧ Wd.Keep (fun b => w.heap.size ≤ b) w wr) (fun i _ => n1 - (intOf i).toNat)
  case atStart => exact ⟨0, by omega, rfl, HU3.out, HW3.out, KP3.out⟩
  case round =>
    obtain ⟨k, hkn, rfl, HU, HW, hkr⟩ := hrel
    by_cases hlt : (k : Int) < (n1 : Int)
    · obtain ⟨g, z, ⟨hq1, hq2⟩, hy, hc, hf, hglt, hu⟩ := HU.out.at (i := k) (by omega)
      subst hy
      have k0 : (0 : Int) ≤ (k : Int) := by omega
      have HH := Lib.hid hu
      clear hu
      go_wp2
      go_roundw
      case rel =>
        refine ⟨k + 1, by omega, by go_num, HH.out _, ?_, hkr.setCell (p := ⟨g, k, none⟩) (fun _ => hq1) _⟩
        exact HW.out.keep ((Wd.Keep.refl (fun b => b = g) wr).setCell (p := ⟨g, k, none⟩) (fun _ => rfl) _) (by omega) (fun b hb h => by have := HQ3.out b hb; omega)
      case measure => simp [intOf]; omega
    · clear HU
      have hel : (Wd.enc x0).length ≤ 1099511627776 := by rw [Wd.enc_length]; have := HN.out; omega
      go_wp2_with fail
      refine (Wd.out w1.heap.size q3 (some (Wd.enc x0)) hel wr HW.out).mono ?_
      rintro e w4 ⟨g4, m4, hm4, hg4, rfl, hat4, hk4⟩
      have HA4 := Lib.hid hat4
      have HM4 := Lib.hid hm4
      have hg4lt := hat4.lt
      have HW4 : Hid (Wd.Wr w4 w1.heap.size q3 (some (Wd.enc x0))) := HW.out.keep hk4 (fun h => h) (fun _ _ h => h)
      clear hat4 hm4
      go_wp2_with fail
      refine (Wd.out w1.heap.size q3 (some (Wd.enc x0)) hel w4 HW4.out).mono ?_
      rintro e w5 ⟨g5, m5, hm5, hg5, rfl, hat5, hk5⟩
      have HA5 := Lib.hid hat5
      have HM5 := Lib.hid hm5
      have hg5lt := hat5.lt
      have HA4' : Hid (Wd.At w5 g4 5 (Wd.cellsOf (Wd.enc x0)).toArray) := HA4.out.keep hk5 (fun h => h)
      have hm4b : m4 ≤ 1099511627776 := by rw [HM4.out]; exact hel
      clear hat5 hm5
      have h256 : Hid (∀ c ∈ Wd.enc x0, c < 256) := Wd.enc_lt HA.out.1
      go_wp2_with fail
      refine (Wd.read (fun b => b = g4) (some ⟨g4, 0, none⟩) m4 m4 (Wd.enc x0) HM4.out.symm hm4b w5 (Wd.Bytes.of_at HA4'.out h256.out)).mono ?_
      rintro e w6 ⟨p6, g6, rfl, hp6, hg6, hne6, hR6, hk6, hg6lt⟩
      have HR6 := Lib.hid hR6
      have HA5' : Hid (Wd.At w6 g5 5 (Wd.cellsOf (Wd.enc x0)).toArray) := HA5.out.keep hk6 (fun h => h)
      have HU6 : Hid (Wd.URow w6 (some ⟨g4, 0, none⟩) m4 (fun b => b = g4)) := by
        have := Wd.URow.of_at (HA4'.out.keep hk6 (fun h => h))
        rw [← HM4.out] at this
        exact this
      have kp6 : Wd.Keep (fun b => w.heap.size ≤ b) w w6 := ((hkr.trans hk4 (fun _ _ h => h.elim)).trans hk5 (fun _ _ h => h.elim)).trans hk6 (fun _ _ h => h.elim)
      have KP6 := Lib.hid kp6
      have z1 := hkr.size
      have z4 := hk4.size
      have z5 := hk5.size
      clear hR6 kp6 hk4 hk5 hk6 hkr
      go_wp2
      go_loopw [13] (fun i wx => ∃ j : Nat, j ≤ m4 ∧ i = .int .i64 (j : Int) ∧ Hid (Wd.URow wx (some ⟨g4, 0, none⟩) m4 (fun b => b = g4)) ∧ Hid (Wd.Rd (fun b => b = g6) wx p6 (some (Wd.enc x0))) ∧ Hid (Wd.At wx g5 5 (Wd.cellsOf (Wd.enc x0)).toArray) ∧ Wd.Keep (fun b => w.heap.size ≤ b) w wx) (fun i _ => m4 - (intOf i).toNat)
      case atStart => exact ⟨0, by omega, rfl, HU6.out, HR6.out, HA5'.out, KP6.out⟩
      case round =>
        obtain ⟨j, hjm, rfl, HUx, HRx, HAx, hkx⟩ := hrel
        by_cases hjlt : (j : Int) < (m4 : Int)
        · obtain ⟨g, z, hq, hy, hc, hf, hglt, hu⟩ := HUx.out.at (i := j) (by omega)
          have hgg : g = g4 := hq
          subst hgg
          have j0 : (0 : Int) ≤ (j : Int) := by omega
          have HH := Lib.hid hu
          clear hu hy
          go_wp2
          go_roundw
          case rel =>
            refine ⟨j + 1, by omega, by go_num, HH.out _, ?_, ?_, hkx.setCell (p := ⟨g, j, none⟩) (fun _ => by simp; omega) _⟩
            · exact HRx.out.keep ((Wd.Keep.refl (fun b => b = g) _).setCell (p := ⟨g, j, none⟩) (fun _ => rfl) _) (by omega) (fun b _ h1 h2 => by omega)
            · exact HAx.out.far (p := ⟨g, j, none⟩) (by simp; omega) _
          case measure => simp [intOf]; omega
        · obtain ⟨e1, e2, e3⟩ := Wd.byt_back x0 (by have := HN.out; unfold Wd.top; omega) []
          rw [List.append_nil] at e1 e2 e3
          have HE1 := Lib.hid e1
          have HE2 := Lib.hid e2
          clear e1 e2 e3 HUx
          go_wp2_with fail
          refine (Wd.byt (fun b => b = g6) p6 (Ne.symm hne6) _ _ HRx.out).mono ?_
          rintro e w8 ⟨x8, m8, hm8, rfl, hB8, hR8, hk8⟩
          rw [HE2.out] at hm8 hB8
          rw [HE1.out]
          have HB8 := Lib.hid hB8
          have HM8 := Lib.hid hm8
          have kp8 : Wd.Keep (fun b => w.heap.size ≤ b) w w8 := hkx.trans hk8 (fun b _ h => by have : b = p6 := h; omega)
          have HT8 : Hid (Wd.Three (fun b => b = g5) (fun b => b = g6) w.heap.size (some ⟨g5, 0, none⟩) x8 a0 (Wd.enc x0) x0 w8) :=
            ⟨Wd.Bytes.of_at (HAx.out.keep hk8 (by omega)) h256.out, HB8.out, HA.out.keep kp8 (fun b _ h1 h2 => by omega)⟩
          have KP8 := Lib.hid kp8
          clear hB8 hm8 hR8 hk8 hkx kp8
          go_wp2_with (first
            | (go_at_call 9; refine (Wd.wNumNil a1 w8).mono ?_; rintro e w9 ⟨rfl, rfl⟩)
            | (go_at_call 12; refine (Wd.wBytesNil _ _ _ w8).mono ?_; rintro e w9 ⟨rfl, rfl⟩)
            | (go_at_call 14; refine (Wd.outNil w8).mono ?_; rintro e w9 ⟨rfl, rfl⟩)
            | (go_at_call 16; refine (Wd.numNil w8).mono ?_; rintro e w9 ⟨rfl, rfl⟩)
            | (go_at_call 18; refine (Wd.bytNil w8).mono ?_; rintro e w9 ⟨rfl, rfl⟩))
          have HLE : Hid ((Wd.enc x0).length = m5) := HM5.out.symm
          have HL8 : Hid (x0.length = m8) := HM8.out.symm
          have HLN : Hid (x0.length = N) := HN.out.symm
          refine wp_region_noPanic ?_
          refine wp_region_held_drew (S := (fun w' => Wd.Three (fun b => b = g5) (fun b => b = g6) w.heap.size (some ⟨g5, 0, none⟩) x8 a0 (Wd.enc x0) x0 w' ∧ (convert 24 9 (.slice (some ⟨g5, 0, none⟩) m5 m5)).run Try.prog w' = .ok (.string (Wd.str (Wd.enc x0))) w' ∧ (convert 24 9 (.slice x8 m8 m8)).run Try.prog w' = .ok (.string (Wd.str x0)) w' ∧ (convert 24 9 (.slice a0 N cap0)).run Try.prog w' = .ok (.string (Wd.str x0)) w')) (by kernel_rfl) (Wd.Three.eqs (w := w8.drew) HT8.out HLE.out HL8.out HLN.out) (fun hHeld => ?_)
          refine wpAnyH_ready (rs := [0]) (by kernel_rfl) (by simp) ?_
          refine AllReadyH.cons rfl (fun K hK => ?_) AllReadyH.nil
          go_simp
          refine (Wd.answers _).mono ?_
          rintro e w9 ⟨rfl, hk9⟩
          have HT9 := Lib.hid (Wd.Three.quiet (w := w8.drew) HT8.out hk9)
          go_wp2_with fail
          refine hK.out _ _ (Wd.Three.eqs HT9.out HLE.out HL8.out HLN.out) (fun hHeld => ?_)
          clear hK K
          try simp only [Act.put, List.getElem_toArray, List.getElem_cons_succ, List.getElem_cons_zero, List.setIfInBounds_toArray, List.set_cons_zero, List.set_cons_succ]
          refine wpAnyH_take (i := 1) (v := ?_) rfl (by kernel_rfl) (by kernel_rfl) (by kernel_rfl) (fun _ _ _ h => h) (Or.inl ⟨by rfl, ?_⟩) (by assumption) ?_
          rotate_left
          · (intro wS hSw; (try dsimp only at hSw); (try simp only [List.getElem_toArray, List.getElem_cons_succ, List.getElem_cons_zero]); go_simp; try (with_reducible rfl))
          try simp only [Act.put, List.getElem_toArray, List.getElem_cons_succ, List.getElem_cons_zero, List.setIfInBounds_toArray, List.set_cons_zero, List.set_cons_succ]
          refine wpAnyH_take (i := 2) (v := ?_) rfl (by kernel_rfl) (by kernel_rfl) (by kernel_rfl) (fun _ _ _ h => h) (Or.inl ⟨by rfl, ?_⟩) (by assumption) ?_
          rotate_left
          · (intro wS hSw; (try dsimp only at hSw); (try simp only [List.getElem_toArray, List.getElem_cons_succ, List.getElem_cons_zero]); go_simp; try (with_reducible rfl))
          try simp only [Act.put, List.getElem_toArray, List.getElem_cons_succ, List.getElem_cons_zero, List.setIfInBounds_toArray, List.set_cons_zero, List.set_cons_succ]
          refine wpAnyH_take (i := 3) (v := ?_) rfl (by kernel_rfl) (by kernel_rfl) (by kernel_rfl) (fun _ _ _ h => h) (Or.inl ⟨by rfl, ?_⟩) (by assumption) ?_
          rotate_left
          · (intro wS hSw; (try dsimp only at hSw); (try simp only [List.getElem_toArray, List.getElem_cons_succ, List.getElem_cons_zero]); go_simp; try (with_reducible rfl))
          try simp only [Act.put, List.getElem_toArray, List.getElem_cons_succ, List.getElem_cons_zero, List.setIfInBounds_toArray, List.set_cons_zero, List.set_cons_succ]
          refine wpAnyH_take (i := 4) (v := ?_) rfl (by kernel_rfl) (by kernel_rfl) (by kernel_rfl) (fun _ _ _ h => h) (Or.inl ⟨by rfl, ?_⟩) (by assumption) ?_
          rotate_left
          · (intro wS hSw; (try dsimp only at hSw); (try simp only [List.getElem_toArray, List.getElem_cons_succ, List.getElem_cons_zero]); go_simp; try (with_reducible rfl))
          try simp only [Act.put, List.getElem_toArray, List.getElem_cons_succ, List.getElem_cons_zero, List.setIfInBounds_toArray, List.set_cons_zero, List.set_cons_succ]
          refine wpAnyH_ready (rs := [5]) (by kernel_rfl) (by simp) ?_
          refine AllReadyH.cons rfl (fun K hK => ?_) AllReadyH.nil
          go_simp
          refine (Wd.refBytes _ a0 N cap0 x0 HLN.out (by omega) w9 HT9.out.2.2).mono ?_
          rintro e w10 ⟨y10, n10, c10, hn10, rfl, hO10, _, hk10⟩
          have s10 := Wd.run_str hO10.bytes n10 c10 hn10.symm
          have HT10 := Lib.hid (HT9.out.quiet hk10)
          clear hO10 hn10
          go_wp2_with fail
          refine hK.out _ _ (Wd.Three.eqs HT10.out HLE.out HL8.out HLN.out) (fun hHeld => ?_)
          clear hK K
          try simp only [Act.put, List.getElem_toArray, List.getElem_cons_succ, List.getElem_cons_zero, List.setIfInBounds_toArray, List.set_cons_zero, List.set_cons_succ]
          refine wpAnyH_ready (rs := [6]) (by kernel_rfl) (by simp) ?_
          refine AllReadyH.cons rfl (fun K hK => ?_) AllReadyH.nil
          go_simp
          refine hK.out _ _ (Wd.Three.eqs HT10.out HLE.out HL8.out HLN.out) (fun hHeld => ?_)
          clear hK K
          try simp only [Act.put, List.getElem_toArray, List.getElem_cons_succ, List.getElem_cons_zero, List.setIfInBounds_toArray, List.set_cons_zero, List.set_cons_succ]
          refine wpAnyH_take (i := 7) (v := ?_) rfl (by kernel_rfl) (by kernel_rfl) (by kernel_rfl) (fun _ _ _ h => h) (Or.inl ⟨by rfl, ?_⟩) (by assumption) ?_
          rotate_left
          · (intro wS hSw; (try dsimp only at hSw); (try simp only [List.getElem_toArray, List.getElem_cons_succ, List.getElem_cons_zero]); go_simp; try (with_reducible rfl))
          try simp only [Act.put, List.getElem_toArray, List.getElem_cons_succ, List.getElem_cons_zero, List.setIfInBounds_toArray, List.set_cons_zero, List.set_cons_succ]
          refine wpAnyH_take (i := 8) (v := ?_) rfl (by kernel_rfl) (by kernel_rfl) (by kernel_rfl) (fun _ _ _ h => h) (Or.inl ⟨by rfl, ?_⟩) (by assumption) ?_
          rotate_left
          · (intro wS hSw; (try dsimp only at hSw); (try simp only [List.getElem_toArray, List.getElem_cons_succ, List.getElem_cons_zero]); go_simp; try (with_reducible rfl))
          try simp only [Act.put, List.getElem_toArray, List.getElem_cons_succ, List.getElem_cons_zero, List.setIfInBounds_toArray, List.set_cons_zero, List.set_cons_succ]
          refine wpAnyH_take (i := 9) (v := ?_) rfl (by kernel_rfl) (by kernel_rfl) (by kernel_rfl) (fun _ _ _ h => h) (Or.inl ⟨by rfl, ?_⟩) (by assumption) ?_
          rotate_left
          · (intro wS hSw; (try dsimp only at hSw); (try simp only [List.getElem_toArray, List.getElem_cons_succ, List.getElem_cons_zero]); go_simp; try (with_reducible rfl))
          try simp only [Act.put, List.getElem_toArray, List.getElem_cons_succ, List.getElem_cons_zero, List.setIfInBounds_toArray, List.set_cons_zero, List.set_cons_succ]
          refine wpAnyH_take (i := 10) (v := ?_) rfl (by kernel_rfl) (by kernel_rfl) (by kernel_rfl) (fun _ _ _ h => h) (Or.inl ⟨by rfl, ?_⟩) (by assumption) ?_
          rotate_left
          · (intro wS hSw; (try dsimp only at hSw); (try simp only [List.getElem_toArray, List.getElem_cons_succ, List.getElem_cons_zero]); go_simp; try (with_reducible rfl))
          try simp only [Act.put, List.getElem_toArray, List.getElem_cons_succ, List.getElem_cons_zero, List.setIfInBounds_toArray, List.set_cons_zero, List.set_cons_succ]
          refine wpAnyH_take (i := 11) (v := ?_) rfl (by kernel_rfl) (by kernel_rfl) (by kernel_rfl) (fun _ _ _ h => h) (Or.inl ⟨by rfl, ?_⟩) (by assumption) ?_
          rotate_left
          · (intro wS hSw; (try dsimp only at hSw); (try simp only [List.getElem_toArray, List.getElem_cons_succ, List.getElem_cons_zero]); go_simp; try (with_reducible rfl))
          try simp only [Act.put, List.getElem_toArray, List.getElem_cons_succ, List.getElem_cons_zero, List.setIfInBounds_toArray, List.set_cons_zero, List.set_cons_succ]
          refine wpAnyH_take (i := 12) (v := ?_) rfl (by kernel_rfl) (by kernel_rfl) (by kernel_rfl) (fun _ _ _ h => h) (Or.inl ⟨by rfl, ?_⟩) (by assumption) ?_
          rotate_left
          · (intro wS hSw; (try dsimp only at hSw); (try simp only [List.getElem_toArray, List.getElem_cons_succ, List.getElem_cons_zero]); go_simp; try (with_reducible rfl))
          try simp only [Act.put, List.getElem_toArray, List.getElem_cons_succ, List.getElem_cons_zero, List.setIfInBounds_toArray, List.set_cons_zero, List.set_cons_succ]
          refine wpAnyH_take (i := 13) (v := ?_) rfl (by kernel_rfl) (by kernel_rfl) (by kernel_rfl) (fun _ _ _ h => h) (Or.inl ⟨by rfl, ?_⟩) (by assumption) ?_
          rotate_left
          · (intro wS hSw; (try dsimp only at hSw); (try simp only [List.getElem_toArray, List.getElem_cons_succ, List.getElem_cons_zero]); go_simp; try (with_reducible rfl))
          try simp only [Act.put, List.getElem_toArray, List.getElem_cons_succ, List.getElem_cons_zero, List.setIfInBounds_toArray, List.set_cons_zero, List.set_cons_succ]
          refine wpAnyH_take (i := 14) (v := ?_) rfl (by kernel_rfl) (by kernel_rfl) (by kernel_rfl) (fun _ _ _ h => h) (Or.inl ⟨by rfl, ?_⟩) (by assumption) ?_
          rotate_left
          · (intro wS hSw; (try dsimp only at hSw); (try simp only [List.getElem_toArray, List.getElem_cons_succ, List.getElem_cons_zero]); go_simp; try (with_reducible rfl))
          try simp only [Act.put, List.getElem_toArray, List.getElem_cons_succ, List.getElem_cons_zero, List.setIfInBounds_toArray, List.set_cons_zero, List.set_cons_succ]
          refine wpAnyH_take (i := 15) (v := ?_) rfl (by kernel_rfl) (by kernel_rfl) (by kernel_rfl) (fun _ _ _ h => h) (Or.inl ⟨by rfl, ?_⟩) (by assumption) ?_
          rotate_left
          · (intro wS hSw; (try dsimp only at hSw); (try simp only [List.getElem_toArray, List.getElem_cons_succ, List.getElem_cons_zero]); go_simp; try (with_reducible rfl))
          try simp only [Act.put, List.getElem_toArray, List.getElem_cons_succ, List.getElem_cons_zero, List.setIfInBounds_toArray, List.set_cons_zero, List.set_cons_succ]
          refine wpAnyH_take (i := 16) (v := ?_) rfl (by kernel_rfl) (by kernel_rfl) (by kernel_rfl) (fun _ _ _ h => h) (Or.inl ⟨by rfl, ?_⟩) (by assumption) ?_
          rotate_left
          · (intro wS hSw; (try dsimp only at hSw); (try simp only [List.getElem_toArray, List.getElem_cons_succ, List.getElem_cons_zero]); go_simp; try (with_reducible rfl))
          try simp only [Act.put, List.getElem_toArray, List.getElem_cons_succ, List.getElem_cons_zero, List.setIfInBounds_toArray, List.set_cons_zero, List.set_cons_succ]
          refine wpAnyH_take (i := 17) (v := ?_) rfl (by kernel_rfl) (by kernel_rfl) (by kernel_rfl) (fun _ _ _ h => h) (Or.inl ⟨by rfl, ?_⟩) (by assumption) ?_
          rotate_left
          · (intro wS hSw; (try dsimp only at hSw); (try simp only [List.getElem_toArray, List.getElem_cons_succ, List.getElem_cons_zero]); go_simp; try (with_reducible rfl))
          try simp only [Act.put, List.getElem_toArray, List.getElem_cons_succ, List.getElem_cons_zero, List.setIfInBounds_toArray, List.set_cons_zero, List.set_cons_succ]
          refine wpAnyH_take (i := 18) (v := ?_) rfl (by kernel_rfl) (by kernel_rfl) (by kernel_rfl) (fun _ _ _ h => h) (Or.inl ⟨by rfl, ?_⟩) (by assumption) ?_
          rotate_left
          · (intro wS hSw; (try dsimp only at hSw); (try simp only [List.getElem_toArray, List.getElem_cons_succ, List.getElem_cons_zero]); go_simp; try (with_reducible rfl))
          try simp only [Act.put, List.getElem_toArray, List.getElem_cons_succ, List.getElem_cons_zero, List.setIfInBounds_toArray, List.set_cons_zero, List.set_cons_succ]
          refine wpAnyH_take (i := 19) (v := ?_) rfl (by kernel_rfl) (by kernel_rfl) (by kernel_rfl) (fun _ _ _ h => h) (Or.inl ⟨by rfl, ?_⟩) (by assumption) ?_
          rotate_left
          · (intro wS hSw; (try dsimp only at hSw); (try simp only [List.getElem_toArray, List.getElem_cons_succ, List.getElem_cons_zero]); go_simp; try (with_reducible rfl))
          try simp only [Act.put, List.getElem_toArray, List.getElem_cons_succ, List.getElem_cons_zero, List.setIfInBounds_toArray, List.set_cons_zero, List.set_cons_succ]
          refine wpAnyH_take (i := 20) (v := ?_) rfl (by kernel_rfl) (by kernel_rfl) (by kernel_rfl) (fun _ _ _ h => h) (Or.inl ⟨by rfl, ?_⟩) (by assumption) ?_
          rotate_left
          · (intro wS hSw; (try dsimp only at hSw); (try simp only [List.getElem_toArray, List.getElem_cons_succ, List.getElem_cons_zero]); go_simp; try (with_reducible rfl))
          try simp only [Act.put, List.getElem_toArray, List.getElem_cons_succ, List.getElem_cons_zero, List.setIfInBounds_toArray, List.set_cons_zero, List.set_cons_succ]
          refine wpAnyH_take (i := 21) (v := ?_) rfl (by kernel_rfl) (by kernel_rfl) (by kernel_rfl) (fun _ _ _ h => h) (Or.inl ⟨by rfl, ?_⟩) (by assumption) ?_
          rotate_left
          · (intro wS hSw; (try dsimp only at hSw); (try simp only [List.getElem_toArray, List.getElem_cons_succ, List.getElem_cons_zero]); go_simp; try (with_reducible rfl))
          try simp only [Act.put, List.getElem_toArray, List.getElem_cons_succ, List.getElem_cons_zero, List.setIfInBounds_toArray, List.set_cons_zero, List.set_cons_succ]
          refine wpAnyH_take (i := 22) (v := ?_) rfl (by kernel_rfl) (by kernel_rfl) (by kernel_rfl) (fun _ _ _ h => h) (Or.inl ⟨by rfl, ?_⟩) (by assumption) ?_
          rotate_left
          · (intro wS hSw; (try dsimp only at hSw); (try simp only [List.getElem_toArray, List.getElem_cons_succ, List.getElem_cons_zero]); go_simp; try (with_reducible rfl))
          try simp only [Act.put, List.getElem_toArray, List.getElem_cons_succ, List.getElem_cons_zero, List.setIfInBounds_toArray, List.set_cons_zero, List.set_cons_succ]
          refine wpAnyH_take (i := 23) (v := ?_) rfl (by kernel_rfl) (by kernel_rfl) (by kernel_rfl) (fun _ _ _ h => h) (Or.inl ⟨by rfl, ?_⟩) (by assumption) ?_
          rotate_left
          · (intro wS hSw; (try dsimp only at hSw); (try simp only [List.getElem_toArray, List.getElem_cons_succ, List.getElem_cons_zero]); go_simp; try (with_reducible rfl))
          try simp only [Act.put, List.getElem_toArray, List.getElem_cons_succ, List.getElem_cons_zero, List.setIfInBounds_toArray, List.set_cons_zero, List.set_cons_succ]
          refine wpAnyH_take (i := 24) (v := ?_) rfl (by kernel_rfl) (by kernel_rfl) (by kernel_rfl) (fun _ _ _ h => h) (Or.inl ⟨by rfl, ?_⟩) (by assumption) ?_
          rotate_left
          · (intro wS hSw; (try dsimp only at hSw); (try simp only [List.getElem_toArray, List.getElem_cons_succ, List.getElem_cons_zero]); go_simp; try (with_reducible rfl))
          try simp only [Act.put, List.getElem_toArray, List.getElem_cons_succ, List.getElem_cons_zero, List.setIfInBounds_toArray, List.set_cons_zero, List.set_cons_succ]
          refine wpAnyH_take (i := 25) (v := ?_) rfl (by kernel_rfl) (by kernel_rfl) (by kernel_rfl) (fun _ _ _ h => h) (Or.inl ⟨by rfl, ?_⟩) (by assumption) ?_
          rotate_left
          · (intro wS hSw; (try dsimp only at hSw); (try simp only [List.getElem_toArray, List.getElem_cons_succ, List.getElem_cons_zero]); go_simp; try (with_reducible rfl))
          try simp only [Act.put, List.getElem_toArray, List.getElem_cons_succ, List.getElem_cons_zero, List.setIfInBounds_toArray, List.set_cons_zero, List.set_cons_succ]
          refine wpAnyH_take (i := 26) (v := ?_) rfl (by kernel_rfl) (by kernel_rfl) (by kernel_rfl) (fun _ _ _ h => h) (Or.inl ⟨by rfl, ?_⟩) (by assumption) ?_
          rotate_left
          · (intro wS hSw; (try dsimp only at hSw); (try simp only [List.getElem_toArray, List.getElem_cons_succ, List.getElem_cons_zero]); go_simp; try (with_reducible rfl))
          try simp only [Act.put, List.getElem_toArray, List.getElem_cons_succ, List.getElem_cons_zero, List.setIfInBounds_toArray, List.set_cons_zero, List.set_cons_succ]
          refine wpAnyH_take (i := 27) (v := ?_) rfl (by kernel_rfl) (by kernel_rfl) (by kernel_rfl) (fun _ _ _ h => h) (Or.inl ⟨by rfl, ?_⟩) (by assumption) ?_
          rotate_left
          · (intro wS hSw; (try dsimp only at hSw); (try simp only [List.getElem_toArray, List.getElem_cons_succ, List.getElem_cons_zero]); go_simp; try (with_reducible rfl))
          try simp only [Act.put, List.getElem_toArray, List.getElem_cons_succ, List.getElem_cons_zero, List.setIfInBounds_toArray, List.set_cons_zero, List.set_cons_succ]
          refine wpAnyH_take (i := 28) (v := ?_) rfl (by kernel_rfl) (by kernel_rfl) (by kernel_rfl) (fun _ _ _ h => h) (Or.inl ⟨by rfl, ?_⟩) (by assumption) ?_
          rotate_left
          · (intro wS hSw; (try dsimp only at hSw); (try simp only [List.getElem_toArray, List.getElem_cons_succ, List.getElem_cons_zero]); go_simp; try (with_reducible rfl))
          try simp only [Act.put, List.getElem_toArray, List.getElem_cons_succ, List.getElem_cons_zero, List.setIfInBounds_toArray, List.set_cons_zero, List.set_cons_succ]
          refine wpAnyH_take (i := 29) (v := ?_) rfl (by kernel_rfl) (by kernel_rfl) (by kernel_rfl) (fun _ _ _ h => h) (Or.inl ⟨by rfl, ?_⟩) (by assumption) ?_
          rotate_left
          · (intro wS hSw; (try dsimp only at hSw); (try simp only [List.getElem_toArray, List.getElem_cons_succ, List.getElem_cons_zero]); go_simp; try (with_reducible rfl))
          try simp only [Act.put, List.getElem_toArray, List.getElem_cons_succ, List.getElem_cons_zero, List.setIfInBounds_toArray, List.set_cons_zero, List.set_cons_succ]
          refine wpAnyH_take (i := 30) (v := ?_) rfl (by kernel_rfl) (by kernel_rfl) (by kernel_rfl) (fun _ _ _ h => h) (Or.inl ⟨by rfl, ?_⟩) (by assumption) ?_
          rotate_left
          · (intro wS hSw; (try dsimp only at hSw); (try simp only [List.getElem_toArray, List.getElem_cons_succ, List.getElem_cons_zero]); go_simp; try (with_reducible rfl))
          try simp only [Act.put, List.getElem_toArray, List.getElem_cons_succ, List.getElem_cons_zero, List.setIfInBounds_toArray, List.set_cons_zero, List.set_cons_succ]
          refine wpAnyH_take (i := 31) (v := ?_) rfl (by kernel_rfl) (by kernel_rfl) (by kernel_rfl) (fun _ _ _ h => h) (Or.inl ⟨by rfl, ?_⟩) (by assumption) ?_
          rotate_left
          · (intro wS hSw; (try dsimp only at hSw); (try simp only [List.getElem_toArray, List.getElem_cons_succ, List.getElem_cons_zero]); go_simp; try (with_reducible rfl))
          try simp only [Act.put, List.getElem_toArray, List.getElem_cons_succ, List.getElem_cons_zero, List.setIfInBounds_toArray, List.set_cons_zero, List.set_cons_succ]
          refine wpAnyH_take (i := 32) (v := ?_) rfl (by kernel_rfl) (by kernel_rfl) (by kernel_rfl) (fun _ _ _ h => h) (Or.inl ⟨by rfl, ?_⟩) (by assumption) ?_
          rotate_left
          · (intro wS hSw; (try dsimp only at hSw); (try simp only [List.getElem_toArray, List.getElem_cons_succ, List.getElem_cons_zero]); go_simp; try (with_reducible rfl))
          try simp only [Act.put, List.getElem_toArray, List.getElem_cons_succ, List.getElem_cons_zero, List.setIfInBounds_toArray, List.set_cons_zero, List.set_cons_succ]
          refine wpAnyH_ready (rs := [33]) (by kernel_rfl) (by simp) ?_
          refine AllReadyH.cons rfl (fun K hK => ?_) AllReadyH.nil
          go_simp
          refine (Wd.doneNil _).mono ?_
          rintro e w11 ⟨rfl, rfl⟩
          go_wp2_with fail
          refine hK.out _ _ (Wd.Three.eqs HT10.out HLE.out HL8.out HLN.out) (fun hHeld => ?_)
          clear hK K
          try simp only [Act.put, List.getElem_toArray, List.getElem_cons_succ, List.getElem_cons_zero, List.setIfInBounds_toArray, List.set_cons_zero, List.set_cons_succ]
          refine wpAnyH_take (i := 34) (v := ?_) rfl (by kernel_rfl) (by kernel_rfl) (by kernel_rfl) (fun _ _ _ h => h) (Or.inl ⟨by rfl, ?_⟩) (by assumption) ?_
          rotate_left
          · (intro wS hSw; (try dsimp only at hSw); (try simp only [List.getElem_toArray, List.getElem_cons_succ, List.getElem_cons_zero]); go_simp; try (with_reducible rfl))
          try simp only [Act.put, List.getElem_toArray, List.getElem_cons_succ, List.getElem_cons_zero, List.setIfInBounds_toArray, List.set_cons_zero, List.set_cons_succ]
          refine wpAnyH_take (i := 35) (v := ?_) rfl (by kernel_rfl) (by kernel_rfl) (by kernel_rfl) (fun _ _ _ h => h) (Or.inl ⟨by rfl, ?_⟩) (by assumption) ?_
          rotate_left
          · (intro wS hSw; (try dsimp only at hSw); (try simp only [List.getElem_toArray, List.getElem_cons_succ, List.getElem_cons_zero]); go_simp; try (with_reducible rfl))
          try simp only [Act.put, List.getElem_toArray, List.getElem_cons_succ, List.getElem_cons_zero, List.setIfInBounds_toArray, List.set_cons_zero, List.set_cons_succ]
          refine wpAnyH_take (i := 36) (v := ?_) rfl (by kernel_rfl) (by kernel_rfl) (by kernel_rfl) (fun _ _ _ h => h) (Or.inl ⟨by rfl, ?_⟩) (by assumption) ?_
          rotate_left
          · (intro wS hSw; (try dsimp only at hSw); (try simp only [List.getElem_toArray, List.getElem_cons_succ, List.getElem_cons_zero]); go_simp; try (with_reducible rfl))
          try simp only [Act.put, List.getElem_toArray, List.getElem_cons_succ, List.getElem_cons_zero, List.setIfInBounds_toArray, List.set_cons_zero, List.set_cons_succ]
          refine wpAnyH_done (by kernel_rfl) ?_ _
          refine NoPanic.normal ?_
          go_wp2
          go_ret
          exact ⟨rfl, (((KP8.out.drew).trans hk9 (fun _ _ h => h.elim)).trans hk10 (fun _ _ h => h.elim)).below (Nat.le_refl _) (fun _ h => h)⟩

/-! ### The row's step -/
set_option maxRecDepth 100000 in
theorem lifted (os : Os) (started : os.Started) (H : Type) (enc : TypeId × Value → H) :
    ReturnsInHanded {} Try.checked os 6 .any (Rows.wordOwnSpec.pre6 enc Try.prog Try.f6 Rows.wordOwnRow.domain false) (Rows.wordOwnSpec.post enc Try.prog Try.f6 false true false false) := by
  refine returnsInHanded_of_change_sized (C := Try.checked) own started (by kernel_rfl) Try.func6
    (ChangeSpec.witness6 (enc := enc) (C := Try.checked) false ⟨#[], #[.slice none 0 0, .int .i64 0], []⟩ 8 (by kernel_rfl) (by kernel_rfl) (by kernel_rfl) (by kernel_rfl)) ?_
  intro W base args ds gs before hval0 hW hcnd hsz _
  have hval : ∀ (j : Nat) t v, Try.f6.params[j]? = some t → args[j]? = some v → Value.okWide Try.prog W .any base t v := hval0
  have hW' := hW
  obtain ⟨p, q, hA0, hV, rfl, hfz, hnd⟩ := hW
  have hA : DataW.TrodAll enc Try.prog W 0 (fun _ => true) true Try.f6.params.toList args.toList ds p := hA0
  rw [Try.params6] at hA hval hsz
  obtain ⟨v0, vs0, d0, ds0, p0, q0, hargs, rfl, rfl, h0, r0⟩ := trodAll_cons hA
  obtain ⟨v1, vs1, d1, ds1, p1, q1, rfl, rfl, rfl, h1, r1⟩ := trodAll_cons r0
  obtain ⟨rfl, rfl, rfl⟩ := trodAll_nil r1
  obtain rfl : args = #[v0, v1] := by cases args; simp_all
  obtain ⟨rfl, rfl⟩ := trodVars_none hV
  obtain ⟨a0, len0, cap0, rfl⟩ := okWide_slice Try.underlying24 (hval 0 24 v0 rfl rfl)
  have k0 := h0
  have lt0 : ∀ x ∈ p0, x.block < W.heap.size := by obtain ⟨m, hm⟩ := k0; exact DataW.trod_lt m _ _ _ hm
  obtain ⟨b0, x0, c0, e0, l0, _, B0, m0⟩ : ∃ a bs cap, Value.slice a0 len0 cap0 = .slice a bs.length cap ∧ bs.length ≤ cap ∧ cap ≤ 9223372036854775807 ∧ Wd.Bytes (fun k => k < W.heap.size) W a bs ∧ ((∀ n ∈ d0.weights Try.prog 24, n ≤ reachBytes) → cap ≤ 140737488351232) := by
    obtain ⟨fuel, hf⟩ := h0
    exact Wd.arg_bytes hf
  have hs0 : ∀ n ∈ d0.weights Try.prog 24, n ≤ reachBytes := fun n hn => by
    have := List.all_eq_true.1 hsz n (DataW.weights_mem_each (j := 0) rfl rfl n hn)
    simpa using this
  injection e0 with e0 f0 g0
  subst e0 f0 g0
  obtain ⟨a1, rfl, rfl, rfl, w1⟩ := open_int Try.underlying3 (hval 1 3 v1 rfl rfl) h1
  clear hA0 hval0
  refine (walk a0 x0 cap0 a1 W l0 (m0 hs0) B0 w1).mono fun e W' ⟨he, bel⟩ => ?_
  subst he
  exact ⟨_, rfl, _, _, _, [], _, [], hW', trodAll_mk1 (shut_bool Try.underlying4 _), (trodAll_cons_mk (Below.trod laidOut (by kernel_rfl) (of_decide_eq_true (by kernel_rfl)) k0 bel lt0) (trodAll_cons_mk (shut_int Try.underlying3 w1) trodAll_mk0)), rfl, bel.frame _, fun h => by cases h⟩

theorem over : Rows.wordOwnRow.holds Try.pinned (OpenSpec.ofChange Rows.wordOwnSpec) :=
  OpenClaim.holds_of_wide 6 Try.f6 rfl rfl rfl rfl rfl rfl rfl ⟨rfl, rfl, rfl, rfl, rfl⟩ rfl rfl rfl rfl rfl (by kernel_rfl) Try.func6 (by kernel_rfl)
    (of_decide_eq_true (by kernel_rfl)) (by unfold Func.isWrapper; first | (rw [if_pos (by decide +kernel)]; kernel_rfl) | (rw [if_neg (by decide +kernel)]; exact ⟨rfl, rfl⟩))
    (fun os started H enc _ => lifted os started H enc)

/-- The statement. -/
theorem proved : Rows.WordOwnSaid := over
#print axioms proved
end Go.Proofs.Ytnaodcldnjkklaa.wordOwn
