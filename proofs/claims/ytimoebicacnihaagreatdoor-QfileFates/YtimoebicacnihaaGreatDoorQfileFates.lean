/-
  Proved here: who waits, whose attempts are open, how often the power went, when one is due.
-/
import Derived.Test.YtimoebicacnihaaGreatDoorRows
import Derived.Test.YtimoebicacnihaaGreatDoorCards
import Derived.Test.YtimoebicacnihaaGreatDoorTie
import Derived.Test.YtimoebicacnihaaGreatDoorKg16
import Derived.Test.YtimoebicacnihaaGreatDoorKF1
import Derived.Lib.Hide
import Derived.WalkKit
import Derived.ProofKit
import Derived.OpenShut
import Derived.ShutString
import Derived.ChangeOld
import Derived.Below
import Derived.Lay
import Derived.SevenTiedAt
import Derived.Stop.Joined
import Derived.Deep.DeepHandedRow
namespace Go.Proofs.YtimoebicacnihaaGreatDoor.qfileFates
open Go.ChangeShapes Go.WideShapes Go.ChangeAt Go.RowKit
set_option linter.unusedVariables false
set_option linter.unusedSimpArgs false
open Ln
theorem own : ownKnob Tryz.prog.godebug = none := by kernel_rfl

/-! ### The walk -/
set_option maxHeartbeats 16000000 in
set_option maxRecDepth 100000 in
theorem walk (m0 : Ln.Ml) (rx0 : Option Addr) (rc0 : Nat) (bx0 : Option Addr) (bc0 : Nat) (a1 : Option Addr) (x1 : List Ln.Mk) (cap1 : Nat) (w : World) (M0 : Ln.MlAt (fun k => k < w.heap.size) w m0 rx0 m0.rcpts.length rc0 bx0 m0.body.length bc0) (F0 : m0.frm.size ≤ 9223372036854775807) (R0 : ∀ s ∈ m0.rcpts, s.size ≤ 9223372036854775807) (l1 : x1.length ≤ cap1) (m1 : cap1 * 24 ≤ 140737488351232) (B1 : Ln.MkP (fun k => k < w.heap.size) w a1 x1) (hE : Ln.Env w) :
    Calls Tryz.prog 5 #[.agg (Ln.mlC m0 rx0 m0.rcpts.length rc0 bx0 m0.body.length bc0), .slice a1 x1.length cap1] w fun e w' => e = .returned (.bool true) ∧ Below w.heap.size w w' := by
  have k0 := keep_new w (.cells (mlC m0 rx0 m0.rcpts.length rc0 bx0 m0.body.length bc0) 25)
  have HA := Lib.hid (fun W e => answers12C W e)
  obtain ⟨W0, hW0⟩ : ∃ W0, W0 = w.alloc (.cells (mlC m0 rx0 m0.rcpts.length rc0 bx0 m0.body.length bc0) 25) := ⟨_, rfl⟩
  have HAT : Hid (At W0 w.heap.size 25 (mlC m0 rx0 m0.rcpts.length rc0 bx0 m0.body.length bc0)) := Lib.hid (by rw [hW0]; exact At.new w _ _)
  rw [← hW0] at k0
  have HM := Lib.hid (M0.quiet k0)
  have HX := Lib.hid (mk_quiet B1 k0)
  have HE := Lib.hid (hE.quiet k0)
  have K0 := Lib.hid k0
  have HB8 := Lib.hid M0.bs.1
  have HGO : Hid (∀ W, Keep (fun _ => False) W0 W → Calls Tryz.prog 8 #[.agg (mlC m0 rx0 m0.rcpts.length rc0 bx0 m0.body.length bc0), .slice a1 x1.length cap1] W (Quiet (.bool (goodQ m0 x1)) W)) := Lib.hid (fun W k => good12C (HM.out.quiet k) F0 R0 rfl (mk_quiet HX.out k))
  have HFI : Hid (∀ W, Keep (fun _ => False) W0 W → goodQ m0 x1 = true → Calls Tryz.prog 10 #[.agg (mlC m0 rx0 m0.rcpts.length rc0 bx0 m0.body.length bc0), .slice a1 x1.length cap1] W (Filed m0 x1 W)) := Lib.hid (fun W k hg => file12C (HM.out.quiet k) rfl (mk_quiet HX.out k) hg)
  have HFd : Hid (∀ W e w', Filed m0 x1 W e w' → ∃ y n cap, n = (fileB m0 x1).length ∧ e = .returned (.slice y n cap) ∧ Gr W w' (.slice y n cap) (fileB m0 x1)) := Lib.hid (fun _ _ _ h => h)
  have HCE : Hid (∀ W, Keep (fun _ => False) W0 W → Cells W w.heap.size m0 rx0 m0.rcpts.length rc0 bx0 m0.body.length bc0) := Lib.hid (fun W k => cells_of (HAT.out.keep k (fun h => h)))
  have HMS : Hid (∀ X, Keep (fun _ => False) W0 X → MlAt (fun k => k < w.heap.size) X m0 rx0 m0.rcpts.length rc0 bx0 m0.body.length bc0) := Lib.hid (fun X k => HM.out.quiet k)
  have HW0 := Lib.hid hW0
  clear k0 M0 hE F0 R0 B1 hW0
  unfold mlC at HAT HGO HFI HW0 ⊢
  cases hq : goodQ m0 x1 with
  | false =>
    rw [hq] at HGO
    go_enter Tryz.func5, Tryz.ntmps5
    go_wp2_with fail
    rw [← HW0.out]
    refine (HGO.out W0 (Keep.refl _ _)).mono ?_
    rintro e u1 ⟨rfl, hk1⟩
    go_wp2_with fail
    refine (HA.out _ (HE.out.quiet hk1)).mono ?_
    rintro e u2 ⟨rfl, hk2⟩
    go_wp2
    go_ret
    exact ⟨rfl, ((K0.out.trans hk1 (fun _ _ h => h)).trans hk2 (fun _ _ h => h)).below (Nat.le_refl _) (fun _ h => h.elim)⟩
  | true =>
  rw [hq] at HGO
  have HQQ := Lib.hid hq
  have HFS := Lib.hid (fileB_small hq)
  have H60 := Lib.hid (goodQ_parts hq).2.1
  have HRN8 : Hid (m0.rcpts.length ≤ 8) := Lib.hid (goodM_fine (goodQ_parts hq).2.2.1).n.2
  clear hq
  have HPF : Hid (∀ W e w', Parsed (fileB m0 x1) W e w' → PQ m0 x1 ((fileB m0 x1).length : Int) true W e w') := Lib.hid (fun W e w' h => parsed_file (r := []) HQQ.out HB8.out (by decide) (by rw [List.append_nil]; exact h))
  obtain ⟨FB, hFB⟩ : ∃ FB, FB = fileB m0 x1 := ⟨_, rfl⟩
  rw [← hFB] at HFd HFS HPF
  have HGK := Lib.hid (goodQ_parts HQQ.out).1
  obtain ⟨F, hF⟩ : ∃ F, F = fatesM m0.rcpts.length x1 := ⟨_, rfl⟩
  have HFe := Lib.hid hF
  have HFl : Hid (F.length = m0.rcpts.length) := Lib.hid (by rw [hF, fatesM_length])
  have HRF : Hid (∀ W, Keep (fun _ => False) W0 W → Calls Tryz.prog 16 #[.int .i64 (m0.rcpts.length : Int), .slice a1 x1.length cap1] W (FatP m0.rcpts.length x1 W)) := Lib.hid (fun W k => refFatesC m0.rcpts.length HRN8.out a1 x1.length cap1 x1 rfl (by have := H60.out; omega) HGK.out (mk_quiet HX.out k))
  have HFP : Hid (∀ W e W', FatP m0.rcpts.length x1 W e W' → ∃ gg, e = .returned (.slice (some ⟨gg, 0, none⟩) m0.rcpts.length m0.rcpts.length) ∧ FtR W' gg F ∧ Keep (fun _ => False) W W') := Lib.hid (fun W e W' ⟨gg, _, he, hR, hk⟩ => ⟨gg, he, by rw [hF]; exact hR, hk⟩)
  obtain ⟨N, hN⟩ : ∃ N, N = m0.rcpts.length := ⟨_, rfl⟩
  have HNe := Lib.hid hN
  rw [← hN] at HFl HRF HFP HRN8
  have hN8 : N ≤ 8 := HRN8.out
  clear hFB hF
  go_enter Tryz.func5, Tryz.ntmps5
  go_wp2_with fail
  rw [← HW0.out]
  refine (HGO.out W0 (Keep.refl _ _)).mono ?_
  rintro e u1 ⟨rfl, hk1⟩
  have K1 := Lib.hid hk1
  obtain ⟨c0, c1, c2, c3, c4, c5⟩ := HCE.out u1 hk1
  clear hk1
  go_wp2_with fail
  refine (HFI.out u1 K1.out HQQ.out).mono ?_
  rintro e u2 h2
  obtain ⟨yf, nf, cf, hnf, rfl, hGf⟩ := HFd.out _ _ _ h2
  have K2 := Lib.hid (K1.out.trans hGf.kp (fun _ _ h => h))
  have HBf := Lib.hid hGf.own.bytesO
  have HNF := Lib.hid hnf
  clear h2 hnf hGf c0 c1 c2 c3 c4 c5
  go_wp2_with fail
  refine (parseQ (HE.out.quiet K2.out) yf nf cf FB HNF.out.symm HBf.out.2.2 (by have := HNF.out; have := HFS.out; omega) HBf.out.1).mono ?_
  rintro e u3 h3
  obtain ⟨rx, rn, rc, bx, bn, bc, y, k, c, rfl, hQ3, hk3⟩ := HPF.out _ _ _ h3
  obtain rfl : k = x1.length := hQ3.hk
  obtain rfl : rn = N := by rw [hQ3.ml.hrn, HNe.out]
  obtain ⟨W4, hW4, kW4, hA4, hs4⟩ := put_file u3 m0 rx rn rc bx bn bc y x1.length c (FB.length : Int)
  have K4 := Lib.hid ((K2.out.trans hk3 (fun _ _ h => h)).trans kW4 (fun _ _ h => h))
  have HQ4 := Lib.hid (hQ3.quiet kW4)
  have HZ3 := Lib.hid (qz_new u3)
  have HW4 := Lib.hid hW4
  obtain ⟨G, hG⟩ : ∃ G, G = u3.heap.size := ⟨_, rfl⟩
  rw [← hG] at hA4 HZ3
  have HA4 := Lib.hid hA4
  have HGG := Lib.hid hG
  have HQC : Hid (∀ Z, Keep (fun _ => False) W4 Z → QCells Z G m0 rx rn rc bx bn bc y x1.length c (FB.length : Int)) := Lib.hid (fun Z kk => qcells_of (HA4.out.keep kk (fun h => h)))
  obtain ⟨c0, c1, c2, c3, c4, c5⟩ := HCE.out W4 K4.out
  rw [← hN] at c4
  clear h3 hQ3 hk3 hW4 kW4 hA4 hs4 hG hN HFI HFd HGO
  go_wp2_with (rw [← HGG.out]; refine wpList_store_row (by rfl) 31 (.tmp 5) (.tmp 24) (by rfl) G (qC m0 rx rn rc bx bn bc y x1.length c (FB.length : Int)) (by rfl) (by rfl) 31 _ HZ3.out infoQ rfl (one_q _ _ _ _ _ _ _ _ _ _ _ _ _ _) ?_; rw [HGG.out, ← HW4.out, ← HGG.out])
  refine (HRF.out W4 K4.out).mono ?_
  rintro e u5 h5
  obtain ⟨gg, rfl, hR5, hk5⟩ := HFP.out _ _ _ h5
  have K5 := Lib.hid hk5
  have HR5 := Lib.hid hR5
  clear h5 hR5 hk5 c0 c1 c2 c3 c4 c5
  go_wp2
  go_loopw [8, 9, 10, 11, 12] (fun v8 v9 v10 v11 v12 wr => ∃ (k : Nat) (z : Option Addr) (n c : Nat) (q : Option Nat), k ≤ rn ∧ v8 = .slice z n c ∧ v9 = .int .i64 (crashF (F.take k)) ∧ v10 = .int .i64 (dueF (F.take k)) ∧ v11 = .bool (overF (F.take k)) ∧ v12 = .int .i64 (k : Int) ∧ Hid (Io u5 wr z n c q (openI (F.take k)))) (fun _ _ _ _ i _ => rn - (intOf i).toNat)
  case atStart => exact ⟨0, none, 0, 0, none, by omega, rfl, rfl, rfl, rfl, rfl, Lib.hid (Io.start (Keep.refl _ _) none)⟩
  case round =>
    obtain ⟨k, z, n, c', q, hk, rfl, rfl, rfl, rfl, rfl, Gi⟩ := hrel
    by_cases hlt : (k : Int) < (rn : Int)
    · have hkl : k < F.length := by have := HFl.out; omega
      have k0 : (0 : Int) ≤ (k : Int) := by omega
      have FK : Hid (Fs u5 wr gg F) := Lib.hid ⟨StR.keep HR5.out Gi.out.kp (fun h => h), Gi.out.kp⟩
      obtain ⟨d0, d1, d2, d3, d4⟩ := FK.out.at k hkl
      have hs1 : crashF (F.take (k + 1)) = max (crashF (F.take k)) F[k].crashes := by rw [takeSnoc F k hkl, crashF_snoc]
      have hs2 : dueF (F.take (k + 1)) = if F[k].st = 0 ∧ F[k].op = false ∧ F[k].next < dueF (F.take k) then F[k].next else dueF (F.take k) := by rw [takeSnoc F k hkl, dueF_snoc]
      have hs3 : overF (F.take (k + 1)) = (overF (F.take k) && decide (F[k].st ≠ 0)) := by rw [takeSnoc F k hkl, overF_snoc]
      have hs4 : openI (F.take (k + 1)) = openI (F.take k) ++ (if F[k].st = 0 ∧ F[k].op = true then [((F.take k).length : Int)] else []) := by rw [takeSnoc F k hkl, openI_snoc]
      have hkt : (F.take k).length = k := by rw [List.length_take]; omega
      rw [hkt] at hs4
      have HOL : Hid ((openI (F.take k)).length ≤ k) := Lib.hid (by have := openI_len (F.take k); omega)
      obtain ⟨f, hf⟩ : ∃ f, f = F[k] := ⟨_, rfl⟩
      rw [← hf] at d0 d1 d2 d3 d4 hs1 hs2 hs3 hs4
      obtain ⟨C1, hC1⟩ : ∃ C1, C1 = crashF (F.take k) := ⟨_, rfl⟩
      obtain ⟨C2, hC2⟩ : ∃ C2, C2 = dueF (F.take k) := ⟨_, rfl⟩
      obtain ⟨C3, hC3⟩ : ∃ C3, C3 = overF (F.take k) := ⟨_, rfl⟩
      rw [← hC1] at hs1
      rw [← hC2] at hs2
      rw [← hC3] at hs3
      rw [← hC1, ← hC2, ← hC3]
      have H1 := Lib.hid hs1
      have H2 := Lib.hid hs2
      have H3 := Lib.hid hs3
      have H4 := Lib.hid hs4
      clear hf hs1 hs2 hs3 hs4 hkt hC1 hC2 hC3 FK
      obtain ⟨st, tr, nx, cr, op⟩ := f
      simp only at d0 d1 d2 d3 d4 H1 H2 H3 H4
      have G1 : Hid (Io u5 (wr.alloc (.cells #[.int .i64 st, .int .i64 tr, .int .i64 nx, .int .i64 cr, .bool op] 46)) z n c' q (openI (F.take k))) := Lib.hid (Gi.out.quiet (keep_new wr _))
      by_cases h0 : st = 0
      · subst h0
        have E3 : Hid (overF (F.take (k + 1)) = false) := Lib.hid (by rw [H3.out]; simp)
        cases op with
        | true =>
          have E2 : Hid (dueF (F.take (k + 1)) = C2) := Lib.hid (by rw [H2.out, if_neg (fun h => by cases h.2.1)])
          have E4 : Hid (openI (F.take (k + 1)) = openI (F.take k) ++ [(k : Int)]) := Lib.hid (by rw [H4.out, if_pos ⟨rfl, rfl⟩])
          obtain ⟨X, hX⟩ : ∃ X, X = wr.alloc (.cells #[.int .i64 0, .int .i64 tr, .int .i64 nx, .int .i64 cr, .bool true] 46) := ⟨_, rfl⟩
          have HXs : Hid (X.heap.size = wr.heap.size + 1) := Lib.hid (by rw [hX]; simp)
          have hone := int_one X (k : Int)
          rw [HXs.out] at hone
          have HO1 := Lib.hid hone
          rw [← hX] at G1
          have G2 : Hid (Io u5 (X.alloc (.cells #[.int .i64 (k : Int)] 3)) z n c' q (openI (F.take k))) := Lib.hid (G1.out.quiet (keep_new X _))
          have HXX := Lib.hid hX
          clear hX hone G1 Gi
          go_wp2_with
            (at_builtin
             rw [← HXX.out]
             refine wpList_app_int (by rfl) (.tmp 50) (.tmp 52) (by rfl) (.slice z n c') (by rfl) q (openI (F.take k)) G2.out.own (some ⟨wr.heap.size + 1, 0, none⟩) 1 1 (by rfl) [(k : Int)] rfl HO1.out (by have := HOL.out; omega) ?_
             intro y4 l4 c4 q4 w4 hl4 ho4 hk4 hn4
             have G4 := Lib.hid (G2.out.app ho4 hk4 hn4)
             rw [← E4.out] at G4
             clear hl4 ho4 hk4 hn4)
          go_roundw
          case rel => exact ⟨k + 1, y4, l4, c4, q4, by omega, rfl, by rw [H1.out], by rw [E2.out], by rw [E3.out], by go_num, G4⟩
          case measure => simp [intOf]; omega
        | false =>
          have E4 : Hid (openI (F.take (k + 1)) = openI (F.take k)) := Lib.hid (by rw [H4.out, if_neg (fun h => by cases h.2), List.append_nil])
          rw [← E4.out] at G1
          by_cases hm : nx < C2
          · have E2 : Hid (dueF (F.take (k + 1)) = nx) := Lib.hid (by rw [H2.out, if_pos ⟨rfl, rfl, hm⟩])
            go_wp2
            go_roundw
            case rel => exact ⟨k + 1, z, n, c', q, by omega, rfl, by rw [H1.out], by rw [E2.out], by rw [E3.out], by go_num, G1⟩
            case measure => simp [intOf]; omega
          · have E2 : Hid (dueF (F.take (k + 1)) = C2) := Lib.hid (by rw [H2.out, if_neg (fun h => hm h.2.2)])
            go_wp2
            go_roundw
            case rel => exact ⟨k + 1, z, n, c', q, by omega, rfl, by rw [H1.out], by rw [E2.out], by rw [E3.out], by go_num, G1⟩
            case measure => simp [intOf]; omega
      · have dst : decide (st = 0) = false := decide_eq_false h0
        have E2 : Hid (dueF (F.take (k + 1)) = C2) := Lib.hid (by rw [H2.out, if_neg (fun h => h0 h.1)])
        have E3 : Hid (overF (F.take (k + 1)) = C3) := Lib.hid (by rw [H3.out, decide_eq_true h0, Bool.and_true])
        have E4 : Hid (openI (F.take (k + 1)) = openI (F.take k)) := Lib.hid (by rw [H4.out, if_neg (fun h => h0 h.1), List.append_nil])
        rw [← E4.out] at G1
        go_wp2
        go_roundw
        case rel => exact ⟨k + 1, z, n, c', q, by omega, rfl, by rw [H1.out], by rw [E2.out], by rw [E3.out], by go_num, G1⟩
        case measure => simp [intOf]; omega
    · have hkn : k = rn := by omega
      have ht : F.take k = F := List.take_of_length_le (by rw [HFl.out]; omega)
      rw [ht] at Gi ⊢
      obtain ⟨hzn, hzc, hzp⟩ := Gi.out.row
      have HZN := Lib.hid hzn
      have HZP := Lib.hid hzp
      have K6 := Lib.hid (K5.out.trans Gi.out.kp (fun _ _ h => h))
      have HR6 := Lib.hid (StR.keep HR5.out Gi.out.kp (fun h => h))
      have HNI : Hid (n ≤ 8) := Lib.hid (by rw [hzn]; have := openI_len F; have := HFl.out; omega)
      have HQA : Hid (∀ Z, Keep (fun _ => False) W4 Z → QAt (fun b => u2.heap.size ≤ b) Z m0 x1 rx rn rc bx bn bc y x1.length c) := Lib.hid (fun Z kk => HQ4.out.quiet kk)
      have HFQ : Hid (∀ Z, Keep (fun _ => False) W4 Z → Calls Tryz.prog 18 #[.agg (qC m0 rx rn rc bx bn bc y x1.length c (FB.length : Int))] Z (FatP rn x1 Z)) := Lib.hid (fun Z kk => fatesQ _ (HQA.out Z kk) (by have := H60.out; omega) HRN8.out)
      have HOQ : Hid (∀ Z, Keep (fun _ => False) W4 Z → Calls Tryz.prog 20 #[.agg (qC m0 rx rn rc bx bn bc y x1.length c (FB.length : Int))] Z (Opened F Z)) := Lib.hid (fun Z kk => by rw [HFe.out, ← HNe.out]; exact openQ _ (HQA.out Z kk) (by have := H60.out; omega) HRN8.out)
      have HCQ : Hid (∀ Z, Keep (fun _ => False) W4 Z → Calls Tryz.prog 21 #[.agg (qC m0 rx rn rc bx bn bc y x1.length c (FB.length : Int))] Z (Quiet (.int .i64 (crashF F)) Z)) := Lib.hid (fun Z kk => by rw [HFe.out, ← HNe.out]; exact crashesQ _ (HQA.out Z kk) (by have := H60.out; omega) HRN8.out)
      have HOvQ : Hid (∀ Z, Keep (fun _ => False) W4 Z → Calls Tryz.prog 22 #[.agg (qC m0 rx rn rc bx bn bc y x1.length c (FB.length : Int))] Z (Quiet (.bool (overF F)) Z)) := Lib.hid (fun Z kk => by rw [HFe.out, ← HNe.out]; exact overQ _ (HQA.out Z kk) (by have := H60.out; omega) HRN8.out)
      have HDQ : Hid (∀ Z, Keep (fun _ => False) W4 Z → Calls Tryz.prog 23 #[.agg (qC m0 rx rn rc bx bn bc y x1.length c (FB.length : Int))] Z (Quiet (.int .i64 (dueF F)) Z)) := Lib.hid (fun Z kk => by rw [HFe.out, ← HNe.out]; exact dueQ _ (HQA.out Z kk) (by have := H60.out; omega) HRN8.out)
      obtain ⟨V1, hV1⟩ : ∃ V, V = crashF F := ⟨_, rfl⟩
      obtain ⟨V2, hV2⟩ : ∃ V, V = dueF F := ⟨_, rfl⟩
      obtain ⟨V3, hV3⟩ : ∃ V, V = overF F := ⟨_, rfl⟩
      rw [← hV1] at HCQ ⊢
      rw [← hV2] at HDQ ⊢
      rw [← hV3] at HOvQ ⊢
      unfold qC at HFQ HOQ HCQ HOvQ HDQ
      clear hzn hzp ht Gi hV1 hV2 hV3
      go_wp2_with fail
      refine (HA.out _ (HE.out.quiet (K4.out.trans K6.out (fun _ _ h => h)))).mono ?_
      rintro e w7 ⟨rfl, hk7⟩
      have K7 := Lib.hid (K6.out.trans hk7 (fun _ _ h => h))
      have R7 := Lib.hid hk7
      obtain ⟨z0, z1, z2, z3, z4, z5, z6, z7⟩ := HQC.out w7 K7.out
      clear hk7
      go_wp2_with fail
      refine (HFQ.out w7 K7.out).mono ?_
      rintro e w8 h8
      obtain ⟨g8, rfl, hR8, hk8⟩ := HFP.out _ _ _ h8
      have K8 := Lib.hid (K7.out.trans hk8 (fun _ _ h => h))
      have R8 := Lib.hid (R7.out.trans hk8 (fun _ _ h => h))
      have HR8 := Lib.hid hR8
      clear hk8 hR8 h8 z0 z1 z2 z3 z4 z5 z6 z7
      go_wp2_with fail
      refine (sameFatesC (some ⟨g8, 0, none⟩) (some ⟨gg, 0, none⟩) rn rn rn F HFl.out.symm (by omega) (StR.row HR8.out) (StR.row (StR.keep HR6.out R8.out (fun h => h)))).mono ?_
      rintro e w9 ⟨rfl, hk9⟩
      have K9 := Lib.hid (K8.out.trans hk9 (fun _ _ h => h))
      have R9 := Lib.hid (R8.out.trans hk9 (fun _ _ h => h))
      obtain ⟨z0, z1, z2, z3, z4, z5, z6, z7⟩ := HQC.out w9 K9.out
      clear hk9
      go_wp2_with fail
      refine (HOQ.out w9 K9.out).mono ?_
      rintro e wa ⟨za, na, ca, hna, hca, rfl, hIa, hka⟩
      have KA := Lib.hid (K9.out.trans hka (fun _ _ h => h))
      have RA := Lib.hid (R9.out.trans hka (fun _ _ h => h))
      have HIA := Lib.hid hIa
      obtain rfl : na = n := by rw [hna, HZN.out]
      clear hka hIa hna z0 z1 z2 z3 z4 z5 z6 z7
      go_wp2_with fail
      refine (intsC za z na ca c' (openI F) HZN.out (by have := HNI.out; omega) HIA.out (int_quiet HZP.out RA.out)).mono ?_
      rintro e wb ⟨rfl, hkb⟩
      have KB := Lib.hid (KA.out.trans hkb (fun _ _ h => h))
      obtain ⟨z0, z1, z2, z3, z4, z5, z6, z7⟩ := HQC.out wb KB.out
      clear hkb
      go_wp2_with fail
      refine (HCQ.out wb KB.out).mono ?_
      rintro e wc ⟨rfl, hkc⟩
      have KC := Lib.hid (KB.out.trans hkc (fun _ _ h => h))
      clear hkc z0 z1 z2 z3 z4 z5 z6 z7
      obtain ⟨z0, z1, z2, z3, z4, z5, z6, z7⟩ := HQC.out wc KC.out
      go_wp2_with fail
      refine (HOvQ.out wc KC.out).mono ?_
      rintro e wd ⟨rfl, hkd⟩
      have KD := Lib.hid (KC.out.trans hkd (fun _ _ h => h))
      clear hkd z0 z1 z2 z3 z4 z5 z6 z7
      obtain ⟨z0, z1, z2, z3, z4, z5, z6, z7⟩ := HQC.out wd KD.out
      go_wp2_with fail
      refine (HDQ.out wd KD.out).mono ?_
      rintro e we ⟨rfl, hke⟩
      have KE := Lib.hid (KD.out.trans hke (fun _ _ h => h))
      clear hke z0 z1 z2 z3 z4 z5 z6 z7
      go_wp2
      go_ret
      exact ⟨rfl, ((K0.out.trans K4.out (fun _ _ h => h)).trans KE.out (fun _ _ h => h)).below (Nat.le_refl _) (fun _ h => h.elim)⟩

/-! ### The row's step -/
theorem met (os : Os) : laidMetH Tryz.prog Rows.qfileFatesRow.laid ((World.laidAll Tryz.prog os Rows.qfileFatesRow.laid).forCall (fun _ _ => 0) ⟨#[], #[.agg #[.int .i64 0, .int .i64 0, .int .i64 0, .string { data := #[] }, .slice none 0 0, .slice none 0 0], .slice none 0 0], []⟩).memory := by
  rw [MakeChecks.laidMetH_plain _ _ _ (by kernel_rfl)]; exact laidMet_laidAll _ (by kernel_rfl) (by kernel_rfl)
theorem reads (os : Os) {H : Type} (enc : TypeId × Value → H) : ∃ places, DataW.whole enc Tryz.prog ((World.laidAll Tryz.prog os Rows.qfileFatesRow.laid).forCall (fun _ _ => 0) ⟨#[], #[.agg #[.int .i64 0, .int .i64 0, .int .i64 0, .string { data := #[] }, .slice none 0 0, .slice none 0 0], .slice none 0 0], []⟩).memory Tryz.f5.params.toList Rows.qfileFatesSpec.vars false (#[.agg #[.int .i64 0, .int .i64 0, .int .i64 0, .string { data := #[] }, .slice none 0 0, .slice none 0 0], .slice none 0 0] : Array Value).toList 8 = some ([.agg [.lit (.int .i64 0), .lit (.int .i64 0), .lit (.int .i64 0), .lit (.string []), .nil, .nil], .nil], [], places) :=
  ⟨[], by kernel_rfl⟩
set_option maxRecDepth 100000 in
theorem fits (os : Os) {H : Type} (enc : TypeId × Value → H) : ∃ (w : World) (tape : Tape) (i : Input), w.os = os ∧ (w.forCall tape i).Shaped Tryz.checked.prog ∧ i.vars = [] ∧ Input.okWide Tryz.checked.prog (w.forCall tape i) .any w.heap.size 5 i ∧
    (OpenSpec.ofChange Rows.qfileFatesSpec).preRow enc Tryz.checked.prog Tryz.f5 Rows.qfileFatesRow.domain false Rows.qfileFatesRow.laid (w.forCall tape i).memory i.args ∧ ({} : Assume).holds Tryz.checked.prog (lone (Frame.enter Tryz.checked.prog 5 i.args .normal) [] (w.forCall tape i)) := by
  obtain ⟨places, hx⟩ := reads os enc
  have hok : Input.okWideB Tryz.checked.prog ((World.laidAll Tryz.prog os Rows.qfileFatesRow.laid).forCall (fun _ _ => 0) ⟨#[], #[.agg #[.int .i64 0, .int .i64 0, .int .i64 0, .string { data := #[] }, .slice none 0 0, .slice none 0 0], .slice none 0 0], []⟩) 5 ⟨#[], #[.agg #[.int .i64 0, .int .i64 0, .int .i64 0, .string { data := #[] }, .slice none 0 0, .slice none 0 0], .slice none 0 0], []⟩ = true := by kernel_rfl
  exact ⟨(World.laidAll Tryz.prog os Rows.qfileFatesRow.laid), fun _ _ => 0, ⟨#[], #[.agg #[.int .i64 0, .int .i64 0, .int .i64 0, .string { data := #[] }, .slice none 0 0, .slice none 0 0], .slice none 0 0], []⟩, World.laidAll_os _ _ _, World.shaped_of_ZipB (by kernel_rfl) (by kernel_rfl), (Input.okWide_of_okWideB (base := 0) hok).1, (Input.okWide_of_okWideB hok).2,
    OpenSpec.preRow_of_cond 8 hx (by kernel_rfl) (fun k hk => by cases hk) (by kernel_rfl) (met os), by
      simp only [Assume.holds]
      exact ⟨by simp, by simp, fun _ => Modest.zero, by simp, by simp⟩⟩

set_option maxRecDepth 100000 in
theorem lifted (os : Os) (started : os.Started) (H : Type) (enc : TypeId × Value → H) (F : Stop.Interp) :
    ReturnsInHanded {} Tryz.checked os 5 .any ((OpenSpec.ofChange Rows.qfileFatesSpec).preRow enc Tryz.prog Tryz.f5 Rows.qfileFatesRow.domain false Rows.qfileFatesRow.laid) (((OpenSpec.ofChange Rows.qfileFatesSpec).at F).post enc Tryz.prog Tryz.f5 false true false false) := by
  refine returnsInHanded_of_row (C := Tryz.checked) (s := OpenSpec.ofChange Rows.qfileFatesSpec) own started (by kernel_rfl) Tryz.func5 (fits os enc) ?_
  intro W base args ds gs before hval0 hW0 _ hcond hsz hL shape _
  show Calls Tryz.prog 5 args W fun e W' => ∃ v, e = .returned v ∧ Rows.qfileFatesSpec.post enc Tryz.prog Tryz.f5 false true false false W args v W'
  have hval : ∀ (j : Nat) t v, Tryz.f5.params[j]? = some t → args[j]? = some v → Value.okWide Tryz.prog W .any base t v := hval0
  have hW : DataW.Whole enc Tryz.prog Tryz.f5.params.toList Rows.qfileFatesSpec.vars false W args.toList ds gs before := hW0
  have hW' := hW
  obtain ⟨p, q, hA0, hV, rfl, hfz, hnd⟩ := hW
  have hA : DataW.TrodAll enc Tryz.prog W 0 (fun _ => true) true Tryz.f5.params.toList args.toList ds p := hA0
  rw [Tryz.params5] at hA hval
  obtain ⟨v0, vs0, d0, ds0, p0, q0, hargs, rfl, rfl, h0, r0⟩ := trodAll_cons hA
  obtain ⟨v1, vs1, d1, ds1, p1, q1, rfl, rfl, rfl, h1, r1⟩ := trodAll_cons r0
  obtain ⟨rfl, rfl, rfl⟩ := trodAll_nil r1
  obtain rfl : args = #[v0, v1] := by cases args; simp_all
  obtain ⟨rfl, rfl⟩ := trodVars_none hV
  obtain ⟨c0, rfl, _⟩ := okWide_struct Tryz.underlying25 (hval 0 25 v0 rfl rfl)
  have k0 := h0
  have lt0 : ∀ x ∈ p0, x.block < W.heap.size := by obtain ⟨m, hm⟩ := k0; exact DataW.trod_lt m _ _ _ hm
  obtain ⟨m0, rx0, rc0, bx0, bc0, e0, M0, F0, R0⟩ : ∃ m rx rc bx bc, c0 = Ln.mlC m rx m.rcpts.length rc bx m.body.length bc ∧ Ln.MlAt (fun k => k < W.heap.size) W m rx m.rcpts.length rc bx m.body.length bc ∧ m.frm.size ≤ 9223372036854775807 ∧ ∀ s ∈ m.rcpts, s.size ≤ 9223372036854775807 := by
    obtain ⟨fuel, hf⟩ := h0
    exact Ln.arg_mail hf
  subst e0
  obtain ⟨a1, len1, cap1, rfl⟩ := okWide_slice Tryz.underlying26 (hval 1 26 v1 rfl rfl)
  have k1 := h1
  have lt1 : ∀ x ∈ p1, x.block < W.heap.size := by obtain ⟨m, hm⟩ := k1; exact DataW.trod_lt m _ _ _ hm
  obtain ⟨b1, x1, c1, e1, l1, _, B1, mm1⟩ : ∃ a L cap, Value.slice a1 len1 cap1 = .slice a L.length cap ∧ L.length ≤ cap ∧ cap ≤ 9223372036854775807 ∧ Ln.MkP (fun k => k < W.heap.size) W a L ∧ ((∀ n ∈ d1.weights Tryz.prog 26, n ≤ reachBytes) → cap * 24 ≤ 140737488351232) := by
    obtain ⟨fuel, hf⟩ := h1
    exact Ln.arg_marks hf
  have m1 := mm1 (fun n hn => by
    have := List.all_eq_true.1 hsz n (DataW.weights_mem_each (j := 1) rfl rfl n hn)
    simpa using this)
  injection e1 with e1 f1 g1
  subst e1 f1 g1
  have hE := Ln.env9 W shape
  clear hA0 hval0
  refine (walk m0 rx0 rc0 bx0 bc0 a1 x1 cap1 W M0 F0 R0 l1 m1 B1 hE).mono fun e W' ⟨he, bel⟩ => ?_
  subst he
  exact ⟨_, rfl, _, _, _, [], _, [], hW', trodAll_mk1 (shut_bool Tryz.underlying4 _), (trodAll_cons_mk (Below.trod (by kernel_rfl) (by kernel_rfl) (of_decide_eq_true (by kernel_rfl)) k0 bel lt0) (trodAll_cons_mk (Below.trod (by kernel_rfl) (by kernel_rfl) (of_decide_eq_true (by kernel_rfl)) k1 bel lt1) trodAll_mk0)), rfl, bel.frame _, fun h => by cases h⟩

theorem over : Rows.QfileFatesSaid :=
  OpenClaim.holds_of_cond 5 Tryz.f5 rfl rfl rfl rfl rfl rfl rfl ⟨rfl, rfl, rfl, rfl, rfl⟩ rfl rfl rfl rfl rfl (by kernel_rfl) Tryz.func5 (by kernel_rfl)
    (of_decide_eq_true (by kernel_rfl)) (by unfold Func.isWrapper; first | (rw [if_pos (by decide +kernel)]; kernel_rfl) | (rw [if_neg (by decide +kernel)]; exact ⟨rfl, rfl⟩))
    (fun os started H enc _ F => by rw [OpenClaim.pre_eq_preRow]; exact lifted os started H enc F)

theorem plain (f : FuncId) (fn : Func) (hf : Tryz.pinned.checked.prog.funcNamed "pillarbox/pillarboxlaw12.QfileFates" = some f) (hfn : Tryz.pinned.checked.prog.funcs[f]? = some fn) :
    false = Tryz.pinned.checked.prog.looks [] ∧ ∀ (j : Nat) t, fn.params[j]? = some t → Tryz.pinned.checked.prog.wantsStandIn t = false := by
  obtain rfl : f = 5 := Option.some.inj ((show Tryz.prog.funcNamed "pillarbox/pillarboxlaw12.QfileFates" = some 5 by kernel_rfl).symm.trans hf) |>.symm
  obtain rfl : fn = Tryz.f5 := (Option.some.inj (Tryz.func5.symm.trans hfn)).symm
  refine ⟨by kernel_rfl, fun j t ht => ?_⟩
  rw [Tryz.params5] at ht
  have hm : t ∈ [25, 26] := by simpa using Array.mem_of_getElem? ht
  have hall : ([25, 26].all fun u => !Tryz.prog.wantsStandIn u) = true := by kernel_rfl
  exact (show Tryz.prog.wantsStandIn t = false by simpa using List.all_eq_true.1 hall t hm)

/-- The statement: the tied card. -/
theorem proved : Rows.QfileFatesCardSaid :=
  Claim7.holds_tied_plain_at .later [] _ _ _ _ over (fun _ h => by cases h) (by kernel_rfl) (fun _ h => by cases h) qfileFates_row_tie rfl ⟨rfl, rfl⟩ (by kernel_rfl) rfl plain (by kernel_rfl)
#print axioms proved
end Go.Proofs.YtimoebicacnihaaGreatDoor.qfileFates
