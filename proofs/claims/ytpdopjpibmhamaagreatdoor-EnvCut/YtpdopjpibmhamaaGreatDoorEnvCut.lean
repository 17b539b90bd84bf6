/-
  Proved here: a good mail's record, cut, is no mail's record; one of which a byte is turned is none either; the record itself is read as the mail (the law EnvCut returns true). Conditions: the card's own (variables of Go's library as its text lays them); the law itself asks for a light mail of at most 1000 bytes of body.
-/
import Derived.Test.YtpdopjpibmhamaaGreatDoorRows
import Derived.Test.YtpdopjpibmhamaaGreatDoorCards
import Derived.Test.YtpdopjpibmhamaaGreatDoorTie
import Derived.Test.YtpdopjpibmhamaaGreatDoorEi
import Derived.Lib.Hide
import Derived.WalkKit
import Derived.ProofKit
import Derived.OpenShut
import Derived.ShutString
import Derived.ChangeOld
import Derived.Below
import Derived.Lay
import Derived.SevenTiedAt
import Derived.Stop.Joined
import Derived.Deep.DeepHandedRow
namespace Go.Proofs.YtpdopjpibmhamaaGreatDoor.envCut
open Go.ChangeShapes Go.WideShapes Go.ChangeAt Go.RowKit
set_option linter.unusedVariables false
set_option linter.unusedSimpArgs false
open Ln
theorem own : ownKnob Tryz.prog.godebug = none := by kernel_rfl

/-! ### The walk -/
set_option maxHeartbeats 4000000 in
set_option maxRecDepth 100000 in
theorem walk (m0 : Ln.Ml) (rx0 : Option Addr) (rc0 : Nat) (bx0 : Option Addr) (bc0 : Nat) (a1 : Int) (a2 : Int) (w : World) (M0 : Ln.MlAt (fun k => k < w.heap.size) w m0 rx0 m0.rcpts.length rc0 bx0 m0.body.length bc0) (w1 : (Lit.int .u16 a1).wf = true) (w2 : (Lit.int .u8 a2).wf = true) (hE : Ln.Env w) :
    Calls Tryz.prog 5 #[.agg (Ln.mlC m0 rx0 m0.rcpts.length rc0 bx0 m0.body.length bc0), .int .u16 a1, .int .u8 a2] w fun e w' => e = .returned (.bool true) ∧ Below w.heap.size w w' := by
  have k0 := keep_new w (.cells (mlC m0 rx0 m0.rcpts.length rc0 bx0 m0.body.length bc0) 25)
  have HA := Lib.hid (fun W e => answersC W e)
  have HAT : Hid (At (w.alloc (.cells (mlC m0 rx0 m0.rcpts.length rc0 bx0 m0.body.length bc0) 25)) w.heap.size 25 (mlC m0 rx0 m0.rcpts.length rc0 bx0 m0.body.length bc0)) := Lib.hid (At.new w _ _)
  have HM := Lib.hid (M0.quiet k0)
  have HE := Lib.hid (hE.quiet k0)
  have K0 := Lib.hid k0
  have HB8 := Lib.hid M0.bs.1
  have HLI := Lib.hid (lightC HM.out)
  have HGO : Hid (∀ W, Keep (fun _ => False) (w.alloc (.cells (mlC m0 rx0 m0.rcpts.length rc0 bx0 m0.body.length bc0) 25)) W → lightB m0 = true → Calls Tryz.prog 11 #[.agg (mlC m0 rx0 m0.rcpts.length rc0 bx0 m0.body.length bc0)] W (Quiet (.bool (goodM m0)) W)) := Lib.hid (fun W k hl => refGoodC (HM.out.quiet k).it (light_parts hl).1 (light_parts hl).2.1)
  have HRE : Hid (∀ W, Keep (fun _ => False) (w.alloc (.cells (mlC m0 rx0 m0.rcpts.length rc0 bx0 m0.body.length bc0) 25)) W → goodM m0 = true → Calls Tryz.prog 14 #[.agg (mlC m0 rx0 m0.rcpts.length rc0 bx0 m0.body.length bc0)] W (Recorded m0 W)) := Lib.hid (fun W k hg => refRecordC (HM.out.quiet k) (goodM_fine hg))
  have HCE : Hid (∀ W, Keep (fun _ => False) (w.alloc (.cells (mlC m0 rx0 m0.rcpts.length rc0 bx0 m0.body.length bc0) 25)) W → Cells W w.heap.size m0 rx0 m0.rcpts.length rc0 bx0 m0.body.length bc0) := Lib.hid (fun W k => cells_of (HAT.out.keep k (fun h => h)))
  obtain ⟨hw1, hw2⟩ : (0 ≤ a1 ∧ a1 ≤ 65535) ∧ (0 ≤ a2 ∧ a2 ≤ 255) := by
    simp [Lit.wf, IntKind.min, IntKind.max, IntKind.signed, IntKind.bits] at w1 w2
    omega
  obtain ⟨at', rfl⟩ : ∃ k : Nat, a1 = (k : Int) := ⟨a1.toNat, by omega⟩
  obtain ⟨tu, rfl⟩ : ∃ k : Nat, a2 = (k : Int) := ⟨a2.toNat, by omega⟩
  clear k0 M0 hE w1 w2
  unfold mlC at HAT HM HE K0 HLI HGO HRE HCE ⊢
  cases hl : lightB m0 with
  | false =>
    rw [hl] at HLI
    go_enter Tryz.func5, Tryz.ntmps5
    go_wp2_with fail
    refine HLI.out.mono ?_
    rintro e u1 ⟨rfl, hk1⟩
    go_wp2_with fail
    refine (HA.out _ (HE.out.quiet hk1)).mono ?_
    rintro e u2 ⟨rfl, hk2⟩
    go_wp2
    go_ret
    exact ⟨rfl, ((K0.out.trans hk1 (fun _ _ h => h)).trans hk2 (fun _ _ h => h)).below (Nat.le_refl _) (fun _ h => h.elim)⟩
  | true =>
  rw [hl] at HLI
  have HLL := Lib.hid hl
  clear hl
  cases hg : goodM m0 with
  | false =>
    rw [hg] at HGO
    go_enter Tryz.func5, Tryz.ntmps5
    go_wp2_with fail
    refine HLI.out.mono ?_
    rintro e u1 ⟨rfl, hk1⟩
    obtain ⟨c0, c1, c2, c3, c4, c5⟩ := HCE.out u1 hk1
    go_wp2_with fail
    refine (HGO.out u1 hk1 HLL.out).mono ?_
    rintro e u2 ⟨rfl, hk2⟩
    have hk12 := hk1.trans hk2 (fun _ _ h => h)
    go_wp2_with fail
    refine (HA.out _ (HE.out.quiet hk12)).mono ?_
    rintro e u3 ⟨rfl, hk3⟩
    go_wp2
    go_ret
    exact ⟨rfl, ((K0.out.trans hk12 (fun _ _ h => h)).trans hk3 (fun _ _ h => h)).below (Nat.le_refl _) (fun _ h => h.elim)⟩
  | true =>
  rw [hg] at HGO
  have HGG := Lib.hid hg
  clear hg
  by_cases hbig : (1000 : Int) < (m0.body.length : Int)
  · go_enter Tryz.func5, Tryz.ntmps5
    go_wp2_with fail
    refine HLI.out.mono ?_
    rintro e u1 ⟨rfl, hk1⟩
    obtain ⟨c0, c1, c2, c3, c4, c5⟩ := HCE.out u1 hk1
    go_wp2_with fail
    refine (HGO.out u1 hk1 HLL.out).mono ?_
    rintro e u2 ⟨rfl, hk2⟩
    have hk12 := hk1.trans hk2 (fun _ _ h => h)
    obtain ⟨d0, d1, d2, d3, d4, d5⟩ := HCE.out u2 hk12
    go_wp2_with fail
    refine (HA.out _ (HE.out.quiet hk12)).mono ?_
    rintro e u3 ⟨rfl, hk3⟩
    go_wp2
    go_ret
    exact ⟨rfl, ((K0.out.trans hk12 (fun _ _ h => h)).trans hk3 (fun _ _ h => h)).below (Nat.le_refl _) (fun _ h => h.elim)⟩
  go_enter Tryz.func5, Tryz.ntmps5
  go_wp2_with fail
  refine HLI.out.mono ?_
  rintro e u1 ⟨rfl, hk1⟩
  obtain ⟨c0, c1, c2, c3, c4, c5⟩ := HCE.out u1 hk1
  go_wp2_with fail
  refine (HGO.out u1 hk1 HLL.out).mono ?_
  rintro e u2 ⟨rfl, hk2⟩
  have K2 := Lib.hid (hk1.trans hk2 (fun _ _ h => h))
  obtain ⟨d0, d1, d2, d3, d4, d5⟩ := HCE.out u2 K2.out
  clear hk1 hk2 c0 c1 c2 c3 c4 c5
  go_wp2_with fail
  refine (HRE.out u2 K2.out HGG.out).mono ?_
  rintro e u3 ⟨y, n, cap, hn, rfl, hG3⟩
  have hnp : 0 < n := by rw [hn]; exact record_pos m0
  have hns : n ≤ 10000 := by rw [hn]; exact record_small (goodM_fine HGG.out)
  obtain ⟨g, rfl, hown, hnn, hncap, hR3⟩ := hG3.own.rowB (by rw [← hn]; exact hnp)
  have K3 := Lib.hid (K2.out.trans hG3.kp (fun _ _ h => h))
  have HR3 := Lib.hid (hR3.bytes (record_lt HB8.out))
  have HN := Lib.hid hn
  have HNP := Lib.hid hnp
  have HNC := Lib.hid hncap
  clear hG3 hR3 hn hown hnn d0 d1 d2 d3 d4 d5 hbig
  have hn0 : ((n : Int) == 0) = false := by rw [beq_eq_false_iff_ne]; omega
  obtain ⟨k, hk⟩ : ∃ k, k = at' % n := ⟨_, rfl⟩
  have hkn : k < n := by rw [hk]; exact Nat.mod_lt _ hnp
  have HK := Lib.hid hk
  clear hk
  have hrem : (at' : Int) % (n : Int) = (k : Int) := by rw [HK.out]; simp
  have hkc : k ≤ cap := by omega
  have hk0 : (0 : Int) ≤ (k : Int) := by omega
  go_wp2_with fail
  rw [hrem]
  refine (decodeC boxC linesC (HE.out.quiet K3.out) (some ⟨g, 0, none⟩) k cap ((record m0).take k) (by rw [List.length_take, ← HN.out]; omega) hkc (by omega) (HR3.out.take k)).mono ?_
  rintro e u4 ⟨mx, nx, rx, rn, rc, bx, bn, bc, rfl, hMx, hk4, hif⟩
  have hcut := begins_cut HGG.out HB8.out (k := k) (by rw [← HN.out]; exact hkn)
  obtain ⟨rfl, rfl⟩ := begun_no_m hcut hif
  rw [hcut]
  have K4 := Lib.hid (K3.out.trans hk4 (fun _ _ h => h))
  obtain ⟨W5, hW5, hk5, hA5, hs5⟩ := put_mail u4 noMl rx rn rc bx bn bc
  have HZ4 := Lib.hid (mz_new u4)
  have HW5 := Lib.hid hW5
  have K5 := Lib.hid (K4.out.trans hk5 (fun _ _ h => h))
  have hk35 := hk4.trans hk5 (fun _ _ h => h)
  have HR5 := Lib.hid ((HR3.out.quiet hk35).quiet (keep_new W5 (.cells #[] 5)))
  clear hMx hk4 hif hcut hW5 hk5 hA5 hs5 hk35 HR3 hrem
  go_wp2_with (first
    | (refine wpList_store_row (by rfl) 25 (.tmp 9) (.tmp 43) (by rfl) u4.heap.size (mlC noMl rx rn rc bx bn bc) (by rfl) (by rfl) 25 _ HZ4.out infoM rfl (one_ml _ _ _ _ _ _ _ _ _ _) ?_; rw [← HW5.out])
    | (at_builtin
       refine wpList_app (by rfl) (.tmp 46) (.tmp 47) (by rfl) (.slice (some ⟨W5.heap.size, 0, none⟩) 0 0) [] (by rfl) (gr_none W5) _ (some ⟨g, 0, none⟩) n cap (record m0) (by rfl) HN.out.symm HR5.out (by simp; omega) ?_
       intro y6 n6 c6 w6 hn6 hG6
       have hn6' : n6 = n := by rw [hn6.out, HN.out]; rfl
       subst hn6'
       obtain ⟨g6, rfl, hown6, hnn6, hc6, hR6⟩ := hG6.own.rowB (by rw [List.nil_append, ← HN.out]; exact hnp)
       rw [List.nil_append] at hR6
       have HNEW6 := Lib.hid (hG6.new g6 hown6)
       have HROW6 := Lib.hid hR6
       have K6 := Lib.hid (K5.out.trans hG6.kp (fun _ _ h => h))
       obtain ⟨x, hx⟩ : ∃ x, x = (record m0).getD k 0 := ⟨_, rfl⟩
       obtain ⟨q1, q2, q3⟩ := hR6.cell (i := k) (by rw [← HN.out]; exact hkn)
       rw [← hx] at q1
       have HX := Lib.hid hx
       have hkn' : (k : Int) < (n6 : Int) := by omega
       clear hn6 hG6 hown6 hnn6 hR6 hx))
  have hx8 : x < 256 := by
    rw [HX.out, List.getD_eq_getElem?_getD, List.getElem?_eq_getElem (by rw [← HN.out]; exact hkn)]
    exact record_lt HB8.out _ (List.getElem_mem _)
  have hxg : x = (record m0)[k]'(by rw [← HN.out]; exact hkn) := by
    rw [HX.out, List.getD_eq_getElem?_getD, List.getElem?_eq_getElem (by rw [← HN.out]; exact hkn)]
    rfl
  have hxor : bits .xor .u8 (x : Int) (tu : Int) = ((x ^^^ tu : Nat) : Int) := by
    exact u8_xor_nat x tu hx8 (by omega)
  have hc8 : x ^^^ tu < 256 := Nat.xor_lt_two_pow (n := 8) hx8 (by omega)
  obtain ⟨W7, hW7⟩ : ∃ W7, W7 = w6.setCell ⟨g6, k, none⟩ (.int .u8 ((x ^^^ tu : Nat) : Int)) := ⟨_, rfl⟩
  rw [hxor, ← hW7]
  have k67 : Keep (fun b => b = g6) w6 W7 := by rw [hW7]; exact (Keep.refl (fun b => b = g6) w6).setCell (p := ⟨g6, k, none⟩) (fun _ => rfl) _
  have HROW7 : Hid (RowB W7 g6 ((record m0).set k (x ^^^ tu))) := Lib.hid (by rw [hW7]; exact HROW6.out.put k (by rw [← HN.out]; exact hkn) _)
  have K7 := Lib.hid (K6.out.trans k67 (fun i hi e => by have := K5.out.size; have := HNEW6.out; omega))
  have hset : ∀ c ∈ (record m0).set k (x ^^^ tu), c < 256 := fun c hc => by
    rcases List.mem_or_eq_of_mem_set hc with h | h
    · exact record_lt HB8.out c h
    · omega
  have HB7 := Lib.hid (HROW7.out.bytes hset)
  clear q1 q2 q3 k67 hW7 hset hxor
  refine (decodeC boxC linesC (HE.out.quiet K7.out) (some ⟨g6, 0, none⟩) n6 c6 ((record m0).set k (x ^^^ tu)) (by rw [List.length_set, ← HN.out]) hc6 (by omega) HB7.out).mono ?_
  rintro e u8 ⟨mx, nx, rx', rn', rc', bx', bn', bc', rfl, hMx, hk8, hif⟩
  have K8 := Lib.hid (K7.out.trans hk8 (fun _ _ h => h))
  obtain ⟨W9, hW9, hk9, hA9, hs9⟩ := put_mail u8 mx rx' rn' rc' bx' bn' bc'
  have HZ8 := Lib.hid (mz_new u8)
  have HW9 := Lib.hid hW9
  have K9 := Lib.hid (K8.out.trans hk9 (fun _ _ h => h))
  have HM9 := Lib.hid (hMx.quiet hk9)
  have HA9 := Lib.hid hA9
  obtain ⟨B, hB⟩ : ∃ B, B = u8.heap.size := ⟨_, rfl⟩
  rw [← hB] at HA9 HZ8
  have HBB := Lib.hid hB
  by_cases htu : tu = 0
  · subst htu
    rw [Nat.xor_zero] at hif ⊢
    have hsame : (record m0).set k x = record m0 := by rw [hxg]; exact List.set_getElem_self _
    obtain ⟨b1, b2, b3⟩ := begins_record HGG.out HB8.out []
    rw [List.append_nil] at b1 b2
    rw [hsame] at hif ⊢
    rw [b1, if_pos rfl, b2, b3] at hif
    obtain ⟨rfl, hnx⟩ := hif
    rw [b1]
    have hrn : rn' ≤ 1000000 := by rw [HM9.out.hrn]; have := good_rn HGG.out; omega
    have HRN := Lib.hid hrn
    clear b1 b2 b3 hsame hMx hk8 hW9 hk9 hA9 hs9 hB hrn hxg hx8 hc8 HN hnx
    go_wp2_with (rw [← HBB.out]; refine wpList_store_row (by rfl) 25 (.tmp 13) (.tmp 61) (by rfl) B (mlC mx rx' rn' rc' bx' bn' bc') (by rfl) (by rfl) 25 _ HZ8.out infoM rfl (one_ml _ _ _ _ _ _ _ _ _ _) ?_; rw [HBB.out, ← HW9.out, ← HBB.out])
    refine (HA.out _ (HE.out.quiet K9.out)).mono ?_
    rintro e u10 ⟨rfl, hk10⟩
    have K10 := Lib.hid (K9.out.trans hk10 (fun _ _ h => h))
    have HMa := Lib.hid (HM9.out.quiet hk10)
    have HMb := Lib.hid (HM.out.quiet K10.out)
    obtain ⟨v0, v1, v2, v3, v4, v5⟩ := cells_of (HA9.out.keep hk10 (fun h => h))
    obtain ⟨d0, d1, d2, d3, d4, d5⟩ := HCE.out u10 K10.out
    clear hk10
    go_wp2_with fail
    refine (refSameC HMa.out.it HMb.out.it HRN.out).mono ?_
    rintro e u11 ⟨rfl, hk11⟩
    rw [sameB_self]
    go_wp2
    go_ret
    exact ⟨rfl, ((K0.out.trans K10.out (fun _ _ h => h)).trans hk11 (fun _ _ h => h)).below (Nat.le_refl _) (fun _ h => h.elim)⟩
  · have hne : x ^^^ tu ≠ (record m0)[k]'(by rw [← HN.out]; exact hkn) := by
      rw [← hxg]
      intro e
      apply htu
      have := congrArg (x ^^^ ·) e
      simpa [← Nat.xor_assoc] using this
    have hno := begins_turned HGG.out HB8.out (k := k) (by rw [← HN.out]; exact hkn) hc8 hne
    obtain ⟨rfl, rfl⟩ := begun_no_m hno hif
    rw [hno]
    have htu0 : ((tu : Int) == 0) = false := by rw [beq_eq_false_iff_ne]; omega
    clear hne hno hif hMx hk8 hW9 hk9 hA9 hs9 hB hxg hx8 hc8 HN
    go_wp2_with (rw [← HBB.out]; refine wpList_store_row (by rfl) 25 (.tmp 13) (.tmp 61) (by rfl) B (mlC noMl rx' rn' rc' bx' bn' bc') (by rfl) (by rfl) 25 _ HZ8.out infoM rfl (one_ml _ _ _ _ _ _ _ _ _ _) ?_; rw [HBB.out, ← HW9.out, ← HBB.out])
    refine (HA.out _ (HE.out.quiet K9.out)).mono ?_
    rintro e u10 ⟨rfl, hk10⟩
    have K10 := Lib.hid (K9.out.trans hk10 (fun _ _ h => h))
    go_wp2
    go_ret
    exact ⟨by simp [htu], (K0.out.trans K10.out (fun _ _ h => h)).below (Nat.le_refl _) (fun _ h => h.elim)⟩

/-! ### The row's step -/
theorem met (os : Os) : laidMetH Tryz.prog Rows.envCutRow.laid ((World.laidAll Tryz.prog os Rows.envCutRow.laid).forCall (fun _ _ => 0) ⟨#[], #[.agg #[.int .i64 0, .int .i64 0, .int .i64 0, .string { data := #[] }, .slice none 0 0, .slice none 0 0], .int .u16 0, .int .u8 0], []⟩).memory := by
  rw [MakeChecks.laidMetH_plain _ _ _ (by kernel_rfl)]; exact laidMet_laidAll _ (by kernel_rfl) (by kernel_rfl)
theorem reads (os : Os) {H : Type} (enc : TypeId × Value → H) : ∃ places, DataW.whole enc Tryz.prog ((World.laidAll Tryz.prog os Rows.envCutRow.laid).forCall (fun _ _ => 0) ⟨#[], #[.agg #[.int .i64 0, .int .i64 0, .int .i64 0, .string { data := #[] }, .slice none 0 0, .slice none 0 0], .int .u16 0, .int .u8 0], []⟩).memory Tryz.f5.params.toList Rows.envCutSpec.vars false (#[.agg #[.int .i64 0, .int .i64 0, .int .i64 0, .string { data := #[] }, .slice none 0 0, .slice none 0 0], .int .u16 0, .int .u8 0] : Array Value).toList 8 = some ([.agg [.lit (.int .i64 0), .lit (.int .i64 0), .lit (.int .i64 0), .lit (.string []), .nil, .nil], .lit (.int .u16 0), .lit (.int .u8 0)], [], places) :=
  ⟨[], by kernel_rfl⟩
set_option maxRecDepth 100000 in
theorem fits (os : Os) {H : Type} (enc : TypeId × Value → H) : ∃ (w : World) (tape : Tape) (i : Input), w.os = os ∧ (w.forCall tape i).Shaped Tryz.checked.prog ∧ i.vars = [] ∧ Input.okWide Tryz.checked.prog (w.forCall tape i) .any w.heap.size 5 i ∧
    (OpenSpec.ofChange Rows.envCutSpec).preRow enc Tryz.checked.prog Tryz.f5 Rows.envCutRow.domain false Rows.envCutRow.laid (w.forCall tape i).memory i.args ∧ ({} : Assume).holds Tryz.checked.prog (lone (Frame.enter Tryz.checked.prog 5 i.args .normal) [] (w.forCall tape i)) := by
  obtain ⟨places, hx⟩ := reads os enc
  have hok : Input.okWideB Tryz.checked.prog ((World.laidAll Tryz.prog os Rows.envCutRow.laid).forCall (fun _ _ => 0) ⟨#[], #[.agg #[.int .i64 0, .int .i64 0, .int .i64 0, .string { data := #[] }, .slice none 0 0, .slice none 0 0], .int .u16 0, .int .u8 0], []⟩) 5 ⟨#[], #[.agg #[.int .i64 0, .int .i64 0, .int .i64 0, .string { data := #[] }, .slice none 0 0, .slice none 0 0], .int .u16 0, .int .u8 0], []⟩ = true := by kernel_rfl
  exact ⟨(World.laidAll Tryz.prog os Rows.envCutRow.laid), fun _ _ => 0, ⟨#[], #[.agg #[.int .i64 0, .int .i64 0, .int .i64 0, .string { data := #[] }, .slice none 0 0, .slice none 0 0], .int .u16 0, .int .u8 0], []⟩, World.laidAll_os _ _ _, World.shaped_of_ZipB (by kernel_rfl) (by kernel_rfl), (Input.okWide_of_okWideB (base := 0) hok).1, (Input.okWide_of_okWideB hok).2,
    OpenSpec.preRow_of_cond 8 hx (by kernel_rfl) (fun k hk => by cases hk) (by kernel_rfl) (met os), by
      simp only [Assume.holds]
      exact ⟨by simp, by simp, fun _ => Modest.zero, by simp, by simp⟩⟩

set_option maxRecDepth 100000 in
theorem lifted (os : Os) (started : os.Started) (H : Type) (enc : TypeId × Value → H) (F : Stop.Interp) :
    ReturnsInHanded {} Tryz.checked os 5 .any ((OpenSpec.ofChange Rows.envCutSpec).preRow enc Tryz.prog Tryz.f5 Rows.envCutRow.domain false Rows.envCutRow.laid) (((OpenSpec.ofChange Rows.envCutSpec).at F).post enc Tryz.prog Tryz.f5 false true false false) := by
  refine returnsInHanded_of_row (C := Tryz.checked) (s := OpenSpec.ofChange Rows.envCutSpec) own started (by kernel_rfl) Tryz.func5 (fits os enc) ?_
  intro W base args ds gs before hval0 hW0 _ hcond hsz hL shape _
  show Calls Tryz.prog 5 args W fun e W' => ∃ v, e = .returned v ∧ Rows.envCutSpec.post enc Tryz.prog Tryz.f5 false true false false W args v W'
  have hval : ∀ (j : Nat) t v, Tryz.f5.params[j]? = some t → args[j]? = some v → Value.okWide Tryz.prog W .any base t v := hval0
  have hW : DataW.Whole enc Tryz.prog Tryz.f5.params.toList Rows.envCutSpec.vars false W args.toList ds gs before := hW0
  have hW' := hW
  obtain ⟨p, q, hA0, hV, rfl, hfz, hnd⟩ := hW
  have hA : DataW.TrodAll enc Tryz.prog W 0 (fun _ => true) true Tryz.f5.params.toList args.toList ds p := hA0
  rw [Tryz.params5] at hA hval
  obtain ⟨v0, vs0, d0, ds0, p0, q0, hargs, rfl, rfl, h0, r0⟩ := trodAll_cons hA
  obtain ⟨v1, vs1, d1, ds1, p1, q1, rfl, rfl, rfl, h1, r1⟩ := trodAll_cons r0
  obtain ⟨v2, vs2, d2, ds2, p2, q2, rfl, rfl, rfl, h2, r2⟩ := trodAll_cons r1
  obtain ⟨rfl, rfl, rfl⟩ := trodAll_nil r2
  obtain rfl : args = #[v0, v1, v2] := by cases args; simp_all
  obtain ⟨rfl, rfl⟩ := trodVars_none hV
  obtain ⟨c0, rfl, _⟩ := okWide_struct Tryz.underlying25 (hval 0 25 v0 rfl rfl)
  have k0 := h0
  have lt0 : ∀ x ∈ p0, x.block < W.heap.size := by obtain ⟨m, hm⟩ := k0; exact DataW.trod_lt m _ _ _ hm
  obtain ⟨m0, rx0, rc0, bx0, bc0, e0, M0⟩ : ∃ m rx rc bx bc, c0 = Ln.mlC m rx m.rcpts.length rc bx m.body.length bc ∧ Ln.MlAt (fun k => k < W.heap.size) W m rx m.rcpts.length rc bx m.body.length bc := by
    obtain ⟨fuel, hf⟩ := h0
    exact Ln.arg_mail hf
  subst e0
  obtain ⟨a1, rfl, rfl, rfl, w1⟩ := open_int Tryz.underlying37 (hval 1 37 v1 rfl rfl) h1
  obtain ⟨a2, rfl, rfl, rfl, w2⟩ := open_int Tryz.underlying5 (hval 2 5 v2 rfl rfl) h2
  have hE := Ln.env9 W shape
  clear hA0 hval0
  refine (walk m0 rx0 rc0 bx0 bc0 a1 a2 W M0 w1 w2 hE).mono fun e W' ⟨he, bel⟩ => ?_
  subst he
  exact ⟨_, rfl, _, _, _, [], _, [], hW', trodAll_mk1 (shut_bool Tryz.underlying4 _), (trodAll_cons_mk (Below.trod (by kernel_rfl) (by kernel_rfl) (of_decide_eq_true (by kernel_rfl)) k0 bel lt0) (trodAll_cons_mk (shut_int Tryz.underlying37 w1) (trodAll_cons_mk (shut_int Tryz.underlying5 w2) trodAll_mk0))), rfl, bel.frame _, fun h => by cases h⟩

theorem over : Rows.EnvCutSaid :=
  OpenClaim.holds_of_cond 5 Tryz.f5 rfl rfl rfl rfl rfl rfl rfl ⟨rfl, rfl, rfl, rfl, rfl⟩ rfl rfl rfl rfl rfl (by kernel_rfl) Tryz.func5 (by kernel_rfl)
    (of_decide_eq_true (by kernel_rfl)) (by unfold Func.isWrapper; first | (rw [if_pos (by decide +kernel)]; kernel_rfl) | (rw [if_neg (by decide +kernel)]; exact ⟨rfl, rfl⟩))
    (fun os started H enc _ F => by rw [OpenClaim.pre_eq_preRow]; exact lifted os started H enc F)

theorem plain (f : FuncId) (fn : Func) (hf : Tryz.pinned.checked.prog.funcNamed "pillarbox/pillarboxlaw10.EnvCut" = some f) (hfn : Tryz.pinned.checked.prog.funcs[f]? = some fn) :
    false = Tryz.pinned.checked.prog.looks [] ∧ ∀ (j : Nat) t, fn.params[j]? = some t → Tryz.pinned.checked.prog.wantsStandIn t = false := by
  obtain rfl : f = 5 := Option.some.inj ((show Tryz.prog.funcNamed "pillarbox/pillarboxlaw10.EnvCut" = some 5 by kernel_rfl).symm.trans hf) |>.symm
  obtain rfl : fn = Tryz.f5 := (Option.some.inj (Tryz.func5.symm.trans hfn)).symm
  refine ⟨by kernel_rfl, fun j t ht => ?_⟩
  rw [Tryz.params5] at ht
  have hm : t ∈ [25, 37, 5] := by simpa using Array.mem_of_getElem? ht
  have hall : ([25, 37, 5].all fun u => !Tryz.prog.wantsStandIn u) = true := by kernel_rfl
  exact (show Tryz.prog.wantsStandIn t = false by simpa using List.all_eq_true.1 hall t hm)

/-- The statement: the tied card. -/
theorem proved : Rows.EnvCutCardSaid :=
  Claim7.holds_tied_plain_at .later [] _ _ _ _ over (fun _ h => by cases h) (by kernel_rfl) (fun _ h => by cases h) envCut_row_tie rfl ⟨rfl, rfl⟩ (by kernel_rfl) rfl plain (by kernel_rfl)
#print axioms proved
end Go.Proofs.YtpdopjpibmhamaaGreatDoor.envCut
