/-
  Proved here: what the file of any mail, and any marks, says, whatever stands behind.
-/
import Derived.Test.YtimoebicacnihaaGreatDoorRows
import Derived.Test.YtimoebicacnihaaGreatDoorCards
import Derived.Test.YtimoebicacnihaaGreatDoorTie
import Derived.Test.YtimoebicacnihaaGreatDoorKg16
import Derived.Test.YtimoebicacnihaaGreatDoorKF1
import Derived.Lib.Hide
import Derived.WalkKit
import Derived.ProofKit
import Derived.OpenShut
import Derived.ShutString
import Derived.ChangeOld
import Derived.Below
import Derived.Lay
import Derived.SevenTiedAt
import Derived.Stop.Joined
import Derived.Deep.DeepHandedRow
namespace Go.Proofs.YtimoebicacnihaaGreatDoor.qfileParses
open Go.ChangeShapes Go.WideShapes Go.ChangeAt Go.RowKit
set_option linter.unusedVariables false
set_option linter.unusedSimpArgs false
open Ln
theorem own : ownKnob Tryz.prog.godebug = none := by kernel_rfl

/-! ### The walk -/
set_option maxHeartbeats 16000000 in
set_option maxRecDepth 100000 in
theorem walk (m0 : Ln.Ml) (rx0 : Option Addr) (rc0 : Nat) (bx0 : Option Addr) (bc0 : Nat) (a1 : Option Addr) (x1 : List Ln.Mk) (cap1 : Nat) (a2 : Option Addr) (x2 : List Nat) (cap2 : Nat) (w : World) (M0 : Ln.MlAt (fun k => k < w.heap.size) w m0 rx0 m0.rcpts.length rc0 bx0 m0.body.length bc0) (F0 : m0.frm.size ≤ 9223372036854775807) (R0 : ∀ s ∈ m0.rcpts, s.size ≤ 9223372036854775807) (l1 : x1.length ≤ cap1) (m1 : cap1 * 24 ≤ 140737488351232) (B1 : Ln.MkP (fun k => k < w.heap.size) w a1 x1) (l2 : x2.length ≤ cap2) (m2 : cap2 ≤ 9223372036854775807) (B2 : Ln.Bytes (fun k => k < w.heap.size) w a2 x2) (hE : Ln.Env w) :
    Calls Tryz.prog 3 #[.agg (Ln.mlC m0 rx0 m0.rcpts.length rc0 bx0 m0.body.length bc0), .slice a1 x1.length cap1, .slice a2 x2.length cap2] w fun e w' => e = .returned (.bool true) ∧ Below w.heap.size w w' := by
  have k0 := keep_new w (.cells (mlC m0 rx0 m0.rcpts.length rc0 bx0 m0.body.length bc0) 25)
  have HA := Lib.hid (fun W e => answers12C W e)
  obtain ⟨W0, hW0⟩ : ∃ W0, W0 = w.alloc (.cells (mlC m0 rx0 m0.rcpts.length rc0 bx0 m0.body.length bc0) 25) := ⟨_, rfl⟩
  have HAT : Hid (At W0 w.heap.size 25 (mlC m0 rx0 m0.rcpts.length rc0 bx0 m0.body.length bc0)) := Lib.hid (by rw [hW0]; exact At.new w _ _)
  rw [← hW0] at k0
  have HM := Lib.hid (M0.quiet k0)
  have HX := Lib.hid (mk_quiet B1 k0)
  have HE := Lib.hid (hE.quiet k0)
  have K0 := Lib.hid k0
  have HB8 := Lib.hid M0.bs.1
  have HGO : Hid (∀ W, Keep (fun _ => False) W0 W → Calls Tryz.prog 8 #[.agg (mlC m0 rx0 m0.rcpts.length rc0 bx0 m0.body.length bc0), .slice a1 x1.length cap1] W (Quiet (.bool (goodQ m0 x1)) W)) := Lib.hid (fun W k => good12C (HM.out.quiet k) F0 R0 rfl (mk_quiet HX.out k))
  have HFI : Hid (∀ W, Keep (fun _ => False) W0 W → goodQ m0 x1 = true → Calls Tryz.prog 10 #[.agg (mlC m0 rx0 m0.rcpts.length rc0 bx0 m0.body.length bc0), .slice a1 x1.length cap1] W (Filed m0 x1 W)) := Lib.hid (fun W k hg => file12C (HM.out.quiet k) rfl (mk_quiet HX.out k) hg)
  have HFd : Hid (∀ W e w', Filed m0 x1 W e w' → ∃ y n cap, n = (fileB m0 x1).length ∧ e = .returned (.slice y n cap) ∧ Gr W w' (.slice y n cap) (fileB m0 x1)) := Lib.hid (fun _ _ _ h => h)
  have HCE : Hid (∀ W, Keep (fun _ => False) W0 W → Cells W w.heap.size m0 rx0 m0.rcpts.length rc0 bx0 m0.body.length bc0) := Lib.hid (fun W k => cells_of (HAT.out.keep k (fun h => h)))
  have HMS : Hid (∀ X, Keep (fun _ => False) W0 X → MlAt (fun k => k < w.heap.size) X m0 rx0 m0.rcpts.length rc0 bx0 m0.body.length bc0) := Lib.hid (fun X k => HM.out.quiet k)
  have HW0 := Lib.hid hW0
  clear k0 M0 hE F0 R0 B1 hW0
  unfold mlC at HAT HGO HFI HW0 ⊢
  have HB2 := Lib.hid B2
  clear B2
  cases hq : goodQ m0 x1 with
  | false =>
    rw [hq] at HGO
    go_enter Tryz.func3, Tryz.ntmps3
    go_wp2_with fail
    rw [← HW0.out]
    refine (HGO.out W0 (Keep.refl _ _)).mono ?_
    rintro e u1 ⟨rfl, hk1⟩
    go_wp2_with fail
    refine (HA.out _ (HE.out.quiet hk1)).mono ?_
    rintro e u2 ⟨rfl, hk2⟩
    go_wp2
    go_ret
    exact ⟨rfl, ((K0.out.trans hk1 (fun _ _ h => h)).trans hk2 (fun _ _ h => h)).below (Nat.le_refl _) (fun _ h => h.elim)⟩
  | true =>
  rw [hq] at HGO
  have HQQ := Lib.hid hq
  have HFS := Lib.hid (fileB_small hq)
  have H60 := Lib.hid (goodQ_parts hq).2.1
  have HRN8 : Hid (m0.rcpts.length ≤ 8) := Lib.hid (goodM_fine (goodQ_parts hq).2.2.1).n.2
  clear hq
  by_cases hbig : (27 : Int) < (x2.length : Int)
  · go_enter Tryz.func3, Tryz.ntmps3
    go_wp2_with fail
    rw [← HW0.out]
    refine (HGO.out W0 (Keep.refl _ _)).mono ?_
    rintro e u1 ⟨rfl, hk1⟩
    go_wp2_with fail
    refine (HA.out _ (HE.out.quiet hk1)).mono ?_
    rintro e u2 ⟨rfl, hk2⟩
    go_wp2
    go_ret
    exact ⟨rfl, ((K0.out.trans hk1 (fun _ _ h => h)).trans hk2 (fun _ _ h => h)).below (Nat.le_refl _) (fun _ h => h.elim)⟩
  have hb27 : decide ((27 : Int) < (x2.length : Int)) = false := decide_eq_false hbig
  have HS2 : Hid (x2.length ≤ 27) := Lib.hid (by omega)
  have HPF : Hid (∀ W e w', Parsed (fileB m0 x1 ++ x2) W e w' → PQ m0 x1 ((fileB m0 x1).length : Int) true W e w') := Lib.hid (fun W e w' h => parsed_file HQQ.out HB8.out HS2.out h)
  obtain ⟨FB, hFB⟩ : ∃ FB, FB = fileB m0 x1 := ⟨_, rfl⟩
  rw [← hFB] at HFd HFS HPF
  clear hFB hbig
  go_enter Tryz.func3, Tryz.ntmps3
  go_wp2_with fail
  rw [← HW0.out]
  refine (HGO.out W0 (Keep.refl _ _)).mono ?_
  rintro e u1 ⟨rfl, hk1⟩
  have K1 := Lib.hid hk1
  obtain ⟨c0, c1, c2, c3, c4, c5⟩ := HCE.out u1 hk1
  clear hk1
  go_wp2_with fail
  refine (HFI.out u1 K1.out HQQ.out).mono ?_
  rintro e u2 h2
  obtain ⟨yf, nf, cf, hnf, rfl, hGf⟩ := HFd.out _ _ _ h2
  have K2 := Lib.hid (K1.out.trans hGf.kp (fun _ _ h => h))
  have HBf := Lib.hid hGf.own.bytesO
  have HNF := Lib.hid hnf
  have G0 := Lib.hid (gr_none u2)
  have HBf0 := Lib.hid (HBf.out.1.quiet (keep_new u2 (.cells #[] 5)))
  have HB20 := Lib.hid ((HB2.out.quiet K0.out).quiet K2.out)
  clear h2 hnf hGf c0 c1 c2 c3 c4 c5
  go_wp2_with (first
    | (at_builtin
       refine wpList_app (by rfl) (.tmp 24) (.tmp 25) (by rfl) (.slice (some ⟨u2.heap.size, 0, none⟩) 0 0) [] (by rfl) G0.out _ yf nf cf FB (by rfl) HNF.out.symm HBf0.out (by have := HNF.out; have := HFS.out; simp only [List.length_nil]; omega) ?_
       intro y3 n3 c3 w3 hn3 hG3
       rw [List.nil_append] at hG3 hn3
       have G3 := Lib.hid hG3
       have HN3 := Lib.hid hn3.out
       have HB23 := Lib.hid (HB20.out.quiet hG3.kp)
       clear hn3 hG3 G0)
    | (at_builtin
       refine wpList_app (by rfl) (.tmp 26) (.tmp 27) (by rfl) (.slice y3 n3 c3) FB (by rfl) G3.out _ a2 x2.length cap2 x2 (by rfl) rfl HB23.out (by have := HS2.out; have := HFS.out; omega) ?_
       intro y4 n4 c4 w4 hn4 hG4
       have K4 := Lib.hid (K2.out.trans hG4.kp (fun _ _ h => h))
       have HB4 := Lib.hid hG4.own.bytesO
       clear hn4 hG4 G3))
  refine (parseQ (HE.out.quiet K4.out) y4 n4 c4 (FB ++ x2) HB4.out.2.1.symm HB4.out.2.2 (by have := HB4.out.2.1; have := HS2.out; have := HFS.out; rw [List.length_append] at *; omega) HB4.out.1).mono ?_
  rintro e w5 h5
  obtain ⟨rx, rn, rc, bx, bn, bc, y, k, c, rfl, hQ5, hk5⟩ := HPF.out _ _ _ h5
  obtain rfl : k = x1.length := hQ5.hk
  obtain ⟨W6, hW6, kW6, hA6, hs6⟩ := put_file w5 m0 rx rn rc bx bn bc y x1.length c (FB.length : Int)
  have K6 := Lib.hid ((K4.out.trans hk5 (fun _ _ h => h)).trans kW6 (fun _ _ h => h))
  have HQ6 := Lib.hid (hQ5.quiet kW6)
  have HZ5 := Lib.hid (qz_new w5)
  have HW6 := Lib.hid hW6
  obtain ⟨G, hG⟩ : ∃ G, G = w5.heap.size := ⟨_, rfl⟩
  rw [← hG] at hA6 HZ5
  have HA6 := Lib.hid hA6
  have HGG := Lib.hid hG
  have hgl : (FB.length : Int) = (nf : Int) := by have := HNF.out; omega
  have HQC : Hid (∀ Z, Keep (fun _ => False) W6 Z → QCells Z G m0 rx rn rc bx bn bc y x1.length c (nf : Int) ∧ Cells Z w.heap.size m0 rx0 m0.rcpts.length rc0 bx0 m0.body.length bc0) := Lib.hid (fun Z kk => ⟨by rw [← hgl]; exact qcells_of (HA6.out.keep kk (fun h => h)), HCE.out Z (K6.out.trans kk (fun _ _ h => h))⟩)
  have HRN : Hid (rn ≤ 1000000) := Lib.hid (by have := HQ6.out.ml.hrn; have := HRN8.out; omega)
  clear h5 hQ5 hk5 hW6 kW6 hA6 hs6 hG hgl
  go_wp2_with (rw [← HGG.out]; refine wpList_store_row (by rfl) 31 (.tmp 8) (.tmp 30) (by rfl) G (qC m0 rx rn rc bx bn bc y x1.length c (FB.length : Int)) (by rfl) (by rfl) 31 _ HZ5.out infoQ rfl (one_q _ _ _ _ _ _ _ _ _ _ _ _ _ _) ?_; rw [HGG.out, ← HW6.out, ← HGG.out])
  refine (HA.out _ (HE.out.quiet K6.out)).mono ?_
  rintro e w7 ⟨rfl, hk7⟩
  have K7 := Lib.hid hk7
  obtain ⟨⟨z0, z1, z2, z3, z4, z5, z6, z7⟩, c0, c1, c2, c3, c4, c5⟩ := HQC.out w7 hk7
  clear hk7
  go_wp2_with fail
  refine (refSameC (rc := rc) (bc := bc) (rc' := rc0) (bc' := bc0) (HQ6.out.ml.quiet K7.out).it (HMS.out w7 (K6.out.trans K7.out (fun _ _ h => h))).it HRN.out).mono ?_
  rintro e w8 ⟨rfl, hk8⟩
  rw [sameB_self]
  have K8 := Lib.hid (K7.out.trans hk8 (fun _ _ h => h))
  clear hk8 z0 z1 z2 z3 z4 z5 z6 z7 c0 c1 c2 c3 c4 c5
  obtain ⟨⟨z0, z1, z2, z3, z4, z5, z6, z7⟩, _⟩ := HQC.out w8 K8.out
  go_wp2_with fail
  refine (sameMarksC y a1 x1.length c cap1 x1 rfl (by have := H60.out; omega) (mk_quiet HQ6.out.ms K8.out) (mk_quiet HX.out (K6.out.trans K8.out (fun _ _ h => h)))).mono ?_
  rintro e w9 ⟨rfl, hk9⟩
  have K9 := Lib.hid (K8.out.trans hk9 (fun _ _ h => h))
  clear hk9 z0 z1 z2 z3 z4 z5 z6 z7
  obtain ⟨⟨z0, z1, z2, z3, z4, z5, z6, z7⟩, _⟩ := HQC.out w9 K9.out
  go_wp2
  go_ret
  exact ⟨rfl, ((K0.out.trans K6.out (fun _ _ h => h)).trans K9.out (fun _ _ h => h)).below (Nat.le_refl _) (fun _ h => h.elim)⟩

/-! ### The row's step -/
theorem met (os : Os) : laidMetH Tryz.prog Rows.qfileParsesRow.laid ((World.laidAll Tryz.prog os Rows.qfileParsesRow.laid).forCall (fun _ _ => 0) ⟨#[], #[.agg #[.int .i64 0, .int .i64 0, .int .i64 0, .string { data := #[] }, .slice none 0 0, .slice none 0 0], .slice none 0 0, .slice none 0 0], []⟩).memory := by
  rw [MakeChecks.laidMetH_plain _ _ _ (by kernel_rfl)]; exact laidMet_laidAll _ (by kernel_rfl) (by kernel_rfl)
theorem reads (os : Os) {H : Type} (enc : TypeId × Value → H) : ∃ places, DataW.whole enc Tryz.prog ((World.laidAll Tryz.prog os Rows.qfileParsesRow.laid).forCall (fun _ _ => 0) ⟨#[], #[.agg #[.int .i64 0, .int .i64 0, .int .i64 0, .string { data := #[] }, .slice none 0 0, .slice none 0 0], .slice none 0 0, .slice none 0 0], []⟩).memory Tryz.f3.params.toList Rows.qfileParsesSpec.vars false (#[.agg #[.int .i64 0, .int .i64 0, .int .i64 0, .string { data := #[] }, .slice none 0 0, .slice none 0 0], .slice none 0 0, .slice none 0 0] : Array Value).toList 8 = some ([.agg [.lit (.int .i64 0), .lit (.int .i64 0), .lit (.int .i64 0), .lit (.string []), .nil, .nil], .nil, .nil], [], places) :=
  ⟨[], by kernel_rfl⟩
set_option maxRecDepth 100000 in
theorem fits (os : Os) {H : Type} (enc : TypeId × Value → H) : ∃ (w : World) (tape : Tape) (i : Input), w.os = os ∧ (w.forCall tape i).Shaped Tryz.checked.prog ∧ i.vars = [] ∧ Input.okWide Tryz.checked.prog (w.forCall tape i) .any w.heap.size 3 i ∧
    (OpenSpec.ofChange Rows.qfileParsesSpec).preRow enc Tryz.checked.prog Tryz.f3 Rows.qfileParsesRow.domain false Rows.qfileParsesRow.laid (w.forCall tape i).memory i.args ∧ ({} : Assume).holds Tryz.checked.prog (lone (Frame.enter Tryz.checked.prog 3 i.args .normal) [] (w.forCall tape i)) := by
  obtain ⟨places, hx⟩ := reads os enc
  have hok : Input.okWideB Tryz.checked.prog ((World.laidAll Tryz.prog os Rows.qfileParsesRow.laid).forCall (fun _ _ => 0) ⟨#[], #[.agg #[.int .i64 0, .int .i64 0, .int .i64 0, .string { data := #[] }, .slice none 0 0, .slice none 0 0], .slice none 0 0, .slice none 0 0], []⟩) 3 ⟨#[], #[.agg #[.int .i64 0, .int .i64 0, .int .i64 0, .string { data := #[] }, .slice none 0 0, .slice none 0 0], .slice none 0 0, .slice none 0 0], []⟩ = true := by kernel_rfl
  exact ⟨(World.laidAll Tryz.prog os Rows.qfileParsesRow.laid), fun _ _ => 0, ⟨#[], #[.agg #[.int .i64 0, .int .i64 0, .int .i64 0, .string { data := #[] }, .slice none 0 0, .slice none 0 0], .slice none 0 0, .slice none 0 0], []⟩, World.laidAll_os _ _ _, World.shaped_of_ZipB (by kernel_rfl) (by kernel_rfl), (Input.okWide_of_okWideB (base := 0) hok).1, (Input.okWide_of_okWideB hok).2,
    OpenSpec.preRow_of_cond 8 hx (by kernel_rfl) (fun k hk => by cases hk) (by kernel_rfl) (met os), by
      simp only [Assume.holds]
      exact ⟨by simp, by simp, fun _ => Modest.zero, by simp, by simp⟩⟩

set_option maxRecDepth 100000 in
theorem lifted (os : Os) (started : os.Started) (H : Type) (enc : TypeId × Value → H) (F : Stop.Interp) :
    ReturnsInHanded {} Tryz.checked os 3 .any ((OpenSpec.ofChange Rows.qfileParsesSpec).preRow enc Tryz.prog Tryz.f3 Rows.qfileParsesRow.domain false Rows.qfileParsesRow.laid) (((OpenSpec.ofChange Rows.qfileParsesSpec).at F).post enc Tryz.prog Tryz.f3 false true false false) := by
  refine returnsInHanded_of_row (C := Tryz.checked) (s := OpenSpec.ofChange Rows.qfileParsesSpec) own started (by kernel_rfl) Tryz.func3 (fits os enc) ?_
  intro W base args ds gs before hval0 hW0 _ hcond hsz hL shape _
  show Calls Tryz.prog 3 args W fun e W' => ∃ v, e = .returned v ∧ Rows.qfileParsesSpec.post enc Tryz.prog Tryz.f3 false true false false W args v W'
  have hval : ∀ (j : Nat) t v, Tryz.f3.params[j]? = some t → args[j]? = some v → Value.okWide Tryz.prog W .any base t v := hval0
  have hW : DataW.Whole enc Tryz.prog Tryz.f3.params.toList Rows.qfileParsesSpec.vars false W args.toList ds gs before := hW0
  have hW' := hW
  obtain ⟨p, q, hA0, hV, rfl, hfz, hnd⟩ := hW
  have hA : DataW.TrodAll enc Tryz.prog W 0 (fun _ => true) true Tryz.f3.params.toList args.toList ds p := hA0
  rw [Tryz.params3] at hA hval
  obtain ⟨v0, vs0, d0, ds0, p0, q0, hargs, rfl, rfl, h0, r0⟩ := trodAll_cons hA
  obtain ⟨v1, vs1, d1, ds1, p1, q1, rfl, rfl, rfl, h1, r1⟩ := trodAll_cons r0
  obtain ⟨v2, vs2, d2, ds2, p2, q2, rfl, rfl, rfl, h2, r2⟩ := trodAll_cons r1
  obtain ⟨rfl, rfl, rfl⟩ := trodAll_nil r2
  obtain rfl : args = #[v0, v1, v2] := by cases args; simp_all
  obtain ⟨rfl, rfl⟩ := trodVars_none hV
  obtain ⟨c0, rfl, _⟩ := okWide_struct Tryz.underlying25 (hval 0 25 v0 rfl rfl)
  have k0 := h0
  have lt0 : ∀ x ∈ p0, x.block < W.heap.size := by obtain ⟨m, hm⟩ := k0; exact DataW.trod_lt m _ _ _ hm
  obtain ⟨m0, rx0, rc0, bx0, bc0, e0, M0, F0, R0⟩ : ∃ m rx rc bx bc, c0 = Ln.mlC m rx m.rcpts.length rc bx m.body.length bc ∧ Ln.MlAt (fun k => k < W.heap.size) W m rx m.rcpts.length rc bx m.body.length bc ∧ m.frm.size ≤ 9223372036854775807 ∧ ∀ s ∈ m.rcpts, s.size ≤ 9223372036854775807 := by
    obtain ⟨fuel, hf⟩ := h0
    exact Ln.arg_mail hf
  subst e0
  obtain ⟨a1, len1, cap1, rfl⟩ := okWide_slice Tryz.underlying26 (hval 1 26 v1 rfl rfl)
  have k1 := h1
  have lt1 : ∀ x ∈ p1, x.block < W.heap.size := by obtain ⟨m, hm⟩ := k1; exact DataW.trod_lt m _ _ _ hm
  obtain ⟨b1, x1, c1, e1, l1, _, B1, mm1⟩ : ∃ a L cap, Value.slice a1 len1 cap1 = .slice a L.length cap ∧ L.length ≤ cap ∧ cap ≤ 9223372036854775807 ∧ Ln.MkP (fun k => k < W.heap.size) W a L ∧ ((∀ n ∈ d1.weights Tryz.prog 26, n ≤ reachBytes) → cap * 24 ≤ 140737488351232) := by
    obtain ⟨fuel, hf⟩ := h1
    exact Ln.arg_marks hf
  have m1 := mm1 (fun n hn => by
    have := List.all_eq_true.1 hsz n (DataW.weights_mem_each (j := 1) rfl rfl n hn)
    simpa using this)
  injection e1 with e1 f1 g1
  subst e1 f1 g1
  obtain ⟨a2, len2, cap2, rfl⟩ := okWide_slice Tryz.underlying23 (hval 2 23 v2 rfl rfl)
  have k2 := h2
  have lt2 : ∀ x ∈ p2, x.block < W.heap.size := by obtain ⟨m, hm⟩ := k2; exact DataW.trod_lt m _ _ _ hm
  obtain ⟨b2, x2, c2, e2, l2, m2, B2⟩ : ∃ a L cap, Value.slice a2 len2 cap2 = .slice a L.length cap ∧ L.length ≤ cap ∧ cap ≤ 9223372036854775807 ∧ Ln.Bytes (fun k => k < W.heap.size) W a L := by
    obtain ⟨fuel, hf⟩ := h2
    exact Ln.arg_bytes hf
  injection e2 with e2 f2 g2
  subst e2 f2 g2
  have hE := Ln.env9 W shape
  clear hA0 hval0
  refine (walk m0 rx0 rc0 bx0 bc0 a1 x1 cap1 a2 x2 cap2 W M0 F0 R0 l1 m1 B1 l2 m2 B2 hE).mono fun e W' ⟨he, bel⟩ => ?_
  subst he
  exact ⟨_, rfl, _, _, _, [], _, [], hW', trodAll_mk1 (shut_bool Tryz.underlying4 _), (trodAll_cons_mk (Below.trod (by kernel_rfl) (by kernel_rfl) (of_decide_eq_true (by kernel_rfl)) k0 bel lt0) (trodAll_cons_mk (Below.trod (by kernel_rfl) (by kernel_rfl) (of_decide_eq_true (by kernel_rfl)) k1 bel lt1) (trodAll_cons_mk (Below.trod (by kernel_rfl) (by kernel_rfl) (of_decide_eq_true (by kernel_rfl)) k2 bel lt2) trodAll_mk0))), rfl, bel.frame _, fun h => by cases h⟩

theorem over : Rows.QfileParsesSaid :=
  OpenClaim.holds_of_cond 3 Tryz.f3 rfl rfl rfl rfl rfl rfl rfl ⟨rfl, rfl, rfl, rfl, rfl⟩ rfl rfl rfl rfl rfl (by kernel_rfl) Tryz.func3 (by kernel_rfl)
    (of_decide_eq_true (by kernel_rfl)) (by unfold Func.isWrapper; first | (rw [if_pos (by decide +kernel)]; kernel_rfl) | (rw [if_neg (by decide +kernel)]; exact ⟨rfl, rfl⟩))
    (fun os started H enc _ F => by rw [OpenClaim.pre_eq_preRow]; exact lifted os started H enc F)

theorem plain (f : FuncId) (fn : Func) (hf : Tryz.pinned.checked.prog.funcNamed "pillarbox/pillarboxlaw12.QfileParses" = some f) (hfn : Tryz.pinned.checked.prog.funcs[f]? = some fn) :
    false = Tryz.pinned.checked.prog.looks [] ∧ ∀ (j : Nat) t, fn.params[j]? = some t → Tryz.pinned.checked.prog.wantsStandIn t = false := by
  obtain rfl : f = 3 := Option.some.inj ((show Tryz.prog.funcNamed "pillarbox/pillarboxlaw12.QfileParses" = some 3 by kernel_rfl).symm.trans hf) |>.symm
  obtain rfl : fn = Tryz.f3 := (Option.some.inj (Tryz.func3.symm.trans hfn)).symm
  refine ⟨by kernel_rfl, fun j t ht => ?_⟩
  rw [Tryz.params3] at ht
  have hm : t ∈ [25, 26, 23] := by simpa using Array.mem_of_getElem? ht
  have hall : ([25, 26, 23].all fun u => !Tryz.prog.wantsStandIn u) = true := by kernel_rfl
  exact (show Tryz.prog.wantsStandIn t = false by simpa using List.all_eq_true.1 hall t hm)

/-- The statement: the tied card. -/
theorem proved : Rows.QfileParsesCardSaid :=
  Claim7.holds_tied_plain_at .later [] _ _ _ _ over (fun _ h => by cases h) (by kernel_rfl) (fun _ h => by cases h) qfileParses_row_tie rfl ⟨rfl, rfl⟩ (by kernel_rfl) rfl plain (by kernel_rfl)
#print axioms proved
end Go.Proofs.YtimoebicacnihaaGreatDoor.qfileParses
