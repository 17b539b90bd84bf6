/-
  Proved here: what any bytes say as a file, or that they say nothing.
-/
import Derived.Test.YtimoebicacnihaaGreatDoorRows
import Derived.Test.YtimoebicacnihaaGreatDoorCards
import Derived.Test.YtimoebicacnihaaGreatDoorTie
import Derived.Test.YtimoebicacnihaaGreatDoorKg16
import Derived.Test.YtimoebicacnihaaGreatDoorKF1
import Derived.Test.YtimoebicacnihaaGreatDoorKF5
import Derived.Lib.Hide
import Derived.WalkKit
import Derived.ProofKit
import Derived.OpenShut
import Derived.ShutString
import Derived.ChangeOld
import Derived.Below
import Derived.Lay
import Derived.SevenTiedAt
import Derived.Stop.Joined
import Derived.Deep.DeepHandedRow
namespace Go.Proofs.YtimoebicacnihaaGreatDoor.qfileAny
open Go.ChangeShapes Go.WideShapes Go.ChangeAt Go.RowKit
set_option linter.unusedVariables false
set_option linter.unusedSimpArgs false
open Ln
theorem own : ownKnob Tryz.prog.godebug = none := by kernel_rfl

/-! ### The walk -/
set_option maxHeartbeats 16000000 in
set_option maxRecDepth 100000 in
theorem walk (a0 : Option Addr) (x0 : List Nat) (cap0 : Nat) (w : World) (l0 : x0.length ≤ cap0) (m0 : cap0 ≤ 9223372036854775807) (B0 : Ln.Bytes (fun k => k < w.heap.size) w a0 x0) (hE : Ln.Env w) :
    Calls Tryz.prog 4 #[.slice a0 x0.length cap0] w fun e w' => e = .returned (.bool true) ∧ Below w.heap.size w w' := by
  have HA := Lib.hid (fun W e => answers12C W e)
  have HE := Lib.hid hE
  have HB := Lib.hid B0
  have k0 := keep_new w (.cells #[] 5)
  have K0 := Lib.hid k0
  clear B0 hE m0 k0
  by_cases hbig : (3000 : Int) < (x0.length : Int)
  · go_enter Tryz.func4, Tryz.ntmps4
    go_wp2_with fail
    refine (HA.out _ HE.out).mono ?_
    rintro e w1 ⟨rfl, hk1⟩
    go_wp2
    go_ret
    exact ⟨rfl, hk1.below (Nat.le_refl _) (fun _ h => h.elim)⟩
  have hsm : x0.length ≤ 3000 := by omega
  have HS := Lib.hid hsm
  have HPY : Hid (beginsB x0 = true → ∀ W e w', Parsed x0 W e w' → PQ (readMl (innerM x0)) (marksM (x0.drop ((innerM x0).length + 12))) (((innerM x0).length + 12 + 28 * (marksM (x0.drop ((innerM x0).length + 12))).length : Nat) : Int) true W e w') := Lib.hid (fun hb W e w' h => parsed_any hb h)
  have HPN : Hid (beginsB x0 = false → ∀ W e w', Parsed x0 W e w' → PQ noMl [] 0 false W e w') := Lib.hid (fun hb W e w' h => parsed_none hb h)
  have HBL : Hid (beginsB x0 = true → (innerM x0).length + 12 ≤ x0.length) := Lib.hid (fun hb => begins_len HB.out.1 hb)
  have HGR : Hid (beginsB x0 = true → (readMl (innerM x0)).rcpts.length ≤ 100) := Lib.hid (fun hb => good_rn (begins_good hb))
  have HPP : Hid (∀ W y n c, n = x0.length → n ≤ c → n ≤ 3000 → Env W → Bytes (fun b => True) W y x0 → Calls Tryz.prog 11 #[.slice y n c] W (Parsed x0 W)) := Lib.hid (fun W y n c h1 h2 h3 h4 h5 => parseQ h4 y n c x0 h1.symm h2 (by omega) h5)
  clear hsm
  obtain ⟨PP, hPP⟩ : ∃ PP, PP = Parsed x0 := ⟨_, rfl⟩
  rw [← hPP] at HPY HPN HPP
  clear hPP
  obtain ⟨bg, hbg⟩ : ∃ bg, bg = beginsB x0 := ⟨_, rfl⟩
  rw [← hbg] at HPY HPN HBL HGR
  have HBG := Lib.hid hbg
  clear hbg
  have HBB : Hid (∀ W e w', Begun x0 W e w' → ∃ m n rx rn rc bx bn bc, e = .returned (.tuple #[.agg (mlC m rx rn rc bx bn bc), .int .i64 (n : Nat), .bool bg]) ∧ MlIt (fun b => W.heap.size ≤ b) w' m rx rn bx bn ∧ Keep (fun _ => False) W w' ∧ (if bg = true then m = readMl (innerM x0) ∧ n = (innerM x0).length + 12 else m = noMl ∧ n = 0)) := Lib.hid (fun W e w' h => by rw [HBG.out]; exact h)
  cases bg with
  | false =>
    have HPN2 := Lib.hid (HPN.out rfl)
    go_enter Tryz.func4, Tryz.ntmps4
    go_wp2_with
      (at_builtin
       refine wpList_app_byts (by rfl) (.tmp 15) (.tmp 16) (by rfl) _ (by rfl) a0 x0.length cap0 x0 (by rfl) rfl (HB.out.quiet K0.out) (by have := HS.out; omega) ?_
       intro y c w1 hc hB1 hk1
       have K1 := Lib.hid (K0.out.trans hk1 (fun _ _ h => h))
       have HB1 := Lib.hid hB1
       have HC := Lib.hid hc
       clear hc hB1 hk1)
    refine (HPP.out w1 y x0.length c rfl HC.out HS.out (HE.out.quiet K1.out) (HB1.out.mono (fun _ _ _ => trivial))).mono ?_
    rintro e w2 h2
    obtain ⟨rx, rn, rc, bx, bn, bc, yq, k, cq, rfl, hQ2, hk2⟩ := HPN2.out _ _ _ h2
    obtain rfl : k = 0 := hQ2.hk
    obtain ⟨W3, hW3, kW3, hA3, hs3⟩ := put_file w2 noMl rx rn rc bx bn bc yq 0 cq 0
    have K3 := Lib.hid ((K1.out.trans hk2 (fun _ _ h => h)).trans kW3 (fun _ _ h => h))
    have HQ3 := Lib.hid (hQ2.quiet kW3)
    have HZ2 := Lib.hid (qz_new w2)
    have HW3 := Lib.hid hW3
    obtain ⟨G, hG⟩ : ∃ G, G = w2.heap.size := ⟨_, rfl⟩
    rw [← hG] at hA3 HZ2
    have HA3 := Lib.hid hA3
    have HGG := Lib.hid hG
    clear h2 hQ2 hk2 hW3 kW3 hA3 hs3 hG HB1 HC K1
    go_wp2_with (rw [← HGG.out]; refine wpList_store_row (by rfl) 31 (.tmp 3) (.tmp 19) (by rfl) G (qC noMl rx rn rc bx bn bc yq 0 cq 0) (by rfl) (by rfl) 31 _ HZ2.out infoQ rfl (one_q _ _ _ _ _ _ _ _ _ _ _ _ _ _) ?_; rw [HGG.out, ← HW3.out, ← HGG.out])
    refine (refBeginsC a0 x0.length cap0 x0 rfl l0 (by have := HS.out; omega) (HB.out.quiet K3.out)).mono ?_
    rintro e w4 h4
    obtain ⟨m', n', rx', rn', rc', bx', bn', bc', rfl, hM', hk4, hif'⟩ := HBB.out _ _ _ h4
    obtain ⟨W5, hW5, hk5, hA5, hs5⟩ := put_mail w4 m' rx' rn' rc' bx' bn' bc'
    have k45 := hk4.trans hk5 (fun _ _ h => h)
    have K5 := Lib.hid (K3.out.trans k45 (fun _ _ h => h))
    have HQ5 := Lib.hid (HQ3.out.quiet k45)
    have HF5 := Lib.hid (HA3.out.keep k45 (fun h => h))
    have HZ4 := Lib.hid (mz_new w4)
    have HW5 := Lib.hid hW5
    obtain ⟨B, hB⟩ : ∃ B, B = w4.heap.size := ⟨_, rfl⟩
    rw [← hB] at hA5 hs5 HZ4
    have HBB2 := Lib.hid hB
    clear h4 hM' hk4 hif' hW5 hk5 hA5 hs5 hB k45 HA3 HQ3
    go_wp2_with (rw [← HBB2.out]; refine wpList_store_row (by rfl) 25 (.tmp 5) (.tmp 24) (by rfl) B (mlC m' rx' rn' rc' bx' bn' bc') (by rfl) (by rfl) 25 _ HZ4.out infoM rfl (one_ml _ _ _ _ _ _ _ _ _ _) ?_; rw [HBB2.out, ← HW5.out, ← HBB2.out])
    refine (HA.out _ (HE.out.quiet K5.out)).mono ?_
    rintro e w6 ⟨rfl, hk6⟩
    have K6 := Lib.hid (K5.out.trans hk6 (fun _ _ h => h))
    have HF6 := Lib.hid (HF5.out.keep hk6 (fun h => h))
    have HQ6 := Lib.hid (HQ5.out.quiet hk6)
    have HRN : Hid (rn ≤ 1000000) := Lib.hid (by rw [HQ6.out.ml.hrn]; decide)
    obtain ⟨z0, z1, z2, z3, z4, z5, z6, z7⟩ := qcells_of HF6.out
    simp only [noMl] at z0 z1 z2 z3
    clear hk6
    go_wp2_with fail
    refine (refSameC (a := noMl) (c := noMl) (rc := rc) (bc := bc) (rc' := 0) (bc' := 0) HQ6.out.ml.it (zero_at _).it HRN.out).mono ?_
    rintro e w7 ⟨rfl, hk7⟩
    rw [sameB_self]
    have K7 := Lib.hid (K6.out.trans hk7 (fun _ _ h => h))
    clear z0 z1 z2 z3 z4 z5 z6 z7
    obtain ⟨z0, z1, z2, z3, z4, z5, z6, z7⟩ := qcells_of (HF6.out.keep hk7 (fun h => h))
    clear hk7
    go_wp2
    go_ret
    exact ⟨rfl, K7.out.below (Nat.le_refl _) (fun _ h => h.elim)⟩
  | true =>
    have hbl := HBL.out rfl
    have HGR2 := Lib.hid (HGR.out rfl)
    have HPY2 := Lib.hid (HPY.out rfl)
    obtain ⟨M, hMd⟩ : ∃ M, M = readMl (innerM x0) := ⟨_, rfl⟩
    obtain ⟨i, hi⟩ : ∃ i, i = (innerM x0).length + 12 := ⟨_, rfl⟩
    rw [← hMd] at HGR2 HPY2 HBB
    rw [← hi] at hbl HPY2 HBB
    have HIB := Lib.hid hbl
    clear hMd hi hbl HPY HPN HBL HGR HBG
    obtain ⟨L, hL⟩ : ∃ L, L = marksM (x0.drop i) := ⟨_, rfl⟩
    have HLL := Lib.hid hL
    have HL4 : Hid (L.length ≤ 4096) := Lib.hid (by rw [hL]; exact marksM_le _)
    rw [← hL] at HPY2
    clear hL
    go_enter Tryz.func4, Tryz.ntmps4
    go_wp2_with
      (at_builtin
       refine wpList_app_byts (by rfl) (.tmp 15) (.tmp 16) (by rfl) _ (by rfl) a0 x0.length cap0 x0 (by rfl) rfl (HB.out.quiet K0.out) (by have := HS.out; omega) ?_
       intro y c w1 hc hB1 hk1
       have K1 := Lib.hid (K0.out.trans hk1 (fun _ _ h => h))
       have HB1 := Lib.hid hB1
       have HC := Lib.hid hc
       clear hc hB1 hk1)
    refine (HPP.out w1 y x0.length c rfl HC.out HS.out (HE.out.quiet K1.out) (HB1.out.mono (fun _ _ _ => trivial))).mono ?_
    rintro e w2 h2
    obtain ⟨rx, rn, rc, bx, bn, bc, yq, k, cq, rfl, hQ2, hk2⟩ := HPY2.out _ _ _ h2
    have hk0 : k = L.length := hQ2.hk
    obtain ⟨W3, hW3, kW3, hA3, hs3⟩ := put_file w2 M rx rn rc bx bn bc yq k cq ((i + 28 * L.length : Nat) : Int)
    have K3 := Lib.hid ((K1.out.trans hk2 (fun _ _ h => h)).trans kW3 (fun _ _ h => h))
    have HQ3 := Lib.hid (hQ2.quiet kW3)
    have HZ2 := Lib.hid (qz_new w2)
    have HW3 := Lib.hid hW3
    have HK0 := Lib.hid hk0
    obtain ⟨G, hG⟩ : ∃ G, G = w2.heap.size := ⟨_, rfl⟩
    rw [← hG] at hA3 HZ2
    have HA3 := Lib.hid hA3
    have HGG := Lib.hid hG
    clear h2 hQ2 hk2 hW3 kW3 hA3 hs3 hG HB1 HC K1 hk0
    go_wp2_with (rw [← HGG.out]; refine wpList_store_row (by rfl) 31 (.tmp 3) (.tmp 19) (by rfl) G (qC M rx rn rc bx bn bc yq k cq ((i + 28 * L.length : Nat) : Int)) (by rfl) (by rfl) 31 _ HZ2.out infoQ rfl (one_q _ _ _ _ _ _ _ _ _ _ _ _ _ _) ?_; rw [HGG.out, ← HW3.out, ← HGG.out])
    refine (refBeginsC a0 x0.length cap0 x0 rfl l0 (by have := HS.out; omega) (HB.out.quiet K3.out)).mono ?_
    rintro e w4 h4
    obtain ⟨m', n', rx', rn', rc', bx', bn', bc', rfl, hM', hk4, hif'⟩ := HBB.out _ _ _ h4
    rw [if_pos trivial] at hif'
    obtain ⟨rfl, rfl⟩ := hif'
    obtain ⟨W5, hW5, hk5, hA5, hs5⟩ := put_mail w4 m' rx' rn' rc' bx' bn' bc'
    have k45 := hk4.trans hk5 (fun _ _ h => h)
    have K5 := Lib.hid (K3.out.trans k45 (fun _ _ h => h))
    have HQ5 := Lib.hid (HQ3.out.quiet k45)
    have HF5 := Lib.hid (HA3.out.keep k45 (fun h => h))
    have HM5 := Lib.hid (hM'.quiet hk5)
    have HZ4 := Lib.hid (mz_new w4)
    have HW5 := Lib.hid hW5
    obtain ⟨B, hB⟩ : ∃ B, B = w4.heap.size := ⟨_, rfl⟩
    rw [← hB] at hA5 hs5 HZ4
    have HB5 := Lib.hid hA5
    have HBB2 := Lib.hid hB
    have hil : n' ≤ x0.length := HIB.out
    have i0 : (0 : Int) ≤ (n' : Int) := by omega
    have i1 : (n' : Int) ≤ (x0.length : Int) := by omega
    obtain ⟨r1, r2⟩ := cut_drop a0 x0.length cap0 n' hil l0
    have hBd := (HB.out.quiet K5.out).mid cap0 n' x0.length hil (Nat.le_refl _) l0
    rw [List.take_length] at hBd
    obtain ⟨xd, hxd⟩ : ∃ xd, xd = (if cap0 = n' then a0 else a0.map (fun b => b.add n')) := ⟨_, rfl⟩
    rw [← hxd] at r1 r2 hBd
    have HBD := Lib.hid hBd
    clear h4 hM' hk4 hW5 hk5 hA5 hs5 hB k45 HA3 HQ3 hBd hxd
    go_wp2_with (rw [← HBB2.out]; refine wpList_store_row (by rfl) 25 (.tmp 5) (.tmp 24) (by rfl) B (mlC m' rx' rn' rc' bx' bn' bc') (by rfl) (by rfl) 25 _ HZ4.out infoM rfl (one_ml _ _ _ _ _ _ _ _ _ _) ?_; rw [HBB2.out, ← HW5.out, ← HBB2.out])
    refine (refMarksC xd (x0.length - n') (cap0 - n') (x0.drop n') (by rw [List.length_drop]) (by omega) (by have := HS.out; omega) HBD.out).mono ?_
    rintro e w6 ⟨y6, k6, c6, g6, hk6n, hg6, hc6, rfl, hM6, hk6⟩
    rw [← HLL.out] at hk6n hM6
    obtain rfl : k6 = k := by rw [hk6n, HK0.out]
    have K6 := Lib.hid (K5.out.trans hk6 (fun _ _ h => h))
    have HM6 := Lib.hid hM6
    have HF6 := Lib.hid (HF5.out.keep hk6 (fun h => h))
    have HV6 := Lib.hid (HB5.out.keep hk6 (fun h => h))
    have HQ6 := Lib.hid (HQ5.out.quiet hk6)
    have HMl6 := Lib.hid (HM5.out.quiet hk6)
    have hk4096 : k6 ≤ 4096 := by have := HK0.out; have := HL4.out; omega
    have hge : ((n' + 28 * L.length : Nat) : Int) = (n' : Int) + g6 := by have := HK0.out; omega
    have hgw : IntKind.i64.wrap ((n' : Int) + g6) = (n' : Int) + g6 := wrap_small _ (by have := HS.out; omega) (by have := HS.out; omega)
    rw [hge] at HF6
    have HRN : Hid (rn ≤ 1000000) := Lib.hid (by rw [HQ6.out.ml.hrn]; have := HGR2.out; omega)
    clear hk6 hM6 r1 r2 hge hk6n
    go_wp2_with fail
    refine (HA.out _ (HE.out.quiet K6.out)).mono ?_
    rintro e w7 ⟨rfl, hk7⟩
    have K7 := Lib.hid hk7
    obtain ⟨z0, z1, z2, z3, z4, z5, z6, z7⟩ := qcells_of (HF6.out.keep hk7 (fun h => h))
    obtain ⟨v0, v1, v2, v3, v4, v5⟩ := cells_of (HV6.out.keep hk7 (fun h => h))
    clear hk7
    go_wp2_with fail
    refine (refSameC (rc := rc) (bc := bc) (rc' := rc') (bc' := bc') (HQ6.out.ml.quiet K7.out).it (HMl6.out.quiet K7.out) HRN.out).mono ?_
    rintro e w8 ⟨rfl, hk8⟩
    rw [sameB_self]
    have K8 := Lib.hid (K7.out.trans hk8 (fun _ _ h => h))
    clear hk8 z0 z1 z2 z3 z4 z5 z6 z7 v0 v1 v2 v3 v4 v5
    obtain ⟨z0, z1, z2, z3, z4, z5, z6, z7⟩ := qcells_of (HF6.out.keep K8.out (fun h => h))
    go_wp2_with fail
    refine (sameMarksC yq y6 k6 cq c6 L HK0.out (by omega) (mk_quiet HQ6.out.ms K8.out) (mk_quiet HM6.out K8.out)).mono ?_
    rintro e w9 ⟨rfl, hk9⟩
    have K9 := Lib.hid (K8.out.trans hk9 (fun _ _ h => h))
    clear hk9 z0 z1 z2 z3 z4 z5 z6 z7
    obtain ⟨z0, z1, z2, z3, z4, z5, z6, z7⟩ := qcells_of (HF6.out.keep K9.out (fun h => h))
    go_wp2
    go_ret
    exact ⟨rfl, (K6.out.trans K9.out (fun _ _ h => h)).below (Nat.le_refl _) (fun _ h => h.elim)⟩

/-! ### The row's step -/
theorem met (os : Os) : laidMetH Tryz.prog Rows.qfileAnyRow.laid ((World.laidAll Tryz.prog os Rows.qfileAnyRow.laid).forCall (fun _ _ => 0) ⟨#[], #[.slice none 0 0], []⟩).memory := by
  rw [MakeChecks.laidMetH_plain _ _ _ (by kernel_rfl)]; exact laidMet_laidAll _ (by kernel_rfl) (by kernel_rfl)
theorem reads (os : Os) {H : Type} (enc : TypeId × Value → H) : ∃ places, DataW.whole enc Tryz.prog ((World.laidAll Tryz.prog os Rows.qfileAnyRow.laid).forCall (fun _ _ => 0) ⟨#[], #[.slice none 0 0], []⟩).memory Tryz.f4.params.toList Rows.qfileAnySpec.vars false (#[.slice none 0 0] : Array Value).toList 8 = some ([.nil], [], places) :=
  ⟨[], by kernel_rfl⟩
set_option maxRecDepth 100000 in
theorem fits (os : Os) {H : Type} (enc : TypeId × Value → H) : ∃ (w : World) (tape : Tape) (i : Input), w.os = os ∧ (w.forCall tape i).Shaped Tryz.checked.prog ∧ i.vars = [] ∧ Input.okWide Tryz.checked.prog (w.forCall tape i) .any w.heap.size 4 i ∧
    (OpenSpec.ofChange Rows.qfileAnySpec).preRow enc Tryz.checked.prog Tryz.f4 Rows.qfileAnyRow.domain false Rows.qfileAnyRow.laid (w.forCall tape i).memory i.args ∧ ({} : Assume).holds Tryz.checked.prog (lone (Frame.enter Tryz.checked.prog 4 i.args .normal) [] (w.forCall tape i)) := by
  obtain ⟨places, hx⟩ := reads os enc
  have hok : Input.okWideB Tryz.checked.prog ((World.laidAll Tryz.prog os Rows.qfileAnyRow.laid).forCall (fun _ _ => 0) ⟨#[], #[.slice none 0 0], []⟩) 4 ⟨#[], #[.slice none 0 0], []⟩ = true := by kernel_rfl
  exact ⟨(World.laidAll Tryz.prog os Rows.qfileAnyRow.laid), fun _ _ => 0, ⟨#[], #[.slice none 0 0], []⟩, World.laidAll_os _ _ _, World.shaped_of_ZipB (by kernel_rfl) (by kernel_rfl), (Input.okWide_of_okWideB (base := 0) hok).1, (Input.okWide_of_okWideB hok).2,
    OpenSpec.preRow_of_cond 8 hx (by kernel_rfl) (fun k hk => by cases hk) (by kernel_rfl) (met os), by
      simp only [Assume.holds]
      exact ⟨by simp, by simp, fun _ => Modest.zero, by simp, by simp⟩⟩

set_option maxRecDepth 100000 in
theorem lifted (os : Os) (started : os.Started) (H : Type) (enc : TypeId × Value → H) (F : Stop.Interp) :
    ReturnsInHanded {} Tryz.checked os 4 .any ((OpenSpec.ofChange Rows.qfileAnySpec).preRow enc Tryz.prog Tryz.f4 Rows.qfileAnyRow.domain false Rows.qfileAnyRow.laid) (((OpenSpec.ofChange Rows.qfileAnySpec).at F).post enc Tryz.prog Tryz.f4 false true false false) := by
  refine returnsInHanded_of_row (C := Tryz.checked) (s := OpenSpec.ofChange Rows.qfileAnySpec) own started (by kernel_rfl) Tryz.func4 (fits os enc) ?_
  intro W base args ds gs before hval0 hW0 _ hcond hsz hL shape _
  show Calls Tryz.prog 4 args W fun e W' => ∃ v, e = .returned v ∧ Rows.qfileAnySpec.post enc Tryz.prog Tryz.f4 false true false false W args v W'
  have hval : ∀ (j : Nat) t v, Tryz.f4.params[j]? = some t → args[j]? = some v → Value.okWide Tryz.prog W .any base t v := hval0
  have hW : DataW.Whole enc Tryz.prog Tryz.f4.params.toList Rows.qfileAnySpec.vars false W args.toList ds gs before := hW0
  have hW' := hW
  obtain ⟨p, q, hA0, hV, rfl, hfz, hnd⟩ := hW
  have hA : DataW.TrodAll enc Tryz.prog W 0 (fun _ => true) true Tryz.f4.params.toList args.toList ds p := hA0
  rw [Tryz.params4] at hA hval
  obtain ⟨v0, vs0, d0, ds0, p0, q0, hargs, rfl, rfl, h0, r0⟩ := trodAll_cons hA
  obtain ⟨rfl, rfl, rfl⟩ := trodAll_nil r0
  obtain rfl : args = #[v0] := by cases args; simp_all
  obtain ⟨rfl, rfl⟩ := trodVars_none hV
  obtain ⟨a0, len0, cap0, rfl⟩ := okWide_slice Tryz.underlying23 (hval 0 23 v0 rfl rfl)
  have k0 := h0
  have lt0 : ∀ x ∈ p0, x.block < W.heap.size := by obtain ⟨m, hm⟩ := k0; exact DataW.trod_lt m _ _ _ hm
  obtain ⟨b0, x0, c0, e0, l0, m0, B0⟩ : ∃ a L cap, Value.slice a0 len0 cap0 = .slice a L.length cap ∧ L.length ≤ cap ∧ cap ≤ 9223372036854775807 ∧ Ln.Bytes (fun k => k < W.heap.size) W a L := by
    obtain ⟨fuel, hf⟩ := h0
    exact Ln.arg_bytes hf
  injection e0 with e0 f0 g0
  subst e0 f0 g0
  have hE := Ln.env9 W shape
  clear hA0 hval0
  refine (walk a0 x0 cap0 W l0 m0 B0 hE).mono fun e W' ⟨he, bel⟩ => ?_
  subst he
  exact ⟨_, rfl, _, _, _, [], _, [], hW', trodAll_mk1 (shut_bool Tryz.underlying4 _), (trodAll_cons_mk (Below.trod (by kernel_rfl) (by kernel_rfl) (of_decide_eq_true (by kernel_rfl)) k0 bel lt0) trodAll_mk0), rfl, bel.frame _, fun h => by cases h⟩

theorem over : Rows.QfileAnySaid :=
  OpenClaim.holds_of_cond 4 Tryz.f4 rfl rfl rfl rfl rfl rfl rfl ⟨rfl, rfl, rfl, rfl, rfl⟩ rfl rfl rfl rfl rfl (by kernel_rfl) Tryz.func4 (by kernel_rfl)
    (of_decide_eq_true (by kernel_rfl)) (by unfold Func.isWrapper; first | (rw [if_pos (by decide +kernel)]; kernel_rfl) | (rw [if_neg (by decide +kernel)]; exact ⟨rfl, rfl⟩))
    (fun os started H enc _ F => by rw [OpenClaim.pre_eq_preRow]; exact lifted os started H enc F)

theorem plain (f : FuncId) (fn : Func) (hf : Tryz.pinned.checked.prog.funcNamed "pillarbox/pillarboxlaw12.QfileAny" = some f) (hfn : Tryz.pinned.checked.prog.funcs[f]? = some fn) :
    false = Tryz.pinned.checked.prog.looks [] ∧ ∀ (j : Nat) t, fn.params[j]? = some t → Tryz.pinned.checked.prog.wantsStandIn t = false := by
  obtain rfl : f = 4 := Option.some.inj ((show Tryz.prog.funcNamed "pillarbox/pillarboxlaw12.QfileAny" = some 4 by kernel_rfl).symm.trans hf) |>.symm
  obtain rfl : fn = Tryz.f4 := (Option.some.inj (Tryz.func4.symm.trans hfn)).symm
  refine ⟨by kernel_rfl, fun j t ht => ?_⟩
  rw [Tryz.params4] at ht
  have hm : t ∈ [23] := by simpa using Array.mem_of_getElem? ht
  have hall : ([23].all fun u => !Tryz.prog.wantsStandIn u) = true := by kernel_rfl
  exact (show Tryz.prog.wantsStandIn t = false by simpa using List.all_eq_true.1 hall t hm)

/-- The statement: the tied card. -/
theorem proved : Rows.QfileAnyCardSaid :=
  Claim7.holds_tied_plain_at .later [] _ _ _ _ over (fun _ h => by cases h) (by kernel_rfl) (fun _ h => by cases h) qfileAny_row_tie rfl ⟨rfl, rfl⟩ (by kernel_rfl) rfl plain (by kernel_rfl)
#print axioms proved
end Go.Proofs.YtimoebicacnihaaGreatDoor.qfileAny
