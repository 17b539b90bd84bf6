/-
  Proved here: for every text and every parting: how bytes are parted changes no event (the card: for every value of the library's MaxLen, its listed tables as its text lays them).
-/
import Derived.Test.YtcjljldknekhiaaGreatDoorRows
import Derived.Test.YtcjljldknekhiaaGreatDoorCards
import Derived.Test.YtcjljldknekhiaaGreatDoorTie
import Derived.Test.YtcjljldknekhiaaGreatDoorKg11
import Derived.Lib.Hide
import Derived.WalkKit
import Derived.ProofKit
import Derived.OpenShut
import Derived.ShutString
import Derived.ChangeOld
import Derived.Below
import Derived.Lay
import Derived.SevenTiedAt
import Derived.Stop.Joined
import Derived.Deep.DeepHandedRow
namespace Go.Proofs.YtcjljldknekhiaaGreatDoor.serveParts
open Go.ChangeShapes Go.WideShapes Go.ChangeAt Go.RowKit
set_option linter.unusedVariables false

theorem own : ownKnob Tryz.prog.godebug = none := by kernel_rfl

/-! ### The walk -/
set_option maxHeartbeats 4000000 in
set_option maxRecDepth 100000 in
theorem walk (a0 : ByteArray) (a1 : Option Addr) (x1 : List Nat) (cap1 : Nat) (w : World) (m0 : a0.size ≤ 140737488351232) (l1 : x1.length ≤ cap1) (m1 : cap1 ≤ 140737488351232) (B1 : Ln.Bytes (fun k => k < w.heap.size) w a1 x1) (hE : Ln.Env w) (h9 : 9 ≤ w.heap.size) :
    Calls Tryz.prog 5 #[.string a0, .slice a1 x1.length cap1] w fun e w' => e = .returned (.bool true) ∧ Below w.heap.size w w' := by
  have HA := Lib.hid (fun W e k => Ln.answersC W e k)
  have HE := Lib.hid hE
  obtain ⟨M, hM⟩ : ∃ M, M = x1.length := ⟨_, rfl⟩
  rw [← hM] at l1
  rw [← hM]
  have HMM := Lib.hid hM
  have HB := Lib.hid B1
  clear hM B1 hE
  obtain ⟨N, hN⟩ : ∃ N, N = a0.size := ⟨_, rfl⟩
  have HN := Lib.hid hN
  by_cases hbig : (2000 : Int) < ((a0.size : Nat) : Int)
  · go_enter Tryz.func5, Tryz.ntmps5
    go_wp2_with fail
    refine (HA.out _ HE.out h9).mono ?_
    rintro e w1 ⟨rfl, hk1⟩
    go_wp2
    go_ret
    exact ⟨rfl, hk1.below (Nat.le_refl _) (fun _ h => h.elim)⟩
  have hs0 : N ≤ 2000 := by omega
  go_enter Tryz.func5, Tryz.ntmps5
  go_wp2_with fail
  have HN1 := Lib.hid (Ln.pnew { data := #[109, 120] } (by decide) 100 (by decide) w HE.out h9)
  rw [Ln.host_mx] at HN1
  refine HN1.out.mono ?_
  rintro e w1 ⟨g, F1, rfl, hV1, hK1, hF1⟩
  have HV1 := Lib.hid hV1
  have HK1 := Lib.hid hK1
  have HF1 := Lib.hid hF1
  have HE1 := Lib.hid (HE.out.quiet hK1)
  clear hV1 hK1 hF1 HN1
  go_wp2_with fail
  have HN2 := Lib.hid (Ln.pnew { data := #[109, 120] } (by decide) 100 (by decide) w1 HE1.out (Nat.le_trans h9 HK1.out.size))
  rw [Ln.host_mx] at HN2
  refine HN2.out.mono ?_
  rintro e w2 ⟨h, G1, rfl, hV2, hK2, hF2⟩
  have T0 := Lib.hid (Ln.two_made HE.out h9 HV1.out HK1.out HF1.out hV2 hK2 hF2)
  obtain ⟨c3, w3, kc, hB3, hK3⟩ := Ln.conv_str a0 w2
  have T1 := Lib.hid (T0.out.quiet hK3)
  have HB3 := Lib.hid hB3
  clear hV2 hK2 hF2 HN2 HV1 HK1 HF1 HE1 hB3 hK3 T0
  go_wp2_with fail
  refine (Ln.pfeed T1.out.a T1.out.env (some ⟨w2.heap.size, 0, none⟩) a0.size c3 (Ln.ns a0) (Ln.ns_length a0) HB3.out (by show 0 + a0.size ≤ _; omega)).mono ?_
  rintro e w4 ⟨rfl, F4, hV4, hK4, hM4⟩
  have T2 := Lib.hid (T1.out.left (s' := (Ln.Se.new { data := #[109, 120] } 100).fed (Ln.ns a0)) hV4 hK4 hM4)
  clear hV4 hK4 hM4 HB3 T1 kc
  go_wp2
  go_loopw [7, 8] (fun a i wr => ∃ A I : Nat, A ≤ a0.size ∧ I ≤ 140737488351233 ∧ (A < a0.size → I ≤ M) ∧ a = .int .i64 (A : Int) ∧ i = .int .i64 (I : Int) ∧ ∃ G, Hid (Ln.Two w wr g h F4 G ((Ln.Se.new { data := #[109, 120] } 100).fed (Ln.ns a0)) ((Ln.Se.new { data := #[109, 120] } 100).fed ((Ln.ns a0).take A)))) (fun a i _ => (a0.size - (intOf a).toNat) + (M - (intOf i).toNat))
  case atStart => exact ⟨0, 0, by omega, by omega, by omega, rfl, rfl, G1, T2.out⟩
  case round =>
    obtain ⟨A, I, hA, hI, hAI, rfl, rfl, G, T⟩ := hrel
    have HAI := Lib.hid hAI
    clear hAI
    by_cases hlt : (A : Int) < ((a0.size : Nat) : Int)
    · obtain ⟨D, hD⟩ : ∃ D, A + D = a0.size := ⟨a0.size - A, by omega⟩
      have hD1 : ((a0.size : Nat) : Int) - (A : Int) = (D : Int) := by omega
      have HD := Lib.hid hD
      have hDp : 0 < D := by omega
      clear hD
      by_cases hIM : (I : Int) < (M : Int)
      · obtain ⟨b, off, _, hb, c1⟩ := (HB.out.quiet T.out.kp).at I (by have := HMM.out; omega)
        subst hb
        obtain ⟨c, hc⟩ : ∃ c, c = x1.getD I 0 := ⟨_, rfl⟩
        rw [← hc] at c1
        have hcl : c < 256 := by rw [hc]; exact Ln.getD_lt HB.out.1 I (by have := HMM.out; omega)
        clear hc
        by_cases hcD : (c : Int) < (D : Int)
        · obtain ⟨c6, w6, kc, hB6, hK6⟩ := Ln.conv_str (a0.extract A (A + c)) wr
          have HB6 := Lib.hid hB6
          have HK6 := Lib.hid hK6
          clear hB6 hK6
          go_wp2_with fail
          refine (Ln.feed_part (n := c) T.out _ _ _ (by rw [ByteArray.size_extract]) HB6.out HK6.out (by have := HD.out; omega) (by omega) rfl).mono ?_
          rintro e w7 ⟨rfl, G7, hT7⟩
          have T7 := Lib.hid hT7
          clear hT7 HB6 HK6 kc
          go_wp2
          go_roundw
          case rel => exact ⟨A + c, I + 1, by have := HD.out; omega, by omega, fun _ => by omega, by go_num, by go_num, G7, T7.out⟩
          case measure => simp [intOf]; omega
        · obtain ⟨c6, w6, kc, hB6, hK6⟩ := Ln.conv_str (a0.extract A (A + D)) wr
          have HB6 := Lib.hid hB6
          have HK6 := Lib.hid hK6
          clear hB6 hK6
          go_wp2_with fail
          refine (Ln.feed_part (n := D) T.out _ _ _ (by rw [ByteArray.size_extract]) HB6.out HK6.out (by have := HD.out; omega) (by omega) rfl).mono ?_
          rintro e w7 ⟨rfl, G7, hT7⟩
          have T7 := Lib.hid hT7
          clear hT7 HB6 HK6 kc
          go_wp2
          go_roundw
          case rel => exact ⟨A + D, I + 1, by have := HD.out; omega, by omega, fun _ => by omega, by go_num, by go_num, G7, T7.out⟩
          case measure => simp [intOf]; omega
      · obtain ⟨c6, w6, kc, hB6, hK6⟩ := Ln.conv_str (a0.extract A (A + D)) wr
        have HB6 := Lib.hid hB6
        have HK6 := Lib.hid hK6
        clear hB6 hK6
        go_wp2_with fail
        refine (Ln.feed_part (n := D) T.out _ _ _ (by rw [ByteArray.size_extract]) HB6.out HK6.out (by have := HD.out; omega) (by omega) rfl).mono ?_
        rintro e w7 ⟨rfl, G7, hT7⟩
        have T7 := Lib.hid hT7
        clear hT7 HB6 HK6 kc
        go_wp2
        go_roundw
        case rel => exact ⟨A + D, I + 1, by have := HD.out; omega, by have := HAI.out; omega, fun h => by have := HD.out; omega, by go_num, by go_num, G7, T7.out⟩
        case measure => have := HD.out; have := HAI.out; simp [intOf]; omega
    · have e : (Ln.ns a0).take A = Ln.ns a0 := List.take_of_length_le (by rw [Ln.ns_length]; omega)
      have A0 : Hid (Ln.Alike w wr g h F4 G ((Ln.Se.new { data := #[109, 120] } 100).fed (Ln.ns a0)) ((Ln.Se.new { data := #[109, 120] } 100).fed (Ln.ns a0))) := Lib.hid (by
        have hT := T.out
        rw [e] at hT
        have hg : Ln.Gd ((Ln.Se.new { data := #[109, 120] } 100).fed (Ln.ns a0)) := (Ln.Gd.new _ _ (by decide)).fed _ (by rw [Ln.ns_length]; show 0 + a0.size ≤ _; omega)
        exact ⟨hT, hg, hg, rfl, Ln.Ro.go Ln.V9 _ _ rfl hg.ok (Ln.Ro.new _ _)⟩)
      clear e T HAI
      go_wp2
      go_loopw [] (fun wx => ∃ F G s t, Hid (Ln.Alike w wx g h F G s t)) (fun wx => Ln.muW wx g)
      case atStart => exact ⟨_, _, _, _, A0.out⟩
      case round =>
        obtain ⟨F5, G5, s5, t5, A5⟩ := hrel
        cases hn : (s5.go Ln.V9).out with
        | cons ev L =>
          have HNE := Lib.hid hn
          clear hn
          go_wp2_with fail
          refine (Ln.pnext_some A5.out.two.a A5.out.two.env A5.out.gs ev L HNE.out).mono ?_
          rintro e u2 ⟨k2, t2, f2, rx2, rn2, rc2, bx2, bn2, bc2, s6, F6, E6, rfl, hEv6, hmE6, _, hgo6, gd6, _, _, hmu6, hV6, hK6, hM6⟩
          obtain ⟨W2, V2, HW2, HVV2, hk2, hA2⟩ := Ln.laid_ev u2 k2 t2 f2 rx2 bx2 rn2 rc2 bn2 bc2
          have T6 := Lib.hid ((A5.out.two.left hV6 hK6 hM6).quiet hk2)
          have hne : ∀ k, G5 k → k ≠ u2.heap.size := fun k hk => by have h1 := A5.out.two.b.lt k hk; have h2 := hK6.size; omega
          have HNE2 := Lib.hid hne
          have HEv6 := Lib.hid (hEv6.keepW hk2 (fun b _ hb => ⟨fun h => h, hb⟩))
          have HME6 := Lib.hid hmE6
          have HG6 := Lib.hid hgo6
          have HGD6 := Lib.hid gd6
          have HMU6 := Lib.hid hmu6
          have HA2 := Lib.hid hA2
          rw [← HVV2.out]
          clear hne hEv6 hmE6 hgo6 gd6 hmu6 hV6 hK6 hM6 hk2 hA2
          go_wp2_with (refine Ln.step_laidE (by rfl) (.tmp 10) (.tmp 67) (by rfl) u2 (by rfl) k2 t2 f2 rx2 bx2 rn2 rc2 bn2 bc2 W2 HW2.out (by rfl) HVV2.out ?_)
          refine (Ln.pnext_some T6.out.b T6.out.env A5.out.gt ev L (by rw [← A5.out.go]; exact HNE.out)).mono ?_
          rintro e u3 ⟨k3, t3, f3, rx3, rn3, rc3, bx3, bn3, bc3, s7, G7, E7, rfl, hEv7, _, _, hgo7, gd7, _, _, _, hV7, hK7, hM7⟩
          obtain ⟨W3, V3, HW3, HVV3, hk3, hA3⟩ := Ln.laid_ev u3 k3 t3 f3 rx3 bx3 rn3 rc3 bn3 bc3
          have T7 := Lib.hid ((T6.out.right hV7 hK7 hM7).quiet hk3)
          have A7 : Hid (Ln.Alike w W3 g h F6 G7 s6 s7) := Lib.hid ⟨T7.out, HGD6.out, gd7, by rw [HG6.out, hgo7, A5.out.go], by rw [HG6.out]; exact A5.out.ro.pop⟩
          obtain ⟨q0, q1, q2, q3, q4, q5, q6, q7⟩ := ((HA2.out.keep hK7 (fun e => HNE2.out _ e rfl)).keep hk3 (fun h => h)).eight
          obtain ⟨p0, p1, p2, p3, p4, p5, p6, p7⟩ := hA3.eight
          have HS := Lib.hid (Ln.same_ev ((A5.out.two.ev HME6.out HEv6.out hK7).keepW hk3 (fun b _ hb => ⟨fun h => h, hb⟩)) (hEv7.keepW hk3 (fun b _ hb => ⟨fun h => h, hb⟩)) (Ln.ro_ev A5.out.ro HNE.out))
          rw [← HVV3.out]
          clear hEv7 hgo7 gd7 hV7 hK7 hM7 hk3 hA3 T6 HEv6 HA2
          go_wp2_with (refine Ln.step_laidE (by rfl) (.tmp 12) (.tmp 72) (by rfl) u3 (by rfl) k3 t3 f3 rx3 bx3 rn3 rc3 bn3 bc3 W3 HW3.out (by rfl) HVV3.out ?_)
          refine HS.out.mono ?_
          rintro e u4 ⟨rfl, hk4⟩
          have A8 : Hid (Ln.Alike w u4 g h F6 G7 s6 s7) := Lib.hid ⟨A7.out.two.quiet hk4, A7.out.gs, A7.out.gt, A7.out.go, A7.out.ro⟩
          clear hk4 q0 q1 q2 q3 q4 q5 q6 q7 p0 p1 p2 p3 p4 p5 p6 p7
          go_wp2
          go_roundw
          case rel => exact ⟨F6, G7, s6, s7, A8.out⟩
          case measure => rw [A8.out.mu, A5.out.mu]; exact HMU6.out
        | nil =>
          have HNE := Lib.hid hn
          clear hn
          go_wp2_with fail
          refine (Ln.pnext_none A5.out.two.a A5.out.two.env A5.out.gs HNE.out).mono ?_
          rintro e u2 ⟨he, F6, hV6, hK6, hM6⟩
          obtain ⟨W2, V2, HW2, HVV2, hk2, hA2⟩ := Ln.laid_ev u2 0 Ln.nobody Ln.nobody none none 0 0 0 0
          rw [Ln.zev_is, ← HVV2.out] at he
          subst he
          have T6 := Lib.hid ((A5.out.two.left hV6 hK6 hM6).quiet hk2)
          have hne : ∀ k, G5 k → k ≠ u2.heap.size := fun k hk => by have h1 := A5.out.two.b.lt k hk; have h2 := hK6.size; omega
          have HNE2 := Lib.hid hne
          have HA2 := Lib.hid hA2
          clear hne hV6 hK6 hM6 hk2 hA2
          go_wp2_with (refine Ln.step_laidE (by rfl) (.tmp 10) (.tmp 67) (by rfl) u2 (by rfl) 0 Ln.nobody Ln.nobody none none 0 0 0 0 W2 HW2.out (by rfl) HVV2.out ?_)
          refine (Ln.pnext_none T6.out.b T6.out.env A5.out.gt (by rw [← A5.out.go]; exact HNE.out)).mono ?_
          rintro e u3 ⟨he, G7, hV7, hK7, hM7⟩
          obtain ⟨W3, V3, HW3, HVV3, hk3, hA3⟩ := Ln.laid_ev u3 0 Ln.nobody Ln.nobody none none 0 0 0 0
          rw [Ln.zev_is, ← HVV3.out] at he
          subst he
          have T7 := Lib.hid ((T6.out.right hV7 hK7 hM7).quiet hk3)
          obtain ⟨q0, q1, q2, q3, q4, q5, q6, q7⟩ := ((HA2.out.keep hK7 (fun e => HNE2.out _ e rfl)).keep hk3 (fun h => h)).eight
          obtain ⟨p0, p1, p2, p3, p4, p5, p6, p7⟩ := hA3.eight
          clear hV7 hK7 hM7 hk3 hA3 T6 HA2
          go_wp2_with (refine Ln.step_laidE (by rfl) (.tmp 12) (.tmp 72) (by rfl) u3 (by rfl) 0 Ln.nobody Ln.nobody none none 0 0 0 0 W3 HW3.out (by rfl) HVV3.out ?_)
          refine (Ln.same_none _).mono ?_
          rintro e u4 ⟨rfl, hk4⟩
          have T8 := Lib.hid (T7.out.quiet hk4)
          clear hk4 q0 q1 q2 q3 q4 q5 q6 q7 p0 p1 p2 p3 p4 p5 p6 p7 T7
          go_wp2_with fail
          refine (Ln.panswer T8.out.a T8.out.env HNE.out 250 (by decide)).mono ?_
          rintro e u5 ⟨he, F9, hV9, hK9, hM9⟩
          have T9 := Lib.hid (T8.out.left hV9 hK9 hM9)
          clear hV9 hK9 hM9 T8
          by_cases hok : Ln.ansOk (s5.go Ln.V9) 250 = true
          · rw [hok] at he
            subst he
            go_wp2_with fail
            refine (Ln.panswer T9.out.b T9.out.env (by rw [← A5.out.go]; exact HNE.out) 250 (by decide)).mono ?_
            rintro e u6 ⟨he, G10, hV10, hK10, hM10⟩
            have A10 := Lib.hid (A5.out.answered HNE.out 250 (T9.out.right hV10 hK10 hM10))
            rw [← A5.out.go, hok] at he
            subst he
            clear hV10 hK10 hM10 T9
            have HOK := Lib.hid hok
            clear hok
            go_wp2
            go_roundw
            case rel => exact ⟨F9, G10, _, _, A10.out⟩
            case measure => rw [A10.out.mu, A5.out.mu]; exact Nat.lt_of_lt_of_le (Ln.mu_answer HOK.out) (Ln.mu_go A5.out.gs HNE.out)
          · rw [Bool.not_eq_true] at hok
            rw [hok] at he
            subst he
            have HOK := Lib.hid hok
            clear hok
            go_wp2_with fail
            refine (HA.out _ T9.out.env T9.out.sz).mono ?_
            rintro e u6 ⟨rfl, hk6⟩
            have T10 := Lib.hid (T9.out.quiet hk6)
            clear hk6 T9
            go_wp2_with fail
            refine (Ln.panswer T10.out.b T10.out.env (by rw [← A5.out.go]; exact HNE.out) 250 (by decide)).mono ?_
            rintro e u7 ⟨he, G11, hV11, hK11, hM11⟩
            have T11 := Lib.hid (T10.out.right hV11 hK11 hM11)
            rw [← A5.out.go, HOK.out] at he
            subst he
            clear hV11 hK11 hM11 T10
            go_wp2
            go_ret
            exact ⟨rfl, T11.out.kp.below (Nat.le_refl _) (fun _ h => h.elim)⟩

/-! ### The row's step -/
theorem met (os : Os) : laidMetH Tryz.prog Rows.servePartsRow.laid ((World.laidAll Tryz.prog os Rows.servePartsRow.laid).forCall (fun _ _ => 0) ⟨#[], #[.string { data := #[] }, .slice none 0 0], []⟩).memory := by
  rw [MakeChecks.laidMetH_plain _ _ _ (by kernel_rfl)]; exact laidMet_laidAll _ (by kernel_rfl) (by kernel_rfl)
theorem reads (os : Os) {H : Type} (enc : TypeId × Value → H) : ∃ places, DataW.whole enc Tryz.prog ((World.laidAll Tryz.prog os Rows.servePartsRow.laid).forCall (fun _ _ => 0) ⟨#[], #[.string { data := #[] }, .slice none 0 0], []⟩).memory Tryz.f5.params.toList Rows.servePartsSpec.vars false (#[.string { data := #[] }, .slice none 0 0] : Array Value).toList 8 = some ([.lit (.string []), .nil], [], places) :=
  ⟨[], by kernel_rfl⟩
set_option maxRecDepth 100000 in
theorem fits (os : Os) {H : Type} (enc : TypeId × Value → H) : ∃ (w : World) (tape : Tape) (i : Input), w.os = os ∧ (w.forCall tape i).Shaped Tryz.checked.prog ∧ i.vars = [] ∧ Input.okWide Tryz.checked.prog (w.forCall tape i) .any w.heap.size 5 i ∧
    (OpenSpec.ofChange Rows.servePartsSpec).preRow enc Tryz.checked.prog Tryz.f5 Rows.servePartsRow.domain false Rows.servePartsRow.laid (w.forCall tape i).memory i.args ∧ ({} : Assume).holds Tryz.checked.prog (lone (Frame.enter Tryz.checked.prog 5 i.args .normal) [] (w.forCall tape i)) := by
  obtain ⟨places, hx⟩ := reads os enc
  have hok : Input.okWideB Tryz.checked.prog ((World.laidAll Tryz.prog os Rows.servePartsRow.laid).forCall (fun _ _ => 0) ⟨#[], #[.string { data := #[] }, .slice none 0 0], []⟩) 5 ⟨#[], #[.string { data := #[] }, .slice none 0 0], []⟩ = true := by kernel_rfl
  exact ⟨(World.laidAll Tryz.prog os Rows.servePartsRow.laid), fun _ _ => 0, ⟨#[], #[.string { data := #[] }, .slice none 0 0], []⟩, World.laidAll_os _ _ _, World.shaped_of_ZipB (by kernel_rfl) (by kernel_rfl), (Input.okWide_of_okWideB (base := 0) hok).1, (Input.okWide_of_okWideB hok).2,
    OpenSpec.preRow_of_cond 8 hx (by kernel_rfl) (fun k hk => by cases hk) (by kernel_rfl) (met os), by
      simp only [Assume.holds]
      exact ⟨by simp, by simp, fun _ => Modest.zero, by simp, by simp⟩⟩

set_option maxRecDepth 100000 in
theorem lifted (os : Os) (started : os.Started) (H : Type) (enc : TypeId × Value → H) (F : Stop.Interp) :
    ReturnsInHanded {} Tryz.checked os 5 .any ((OpenSpec.ofChange Rows.servePartsSpec).preRow enc Tryz.prog Tryz.f5 Rows.servePartsRow.domain false Rows.servePartsRow.laid) (((OpenSpec.ofChange Rows.servePartsSpec).at F).post enc Tryz.prog Tryz.f5 false true false false) := by
  refine returnsInHanded_of_row (C := Tryz.checked) (s := OpenSpec.ofChange Rows.servePartsSpec) own started (by kernel_rfl) Tryz.func5 (fits os enc) ?_
  intro W base args ds gs before hval0 hW0 _ hcond hsz hL shape _
  show Calls Tryz.prog 5 args W fun e W' => ∃ v, e = .returned v ∧ Rows.servePartsSpec.post enc Tryz.prog Tryz.f5 false true false false W args v W'
  have hval : ∀ (j : Nat) t v, Tryz.f5.params[j]? = some t → args[j]? = some v → Value.okWide Tryz.prog W .any base t v := hval0
  have hW : DataW.Whole enc Tryz.prog Tryz.f5.params.toList Rows.servePartsSpec.vars false W args.toList ds gs before := hW0
  have hW' := hW
  obtain ⟨p, q, hA0, hV, rfl, hfz, hnd⟩ := hW
  have hA : DataW.TrodAll enc Tryz.prog W 0 (fun _ => true) true Tryz.f5.params.toList args.toList ds p := hA0
  rw [Tryz.params5] at hA hval
  obtain ⟨v0, vs0, d0, ds0, p0, q0, hargs, rfl, rfl, h0, r0⟩ := trodAll_cons hA
  obtain ⟨v1, vs1, d1, ds1, p1, q1, rfl, rfl, rfl, h1, r1⟩ := trodAll_cons r0
  obtain ⟨rfl, rfl, rfl⟩ := trodAll_nil r1
  obtain rfl : args = #[v0, v1] := by cases args; simp_all
  obtain ⟨rfl, rfl⟩ := trodVars_none hV
  obtain ⟨a0, rfl, rfl, rfl, w0⟩ := ChangeMaps.open_string Tryz.underlying9 (hval 0 9 v0 rfl rfl) h0
  obtain ⟨a1, len1, cap1, rfl⟩ := okWide_slice Tryz.underlying34 (hval 1 34 v1 rfl rfl)
  have k1 := h1
  have lt1 : ∀ x ∈ p1, x.block < W.heap.size := by obtain ⟨m, hm⟩ := k1; exact DataW.trod_lt m _ _ _ hm
  obtain ⟨b1, x1, c1, e1, l1, _, B1, mm1⟩ : ∃ a L cap, Value.slice a1 len1 cap1 = .slice a L.length cap ∧ L.length ≤ cap ∧ cap ≤ 9223372036854775807 ∧ Ln.Bytes (fun k => k < W.heap.size) W a L ∧ ((∀ n ∈ d1.weights Tryz.prog 34, n ≤ reachBytes) → cap ≤ 140737488351232) := by
    obtain ⟨fuel, hf⟩ := h1
    exact Ln.arg_bytesZ hf
  have m1 := mm1 (fun n hn => by
    have := List.all_eq_true.1 hsz n (DataW.weights_mem_each (j := 1) rfl rfl n hn)
    simpa using this)
  injection e1 with e1 f1 g1
  subst e1 f1 g1
  have m0 : a0.size ≤ 140737488351232 := by have h := sized_string hsz (j := 0) (t := 9) (bytes := a0.data.toList) rfl rfl; rw [Array.length_toList] at h; exact h
  obtain ⟨hE, h9⟩ := Ln.env9 W hL shape
  clear hA0 hval0
  refine (walk a0 a1 x1 cap1 W m0 l1 m1 B1 hE h9).mono fun e W' ⟨he, bel⟩ => ?_
  subst he
  exact ⟨_, rfl, _, _, _, [], _, [], hW', trodAll_mk1 (shut_bool Tryz.underlying4 _), (trodAll_cons_mk (ChangeMaps.shut_string Tryz.underlying9 w0) (trodAll_cons_mk (Below.trod (by kernel_rfl) (by kernel_rfl) (of_decide_eq_true (by kernel_rfl)) k1 bel lt1) trodAll_mk0)), rfl, bel.frame _, fun h => by cases h⟩

theorem over : Rows.ServePartsSaid :=
  OpenClaim.holds_of_cond 5 Tryz.f5 rfl rfl rfl rfl rfl rfl rfl ⟨rfl, rfl, rfl, rfl, rfl⟩ rfl rfl rfl rfl rfl (by kernel_rfl) Tryz.func5 (by kernel_rfl)
    (of_decide_eq_true (by kernel_rfl)) (by unfold Func.isWrapper; first | (rw [if_pos (by decide +kernel)]; kernel_rfl) | (rw [if_neg (by decide +kernel)]; exact ⟨rfl, rfl⟩))
    (fun os started H enc _ F => by rw [OpenClaim.pre_eq_preRow]; exact lifted os started H enc F)

theorem plain (f : FuncId) (fn : Func) (hf : Tryz.pinned.checked.prog.funcNamed "pillarbox/pillarboxlaw09.ServeParts" = some f) (hfn : Tryz.pinned.checked.prog.funcs[f]? = some fn) :
    true = Tryz.pinned.checked.prog.looks [] ∧ ∀ (j : Nat) t, fn.params[j]? = some t → Tryz.pinned.checked.prog.wantsStandIn t = false := by
  obtain rfl : f = 5 := Option.some.inj ((show Tryz.prog.funcNamed "pillarbox/pillarboxlaw09.ServeParts" = some 5 by kernel_rfl).symm.trans hf) |>.symm
  obtain rfl : fn = Tryz.f5 := (Option.some.inj (Tryz.func5.symm.trans hfn)).symm
  refine ⟨by kernel_rfl, fun j t ht => ?_⟩
  rw [Tryz.params5] at ht
  have hm : t ∈ [9, 34] := by simpa using Array.mem_of_getElem? ht
  have hall : ([9, 34].all fun u => !Tryz.prog.wantsStandIn u) = true := by kernel_rfl
  exact (show Tryz.prog.wantsStandIn t = false by simpa using List.all_eq_true.1 hall t hm)

/-- The statement: the tied card. -/
theorem proved : Rows.ServePartsCardSaid :=
  Claim7.holds_tied_plain_at .later [] _ _ _ _ over (fun _ h => by cases h) (by kernel_rfl) (fun _ h => by cases h) serveParts_row_tie rfl ⟨rfl, rfl⟩ (by kernel_rfl) rfl plain (by kernel_rfl)
#print axioms proved
end Go.Proofs.YtcjljldknekhiaaGreatDoor.serveParts
