/-
  Proved here: for every number and every 'dotted': what is too long gets a reply of 500, and what stands behind it is done (the card: for every value of the library's MaxLen, its listed tables as its text lays them).
-/
import Derived.Test.YtcjljldknekhiaaGreatDoorRows
import Derived.Test.YtcjljldknekhiaaGreatDoorCards
import Derived.Test.YtcjljldknekhiaaGreatDoorTie
import Derived.Test.YtcjljldknekhiaaGreatDoorKQg
import Derived.Lib.Hide
import Derived.WalkKit
import Derived.ProofKit
import Derived.OpenShut
import Derived.ShutString
import Derived.ChangeOld
import Derived.Below
import Derived.Lay
import Derived.SevenTiedAt
import Derived.Stop.Joined
import Derived.Deep.DeepHandedRow
namespace Go.Proofs.YtcjljldknekhiaaGreatDoor.serveLong
open Go.ChangeShapes Go.WideShapes Go.ChangeAt Go.RowKit
set_option linter.unusedVariables false

theorem own : ownKnob Tryz.prog.godebug = none := by kernel_rfl

/-! ### The walk -/
set_option maxHeartbeats 4000000 in
set_option maxRecDepth 100000 in
theorem walk (a0 : Int) (a1 : Bool) (w : World) (w0 : (Lit.int .u16 a0).wf = true) (hE : Ln.Env w) (h9 : 9 ≤ w.heap.size) :
    Calls Tryz.prog 6 #[.int .u16 a0, .bool a1] w fun e w' => e = .returned (.bool true) ∧ Below w.heap.size w w' := by
  have HA := Lib.hid (fun W e k => Ln.answersC W e k)
  have HE := Lib.hid hE
  clear hE
  have b0 := bounds_u16 w0
  obtain ⟨k, hk⟩ : ∃ k, a0 % 3 - 1 = k := ⟨_, rfl⟩
  have hk3 : k = -1 ∨ k = 0 ∨ k = 1 := by omega
  have HK3 := Lib.hid hk3
  have hkl : -1 ≤ k := by omega
  have hkh : k ≤ 1 := by omega
  clear hk3
  have hmk := Ln.make_xs w
  have X0 := Lib.hid (Ln.Xs.start w)
  have KX := Lib.hid ((Ln.Keep.refl (fun _ => False) w).alloc (.cells (madeCells #[.int .u8 0] 2000) 5))
  obtain ⟨wm, hwm⟩ : ∃ wm, wm = w.alloc (.cells (madeCells #[.int .u8 0] 2000) 5) := ⟨_, rfl⟩
  rw [← hwm] at hmk X0 KX
  clear hwm
  go_enter Tryz.func6, Tryz.ntmps6
  go_wp2
  go_loopw [7] (fun i wr => ∃ I : Nat, I ≤ 2000 ∧ i = .int .i64 (I : Int) ∧ Hid (Ln.Xs wr w.heap.size I) ∧ Hid (Ln.Keep (fun _ => False) w wr)) (fun i _ => 2000 - (intOf i).toNat)
  case atStart => exact ⟨0, by omega, rfl, X0.out, KX.out⟩
  case round =>
    obtain ⟨I, hI, rfl, X, K⟩ := hrel
    by_cases hlt : (I : Int) < 2000
    · have hIn : I < 2000 := by omega
      obtain ⟨⟨v, c1⟩, f1⟩ := X.out.at hIn
      have X2 := Lib.hid (X.out.put hIn)
      have K2 := Lib.hid (K.out.setCell (p := ⟨w.heap.size, I, none⟩) (fun h => absurd h (Nat.lt_irrefl _)) (.int .u8 120))
      go_wp2
      go_roundw
      case rel => exact ⟨I + 1, by omega, by go_num, X2.out, K2.out⟩
      case measure => simp [intOf]; omega
    · have e : I = 2000 := by omega
      subst e
      have HE0 := Lib.hid (HE.out.quiet K.out)
      have h90 := Lib.hid (Nat.le_trans h9 K.out.size)
      have hxb := X.out.lt
      have HN1 := Lib.hid (Ln.pnew { data := #[109, 120] } (by decide) 1500 (by decide) wr HE0.out h90.out)
      rw [Ln.host_mx] at HN1
      clear X0 KX HE h9 hmk
      go_wp2_with fail
      refine HN1.out.mono ?_
      rintro e w1 ⟨g, F1, rfl, hV1, hK1, hF1⟩
      have O1 : Hid (Ln.One wr w1 g F1 (Ln.Se.new { data := #[109, 120] } 1500)) := Lib.hid ⟨hV1, HE0.out.quiet hK1, hK1, hF1, h90.out⟩
      clear hV1 hK1 hF1 HN1
      have hgn : (Ln.Se.new { data := #[109, 120] } 1500).go Ln.V9 = Ln.Se.new { data := #[109, 120] } 1500 := Ln.go_none rfl
      have HGN := Lib.hid hgn
      clear hgn
      go_wp2_with fail
      refine (Ln.pnext_some O1.out.a O1.out.env (Ln.Gd.new _ _ (by decide)) (.say (Ln.hello { data := #[109, 120] })) [] (by rw [HGN.out]; rfl)).mono ?_
      rintro e w2 ⟨_, _, _, _, _, _, _, _, _, s2, F2, _, rfl, _, _, _, hgo2, gd2, _, hwl2, _, hV2, hK2, hM2⟩
      have O2 := Lib.hid (O1.out.next hV2 hK2 hM2)
      have HG2 : Hid (s2.go Ln.V9 = (Ln.Se.new { data := #[109, 120] } 1500).pop) := Lib.hid (by rw [hgo2, HGN.out])
      have HGD2 := Lib.hid gd2
      have HWL2 : Hid (s2.wait.length = 0) := Lib.hid (Nat.le_zero.1 hwl2)
      have X2 := Lib.hid (X.out.keep O2.out.kp (fun h => h))
      clear hgo2 gd2 hwl2 hV2 hK2 hM2 O1 X
      obtain ⟨n1, hn1⟩ : ∃ n1 : Nat, 507 + k = (n1 : Int) := ⟨(507 + k).toNat, by omega⟩
      obtain ⟨n2, hn2⟩ : ∃ n2 : Nat, 1000 + k = (n2 : Int) := ⟨(1000 + k).toNat, by omega⟩
      obtain ⟨n3, hn3⟩ : ∃ n3 : Nat, 999 + k = (n3 : Int) := ⟨(999 + k).toNat, by omega⟩
      obtain ⟨p1, q1⟩ := Ln.cut_pre (some ⟨w.heap.size, 0, none⟩) 2000 2000 n1 (by omega)
      have kx1 := Ln.xs_str X2.out n1 (by omega)
      obtain ⟨S1, hS1⟩ : ∃ S1, S1 = Ln.str (Ln.xs n1) := ⟨_, rfl⟩
      have z1 : S1.size = n1 := by rw [hS1, Ln.xs_str_size]
      rw [← hS1] at kx1
      obtain ⟨c3, w3, kc3, hB3, hK3⟩ := Ln.conv_str (({ data := #[78, 79, 79, 80, 32] } ++ S1) ++ { data := #[13, 10, 72, 69, 76, 79, 32, 97, 13, 10, 77, 65, 73, 76, 32, 70, 82, 79, 77, 58, 60, 97, 64, 98, 62, 13, 10, 82, 67, 80, 84, 32, 84, 79, 58, 60, 97, 64, 98, 62, 13, 10, 68, 65, 84, 65, 13, 10] }) w2
      rw [hS1, show n1 = (507 + k).toNat by omega, Ln.fedA_is k] at hB3
      have HB3 := Lib.hid hB3
      have HZ1 : Hid ((({ data := #[78, 79, 79, 80, 32] } ++ S1) ++ { data := #[13, 10, 72, 69, 76, 79, 32, 97, 13, 10, 77, 65, 73, 76, 32, 70, 82, 79, 77, 58, 60, 97, 64, 98, 62, 13, 10, 82, 67, 80, 84, 32, 84, 79, 58, 60, 97, 64, 98, 62, 13, 10, 68, 65, 84, 65, 13, 10] } : ByteArray).size = (Ln.fedA k).length) := Lib.hid (by rw [← Ln.fedA_is k, Ln.ns_length, hS1, show n1 = (507 + k).toNat by omega])
      have O3 := Lib.hid (O2.out.quiet hK3)
      have X3 := Lib.hid (X2.out.keep hK3 (fun h => h))
      clear hB3 hK3 O2 X2 hS1
      go_wp2_with fail
      refine (Ln.pfeed O3.out.a O3.out.env (some ⟨w2.heap.size, 0, none⟩) _ c3 (Ln.fedA k) (by rw [Ln.fedA_length]; omega) HB3.out (by have := HWL2.out; omega)).mono ?_
      rintro e w4 ⟨rfl, F4, hV4, hK4, hM4⟩
      have O4 := Lib.hid (O3.out.next (s' := s2.fed (Ln.fedA k)) hV4 hK4 hM4)
      have X4 := Lib.hid (X3.out.keep hK4 (fun h => by have := O3.out.fa _ h; omega))
      clear hV4 hK4 hM4 O3 X3 HB3 HZ1 kc3 kx1
      obtain ⟨p2, q2⟩ := Ln.cut_pre (some ⟨w.heap.size, 0, none⟩) 2000 2000 n2 (by omega)
      have kx2 := Ln.xs_str X4.out n2 (by omega)
      obtain ⟨S2, hS2⟩ : ∃ S2, S2 = Ln.str (Ln.xs n2) := ⟨_, rfl⟩
      have z2 : S2.size = n2 := by rw [hS2, Ln.xs_str_size]
      rw [← hS2] at kx2
      obtain ⟨p4, q4⟩ := Ln.cut_pre (some ⟨w.heap.size, 0, none⟩) 2000 2000 490 (by omega)
      have kx4 := Ln.xs_str X4.out 490 (by omega)
      obtain ⟨S4, hS4⟩ : ∃ S4, S4 = Ln.str (Ln.xs 490) := ⟨_, rfl⟩
      have z4 : S4.size = 490 := by rw [hS4, Ln.xs_str_size]
      rw [← hS4] at kx4
      by_cases hk0 : 0 < k
      · cases a1
        · have hnT : Ln.ns S2 = Ln.txtOf k false := by rw [hS2, show n2 = (1000 + k).toNat by omega]; exact Ln.txt_plain k
          obtain ⟨c5, w5, kc5, hB5, hK5⟩ := Ln.conv_str (((S2 ++ { data := #[13, 10] }) ++ S4) ++ { data := #[13, 10, 46, 13, 10] }) w4
          rw [hS4, Ln.fedB_is k false _ hnT] at hB5
          have HB5 := Lib.hid hB5
          have HL5 : Hid ((Ln.fedB k false).length = n2 + 2 + 490 + 5) := Lib.hid (by rw [Ln.fedB_length, ← hnT, Ln.ns_length]; rw [z2])
          have O5 := Lib.hid (O4.out.quiet hK5)
          clear hB5 hK5 O4 X4 hS2 hS4 hnT
          go_wp2_with fail
          refine (Ln.pfeed O5.out.a O5.out.env (some ⟨w4.heap.size, 0, none⟩) _ c5 (Ln.fedB k false) HL5.out HB5.out (by have h1 := HWL2.out; have h2 := Ln.fedA_len k hkh; show (s2.wait ++ Ln.fedA k).length + _ ≤ _; rw [List.length_append]; omega)).mono ?_
          rintro e w6 ⟨rfl, F6, hV6, hK6, hM6⟩
          have O6 := Lib.hid (O5.out.next (s' := (s2.fed (Ln.fedA k)).fed (Ln.fedB k false)) hV6 hK6 hM6)
          clear hV6 hK6 hM6 O5 HB5 kc5 kx2 kx4 p1 q1 p2 q2 p4 q4
          have HG6 := Lib.hid (Ln.long_fed (d := false) HK3.out HG2.out)
          have HGD6 : Hid (Ln.Gd ((s2.fed (Ln.fedA k)).fed (Ln.fedB k false))) := Lib.hid (by
            have h1 := HWL2.out; have h2 := Ln.fedA_len k hkh; have h3 := Ln.fedB_len k false hkh
            exact (HGD2.out.fed _ (by omega)).fed _ (by show (s2.wait ++ Ln.fedA k).length + _ ≤ _; rw [List.length_append]; omega))
          have L0 : Hid (Ln.Long wr (w6.alloc (.cells #[.string { data := #[53, 48, 48] }, .string { data := #[50, 53, 48] }, .string { data := #[50, 53, 48] }, .string { data := #[50, 53, 48] }, .string { data := #[51, 53, 52] }] 9)) g w6.heap.size F6 k false 0 ((s2.fed (Ln.fedA k)).fed (Ln.fedB k false))) := Lib.hid (by
            refine ⟨O6.out.quiet ((Ln.Keep.refl (fun _ => False) w6).alloc _), HGD6.out, HG6.out, ?_, fun i hi => by have := O6.out.a.lt i hi; omega⟩
            have hf : Ln.first k = { data := #[53, 48, 48] } := by unfold Ln.first; rw [if_pos hk0]; rfl
            unfold Ln.wants
            rw [hf]
            exact Ln.At.new w6 9 _)
          have HLAST : Hid ((Ln.Rr k false 5).out = [(.say (Ln.reply 500))]) := Lib.hid (by rw [Ln.Rr_last, Ln.lastOf, if_pos hk0])
          clear O6 HG6 HGD6 HG2 HGD2 HWL2
          go_wp2
          go_loopw [13] (fun i wx => ∃ I : Nat, I ≤ 5 ∧ i = .int .i64 (I : Int) ∧ ∃ F s, Hid (Ln.Long wr wx g w6.heap.size F k false I s)) (fun i _ => 5 - (intOf i).toNat)
          case atStart => exact ⟨0, by omega, rfl, _, _, L0.out⟩
          case round =>
            obtain ⟨I, hI, rfl, F7, s7, L1⟩ := hrel
            by_cases hlt : (I : Int) < 5
            · have hIn : I < 5 := by omega
              obtain ⟨t, v, L, ho, hpop, hv, h3, h4, hex⟩ := Ln.first_says k false I hIn
              have HO := Lib.hid ho
              have HPOP := Lib.hid hpop
              have HV := Lib.hid hv
              have HEX := Lib.hid hex
              clear ho hpop hv hex
              go_wp2_with fail
              refine (Ln.pnext_some L1.out.one.a L1.out.one.env L1.out.gd (.say t) L (by rw [L1.out.go]; exact HO.out)).mono ?_
              rintro e u2 ⟨k2, t2, f2, rx2, rn2, rc2, bx2, bn2, bc2, s8, F8, _, rfl, hEv8, _, _, hgo8, gd8, _, _, _, hV8, hK8, hM8⟩
              obtain ⟨rfl, rfl⟩ := Ln.say_is hEv8
              obtain ⟨W2, V2, HW2, HVV2, hk2, hA2⟩ := Ln.laid_ev u2 1 t2 f2 rx2 bx2 rn2 rc2 bn2 bc2
              have L2 := Lib.hid ((L1.out.next (J := I + 1) hV8 hK8 hM8 gd8 (by rw [hgo8, L1.out.go, HPOP.out])).quiet hk2)
              have q1 : W2.cell? ⟨u2.heap.size, 1, none⟩ = some (.string t2) := hA2.cell 1
              have q2 : W2.cell? ⟨w6.heap.size, I, none⟩ = some (.string v) := L2.out.want HV.out
              have hb1 : decide (((t2.size : Nat) : Int) < 3) = false := by rw [decide_eq_false_iff_not]; omega
              rw [← HEX.out] at q2
              rw [← HVV2.out]
              clear hEv8 hgo8 gd8 hV8 hK8 hM8 hk2 hA2 HO HPOP
              go_wp2_with (refine Ln.step_laidE (by rfl) (.tmp 14) (.tmp 79) (by rfl) u2 (by rfl) 1 t2 f2 rx2 bx2 rn2 rc2 bn2 bc2 W2 HW2.out (by rfl) HVV2.out ?_)
              go_quiet (fail)
              go_wp2
              go_roundw
              case rel => exact ⟨I + 1, by omega, by go_num, F8, s8, L2.out.quiet ((Ln.Keep.refl (fun _ => False) _).drewN _)⟩
              case measure => simp [intOf]; omega
            · have e5 : I = 5 := by omega
              subst e5
              have L2 := L1
              clear L1
              go_wp2_with fail
              refine (Ln.pnext_some L2.out.one.a L2.out.one.env L2.out.gd (.say (Ln.reply 500)) [] (by rw [L2.out.go]; exact HLAST.out)).mono ?_
              rintro e u9 ⟨k9, t9, f9, rx9, rn9, rc9, bx9, bn9, bc9, s9, F9, _, rfl, hEv9, _, _, _, _, _, _, _, hV9, hK9, hM9⟩
              obtain ⟨rfl, rfl⟩ := Ln.say_is hEv9
              rw [Ln.reply500] at hEv9
              obtain ⟨W9, V9, HW9, HVV9, hk9, hA9⟩ := Ln.laid_ev u9 1 (Ln.reply 500) f9 rx9 bx9 rn9 rc9 bn9 bc9
              have O9 := Lib.hid ((L2.out.one.next hV9 hK9 hM9).quiet hk9)
              have HA9 := Lib.hid hA9
              rw [← HVV9.out]
              clear hEv9 hV9 hK9 hM9 hk9 hA9 L2
              go_wp2_with (refine Ln.step_laidE (by rfl) (.tmp 16) (.tmp 102) (by rfl) u9 (by rfl) 1 (Ln.reply 500) f9 rx9 bx9 rn9 rc9 bn9 bc9 W9 HW9.out (by rfl) HVV9.out ?_)
              refine (HA.out _ O9.out.env O9.out.sz).mono ?_
              rintro e u10 ⟨rfl, hk10⟩
              have O10 := Lib.hid (O9.out.quiet hk10)
              have r1 : u10.cell? ⟨u9.heap.size, 1, none⟩ = some (.string (Ln.reply 500)) := (HA9.out.keep hk10 (fun h => h)).cell 1
              rw [Ln.reply500] at r1
              clear hk10 O9 HA9
              go_wp2
              go_ret
              exact ⟨rfl, (K.out.trans O10.out.kp (fun _ _ h => h)).below (Nat.le_refl _) (fun _ h => h.elim)⟩
        · obtain ⟨p3, q3⟩ := Ln.cut_pre (some ⟨w.heap.size, 0, none⟩) 2000 2000 n3 (by omega)
          have kx3 := Ln.xs_str X4.out n3 (by omega)
          obtain ⟨S3, hS3⟩ : ∃ S3, S3 = Ln.str (Ln.xs n3) := ⟨_, rfl⟩
          have z3 : S3.size = n3 := by rw [hS3, Ln.xs_str_size]
          rw [← hS3] at kx3
          have hnT : Ln.ns ({ data := #[46] } ++ S3) = Ln.txtOf k true := by rw [hS3, show n3 = (999 + k).toNat by omega]; exact Ln.txt_dot k
          obtain ⟨c5, w5, kc5, hB5, hK5⟩ := Ln.conv_str (((({ data := #[46] } ++ S3) ++ { data := #[13, 10] }) ++ S4) ++ { data := #[13, 10, 46, 13, 10] }) w4
          rw [hS4, Ln.fedB_is k true _ hnT] at hB5
          have HB5 := Lib.hid hB5
          have HL5 : Hid ((Ln.fedB k true).length = 1 + n3 + 2 + 490 + 5) := Lib.hid (by rw [Ln.fedB_length, ← hnT, Ln.ns_length]; simp [z3]; rfl)
          have O5 := Lib.hid (O4.out.quiet hK5)
          clear hB5 hK5 O4 X4 hS2 hS4 hS3 hnT
          go_wp2_with fail
          refine (Ln.pfeed O5.out.a O5.out.env (some ⟨w4.heap.size, 0, none⟩) _ c5 (Ln.fedB k true) HL5.out HB5.out (by have h1 := HWL2.out; have h2 := Ln.fedA_len k hkh; show (s2.wait ++ Ln.fedA k).length + _ ≤ _; rw [List.length_append]; omega)).mono ?_
          rintro e w6 ⟨rfl, F6, hV6, hK6, hM6⟩
          have O6 := Lib.hid (O5.out.next (s' := (s2.fed (Ln.fedA k)).fed (Ln.fedB k true)) hV6 hK6 hM6)
          clear hV6 hK6 hM6 O5 HB5 kc5 kx2 kx4 p1 q1 p2 q2 p4 q4 kx3 p3 q3
          have HG6 := Lib.hid (Ln.long_fed (d := true) HK3.out HG2.out)
          have HGD6 : Hid (Ln.Gd ((s2.fed (Ln.fedA k)).fed (Ln.fedB k true))) := Lib.hid (by
            have h1 := HWL2.out; have h2 := Ln.fedA_len k hkh; have h3 := Ln.fedB_len k true hkh
            exact (HGD2.out.fed _ (by omega)).fed _ (by show (s2.wait ++ Ln.fedA k).length + _ ≤ _; rw [List.length_append]; omega))
          have L0 : Hid (Ln.Long wr (w6.alloc (.cells #[.string { data := #[53, 48, 48] }, .string { data := #[50, 53, 48] }, .string { data := #[50, 53, 48] }, .string { data := #[50, 53, 48] }, .string { data := #[51, 53, 52] }] 9)) g w6.heap.size F6 k true 0 ((s2.fed (Ln.fedA k)).fed (Ln.fedB k true))) := Lib.hid (by
            refine ⟨O6.out.quiet ((Ln.Keep.refl (fun _ => False) w6).alloc _), HGD6.out, HG6.out, ?_, fun i hi => by have := O6.out.a.lt i hi; omega⟩
            have hf : Ln.first k = { data := #[53, 48, 48] } := by unfold Ln.first; rw [if_pos hk0]; rfl
            unfold Ln.wants
            rw [hf]
            exact Ln.At.new w6 9 _)
          have HLAST : Hid ((Ln.Rr k true 5).out = [(.say (Ln.reply 500))]) := Lib.hid (by rw [Ln.Rr_last, Ln.lastOf, if_pos hk0])
          clear O6 HG6 HGD6 HG2 HGD2 HWL2
          go_wp2
          go_loopw [13] (fun i wx => ∃ I : Nat, I ≤ 5 ∧ i = .int .i64 (I : Int) ∧ ∃ F s, Hid (Ln.Long wr wx g w6.heap.size F k true I s)) (fun i _ => 5 - (intOf i).toNat)
          case atStart => exact ⟨0, by omega, rfl, _, _, L0.out⟩
          case round =>
            obtain ⟨I, hI, rfl, F7, s7, L1⟩ := hrel
            by_cases hlt : (I : Int) < 5
            · have hIn : I < 5 := by omega
              obtain ⟨t, v, L, ho, hpop, hv, h3, h4, hex⟩ := Ln.first_says k true I hIn
              have HO := Lib.hid ho
              have HPOP := Lib.hid hpop
              have HV := Lib.hid hv
              have HEX := Lib.hid hex
              clear ho hpop hv hex
              go_wp2_with fail
              refine (Ln.pnext_some L1.out.one.a L1.out.one.env L1.out.gd (.say t) L (by rw [L1.out.go]; exact HO.out)).mono ?_
              rintro e u2 ⟨k2, t2, f2, rx2, rn2, rc2, bx2, bn2, bc2, s8, F8, _, rfl, hEv8, _, _, hgo8, gd8, _, _, _, hV8, hK8, hM8⟩
              obtain ⟨rfl, rfl⟩ := Ln.say_is hEv8
              obtain ⟨W2, V2, HW2, HVV2, hk2, hA2⟩ := Ln.laid_ev u2 1 t2 f2 rx2 bx2 rn2 rc2 bn2 bc2
              have L2 := Lib.hid ((L1.out.next (J := I + 1) hV8 hK8 hM8 gd8 (by rw [hgo8, L1.out.go, HPOP.out])).quiet hk2)
              have q1 : W2.cell? ⟨u2.heap.size, 1, none⟩ = some (.string t2) := hA2.cell 1
              have q2 : W2.cell? ⟨w6.heap.size, I, none⟩ = some (.string v) := L2.out.want HV.out
              have hb1 : decide (((t2.size : Nat) : Int) < 3) = false := by rw [decide_eq_false_iff_not]; omega
              rw [← HEX.out] at q2
              rw [← HVV2.out]
              clear hEv8 hgo8 gd8 hV8 hK8 hM8 hk2 hA2 HO HPOP
              go_wp2_with (refine Ln.step_laidE (by rfl) (.tmp 14) (.tmp 79) (by rfl) u2 (by rfl) 1 t2 f2 rx2 bx2 rn2 rc2 bn2 bc2 W2 HW2.out (by rfl) HVV2.out ?_)
              go_quiet (fail)
              go_wp2
              go_roundw
              case rel => exact ⟨I + 1, by omega, by go_num, F8, s8, L2.out.quiet ((Ln.Keep.refl (fun _ => False) _).drewN _)⟩
              case measure => simp [intOf]; omega
            · have e5 : I = 5 := by omega
              subst e5
              have L2 := L1
              clear L1
              go_wp2_with fail
              refine (Ln.pnext_some L2.out.one.a L2.out.one.env L2.out.gd (.say (Ln.reply 500)) [] (by rw [L2.out.go]; exact HLAST.out)).mono ?_
              rintro e u9 ⟨k9, t9, f9, rx9, rn9, rc9, bx9, bn9, bc9, s9, F9, _, rfl, hEv9, _, _, _, _, _, _, _, hV9, hK9, hM9⟩
              obtain ⟨rfl, rfl⟩ := Ln.say_is hEv9
              rw [Ln.reply500] at hEv9
              obtain ⟨W9, V9, HW9, HVV9, hk9, hA9⟩ := Ln.laid_ev u9 1 (Ln.reply 500) f9 rx9 bx9 rn9 rc9 bn9 bc9
              have O9 := Lib.hid ((L2.out.one.next hV9 hK9 hM9).quiet hk9)
              have HA9 := Lib.hid hA9
              rw [← HVV9.out]
              clear hEv9 hV9 hK9 hM9 hk9 hA9 L2
              go_wp2_with (refine Ln.step_laidE (by rfl) (.tmp 16) (.tmp 102) (by rfl) u9 (by rfl) 1 (Ln.reply 500) f9 rx9 bx9 rn9 rc9 bn9 bc9 W9 HW9.out (by rfl) HVV9.out ?_)
              refine (HA.out _ O9.out.env O9.out.sz).mono ?_
              rintro e u10 ⟨rfl, hk10⟩
              have O10 := Lib.hid (O9.out.quiet hk10)
              have r1 : u10.cell? ⟨u9.heap.size, 1, none⟩ = some (.string (Ln.reply 500)) := (HA9.out.keep hk10 (fun h => h)).cell 1
              rw [Ln.reply500] at r1
              clear hk10 O9 HA9
              go_wp2
              go_ret
              exact ⟨rfl, (K.out.trans O10.out.kp (fun _ _ h => h)).below (Nat.le_refl _) (fun _ h => h.elim)⟩
      · cases a1
        · have hnT : Ln.ns S2 = Ln.txtOf k false := by rw [hS2, show n2 = (1000 + k).toNat by omega]; exact Ln.txt_plain k
          obtain ⟨c5, w5, kc5, hB5, hK5⟩ := Ln.conv_str (((S2 ++ { data := #[13, 10] }) ++ S4) ++ { data := #[13, 10, 46, 13, 10] }) w4
          rw [hS4, Ln.fedB_is k false _ hnT] at hB5
          have HB5 := Lib.hid hB5
          have HL5 : Hid ((Ln.fedB k false).length = n2 + 2 + 490 + 5) := Lib.hid (by rw [Ln.fedB_length, ← hnT, Ln.ns_length]; rw [z2])
          have O5 := Lib.hid (O4.out.quiet hK5)
          clear hB5 hK5 O4 X4 hS2 hS4 hnT
          go_wp2_with fail
          refine (Ln.pfeed O5.out.a O5.out.env (some ⟨w4.heap.size, 0, none⟩) _ c5 (Ln.fedB k false) HL5.out HB5.out (by have h1 := HWL2.out; have h2 := Ln.fedA_len k hkh; show (s2.wait ++ Ln.fedA k).length + _ ≤ _; rw [List.length_append]; omega)).mono ?_
          rintro e w6 ⟨rfl, F6, hV6, hK6, hM6⟩
          have O6 := Lib.hid (O5.out.next (s' := (s2.fed (Ln.fedA k)).fed (Ln.fedB k false)) hV6 hK6 hM6)
          clear hV6 hK6 hM6 O5 HB5 kc5 kx2 kx4 p1 q1 p2 q2 p4 q4
          have HG6 := Lib.hid (Ln.long_fed (d := false) HK3.out HG2.out)
          have HGD6 : Hid (Ln.Gd ((s2.fed (Ln.fedA k)).fed (Ln.fedB k false))) := Lib.hid (by
            have h1 := HWL2.out; have h2 := Ln.fedA_len k hkh; have h3 := Ln.fedB_len k false hkh
            exact (HGD2.out.fed _ (by omega)).fed _ (by show (s2.wait ++ Ln.fedA k).length + _ ≤ _; rw [List.length_append]; omega))
          have L0 : Hid (Ln.Long wr (w6.alloc (.cells #[.string { data := #[50, 53, 48] }, .string { data := #[50, 53, 48] }, .string { data := #[50, 53, 48] }, .string { data := #[50, 53, 48] }, .string { data := #[51, 53, 52] }] 9)) g w6.heap.size F6 k false 0 ((s2.fed (Ln.fedA k)).fed (Ln.fedB k false))) := Lib.hid (by
            refine ⟨O6.out.quiet ((Ln.Keep.refl (fun _ => False) w6).alloc _), HGD6.out, HG6.out, ?_, fun i hi => by have := O6.out.a.lt i hi; omega⟩
            have hf : Ln.first k = { data := #[50, 53, 48] } := by unfold Ln.first; rw [if_neg (by omega)]; rfl
            unfold Ln.wants
            rw [hf]
            exact Ln.At.new w6 9 _)
          have HLAST : Hid ((Ln.Rr k false 5).out = [(.keep Ln.ab [Ln.ab] (Ln.bodyK k false))]) := Lib.hid (by rw [Ln.Rr_last, Ln.lastOf, if_neg (by omega)])
          clear O6 HG6 HGD6 HG2 HGD2 HWL2
          go_wp2
          go_loopw [13] (fun i wx => ∃ I : Nat, I ≤ 5 ∧ i = .int .i64 (I : Int) ∧ ∃ F s, Hid (Ln.Long wr wx g w6.heap.size F k false I s)) (fun i _ => 5 - (intOf i).toNat)
          case atStart => exact ⟨0, by omega, rfl, _, _, L0.out⟩
          case round =>
            obtain ⟨I, hI, rfl, F7, s7, L1⟩ := hrel
            by_cases hlt : (I : Int) < 5
            · have hIn : I < 5 := by omega
              obtain ⟨t, v, L, ho, hpop, hv, h3, h4, hex⟩ := Ln.first_says k false I hIn
              have HO := Lib.hid ho
              have HPOP := Lib.hid hpop
              have HV := Lib.hid hv
              have HEX := Lib.hid hex
              clear ho hpop hv hex
              go_wp2_with fail
              refine (Ln.pnext_some L1.out.one.a L1.out.one.env L1.out.gd (.say t) L (by rw [L1.out.go]; exact HO.out)).mono ?_
              rintro e u2 ⟨k2, t2, f2, rx2, rn2, rc2, bx2, bn2, bc2, s8, F8, _, rfl, hEv8, _, _, hgo8, gd8, _, _, _, hV8, hK8, hM8⟩
              obtain ⟨rfl, rfl⟩ := Ln.say_is hEv8
              obtain ⟨W2, V2, HW2, HVV2, hk2, hA2⟩ := Ln.laid_ev u2 1 t2 f2 rx2 bx2 rn2 rc2 bn2 bc2
              have L2 := Lib.hid ((L1.out.next (J := I + 1) hV8 hK8 hM8 gd8 (by rw [hgo8, L1.out.go, HPOP.out])).quiet hk2)
              have q1 : W2.cell? ⟨u2.heap.size, 1, none⟩ = some (.string t2) := hA2.cell 1
              have q2 : W2.cell? ⟨w6.heap.size, I, none⟩ = some (.string v) := L2.out.want HV.out
              have hb1 : decide (((t2.size : Nat) : Int) < 3) = false := by rw [decide_eq_false_iff_not]; omega
              rw [← HEX.out] at q2
              rw [← HVV2.out]
              clear hEv8 hgo8 gd8 hV8 hK8 hM8 hk2 hA2 HO HPOP
              go_wp2_with (refine Ln.step_laidE (by rfl) (.tmp 14) (.tmp 79) (by rfl) u2 (by rfl) 1 t2 f2 rx2 bx2 rn2 rc2 bn2 bc2 W2 HW2.out (by rfl) HVV2.out ?_)
              go_quiet (fail)
              go_wp2
              go_roundw
              case rel => exact ⟨I + 1, by omega, by go_num, F8, s8, L2.out.quiet ((Ln.Keep.refl (fun _ => False) _).drewN _)⟩
              case measure => simp [intOf]; omega
            · have e5 : I = 5 := by omega
              subst e5
              have L2 := L1
              clear L1
              go_wp2_with fail
              refine (Ln.pnext_some L2.out.one.a L2.out.one.env L2.out.gd (.keep Ln.ab [Ln.ab] (Ln.bodyK k false)) [] (by rw [L2.out.go]; exact HLAST.out)).mono ?_
              rintro e u9 ⟨k9, t9, f9, rx9, rn9, rc9, bx9, bn9, bc9, s9, F9, _, rfl, hEv9, _, _, _, _, _, _, _, hV9, hK9, hM9⟩
              obtain ⟨rfl, rfl⟩ := Ln.keep_is hEv9
              obtain ⟨bl, hbl⟩ : ∃ bl, bl = (Ln.bodyK k false).length := ⟨_, rfl⟩
              have hbn : ((bl : Nat) : Int) = 1000 + k + 492 := by rw [hbl]; exact Ln.bodyK_len k hkl
              rw [← hbl]
              obtain ⟨W9, V9, HW9, HVV9, hk9, hA9⟩ := Ln.laid_ev u9 2 t9 f9 rx9 bx9 rn9 rc9 bl bc9
              have O9 := Lib.hid ((L2.out.one.next hV9 hK9 hM9).quiet hk9)
              have HA9 := Lib.hid hA9
              rw [← HVV9.out]
              clear hEv9 hV9 hK9 hM9 hk9 hA9 L2 hbl
              go_wp2_with (refine Ln.step_laidE (by rfl) (.tmp 16) (.tmp 102) (by rfl) u9 (by rfl) 2 t9 f9 rx9 bx9 rn9 rc9 bl bc9 W9 HW9.out (by rfl) HVV9.out ?_)
              refine (HA.out _ O9.out.env O9.out.sz).mono ?_
              rintro e u10 ⟨rfl, hk10⟩
              have O10 := Lib.hid (O9.out.quiet hk10)
              have r0 : u10.cell? ⟨u9.heap.size, 0, none⟩ = some (.int .i64 2) := (HA9.out.keep hk10 (fun h => h)).cell 0
              have r7 : u10.cell? ⟨u9.heap.size, 7, none⟩ = some (.slice bx9 bl bc9) := (HA9.out.keep hk10 (fun h => h)).cell 7
              rw [hn2] at hbn
              clear hk10 O9 HA9
              go_wp2
              go_ret
              exact ⟨rfl, (K.out.trans O10.out.kp (fun _ _ h => h)).below (Nat.le_refl _) (fun _ h => h.elim)⟩
        · obtain ⟨p3, q3⟩ := Ln.cut_pre (some ⟨w.heap.size, 0, none⟩) 2000 2000 n3 (by omega)
          have kx3 := Ln.xs_str X4.out n3 (by omega)
          obtain ⟨S3, hS3⟩ : ∃ S3, S3 = Ln.str (Ln.xs n3) := ⟨_, rfl⟩
          have z3 : S3.size = n3 := by rw [hS3, Ln.xs_str_size]
          rw [← hS3] at kx3
          have hnT : Ln.ns ({ data := #[46] } ++ S3) = Ln.txtOf k true := by rw [hS3, show n3 = (999 + k).toNat by omega]; exact Ln.txt_dot k
          obtain ⟨c5, w5, kc5, hB5, hK5⟩ := Ln.conv_str (((({ data := #[46] } ++ S3) ++ { data := #[13, 10] }) ++ S4) ++ { data := #[13, 10, 46, 13, 10] }) w4
          rw [hS4, Ln.fedB_is k true _ hnT] at hB5
          have HB5 := Lib.hid hB5
          have HL5 : Hid ((Ln.fedB k true).length = 1 + n3 + 2 + 490 + 5) := Lib.hid (by rw [Ln.fedB_length, ← hnT, Ln.ns_length]; simp [z3]; rfl)
          have O5 := Lib.hid (O4.out.quiet hK5)
          clear hB5 hK5 O4 X4 hS2 hS4 hS3 hnT
          go_wp2_with fail
          refine (Ln.pfeed O5.out.a O5.out.env (some ⟨w4.heap.size, 0, none⟩) _ c5 (Ln.fedB k true) HL5.out HB5.out (by have h1 := HWL2.out; have h2 := Ln.fedA_len k hkh; show (s2.wait ++ Ln.fedA k).length + _ ≤ _; rw [List.length_append]; omega)).mono ?_
          rintro e w6 ⟨rfl, F6, hV6, hK6, hM6⟩
          have O6 := Lib.hid (O5.out.next (s' := (s2.fed (Ln.fedA k)).fed (Ln.fedB k true)) hV6 hK6 hM6)
          clear hV6 hK6 hM6 O5 HB5 kc5 kx2 kx4 p1 q1 p2 q2 p4 q4 kx3 p3 q3
          have HG6 := Lib.hid (Ln.long_fed (d := true) HK3.out HG2.out)
          have HGD6 : Hid (Ln.Gd ((s2.fed (Ln.fedA k)).fed (Ln.fedB k true))) := Lib.hid (by
            have h1 := HWL2.out; have h2 := Ln.fedA_len k hkh; have h3 := Ln.fedB_len k true hkh
            exact (HGD2.out.fed _ (by omega)).fed _ (by show (s2.wait ++ Ln.fedA k).length + _ ≤ _; rw [List.length_append]; omega))
          have L0 : Hid (Ln.Long wr (w6.alloc (.cells #[.string { data := #[50, 53, 48] }, .string { data := #[50, 53, 48] }, .string { data := #[50, 53, 48] }, .string { data := #[50, 53, 48] }, .string { data := #[51, 53, 52] }] 9)) g w6.heap.size F6 k true 0 ((s2.fed (Ln.fedA k)).fed (Ln.fedB k true))) := Lib.hid (by
            refine ⟨O6.out.quiet ((Ln.Keep.refl (fun _ => False) w6).alloc _), HGD6.out, HG6.out, ?_, fun i hi => by have := O6.out.a.lt i hi; omega⟩
            have hf : Ln.first k = { data := #[50, 53, 48] } := by unfold Ln.first; rw [if_neg (by omega)]; rfl
            unfold Ln.wants
            rw [hf]
            exact Ln.At.new w6 9 _)
          have HLAST : Hid ((Ln.Rr k true 5).out = [(.keep Ln.ab [Ln.ab] (Ln.bodyK k true))]) := Lib.hid (by rw [Ln.Rr_last, Ln.lastOf, if_neg (by omega)])
          clear O6 HG6 HGD6 HG2 HGD2 HWL2
          go_wp2
          go_loopw [13] (fun i wx => ∃ I : Nat, I ≤ 5 ∧ i = .int .i64 (I : Int) ∧ ∃ F s, Hid (Ln.Long wr wx g w6.heap.size F k true I s)) (fun i _ => 5 - (intOf i).toNat)
          case atStart => exact ⟨0, by omega, rfl, _, _, L0.out⟩
          case round =>
            obtain ⟨I, hI, rfl, F7, s7, L1⟩ := hrel
            by_cases hlt : (I : Int) < 5
            · have hIn : I < 5 := by omega
              obtain ⟨t, v, L, ho, hpop, hv, h3, h4, hex⟩ := Ln.first_says k true I hIn
              have HO := Lib.hid ho
              have HPOP := Lib.hid hpop
              have HV := Lib.hid hv
              have HEX := Lib.hid hex
              clear ho hpop hv hex
              go_wp2_with fail
              refine (Ln.pnext_some L1.out.one.a L1.out.one.env L1.out.gd (.say t) L (by rw [L1.out.go]; exact HO.out)).mono ?_
              rintro e u2 ⟨k2, t2, f2, rx2, rn2, rc2, bx2, bn2, bc2, s8, F8, _, rfl, hEv8, _, _, hgo8, gd8, _, _, _, hV8, hK8, hM8⟩
              obtain ⟨rfl, rfl⟩ := Ln.say_is hEv8
              obtain ⟨W2, V2, HW2, HVV2, hk2, hA2⟩ := Ln.laid_ev u2 1 t2 f2 rx2 bx2 rn2 rc2 bn2 bc2
              have L2 := Lib.hid ((L1.out.next (J := I + 1) hV8 hK8 hM8 gd8 (by rw [hgo8, L1.out.go, HPOP.out])).quiet hk2)
              have q1 : W2.cell? ⟨u2.heap.size, 1, none⟩ = some (.string t2) := hA2.cell 1
              have q2 : W2.cell? ⟨w6.heap.size, I, none⟩ = some (.string v) := L2.out.want HV.out
              have hb1 : decide (((t2.size : Nat) : Int) < 3) = false := by rw [decide_eq_false_iff_not]; omega
              rw [← HEX.out] at q2
              rw [← HVV2.out]
              clear hEv8 hgo8 gd8 hV8 hK8 hM8 hk2 hA2 HO HPOP
              go_wp2_with (refine Ln.step_laidE (by rfl) (.tmp 14) (.tmp 79) (by rfl) u2 (by rfl) 1 t2 f2 rx2 bx2 rn2 rc2 bn2 bc2 W2 HW2.out (by rfl) HVV2.out ?_)
              go_quiet (fail)
              go_wp2
              go_roundw
              case rel => exact ⟨I + 1, by omega, by go_num, F8, s8, L2.out.quiet ((Ln.Keep.refl (fun _ => False) _).drewN _)⟩
              case measure => simp [intOf]; omega
            · have e5 : I = 5 := by omega
              subst e5
              have L2 := L1
              clear L1
              go_wp2_with fail
              refine (Ln.pnext_some L2.out.one.a L2.out.one.env L2.out.gd (.keep Ln.ab [Ln.ab] (Ln.bodyK k true)) [] (by rw [L2.out.go]; exact HLAST.out)).mono ?_
              rintro e u9 ⟨k9, t9, f9, rx9, rn9, rc9, bx9, bn9, bc9, s9, F9, _, rfl, hEv9, _, _, _, _, _, _, _, hV9, hK9, hM9⟩
              obtain ⟨rfl, rfl⟩ := Ln.keep_is hEv9
              obtain ⟨bl, hbl⟩ : ∃ bl, bl = (Ln.bodyK k true).length := ⟨_, rfl⟩
              rw [← hbl]
              obtain ⟨W9, V9, HW9, HVV9, hk9, hA9⟩ := Ln.laid_ev u9 2 t9 f9 rx9 bx9 rn9 rc9 bl bc9
              have O9 := Lib.hid ((L2.out.one.next hV9 hK9 hM9).quiet hk9)
              have HA9 := Lib.hid hA9
              rw [← HVV9.out]
              clear hEv9 hV9 hK9 hM9 hk9 hA9 L2 hbl
              go_wp2_with (refine Ln.step_laidE (by rfl) (.tmp 16) (.tmp 102) (by rfl) u9 (by rfl) 2 t9 f9 rx9 bx9 rn9 rc9 bl bc9 W9 HW9.out (by rfl) HVV9.out ?_)
              refine (HA.out _ O9.out.env O9.out.sz).mono ?_
              rintro e u10 ⟨rfl, hk10⟩
              have O10 := Lib.hid (O9.out.quiet hk10)
              have r0 : u10.cell? ⟨u9.heap.size, 0, none⟩ = some (.int .i64 2) := (HA9.out.keep hk10 (fun h => h)).cell 0
              have r7 : u10.cell? ⟨u9.heap.size, 7, none⟩ = some (.slice bx9 bl bc9) := (HA9.out.keep hk10 (fun h => h)).cell 7
              clear hk10 O9 HA9
              go_wp2
              go_ret
              exact ⟨rfl, (K.out.trans O10.out.kp (fun _ _ h => h)).below (Nat.le_refl _) (fun _ h => h.elim)⟩

/-! ### The row's step -/
theorem met (os : Os) : laidMetH Tryz.prog Rows.serveLongRow.laid ((World.laidAll Tryz.prog os Rows.serveLongRow.laid).forCall (fun _ _ => 0) ⟨#[], #[.int .u16 0, .bool false], []⟩).memory := by
  rw [MakeChecks.laidMetH_plain _ _ _ (by kernel_rfl)]; exact laidMet_laidAll _ (by kernel_rfl) (by kernel_rfl)
theorem reads (os : Os) {H : Type} (enc : TypeId × Value → H) : ∃ places, DataW.whole enc Tryz.prog ((World.laidAll Tryz.prog os Rows.serveLongRow.laid).forCall (fun _ _ => 0) ⟨#[], #[.int .u16 0, .bool false], []⟩).memory Tryz.f6.params.toList Rows.serveLongSpec.vars false (#[.int .u16 0, .bool false] : Array Value).toList 8 = some ([.lit (.int .u16 0), .lit (.bool false)], [], places) :=
  ⟨[], by kernel_rfl⟩
set_option maxRecDepth 100000 in
theorem fits (os : Os) {H : Type} (enc : TypeId × Value → H) : ∃ (w : World) (tape : Tape) (i : Input), w.os = os ∧ (w.forCall tape i).Shaped Tryz.checked.prog ∧ i.vars = [] ∧ Input.okWide Tryz.checked.prog (w.forCall tape i) .any w.heap.size 6 i ∧
    (OpenSpec.ofChange Rows.serveLongSpec).preRow enc Tryz.checked.prog Tryz.f6 Rows.serveLongRow.domain false Rows.serveLongRow.laid (w.forCall tape i).memory i.args ∧ ({} : Assume).holds Tryz.checked.prog (lone (Frame.enter Tryz.checked.prog 6 i.args .normal) [] (w.forCall tape i)) := by
  obtain ⟨places, hx⟩ := reads os enc
  have hok : Input.okWideB Tryz.checked.prog ((World.laidAll Tryz.prog os Rows.serveLongRow.laid).forCall (fun _ _ => 0) ⟨#[], #[.int .u16 0, .bool false], []⟩) 6 ⟨#[], #[.int .u16 0, .bool false], []⟩ = true := by kernel_rfl
  exact ⟨(World.laidAll Tryz.prog os Rows.serveLongRow.laid), fun _ _ => 0, ⟨#[], #[.int .u16 0, .bool false], []⟩, World.laidAll_os _ _ _, World.shaped_of_ZipB (by kernel_rfl) (by kernel_rfl), (Input.okWide_of_okWideB (base := 0) hok).1, (Input.okWide_of_okWideB hok).2,
    OpenSpec.preRow_of_cond 8 hx (by kernel_rfl) (fun k hk => by cases hk) (by kernel_rfl) (met os), by
      simp only [Assume.holds]
      exact ⟨by simp, by simp, fun _ => Modest.zero, by simp, by simp⟩⟩

set_option maxRecDepth 100000 in
theorem lifted (os : Os) (started : os.Started) (H : Type) (enc : TypeId × Value → H) (F : Stop.Interp) :
    ReturnsInHanded {} Tryz.checked os 6 .any ((OpenSpec.ofChange Rows.serveLongSpec).preRow enc Tryz.prog Tryz.f6 Rows.serveLongRow.domain false Rows.serveLongRow.laid) (((OpenSpec.ofChange Rows.serveLongSpec).at F).post enc Tryz.prog Tryz.f6 false true false false) := by
  refine returnsInHanded_of_row (C := Tryz.checked) (s := OpenSpec.ofChange Rows.serveLongSpec) own started (by kernel_rfl) Tryz.func6 (fits os enc) ?_
  intro W base args ds gs before hval0 hW0 _ hcond hsz hL shape _
  show Calls Tryz.prog 6 args W fun e W' => ∃ v, e = .returned v ∧ Rows.serveLongSpec.post enc Tryz.prog Tryz.f6 false true false false W args v W'
  have hval : ∀ (j : Nat) t v, Tryz.f6.params[j]? = some t → args[j]? = some v → Value.okWide Tryz.prog W .any base t v := hval0
  have hW : DataW.Whole enc Tryz.prog Tryz.f6.params.toList Rows.serveLongSpec.vars false W args.toList ds gs before := hW0
  have hW' := hW
  obtain ⟨p, q, hA0, hV, rfl, hfz, hnd⟩ := hW
  have hA : DataW.TrodAll enc Tryz.prog W 0 (fun _ => true) true Tryz.f6.params.toList args.toList ds p := hA0
  rw [Tryz.params6] at hA hval
  obtain ⟨v0, vs0, d0, ds0, p0, q0, hargs, rfl, rfl, h0, r0⟩ := trodAll_cons hA
  obtain ⟨v1, vs1, d1, ds1, p1, q1, rfl, rfl, rfl, h1, r1⟩ := trodAll_cons r0
  obtain ⟨rfl, rfl, rfl⟩ := trodAll_nil r1
  obtain rfl : args = #[v0, v1] := by cases args; simp_all
  obtain ⟨rfl, rfl⟩ := trodVars_none hV
  obtain ⟨a0, rfl, rfl, rfl, w0⟩ := open_int Tryz.underlying54 (hval 0 54 v0 rfl rfl) h0
  obtain ⟨a1, rfl, rfl, rfl⟩ := open_bool Tryz.underlying4 (hval 1 4 v1 rfl rfl) h1
  obtain ⟨hE, h9⟩ := Ln.env9 W hL shape
  clear hA0 hval0
  refine (walk a0 a1 W w0  hE h9).mono fun e W' ⟨he, bel⟩ => ?_
  subst he
  exact ⟨_, rfl, _, _, _, [], _, [], hW', trodAll_mk1 (shut_bool Tryz.underlying4 _), (trodAll_cons_mk (shut_int Tryz.underlying54 w0) (trodAll_cons_mk (shut_bool Tryz.underlying4 a1) trodAll_mk0)), rfl, bel.frame _, fun h => by cases h⟩

theorem over : Rows.ServeLongSaid :=
  OpenClaim.holds_of_cond 6 Tryz.f6 rfl rfl rfl rfl rfl rfl rfl ⟨rfl, rfl, rfl, rfl, rfl⟩ rfl rfl rfl rfl rfl (by kernel_rfl) Tryz.func6 (by kernel_rfl)
    (of_decide_eq_true (by kernel_rfl)) (by unfold Func.isWrapper; first | (rw [if_pos (by decide +kernel)]; kernel_rfl) | (rw [if_neg (by decide +kernel)]; exact ⟨rfl, rfl⟩))
    (fun os started H enc _ F => by rw [OpenClaim.pre_eq_preRow]; exact lifted os started H enc F)

theorem plain (f : FuncId) (fn : Func) (hf : Tryz.pinned.checked.prog.funcNamed "pillarbox/pillarboxlaw09.ServeLong" = some f) (hfn : Tryz.pinned.checked.prog.funcs[f]? = some fn) :
    true = Tryz.pinned.checked.prog.looks [] ∧ ∀ (j : Nat) t, fn.params[j]? = some t → Tryz.pinned.checked.prog.wantsStandIn t = false := by
  obtain rfl : f = 6 := Option.some.inj ((show Tryz.prog.funcNamed "pillarbox/pillarboxlaw09.ServeLong" = some 6 by kernel_rfl).symm.trans hf) |>.symm
  obtain rfl : fn = Tryz.f6 := (Option.some.inj (Tryz.func6.symm.trans hfn)).symm
  refine ⟨by kernel_rfl, fun j t ht => ?_⟩
  rw [Tryz.params6] at ht
  have hm : t ∈ [54, 4] := by simpa using Array.mem_of_getElem? ht
  have hall : ([54, 4].all fun u => !Tryz.prog.wantsStandIn u) = true := by kernel_rfl
  exact (show Tryz.prog.wantsStandIn t = false by simpa using List.all_eq_true.1 hall t hm)

/-- The statement: the tied card. -/
theorem proved : Rows.ServeLongCardSaid :=
  Claim7.holds_tied_plain_at .later [] _ _ _ _ over (fun _ h => by cases h) (by kernel_rfl) (fun _ h => by cases h) serveLong_row_tie rfl ⟨rfl, rfl⟩ (by kernel_rfl) rfl plain (by kernel_rfl)
#print axioms proved
end Go.Proofs.YtcjljldknekhiaaGreatDoor.serveLong
