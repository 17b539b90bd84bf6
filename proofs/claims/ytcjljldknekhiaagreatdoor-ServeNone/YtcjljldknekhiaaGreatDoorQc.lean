/-
  What a program that does nothing does not answer.
-/
import Derived.Test.YtcjljldknekhiaaGreatDoorQb
namespace Go.Proofs.YtcjljldknekhiaaGreatDoor.Ln
open Go.RowKit
set_option linter.unusedVariables false
set_option linter.unusedSimpArgs false

set_option maxHeartbeats 4000000 in
set_option maxRecDepth 100000 in
theorem answersC (w : World) (hE : Env w) (h9 : 9 ≤ w.heap.size) : Calls Tryz.prog 9 #[] w fun e w' => e = .returned (.bool true) ∧ Keep (fun _ => False) w w' := by
  have HN := Lib.hid (pnew { data := #[77, 120] } (by decide) 99 (by decide) w hE h9)
  have HE := Lib.hid hE
  rw [hostMx] at HN
  clear hE
  go_enter Tryz.func9, Tryz.ntmps9
  go_wp2_with fail
  refine HN.out.mono ?_
  rintro e w1 ⟨g, F1, rfl, hV1, hK1, hF1⟩
  have HV1 := Lib.hid hV1
  have HK1 := Lib.hid hK1
  have HF1 := Lib.hid hF1
  have HE1 := Lib.hid (HE.out.quiet hK1)
  clear hV1 hK1 hF1
  go_wp2_with fail
  refine (pnext_some (s := mxSe) HV1.out HE1.out (Gd.new _ _ (by decide)) (.say { data := #[50, 50, 48, 32, 109, 120, 13, 10] }) [] (by rw [mx_go]; exact mx_out)).mono ?_
  rintro e w2 ⟨k, t, f, rx, rn, rc, bx, bn, bc, s2, F2, E2, rfl, hEv2, _, _, hgo2, gd2, ho2, hwl2, _, hV2, hK2, hM2⟩
  obtain ⟨rfl, rfl⟩ := say_is hEv2
  have HG2 := Lib.hid hgo2
  have HGD2 := Lib.hid gd2
  obtain ⟨W2, V2, HW2, HVV2, hk2, hA2⟩ := laid_ev w2 1 { data := #[50, 50, 48, 32, 109, 120, 13, 10] } f rx bx rn rc bn bc
  have HV2 := Lib.hid (hV2.quiet hk2)
  have HE2 := Lib.hid ((HV1.out.env HE1.out hK2).quiet hk2)
  have HK2 := Lib.hid ((HK1.out.trans hK2 (fun i hi e => by have := HF1.out i e; omega)).trans hk2 (fun _ _ h => h))
  have HM2 : Hid (∀ k, F2 k → w.heap.size ≤ k) := Lib.hid (fun k hk => by
    rcases hM2 k hk with e | e
    · exact HF1.out k e
    · exact Nat.le_trans HK1.out.size e)
  have HA2 := Lib.hid hA2
  have HB2 : Hid (∀ k, F2 k → k < w2.heap.size) := Lib.hid (fun k hk => hV2.lt k hk)
  have HGW2 : Hid (s2.wait.length ≤ 1000000) := Lib.hid (Nat.le_trans hwl2 (by decide))
  have kc := Lib.run_convert_bytes_const (P := Tryz.prog) W2 34 5 #[.int .u8 78, .int .u8 79, .int .u8 79, .int .u8 80, .int .u8 13, .int .u8 10] 6 6 Tryz.underlying34 Tryz.underlying5
  rw [← HVV2.out]
  clear hEv2 hwl2 hgo2 gd2 ho2 hV2 hK2 hM2 hk2 hA2
  go_wp2_with (refine step_laidE (by rfl) (.tmp 2) (.tmp 10) (by rfl) w2 (by rfl) 1 { data := #[50, 50, 48, 32, 109, 120, 13, 10] } f rx bx rn rc bn bc W2 HW2.out (by rfl) HVV2.out ?_)
  have kB : Keep (fun _ => False) W2 (W2.alloc (.cells #[.int .u8 78, .int .u8 79, .int .u8 79, .int .u8 80, .int .u8 13, .int .u8 10] 5 (6, 7))) := (Keep.refl (fun _ => False) W2).alloc _
  refine (pfeed (HV2.out.quiet kB) (HE2.out.quiet kB) (some ⟨W2.heap.size, 0, none⟩) 6 6 [78, 79, 79, 80, 13, 10] rfl (bytes_mark W2 [78, 79, 79, 80, 13, 10] (by decide) (6, 7)) (by have := HGD2.out.wait; omega)).mono ?_
  rintro e w3 ⟨rfl, F3, hV3, hK3, hM3⟩
  have HE3 := Lib.hid ((HV2.out.quiet kB).env (HE2.out.quiet kB) hK3)
  have HV3 := Lib.hid (show VS F3 w3 g (s2.fed [78, 79, 79, 80, 13, 10]) from hV3)
  have HK3 := Lib.hid ((HK2.out.trans kB (fun _ _ h => h)).trans hK3 (fun i hi e => by have := HM2.out i e; omega))
  have HM3 : Hid (∀ k, F3 k → w.heap.size ≤ k ∧ k ≠ w2.heap.size) := Lib.hid (fun k hk => by
    rcases hM3 k hk with e | e
    · exact ⟨HM2.out k e, fun e2 => by
        have h1 := HB2.out k e
        omega⟩
    · have h1 := HA2.out.lt
      have h2 := kB.size
      have h3 := HK2.out.size
      exact ⟨by omega, by omega⟩)
  have HA3 := Lib.hid ((HA2.out.keep kB (fun h => h)).keep hK3 (fun e => by have := HB2.out _ e; omega))
  have hgo3 : (s2.fed [78, 79, 79, 80, 13, 10]).go V9 = mxSe.pop.say (reply 250) := by
    rw [← fed_go V9 _ _ s2 rfl, HG2.out, mx_go, mx_noop]
  have HG3 := Lib.hid hgo3
  clear hV3 hK3 hM3 kB hgo3 kc
  go_wp2_with fail
  refine (pnext_some HV3.out HE3.out (HGD2.out.fed _ (by have := HGD2.out.ok; have := HGW2.out; simp; omega)) (.say { data := #[50, 53, 48, 32, 111, 107, 13, 10] }) [] (by rw [HG3.out, ← reply250]; rfl)).mono ?_
  rintro e w4 ⟨k, t, f, rx, rn, rc, bx, bn, bc, s4, F4, E4, rfl, hEv4, _, _, _, _, _, _, _, _, hK4, hM4⟩
  obtain ⟨rfl, rfl⟩ := say_is hEv4
  obtain ⟨W4, V4, HW4, HVV4, hk4, hA4⟩ := laid_ev w4 1 { data := #[50, 53, 48, 32, 111, 107, 13, 10] } f rx bx rn rc bn bc
  have hA3' := (HA3.out.keep hK4 (fun e => (HM3.out _ e).2 rfl)).keep hk4 (fun h => h)
  have q0 : W4.cell? ⟨w2.heap.size, 0, none⟩ = some (.int .i64 1) := hA3'.cell 0
  have q1 : W4.cell? ⟨w2.heap.size, 1, none⟩ = some (.string { data := #[50, 50, 48, 32, 109, 120, 13, 10] }) := hA3'.cell 1
  have q2 : W4.cell? ⟨w4.heap.size, 1, none⟩ = some (.string { data := #[50, 53, 48, 32, 111, 107, 13, 10] }) := hA4.cell 1
  have HK4 := Lib.hid ((HK3.out.trans hK4 (fun i hi e => by have := (HM3.out i e).1; omega)).trans hk4 (fun _ _ h => h))
  rw [← HVV4.out]
  clear hEv4 hK4 hM4 hk4 hA4 hA3'
  go_wp2_with (refine step_laidE (by rfl) (.tmp 4) (.tmp 19) (by rfl) w4 (by rfl) 1 { data := #[50, 53, 48, 32, 111, 107, 13, 10] } f rx bx rn rc bn bc W4 HW4.out (by rfl) HVV4.out ?_)
  go_ret
  exact ⟨rfl, HK4.out⟩
end Go.Proofs.YtcjljldknekhiaaGreatDoor.Ln
