/-
  Proved here: never are there more bytes than room, nor more files than may be, and what is refused changes nothing; for every size and every row of calls. Conditions: none.
-/
import Derived.Test.YtgjkocjgkbjciaaRows
import Derived.Test.YtgjkocjgkbjciaaRoom
import Derived.Lib.Hide
import Derived.WalkKit
import Derived.ProofKit
import Derived.OpenShut
import Derived.ShutString
import Derived.ChangeOld
import Derived.Below
namespace Go.Proofs.Ytgjkocjgkbjciaa.fsRoom
open Go.ChangeShapes Go.WideShapes Go.ChangeAt Go.RowKit
set_option linter.unusedVariables false

theorem own : ownKnob Try.prog.godebug = none := by kernel_rfl
theorem laidOut : laidOutB Try.prog = true := by kernel_rfl

/-! ### The walk -/
set_option maxHeartbeats 4000000 in
set_option maxRecDepth 100000 in
theorem walk (a0 : Int) (a1 : Option Addr) (x1 : List Fs.OpR) (cap1 : Nat) (w : World) (w0 : (Lit.int .u8 a0).wf = true) (l1 : x1.length ≤ cap1) (m1 : cap1 ≤ 9223372036854775807) (B1 : Fs.Ops w a1 x1) :
    Calls Try.prog 8 #[.int .u8 a0, .slice a1 x1.length cap1] w fun e w' => e = .returned (.bool true) ∧ Below w.heap.size w w' := by
  have b0 := bounds_u8 w0
  obtain ⟨Z, rfl⟩ : ∃ Z : Nat, a0 = (Z : Int) := ⟨a0.toNat, by omega⟩
  have hZ : Z ≤ 255 := by omega
  have HOps := Lib.hid B1
  obtain ⟨N, hN⟩ : ∃ N, N = x1.length := ⟨_, rfl⟩
  rw [← hN] at l1 ⊢
  have HN := Lib.hid hN
  clear B1 hN w0
  by_cases h80 : (80 : Int) < (N : Int)
  · go_enter Try.func8, Try.ntmps8
    go_wp2_with fail
    refine (Fs.answers w).mono ?_
    rintro e w1 ⟨rfl, k1⟩
    have HK := Lib.hid k1
    clear k1
    go_wp2
    go_ret
    exact ⟨rfl, Fs.quiet_below HK.out (Nat.le_refl _)⟩
  · go_enter Try.func8, Try.ntmps8
    go_wp2_with fail
    refine (Fs.new (Z : Int) w).mono ?_
    rintro e v0 ⟨rfl, hd, k0, z0⟩
    have HD0 := Lib.hid hd
    have HK0 := Lib.hid k0
    have HZ0 := Lib.hid z0
    clear hd k0 z0
    go_wp2
    go_loopw [6] (fun x wr => ∃ i : Nat, i ≤ N ∧ x = .int .i64 (i : Int) ∧ Hid (∃ S s, Fs.Disk wr S w.heap.size s ∧ (∀ b, S b → w.heap.size ≤ b ∧ b < wr.heap.size) ∧ Fs.Fine s Z ∧ s.bulk ≤ 2 * i) ∧ Hid (Below w.heap.size w wr)) (fun x _ => N - (intOf x).toNat)
    case atStart => exact ⟨0, by omega, rfl, ⟨_, _, HD0.out, fun b e => ⟨by omega, by have := HZ0.out; omega⟩, Fs.fine_start Z (by omega), by show 0 + 0 + 0 ≤ 0; omega⟩, Fs.quiet_below HK0.out (Nat.le_refl _)⟩
    case round =>
      obtain ⟨i, hi, rfl, HX, HW⟩ := hrel
      by_cases h8 : (i : Int) < (N : Int)
      · obtain ⟨S, s, hD, hS, hF, hBk⟩ := HX.out
        have hil : i < x1.length := by have := HN.out; omega
        obtain ⟨o, ho⟩ := Fs.getElem?_some_lt hil
        obtain ⟨b, off, hbl, rfl, hAt⟩ := HOps.out i o ho
        obtain ⟨x, c, c0, c1, c2, c3, c4, c5, r1, r2, r3, r4, r5, hBy⟩ := hAt.below hbl HW.out
        obtain ⟨kd, nn, mm, oa, ob, dt⟩ := o
        simp only at c0 c1 c2 c3 c4 c5 r1 r2 r3 r4 r5 hBy
        obtain ⟨L, hL⟩ : ∃ L, L = dt.length := ⟨_, rfl⟩
        rw [← hL] at c5 r1
        have HL := Lib.hid hL
        have HBy := Lib.hid hBy
        have HD := Lib.hid hD
        have HSb := Lib.hid hS
        have HF := Lib.hid hF
        have HBk := Lib.hid hBk
        have HIL := Lib.hid hil
        have HAt := Lib.hid hAt
        have HBL := Lib.hid hbl
        clear hD hS hF hBk hil ho hAt hBy hL r4 r5
        by_cases h1k : (1000 : Int) < (L : Int)
        · go_wp2
          go_roundw
          case rel => exact ⟨i + 1, by omega, by go_num, by obtain ⟨S, s, q1, q2, q3, q4⟩ := HX.out; exact ⟨S, s, q1, q2, q3, by omega⟩, HW.out⟩
          case measure => simp [intOf]; omega
        · by_cases h6 : (6 : Int) < kd
          · go_wp2
            go_roundw
            case rel => exact ⟨i + 1, by omega, by go_num, by obtain ⟨S, s, q1, q2, q3, q4⟩ := HX.out; exact ⟨S, s, q1, q2, q3, by omega⟩, HW.out⟩
            case measure => simp [intOf]; omega
          · clear HX
            -- Used and List ahead of the call
            have cU : Calls Try.prog 30 #[.pointer (some ⟨w.heap.size, 0, none⟩)] wr fun e w' => e = .returned (.int .i64 (s.used : Int)) ∧ Fs.Keep (fun _ => False) wr w' := by
              obtain ⟨⟨La, hp⟩, hG⟩ := HD.out
              exact Fs.usedP w.heap.size S s La wr hp hG
            go_wp2_with fail
            refine cU.mono ?_
            rintro e v1 ⟨rfl, k1⟩
            have HD1 := Lib.hid (HD.out.keep k1 (fun _ _ h => h))
            have HK1 := Lib.hid k1
            clear k1 cU
            go_wp2_with fail
            refine (Fs.listUp w.heap.size S s v1 HD1.out HF.out.down).mono ?_
            rintro e v2 ⟨nv, rfl, hrow, hb2⟩
            have HK2 : Hid (Fs.Keep (fun _ => False) wr v2) := HK1.out.trans (Fs.Keep.of_below hb2) (fun _ _ h => h)
            have HD2 := Lib.hid (HD.out.keep HK2.out (fun _ _ h => h))
            have HNm : Hid (Fs.Names v2 nv (s.now.map (·.1))) := ⟨v1.heap.size, by rw [List.length_map, List.map_map]; exact hrow⟩
            have HNb : Hid (∀ b, nv.ownBlock = some b → v1.heap.size ≤ b) := fun b hb => (hrow.lt b hb).1
            obtain ⟨xn, cn, hnv, _⟩ := HNm.out.shape
            clear hrow hb2
            rw [List.length_map] at hnv
            have HW2 : Hid (Below w.heap.size w v2) := HW.out.trans (Fs.quiet_below HK2.out HW.out.size)
            have HBy2 := Lib.hid (HBy.out.below (Fs.quiet_below HK2.out HW.out.size))
            obtain ⟨x', c', d0, d1, d2, d3, d4, d5, _, _, _, _, _, hBy'⟩ := HAt.out.below HBL.out HW2.out
            simp only at d0 d1 d2 d3 d4 d5
            rw [← HL.out] at d5
            have HBy3 := Lib.hid hBy'
            clear hBy'
            have cD := Fs.doOp w.heap.size S s kd nn mm oa ob dt x' L c' r2 r3 HL.out.symm (by omega) (fun k => k < w.heap.size) (fun b hb hs => by have := (HSb.out b hs).1; omega) (by have := HBk.out; have := HIL.out; have := HN.out; omega) v2 HBy3.out (fun b hs => by have := (HSb.out b hs).2; have := HK2.out.size; omega) HD2.out
            subst hnv
            go_wp2_with fail
            refine cD.mono ?_
            intro e v3 hW3
            obtain ⟨rfl, hd3, k3⟩ := hW3
            have HD3 := Lib.hid hd3
            have HK3 := Lib.hid k3
            have HF3 := Lib.hid (Fs.fine_do HD.out.good HF.out ⟨kd, nn, mm, oa, ob, dt⟩)
            have HB3 := Lib.hid (Fs.bulk_do s ⟨kd, nn, mm, oa, ob, dt⟩)
            have HW3 : Hid (Below w.heap.size w v3) := HW2.out.trans (k3.below HW2.out.size (fun b hs => (HSb.out b hs).1))
            have HNm3 : Hid (Fs.Names v3 (.slice xn s.now.length cn) (s.now.map (·.1))) := HNm.out.keep k3 (fun b hb hs => by have h1 := HNb.out b hb; have h2 := (HSb.out b hs).2; have h3 := HK1.out.size; omega)
            obtain ⟨S3, hS3⟩ : ∃ S3, S3 = Fs.Up S v2 v3 := ⟨_, rfl⟩
            have HS3 : Hid (∀ b, S3 b → w.heap.size ≤ b ∧ b < v3.heap.size) := fun b hs => by
              rw [hS3] at hs
              rcases hs with hs | ⟨h1, h2⟩
              · have h1 := HSb.out b hs; have h2 := HK2.out.size; have h3 := k3.size; omega
              · have h3 := HK2.out.size; have h4 := HW.out.size; omega
            have HREF := Lib.hid (Fs.refused HF.out.fuse HF.out.down ⟨kd, nn, mm, oa, ob, dt⟩)
            have HD3b : Hid (Fs.Disk v3 S3 w.heap.size (Fs.doS s ⟨kd, nn, mm, oa, ob, dt⟩)) := by rw [hS3]; exact HD3.out
            obtain ⟨t, ht⟩ : ∃ t, t = Fs.doS s ⟨kd, nn, mm, oa, ob, dt⟩ := ⟨_, rfl⟩
            obtain ⟨E, hE⟩ : ∃ E, E = Fs.doE s ⟨kd, nn, mm, oa, ob, dt⟩ := ⟨_, rfl⟩
            rw [← ht] at HD3b HF3 HB3
            rw [← hE]
            have HT := Lib.hid ht
            have HEE := Lib.hid hE
            clear hd3 k3 cD hS3 ht hE c0 c1 c2 c3 c4 c5 d0 d1 d2 d3 d4 d5 HD3
            have usedC : ∀ v, Fs.Keep (fun _ => False) v3 v → Calls Try.prog 30 #[.pointer (some ⟨w.heap.size, 0, none⟩)] v fun e w' => e = .returned (.int .i64 (t.used : Int)) ∧ Fs.Keep (fun _ => False) v w' := fun v k => by
              obtain ⟨⟨La, hp⟩, hG⟩ := HD3b.out.keep k (fun _ _ h => h)
              exact Fs.usedP w.heap.size S3 t La v hp hG
            have HUC := Lib.hid usedC
            have hu3 := HF3.out.used
            have hf3 := HF3.out.few
            clear usedC
            go_wp2_with fail
            refine (HUC.out v3 (Fs.Keep.refl _ _)).mono ?_
            rintro e v4 ⟨rfl, k4⟩
            have HK4 := Lib.hid k4
            clear k4
            go_wp2_with fail
            refine (Fs.listUp w.heap.size S3 t v4 (HD3b.out.keep HK4.out (fun _ _ h => h)) HF3.out.down).mono ?_
            rintro e v5 ⟨mv, rfl, hrow, hb5⟩
            have HK5 : Hid (Fs.Keep (fun _ => False) v3 v5) := HK4.out.trans (Fs.Keep.of_below hb5) (fun _ _ h => h)
            have HNm5 : Fs.Names v5 mv (t.now.map (·.1)) := ⟨v4.heap.size, by rw [List.length_map, List.map_map]; exact hrow⟩
            obtain ⟨xm, cm, hmv, _⟩ := HNm5.shape
            clear hrow hb5 HNm5
            rw [List.length_map] at hmv
            subst hmv
            by_cases hE0 : E = 0
            · subst hE0
              go_wp2
              go_roundw
              case rel => exact ⟨i + 1, by omega, by go_num, ⟨S3, t, HD3b.out.keep HK5.out (fun _ _ h => h), fun b hs => by have := HS3.out b hs; have := HK5.out.size; omega, HF3.out, by have := HB3.out; have := HBk.out; omega⟩, HW3.out.trans (Fs.quiet_below HK5.out HW3.out.size)⟩
              case measure => simp [intOf]; omega
            · have hts : t = s := by rw [HT.out]; exact HREF.out (by rw [← HEE.out]; exact hE0)
              have HTS := Lib.hid hts
              have q1 : ((E : Int) != 0) = true := by simp; omega
              clear hE0 hts
              go_wp2_with fail
              refine (HUC.out v5 HK5.out).mono ?_
              rintro e v6 ⟨rfl, k6⟩
              have HK6 : Hid (Fs.Keep (fun _ => False) v3 v6) := HK5.out.trans k6 (fun _ _ h => h)
              have q2 : ((t.used : Int) != (s.used : Int)) = false := by rw [HTS.out]; simp
              clear k6
              go_wp2_with fail
              refine (Fs.listUp w.heap.size S3 t v6 (HD3b.out.keep HK6.out (fun _ _ h => h)) HF3.out.down).mono ?_
              rintro e v7 ⟨lv, rfl, hrow, hb7⟩
              have HK7 : Hid (Fs.Keep (fun _ => False) v3 v7) := HK6.out.trans (Fs.Keep.of_below hb7) (fun _ _ h => h)
              have hNm7 : Fs.Names v7 lv (s.now.map (·.1)) := ⟨v6.heap.size, by rw [HTS.out] at hrow; rw [List.length_map, List.map_map]; exact hrow⟩
              have cT := Fs.texts (s.now.map (·.1)) (by rw [List.length_map]; have := HF.out.few; omega) _ lv v7 (HNm3.out.keep HK7.out (fun _ _ h => h)) hNm7
              clear hrow hb7 hNm7
              go_wp2_with fail
              refine cT.mono ?_
              rintro e v8 ⟨rfl, k8⟩
              have HK8 : Hid (Fs.Keep (fun _ => False) v3 v8) := HK7.out.trans k8 (fun _ _ h => h)
              clear k8 cT
              go_wp2
              go_roundw
              case rel => exact ⟨i + 1, by omega, by go_num, ⟨S3, t, HD3b.out.keep HK8.out (fun _ _ h => h), fun b hs => by have := HS3.out b hs; have := HK8.out.size; omega, HF3.out, by have := HB3.out; have := HBk.out; omega⟩, HW3.out.trans (Fs.quiet_below HK8.out HW3.out.size)⟩
              case measure => simp [intOf]; omega
      · go_wp2_with fail
        refine (Fs.answers wr).mono ?_
        rintro e v5 ⟨rfl, k5⟩
        have HW5 : Hid (Below w.heap.size w v5) := HW.out.trans (Fs.quiet_below k5 HW.out.size)
        clear k5
        go_wp2
        go_ret
        exact ⟨rfl, HW5.out⟩

/-! ### The row's step -/
set_option maxRecDepth 100000 in
theorem lifted (os : Os) (started : os.Started) (H : Type) (enc : TypeId × Value → H) :
    ReturnsInHanded {} Try.checked os 8 .any (Rows.fsRoomSpec.pre6 enc Try.prog Try.f8 Rows.fsRoomRow.domain false) (Rows.fsRoomSpec.post enc Try.prog Try.f8 false true false false) := by
  refine returnsInHanded_of_change_sized (C := Try.checked) own started (by kernel_rfl) Try.func8
    (ChangeSpec.witness6 (enc := enc) (C := Try.checked) false ⟨#[], #[.int .u8 0, .slice none 0 0], []⟩ 8 (by kernel_rfl) (by kernel_rfl) (by kernel_rfl) (by kernel_rfl)) ?_
  intro W base args ds gs before hval0 hW hcnd hsz _
  have hval : ∀ (j : Nat) t v, Try.f8.params[j]? = some t → args[j]? = some v → Value.okWide Try.prog W .any base t v := hval0
  have hW' := hW
  obtain ⟨p, q, hA0, hV, rfl, hfz, hnd⟩ := hW
  have hA : DataW.TrodAll enc Try.prog W 0 (fun _ => true) true Try.f8.params.toList args.toList ds p := hA0
  rw [Try.params8] at hA hval hsz
  obtain ⟨v0, vs0, d0, ds0, p0, q0, hargs, rfl, rfl, h0, r0⟩ := trodAll_cons hA
  obtain ⟨v1, vs1, d1, ds1, p1, q1, rfl, rfl, rfl, h1, r1⟩ := trodAll_cons r0
  obtain ⟨rfl, rfl, rfl⟩ := trodAll_nil r1
  obtain rfl : args = #[v0, v1] := by cases args; simp_all
  obtain ⟨rfl, rfl⟩ := trodVars_none hV
  obtain ⟨a0, rfl, rfl, rfl, w0⟩ := open_int Try.underlying5 (hval 0 5 v0 rfl rfl) h0
  obtain ⟨a1, len1, cap1, rfl⟩ := okWide_slice Try.underlying22 (hval 1 22 v1 rfl rfl)
  have k1 := h1
  have lt1 : ∀ x ∈ p1, x.block < W.heap.size := by obtain ⟨m, hm⟩ := k1; exact DataW.trod_lt m _ _ _ hm
  obtain ⟨b1, x1, c1, e1, l1, m1, B1⟩ : ∃ a ops cap, Value.slice a1 len1 cap1 = .slice a ops.length cap ∧ ops.length ≤ cap ∧ cap ≤ 9223372036854775807 ∧ Fs.Ops W a ops := by
    obtain ⟨fuel, hf⟩ := h1
    exact Fs.arg_ops hf
  injection e1 with e1 f1 g1
  subst e1 f1 g1
  clear hA0 hval0
  refine (walk a0 a1 x1 cap1 W w0 l1 m1 B1).mono fun e W' ⟨he, bel⟩ => ?_
  subst he
  exact ⟨_, rfl, _, _, _, [], _, [], hW', trodAll_mk1 (shut_bool Try.underlying4 _), (trodAll_cons_mk (shut_int Try.underlying5 w0) (trodAll_cons_mk (Below.trod laidOut (by kernel_rfl) (of_decide_eq_true (by kernel_rfl)) k1 bel lt1) trodAll_mk0)), rfl, bel.frame _, fun h => by cases h⟩

theorem over : Rows.fsRoomRow.holds Try.pinned (OpenSpec.ofChange Rows.fsRoomSpec) :=
  OpenClaim.holds_of_wide 8 Try.f8 rfl rfl rfl rfl rfl rfl rfl ⟨rfl, rfl, rfl, rfl, rfl⟩ rfl rfl rfl rfl rfl (by kernel_rfl) Try.func8 (by kernel_rfl)
    (of_decide_eq_true (by kernel_rfl)) (by unfold Func.isWrapper; first | (rw [if_pos (by decide +kernel)]; kernel_rfl) | (rw [if_neg (by decide +kernel)]; exact ⟨rfl, rfl⟩))
    (fun os started H enc _ => lifted os started H enc)

/-- The statement. -/
theorem proved : Rows.FsRoomSaid := over
#print axioms proved
end Go.Proofs.Ytgjkocjgkbjciaa.fsRoom
