/-
  Proved here: whatever is created, appended, made sure, renamed, unlinked, crashed, and whatever room and fuse are set: all that the disk answers is as the document's model has it; for every size and every row of calls. Conditions: none.
-/
import Derived.Test.YtgjkocjgkbjciaaRows
import Derived.Test.YtgjkocjgkbjciaaStart
import Derived.Lib.Hide
import Derived.WalkKit
import Derived.ProofKit
import Derived.OpenShut
import Derived.ShutString
import Derived.ChangeOld
import Derived.Below
namespace Go.Proofs.Ytgjkocjgkbjciaa.fsPlays
open Go.ChangeShapes Go.WideShapes Go.ChangeAt Go.RowKit
set_option linter.unusedVariables false
set_option linter.unusedSimpArgs false
theorem own : ownKnob Try.prog.godebug = none := by kernel_rfl
theorem laidOut : laidOutB Try.prog = true := by kernel_rfl

/-! ### The walk -/
set_option maxHeartbeats 4000000 in
set_option maxRecDepth 100000 in
theorem walk (a0 : Int) (a1 : Option Addr) (x1 : List Fs.OpR) (cap1 : Nat) (w : World) (w0 : (Lit.int .i64 a0).wf = true) (l1 : x1.length ≤ cap1) (m1 : cap1 ≤ 9223372036854775807) (B1 : Fs.Ops w a1 x1) :
    Calls Try.prog 3 #[.int .i64 a0, .slice a1 x1.length cap1] w fun e w' => e = .returned (.bool true) ∧ Below w.heap.size w w' := by
  have HOps := Lib.hid B1
  obtain ⟨N, hN⟩ : ∃ N, N = x1.length := ⟨_, rfl⟩
  rw [← hN] at l1 ⊢
  have HN := Lib.hid hN
  clear B1 hN w0
  go_enter Try.func3, Try.ntmps3
  go_wp2_with fail
  refine (Fs.new a0 w).mono ?_
  rintro e v0 ⟨rfl, hd, k0, z0⟩
  have HT0 := Lib.hid (Fs.two_start a0 hd k0 z0)
  have HW0 : Hid (Below w.heap.size w (v0.alloc (.cells #[.slice none 0 0, .slice none 0 0, .slice none 0 0, .int .i64 (min (max a0 0) 16777216), .int .i64 (-1), .bool false] 31))) := Fs.quiet_below (k0.alloc _) (Nat.le_refl _)
  obtain ⟨q, hq⟩ : ∃ q, q = v0.heap.size := ⟨_, rfl⟩
  rw [← hq] at HT0
  have HQ := Lib.hid hq
  clear hd k0 z0 hq
  go_wp2_with (first | (go_at_call 11; refine (Fs.lawRoom a0 _).mono ?_; rintro e w' ⟨rfl, rfl⟩))
  rw [← HQ.out]
  go_loopw [7] (fun x wr => ∃ i : Nat, i ≤ N ∧ x = .int .i64 (i : Int) ∧ Hid (∃ s, Fs.Two wr w.heap.size w.heap.size q s ∧ s.bulk ≤ 2 * i) ∧ Hid (Below w.heap.size w wr)) (fun x _ => N - (intOf x).toNat)
  case atStart => exact ⟨0, by omega, rfl, ⟨_, HT0.out, by show 0 + 0 + 0 ≤ 0; omega⟩, HW0.out⟩
  case round =>
    obtain ⟨i, hi, rfl, HX, HW⟩ := hrel
    by_cases h8 : (i : Int) < (N : Int)
    · obtain ⟨s, hT, hBk⟩ := HX.out
      have hil : i < x1.length := by have := HN.out; omega
      obtain ⟨o, ho⟩ := Fs.getElem?_some_lt hil
      obtain ⟨b, off, hbl, rfl, hAt⟩ := HOps.out i o ho
      obtain ⟨x, c, c0, c1, c2, c3, c4, c5, r1, r2, r3, r4, r5, hBy⟩ := hAt.below hbl HW.out
      obtain ⟨kd, nn, mm, oa, ob, dt⟩ := o
      simp only at c0 c1 c2 c3 c4 c5 r1 r2 r3 r4 r5 hBy
      obtain ⟨L, hL⟩ : ∃ L, L = dt.length := ⟨_, rfl⟩
      rw [← hL] at c5 r1
      have HL := Lib.hid hL
      have HBy := Lib.hid hBy
      have HT := Lib.hid hT
      have HBk := Lib.hid hBk
      have HIL := Lib.hid hil
      have HWa : Hid (Below w.heap.size w (wr.alloc (.cells #[.int .i64 kd, .int .i64 nn, .int .i64 mm, .string oa, .string ob, .slice x L c] 34))) := HW.out.trans (Fs.quiet_below ((Fs.Keep.refl _ wr).alloc _) HW.out.size)
      clear hT hBk hil ho hbl hAt hBy hL HX
      by_cases h1k : (1000 : Int) < (L : Int)
      · go_wp2_with fail
        refine (Fs.answers (wr.alloc (.cells #[.int .i64 kd, .int .i64 nn, .int .i64 mm, .string oa, .string ob, .slice x L c] 34))).mono ?_
        rintro e v5 ⟨rfl, k5⟩
        have HW5 : Hid (Below w.heap.size w v5) := HWa.out.trans (Fs.quiet_below k5 HWa.out.size)
        clear k5
        go_wp2
        go_ret
        exact ⟨rfl, HW5.out⟩
      · by_cases h80 : (80 : Int) < (N : Int)
        · go_wp2_with fail
          refine (Fs.answers (wr.alloc (.cells #[.int .i64 kd, .int .i64 nn, .int .i64 mm, .string oa, .string ob, .slice x L c] 34))).mono ?_
          rintro e v5 ⟨rfl, k5⟩
          have HW5 : Hid (Below w.heap.size w v5) := HWa.out.trans (Fs.quiet_below k5 HWa.out.size)
          clear k5
          go_wp2
          go_ret
          exact ⟨rfl, HW5.out⟩
        · by_cases k1 : kd < 1
          · go_wp2
            go_roundw
            case rel => exact ⟨i + 1, by omega, by go_num, ⟨s, HT.out.quiet ((Fs.Keep.refl _ wr).alloc _), by have := HBk.out; omega⟩, HW.out.trans (Fs.quiet_below ((Fs.Keep.refl _ wr).alloc _) HW.out.size)⟩
            case measure => simp [intOf]; omega
          · by_cases k9 : (9 : Int) < kd
            · go_wp2
              go_roundw
              case rel => exact ⟨i + 1, by omega, by go_num, ⟨s, HT.out.quiet ((Fs.Keep.refl _ wr).alloc _), by have := HBk.out; omega⟩, HW.out.trans (Fs.quiet_below ((Fs.Keep.refl _ wr).alloc _) HW.out.size)⟩
              case measure => simp [intOf]; omega
            · by_cases k7 : (7 : Int) ≤ kd
              · have cO := Fs.other w.heap.size w.heap.size q s kd nn mm ⟨by omega, by omega⟩ r4 r5 (.string oa) (.string ob) (.slice x L c) (wr.alloc (.cells #[.int .i64 kd, .int .i64 nn, .int .i64 mm, .string oa, .string ob, .slice x L c] 34)) HWa.out.size (HT.out.quiet ((Fs.Keep.refl _ wr).alloc _))
                go_wp2_with fail
                refine cO.mono ?_
                rintro e v4 ⟨rfl, hT4, hb4⟩
                have HT4 := Lib.hid hT4
                have HW4 : Hid (Below w.heap.size w v4) := HWa.out.trans hb4
                have HB4 := Lib.hid (Fs.bulk_other s kd nn mm)
                have cA := Fs.alike w.heap.size w.heap.size q _ v4 hT4
                clear hT4 hb4 cO
                go_wp2_with fail
                refine cA.mono ?_
                rintro e v6 ⟨rfl, k6⟩
                have HT6 := Lib.hid (HT4.out.quiet k6)
                have HW6 : Hid (Below w.heap.size w v6) := HW4.out.trans (Fs.quiet_below k6 HW4.out.size)
                clear k6 cA
                go_wp2
                go_roundw
                case rel => exact ⟨i + 1, by omega, by go_num, ⟨_, HT6.out, by have := HBk.out; have := HB4.out; omega⟩, HW6.out⟩
                case measure => simp [intOf]; omega
              · obtain ⟨r, S, T, hTw, hSim, hNm⟩ := HT.out
                have hb2 : s.bulk + 2 ≤ 1000000 := by have := HBk.out; have := HIL.out; have := HN.out; omega
                have k1 : Fs.Keep (fun _ => False) wr (wr.alloc (.cells #[.int .i64 kd, .int .i64 nn, .int .i64 mm, .string oa, .string ob, .slice x L c] 34)) := (Fs.Keep.refl _ wr).alloc _
                have hz1 : ((wr.alloc (.cells #[.int .i64 kd, .int .i64 nn, .int .i64 mm, .string oa, .string ob, .slice x L c] 34))).heap.size = wr.heap.size + 1 := by simp
                have hT1 := hTw.quiet k1
                have hsd := Fs.sim_do hSim hTw.disk.good ⟨kd, nn, mm, oa, ob, dt⟩
                have hBy1 := HBy.out.quiet k1
                have cD : Hid (∀ v, Fs.Keep (fun _ => False) (wr.alloc (.cells #[.int .i64 kd, .int .i64 nn, .int .i64 mm, .string oa, .string ob, .slice x L c] 34)) v → Calls Try.prog 14 #[.pointer (some ⟨w.heap.size, 0, none⟩), .agg #[.int .i64 kd, .int .i64 nn, .int .i64 mm, .string oa, .string ob, .slice x L c]] v (Fs.Wrote v S w.heap.size (Fs.doS s ⟨kd, nn, mm, oa, ob, dt⟩) (Fs.doE s ⟨kd, nn, mm, oa, ob, dt⟩))) := fun v kv =>
                  Fs.doOp w.heap.size S s kd nn mm oa ob dt x L c r2 r3 HL.out.symm (by omega) (fun k => k < w.heap.size) (fun b hb hs => by have := (hTw.hS b hs).1; omega) hb2 v (hBy1.quiet kv) (fun b hs => by have := (hTw.hS b hs).2; have := kv.size; omega) (hT1.disk.keep kv (fun _ _ h => h))
                have cR : Hid (∀ v, Fs.Keep S (wr.alloc (.cells #[.int .i64 kd, .int .i64 nn, .int .i64 mm, .string oa, .string ob, .slice x L c] 34)) v → Calls Try.prog 15 #[.pointer (some ⟨q, 0, none⟩), .int .i64 kd, .string oa, .string ob, .slice x L c] v (Fs.RW v T q (Fs.doS r ⟨kd, nn, mm, oa, ob, dt⟩) (Fs.doE s ⟨kd, nn, mm, oa, ob, dt⟩))) := fun v kv => by
                  rw [← hsd.1]
                  exact Fs.refDo q T r (by rw [hSim.bulk]; exact hb2) kd nn mm (by omega) (by omega) oa ob r2 r3 x L c dt HL.out.symm (by omega) (fun k => k < w.heap.size) (fun b hb hs => by have := (hTw.hT b hs).1; omega) v (hBy1.keep kv (fun b _ hb hs => by have := (hTw.hS b hs).1; omega)) (hT1.ref.keep kv (fun b hb hs => hTw.apart b hs hb))
                have hAt : Fs.At (wr.alloc (.cells #[.int .i64 kd, .int .i64 nn, .int .i64 mm, .string oa, .string ob, .slice x L c] 34)) wr.heap.size 34 #[.int .i64 kd, .int .i64 nn, .int .i64 mm, .string oa, .string ob, .slice x L c] := Fs.At.new wr _ _
                have HAt := Lib.hid hAt
                have HTw := Lib.hid hTw
                have HT1 := Lib.hid hT1
                have HSd := Lib.hid hsd
                have HGd := Lib.hid hTw.disk.good
                have HNm := Lib.hid (Fs.nmd_do hNm ⟨kd, nn, mm, oa, ob, dt⟩)
                have HB4 := Lib.hid (Fs.bulk_do s ⟨kd, nn, mm, oa, ob, dt⟩)
                obtain ⟨E, hE⟩ : ∃ E, E = Fs.doE s ⟨kd, nn, mm, oa, ob, dt⟩ := ⟨_, rfl⟩
                rw [← hE] at cD cR
                clear hTw hSim hNm hT1 hsd hBy1 hAt hE k1
                go_wp2_with fail
                clear c0 c1 c2 c3 c4 c5
                refine wp_region_noPanic ?_
                refine wp_region_held_drew (S := fun w' => Fs.At w' wr.heap.size 34 #[.int .i64 kd, .int .i64 nn, .int .i64 mm, .string oa, .string ob, .slice x L c]) (by kernel_rfl) HAt.out.drew (fun hHeld => ?_)
                refine wpAnyH_take (i := 0) (v := ?_) rfl (by kernel_rfl) (by kernel_rfl) (by kernel_rfl) (fun _ _ _ h => h) (Or.inl ⟨by rfl, ?_⟩) (by assumption) ?_
                rotate_left
                · (intro wS hSw; obtain ⟨s0, s1, s2, s3, s4, s5⟩ := Fs.cells6 hSw; clear hSw; (try simp only [List.getElem_toArray, List.getElem_cons_succ, List.getElem_cons_zero]); go_simp; try (with_reducible rfl))
                try simp only [Act.put, List.getElem_toArray, List.getElem_cons_succ, List.getElem_cons_zero, List.setIfInBounds_toArray, List.set_cons_zero, List.set_cons_succ]
                refine wpAnyH_take (i := 1) (v := ?_) rfl (by kernel_rfl) (by kernel_rfl) (by kernel_rfl) (fun _ _ _ h => h) (Or.inl ⟨by rfl, ?_⟩) (by assumption) ?_
                rotate_left
                · (intro wS hSw; obtain ⟨s0, s1, s2, s3, s4, s5⟩ := Fs.cells6 hSw; clear hSw; (try simp only [List.getElem_toArray, List.getElem_cons_succ, List.getElem_cons_zero]); go_simp; try (with_reducible rfl))
                try simp only [Act.put, List.getElem_toArray, List.getElem_cons_succ, List.getElem_cons_zero, List.setIfInBounds_toArray, List.set_cons_zero, List.set_cons_succ]
                refine wpAnyH_take (i := 3) (v := ?_) rfl (by kernel_rfl) (by kernel_rfl) (by kernel_rfl) (fun _ _ _ h => h) (Or.inl ⟨by rfl, ?_⟩) (by assumption) ?_
                rotate_left
                · (intro wS hSw; obtain ⟨s0, s1, s2, s3, s4, s5⟩ := Fs.cells6 hSw; clear hSw; (try simp only [List.getElem_toArray, List.getElem_cons_succ, List.getElem_cons_zero]); go_simp; try (with_reducible rfl))
                try simp only [Act.put, List.getElem_toArray, List.getElem_cons_succ, List.getElem_cons_zero, List.setIfInBounds_toArray, List.set_cons_zero, List.set_cons_succ]
                refine wpAnyH_take (i := 4) (v := ?_) rfl (by kernel_rfl) (by kernel_rfl) (by kernel_rfl) (fun _ _ _ h => h) (Or.inl ⟨by rfl, ?_⟩) (by assumption) ?_
                rotate_left
                · (intro wS hSw; obtain ⟨s0, s1, s2, s3, s4, s5⟩ := Fs.cells6 hSw; clear hSw; (try simp only [List.getElem_toArray, List.getElem_cons_succ, List.getElem_cons_zero]); go_simp; try (with_reducible rfl))
                try simp only [Act.put, List.getElem_toArray, List.getElem_cons_succ, List.getElem_cons_zero, List.setIfInBounds_toArray, List.set_cons_zero, List.set_cons_succ]
                refine wpAnyH_take (i := 5) (v := ?_) rfl (by kernel_rfl) (by kernel_rfl) (by kernel_rfl) (fun _ _ _ h => h) (Or.inl ⟨by rfl, ?_⟩) (by assumption) ?_
                rotate_left
                · (intro wS hSw; obtain ⟨s0, s1, s2, s3, s4, s5⟩ := Fs.cells6 hSw; clear hSw; (try simp only [List.getElem_toArray, List.getElem_cons_succ, List.getElem_cons_zero]); go_simp; try (with_reducible rfl))
                try simp only [Act.put, List.getElem_toArray, List.getElem_cons_succ, List.getElem_cons_zero, List.setIfInBounds_toArray, List.set_cons_zero, List.set_cons_succ]
                refine wpAnyH_take (i := 6) (v := ?_) rfl (by kernel_rfl) (by kernel_rfl) (by kernel_rfl) (fun _ _ _ h => h) (Or.inl ⟨by rfl, ?_⟩) (by assumption) ?_
                rotate_left
                · (intro wS hSw; obtain ⟨s0, s1, s2, s3, s4, s5⟩ := Fs.cells6 hSw; clear hSw; (try simp only [List.getElem_toArray, List.getElem_cons_succ, List.getElem_cons_zero]); go_simp; try (with_reducible rfl))
                try simp only [Act.put, List.getElem_toArray, List.getElem_cons_succ, List.getElem_cons_zero, List.setIfInBounds_toArray, List.set_cons_zero, List.set_cons_succ]
                refine wpAnyH_take (i := 7) (v := ?_) rfl (by kernel_rfl) (by kernel_rfl) (by kernel_rfl) (fun _ _ _ h => h) (Or.inl ⟨by rfl, ?_⟩) (by assumption) ?_
                rotate_left
                · (intro wS hSw; obtain ⟨s0, s1, s2, s3, s4, s5⟩ := Fs.cells6 hSw; clear hSw; (try simp only [List.getElem_toArray, List.getElem_cons_succ, List.getElem_cons_zero]); go_simp; try (with_reducible rfl))
                try simp only [Act.put, List.getElem_toArray, List.getElem_cons_succ, List.getElem_cons_zero, List.setIfInBounds_toArray, List.set_cons_zero, List.set_cons_succ]
                refine wpAnyH_take (i := 8) (v := ?_) rfl (by kernel_rfl) (by kernel_rfl) (by kernel_rfl) (fun _ _ _ h => h) (Or.inl ⟨by rfl, ?_⟩) (by assumption) ?_
                rotate_left
                · (intro wS hSw; obtain ⟨s0, s1, s2, s3, s4, s5⟩ := Fs.cells6 hSw; clear hSw; (try simp only [List.getElem_toArray, List.getElem_cons_succ, List.getElem_cons_zero]); go_simp; try (with_reducible rfl))
                try simp only [Act.put, List.getElem_toArray, List.getElem_cons_succ, List.getElem_cons_zero, List.setIfInBounds_toArray, List.set_cons_zero, List.set_cons_succ]
                refine wpAnyH_take (i := 9) (v := ?_) rfl (by kernel_rfl) (by kernel_rfl) (by kernel_rfl) (fun _ _ _ h => h) (Or.inl ⟨by rfl, ?_⟩) (by assumption) ?_
                rotate_left
                · (intro wS hSw; obtain ⟨s0, s1, s2, s3, s4, s5⟩ := Fs.cells6 hSw; clear hSw; (try simp only [List.getElem_toArray, List.getElem_cons_succ, List.getElem_cons_zero]); go_simp; try (with_reducible rfl))
                try simp only [Act.put, List.getElem_toArray, List.getElem_cons_succ, List.getElem_cons_zero, List.setIfInBounds_toArray, List.set_cons_zero, List.set_cons_succ]
                refine wpAnyH_take (i := 10) (v := ?_) rfl (by kernel_rfl) (by kernel_rfl) (by kernel_rfl) (fun _ _ _ h => h) (Or.inl ⟨by rfl, ?_⟩) (by assumption) ?_
                rotate_left
                · (intro wS hSw; obtain ⟨s0, s1, s2, s3, s4, s5⟩ := Fs.cells6 hSw; clear hSw; (try simp only [List.getElem_toArray, List.getElem_cons_succ, List.getElem_cons_zero]); go_simp; try (with_reducible rfl))
                try simp only [Act.put, List.getElem_toArray, List.getElem_cons_succ, List.getElem_cons_zero, List.setIfInBounds_toArray, List.set_cons_zero, List.set_cons_succ]
                refine wpAnyH_take (i := 11) (v := ?_) rfl (by kernel_rfl) (by kernel_rfl) (by kernel_rfl) (fun _ _ _ h => h) (Or.inl ⟨by rfl, ?_⟩) (by assumption) ?_
                rotate_left
                · (intro wS hSw; obtain ⟨s0, s1, s2, s3, s4, s5⟩ := Fs.cells6 hSw; clear hSw; (try simp only [List.getElem_toArray, List.getElem_cons_succ, List.getElem_cons_zero]); go_simp; try (with_reducible rfl))
                try simp only [Act.put, List.getElem_toArray, List.getElem_cons_succ, List.getElem_cons_zero, List.setIfInBounds_toArray, List.set_cons_zero, List.set_cons_succ]
                refine wpAnyH_ready (rs := [2]) (by kernel_rfl) (by simp) ?_
                refine AllReadyH.cons rfl (fun K hK => ?_) AllReadyH.nil
                go_simp
                refine (cD.out _ (Fs.Keep.refl _ _).drew).mono ?_
                rintro e v3 ⟨rfl, hd3, k3⟩
                have HK3 : Hid (Fs.Keep S (wr.alloc (.cells #[.int .i64 kd, .int .i64 nn, .int .i64 mm, .string oa, .string ob, .slice x L c] 34)) v3) := ((Fs.Keep.refl S _).drew).trans k3 (fun _ _ h => h)
                have HD3 : Hid (Fs.Disk v3 (Fs.Up S (wr.alloc (.cells #[.int .i64 kd, .int .i64 nn, .int .i64 mm, .string oa, .string ob, .slice x L c] 34)) v3) w.heap.size (Fs.doS s ⟨kd, nn, mm, oa, ob, dt⟩)) := hd3
                have HA3 : Hid (Fs.At v3 wr.heap.size 34 #[.int .i64 kd, .int .i64 nn, .int .i64 mm, .string oa, .string ob, .slice x L c]) := HAt.out.keep HK3.out (fun hs => by have := (HTw.out.hS _ hs).2; omega)
                clear hd3 k3 cD
                go_wp2_with fail
                refine hK.out _ _ HA3.out (fun hHeld => ?_)
                clear hK K
                try simp only [Act.put, List.getElem_toArray, List.getElem_cons_succ, List.getElem_cons_zero, List.setIfInBounds_toArray, List.set_cons_zero, List.set_cons_succ]
                refine wpAnyH_ready (rs := [12]) (by kernel_rfl) (by simp) ?_
                refine AllReadyH.cons rfl (fun K hK => ?_) AllReadyH.nil
                go_simp
                refine (cR.out _ HK3.out).mono ?_
                rintro e v4 ⟨rfl, hd4, k4⟩
                have HD4 := Lib.hid hd4
                have HK4 := Lib.hid k4
                have HA4 : Hid (Fs.At v4 wr.heap.size 34 #[.int .i64 kd, .int .i64 nn, .int .i64 mm, .string oa, .string ob, .slice x L c]) := HA3.out.keep k4 (fun hs => by have := (HTw.out.hT _ hs).2; omega)
                clear hd4 k4 cR
                go_wp2_with fail
                refine hK.out _ _ HA4.out (fun hHeld => ?_)
                clear hK K
                try simp only [Act.put, List.getElem_toArray, List.getElem_cons_succ, List.getElem_cons_zero, List.setIfInBounds_toArray, List.set_cons_zero, List.set_cons_succ]
                refine wpAnyH_take (i := 13) (v := ?_) rfl (by kernel_rfl) (by kernel_rfl) (by kernel_rfl) (fun _ _ _ h => h) (Or.inl ⟨by rfl, ?_⟩) (by assumption) ?_
                rotate_left
                · (intro wS hSw; obtain ⟨s0, s1, s2, s3, s4, s5⟩ := Fs.cells6 hSw; clear hSw; (try simp only [List.getElem_toArray, List.getElem_cons_succ, List.getElem_cons_zero]); go_simp; try (with_reducible rfl))
                try simp only [Act.put, List.getElem_toArray, List.getElem_cons_succ, List.getElem_cons_zero, List.setIfInBounds_toArray, List.set_cons_zero, List.set_cons_succ]
                refine wpAnyH_done (by kernel_rfl) ?_ _
                refine NoPanic.normal ?_
                have HW4 : Hid (Below w.heap.size w v4) := HWa.out.trans ((HK3.out.below HWa.out.size (fun b hs => (HTw.out.hS b hs).1)).trans (HK4.out.below (by have := HWa.out.size; have := HK3.out.size; omega) (fun b hs => (HTw.out.hT b hs).1)))
                have HT4 : Hid (Fs.Two v4 w.heap.size w.heap.size q (Fs.doS s ⟨kd, nn, mm, oa, ob, dt⟩)) := ⟨_, _, _, (HT1.out.onDisk HWa.out.size HD3.out HK3.out).onRef (by have := HWa.out.size; have := HK3.out.size; omega) HD4.out HK4.out, HSd.out.2, HNm.out⟩
                have cA := Fs.alike w.heap.size w.heap.size q _ v4 HT4.out
                clear hHeld HD3 HD4 HK3 HK4 HA3 HA4 HAt HTw HT1 HSd HGd HNm
                go_wp2_with fail
                refine cA.mono ?_
                rintro e v6 ⟨rfl, k6⟩
                have HT6 := Lib.hid (HT4.out.quiet k6)
                have HW6 : Hid (Below w.heap.size w v6) := HW4.out.trans (Fs.quiet_below k6 HW4.out.size)
                clear k6 cA
                go_wp2
                go_roundw
                case rel => exact ⟨i + 1, by omega, by go_num, ⟨_, HT6.out, by have := HBk.out; have := HB4.out; omega⟩, HW6.out⟩
                case measure => simp [intOf]; omega
    · go_wp2_with fail
      refine (Fs.answers wr).mono ?_
      rintro e v5 ⟨rfl, k5⟩
      have HW5 : Hid (Below w.heap.size w v5) := HW.out.trans (Fs.quiet_below k5 HW.out.size)
      clear k5
      go_wp2
      go_ret
      exact ⟨rfl, HW5.out⟩

/-! ### The row's step -/
set_option maxRecDepth 100000 in
theorem lifted (os : Os) (started : os.Started) (H : Type) (enc : TypeId × Value → H) :
    ReturnsInHanded {} Try.checked os 3 .any (Rows.fsPlaysSpec.pre6 enc Try.prog Try.f3 Rows.fsPlaysRow.domain false) (Rows.fsPlaysSpec.post enc Try.prog Try.f3 false true false false) := by
  refine returnsInHanded_of_change_sized (C := Try.checked) own started (by kernel_rfl) Try.func3
    (ChangeSpec.witness6 (enc := enc) (C := Try.checked) false ⟨#[], #[.int .i64 0, .slice none 0 0], []⟩ 8 (by kernel_rfl) (by kernel_rfl) (by kernel_rfl) (by kernel_rfl)) ?_
  intro W base args ds gs before hval0 hW hcnd hsz _
  have hval : ∀ (j : Nat) t v, Try.f3.params[j]? = some t → args[j]? = some v → Value.okWide Try.prog W .any base t v := hval0
  have hW' := hW
  obtain ⟨p, q, hA0, hV, rfl, hfz, hnd⟩ := hW
  have hA : DataW.TrodAll enc Try.prog W 0 (fun _ => true) true Try.f3.params.toList args.toList ds p := hA0
  rw [Try.params3] at hA hval hsz
  obtain ⟨v0, vs0, d0, ds0, p0, q0, hargs, rfl, rfl, h0, r0⟩ := trodAll_cons hA
  obtain ⟨v1, vs1, d1, ds1, p1, q1, rfl, rfl, rfl, h1, r1⟩ := trodAll_cons r0
  obtain ⟨rfl, rfl, rfl⟩ := trodAll_nil r1
  obtain rfl : args = #[v0, v1] := by cases args; simp_all
  obtain ⟨rfl, rfl⟩ := trodVars_none hV
  obtain ⟨a0, rfl, rfl, rfl, w0⟩ := open_int Try.underlying3 (hval 0 3 v0 rfl rfl) h0
  obtain ⟨a1, len1, cap1, rfl⟩ := okWide_slice Try.underlying22 (hval 1 22 v1 rfl rfl)
  have k1 := h1
  have lt1 : ∀ x ∈ p1, x.block < W.heap.size := by obtain ⟨m, hm⟩ := k1; exact DataW.trod_lt m _ _ _ hm
  obtain ⟨b1, x1, c1, e1, l1, m1, B1⟩ : ∃ a ops cap, Value.slice a1 len1 cap1 = .slice a ops.length cap ∧ ops.length ≤ cap ∧ cap ≤ 9223372036854775807 ∧ Fs.Ops W a ops := by
    obtain ⟨fuel, hf⟩ := h1
    exact Fs.arg_ops hf
  injection e1 with e1 f1 g1
  subst e1 f1 g1
  clear hA0 hval0
  refine (walk a0 a1 x1 cap1 W w0 l1 m1 B1).mono fun e W' ⟨he, bel⟩ => ?_
  subst he
  exact ⟨_, rfl, _, _, _, [], _, [], hW', trodAll_mk1 (shut_bool Try.underlying4 _), (trodAll_cons_mk (shut_int Try.underlying3 w0) (trodAll_cons_mk (Below.trod laidOut (by kernel_rfl) (of_decide_eq_true (by kernel_rfl)) k1 bel lt1) trodAll_mk0)), rfl, bel.frame _, fun h => by cases h⟩

theorem over : Rows.fsPlaysRow.holds Try.pinned (OpenSpec.ofChange Rows.fsPlaysSpec) :=
  OpenClaim.holds_of_wide 3 Try.f3 rfl rfl rfl rfl rfl rfl rfl ⟨rfl, rfl, rfl, rfl, rfl⟩ rfl rfl rfl rfl rfl (by kernel_rfl) Try.func3 (by kernel_rfl)
    (of_decide_eq_true (by kernel_rfl)) (by unfold Func.isWrapper; first | (rw [if_pos (by decide +kernel)]; kernel_rfl) | (rw [if_neg (by decide +kernel)]; exact ⟨rfl, rfl⟩))
    (fun os started H enc _ => lifted os started H enc)

/-- The statement. -/
theorem proved : Rows.FsPlaysSaid := over
#print axioms proved
end Go.Proofs.Ytgjkocjgkbjciaa.fsPlays
