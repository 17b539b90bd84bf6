/-
  Stage 13: IdsRow, over what is asked of the program.
-/
import Derived.Test.YtlpeiejohgchmaaDoorI4
namespace Go.Proofs.YtlpeiejohgchmaaDoor.Fs
open Go.RowKit Go.Shelf Go.Maps
set_option linter.unusedVariables false
set_option linter.unusedSimpArgs false

/-- j numbers have been given since Open, which found b; no power was cut. -/
structure RowI (b c j : Nat) (s : St) (x : Ix) : Prop where
  inv : Inv 0 c s x
  fuse : s.fuse = none
  last : x.last = b + j
  most : x.most = b + (j + 15) / 16 * 16
theorem row_step {b c j : Nat} {s : St} {x : Ix} (h : RowI b c j s x) (hc : 16 * c + 16 ≤ topN) :
    nextE s x = 0 ∧ nextN s x = b + j + 1 ∧ RowI b (c + 1) (j + 1) (nextS s x) (nextX s x) ∧ (nextS s x).now.length = 1 := by
  obtain ⟨e1, e2, e3, e4, e5⟩ := next_free (by omega) hc h.inv h.fuse
  have hl := h.last
  have hm := h.most
  have hcap := h.inv.cap
  have hhas : (nextX s x).has = true := by
    rw [e5]
    split
    · rfl
    · rename_i hx
      cases hh : x.has with
      | true => rfl
      | false =>
        have h0 := h.inv.none hh
        have h1 := h.inv.views.now.2.1
        rw [h0] at h1
        have : mostD [] = 0 := rfl
        omega
  refine ⟨e1, by rw [e2, hl], ⟨e3, e4, ?_, ?_⟩, e3.one hhas⟩
  · rw [e5]
    split <;> simp [hl] <;> omega
  · rw [e5]
    split
    · rename_i hx
      have hu : upN x = x.last + 16 := Nat.min_eq_left (by omega)
      show upN x = _
      rw [hu]
      clear hu hc
      omega
    · rename_i hx
      show x.most = _
      omega
theorem row_new (n : Int) : RowI 0 0 0 (newS n) x0 := by
  have hn : (newS n).now = [] := rfl
  refine ⟨⟨rfl, Nat.le_refl _, Nat.zero_le _, all_rest rfl ?_, ?_, fun e => (by cases e), fun _ => hn, Nat.le_refl _, Nat.zero_le _⟩, rfl, rfl, rfl⟩
  · rw [hn]
    exact ⟨fun p hp => (by cases hp), rfl, Nat.zero_le _⟩
  · rw [hn]
    exact Nat.zero_le _
theorem row_again {b c j : Nat} {s : St} {x : Ix} (h : RowI b c j s x) (hc : 16 * c ≤ topN) : RowI (b + (j + 15) / 16 * 16) c 0 s (openX s) ∧ (openX s).last = b + (j + 15) / 16 * 16 := by
  obtain ⟨e, hI⟩ := h.inv.again hc
  have hm := h.most
  refine ⟨⟨hI, h.fuse, ?_, ?_⟩, ?_⟩
  · rw [e]; exact hm
  · rw [e]; exact hm
  · rw [e]; exact hm
theorem row_bulk {b c j : Nat} {s : St} {x : Ix} (h : RowI b c j s x) (hc : c ≤ 900000) : s.bulk + 4 ≤ 1000000 := by
  have := h.inv.bulk
  omega
theorem listed_len {w w' : World} {d : Dir} {e : Ending} (h : Listed w d e w') : ∃ x cap, e = .returned (.slice x d.length cap) := by
  obtain ⟨v, rfl, hrow, _⟩ := h
  obtain ⟨x, cap, e, _⟩ := ownsRow_shape (ownsRow_base_a hrow (Nat.zero_le _))
  exact ⟨x, cap, by rw [e]⟩
set_option maxRecDepth 100000 in
set_option maxHeartbeats 4000000 in
theorem idsRowL (H : IdsC) (N M : Nat) (hN : N ≤ 255) (hM : M ≤ 255) (w : World) (hG : Glob w) :
    Calls Tryd.prog 5 #[.int .u8 (N : Int), .int .u8 (M : Int)] w fun e w' => e = .returned (.bool true) ∧ Below w.heap.size w w' := by
  have HA : Hid (∀ W, Glob W → Calls Tryd.prog 8 #[] W fun e w' => e = .returned (.bool true) ∧ Keep (fun _ => False) W w') := Lib.hid (answersC H)
  have HG := Lib.hid hG
  clear hG
  go_enter Tryd.func5, Tryd.ntmps5
  go_wp2_with fail
  refine (gNew HG.out 1000).mono ?_
  rintro e w1 ⟨rfl, hd1, k1⟩
  have HB1 : Hid (Below w.heap.size w w1) := Lib.hid (quiet_below k1 (Nat.le_refl _))
  have cO := H.opens _ _ _ _ hd1 rfl (short_new _)
  clear k1 hd1
  go_wp2_with fail
  refine cO.mono ?_
  rintro e w2 ⟨X, rfl, hs2, b2⟩
  rw [open_new] at hs2
  have HB2 : Hid (Below w.heap.size w w2) := Lib.hid (HB1.out.trans b2)
  have HS2 := Lib.hid hs2
  clear cO b2 hs2
  go_wp2
  go_loopw [8] (fun i wr => ∃ (j : Nat) (s : St) (x : Ix), j ≤ N ∧ i = .int .i64 ((j + 1 : Nat) : Int) ∧ Hid (Sys w.heap.size wr w.heap.size X s x) ∧ Hid (RowI 0 j j s x) ∧ Hid (Below w.heap.size w wr)) (fun i _ => 300 - (intOf i).toNat)
  case atStart => exact ⟨0, _, _, Nat.zero_le _, rfl, HS2, Lib.hid (row_new 1000), HB2⟩
  case round =>
    obtain ⟨j, s, x, hj, rfl, HS, HR, HB⟩ := hrel
    by_cases hlt : ((j + 1 : Nat) : Int) ≤ (N : Int)
    · obtain ⟨r1, r2, r3, r4⟩ := row_step HR.out (by unfold topN; omega)
      have cN := H.next _ _ _ _ _ _ HS.out (row_bulk HR.out (by omega))
      rw [r1, r2] at cN
      have HR3 := Lib.hid r3
      have HR4 := Lib.hid r4
      clear r1 r2 r3 r4
      go_wp2_with fail
      refine cN.mono ?_
      rintro e w5 ⟨rfl, hs5, b5⟩
      have cL := sList hs5 HR3.out.inv.up
      have HB5 : Hid (Below w.heap.size w w5) := Lib.hid (HB.out.trans b5)
      clear hs5 b5 cN
      have e0 : ((0 + j + 1 : Nat) : Int) = ((j + 1 : Nat) : Int) := by omega
      rw [e0]
      go_wp2_with fail
      refine cL.mono ?_
      rintro e w6 ⟨hL, hs6, b6⟩
      obtain ⟨vx, vc, rfl⟩ := listed_len hL
      rw [HR4.out]
      have HS6 := Lib.hid hs6
      have HB6 : Hid (Below w.heap.size w w6) := Lib.hid (HB5.out.trans b6)
      clear hL hs6 b6 cL HB5 HB HS HR HB1 HB2 HS2
      go_wp2
      go_roundw
      case rel => exact ⟨j + 1, _, _, by omega, by go_num, HS6, HR3, HB6⟩
      case measure => simp [intOf]; omega
    · have hjN : j = N := by omega
      subst hjN
      obtain ⟨hra, hla⟩ := row_again HR.out (by unfold topN; omega)
      have cO := H.opens _ _ _ _ HS.out.disk HR.out.inv.up HR.out.inv.views.now.1.short
      have HRA := Lib.hid hra
      have HLA := Lib.hid hla
      clear hra hla
      go_wp2_with fail
      refine cO.mono ?_
      rintro e w5 ⟨Y, rfl, hs5, b5⟩
      have HS5 := Lib.hid hs5
      have HB5 : Hid (Below w.heap.size w w5) := Lib.hid (HB.out.trans b5)
      clear cO b5 hs5 HB HS HR HB1 HB2 HS2
      go_wp2
      obtain ⟨B, hB⟩ : ∃ B : Nat, B = 0 + (j + 15) / 16 * 16 := ⟨_, rfl⟩
      have hBi : ((j : Int) + 15) / 16 * 16 = (B : Int) := by omega
      have hB9 : B ≤ 300 := by omega
      rw [← hB] at HRA HLA
      rw [hBi]
      clear hB hBi
      go_loopw [14] (fun i wr => ∃ (k : Nat) (s : St) (y : Ix), k ≤ M ∧ i = .int .i64 ((k + 1 : Nat) : Int) ∧ Hid (Sys w.heap.size wr w.heap.size Y s y) ∧ Hid (RowI B (j + k) k s y) ∧ Hid (Below w.heap.size w wr)) (fun i _ => 300 - (intOf i).toNat)
      case atStart => exact ⟨0, _, _, Nat.zero_le _, rfl, HS5, HRA, HB5⟩
      case round =>
        obtain ⟨k, t, y, hk, rfl, HS, HR, HB⟩ := hrel
        by_cases hlt : ((k + 1 : Nat) : Int) ≤ (M : Int)
        · obtain ⟨r1, r2, r3, r4⟩ := row_step HR.out (by unfold topN; omega)
          have cN := H.next _ _ _ _ _ _ HS.out (row_bulk HR.out (by omega))
          rw [r1, r2] at cN
          have HR3 := Lib.hid r3
          have HR4 := Lib.hid r4
          clear r1 r2 r3 r4
          go_wp2_with fail
          refine cN.mono ?_
          rintro e w7 ⟨rfl, hs7, b7⟩
          have cL := sList hs7 HR3.out.inv.up
          have HB7 : Hid (Below w.heap.size w w7) := Lib.hid (HB.out.trans b7)
          clear hs7 b7 cN
          have e0 : ((B + k + 1 : Nat) : Int) = (B : Int) + ((k + 1 : Nat) : Int) := by omega
          rw [e0]
          go_wp2_with fail
          refine cL.mono ?_
          rintro e w8 ⟨hL, hs8, b8⟩
          obtain ⟨vx, vc, rfl⟩ := listed_len hL
          rw [HR4.out]
          have HS8 := Lib.hid hs8
          have HB8 : Hid (Below w.heap.size w w8) := Lib.hid (HB7.out.trans b8)
          clear hL hs8 b8 cL HB5 HB7 HB HS HR HS5
          go_wp2
          go_roundw
          case rel => exact ⟨k + 1, _, _, by omega, by go_num, HS8, HR3, HB8⟩
          case measure => simp [intOf]; omega
        · have hkM : k = M := by omega
          subst hkM
          have hnl : ¬ (((k + 1 : Nat) : Int) ≤ (k : Int)) := by omega
          by_cases h0 : 0 < (k : Int)
          · go_wp2_with fail
            refine (HA.out _ (HG.out.below HB.out HG.out.1)).mono ?_
            rintro e w9 ⟨rfl, k9⟩
            have HB9 : Hid (Below w.heap.size w w9) := Lib.hid (HB.out.trans (quiet_below k9 HB.out.size))
            clear k9 HA HB HS HR HB5 HS5
            go_wp2
            go_ret
            exact ⟨rfl, HB9.out⟩
          · obtain rfl : k = 0 := by omega
            go_wp2_with fail
            refine (HA.out _ (HG.out.below HB.out HG.out.1)).mono ?_
            rintro e w9 ⟨rfl, k9⟩
            have cL := H.last _ _ _ _ _ _ (HS.out.quiet k9)
            rw [HR.out.last] at cL
            have HB9 : Hid (Below w.heap.size w w9) := Lib.hid (HB.out.trans (quiet_below k9 HB.out.size))
            clear k9 HA HB HS HR HB5 HS5
            go_wp2_with fail
            refine cL.mono ?_
            rintro e w10 ⟨rfl, rfl⟩
            go_wp2
            go_ret
            exact ⟨rfl, HB9.out⟩
end Go.Proofs.YtlpeiejohgchmaaDoor.Fs
