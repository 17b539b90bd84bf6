/-
  Stage 13: IdsNever, over what is asked of the program.
-/
import Derived.Test.YtlpeiejohgchmaaDoorI4
namespace Go.Proofs.YtlpeiejohgchmaaDoor.Fs
open Go.RowKit Go.Shelf Go.Maps
set_option linter.unusedVariables false
set_option linter.unusedSimpArgs false

theorem Rest.less {i c L L' : Nat} {s : St} (h : Rest i c L s) (hl : L' ≤ L) : Rest i c L' s := ⟨h.up, h.loose, h.fuse, h.names, Nat.le_trans hl h.most, h.len, h.files⟩
theorem Fell.more {i c c' L : Nat} {s : St} (h : Fell i c L s) (hc : c ≤ c') : Fell i c' L s := ⟨h.1.mono fun d hd => ⟨hd.1.mono (by omega), hd.2⟩, Nat.le_trans h.2 hc⟩
theorem Inv.more {i c c' : Nat} {s : St} {x : Ix} (h : Inv i c s x) (hc : c ≤ c') : Inv i c' s x := ⟨h.up, h.le, by have := h.cap; omega, h.views, h.now, h.has, h.none, by have := h.files; omega, h.loose⟩
theorem Rest.more {i c c' L : Nat} {s : St} (h : Rest i c L s) (hc : c ≤ c') : Rest i c' L s := ⟨h.up, h.loose, h.fuse, h.names.mono (by omega), h.most, h.len, Nat.le_trans h.files hc⟩
/-- What a Next does in a round of the law: a number above the last, or the power is gone. -/
inductive Nx (i c L : Nat) (s : St) (x : Ix) : Prop
  | ok (h1 : nextE s x = 0) (h2 : nextN s x = x.last + 1) (h3 : (nextX s x).last = x.last + 1) (h4 : Inv i c (nextS s x) (nextX s x)) (h5 : L < x.last + 1)
  | down (h1 : nextE s x = 2) (h2 : nextN s x = 0) (h3 : Fell i c L (nextS s x))
theorem nx {i c L : Nat} {s : St} {x : Ix} (hi : i ≤ 200) (hc : 16 * c + 16 ≤ topN) (h : Inv i c s x) (hL : L ≤ x.last) : Nx i (c + 1) L s x := by
  rcases next_inv hi hc h with ⟨h1, h2, h3, h4⟩ | ⟨h1, h2, h3⟩
  · exact .ok h1 h2 h3 h4 (by omega)
  · exact .down h1 h2 ⟨h3.1.mono fun d hd => ⟨hd.1, Nat.le_trans hL hd.2.1, hd.2.2⟩, h3.2⟩
theorem inv_bulk4 {i c : Nat} {s : St} {x : Ix} (h : Inv i c s x) (hc : c ≤ 90000) (hi : i ≤ 200) : s.bulk + 4 ≤ 1000000 := by
  have := h.bulk
  omega
theorem Sys.to {b b' f X : Nat} {w w' : World} {s : St} {x : Ix} (h : Sys b w f X s x) : DG b w f s := h.disk
set_option maxRecDepth 100000 in
set_option maxHeartbeats 16000000 in
theorem idsNeverL (H : IdsC) (a0 : Option Addr) (F : List Nat) (nF : Nat) (hnF : nF = F.length) (cap0 : Nat) (a1 : Option Addr) (C : List Nat) (nC : Nat) (hnC : nC = C.length) (cap1 : Nat) (dirs : Int) (w : World) (B0 : Bytes (fun k => k < w.heap.size) w a0 F) (B1 : Bytes (fun k => k < w.heap.size) w a1 C)
    (hF9 : nF ≤ 9223372036854775807) (hC9 : nC ≤ 9223372036854775807) (hG : Glob w) :
    Calls Tryd.prog 4 #[.slice a0 nF cap0, .slice a1 nC cap1, .int .i64 dirs] w fun e w' => e = .returned (.bool true) ∧ Below w.heap.size w w' := by
  have HA : Hid (∀ W, Glob W → Calls Tryd.prog 8 #[] W fun e w' => e = .returned (.bool true) ∧ Keep (fun _ => False) W w') := Lib.hid (answersC H)
  have HG := Lib.hid hG
  clear hG
  have HnF := Lib.hid hnF
  have HnC := Lib.hid hnC
  have HB0 := Lib.hid B0
  have HB1 := Lib.hid B1
  clear B0 B1 hnF hnC
  by_cases hlong : 40 < (nF : Int)
  · go_enter Tryd.func4, Tryd.ntmps4
    go_wp2_with fail
    refine (HA.out _ HG.out).mono ?_
    rintro e w1 ⟨rfl, k1⟩
    go_wp2
    go_ret
    exact ⟨rfl, quiet_below k1 (Nat.le_refl _)⟩
  · go_enter Tryd.func4, Tryd.ntmps4
    go_wp2_with fail
    refine (gNew HG.out 1000).mono ?_
    rintro e w1 ⟨rfl, hd1, k1⟩
    have HD1 := Lib.hid hd1
    have HW1 : Hid (Below w.heap.size w w1) := Lib.hid (quiet_below k1 (Nat.le_refl _))
    clear k1 hd1
    go_wp2
    go_loopw [8, 9] (fun la ii wr => ∃ (i L c : Nat) (s : St), i ≤ nF ∧ la = .int .i64 (L : Int) ∧ ii = .int .i64 (i : Int) ∧ c ≤ 40 * i ∧ Hid (DG w.heap.size wr w.heap.size s) ∧ Hid (Rest i c L s) ∧ Hid (Below w.heap.size w wr)) (fun _ ii _ => 300 - (intOf ii).toNat)
    case atStart => exact ⟨0, 0, 0, _, Nat.zero_le _, rfl, rfl, Nat.zero_le _, HD1, Lib.hid (rest_new 1000), HW1⟩
    case round =>
      obtain ⟨i, L, c, s, hi, rfl, rfl, hc, HD, HR, HW⟩ := hrel
      by_cases hlt : (i : Int) < (nF : Int)
      · have hiF : i < F.length := by have := HnF.out; omega
        have cO := H.opens _ _ _ _ HD.out HR.out.up HR.out.names.short
        go_wp2_with fail
        refine cO.mono ?_
        rintro e w2 ⟨X, rfl, hs2, b2⟩
        have HW2 : Hid (Below w.heap.size w w2) := Lib.hid (HW.out.trans b2)
        have HS2 := Lib.hid hs2
        clear cO hs2 b2
        obtain ⟨bF, oF, _, rfl, hcF⟩ := (HB0.out.quiet (Keep.of_below HW2.out)).at i hiF
        obtain ⟨fu, hfu⟩ : ∃ n, n = F.getD i 0 := ⟨_, rfl⟩
        have hfu2 : fu < 256 := by rw [hfu]; exact HB0.out.1 _ (by rw [List.getD_eq_getElem?_getD, List.getElem?_eq_getElem hiF]; exact List.getElem_mem hiF)
        rw [← hfu] at hcF
        clear hfu
        go_wp2_with fail
        obtain ⟨k, hk, hke⟩ : ∃ k : Nat, k < 12 ∧ (fu : Int) % 12 = (k : Int) := ⟨fu % 12, by omega, by omega⟩
        rw [hke]
        refine (sFuse (k : Int) (by omega) HS2.out).mono ?_
        rintro e w3 ⟨rfl, hs3, b3⟩
        have HW3 : Hid (Below w.heap.size w w3) := Lib.hid (HW2.out.trans b3)
        have HS3 := Lib.hid hs3
        obtain ⟨hI, hL⟩ := HR.out.opened (by unfold topN; omega) (k : Int)
        have HI := Lib.hid hI
        clear hs3 b3 hcF HW2 HS2 HW HD HR HD1 HW1 hke hfu2
        by_cases hiC : (i : Int) < (nC : Int)
        · have hiC2 : i < C.length := by have := HnC.out; omega
          obtain ⟨bC, oC, _, rfl, hcC⟩ := (HB1.out.quiet (Keep.of_below HW3.out)).at i hiC2
          obtain ⟨cu, hcu⟩ : ∃ n, n = C.getD i 0 := ⟨_, rfl⟩
          have hcu2 : cu < 256 := by rw [hcu]; exact HB1.out.1 _ (by rw [List.getD_eq_getElem?_getD, List.getElem?_eq_getElem hiC2]; exact List.getElem_mem hiC2)
          rw [← hcu] at hcC
          clear hcu
          go_wp2
          obtain ⟨nn, hnn, hne⟩ : ∃ k : Nat, k < 40 ∧ (cu : Int) % 40 = (k : Int) := ⟨cu % 40, by omega, by omega⟩
          rw [hne]
          clear hcC hne hcu2
          go_loopw [8, 13] (fun la kk wr => ∃ (j L' : Nat) (s' : St) (x' : Ix), j ≤ nn ∧ la = .int .i64 (L' : Int) ∧ kk = .int .i64 (j : Int) ∧ Hid (Sys w.heap.size wr w.heap.size X s' x') ∧ Hid (Inv i (c + j) s' x') ∧ L' ≤ x'.last ∧ Hid (Below w.heap.size w wr)) (fun _ kk _ => 300 - (intOf kk).toNat)
          case atStart => exact ⟨0, L, _, _, Nat.zero_le _, rfl, rfl, HS3, HI, hL, HW3⟩
          case round =>
            clear HS3 HI HW3 hL
            obtain ⟨j, L', s', x', hj, rfl, rfl, HS, HI, hL, HW⟩ := hrel
            by_cases hjn : (j : Int) < (nn : Int)
            · have cN := H.next _ _ _ _ _ _ HS.out (inv_bulk4 HI.out (by omega) (by omega))
              have hnx := nx (L := L') (by omega) (by unfold topN; omega) HI.out hL
              rcases hnx with ⟨n1, n2, n3, n4, n5⟩ | ⟨n1, n2, n3⟩
              · rw [n1, n2] at cN
                have HI4 := Lib.hid n4
                have HN3 := Lib.hid n3
                clear n1 n2 n3 n4
                go_wp2_with fail
                refine cN.mono ?_
                rintro e w5 ⟨rfl, hs5, b5⟩
                have cL := H.last _ _ _ _ _ _ hs5
                rw [HN3.out] at cL
                have HS5 := Lib.hid hs5
                have HW5 : Hid (Below w.heap.size w w5) := Lib.hid (HW.out.trans b5)
                have hle : ¬ (((x'.last + 1 : Nat) : Int) ≤ (L' : Int)) := by omega
                obtain ⟨m, hm⟩ : ∃ m : Nat, m = x'.last + 1 := ⟨_, rfl⟩
                rw [← hm] at cL hle
                rw [← hm]
                have HM := Lib.hid hm
                clear hs5 b5 cN HS HI HW hm hL n5
                go_wp2_with fail
                refine cL.mono ?_
                rintro e w6 ⟨rfl, rfl⟩
                clear cL
                go_wp2
                go_roundw
                case rel => exact ⟨j + 1, m, _, _, by omega, rfl, by go_num, HS5, HI4, by rw [HN3.out]; exact Nat.le_of_eq HM.out, HW5⟩
                case measure => simp [intOf]; omega
              · rw [n1, n2] at cN
                have HF3 := Lib.hid n3
                clear n1 n2 n3
                go_wp2_with fail
                refine cN.mono ?_
                rintro e w5 ⟨rfl, hs5, b5⟩
                have HS5 := Lib.hid hs5
                have HW5 : Hid (Below w.heap.size w w5) := Lib.hid (HW.out.trans b5)
                clear hs5 b5 cN HS HI HW hL
                go_wp2_with fail
                refine (gCrash (w := w5) dirs 0 (by decide) HS5.out.disk).mono ?_
                rintro e w6 ⟨rfl, hd6, b6⟩
                have HD6 := Lib.hid hd6
                have HR6 := Lib.hid ((HF3.out.more (c' := c + 40) (by omega)).crash dirs 0)
                have HW6 : Hid (Below w.heap.size w w6) := Lib.hid (HW5.out.trans b6)
                clear hd6 b6 HS5 HW5 HF3
                go_wp2
                go_roundw
                case rel => exact ⟨i + 1, L', c + 40, _, by omega, rfl, by go_num, by omega, HD6, HR6, HW6⟩
                case measure => simp [intOf]; omega
            · go_wp2_with fail
              refine (gCrash (w := wr) dirs 0 (by decide) HS.out.disk).mono ?_
              rintro e w6 ⟨rfl, hd6, b6⟩
              have HD6 := Lib.hid hd6
              have HR6 := Lib.hid (((HI.out.fell.more (c' := c + 40) (by omega)).crash dirs 0).less hL)
              have HW6 : Hid (Below w.heap.size w w6) := Lib.hid (HW.out.trans b6)
              clear hd6 b6 HS HI HW hL
              go_wp2
              go_roundw
              case rel => exact ⟨i + 1, L', c + 40, _, by omega, rfl, by go_num, by omega, HD6, HR6, HW6⟩
              case measure => simp [intOf]; omega
        · go_wp2
          go_loopw [8, 13] (fun la kk wr => ∃ (j L' : Nat) (s' : St) (x' : Ix), j ≤ 0 ∧ la = .int .i64 (L' : Int) ∧ kk = .int .i64 (j : Int) ∧ Hid (Sys w.heap.size wr w.heap.size X s' x') ∧ Hid (Inv i (c + j) s' x') ∧ L' ≤ x'.last ∧ Hid (Below w.heap.size w wr)) (fun _ kk _ => 300 - (intOf kk).toNat)
          case atStart => exact ⟨0, L, _, _, Nat.zero_le _, rfl, rfl, HS3, HI, hL, HW3⟩
          case round =>
            clear HS3 HI HW3 hL
            obtain ⟨j, L', s', x', hj, rfl, rfl, HS, HI, hL, HW⟩ := hrel
            by_cases hjn : (j : Int) < (0 : Int)
            · exfalso; omega
            · go_wp2_with fail
              refine (gCrash (w := wr) dirs 0 (by decide) HS.out.disk).mono ?_
              rintro e w6 ⟨rfl, hd6, b6⟩
              have HD6 := Lib.hid hd6
              have HR6 := Lib.hid (((HI.out.fell.more (c' := c + 40) (by omega)).crash dirs 0).less hL)
              have HW6 : Hid (Below w.heap.size w w6) := Lib.hid (HW.out.trans b6)
              clear hd6 b6 HS HI HW hL
              go_wp2
              go_roundw
              case rel => exact ⟨i + 1, L', c + 40, _, by omega, rfl, by go_num, by omega, HD6, HR6, HW6⟩
              case measure => simp [intOf]; omega
      · have hiF : i = nF := by omega
        subst hiF
        go_wp2_with fail
        refine (HA.out _ (HG.out.below HW.out HG.out.1)).mono ?_
        rintro e w2 ⟨rfl, k2⟩
        go_wp2
        go_ret
        exact ⟨rfl, HW.out.trans (quiet_below k2 HW.out.size)⟩
end Go.Proofs.YtlpeiejohgchmaaDoor.Fs
