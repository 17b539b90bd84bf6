/-
  Proved here: for all good marks (at most 60), any bytes behind (at most 500, any number where there is no mark) and one byte turned, Decode answers the marks and the number of bytes that the document's own Marks answers. Conditions: none.
-/
import Derived.Test.YtcplemamcgonkaaRows
import Derived.Test.YtcplemamcgonkaaHW
import Derived.Lib.Hide
import Derived.WalkKit
import Derived.ProofKit
import Derived.OpenShut
import Derived.ShutString
import Derived.ChangeOld
import Derived.Below
namespace Go.Proofs.Ytcplemamcgonkaa.markDecodes
open Go.ChangeShapes Go.WideShapes Go.ChangeAt Go.RowKit
set_option linter.unusedVariables false
set_option linter.unusedSimpArgs false
open Ln
theorem own : ownKnob Try.prog.godebug = none := by kernel_rfl
theorem laidOut : laidOutB Try.prog = true := by kernel_rfl

/-! ### The walk -/
set_option maxHeartbeats 16000000 in
set_option maxRecDepth 100000 in
theorem walk (a0 : Option Addr) (x0 : List Ln.Mk) (cap0 : Nat) (a1 : Option Addr) (x1 : List Nat) (cap1 : Nat) (a2 : Int) (a3 : Int) (w : World) (l0 : x0.length ≤ cap0) (m0 : cap0 ≤ 140737488351232) (B0 : Ln.MkP (fun k => k < w.heap.size) w a0 x0) (l1 : x1.length ≤ cap1) (m1 : cap1 ≤ 140737488351232) (B1 : Ln.Bytes (fun k => k < w.heap.size) w a1 x1) (w2 : (Lit.int .u16 a2).wf = true) (w3 : (Lit.int .u8 a3).wf = true) :
    Calls Try.prog 4 #[.slice a0 x0.length cap0, .slice a1 x1.length cap1, .int .u16 a2, .int .u8 a3] w fun e w' => e = .returned (.bool true) ∧ Below w.heap.size w w' := by
  have a0b := bounds_u16 w2
  have a3b := bounds_u8 w3
  obtain ⟨A, rfl⟩ : ∃ A : Nat, a2 = (A : Int) := ⟨a2.toNat, by omega⟩
  obtain ⟨T, rfl⟩ : ∃ T : Nat, a3 = (T : Int) := ⟨a3.toNat, by omega⟩
  have hT : T < 256 := by omega
  have hA : A < 65536 := by omega
  obtain ⟨l, hl⟩ : ∃ l, l = x0.length := ⟨_, rfl⟩
  obtain ⟨ml, hml⟩ : ∃ m, m = x1.length := ⟨_, rfl⟩
  rw [← hl] at l0
  rw [← hml] at l1
  rw [← hl, ← hml]
  have HL := Lib.hid hl
  have HML := Lib.hid hml
  have HX := Lib.hid B0
  have HM := Lib.hid B1
  clear hl hml B0 B1 w2 w3 a0b a3b
  go_enter Try.func4, Try.ntmps4
  go_wp2
  go_loopw [9, 10] (fun v i wr => ∃ (k : Nat) (y : Option Addr) (n c : Nat), k ≤ l ∧ v = .slice y n c ∧ i = .int .i64 (k : Int) ∧ (0 < k → l ≤ 60 ∧ ml ≤ 500) ∧ Hid (Gr w wr (.slice y n c) (flatK (x0.take k))) ∧ Hid (n = 28 * k)) (fun _ i _ => l - (intOf i).toNat)
  case atStart => exact ⟨0, none, 0, 0, by omega, rfl, rfl, by omega, ⟨Own.empty w, fun b h => (by cases h), Keep.refl _ w⟩, rfl⟩
  case round =>
    obtain ⟨k, y, n, c, hk, rfl, rfl, hbd, G, HNk⟩ := hrel
    by_cases hlt : (k : Int) < (l : Int)
    · have hkl : k < x0.length := by have := HL.out; omega
      have k0 : (0 : Int) ≤ (k : Int) := by omega
      have KW := Lib.hid G.out.kp
      obtain ⟨b, off, _, _, hx, c0, c1, c2⟩ := mk_at (mk_quiet HX.out KW.out) k hkl
      subst hx
      obtain ⟨m, hm⟩ : ∃ m, m = x0[k] := ⟨_, rfl⟩
      rw [← hm] at c0 c1 c2
      have HFl : Hid (flatK (x0.take (k + 1)) = flatK (x0.take k) ++ markB m) := Lib.hid (by rw [List.take_succ_eq_append_getElem hkl, flatK_append, ← hm, flatK_cons]; simp [flatK])
      have HCk : Hid (∀ Z, Keep (fun _ => False) wr Z → Z.cell? ⟨b, off + k * 3, none⟩ = some (.int .i64 m.kind) ∧ Z.cell? ⟨b, off + k * 3 + 1, none⟩ = some (.int .i64 m.rcpt) ∧ Z.cell? ⟨b, off + k * 3 + 2, none⟩ = some (.int .i64 m.n)) := Lib.hid (fun Z kk => ⟨kk.cell c0 (fun h => h), kk.cell c1 (fun h => h), kk.cell c2 (fun h => h)⟩)
      have HMay := Lib.hid (mayMarkC m wr)
      have HMark : Hid (goodK m = true → ∀ Z, Calls Try.prog 13 #[.agg (mkC m)] Z (Marked m Z)) := Lib.hid (fun h Z => refMarkC h)
      have HMb : Hid (∀ W e w', Marked m W e w' → ∃ y n cap, n = 28 ∧ e = .returned (.slice y n cap) ∧ Gr W w' (.slice y n cap) (markB m)) := Lib.hid (fun _ _ _ h => h)
      obtain ⟨M, hM⟩ : ∃ M, M = Marked m := ⟨_, rfl⟩
      rw [← hM] at HMark HMb
      obtain ⟨g, hg⟩ : ∃ g, g = goodK m := ⟨_, rfl⟩
      rw [← hg] at HMay HMark
      obtain ⟨MB, hMB⟩ : ∃ MB, MB = markB m := ⟨_, rfl⟩
      have HMBl : Hid (MB.length = 28) := Lib.hid (by rw [hMB, markB_length])
      rw [← hMB] at HFl HMb
      clear hm hM hg hMB
      unfold mkC at HMay HMark
      cases g with
      | false =>
        go_wp2_with fail
        refine HMay.out.mono ?_
        rintro e w1 ⟨rfl, hk1⟩
        have K1 := Lib.hid (KW.out.trans hk1 (fun _ _ h => h))
        clear hk1 c0 c1 c2
        go_wp2_with fail
        refine (answersK _).mono ?_
        rintro e ua ⟨rfl, hka⟩
        have KA := Lib.hid (K1.out.trans hka (fun _ _ h => h))
        clear hka
        go_wp2
        go_ret
        exact ⟨rfl, KA.out.below (Nat.le_refl _) (fun _ h => h.elim)⟩
      | true =>
        by_cases h60 : (60 : Int) < (l : Int)
        · go_wp2_with fail
          refine HMay.out.mono ?_
          rintro e w1 ⟨rfl, hk1⟩
          have K1 := Lib.hid (KW.out.trans hk1 (fun _ _ h => h))
          clear hk1 c0 c1 c2
          go_wp2_with fail
          refine (answersK _).mono ?_
          rintro e ua ⟨rfl, hka⟩
          have KA := Lib.hid (K1.out.trans hka (fun _ _ h => h))
          clear hka
          go_wp2
          go_ret
          exact ⟨rfl, KA.out.below (Nat.le_refl _) (fun _ h => h.elim)⟩
        have d60 : decide ((60 : Int) < (l : Int)) = false := decide_eq_false h60
        by_cases h500 : (500 : Int) < (ml : Int)
        · go_wp2_with fail
          refine HMay.out.mono ?_
          rintro e w1 ⟨rfl, hk1⟩
          have K1 := Lib.hid (KW.out.trans hk1 (fun _ _ h => h))
          clear hk1 c0 c1 c2
          go_wp2_with fail
          refine (answersK _).mono ?_
          rintro e ua ⟨rfl, hka⟩
          have KA := Lib.hid (K1.out.trans hka (fun _ _ h => h))
          clear hka
          go_wp2
          go_ret
          exact ⟨rfl, KA.out.below (Nat.le_refl _) (fun _ h => h.elim)⟩
        have d500 : decide ((500 : Int) < (ml : Int)) = false := decide_eq_false h500
        go_wp2_with fail
        refine HMay.out.mono ?_
        rintro e w1 ⟨rfl, hk1⟩
        obtain ⟨d0, d1, d2⟩ := HCk.out w1 hk1
        have G1 := Lib.hid (G.out.quiet hk1)
        clear hk1 c0 c1 c2 G
        go_wp2_with fail
        refine (HMark.out trivial w1).mono ?_
        rintro e w2 h2
        obtain ⟨y2, n2, c2, rfl, rfl, hG2⟩ := HMb.out _ _ _ h2
        have HB2 := Lib.hid hG2.own.bytesO
        have G2 := Lib.hid (G1.out.quiet hG2.kp)
        clear h2 hG2 d0 d1 d2 G1
        go_wp2_with
          (at_builtin
           refine wpList_app (by rfl) (.tmp 39) (.tmp 44) (by rfl) (.slice y n c) (flatK (x0.take k)) (by rfl) G2.out _ y2 28 c2 MB (by rfl) HMBl.out HB2.out.1 (by rw [flatK_length, List.length_take]; omega) ?_
           intro y3 n3 c3 w3 hn3 hG3
           rw [← HFl.out] at hG3 hn3
           have HN3 : Hid (n3 = 28 * (k + 1)) := Lib.hid (by rw [hn3.out, flatK_length, List.length_take]; omega)
           have G3 := Lib.hid hG3
           clear hn3 hG3)
        go_roundw
        case rel => exact ⟨k + 1, y3, n3, c3, by omega, rfl, by go_num, fun _ => ⟨by omega, by omega⟩, G3, HN3⟩
        case measure => simp [intOf]; omega
    · have hkl : k = l := by omega
      subst hkl
      have HMx := Lib.hid (HM.out.quiet G.out.kp)
      obtain ⟨B, hB⟩ : ∃ B, B = flatK (x0.take k) := ⟨_, rfl⟩
      have HBl : Hid (B.length = 28 * k) := Lib.hid (by rw [hB, flatK_length, List.length_take]; have := HL.out; omega)
      rw [← hB] at G
      have hsum : 28 * k + ml ≤ 140737488351232 := by
        by_cases h0 : 0 < k
        · have := hbd h0; omega
        · omega
      clear hB hbd
      go_upto_region 9 with
        (at_builtin
         refine wpList_appW (by rfl) (.tmp 46) (.tmp 47) (by rfl) (.slice y n c) B (by rfl) G.out _ a1 ml cap1 x1 (by rfl) HML.out.symm HMx.out (by have := HBl.out; omega) ?_
         intro yb nb cb X hnb hGX
         have GX := Lib.hid hGX
         have HNb := Lib.hid hnb.out
         clear hnb hGX)
      obtain ⟨F0, hF0⟩ : ∃ F, F = B ++ x1 := ⟨_, rfl⟩
      rw [← hF0] at GX HNb
      have hnb2 : nb ≤ 140737488351232 := by rw [HNb.out, hF0, List.length_append, HBl.out, ← HML.out]; exact hsum
      have hcb : nb ≤ cb := GX.out.own.bytesO.2.2
      clear hF0 G
      by_cases h0 : nb = 0
      · subst h0
        have KX := Lib.hid GX.out.kp
        have HF : Hid (Bytes (fun _ => True) X yb F0) := Lib.hid GX.out.own.bytesO.1
        have HFn := Lib.hid HNb.out
        obtain ⟨F, hF⟩ : ∃ F, F = F0 := ⟨_, rfl⟩
        obtain ⟨nb, hnb0⟩ : ∃ nb, nb = 0 := ⟨_, rfl⟩
        subst hF
        clear hnb0 nb
        have g0 := gr_none X
        have G0 := Lib.hid g0
        have kX1 : Keep (fun _ => False) X (X.alloc (.cells #[] 5)) := keep_new X _
        have HF1 := Lib.hid (HF.out.quiet kX1)
        clear g0 kX1
        go_wp2_with
          (at_builtin
           refine wpList_appW (by rfl) (.tmp 67) (.tmp 68) (by rfl) (.slice (some ⟨X.heap.size, 0, none⟩) 0 0) [] (by rfl) G0.out _ yb 0 cb F (by rfl) HFn.out.symm HF1.out (by simp only [List.length_nil]; omega) ?_
           intro y2 n2 c2 w2 hn2 hG2
           rw [List.nil_append] at hG2 hn2
           have HN2 := Lib.hid (hn2.out.trans HFn.out.symm)
           have HB2 := Lib.hid hG2.own.bytesO
           have K2 := Lib.hid (KX.out.trans hG2.kp (fun _ _ h => h))
           have HF2 := Lib.hid (HF.out.quiet hG2.kp)
           clear hn2 hG2 G0 HF1)
        refine (decodeK y2 n2 c2 F HB2.out.2.1.symm HB2.out.2.2 (by have := HN2.out; omega) HB2.out.1).mono ?_
        rintro e w3 ⟨y3, n3, c3, i3, hn3, hi3, hc3, rfl, hM3, hk3⟩
        have K3 := Lib.hid (K2.out.trans hk3 (fun _ _ h => h))
        have HF3 := Lib.hid (HF2.out.quiet hk3)
        have HM3 := Lib.hid hM3
        have HN3 := Lib.hid hn3
        have HI3 := Lib.hid hi3
        clear hk3 hM3 hn3 hi3
        go_wp2_with fail
        refine (refMarksC yb 0 cb F HFn.out.symm (Nat.zero_le _) (by omega) HF3.out).mono ?_
        rintro e w4 ⟨y4, n4, c4, i4, hn4, hi4, hc4, rfl, hM4, hk4⟩
        obtain rfl : n4 = n3 := by rw [hn4, HN3.out]
        obtain rfl : i4 = i3 := by rw [hi4, HI3.out]
        have K4 := Lib.hid (K3.out.trans hk4 (fun _ _ h => h))
        have HM4 := Lib.hid hM4
        have HM3' := Lib.hid (mk_quiet HM3.out hk4)
        have HL4 : Hid (n4 ≤ 4096) := Lib.hid (by rw [HN3.out]; exact marksM_le F)
        clear hk4 hM4 hn4 hi4
        go_wp2_with fail
        refine (answersK w4).mono ?_
        rintro e w5 ⟨rfl, hk5⟩
        have K5 := Lib.hid (K4.out.trans hk5 (fun _ _ h => h))
        have HM5 := Lib.hid (mk_quiet HM4.out hk5)
        have HM5' := Lib.hid (mk_quiet HM3'.out hk5)
        clear hk5
        go_wp2_with fail
        refine (sameMarksC y3 y4 n4 c3 c4 (marksM F) HN3.out (by have := HL4.out; omega) HM5'.out HM5.out).mono ?_
        rintro e w6 ⟨rfl, hk6⟩
        have K6 := Lib.hid (K5.out.trans hk6 (fun _ _ h => h))
        clear hk6
        go_wp2
        go_ret
        exact ⟨rfl, K6.out.below (Nat.le_refl _) (fun _ h => h.elim)⟩
      · have hn0 : (0 : Int) < (nb : Int) := by omega
        have hn0' : 0 < nb := by omega
        obtain ⟨g, rfl, hown, hnn, hnc, hR⟩ := GX.out.own.rowB (by have := HNb.out; omega)
        have hgl : g < X.heap.size := by obtain ⟨cur, h1, _⟩ := hR; exact h1.lt
        have hgw : w.heap.size ≤ g := GX.out.new g hown
        obtain ⟨K, hK⟩ : ∃ K, K = A % nb := ⟨_, rfl⟩
        have hKl : K < nb := by rw [hK]; exact Nat.mod_lt _ hn0'
        have hmodI : ((A : Int) % (nb : Int)) = (K : Int) := by rw [hK]; rfl
        have hmodT : Int.tmod (A : Int) (nb : Int) = (K : Int) := by rw [hK]; rfl
        obtain ⟨q1, q2, _⟩ := hR.cell (i := K) (by have := HNb.out; omega)
        have hlt8 : ∀ c ∈ F0, c < 256 := GX.out.own.2
        have hcl : F0.getD K 0 < 256 := getD_lt hlt8 K (by have := HNb.out; omega)
        obtain ⟨C, hC⟩ : ∃ C, C = F0.getD K 0 := ⟨_, rfl⟩
        rw [← hC] at q1 hcl
        have hx := xorB C T hcl hT
        obtain ⟨V, hV⟩ : ∃ V, V = C ^^^ T := ⟨_, rfl⟩
        rw [← hV] at hx
        have hVl : V < 256 := by rw [hV]; exact Nat.xor_lt_two_pow (n := 8) hcl hT
        obtain ⟨F, hF⟩ : ∃ F, F = F0.set K V := ⟨_, rfl⟩
        obtain ⟨X1, hX1⟩ : ∃ X1, X1 = X.setCell ⟨g, K, none⟩ (.int .u8 (V : Int)) := ⟨_, rfl⟩
        have HF : Hid (Bytes (fun b => b = g) X1 (some ⟨g, 0, none⟩) F) := Lib.hid (by
          have := (hR.put K (by have := HNb.out; omega) V).bytes (set_lt hlt8 K V hVl)
          rw [← hX1, ← hF] at this
          exact this)
        have HFn : Hid (nb = F.length) := Lib.hid (by rw [hF, List.length_set]; exact HNb.out)
        have KX : Hid (Keep (fun _ => False) w X1) := Lib.hid (GX.out.kp.trans (by rw [hX1]; exact (Keep.refl (fun i => i = g) X).setCell (p := ⟨g, K, none⟩) (fun _ => rfl) _) (fun i hi e => by omega))
        have HX1 := Lib.hid hX1
        have K0 : (0 : Int) ≤ (K : Int) := by omega
        have hKi : (K : Int) < (nb : Int) := by omega
        clear hR hK hC hV hF hX1 hown hlt8 hnn
        go_upto_region 12 with fail
        rw [← HX1.out]
        clear q1 q2 hx hmodI hmodT
        obtain ⟨yb, hyb⟩ : ∃ yb : Option Addr, yb = some ⟨g, 0, none⟩ := ⟨_, rfl⟩
        rw [← hyb] at HF
        rw [← hyb]
        clear hyb
        obtain ⟨X, hX⟩ : ∃ X, X = X1 := ⟨_, rfl⟩
        subst hX
        clear HX1 GX
        have g0 := gr_none X
        have G0 := Lib.hid g0
        have kX1 : Keep (fun _ => False) X (X.alloc (.cells #[] 5)) := keep_new X _
        have HF1 := Lib.hid (HF.out.quiet kX1)
        clear g0 kX1
        go_wp2_with
          (at_builtin
           refine wpList_appW (by rfl) (.tmp 67) (.tmp 68) (by rfl) (.slice (some ⟨X.heap.size, 0, none⟩) 0 0) [] (by rfl) G0.out _ yb nb cb F (by rfl) HFn.out.symm HF1.out (by simp only [List.length_nil]; omega) ?_
           intro y2 n2 c2 w2 hn2 hG2
           rw [List.nil_append] at hG2 hn2
           have HN2 := Lib.hid (hn2.out.trans HFn.out.symm)
           have HB2 := Lib.hid hG2.own.bytesO
           have K2 := Lib.hid (KX.out.trans hG2.kp (fun _ _ h => h))
           have HF2 := Lib.hid (HF.out.quiet hG2.kp)
           clear hn2 hG2 G0 HF1)
        refine (decodeK y2 n2 c2 F HB2.out.2.1.symm HB2.out.2.2 (by have := HN2.out; omega) HB2.out.1).mono ?_
        rintro e w3 ⟨y3, n3, c3, i3, hn3, hi3, hc3, rfl, hM3, hk3⟩
        have K3 := Lib.hid (K2.out.trans hk3 (fun _ _ h => h))
        have HF3 := Lib.hid (HF2.out.quiet hk3)
        have HM3 := Lib.hid hM3
        have HN3 := Lib.hid hn3
        have HI3 := Lib.hid hi3
        clear hk3 hM3 hn3 hi3
        go_wp2_with fail
        refine (refMarksC yb nb cb F HFn.out.symm hcb (by omega) HF3.out).mono ?_
        rintro e w4 ⟨y4, n4, c4, i4, hn4, hi4, hc4, rfl, hM4, hk4⟩
        obtain rfl : n4 = n3 := by rw [hn4, HN3.out]
        obtain rfl : i4 = i3 := by rw [hi4, HI3.out]
        have K4 := Lib.hid (K3.out.trans hk4 (fun _ _ h => h))
        have HM4 := Lib.hid hM4
        have HM3' := Lib.hid (mk_quiet HM3.out hk4)
        have HL4 : Hid (n4 ≤ 4096) := Lib.hid (by rw [HN3.out]; exact marksM_le F)
        clear hk4 hM4 hn4 hi4
        go_wp2_with fail
        refine (answersK w4).mono ?_
        rintro e w5 ⟨rfl, hk5⟩
        have K5 := Lib.hid (K4.out.trans hk5 (fun _ _ h => h))
        have HM5 := Lib.hid (mk_quiet HM4.out hk5)
        have HM5' := Lib.hid (mk_quiet HM3'.out hk5)
        clear hk5
        go_wp2_with fail
        refine (sameMarksC y3 y4 n4 c3 c4 (marksM F) HN3.out (by have := HL4.out; omega) HM5'.out HM5.out).mono ?_
        rintro e w6 ⟨rfl, hk6⟩
        have K6 := Lib.hid (K5.out.trans hk6 (fun _ _ h => h))
        clear hk6
        go_wp2
        go_ret
        exact ⟨rfl, K6.out.below (Nat.le_refl _) (fun _ h => h.elim)⟩

/-! ### The row's step -/
set_option maxRecDepth 100000 in
theorem lifted (os : Os) (started : os.Started) (H : Type) (enc : TypeId × Value → H) :
    ReturnsInHanded {} Try.checked os 4 .any (Rows.markDecodesSpec.pre6 enc Try.prog Try.f4 Rows.markDecodesRow.domain false) (Rows.markDecodesSpec.post enc Try.prog Try.f4 false true false false) := by
  refine returnsInHanded_of_change_sized (C := Try.checked) own started (by kernel_rfl) Try.func4
    (ChangeSpec.witness6 (enc := enc) (C := Try.checked) false ⟨#[], #[.slice none 0 0, .slice none 0 0, .int .u16 0, .int .u8 0], []⟩ 8 (by kernel_rfl) (by kernel_rfl) (by kernel_rfl) (by kernel_rfl)) ?_
  intro W base args ds gs before hval0 hW hcnd hsz _
  have hval : ∀ (j : Nat) t v, Try.f4.params[j]? = some t → args[j]? = some v → Value.okWide Try.prog W .any base t v := hval0
  have hW' := hW
  obtain ⟨p, q, hA0, hV, rfl, hfz, hnd⟩ := hW
  have hA : DataW.TrodAll enc Try.prog W 0 (fun _ => true) true Try.f4.params.toList args.toList ds p := hA0
  rw [Try.params4] at hA hval hsz
  obtain ⟨v0, vs0, d0, ds0, p0, q0, hargs, rfl, rfl, h0, r0⟩ := trodAll_cons hA
  obtain ⟨v1, vs1, d1, ds1, p1, q1, rfl, rfl, rfl, h1, r1⟩ := trodAll_cons r0
  obtain ⟨v2, vs2, d2, ds2, p2, q2, rfl, rfl, rfl, h2, r2⟩ := trodAll_cons r1
  obtain ⟨v3, vs3, d3, ds3, p3, q3, rfl, rfl, rfl, h3, r3⟩ := trodAll_cons r2
  obtain ⟨rfl, rfl, rfl⟩ := trodAll_nil r3
  obtain rfl : args = #[v0, v1, v2, v3] := by cases args; simp_all
  obtain ⟨rfl, rfl⟩ := trodVars_none hV
  obtain ⟨a0, len0, cap0, rfl⟩ := okWide_slice Try.underlying30 (hval 0 30 v0 rfl rfl)
  have k0 := h0
  have lt0 : ∀ x ∈ p0, x.block < W.heap.size := by obtain ⟨m, hm⟩ := k0; exact DataW.trod_lt m _ _ _ hm
  obtain ⟨b0, x0, c0, e0, l0, _, B0, m0⟩ : ∃ a L cap, Value.slice a0 len0 cap0 = .slice a L.length cap ∧ L.length ≤ cap ∧ cap ≤ 9223372036854775807 ∧ Ln.MkP (fun k => k < W.heap.size) W a L ∧ ((∀ n ∈ d0.weights Try.prog 30, n ≤ reachBytes) → cap ≤ 140737488351232) := by
    obtain ⟨fuel, hf⟩ := h0
    exact Ln.arg_marks hf
  have hs0 : ∀ n ∈ d0.weights Try.prog 30, n ≤ reachBytes := fun n hn => by
    have := List.all_eq_true.1 hsz n (DataW.weights_mem_each (j := 0) rfl rfl n hn)
    simpa using this
  injection e0 with e0 f0 g0
  subst e0 f0 g0
  obtain ⟨a1, len1, cap1, rfl⟩ := okWide_slice Try.underlying24 (hval 1 24 v1 rfl rfl)
  have k1 := h1
  have lt1 : ∀ x ∈ p1, x.block < W.heap.size := by obtain ⟨m, hm⟩ := k1; exact DataW.trod_lt m _ _ _ hm
  obtain ⟨b1, x1, c1, e1, l1, _, B1, m1⟩ : ∃ a bs cap, Value.slice a1 len1 cap1 = .slice a bs.length cap ∧ bs.length ≤ cap ∧ cap ≤ 9223372036854775807 ∧ Ln.Bytes (fun k => k < W.heap.size) W a bs ∧ ((∀ n ∈ d1.weights Try.prog 24, n ≤ reachBytes) → cap ≤ 140737488351232) := by
    obtain ⟨fuel, hf⟩ := h1
    exact Ln.arg_bytes hf
  have hs1 : ∀ n ∈ d1.weights Try.prog 24, n ≤ reachBytes := fun n hn => by
    have := List.all_eq_true.1 hsz n (DataW.weights_mem_each (j := 1) rfl rfl n hn)
    simpa using this
  injection e1 with e1 f1 g1
  subst e1 f1 g1
  obtain ⟨a2, rfl, rfl, rfl, w2⟩ := open_int Try.underlying31 (hval 2 31 v2 rfl rfl) h2
  obtain ⟨a3, rfl, rfl, rfl, w3⟩ := open_int Try.underlying5 (hval 3 5 v3 rfl rfl) h3
  clear hA0 hval0
  refine (walk a0 x0 cap0 a1 x1 cap1 a2 a3 W l0 (m0 hs0) B0 l1 (m1 hs1) B1 w2 w3).mono fun e W' ⟨he, bel⟩ => ?_
  subst he
  exact ⟨_, rfl, _, _, _, [], _, [], hW', trodAll_mk1 (shut_bool Try.underlying4 _), (trodAll_cons_mk (Below.trod laidOut (by kernel_rfl) (of_decide_eq_true (by kernel_rfl)) k0 bel lt0) (trodAll_cons_mk (Below.trod laidOut (by kernel_rfl) (of_decide_eq_true (by kernel_rfl)) k1 bel lt1) (trodAll_cons_mk (shut_int Try.underlying31 w2) (trodAll_cons_mk (shut_int Try.underlying5 w3) trodAll_mk0)))), rfl, bel.frame _, fun h => by cases h⟩

theorem over : Rows.markDecodesRow.holds Try.pinned (OpenSpec.ofChange Rows.markDecodesSpec) :=
  OpenClaim.holds_of_wide 4 Try.f4 rfl rfl rfl rfl rfl rfl rfl ⟨rfl, rfl, rfl, rfl, rfl⟩ rfl rfl rfl rfl rfl (by kernel_rfl) Try.func4 (by kernel_rfl)
    (of_decide_eq_true (by kernel_rfl)) (by unfold Func.isWrapper; first | (rw [if_pos (by decide +kernel)]; kernel_rfl) | (rw [if_neg (by decide +kernel)]; exact ⟨rfl, rfl⟩))
    (fun os started H enc _ => lifted os started H enc)

/-- The statement. -/
theorem proved : Rows.MarkDecodesSaid := over
#print axioms proved
end Go.Proofs.Ytcplemamcgonkaa.markDecodes
