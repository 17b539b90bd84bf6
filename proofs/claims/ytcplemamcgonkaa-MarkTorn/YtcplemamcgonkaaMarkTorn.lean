/-
  Proved here: of at most 60 good marks, cut anywhere, Decode answers those that are whole, and how many bytes these have. Conditions: none.
-/
import Derived.Test.YtcplemamcgonkaaRows
import Derived.Test.YtcplemamcgonkaaHV
import Derived.Lib.Hide
import Derived.WalkKit
import Derived.ProofKit
import Derived.OpenShut
import Derived.ShutString
import Derived.ChangeOld
import Derived.Below
namespace Go.Proofs.Ytcplemamcgonkaa.markTorn
open Go.ChangeShapes Go.WideShapes Go.ChangeAt Go.RowKit
set_option linter.unusedVariables false
set_option linter.unusedSimpArgs false
open Ln
theorem own : ownKnob Try.prog.godebug = none := by kernel_rfl
theorem laidOut : laidOutB Try.prog = true := by kernel_rfl

/-! ### The walk -/
set_option maxHeartbeats 16000000 in
set_option maxRecDepth 100000 in
theorem walk (a0 : Option Addr) (x0 : List Ln.Mk) (cap0 : Nat) (a1 : Int) (w : World) (l0 : x0.length ≤ cap0) (m0 : cap0 ≤ 140737488351232) (B0 : Ln.MkP (fun k => k < w.heap.size) w a0 x0) (w1 : (Lit.int .u16 a1).wf = true) :
    Calls Try.prog 5 #[.slice a0 x0.length cap0, .int .u16 a1] w fun e w' => e = .returned (.bool true) ∧ Below w.heap.size w w' := by
  have a0b := bounds_u16 w1
  obtain ⟨A, rfl⟩ : ∃ A : Nat, a1 = (A : Int) := ⟨a1.toNat, by omega⟩
  have hA : A < 65536 := by omega
  obtain ⟨l, hl⟩ : ∃ l, l = x0.length := ⟨_, rfl⟩
  rw [← hl] at l0
  rw [← hl]
  have HL := Lib.hid hl
  have HX := Lib.hid B0
  clear hl B0 w1 a0b
  go_enter Try.func5, Try.ntmps5
  go_wp2
  go_loopw [5, 6] (fun v i wr => ∃ (k : Nat) (y : Option Addr) (n c : Nat), k ≤ l ∧ v = .slice y n c ∧ i = .int .i64 (k : Int) ∧ (0 < k → l ≤ 60) ∧ Hid (Gr w wr (.slice y n c) (flatK (x0.take k))) ∧ Hid (n = 28 * k) ∧ Hid (∀ m ∈ x0.take k, goodK m = true)) (fun _ i _ => l - (intOf i).toNat)
  case atStart => exact ⟨0, none, 0, 0, by omega, rfl, rfl, by omega, ⟨Own.empty w, fun b h => (by cases h), Keep.refl _ w⟩, rfl, fun m hm => by simp at hm⟩
  case round =>
    obtain ⟨k, y, n, c, hk, rfl, rfl, hbd, G, HNk, HGd⟩ := hrel
    by_cases hlt : (k : Int) < (l : Int)
    · have hkl : k < x0.length := by have := HL.out; omega
      have k0 : (0 : Int) ≤ (k : Int) := by omega
      have KW := Lib.hid G.out.kp
      obtain ⟨b, off, _, _, hx, c0, c1, c2⟩ := mk_at (mk_quiet HX.out KW.out) k hkl
      subst hx
      obtain ⟨m, hm⟩ : ∃ m, m = x0[k] := ⟨_, rfl⟩
      rw [← hm] at c0 c1 c2
      have HFl : Hid (flatK (x0.take (k + 1)) = flatK (x0.take k) ++ markB m) := Lib.hid (by rw [List.take_succ_eq_append_getElem hkl, flatK_append, ← hm, flatK_cons]; simp [flatK])
      have HCk : Hid (∀ Z, Keep (fun _ => False) wr Z → Z.cell? ⟨b, off + k * 3, none⟩ = some (.int .i64 m.kind) ∧ Z.cell? ⟨b, off + k * 3 + 1, none⟩ = some (.int .i64 m.rcpt) ∧ Z.cell? ⟨b, off + k * 3 + 2, none⟩ = some (.int .i64 m.n)) := Lib.hid (fun Z kk => ⟨kk.cell c0 (fun h => h), kk.cell c1 (fun h => h), kk.cell c2 (fun h => h)⟩)
      have HMay := Lib.hid (mayMarkC m wr)
      have HMark : Hid (goodK m = true → ∀ Z, Calls Try.prog 13 #[.agg (mkC m)] Z (Marked m Z)) := Lib.hid (fun h Z => refMarkC h)
      have HMb : Hid (∀ W e w', Marked m W e w' → ∃ y n cap, n = 28 ∧ e = .returned (.slice y n cap) ∧ Gr W w' (.slice y n cap) (markB m)) := Lib.hid (fun _ _ _ h => h)
      obtain ⟨M, hM⟩ : ∃ M, M = Marked m := ⟨_, rfl⟩
      rw [← hM] at HMark HMb
      obtain ⟨g, hg⟩ : ∃ g, g = goodK m := ⟨_, rfl⟩
      rw [← hg] at HMay HMark
      obtain ⟨MB, hMB⟩ : ∃ MB, MB = markB m := ⟨_, rfl⟩
      have HMBl : Hid (MB.length = 28) := Lib.hid (by rw [hMB, markB_length])
      rw [← hMB] at HFl HMb
      have HGs : Hid (g = true → ∀ m ∈ x0.take (k + 1), goodK m = true) := Lib.hid (fun h m' hm' => by
        rw [List.take_succ_eq_append_getElem hkl] at hm'
        rcases List.mem_append.1 hm' with h1 | h1
        · exact HGd.out m' h1
        · have e : m' = m := by rw [hm]; simpa using h1
          rw [e, ← hg]; exact h)
      clear hm hM hg hMB
      unfold mkC at HMay HMark
      cases g with
      | false =>
        go_wp2_with fail
        refine HMay.out.mono ?_
        rintro e w1 ⟨rfl, hk1⟩
        have K1 := Lib.hid (KW.out.trans hk1 (fun _ _ h => h))
        clear hk1 c0 c1 c2
        go_wp2_with fail
        refine (answersK _).mono ?_
        rintro e ua ⟨rfl, hka⟩
        have KA := Lib.hid (K1.out.trans hka (fun _ _ h => h))
        clear hka
        go_wp2
        go_ret
        exact ⟨rfl, KA.out.below (Nat.le_refl _) (fun _ h => h.elim)⟩
      | true =>
        by_cases h60 : (60 : Int) < (l : Int)
        · go_wp2_with fail
          refine HMay.out.mono ?_
          rintro e w1 ⟨rfl, hk1⟩
          have K1 := Lib.hid (KW.out.trans hk1 (fun _ _ h => h))
          clear hk1 c0 c1 c2
          go_wp2_with fail
          refine (answersK _).mono ?_
          rintro e ua ⟨rfl, hka⟩
          have KA := Lib.hid (K1.out.trans hka (fun _ _ h => h))
          clear hka
          go_wp2
          go_ret
          exact ⟨rfl, KA.out.below (Nat.le_refl _) (fun _ h => h.elim)⟩
        have d60 : decide ((60 : Int) < (l : Int)) = false := decide_eq_false h60
        go_wp2_with fail
        refine HMay.out.mono ?_
        rintro e w1 ⟨rfl, hk1⟩
        obtain ⟨d0, d1, d2⟩ := HCk.out w1 hk1
        have G1 := Lib.hid (G.out.quiet hk1)
        clear hk1 c0 c1 c2 G
        go_wp2_with fail
        refine (HMark.out trivial w1).mono ?_
        rintro e w2 h2
        obtain ⟨y2, n2, c2, rfl, rfl, hG2⟩ := HMb.out _ _ _ h2
        have HB2 := Lib.hid hG2.own.bytesO
        have G2 := Lib.hid (G1.out.quiet hG2.kp)
        clear h2 hG2 d0 d1 d2 G1
        go_wp2_with
          (at_builtin
           refine wpList_app (by rfl) (.tmp 28) (.tmp 33) (by rfl) (.slice y n c) (flatK (x0.take k)) (by rfl) G2.out _ y2 28 c2 MB (by rfl) HMBl.out HB2.out.1 (by rw [flatK_length, List.length_take]; omega) ?_
           intro y3 n3 c3 w3 hn3 hG3
           rw [← HFl.out] at hG3 hn3
           have HN3 : Hid (n3 = 28 * (k + 1)) := Lib.hid (by rw [hn3.out, flatK_length, List.length_take]; omega)
           have G3 := Lib.hid hG3
           clear hn3 hG3)
        go_roundw
        case rel => exact ⟨k + 1, y3, n3, c3, by omega, rfl, by go_num, fun _ => by omega, G3, HN3, Lib.hid (HGs.out trivial)⟩
        case measure => simp [intOf]; omega
    · have hkl : k = l := by omega
      subst hkl
      have ht : x0.take k = x0 := List.take_of_length_le (by have := HL.out; omega)
      rw [ht] at G HGd
      have hk60 : k ≤ 60 := by
        by_cases h0 : 0 < k
        · exact hbd h0
        · omega
      have b0 := G.out.own.bytesO.1
      have hnc := G.out.own.bytesO.2.2
      have hnk := HNk.out
      have hn1 : n ≤ 1680 := by omega
      obtain ⟨N, hN⟩ : ∃ N, N = A % (n + 1) := ⟨_, rfl⟩
      have hNn : N ≤ n := by have := Nat.mod_lt A (show 0 < n + 1 by omega); omega
      have hN1 : ((A : Int) % ((n : Int) + 1)) = (N : Int) := by rw [hN]; rfl
      have hN2 : Int.tmod (A : Int) ((n : Int) + 1) = (N : Int) := by rw [hN]; rfl
      obtain ⟨p1, p2⟩ := cut_pre y n c N (by omega)
      obtain ⟨D, hD⟩ : ∃ D, D = N / 28 := ⟨_, rfl⟩
      have hDk : D ≤ k := by omega
      have hD1 : (N : Int) / 28 = (D : Int) := by rw [hD]; rfl
      have hD2 : Int.tdiv (N : Int) 28 = (D : Int) := by rw [hD]; rfl
      obtain ⟨s1, s2⟩ := cut_pre_mk a0 k cap0 D (by omega)
      have HB : Hid (Bytes (fun _ => True) wr y ((flatK x0).take N)) := Lib.hid (b0.take N)
      have HBl : Hid (((flatK x0).take N).length = N) := Lib.hid (by rw [List.length_take, flatK_length]; have := HL.out; omega)
      have HMs : Hid (marksM ((flatK x0).take N) = x0.take D) := Lib.hid (by rw [hD]; exact marksM_torn x0 N HGd.out (by have := HL.out; omega))
      have HDl : Hid (D = (x0.take D).length) := Lib.hid (by rw [List.length_take]; have := HL.out; omega)
      have KW := Lib.hid G.out.kp
      have n0 : (0 : Int) ≤ (n : Int) := by omega
      clear hN hD b0 hnk ht hbd G HGd HNk
      go_upto_region 9 with fail
      clear hN1 hN2
      go_wp2_with fail
      refine (decodeK y N c ((flatK x0).take N) HBl.out (by omega) (by omega) HB.out).mono ?_
      rintro e w3 ⟨y3, n3, c3, i3, hn3, hi3, hc3, rfl, hM3, hk3⟩
      rw [HMs.out] at hn3 hM3
      obtain rfl : n3 = D := by rw [hn3, ← HDl.out]
      obtain rfl : i3 = (n3 : Int) * 28 := by omega
      have K3 := Lib.hid (KW.out.trans hk3 (fun _ _ h => h))
      have HM3 := Lib.hid hM3
      clear hk3 hM3 hn3 hi3 p1 p2
      go_wp2_with fail
      refine (answersK w3).mono ?_
      rintro e w4 ⟨rfl, hk4⟩
      have K4 := Lib.hid (K3.out.trans hk4 (fun _ _ h => h))
      have HM4 := Lib.hid (mk_quiet HM3.out hk4)
      have HP4 := Lib.hid (mk_quiet HX.out K4.out)
      clear hk4
      go_wp2_with fail
      refine (sameMarksC y3 a0 n3 c3 cap0 (x0.take n3) HDl.out (by omega) HM4.out (StP.take HP4.out n3)).mono ?_
      rintro e w6 ⟨rfl, hk6⟩
      have K6 := Lib.hid (K4.out.trans hk6 (fun _ _ h => h))
      clear hk6 s1 s2
      go_wp2
      go_ret
      exact ⟨rfl, K6.out.below (Nat.le_refl _) (fun _ h => h.elim)⟩

/-! ### The row's step -/
set_option maxRecDepth 100000 in
theorem lifted (os : Os) (started : os.Started) (H : Type) (enc : TypeId × Value → H) :
    ReturnsInHanded {} Try.checked os 5 .any (Rows.markTornSpec.pre6 enc Try.prog Try.f5 Rows.markTornRow.domain false) (Rows.markTornSpec.post enc Try.prog Try.f5 false true false false) := by
  refine returnsInHanded_of_change_sized (C := Try.checked) own started (by kernel_rfl) Try.func5
    (ChangeSpec.witness6 (enc := enc) (C := Try.checked) false ⟨#[], #[.slice none 0 0, .int .u16 0], []⟩ 8 (by kernel_rfl) (by kernel_rfl) (by kernel_rfl) (by kernel_rfl)) ?_
  intro W base args ds gs before hval0 hW hcnd hsz _
  have hval : ∀ (j : Nat) t v, Try.f5.params[j]? = some t → args[j]? = some v → Value.okWide Try.prog W .any base t v := hval0
  have hW' := hW
  obtain ⟨p, q, hA0, hV, rfl, hfz, hnd⟩ := hW
  have hA : DataW.TrodAll enc Try.prog W 0 (fun _ => true) true Try.f5.params.toList args.toList ds p := hA0
  rw [Try.params5] at hA hval hsz
  obtain ⟨v0, vs0, d0, ds0, p0, q0, hargs, rfl, rfl, h0, r0⟩ := trodAll_cons hA
  obtain ⟨v1, vs1, d1, ds1, p1, q1, rfl, rfl, rfl, h1, r1⟩ := trodAll_cons r0
  obtain ⟨rfl, rfl, rfl⟩ := trodAll_nil r1
  obtain rfl : args = #[v0, v1] := by cases args; simp_all
  obtain ⟨rfl, rfl⟩ := trodVars_none hV
  obtain ⟨a0, len0, cap0, rfl⟩ := okWide_slice Try.underlying30 (hval 0 30 v0 rfl rfl)
  have k0 := h0
  have lt0 : ∀ x ∈ p0, x.block < W.heap.size := by obtain ⟨m, hm⟩ := k0; exact DataW.trod_lt m _ _ _ hm
  obtain ⟨b0, x0, c0, e0, l0, _, B0, m0⟩ : ∃ a L cap, Value.slice a0 len0 cap0 = .slice a L.length cap ∧ L.length ≤ cap ∧ cap ≤ 9223372036854775807 ∧ Ln.MkP (fun k => k < W.heap.size) W a L ∧ ((∀ n ∈ d0.weights Try.prog 30, n ≤ reachBytes) → cap ≤ 140737488351232) := by
    obtain ⟨fuel, hf⟩ := h0
    exact Ln.arg_marks hf
  have hs0 : ∀ n ∈ d0.weights Try.prog 30, n ≤ reachBytes := fun n hn => by
    have := List.all_eq_true.1 hsz n (DataW.weights_mem_each (j := 0) rfl rfl n hn)
    simpa using this
  injection e0 with e0 f0 g0
  subst e0 f0 g0
  obtain ⟨a1, rfl, rfl, rfl, w1⟩ := open_int Try.underlying31 (hval 1 31 v1 rfl rfl) h1
  clear hA0 hval0
  refine (walk a0 x0 cap0 a1 W l0 (m0 hs0) B0 w1).mono fun e W' ⟨he, bel⟩ => ?_
  subst he
  exact ⟨_, rfl, _, _, _, [], _, [], hW', trodAll_mk1 (shut_bool Try.underlying4 _), (trodAll_cons_mk (Below.trod laidOut (by kernel_rfl) (of_decide_eq_true (by kernel_rfl)) k0 bel lt0) (trodAll_cons_mk (shut_int Try.underlying31 w1) trodAll_mk0)), rfl, bel.frame _, fun h => by cases h⟩

theorem over : Rows.markTornRow.holds Try.pinned (OpenSpec.ofChange Rows.markTornSpec) :=
  OpenClaim.holds_of_wide 5 Try.f5 rfl rfl rfl rfl rfl rfl rfl ⟨rfl, rfl, rfl, rfl, rfl⟩ rfl rfl rfl rfl rfl (by kernel_rfl) Try.func5 (by kernel_rfl)
    (of_decide_eq_true (by kernel_rfl)) (by unfold Func.isWrapper; first | (rw [if_pos (by decide +kernel)]; kernel_rfl) | (rw [if_neg (by decide +kernel)]; exact ⟨rfl, rfl⟩))
    (fun os started H enc _ => lifted os started H enc)

/-- The statement. -/
theorem proved : Rows.MarkTornSaid := over
#print axioms proved
end Go.Proofs.Ytcplemamcgonkaa.markTorn
