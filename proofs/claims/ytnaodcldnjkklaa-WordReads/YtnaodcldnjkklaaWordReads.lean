/-
  Proved here: a reader of any bytes, asked for anything, answers what the document's own reader answers (the law WordReads returns true). Conditions: none.
-/
import Derived.Test.YtnaodcldnjkklaaRows
import Derived.Test.YtnaodcldnjkklaaInv
import Derived.Lib.Hide
import Derived.WalkKit
import Derived.ProofKit
import Derived.OpenShut
import Derived.ShutString
import Derived.ChangeOld
import Derived.Below
namespace Go.Proofs.Ytnaodcldnjkklaa.wordReads
open Go.ChangeShapes Go.WideShapes Go.ChangeAt Go.RowKit
set_option linter.unusedVariables false

theorem own : ownKnob Try.prog.godebug = none := by kernel_rfl
theorem laidOut : laidOutB Try.prog = true := by kernel_rfl

/-! ### The walk -/
set_option maxHeartbeats 4000000 in
set_option maxRecDepth 100000 in
theorem walk (a0 : Option Addr) (x0 : List Nat) (cap0 : Nat) (a1 : Option Addr) (x1 : List Wd.OpR) (cap1 : Nat) (w : World) (l0 : x0.length ≤ cap0) (m0 : cap0 ≤ 140737488351232) (B0 : Wd.Bytes (fun k => k < w.heap.size) w a0 x0) (l1 : x1.length ≤ cap1) (m1 : cap1 ≤ 9223372036854775807) (B1 : Wd.Ops w a1 x1) :
    Calls Try.prog 4 #[.slice a0 x0.length cap0, .slice a1 x1.length cap1] w fun e w' => e = .returned (.bool true) ∧ Below w.heap.size w w' := by
  obtain ⟨N, hN⟩ : ∃ N, N = x0.length := ⟨_, rfl⟩
  obtain ⟨L, hL⟩ : ∃ L, L = x1.length := ⟨_, rfl⟩
  rw [← hN] at l0
  rw [← hL] at l1
  rw [← hN, ← hL]
  have HN := Lib.hid hN
  have HL := Lib.hid hL
  have HA := Lib.hid B0
  have HB := Lib.hid B1
  clear hN hL B0 B1
  by_cases hbig : (2000 : Int) < (N : Int)
  · go_enter Try.func4, Try.ntmps4
    go_wp2_with (go_at_call 8; refine (Wd.answers w).mono ?_; rintro e w1 ⟨rfl, hk1⟩)
    go_ret
    exact ⟨rfl, hk1.below (Nat.le_refl _) (fun _ h => h.elim)⟩
  by_cases hbig2 : (100 : Int) < (L : Int)
  · go_enter Try.func4, Try.ntmps4
    go_wp2_with (go_at_call 8; refine (Wd.answers w).mono ?_; rintro e w1 ⟨rfl, hk1⟩)
    go_ret
    exact ⟨rfl, hk1.below (Nat.le_refl _) (fun _ h => h.elim)⟩
  go_enter Try.func4, Try.ntmps4
  go_wp2_with fail
  refine (Wd.read (fun k => k < w.heap.size) a0 N cap0 x0 HN.out.symm (by omega) w HA.out).mono ?_
  rintro e w1 ⟨p, g, rfl, hp, hg, hne, hR, hk, hglt⟩
  obtain ⟨csp, hpat⟩ := hR.at
  have hplt := hpat.lt
  have HR := Lib.hid hR
  clear hR hpat
  go_wp2
  go_loopw [7] (fun i wr => ∃ (k : Nat) (s : Option (List Nat)), k ≤ L ∧ i = .int .i64 (k : Int) ∧ Wd.RInv w p g w1.heap.size s wr) (fun i _ => L - (intOf i).toNat)
  case atStart =>
    refine ⟨0, some x0, by omega, rfl, HR.out.keep ((Wd.Keep.refl _ w1).alloc _) (fun h => h) (fun _ _ _ h => h), ⟨a0, N, cap0, HN.out, l0, Wd.At.new w1 42 _, (HA.out.quiet hk).quiet ((Wd.Keep.refl _ w1).alloc _)⟩, (hk.mono (fun _ _ h => h.elim)).alloc _, by have := HN.out; simp; omega⟩
  case round =>
    obtain ⟨k, s, hkL, rfl, hRr, hEr, hkp, hsl⟩ := hrel
    have HRr := Lib.hid hRr
    have HEr := Lib.hid hEr
    have HSL := Lib.hid hsl
    clear hRr hEr hsl
    have hw1 := hk.size
    have hP : ¬ w1.heap.size < w.heap.size := by omega
    by_cases hlt : (k : Int) < (L : Int)
    · obtain ⟨b, off, x, c, o, HOP, ha, c0, c1, c2, hblt, hol, HTX⟩ := HB.out.at hkp k (by have := HL.out; omega)
      subst ha
      obtain ⟨kind, num, txt⟩ := o
      clear c1 c2 hol HTX HOP
      have k0 : (0 : Int) ≤ (k : Int) := by omega
      by_cases hkind : kind = 1
      · subst hkind
        go_wp2_with fail
        refine (Wd.num (fun b => b = g) p (Ne.symm hne) s wr HRr.out).mono ?_
        rintro e w2 ⟨rfl, hR2, hk2⟩
        have HR2 := Lib.hid hR2
        have HE2 : Hid (Wd.Ey (fun b => b < w.heap.size) w2 w1.heap.size s) := HEr.out.keep hk2 (by omega) (fun b _ h1 h2 => by omega)
        clear hR2
        go_wp2_with fail
        refine (Wd.eyNum (fun b => b < w.heap.size) w1.heap.size hP s w2 HE2.out).mono ?_
        rintro e w3 ⟨rfl, hE3, hk3, _⟩
        have HE3 := Lib.hid hE3
        have HR3 : Hid (Wd.Rd (fun b => b = g) w3 p (Wd.numS s)) := HR2.out.keep hk3 (by omega) (fun b hb h1 h2 => by omega)
        have kp3 : Wd.Keep (fun b => w.heap.size ≤ b) w w3 := (hkp.trans hk2 (fun b _ h => by have : b = p := h; omega)).trans hk3 (fun b _ h => by have : b = w1.heap.size := h; omega)
        have KP3 := Lib.hid kp3
        have HL3 : Hid (((Wd.numS s).getD []).length ≤ 2000) := Nat.le_trans (Wd.numS_len s) HSL.out
        clear hE3 hk2 hk3 kp3 c0
        cases hok : Wd.numOk s with
        | false =>
          rw [Wd.numS_no hok] at HE3 HR3 HL3
          obtain ⟨y, m, c', hmc, hA3⟩ := HE3.out
          have d0 := hA3.cell 0
          have d1 := hA3.cell 1
          simp at d0 d1
          clear hA3
          have hd : Wd.doneB none = false := rfl
          go_wp2
          go_quiet ((go_at_call 20; exact Wd.quiet_same (Wd.done (fun b => b = g) p none _ (HR3.out.drewN _))))
          go_wp2
          go_roundw
          case rel => exact ⟨k + 1, none, by omega, by go_num, Wd.RInv.drewN ⟨HR3.out, HE3.out, KP3.out, HL3.out⟩ _⟩
          case measure => simp [intOf]; omega
        | true =>
          obtain ⟨bs', hS⟩ : ∃ bs', Wd.numS s = some bs' := by obtain ⟨bs, _, _, _, _, e⟩ := Wd.numOk_some hok; exact ⟨_, e⟩
          rw [hS] at HE3 HR3 HL3
          obtain ⟨y, m, c', hm, hmc, hA3, hY3⟩ := HE3.out
          have d0 := hA3.cell 0
          have d1 := hA3.cell 1
          simp at d0 d1
          have HM := Lib.hid hm
          clear hA3 hY3 hm hS
          by_cases h0 : bs' = []
          · have HH : Hid (bs' = []) := h0
            have hm0 : m = 0 := by rw [HM.out, h0]; rfl
            subst hm0
            have hd : Wd.doneB (some bs') = true := by rw [h0]; rfl
            clear h0
            go_wp2
            go_quiet ((go_at_call 20; exact Wd.quiet_same (Wd.done (fun b => b = g) p (some bs') _ (HR3.out.drewN _))))
            go_wp2
            go_roundw
            case rel => exact ⟨k + 1, some bs', by omega, by go_num, Wd.RInv.drewN ⟨HR3.out, HE3.out, KP3.out, HL3.out⟩ _⟩
            case measure => simp [intOf]; omega
          · have hd : Wd.doneB (some bs') = false := Wd.done_some h0
            have hm0 : 0 < m := by rw [HM.out]; exact List.length_pos_iff.2 h0
            have hq : ((m : Int) == 0) = false := by simp; omega
            clear h0
            go_wp2
            go_quiet ((go_at_call 20; exact Wd.quiet_same (Wd.done (fun b => b = g) p (some bs') _ (HR3.out.drewN _))))
            go_wp2
            go_roundw
            case rel => exact ⟨k + 1, some bs', by omega, by go_num, Wd.RInv.drewN ⟨HR3.out, HE3.out, KP3.out, HL3.out⟩ _⟩
            case measure => simp [intOf]; omega
      · have hkd : (kind == 1) = false := by simpa using hkind
        clear hkind
        go_wp2_with fail
        refine (Wd.byt (fun b => b = g) p (Ne.symm hne) s wr HRr.out).mono ?_
        rintro e w2 ⟨x2, m2, hm2, rfl, hB2, hR2, hk2⟩
        have HR2 := Lib.hid hR2
        have HB2 := Lib.hid hB2
        have HM2 := Lib.hid hm2
        have HE2 : Hid (Wd.Ey (fun b => b < w.heap.size) w2 w1.heap.size s) := HEr.out.keep hk2 (by omega) (fun b _ h1 h2 => by omega)
        clear hR2 hB2 hm2
        go_wp2_with fail
        refine (Wd.eyByt (fun b => b < w.heap.size) w1.heap.size hP (fun b hb => by omega) s (Nat.le_trans HSL.out (by omega)) w2 HE2.out).mono ?_
        rintro e w3 ⟨x3, m3, c3, hm3, rfl, hB3, hE3, hk3⟩
        have HE3 := Lib.hid hE3
        have HR3 : Hid (Wd.Rd (fun b => b = g) w3 p (Wd.bytS s)) := HR2.out.keep hk3 (by omega) (fun b hb h1 h2 => by omega)
        have s2 := Wd.run_str (HB2.out.keep hk3 (fun b hb h1 h2 => by omega)) m2 m2 HM2.out.symm
        have s3 := Wd.run_str hB3 m3 c3 hm3.symm
        have kp3 : Wd.Keep (fun b => w.heap.size ≤ b) w w3 := (hkp.trans hk2 (fun b _ h => by have : b = p := h; omega)).trans hk3 (fun b _ h => by have : b = w1.heap.size := h; omega)
        have KP3 := Lib.hid kp3
        have HL3 : Hid (((Wd.bytS s).getD []).length ≤ 2000) := Nat.le_trans (Wd.bytS_len s) HSL.out
        clear hE3 hB3 hk2 hk3 kp3 c0 hm3
        cases hok : Wd.bytOk s with
        | false =>
          rw [Wd.bytS_no hok] at HE3 HR3 HL3
          obtain ⟨y, m, c', hmc, hA3⟩ := HE3.out
          have d0 := hA3.cell 0
          have d1 := hA3.cell 1
          simp at d0 d1
          clear hA3
          have hd : Wd.doneB none = false := rfl
          go_wp2
          go_quiet ((go_at_call 20; exact Wd.quiet_same (Wd.done (fun b => b = g) p none _ (HR3.out.drewN _))))
          go_wp2
          go_roundw
          case rel => exact ⟨k + 1, none, by omega, by go_num, Wd.RInv.drewN ⟨HR3.out, HE3.out, KP3.out, HL3.out⟩ _⟩
          case measure => simp [intOf]; omega
        | true =>
          obtain ⟨bs', hS⟩ : ∃ bs', Wd.bytS s = some bs' := by
            have h : Wd.takeOk (Wd.numV s) (Wd.numS s) = true := hok
            exact ⟨_, by rw [Wd.bytS, Wd.takeS, if_pos h]⟩
          rw [hS] at HE3 HR3 HL3
          obtain ⟨y, m, c', hm, hmc, hA3, hY3⟩ := HE3.out
          have d0 := hA3.cell 0
          have d1 := hA3.cell 1
          simp at d0 d1
          have HM := Lib.hid hm
          clear hA3 hY3 hm hS
          by_cases h0 : bs' = []
          · have HH : Hid (bs' = []) := h0
            have hm0 : m = 0 := by rw [HM.out, h0]; rfl
            subst hm0
            have hd : Wd.doneB (some bs') = true := by rw [h0]; rfl
            clear h0
            go_wp2
            go_quiet ((go_at_call 20; exact Wd.quiet_same (Wd.done (fun b => b = g) p (some bs') _ (HR3.out.drewN _))))
            go_wp2
            go_roundw
            case rel => exact ⟨k + 1, some bs', by omega, by go_num, Wd.RInv.drewN ⟨HR3.out, HE3.out, KP3.out, HL3.out⟩ _⟩
            case measure => simp [intOf]; omega
          · have hd : Wd.doneB (some bs') = false := Wd.done_some h0
            have hm0 : 0 < m := by rw [HM.out]; exact List.length_pos_iff.2 h0
            have hq : ((m : Int) == 0) = false := by simp; omega
            clear h0
            go_wp2
            go_quiet ((go_at_call 20; exact Wd.quiet_same (Wd.done (fun b => b = g) p (some bs') _ (HR3.out.drewN _))))
            go_wp2
            go_roundw
            case rel => exact ⟨k + 1, some bs', by omega, by go_num, Wd.RInv.drewN ⟨HR3.out, HE3.out, KP3.out, HL3.out⟩ _⟩
            case measure => simp [intOf]; omega
    · go_wp2_with (go_at_call 8; refine (Wd.answers wr).mono ?_; rintro e w2 ⟨rfl, hk2⟩)
      go_ret
      exact ⟨rfl, (hkp.trans hk2 (fun _ _ h => h.elim)).below (Nat.le_refl _) (fun _ h => h)⟩

/-! ### The row's step -/
set_option maxRecDepth 100000 in
theorem lifted (os : Os) (started : os.Started) (H : Type) (enc : TypeId × Value → H) :
    ReturnsInHanded {} Try.checked os 4 .any (Rows.wordReadsSpec.pre6 enc Try.prog Try.f4 Rows.wordReadsRow.domain false) (Rows.wordReadsSpec.post enc Try.prog Try.f4 false true false false) := by
  refine returnsInHanded_of_change_sized (C := Try.checked) own started (by kernel_rfl) Try.func4
    (ChangeSpec.witness6 (enc := enc) (C := Try.checked) false ⟨#[], #[.slice none 0 0, .slice none 0 0], []⟩ 8 (by kernel_rfl) (by kernel_rfl) (by kernel_rfl) (by kernel_rfl)) ?_
  intro W base args ds gs before hval0 hW hcnd hsz _
  have hval : ∀ (j : Nat) t v, Try.f4.params[j]? = some t → args[j]? = some v → Value.okWide Try.prog W .any base t v := hval0
  have hW' := hW
  obtain ⟨p, q, hA0, hV, rfl, hfz, hnd⟩ := hW
  have hA : DataW.TrodAll enc Try.prog W 0 (fun _ => true) true Try.f4.params.toList args.toList ds p := hA0
  rw [Try.params4] at hA hval hsz
  obtain ⟨v0, vs0, d0, ds0, p0, q0, hargs, rfl, rfl, h0, r0⟩ := trodAll_cons hA
  obtain ⟨v1, vs1, d1, ds1, p1, q1, rfl, rfl, rfl, h1, r1⟩ := trodAll_cons r0
  obtain ⟨rfl, rfl, rfl⟩ := trodAll_nil r1
  obtain rfl : args = #[v0, v1] := by cases args; simp_all
  obtain ⟨rfl, rfl⟩ := trodVars_none hV
  obtain ⟨a0, len0, cap0, rfl⟩ := okWide_slice Try.underlying24 (hval 0 24 v0 rfl rfl)
  have k0 := h0
  have lt0 : ∀ x ∈ p0, x.block < W.heap.size := by obtain ⟨m, hm⟩ := k0; exact DataW.trod_lt m _ _ _ hm
  obtain ⟨b0, x0, c0, e0, l0, _, B0, m0⟩ : ∃ a bs cap, Value.slice a0 len0 cap0 = .slice a bs.length cap ∧ bs.length ≤ cap ∧ cap ≤ 9223372036854775807 ∧ Wd.Bytes (fun k => k < W.heap.size) W a bs ∧ ((∀ n ∈ d0.weights Try.prog 24, n ≤ reachBytes) → cap ≤ 140737488351232) := by
    obtain ⟨fuel, hf⟩ := h0
    exact Wd.arg_bytes hf
  have hs0 : ∀ n ∈ d0.weights Try.prog 24, n ≤ reachBytes := fun n hn => by
    have := List.all_eq_true.1 hsz n (DataW.weights_mem_each (j := 0) rfl rfl n hn)
    simpa using this
  injection e0 with e0 f0 g0
  subst e0 f0 g0
  obtain ⟨a1, len1, cap1, rfl⟩ := okWide_slice Try.underlying22 (hval 1 22 v1 rfl rfl)
  have k1 := h1
  have lt1 : ∀ x ∈ p1, x.block < W.heap.size := by obtain ⟨m, hm⟩ := k1; exact DataW.trod_lt m _ _ _ hm
  obtain ⟨b1, x1, c1, e1, l1, m1, B1⟩ : ∃ a ops cap, Value.slice a1 len1 cap1 = .slice a ops.length cap ∧ ops.length ≤ cap ∧ cap ≤ 9223372036854775807 ∧ Wd.Ops W a ops := by
    obtain ⟨fuel, hf⟩ := h1
    exact Wd.arg_ops hf
  injection e1 with e1 f1 g1
  subst e1 f1 g1
  clear hA0 hval0
  refine (walk a0 x0 cap0 a1 x1 cap1 W l0 (m0 hs0) B0 l1 m1 B1).mono fun e W' ⟨he, bel⟩ => ?_
  subst he
  exact ⟨_, rfl, _, _, _, [], _, [], hW', trodAll_mk1 (shut_bool Try.underlying4 _), (trodAll_cons_mk (Below.trod laidOut (by kernel_rfl) (of_decide_eq_true (by kernel_rfl)) k0 bel lt0) (trodAll_cons_mk (Below.trod laidOut (by kernel_rfl) (of_decide_eq_true (by kernel_rfl)) k1 bel lt1) trodAll_mk0)), rfl, bel.frame _, fun h => by cases h⟩

theorem over : Rows.wordReadsRow.holds Try.pinned (OpenSpec.ofChange Rows.wordReadsSpec) :=
  OpenClaim.holds_of_wide 4 Try.f4 rfl rfl rfl rfl rfl rfl rfl ⟨rfl, rfl, rfl, rfl, rfl⟩ rfl rfl rfl rfl rfl (by kernel_rfl) Try.func4 (by kernel_rfl)
    (of_decide_eq_true (by kernel_rfl)) (by unfold Func.isWrapper; first | (rw [if_pos (by decide +kernel)]; kernel_rfl) | (rw [if_neg (by decide +kernel)]; exact ⟨rfl, rfl⟩))
    (fun os started H enc _ => lifted os started H enc)

/-- The statement. -/
theorem proved : Rows.WordReadsSaid := over
#print axioms proved
end Go.Proofs.Ytnaodcldnjkklaa.wordReads
