/-
  Proved here: for every number and at most 200 marks, good or not, Fates answers the fates that the document's own Fates makes of the good ones. Conditions: none.
-/
import Derived.Test.YtcplemamcgonkaaRows
import Derived.Test.YtcplemamcgonkaaHV
import Derived.Lib.Hide
import Derived.WalkKit
import Derived.ProofKit
import Derived.OpenShut
import Derived.ShutString
import Derived.ChangeOld
import Derived.Below
namespace Go.Proofs.Ytcplemamcgonkaa.markFates
open Go.ChangeShapes Go.WideShapes Go.ChangeAt Go.RowKit
set_option linter.unusedVariables false
set_option linter.unusedSimpArgs false
open Ln
theorem own : ownKnob Try.prog.godebug = none := by kernel_rfl
theorem laidOut : laidOutB Try.prog = true := by kernel_rfl

/-! ### The walk -/
set_option maxHeartbeats 16000000 in
set_option maxRecDepth 100000 in
theorem walk (a0 : Int) (a1 : Option Addr) (x1 : List Ln.Mk) (cap1 : Nat) (w : World) (w0 : (Lit.int .i64 a0).wf = true) (l1 : x1.length ≤ cap1) (m1 : cap1 ≤ 140737488351232) (B1 : Ln.MkP (fun k => k < w.heap.size) w a1 x1) :
    Calls Try.prog 6 #[.int .i64 a0, .slice a1 x1.length cap1] w fun e w' => e = .returned (.bool true) ∧ Below w.heap.size w w' := by
  obtain ⟨MX, hM1, hM2⟩ := run_cnt a0
  have hN8 := cntF_le a0
  have HFt : Hid (∀ (P : Nat → Prop) (Z : World) (x : Option Addr) (l c : Nat) (L : List Mk), l = L.length → l ≤ 1000000000 → MkP P Z x L → Calls Try.prog 18 #[.int .i64 a0, .slice x l c] Z (FatP (cntF a0) L Z)) := Lib.hid (fun P Z x l c L h1 h2 h3 => fatesC a0 x l c L h1 h2 h3)
  obtain ⟨N, hN⟩ : ∃ N, N = cntF a0 := ⟨_, rfl⟩
  rw [← hN] at hM2 hN8 HFt
  obtain ⟨l, hl⟩ : ∃ l, l = x1.length := ⟨_, rfl⟩
  rw [← hl] at l1
  rw [← hl]
  have HL := Lib.hid hl
  have HX := Lib.hid B1
  clear hl B1 hN
  by_cases h200 : (200 : Int) < (l : Int)
  · go_enter Try.func6, Try.ntmps6
    go_wp2_with fail
    refine (answersK _).mono ?_
    rintro e ua ⟨rfl, hka⟩
    have KA := Lib.hid ((Keep.refl (fun _ => False) w).trans hka (fun _ _ h => h))
    clear hka
    go_wp2
    go_ret
    exact ⟨rfl, KA.out.below (Nat.le_refl _) (fun _ h => h.elim)⟩
  · go_enter Try.func6, Try.ntmps6
    go_wp2
    go_loopw [5, 6] (fun v i wr => ∃ (k : Nat) (y : Option Addr) (n c : Nat) (q : Option Nat), k ≤ l ∧ v = .slice y n c ∧ i = .int .i64 (k : Int) ∧ Hid (Mo w wr y n c q ((x1.take k).filter goodK))) (fun _ i _ => l - (intOf i).toNat)
    case atStart => exact ⟨0, none, 0, 0, none, by omega, rfl, rfl, Mo.start (Keep.refl _ w) none⟩
    case round =>
      obtain ⟨k, y, n, c, q, hk, rfl, rfl, G⟩ := hrel
      by_cases hlt : (k : Int) < (l : Int)
      · have hkl : k < x1.length := by have := HL.out; omega
        have k0 : (0 : Int) ≤ (k : Int) := by omega
        have KW := Lib.hid G.out.kp
        obtain ⟨b, off, _, _, hx, c0, c1, c2⟩ := mk_at (mk_quiet HX.out KW.out) k hkl
        subst hx
        have hfs := filter_snoc goodK x1 k hkl
        obtain ⟨m, hm⟩ : ∃ m, m = x1[k] := ⟨_, rfl⟩
        rw [← hm] at c0 c1 c2 hfs
        have HCk : Hid (∀ Z, Keep (fun _ => False) wr Z → Z.cell? ⟨b, off + k * 3, none⟩ = some (.int .i64 m.kind) ∧ Z.cell? ⟨b, off + k * 3 + 1, none⟩ = some (.int .i64 m.rcpt) ∧ Z.cell? ⟨b, off + k * 3 + 2, none⟩ = some (.int .i64 m.n)) := Lib.hid (fun Z kk => ⟨kk.cell c0 (fun h => h), kk.cell c1 (fun h => h), kk.cell c2 (fun h => h)⟩)
        have HMay := Lib.hid (mayMarkC m wr)
        have HFL := Lib.hid (filter_len goodK x1 k)
        have HFs := Lib.hid hfs
        obtain ⟨g, hg⟩ : ∃ g, g = goodK m := ⟨_, rfl⟩
        rw [← hg] at HMay HFs
        clear hm hg hfs
        unfold mkC at HMay
        cases g with
        | false =>
          have e : ((x1.take (k + 1)).filter goodK) = ((x1.take k).filter goodK) := by rw [HFs.out]; simp
          go_wp2_with fail
          refine HMay.out.mono ?_
          rintro e w1 ⟨rfl, hk1⟩
          have G1 : Hid (Mo w w1 y n c q ((x1.take (k + 1)).filter goodK)) := Lib.hid (by rw [‹(x1.take (k + 1)).filter goodK = _›]; exact G.out.quiet hk1)
          clear hk1 c0 c1 c2
          go_wp2
          go_roundw
          case rel => exact ⟨k + 1, y, n, c, q, by omega, rfl, by go_num, G1⟩
          case measure => simp [intOf]; omega
        | true =>
          have HFe : Hid (((x1.take (k + 1)).filter goodK) = ((x1.take k).filter goodK) ++ [m]) := Lib.hid (by rw [HFs.out]; simp)
          go_wp2_with fail
          refine HMay.out.mono ?_
          rintro e w1 ⟨rfl, hk1⟩
          obtain ⟨d0, d1, d2⟩ := HCk.out w1 hk1
          have H1 := Lib.hid (mk_one w1 m)
          have G1 : Hid (Mo w (w1.alloc (.cells #[.int .i64 m.kind, .int .i64 m.rcpt, .int .i64 m.n] 23)) y n c q ((x1.take k).filter goodK)) := Lib.hid ((G.out.quiet hk1).quiet (keep_new w1 _))
          clear hk1 c0 c1 c2 G
          go_wp2_with
            (at_builtin
             refine wpList_app_mk (by rfl) (.tmp 23) (.tmp 28) (by rfl) (.slice y n c) (by rfl) q ((x1.take k).filter goodK) G1.out.own (some ⟨w1.heap.size, 0, none⟩) 1 1 (by rfl) [m] rfl H1.out (by have := HFL.out; omega) ?_
             intro y3 n3 c3 q3 w3 hn3 ho3 hk3 hw3
             have G3 := Lib.hid (G1.out.app ho3 hk3 hw3)
             rw [← HFe.out] at G3
             clear hn3 ho3 hk3 hw3)
          go_roundw
          case rel => exact ⟨k + 1, y3, n3, c3, q3, by omega, rfl, by go_num, G3⟩
          case measure => simp [intOf]; omega
      · have hkl : k = l := by omega
        subst hkl
        have ht : x1.take k = x1 := List.take_of_length_le (by have := HL.out; omega)
        rw [ht] at G
        have KW := Lib.hid G.out.kp
        obtain ⟨hnf, hncf, hpf⟩ := G.out.row
        have HNF := Lib.hid hnf
        have HPF := Lib.hid hpf
        have hn200 : n ≤ 200 := by rw [hnf]; have := List.length_filter_le goodK x1; have := HL.out; omega
        clear hnf hpf ht G
        go_wp2_with fail
        refine (answersK wr).mono ?_
        rintro e w2 ⟨rfl, hk2⟩
        have K2 := Lib.hid (KW.out.trans hk2 (fun _ _ h => h))
        have HP2 := Lib.hid (mk_quiet HPF.out hk2)
        clear hk2
        go_wp2_with fail
        refine (HFt.out _ w2 a1 k cap1 x1 HL.out (by omega) (mk_quiet HX.out K2.out)).mono ?_
        rintro e w3 ⟨g3, hg3, rfl, hR3, hk3⟩
        have K3 := Lib.hid (K2.out.trans hk3 (fun _ _ h => h))
        have HP3 := Lib.hid (mk_quiet HP2.out hk3)
        have HR3 := Lib.hid hR3
        clear hg3 hR3 hk3
        go_wp2_with fail
        refine (refFatesC N hN8 y n c (x1.filter goodK) HNF.out (by omega) (fun m hm => (List.mem_filter.1 hm).2) HP3.out).mono ?_
        rintro e w4 ⟨g4, hg4, rfl, hR4, hk4⟩
        rw [fatesM_filter] at hR4
        have K4 := Lib.hid (K3.out.trans hk4 (fun _ _ h => h))
        have HF4 := Lib.hid (StR.row hR4)
        have HF3 := Lib.hid (StR.row (StR.keep HR3.out hk4 (fun h => h)))
        clear hg4 hR4 hk4
        go_wp2_with fail
        refine (sameFatesC (some ⟨g3, 0, none⟩) (some ⟨g4, 0, none⟩) N N N (fatesM N x1) (fatesM_length N x1).symm (by omega) HF3.out HF4.out).mono ?_
        rintro e w6 ⟨rfl, hk6⟩
        have K6 := Lib.hid (K4.out.trans hk6 (fun _ _ h => h))
        clear hk6
        go_wp2
        go_ret
        exact ⟨rfl, K6.out.below (Nat.le_refl _) (fun _ h => h.elim)⟩

/-! ### The row's step -/
set_option maxRecDepth 100000 in
theorem lifted (os : Os) (started : os.Started) (H : Type) (enc : TypeId × Value → H) :
    ReturnsInHanded {} Try.checked os 6 .any (Rows.markFatesSpec.pre6 enc Try.prog Try.f6 Rows.markFatesRow.domain false) (Rows.markFatesSpec.post enc Try.prog Try.f6 false true false false) := by
  refine returnsInHanded_of_change_sized (C := Try.checked) own started (by kernel_rfl) Try.func6
    (ChangeSpec.witness6 (enc := enc) (C := Try.checked) false ⟨#[], #[.int .i64 0, .slice none 0 0], []⟩ 8 (by kernel_rfl) (by kernel_rfl) (by kernel_rfl) (by kernel_rfl)) ?_
  intro W base args ds gs before hval0 hW hcnd hsz _
  have hval : ∀ (j : Nat) t v, Try.f6.params[j]? = some t → args[j]? = some v → Value.okWide Try.prog W .any base t v := hval0
  have hW' := hW
  obtain ⟨p, q, hA0, hV, rfl, hfz, hnd⟩ := hW
  have hA : DataW.TrodAll enc Try.prog W 0 (fun _ => true) true Try.f6.params.toList args.toList ds p := hA0
  rw [Try.params6] at hA hval hsz
  obtain ⟨v0, vs0, d0, ds0, p0, q0, hargs, rfl, rfl, h0, r0⟩ := trodAll_cons hA
  obtain ⟨v1, vs1, d1, ds1, p1, q1, rfl, rfl, rfl, h1, r1⟩ := trodAll_cons r0
  obtain ⟨rfl, rfl, rfl⟩ := trodAll_nil r1
  obtain rfl : args = #[v0, v1] := by cases args; simp_all
  obtain ⟨rfl, rfl⟩ := trodVars_none hV
  obtain ⟨a0, rfl, rfl, rfl, w0⟩ := open_int Try.underlying3 (hval 0 3 v0 rfl rfl) h0
  obtain ⟨a1, len1, cap1, rfl⟩ := okWide_slice Try.underlying30 (hval 1 30 v1 rfl rfl)
  have k1 := h1
  have lt1 : ∀ x ∈ p1, x.block < W.heap.size := by obtain ⟨m, hm⟩ := k1; exact DataW.trod_lt m _ _ _ hm
  obtain ⟨b1, x1, c1, e1, l1, _, B1, m1⟩ : ∃ a L cap, Value.slice a1 len1 cap1 = .slice a L.length cap ∧ L.length ≤ cap ∧ cap ≤ 9223372036854775807 ∧ Ln.MkP (fun k => k < W.heap.size) W a L ∧ ((∀ n ∈ d1.weights Try.prog 30, n ≤ reachBytes) → cap ≤ 140737488351232) := by
    obtain ⟨fuel, hf⟩ := h1
    exact Ln.arg_marks hf
  have hs1 : ∀ n ∈ d1.weights Try.prog 30, n ≤ reachBytes := fun n hn => by
    have := List.all_eq_true.1 hsz n (DataW.weights_mem_each (j := 1) rfl rfl n hn)
    simpa using this
  injection e1 with e1 f1 g1
  subst e1 f1 g1
  clear hA0 hval0
  refine (walk a0 a1 x1 cap1 W w0 l1 (m1 hs1) B1).mono fun e W' ⟨he, bel⟩ => ?_
  subst he
  exact ⟨_, rfl, _, _, _, [], _, [], hW', trodAll_mk1 (shut_bool Try.underlying4 _), (trodAll_cons_mk (shut_int Try.underlying3 w0) (trodAll_cons_mk (Below.trod laidOut (by kernel_rfl) (of_decide_eq_true (by kernel_rfl)) k1 bel lt1) trodAll_mk0)), rfl, bel.frame _, fun h => by cases h⟩

theorem over : Rows.markFatesRow.holds Try.pinned (OpenSpec.ofChange Rows.markFatesSpec) :=
  OpenClaim.holds_of_wide 6 Try.f6 rfl rfl rfl rfl rfl rfl rfl ⟨rfl, rfl, rfl, rfl, rfl⟩ rfl rfl rfl rfl rfl (by kernel_rfl) Try.func6 (by kernel_rfl)
    (of_decide_eq_true (by kernel_rfl)) (by unfold Func.isWrapper; first | (rw [if_pos (by decide +kernel)]; kernel_rfl) | (rw [if_neg (by decide +kernel)]; exact ⟨rfl, rfl⟩))
    (fun os started H enc _ => lifted os started H enc)

/-- The statement. -/
theorem proved : Rows.MarkFatesSaid := over
#print axioms proved
end Go.Proofs.Ytcplemamcgonkaa.markFates
