/-
  Proved here: of two rows of bytes, each behind its count, that are cut anywhere, no more is read than there is, and then nothing any more (the law WordCut returns true). Conditions: none.
-/
import Derived.Test.YtnaodcldnjkklaaRows
import Derived.Test.YtnaodcldnjkklaaInv
import Derived.Lib.Hide
import Derived.WalkKit
import Derived.ProofKit
import Derived.OpenShut
import Derived.ShutString
import Derived.ChangeOld
import Derived.Below
namespace Go.Proofs.Ytnaodcldnjkklaa.wordCut
open Go.ChangeShapes Go.WideShapes Go.ChangeAt Go.RowKit
set_option linter.unusedVariables false

theorem own : ownKnob Try.prog.godebug = none := by kernel_rfl
theorem laidOut : laidOutB Try.prog = true := by kernel_rfl

/-! ### The walk -/
set_option maxHeartbeats 4000000 in
set_option maxRecDepth 100000 in
theorem walk (a0 : Option Addr) (x0 : List Nat) (cap0 : Nat) (a1 : Option Addr) (x1 : List Nat) (cap1 : Nat) (a2 : Int) (w : World) (l0 : x0.length ≤ cap0) (m0 : cap0 ≤ 140737488351232) (B0 : Wd.Bytes (fun k => k < w.heap.size) w a0 x0) (l1 : x1.length ≤ cap1) (m1 : cap1 ≤ 140737488351232) (B1 : Wd.Bytes (fun k => k < w.heap.size) w a1 x1) (w2 : (Lit.int .u16 a2).wf = true) :
    Calls Try.prog 7 #[.slice a0 x0.length cap0, .slice a1 x1.length cap1, .int .u16 a2] w fun e w' => e = .returned (.bool true) ∧ Below w.heap.size w w' := by
  have b2 := bounds_u16 w2
  obtain ⟨C, rfl⟩ := Int.eq_ofNat_of_zero_le b2.1
  obtain ⟨la, hla⟩ : ∃ la, la = x0.length := ⟨_, rfl⟩
  obtain ⟨lb, hlb⟩ : ∃ lb, lb = x1.length := ⟨_, rfl⟩
  rw [← hla] at l0
  rw [← hlb] at l1
  rw [← hla, ← hlb]
  have HLA := Lib.hid hla
  have HLB := Lib.hid hlb
  have HA := Lib.hid B0
  have HB := Lib.hid B1
  clear B0 B1 hla hlb
  by_cases h5 : (500 : Int) < (la : Int) + (lb : Int)
  · go_enter Try.func7, Try.ntmps7
    go_wp2_with fail
    refine (Wd.answers w).mono ?_
    rintro e w' ⟨rfl, hk⟩
    go_wp2
    go_ret
    exact ⟨rfl, hk.below (Nat.le_refl _) (fun _ h => h.elim)⟩
  go_enter Try.func7, Try.ntmps7
  go_wp2_with fail
  refine (Wd.refBytes _ a0 la cap0 x0 HLA.out.symm (by omega) w HA.out).mono ?_
  rintro e w1 ⟨y1, n1, c1, hn1, rfl, hO1, hw1, hk1⟩
  have HO1 := Lib.hid hO1
  have HN1 := Lib.hid hn1
  have HW1 := Lib.hid hw1
  clear hO1 hn1 hw1
  go_wp2_with fail
  refine (Wd.refBytes _ a1 lb cap1 x1 HLB.out.symm (by omega) w1 (HB.out.quiet hk1)).mono ?_
  rintro e w2 ⟨y2, n2, c2, hn2, rfl, hO2, hw2, hk2⟩
  have HO2 := Lib.hid hO2
  have HN2 := Lib.hid hn2
  have HW2 := Lib.hid hw2
  clear hO2 hn2 hw2
  have hn1' : n1 ≤ 508 := by have := HN1.out; rw [Wd.enc_length] at this; have := HLA.out; omega
  have hn2' : n2 ≤ 508 := by have := HN2.out; rw [Wd.enc_length] at this; have := HLB.out; omega
  go_wp2_with
    (at_builtin
     refine Wd.wpList_append_bytes (by rfl) (.tmp 26) (.tmp 28) (by rfl) (.slice y1 n1 c1) (Wd.enc x0) (by rfl) (HO1.out.keep hk2 (fun _ _ h => h)) _ y2 n2 c2 (Wd.enc x1) (by rfl) HN2.out.symm
        HO2.out.bytes (by rw [← HN1.out]; omega) ?_
     intro y3 n3 c3 w3 hn3 hO3 hk3 hnew3
     have HO3 := Lib.hid hO3
     have HK3 := Lib.hid hk3
     have HW3 := Lib.hid hnew3
     have hn3c : n3 ≤ c3 := HO3.out.cap_le
     have HN3 : Hid (n3 = 16 + la + lb) := by show _ = _; rw [hn3.out, List.length_append, Wd.enc_length, Wd.enc_length, HLA.out, HLB.out]; omega
     have hn3b : n3 ≤ 516 := by have := HN3.out; omega
     obtain ⟨K, hKd⟩ : ∃ K, K = C % (n3 + 1) := ⟨_, rfl⟩
     have hK : (C : Int) % ((n3 : Int) + 1) = (K : Int) := by rw [hKd]; rfl
     have hKl : K ≤ n3 := by have := Nat.mod_lt C (show 0 < n3 + 1 by omega); omega
     obtain ⟨s1, s2⟩ := Wd.cut_pre y3 n3 c3 K (by omega)
     clear hO3 hk3 hnew3 hKd)
  refine (Wd.read _ y3 K c3 ((Wd.enc x0 ++ Wd.enc x1).take K) (by rw [List.length_take, ← hn3.out]; omega) (by omega) w3 (HO3.out.bytes.take K)).mono ?_
  rintro e w4 ⟨p4, g4, rfl, hp4, hg4, hne4, hR4, hk4, _⟩
  have HR4 := Lib.hid hR4
  clear hR4
  obtain ⟨s4, hs4⟩ : ∃ s, s = some ((Wd.enc x0 ++ Wd.enc x1).take K) := ⟨_, rfl⟩
  rw [← hs4] at HR4
  have HS4 := Lib.hid hs4
  clear hs4 s1 s2
  go_wp2_with fail
  refine (Wd.byt (fun k => k = g4) p4 (Ne.symm hne4) s4 w4 HR4.out).mono ?_
  rintro e w5 ⟨x5, m5, hm5, rfl, hB5, hR5, hk5⟩
  obtain ⟨o5, ho5⟩ : ∃ o, o = Wd.bytOk s4 := ⟨_, rfl⟩
  rw [← ho5]
  have HM5 := Lib.hid hm5
  have HB5 := Lib.hid hB5
  have HR5 := Lib.hid hR5
  have HO5 := Lib.hid ho5
  clear hm5 hB5 hR5 ho5
  go_wp2_with fail
  refine (Wd.byt (fun k => k = g4) p4 (Ne.symm hne4) (Wd.bytS s4) w5 HR5.out).mono ?_
  rintro e w6 ⟨x6, m6, hm6, rfl, hB6, hR6, hk6⟩
  obtain ⟨o6, ho6⟩ : ∃ o, o = Wd.bytOk (Wd.bytS s4) := ⟨_, rfl⟩
  rw [← ho6]
  have HM6 := Lib.hid hm6
  have HB6 := Lib.hid hB6
  have HR6 := Lib.hid hR6
  have HO6 := Lib.hid ho6
  clear hm6 hB6 hR6 ho6
  go_wp2_with fail
  refine (Wd.num (fun k => k = g4) p4 (Ne.symm hne4) (Wd.bytS (Wd.bytS s4)) w6 HR6.out).mono ?_
  rintro e w7 ⟨rfl, hR7, hk7⟩
  obtain ⟨h1, h2, h3, h4, h5'⟩ := Wd.cut_math x0 x1 K (by have := HLA.out; have := HLB.out; unfold Wd.top; omega) (by have := HLA.out; have := HLB.out; unfold Wd.top; omega) (by have := HN3.out; have := HLA.out; have := HLB.out; omega)
  rw [← HS4.out] at h1 h2 h3 h4 h5'
  rw [h5']
  rw [Wd.numS_no h5'] at hR7
  have HR7 := Lib.hid hR7
  have q1 : w.heap.size ≤ w1.heap.size := hk1.size
  have q2 : w1.heap.size ≤ w2.heap.size := hk2.size
  have q3 : w2.heap.size ≤ w3.heap.size := HK3.out.size
  have keep : Wd.Keep (fun k => w.heap.size ≤ k) w w7 := by
    have t2 := hk1.trans hk2 (fun _ _ h => h)
    have t3 : Wd.Keep (fun k => w.heap.size ≤ k) w w3 := (t2.mono (fun _ _ h => h.elim)).trans HK3.out (fun k hk h => by
      rcases HW1.out k h with h | h
      · cases h
      · exact h)
    have t4 := t3.trans hk4 (fun _ _ h => h.elim)
    have t5 := t4.trans hk5 (fun k hk h => by have : k = p4 := h; omega)
    have t6 := t5.trans hk6 (fun k hk h => by have : k = p4 := h; omega)
    exact t6.trans hk7 (fun k hk h => by have : k = p4 := h; omega)
  have KEEP := Lib.hid keep
  have HA7 : Hid (Wd.Bytes (fun k => k < w.heap.size) w7 a0 x0) := HA.out.keep keep (fun b _ h1 h2 => by omega)
  have HB7 : Hid (Wd.Bytes (fun k => k < w.heap.size) w7 a1 x1) := HB.out.keep keep (fun b _ h1 h2 => by omega)
  have HX5 : Hid (Wd.Bytes (fun k => k = g4) w7 x5 (Wd.bytV s4)) := (HB5.out.keep hk6 (fun b _ h1 h2 => hne4 (h1.symm.trans h2))).keep hk7 (fun b _ h1 h2 => hne4 (h1.symm.trans h2))
  have HX6 : Hid (Wd.Bytes (fun k => k = g4) w7 x6 (Wd.bytV (Wd.bytS s4))) := HB6.out.keep hk7 (fun b _ h1 h2 => hne4 (h1.symm.trans h2))
  have H1 := Lib.hid h1
  have H2 := Lib.hid h2
  have H3 := Lib.hid h3
  have H4 := Lib.hid h4
  clear h1 h2 h3 h4 h5' keep hR7 hk1 hk2 hk4 hk5 hk6 hk7
  go_wp2_with fail
  refine (Wd.answers w7).mono ?_
  rintro e w8 ⟨rfl, hk8⟩
  have sA := Wd.run_str (HA7.out.quiet hk8) la cap0 HLA.out.symm
  have sB := Wd.run_str (HB7.out.quiet hk8) lb cap1 HLB.out.symm
  have HR8 : Hid (Wd.Rd (fun k => k = g4) w8 p4 none) := HR7.out.keep hk8 (fun h => h) (fun _ _ _ h => h)
  have fin : Below w.heap.size w w8 := (KEEP.out.trans hk8 (fun _ _ h => h.elim)).below (Nat.le_refl _) (fun _ h => h)
  have FIN := Lib.hid fin
  clear fin
  have hd : Wd.doneB none = false := rfl
  by_cases c1 : 8 + la ≤ K
  · have o1 : o5 = true := by rw [HO5.out, H1.out, ← HLA.out]; simpa using c1
    have v1 : Wd.bytV s4 = x0 := H2.out (by rw [← HLA.out]; exact c1)
    have sX5 : (convert 24 9 (.slice x5 m5 m5)).run Try.prog w8 = .ok (.string (Wd.str x0)) w8 := by
      have := Wd.run_str (HX5.out.quiet hk8) m5 m5 HM5.out.symm
      rw [v1] at this
      exact this
    have d1 : decide (8 + (la : Int) ≤ (K : Int)) = true := by simp; omega
    subst o1
    clear v1 HO5
    by_cases c2 : K = n3
    · have o2 : o6 = true := by rw [HO6.out, H3.out, ← HLA.out, ← HLB.out]; have := HN3.out; simp; omega
      have v2 : Wd.bytV (Wd.bytS s4) = x1 := H4.out (by rw [← HLA.out, ← HLB.out]; have := HN3.out; omega)
      have sX6 : (convert 24 9 (.slice x6 m6 m6)).run Try.prog w8 = .ok (.string (Wd.str x1)) w8 := by
        have := Wd.run_str (HX6.out.quiet hk8) m6 m6 HM6.out.symm
        rw [v2] at this
        exact this
      have d2 : ((K : Int) == (n3 : Int)) = true := by simp; omega
      subst o2
      clear v2 HO6 c2
      go_wp2_with (go_at_call 20; refine (Wd.done (fun k => k = g4) p4 none w8 HR8.out).mono ?_; rintro e w9 ⟨rfl, rfl⟩)
      go_ret
      exact ⟨rfl, FIN.out⟩
    · have o2 : o6 = false := by rw [HO6.out, H3.out, ← HLA.out, ← HLB.out]; have := HN3.out; simp; omega
      have d2 : ((K : Int) == (n3 : Int)) = false := by simp; omega
      subst o2
      clear HO6 c2
      go_wp2_with (go_at_call 20; refine (Wd.done (fun k => k = g4) p4 none w8 HR8.out).mono ?_; rintro e w9 ⟨rfl, rfl⟩)
      go_ret
      exact ⟨rfl, FIN.out⟩
  · have o1 : o5 = false := by rw [HO5.out, H1.out, ← HLA.out]; simpa using c1
    have d1 : decide (8 + (la : Int) ≤ (K : Int)) = false := by simp; omega
    have o2 : o6 = false := by rw [HO6.out, H3.out, ← HLA.out, ← HLB.out]; have := HN3.out; simp; omega
    have d2 : ((K : Int) == (n3 : Int)) = false := by have := HN3.out; simp; omega
    subst o1
    subst o2
    clear HO5 HO6
    go_wp2_with (go_at_call 20; refine (Wd.done (fun k => k = g4) p4 none w8 HR8.out).mono ?_; rintro e w9 ⟨rfl, rfl⟩)
    go_ret
    exact ⟨rfl, FIN.out⟩

/-! ### The row's step -/
set_option maxRecDepth 100000 in
theorem lifted (os : Os) (started : os.Started) (H : Type) (enc : TypeId × Value → H) :
    ReturnsInHanded {} Try.checked os 7 .any (Rows.wordCutSpec.pre6 enc Try.prog Try.f7 Rows.wordCutRow.domain false) (Rows.wordCutSpec.post enc Try.prog Try.f7 false true false false) := by
  refine returnsInHanded_of_change_sized (C := Try.checked) own started (by kernel_rfl) Try.func7
    (ChangeSpec.witness6 (enc := enc) (C := Try.checked) false ⟨#[], #[.slice none 0 0, .slice none 0 0, .int .u16 0], []⟩ 8 (by kernel_rfl) (by kernel_rfl) (by kernel_rfl) (by kernel_rfl)) ?_
  intro W base args ds gs before hval0 hW hcnd hsz _
  have hval : ∀ (j : Nat) t v, Try.f7.params[j]? = some t → args[j]? = some v → Value.okWide Try.prog W .any base t v := hval0
  have hW' := hW
  obtain ⟨p, q, hA0, hV, rfl, hfz, hnd⟩ := hW
  have hA : DataW.TrodAll enc Try.prog W 0 (fun _ => true) true Try.f7.params.toList args.toList ds p := hA0
  rw [Try.params7] at hA hval hsz
  obtain ⟨v0, vs0, d0, ds0, p0, q0, hargs, rfl, rfl, h0, r0⟩ := trodAll_cons hA
  obtain ⟨v1, vs1, d1, ds1, p1, q1, rfl, rfl, rfl, h1, r1⟩ := trodAll_cons r0
  obtain ⟨v2, vs2, d2, ds2, p2, q2, rfl, rfl, rfl, h2, r2⟩ := trodAll_cons r1
  obtain ⟨rfl, rfl, rfl⟩ := trodAll_nil r2
  obtain rfl : args = #[v0, v1, v2] := by cases args; simp_all
  obtain ⟨rfl, rfl⟩ := trodVars_none hV
  obtain ⟨a0, len0, cap0, rfl⟩ := okWide_slice Try.underlying24 (hval 0 24 v0 rfl rfl)
  have k0 := h0
  have lt0 : ∀ x ∈ p0, x.block < W.heap.size := by obtain ⟨m, hm⟩ := k0; exact DataW.trod_lt m _ _ _ hm
  obtain ⟨b0, x0, c0, e0, l0, _, B0, m0⟩ : ∃ a bs cap, Value.slice a0 len0 cap0 = .slice a bs.length cap ∧ bs.length ≤ cap ∧ cap ≤ 9223372036854775807 ∧ Wd.Bytes (fun k => k < W.heap.size) W a bs ∧ ((∀ n ∈ d0.weights Try.prog 24, n ≤ reachBytes) → cap ≤ 140737488351232) := by
    obtain ⟨fuel, hf⟩ := h0
    exact Wd.arg_bytes hf
  have hs0 : ∀ n ∈ d0.weights Try.prog 24, n ≤ reachBytes := fun n hn => by
    have := List.all_eq_true.1 hsz n (DataW.weights_mem_each (j := 0) rfl rfl n hn)
    simpa using this
  injection e0 with e0 f0 g0
  subst e0 f0 g0
  obtain ⟨a1, len1, cap1, rfl⟩ := okWide_slice Try.underlying24 (hval 1 24 v1 rfl rfl)
  have k1 := h1
  have lt1 : ∀ x ∈ p1, x.block < W.heap.size := by obtain ⟨m, hm⟩ := k1; exact DataW.trod_lt m _ _ _ hm
  obtain ⟨b1, x1, c1, e1, l1, _, B1, m1⟩ : ∃ a bs cap, Value.slice a1 len1 cap1 = .slice a bs.length cap ∧ bs.length ≤ cap ∧ cap ≤ 9223372036854775807 ∧ Wd.Bytes (fun k => k < W.heap.size) W a bs ∧ ((∀ n ∈ d1.weights Try.prog 24, n ≤ reachBytes) → cap ≤ 140737488351232) := by
    obtain ⟨fuel, hf⟩ := h1
    exact Wd.arg_bytes hf
  have hs1 : ∀ n ∈ d1.weights Try.prog 24, n ≤ reachBytes := fun n hn => by
    have := List.all_eq_true.1 hsz n (DataW.weights_mem_each (j := 1) rfl rfl n hn)
    simpa using this
  injection e1 with e1 f1 g1
  subst e1 f1 g1
  obtain ⟨a2, rfl, rfl, rfl, w2⟩ := open_int Try.underlying49 (hval 2 49 v2 rfl rfl) h2
  clear hA0 hval0
  refine (walk a0 x0 cap0 a1 x1 cap1 a2 W l0 (m0 hs0) B0 l1 (m1 hs1) B1 w2).mono fun e W' ⟨he, bel⟩ => ?_
  subst he
  exact ⟨_, rfl, _, _, _, [], _, [], hW', trodAll_mk1 (shut_bool Try.underlying4 _), (trodAll_cons_mk (Below.trod laidOut (by kernel_rfl) (of_decide_eq_true (by kernel_rfl)) k0 bel lt0) (trodAll_cons_mk (Below.trod laidOut (by kernel_rfl) (of_decide_eq_true (by kernel_rfl)) k1 bel lt1) (trodAll_cons_mk (shut_int Try.underlying49 w2) trodAll_mk0))), rfl, bel.frame _, fun h => by cases h⟩

theorem over : Rows.wordCutRow.holds Try.pinned (OpenSpec.ofChange Rows.wordCutSpec) :=
  OpenClaim.holds_of_wide 7 Try.f7 rfl rfl rfl rfl rfl rfl rfl ⟨rfl, rfl, rfl, rfl, rfl⟩ rfl rfl rfl rfl rfl (by kernel_rfl) Try.func7 (by kernel_rfl)
    (of_decide_eq_true (by kernel_rfl)) (by unfold Func.isWrapper; first | (rw [if_pos (by decide +kernel)]; kernel_rfl) | (rw [if_neg (by decide +kernel)]; exact ⟨rfl, rfl⟩))
    (fun os started H enc _ => lifted os started H enc)

/-- The statement. -/
theorem proved : Rows.WordCutSaid := over
#print axioms proved
end Go.Proofs.Ytnaodcldnjkklaa.wordCut
