/-
  Proved here: for every slice of bytes and every number, the statement LineNone of layer 6 answers true: what is fed is not kept by its list, and a stream that is none has no lines; the arguments read behind the call as they read before. Conditions: none.
-/
import Derived.Test.YtflnmgameihglaaRows
import Derived.Test.YtflnmgameihglaaInv
import Derived.Lib.Hide
import Derived.WalkKit
import Derived.ProofKit
import Derived.OpenShut
import Derived.ShutString
import Derived.ChangeOld
import Derived.Below
import Derived.HandedShaped
namespace Go.Proofs.Ytflnmgameihglaa.lineNone
open Go.ChangeShapes Go.WideShapes Go.ChangeAt Go.RowKit
set_option linter.unusedVariables false

theorem own : ownKnob Try.prog.godebug = none := by kernel_rfl
theorem laidOut : laidOutB Try.prog = true := by kernel_rfl

/-! ### The walk -/
set_option maxHeartbeats 4000000 in
set_option maxRecDepth 100000 in
theorem walk (a0 : Option Addr) (x0 : List Nat) (cap0 : Nat) (a1 : Int) (w : World) (l0 : x0.length ≤ cap0) (m0 : cap0 ≤ 140737488351232) (B0 : Ln.Bytes (fun k => k < w.heap.size) w a0 x0) (w1 : (Lit.int .i64 a1).wf = true) (hm : Ln.Hm w) :
    Calls Try.prog 5 #[.slice a0 x0.length cap0, .int .i64 a1] w fun e w' => e = .returned (.bool true) ∧ Below w.heap.size w w' := by
  obtain ⟨N, hN⟩ : ∃ N, N = x0.length := ⟨_, rfl⟩
  rw [← hN] at l0
  rw [← hN]
  have HN := Lib.hid hN
  have HA := Lib.hid B0
  have HM := Lib.hid hm
  clear hN B0 hm
  by_cases hbig : (500 : Int) < (N : Int)
  · go_enter Try.func5, Try.ntmps5
    go_wp2_with (go_at_call 7; refine (Ln.ansS (Ln.Keep.refl _ w) HM.out).mono ?_; rintro e w1 ⟨rfl, hS1, _⟩)
    go_ret
    exact ⟨rfl, hS1.below⟩
  have hs0 : N ≤ 500 := by omega
  go_enter Try.func5, Try.ntmps5
  go_wp2_with fail
  refine (Ln.feed_nil w a0 N cap0).mono ?_
  rintro e w' ⟨rfl, hw⟩
  have hw' := hw.symm
  subst hw'
  go_wp2_with fail
  refine (Ln.next_nil w a1).mono ?_
  rintro e w' ⟨rfl, hw⟩
  have hw' := hw.symm
  subst hw'
  go_wp2_with (first
    | (at_builtin
       refine Ln.wpList_append_mid (by rfl) _ _ (by rfl) (.slice y1 n1 c1) q1 x0 (by rfl) (HM1.out.alloc _) (fun b => b = w1.heap.size) (some ⟨w1.heap.size, 0, none⟩) 2 2 [13, 10] (by rfl) rfl (Ln.bytes_mark w1 [13, 10] (by decide) (0, 0)) (by have := HN.out; simp; omega) ?_
       intro y2 n2 c2 q2 w2 hM2 hk2 hnew2
       have HM2 := Lib.hid hM2
       have HS2 : Hid (Ln.Since w w2) := Lib.hid (Ln.Since.next (Ln.Keep.alloc HS1.out _) hk2 (fun i hi => HQ1.out i hi))
       have HQ2 : Hid (∀ k, q2 = some k → w.heap.size ≤ k) := Lib.hid (fun k hk => by
         rcases hnew2 k hk with h | h
         · exact HQ1.out k h
         · have := HS1.out.size; simp at h; omega)
       clear hM2 hk2 hnew2)
    | (at_builtin
       refine Ln.wpList_append_mid (by rfl) _ _ (by rfl) (.slice (some ⟨w.heap.size, 0, none⟩) 0 0) none [] (by rfl) (Ln.Mid.empty _ _) _ a0 N cap0 x0 (by rfl) HN.out.symm (HA.out.quiet ((Ln.Keep.refl _ w).alloc _)) (by simp; omega) ?_
       intro y1 n1 c1 q1 w1 hM1 hk1 hnew1
       rw [List.nil_append] at hM1
       have HM1 := Lib.hid hM1
       have HS1 : Hid (Ln.Since w w1) := Lib.hid (Ln.Since.quiet ((Ln.Keep.refl _ w).alloc _) hk1.none_row)
       have HQ1 : Hid (∀ k, q1 = some k → w.heap.size ≤ k) := Lib.hid (fun k hk => by
         rcases hnew1 k hk with h | h
         · cases h
         · simp at h; omega)
       clear hM1 hk1 hnew1))
  have hn2 : n2 = N + 2 := by have h1 := HM2.out.len; have h2 := HN.out; simp at h1; omega
  have hz2 := HS2.out.size
  have h12 : (x0 ++ [13, 10]).length = n2 := HM2.out.len.symm
  have H12 := Lib.hid h12
  have HG2 : Hid (∀ k, q2 = some k → k < w2.heap.size) := Lib.hid HM2.out.lt
  clear h12
  refine (Ln.feedS (w0 := w) (Ln.Keep.alloc HS2.out _) (Ln.Lin.new w2 w.heap.size hz2) y2 n2 c2 (x0 ++ [13, 10]) H12.out (HM2.out.alloc _).bytes (by simp; omega)).mono ?_
  rintro e w3 ⟨rfl, q3, hL3, hS3, hk3, hnew3⟩
  rw [List.nil_append] at hL3
  have HL3 := Lib.hid hL3
  have HS3 := Lib.hid hS3
  have HU3 : Hid (Ln.URow w3 y2 n2 q2) := Lib.hid ((Ln.URow.of_mid (HM2.out.alloc _)).keep hk3 (fun g hg h => by
    have := HG2.out g hg
    rcases h with h | h
    · omega
    · cases h))
  have HQ3 : Hid (∀ k, q3 = some k → w2.heap.size < k) := Lib.hid (fun k hk => by
    rcases hnew3 k hk with h | h
    · cases h
    · simp at h; omega)
  clear hL3 hS3 hk3 hnew3
  go_wp2
  go_loopw [11] (fun i wr => ∃ k : Nat, k ≤ n2 ∧ i = .int .i64 (k : Int) ∧ Hid (Ln.URow wr y2 n2 q2) ∧ Hid (Ln.Lin w.heap.size wr w2.heap.size q3 (x0 ++ [13, 10])) ∧ Hid (Ln.Since w wr)) (fun i _ => n2 - (intOf i).toNat)
  case atStart => exact ⟨0, by omega, rfl, HU3.out, HL3.out, HS3.out⟩
  case round =>
    obtain ⟨k, hkn, rfl, HU, HL, HS⟩ := hrel
    by_cases hlt : (k : Int) < (n2 : Int)
    · obtain ⟨g, off, z, hq, hy, hc, hf, hglt, hu⟩ := HU.out.at (i := k) (by omega)
      subst hy
      have HH := Lib.hid hu
      have HQ := Lib.hid hq
      clear hu hq
      go_wp2
      go_roundw
      case rel =>
        refine ⟨k + 1, by omega, by go_num, HH.out _, ?_, HS.out.setCell (p := ⟨g, off + k, none⟩) (fun _ => HQ2.out g HQ.out) _⟩
        exact HL.out.keep ((Ln.Keep.refl (fun b => b = g) wr).setCell (p := ⟨g, off + k, none⟩) (fun _ => rfl) _) (fun h => by have := HG2.out g HQ.out; omega) (fun b hb h => by have := HQ3.out b hb; have := HG2.out g HQ.out; omega)
      case measure => simp [intOf]; omega
    · clear HU HU3 HL3 HS3
      go_wp2_with (first
        | (at_builtin
           refine Ln.wpList_append_mid (by rfl) _ _ (by rfl) (.slice y4 n4 c4) q4 x0 (by rfl) (HM4.out.alloc _) (fun b => b = w4.heap.size) (some ⟨w4.heap.size, 0, none⟩) 2 2 [13, 10] (by rfl) rfl (Ln.bytes_mark w4 [13, 10] (by decide) (0, 0)) (by have := HN.out; simp; omega) ?_
           intro y5 n5 c5 q5 w5 hM5 hk5 hnew5
           have HM5 := Lib.hid hM5
           have HS5 : Hid (Ln.Since w w5) := Lib.hid (Ln.Since.next (Ln.Keep.alloc HS4.out _) hk5 (fun i hi => HQ4.out.1 i hi))
           have HL5 : Hid (Ln.Lin w.heap.size w5 w2.heap.size q3 (x0 ++ [13, 10])) := Lib.hid ((HL4.out.alloc _).keep hk5 (fun h => (HQ4.out.2 _ h).1 rfl) (fun b hb h => (HQ4.out.2 _ h).2 hb))
           clear hM5 hk5 hnew5)
        | (at_builtin
           refine Ln.wpList_append_mid (by rfl) _ _ (by rfl) (.slice (some ⟨wr.heap.size, 0, none⟩) 0 0) none [] (by rfl) (Ln.Mid.empty _ _) _ a0 N cap0 x0 (by rfl) HN.out.symm ((HS.out.bytes HA.out).quiet ((Ln.Keep.refl _ wr).alloc _)) (by simp; omega) ?_
           intro y4 n4 c4 q4 w4 hM4 hk4 hnew4
           rw [List.nil_append] at hM4
           have HM4 := Lib.hid hM4
           have HS4 : Hid (Ln.Since w w4) := Lib.hid (Ln.Since.quiet (Ln.Keep.alloc HS.out _) hk4.none_row)
           have HL4 : Hid (Ln.Lin w.heap.size w4 w2.heap.size q3 (x0 ++ [13, 10])) := Lib.hid ((HL.out.alloc _).quiet hk4.none_row)
           have HQ4 : Hid ((∀ k, q4 = some k → w.heap.size ≤ k) ∧ ∀ k, q4 = some k → w2.heap.size ≠ k ∧ q3 ≠ some k) := Lib.hid (by
             have h1 : ∀ k, q4 = some k → wr.heap.size < k := fun k hk => by
               rcases hnew4 k hk with h | h
               · cases h
               · simp at h; omega
             have h2 := HL.out.lt
             have h3 := HS.out.size
             refine ⟨fun k hk => ?_, fun k hk => ⟨?_, fun h => ?_⟩⟩
             · have := h1 k hk; omega
             · have := h1 k hk; omega
             · have := HL.out.qlt k h; have := h1 k hk; omega)
           clear hM4 hk4 hnew4))
      refine (Ln.line HM5.out.len HM5.out.cap_le HM5.out.bytes (by have := HM5.out.len; have := HN.out; simp at *; omega)).mono ?_
      rintro e w' ⟨rfl, hw⟩
      have hw' := hw.symm
      subst hw'
      obtain ⟨i, hp, hi⟩ := Ln.pos_behind x0
      have hmx : (i : Int) ≤ max 1000 0 := by have := HN.out; omega
      rw [Ln.lineT_some hp]
      obtain ⟨T, hT⟩ : ∃ T, T = Ln.str ((x0 ++ [13, 10]).take i) := ⟨_, rfl⟩
      rw [← hT]
      have HP := Lib.hid hp
      have HT := Lib.hid hT
      have HX := Lib.hid hmx
      clear hp hT hmx hi
      go_wp2_with fail
      refine (Ln.nextS' HS5.out HM.out HL5.out 1000 (by decide) (by rw [H12.out]; omega)).mono ?_
      rintro e w6 ⟨he, q6, hL6, hS6, hk6, hnew6⟩
      rw [Ln.nextT_short HP.out HX.out, Ln.nextL_short HP.out HX.out, Ln.nextK_some HP.out, ← HT.out] at he
      subst he
      have HS6 := Lib.hid hS6
      clear hL6 hS6 hk6 hnew6
      go_wp2_with fail
      refine (Ln.ansS HS6.out HM.out).mono ?_
      rintro e w7 ⟨rfl, hS7, hk7⟩
      have HS7 := Lib.hid hS7
      clear hS7 hk7
      go_wp2_with fail
      refine (Ln.held_nil _).mono ?_
      rintro e w8 ⟨rfl, hw⟩
      have hw' := hw.symm
      subst hw'
      go_wp2_with fail
      go_ret
      exact ⟨rfl, HS7.out.below⟩

/-! ### The row's step -/
set_option maxRecDepth 100000 in
theorem lifted (os : Os) (started : os.Started) (H : Type) (enc : TypeId × Value → H) :
    ReturnsInHanded {} Try.checked os 5 .any (Rows.lineNoneSpec.pre6 enc Try.prog Try.f5 Rows.lineNoneRow.domain false) (Rows.lineNoneSpec.post enc Try.prog Try.f5 false true false false) := by
  refine returnsInHanded_of_change_shaped (C := Try.checked) own started (by kernel_rfl) Try.func5
    (ChangeSpec.witness6 (enc := enc) (C := Try.checked) false ⟨#[], #[.slice none 0 0, .int .i64 0], []⟩ 8 (by kernel_rfl) (by kernel_rfl) (by kernel_rfl) (by kernel_rfl)) ?_
  intro W base args ds gs before hval0 hW hcnd hsz hsh _
  have hval : ∀ (j : Nat) t v, Try.f5.params[j]? = some t → args[j]? = some v → Value.okWide Try.prog W .any base t v := hval0
  have hW' := hW
  obtain ⟨p, q, hA0, hV, rfl, hfz, hnd⟩ := hW
  have hA : DataW.TrodAll enc Try.prog W 0 (fun _ => true) true Try.f5.params.toList args.toList ds p := hA0
  rw [Try.params5] at hA hval hsz
  obtain ⟨v0, vs0, d0, ds0, p0, q0, hargs, rfl, rfl, h0, r0⟩ := trodAll_cons hA
  obtain ⟨v1, vs1, d1, ds1, p1, q1, rfl, rfl, rfl, h1, r1⟩ := trodAll_cons r0
  obtain ⟨rfl, rfl, rfl⟩ := trodAll_nil r1
  obtain rfl : args = #[v0, v1] := by cases args; simp_all
  obtain ⟨rfl, rfl⟩ := trodVars_none hV
  obtain ⟨a0, len0, cap0, rfl⟩ := okWide_slice Try.underlying24 (hval 0 24 v0 rfl rfl)
  have k0 := h0
  have lt0 : ∀ x ∈ p0, x.block < W.heap.size := by obtain ⟨m, hm⟩ := k0; exact DataW.trod_lt m _ _ _ hm
  obtain ⟨b0, x0, c0, e0, l0, _, B0, m0⟩ : ∃ a bs cap, Value.slice a0 len0 cap0 = .slice a bs.length cap ∧ bs.length ≤ cap ∧ cap ≤ 9223372036854775807 ∧ Ln.Bytes (fun k => k < W.heap.size) W a bs ∧ ((∀ n ∈ d0.weights Try.prog 24, n ≤ reachBytes) → cap ≤ 140737488351232) := by
    obtain ⟨fuel, hf⟩ := h0
    exact Ln.arg_bytes hf
  have hs0 : ∀ n ∈ d0.weights Try.prog 24, n ≤ reachBytes := fun n hn => by
    have := List.all_eq_true.1 hsz n (DataW.weights_mem_each (j := 0) rfl rfl n hn)
    simpa using this
  injection e0 with e0 f0 g0
  subst e0 f0 g0
  obtain ⟨a1, rfl, rfl, rfl, w1⟩ := open_int Try.underlying3 (hval 1 3 v1 rfl rfl) h1
  clear hA0 hval0
  refine (walk a0 x0 cap0 a1 W l0 (m0 hs0) B0 w1 (Ln.maxLen_some W hsh)).mono fun e W' ⟨he, bel⟩ => ?_
  subst he
  exact ⟨_, rfl, _, _, _, [], _, [], hW', trodAll_mk1 (shut_bool Try.underlying4 _), (trodAll_cons_mk (Below.trod laidOut (by kernel_rfl) (of_decide_eq_true (by kernel_rfl)) k0 bel lt0) (trodAll_cons_mk (shut_int Try.underlying3 w1) trodAll_mk0)), rfl, bel.frame _, fun h => by cases h⟩

theorem over : Rows.lineNoneRow.holds Try.pinned (OpenSpec.ofChange Rows.lineNoneSpec) :=
  OpenClaim.holds_of_wide 5 Try.f5 rfl rfl rfl rfl rfl rfl rfl ⟨rfl, rfl, rfl, rfl, rfl⟩ rfl rfl rfl rfl rfl (by kernel_rfl) Try.func5 (by kernel_rfl)
    (of_decide_eq_true (by kernel_rfl)) (by unfold Func.isWrapper; first | (rw [if_pos (by decide +kernel)]; kernel_rfl) | (rw [if_neg (by decide +kernel)]; exact ⟨rfl, rfl⟩))
    (fun os started H enc _ => lifted os started H enc)

/-- The statement. -/
theorem proved : Rows.LineNoneSaid := over
#print axioms proved
end Go.Proofs.Ytflnmgameihglaa.lineNone
