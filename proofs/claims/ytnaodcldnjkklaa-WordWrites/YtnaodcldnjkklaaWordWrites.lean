/-
  Proved here: the bytes that a writer answers for any numbers and bytes are the document's, or it answers that one number may not be (the law WordWrites returns true). Conditions: none.
-/
import Derived.Test.YtnaodcldnjkklaaRows
import Derived.Test.YtnaodcldnjkklaaInv
import Derived.Lib.Hide
import Derived.WalkKit
import Derived.ProofKit
import Derived.OpenShut
import Derived.ShutString
import Derived.ChangeOld
import Derived.Below
namespace Go.Proofs.Ytnaodcldnjkklaa.wordWrites
open Go.ChangeShapes Go.WideShapes Go.ChangeAt Go.RowKit
set_option linter.unusedVariables false

theorem own : ownKnob Try.prog.godebug = none := by kernel_rfl
theorem laidOut : laidOutB Try.prog = true := by kernel_rfl

/-! ### The walk -/
set_option maxHeartbeats 4000000 in
set_option maxRecDepth 100000 in
theorem walk (a0 : Option Addr) (x0 : List Wd.OpR) (cap0 : Nat) (w : World) (l0 : x0.length ≤ cap0) (m0 : cap0 ≤ 9223372036854775807) (B0 : Wd.Ops w a0 x0) :
    Calls Try.prog 3 #[.slice a0 x0.length cap0] w fun e w' => e = .returned (.bool true) ∧ Below w.heap.size w w' := by
  obtain ⟨L, hL⟩ : ∃ L, L = x0.length := ⟨_, rfl⟩
  rw [← hL] at l0
  rw [← hL]
  have HL := Lib.hid hL
  have HB := Lib.hid B0
  clear hL B0
  go_enter Try.func3, Try.ntmps3
  go_wp2
  go_loopw [4, 5, 6] (fun t o i wr => ∃ k : Nat, k ≤ L ∧ i = .int .i64 (k : Int) ∧ Wd.WInv w w.heap.size k t o wr ∧ (0 < k → k ≤ 50)) (fun _ _ i _ => L - (intOf i).toNat)
  case atStart =>
    exact ⟨0, by omega, rfl, Wd.WInv.start w, by omega⟩
  case round =>
    obtain ⟨k, hkL, rfl, ⟨s, q, X, y, n, cap, rfl, rfl, hn, hW, hO, hX, hsep, hqb, hob, hXl, hsl, hkp⟩, hk50⟩ := hrel
    have HN := Lib.hid hn
    have HW := Lib.hid hW
    have HO := Lib.hid hO
    have HX := Lib.hid hX
    have HSEP := Lib.hid hsep
    have HQB := Lib.hid hqb
    have HOB := Lib.hid hob
    have HXL := Lib.hid hXl
    have HSL := Lib.hid hsl
    clear hn hW hO hX hsep hqb hob hXl hsl
    by_cases hlt : (k : Int) < (L : Int)
    · obtain ⟨b, off, x, c, o, HOP, ha, c0, c1, c2, hblt, hol, HTX⟩ := HB.out.at hkp k (by have := HL.out; omega)
      subst ha
      obtain ⟨kind, num, txt⟩ := o
      obtain ⟨lt, hlt2⟩ : ∃ m, m = txt.length := ⟨_, rfl⟩
      simp only [← hlt2] at c0 c1 c2 hol
      have HLT := Lib.hid hlt2
      clear hlt2
      have k0 : (0 : Int) ≤ (k : Int) := by omega
      by_cases hbig : (500 : Int) < (lt : Int)
      · go_wp2_with fail
        refine (Wd.answers wr).mono ?_
        rintro e w1 ⟨rfl, hk1⟩
        go_wp2
        go_ret
        exact ⟨rfl, (hkp.trans hk1 (fun _ _ h => h.elim)).below (Nat.le_refl _) (fun _ h => h)⟩
      by_cases hbig2 : (50 : Int) < (L : Int)
      · go_wp2_with fail
        refine (Wd.answers wr).mono ?_
        rintro e w1 ⟨rfl, hk1⟩
        go_wp2
        go_ret
        exact ⟨rfl, (hkp.trans hk1 (fun _ _ h => h.elim)).below (Nat.le_refl _) (fun _ h => h)⟩
      have hb1 : X.length ≤ 30000 := by have := HXL.out; omega
      have hb2 : (s.getD []).length ≤ 30000 := by have := HSL.out; omega
      have far : Hid (∀ j, j < w.heap.size → ¬ (j = w.heap.size ∨ q = some j)) := fun j hj h => by
        rcases h with h | h
        · omega
        · have := HQB.out j h
          omega
      by_cases hkind : kind = 1
      · subst hkind
        by_cases hmay : 0 ≤ num ∧ num ≤ 4611686018427387904
        · obtain ⟨N, rfl⟩ := Int.eq_ofNat_of_zero_le hmay.1
          have hm1 : (N : Int) ≤ 4611686018427387904 := hmay.2
          have HM := Lib.hid hmay
          clear hmay
          go_wp2_with fail
          refine (Wd.wNum w.heap.size q s (N : Int) (by omega) wr HW.out).mono ?_
          rintro e w1 ⟨q1, rfl, hW1, hk1, hnew1⟩
          have HW1 := Lib.hid hW1
          have HK1 := Lib.hid hk1
          have HNEW1 := Lib.hid hnew1
          have d1 := hk1.cell c1 (far.out b hblt)
          obtain ⟨hO1, _⟩ := Wd.sep_put HW.out HO.out HSEP.out hk1 hnew1
          have HO1 := Lib.hid hO1
          clear hW1 hk1 hnew1 hO1
          rcases s with _ | bs
          · have hs : (none : Option (List Nat)).isSome = false := rfl
            go_wp2
            go_roundw
            case rel =>
              refine ⟨k + 1, by omega, by go_num, ?_, by omega⟩
              exact Wd.WInv.put HN.out HW.out HO.out HSEP.out HQB.out HOB.out HXL.out hkp (Nat.le_refl _) HW1.out HK1.out HNEW1.out (by rw [Wd.putNum_some _ _ HM.out]; rfl)
            case measure => simp [intOf]; omega
          · have hs : (some bs : Option (List Nat)).isSome = true := rfl
            go_wp2_with fail
            refine (Wd.mayYes (N : Int) (by omega) hm1 w1).mono ?_
            rintro e w1' ⟨rfl, rfl⟩
            go_wp2_with fail
            refine (Wd.refNum N (by omega) w1).mono ?_
            rintro e w2 ⟨g2, m2, hm2, hg2, rfl, hat2, hk2⟩
            obtain rfl : m2 = 8 := hm2
            have HA2 : Hid (Wd.Bytes (fun j => j = g2) w2 (some ⟨g2, 0, none⟩) (Wd.num8 N)) := Wd.Bytes.of_at hat2 (Wd.num8_lt N)
            have HK2 := Lib.hid hk2
            clear hat2 hk2
            go_wp2_with
              (at_builtin
               refine Wd.wpList_append_bytes (by rfl) (.tmp 52) (.tmp 58) (by rfl) (.slice y n cap) X (by rfl) (HO1.out.keep HK2.out (fun _ _ h => h)) _ (some ⟨g2, 0, none⟩) 8 8 (Wd.num8 N) (by rfl) (Wd.num8_length N) HA2.out (by omega) ?_
               intro y3 n3 c3 w3 hn3 hO3 hk3 hnew3
               have HO3 := Lib.hid hO3
               have HK3 := Lib.hid hk3
               have HW3 := Lib.hid hnew3
               clear hO3 hk3 hnew3)
            go_roundw
            case rel =>
              refine ⟨k + 1, by omega, by go_num, ?_, by omega⟩
              exact Wd.WInv.both HW.out HO.out HSEP.out HQB.out HOB.out HXL.out HSL.out hkp HX.out (Nat.le_refl _) HW1.out HK1.out HNEW1.out (Wd.putNum_some _ _ HM.out) (by rw [Int.toNat_natCast, Wd.num8_length]; omega) HK2.out HO3.out hn3.out HK3.out HW3.out
            case measure => simp [intOf]; omega
        · have HM := Lib.hid hmay
          clear hmay
          go_wp2_with fail
          refine (Wd.wNum w.heap.size q s num (by omega) wr HW.out).mono ?_
          rintro e w1 ⟨q1, rfl, hW1, hk1, hnew1⟩
          have HW1 := Lib.hid hW1
          have HK1 := Lib.hid hk1
          have HNEW1 := Lib.hid hnew1
          have d1 := hk1.cell c1 (far.out b hblt)
          clear hW1 hk1 hnew1
          rcases s with _ | bs
          · have hs : (none : Option (List Nat)).isSome = false := rfl
            go_wp2
            go_roundw
            case rel =>
              refine ⟨k + 1, by omega, by go_num, ?_, by omega⟩
              exact Wd.WInv.put HN.out HW.out HO.out HSEP.out HQB.out HOB.out HXL.out hkp (Nat.le_refl _) HW1.out HK1.out HNEW1.out (Wd.putNum_none _ _ HM.out)
            case measure => simp [intOf]; omega
          · have hs : (some bs : Option (List Nat)).isSome = true := rfl
            go_wp2_with (go_at_call 10; refine (Wd.mayNo num HM.out w1).mono ?_; rintro e w1' ⟨rfl, rfl⟩)
            go_roundw
            case rel =>
              refine ⟨k + 1, by omega, by go_num, ?_, by omega⟩
              exact Wd.WInv.put HN.out HW.out HO.out HSEP.out HQB.out HOB.out HXL.out hkp (Nat.le_refl _) HW1.out HK1.out HNEW1.out (Wd.putNum_none _ _ HM.out)
            case measure => simp [intOf]; omega
      · have hkd : (kind == 1) = false := by simpa using hkind
        clear hkind
        go_wp2_with fail
        refine (Wd.wBytes (fun k => k < w.heap.size) w.heap.size q s x lt c txt HLT.out.symm (by omega) wr HW.out HTX.out (fun j hj => ⟨by omega, fun h => by have := HQB.out j h; omega⟩)).mono ?_
        rintro e w1 ⟨q1, rfl, hW1, hk1, hnew1⟩
        have HW1 := Lib.hid hW1
        have HK1 := Lib.hid hk1
        have HNEW1 := Lib.hid hnew1
        have d2 := hk1.cell c2 (far.out b hblt)
        obtain ⟨hO1, _⟩ := Wd.sep_put HW.out HO.out HSEP.out hk1 hnew1
        have HO1 := Lib.hid hO1
        clear hW1 hk1 hnew1 hO1
        go_wp2_with fail
        refine (Wd.refBytes (fun k => k < w.heap.size) x lt c txt HLT.out.symm (by omega) w1 (HTX.out.keep HK1.out (fun j _ hj => far.out j hj))).mono ?_
        rintro e w2 ⟨y2, n2, c2', hn2, rfl, hO2, hw2, hk2⟩
        have HO2 := Lib.hid hO2
        have HN2 := Lib.hid hn2
        have HK2 := Lib.hid hk2
        have hn2b : n2 ≤ 508 := by have := HN2.out; rw [Wd.enc_length] at this; have := HLT.out; omega
        clear hO2 hn2 hk2 hw2
        go_wp2_with
          (at_builtin
           refine Wd.wpList_append_bytes (by rfl) (.tmp 67) (.tmp 73) (by rfl) (.slice y n cap) X (by rfl) (HO1.out.keep HK2.out (fun _ _ h => h)) _ y2 n2 c2' (Wd.enc txt) (by rfl) HN2.out.symm HO2.out.bytes (by omega) ?_
           intro y3 n3 c3 w3 hn3 hO3 hk3 hnew3
           have HO3 := Lib.hid hO3
           have HK3 := Lib.hid hk3
           have HW3 := Lib.hid hnew3
           clear hO3 hk3 hnew3)
        go_roundw
        case rel =>
          refine ⟨k + 1, by omega, by go_num, ?_, by omega⟩
          exact Wd.WInv.both HW.out HO.out HSEP.out HQB.out HOB.out HXL.out HSL.out hkp HX.out (Nat.le_refl _) HW1.out HK1.out HNEW1.out rfl (by rw [← HN2.out]; omega) HK2.out HO3.out hn3.out HK3.out HW3.out
        case measure => simp [intOf]; omega
    · have hsb : (s.getD []).length ≤ 1099511627776 := by have := HSL.out; omega
      go_wp2_with fail
      refine (Wd.out w.heap.size q s hsb wr HW.out).mono ?_
      rcases s with _ | bs
      · have hs : (none : Option (List Nat)).isSome = false := rfl
        rintro e w1 ⟨rfl, rfl⟩
        go_wp2_with (go_at_call 8; refine (Wd.answers wr).mono ?_; rintro e w2 ⟨rfl, hk2⟩)
        go_ret
        exact ⟨rfl, (hkp.trans hk2 (fun _ _ h => h.elim)).below (Nat.le_refl _) (fun _ h => h)⟩
      · have hs : (some bs : Option (List Nat)).isSome = true := rfl
        rintro e w1 ⟨g1, m1, hm1, hg1, rfl, hat1, hk1⟩
        have hXb : X = bs := HX.out bs rfl
        subst hXb
        have HM1 := Lib.hid hm1
        have HA1 : Hid (Wd.Bytes (fun j => j = g1) w1 (some ⟨g1, 0, none⟩) X) := Wd.Bytes.of_at hat1 HO.out.2
        have HY1 : Hid (Wd.Bytes _ w1 y X) := (HO.out.keep hk1 (fun _ _ h => h)).bytes
        clear hm1 hat1
        go_wp2_with fail
        refine (Wd.answers w1).mono ?_
        rintro e w2 ⟨rfl, hk2⟩
        have sA := Wd.run_str (HA1.out.quiet hk2) m1 m1 HM1.out.symm
        have sB := Wd.run_str (HY1.out.quiet hk2) n cap HN.out.symm
        go_wp2
        go_ret
        exact ⟨rfl, ((hkp.trans hk1 (fun _ _ h => h.elim)).trans hk2 (fun _ _ h => h.elim)).below (Nat.le_refl _) (fun _ h => h)⟩

/-! ### The row's step -/
set_option maxRecDepth 100000 in
theorem lifted (os : Os) (started : os.Started) (H : Type) (enc : TypeId × Value → H) :
    ReturnsInHanded {} Try.checked os 3 .any (Rows.wordWritesSpec.pre6 enc Try.prog Try.f3 Rows.wordWritesRow.domain false) (Rows.wordWritesSpec.post enc Try.prog Try.f3 false true false false) := by
  refine returnsInHanded_of_change_sized (C := Try.checked) own started (by kernel_rfl) Try.func3
    (ChangeSpec.witness6 (enc := enc) (C := Try.checked) false ⟨#[], #[.slice none 0 0], []⟩ 8 (by kernel_rfl) (by kernel_rfl) (by kernel_rfl) (by kernel_rfl)) ?_
  intro W base args ds gs before hval0 hW hcnd hsz _
  have hval : ∀ (j : Nat) t v, Try.f3.params[j]? = some t → args[j]? = some v → Value.okWide Try.prog W .any base t v := hval0
  have hW' := hW
  obtain ⟨p, q, hA0, hV, rfl, hfz, hnd⟩ := hW
  have hA : DataW.TrodAll enc Try.prog W 0 (fun _ => true) true Try.f3.params.toList args.toList ds p := hA0
  rw [Try.params3] at hA hval hsz
  obtain ⟨v0, vs0, d0, ds0, p0, q0, hargs, rfl, rfl, h0, r0⟩ := trodAll_cons hA
  obtain ⟨rfl, rfl, rfl⟩ := trodAll_nil r0
  obtain rfl : args = #[v0] := by cases args; simp_all
  obtain ⟨rfl, rfl⟩ := trodVars_none hV
  obtain ⟨a0, len0, cap0, rfl⟩ := okWide_slice Try.underlying22 (hval 0 22 v0 rfl rfl)
  have k0 := h0
  have lt0 : ∀ x ∈ p0, x.block < W.heap.size := by obtain ⟨m, hm⟩ := k0; exact DataW.trod_lt m _ _ _ hm
  obtain ⟨b0, x0, c0, e0, l0, m0, B0⟩ : ∃ a ops cap, Value.slice a0 len0 cap0 = .slice a ops.length cap ∧ ops.length ≤ cap ∧ cap ≤ 9223372036854775807 ∧ Wd.Ops W a ops := by
    obtain ⟨fuel, hf⟩ := h0
    exact Wd.arg_ops hf
  injection e0 with e0 f0 g0
  subst e0 f0 g0
  clear hA0 hval0
  refine (walk a0 x0 cap0 W l0 m0 B0).mono fun e W' ⟨he, bel⟩ => ?_
  subst he
  exact ⟨_, rfl, _, _, _, [], _, [], hW', trodAll_mk1 (shut_bool Try.underlying4 _), (trodAll_cons_mk (Below.trod laidOut (by kernel_rfl) (of_decide_eq_true (by kernel_rfl)) k0 bel lt0) trodAll_mk0), rfl, bel.frame _, fun h => by cases h⟩

theorem over : Rows.wordWritesRow.holds Try.pinned (OpenSpec.ofChange Rows.wordWritesSpec) :=
  OpenClaim.holds_of_wide 3 Try.f3 rfl rfl rfl rfl rfl rfl rfl ⟨rfl, rfl, rfl, rfl, rfl⟩ rfl rfl rfl rfl rfl (by kernel_rfl) Try.func3 (by kernel_rfl)
    (of_decide_eq_true (by kernel_rfl)) (by unfold Func.isWrapper; first | (rw [if_pos (by decide +kernel)]; kernel_rfl) | (rw [if_neg (by decide +kernel)]; exact ⟨rfl, rfl⟩))
    (fun os started H enc _ => lifted os started H enc)

/-- The statement. -/
theorem proved : Rows.WordWritesSaid := over
#print axioms proved
end Go.Proofs.Ytnaodcldnjkklaa.wordWrites
