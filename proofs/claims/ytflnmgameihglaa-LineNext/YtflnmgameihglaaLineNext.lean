/-
  Proved here: for every slice of slices of bytes and every number, the statement LineNext of layer 6 answers true: the lines of any bytes, fed in parts and asked for as they come, are those that the document's own Line tells; the arguments read behind the call as they read before. Conditions: none.
-/
import Derived.Test.YtflnmgameihglaaRows
import Derived.Test.YtflnmgameihglaaBoth
import Derived.Lib.Hide
import Derived.WalkKit
import Derived.ProofKit
import Derived.OpenShut
import Derived.ShutString
import Derived.ChangeOld
import Derived.Below
import Derived.HandedShaped
namespace Go.Proofs.Ytflnmgameihglaa.lineNext
open Go.ChangeShapes Go.WideShapes Go.ChangeAt Go.RowKit
set_option linter.unusedVariables false

theorem own : ownKnob Try.prog.godebug = none := by kernel_rfl
theorem laidOut : laidOutB Try.prog = true := by kernel_rfl

/-! ### The walk -/
set_option maxHeartbeats 4000000 in
set_option maxRecDepth 100000 in
theorem walk (a0 : Option Addr) (x0 : List (List Nat)) (cap0 : Nat) (a1 : Int) (w : World) (l0 : x0.length ≤ cap0) (m0 : cap0 ≤ 9223372036854775807) (B0 : Ln.Rows2 w a0 x0) (w1 : (Lit.int .i64 a1).wf = true) (hm : Ln.Hm w) :
    Calls Try.prog 3 #[.slice a0 x0.length cap0, .int .i64 a1] w fun e w' => e = .returned (.bool true) ∧ Below w.heap.size w w' := by
  obtain ⟨N, hN⟩ : ∃ N, N = x0.length := ⟨_, rfl⟩
  rw [← hN] at l0
  rw [← hN]
  have HN := Lib.hid hN
  have HR := Lib.hid B0
  have HM := Lib.hid hm
  have ES : Hid (Ln.str [] = { data := #[] }) := Lib.hid (by kernel_rfl)
  have b1 := bounds_i64 w1
  clear hN B0 hm
  go_enter Try.func3, Try.ntmps3
  go_wp2
  go_loopw [6, 7] (fun v i wr => ∃ (k : Nat) (y : Option Addr) (m c : Nat), k ≤ N ∧ i = .int .i64 (k : Int) ∧ v = .slice y m c ∧ Hid (∃ bs, Ln.Both w wr w.heap.size (.slice y m c) bs bs ∧ bs.length ≤ 500 * k) ∧ Hid (Ln.Since w wr) ∧ (0 < k → k ≤ 50)) (fun _ i _ => N - (intOf i).toNat)
  case atStart => exact ⟨0, none, 0, 0, by omega, rfl, rfl, ⟨[], Ln.Both.start w, by simp⟩, (Ln.Keep.refl _ w).alloc _, by omega⟩
  case round =>
    obtain ⟨k, y, m, c, hk, rfl, rfl, HB, HS, h50⟩ := hrel
    have H50 := Lib.hid h50
    clear h50
    by_cases hlt : (k : Int) < (N : Int)
    · have hkl : k < x0.length := by have := HN.out; omega
      obtain ⟨b, off, x, cc, hb, ha, hcell, hdc, hcc, hBy0⟩ := HR.out k x0[k] (List.getElem?_eq_getElem hkl)
      subst ha
      obtain ⟨d, hd⟩ : ∃ d, d = x0[k] := ⟨_, rfl⟩
      rw [← hd] at hcell hdc hBy0
      clear hd hkl
      obtain ⟨D, hD⟩ : ∃ D, D = d.length := ⟨_, rfl⟩
      rw [← hD] at hcell hdc
      have hc1 := HS.out.cell hcell (by show ¬ w.heap.size ≤ b; omega)
      have HD := Lib.hid hD
      have HC := Lib.hid hcell
      have HBy0 := Lib.hid hBy0
      clear hD hcell hBy0
      by_cases h5 : (500 : Int) < (D : Int)
      · go_wp2_with fail
        refine (Ln.ansS HS.out HM.out).mono ?_
        rintro e w4 ⟨rfl, hS4, _⟩
        go_wp2
        go_ret
        exact ⟨rfl, hS4.below⟩
      · by_cases h6 : (50 : Int) < (N : Int)
        · go_wp2_with fail
          refine (Ln.ansS HS.out HM.out).mono ?_
          rintro e w4 ⟨rfl, hS4, _⟩
          go_wp2
          go_ret
          exact ⟨rfl, hS4.below⟩
        · obtain ⟨bs, hBo, hbl⟩ := HB.out
          have HBo := Lib.hid hBo
          have HBl0 := Lib.hid hbl
          have hc2 : (wr.alloc (.cells #[] 5)).cell? ⟨b, off + k, none⟩ = some (.slice x D cc) := Lib.cell?_alloc_marked _ hc1
          have hb6 : bs.length ≤ 25000 := by omega
          have HB6 := Lib.hid hb6
          clear hBo hbl HB hb6
          go_wp2_with
            (at_builtin
             refine Ln.wpList_append_mid (by rfl) _ _ (by rfl) (.slice (some ⟨wr.heap.size, 0, none⟩) 0 0) none [] (by rfl) (Ln.Mid.empty _ _) _ x D cc d (by rfl) HD.out.symm ((HS.out.bytes HBy0.out).quiet ((Ln.Keep.refl _ wr).alloc _)) (by simp; omega) ?_
             intro y4 n4 c4 q4 w4 hM4 hk4 hnew4
             rw [List.nil_append] at hM4
             have HM4 := Lib.hid hM4
             have HS4 : Hid (Ln.Since w w4) := Lib.hid (Ln.Since.quiet (Ln.Keep.alloc HS.out _) hk4.none_row)
             have HB4 := Lib.hid ((HBo.out.quiet ((Ln.Keep.refl _ wr).alloc _)).quiet hk4.none_row)
             clear hM4 hk4 hnew4)
          refine (Ln.both_feed HS4.out HB4.out y4 n4 c4 d HM4.out.len.symm HM4.out.bytes (by have := HM4.out.len; have := HD.out; have := HB6.out; omega)).mono ?_
          rintro e w5 ⟨rfl, hB5, hS5⟩
          have hc5 := hS5.cell HC.out (by show ¬ w.heap.size ≤ b; omega)
          have HB5 := Lib.hid hB5
          have HS5 := Lib.hid hS5
          clear hB5 hS5
          go_wp2_with
            (at_builtin
             refine Ln.wpList_append_both (by rfl) _ _ (by rfl) (.slice y m c) (bs ++ d) bs (by rfl) HS5.out HB5.out _ x D cc d (by rfl) HD.out.symm (HS5.out.bytes HBy0.out) (by have := HB6.out; omega) ?_
             intro y6 n6 c6 w6 hB6' hS6
             have HB7 := Lib.hid hB6'
             have HS6 := Lib.hid hS6
             clear hB6' hS6)
          go_loopw [6] (fun v wx => ∃ (y : Option Addr) (m c : Nat), v = .slice y m c ∧ Hid (∃ bs, Ln.Both w wx w.heap.size (.slice y m c) bs bs ∧ bs.length ≤ 500 * (k + 1)) ∧ Hid (Ln.Since w wx)) (fun v _ => Ln.vlen v)
          case atStart => exact ⟨y6, n6, c6, rfl, ⟨bs ++ d, HB7.out, by have := HBl0.out; have := HD.out; simp; omega⟩, HS6.out⟩
          case round =>
            obtain ⟨y2, m2, c2, rfl, HB2, HS2⟩ := hrel
            obtain ⟨bs2, hB2, hbl2⟩ := HB2.out
            obtain ⟨x2, cap2, e2, hcap2, P2, hBy2⟩ := hB2.shape
            injection e2 with e3 hm2 e5
            subst e3 e5
            rw [← hm2] at hcap2
            have HBB := Lib.hid hB2
            have HBl : Hid (bs2.length ≤ 500 * (k + 1) ∧ 500 * (k + 1) ≤ 25000) := Lib.hid ⟨hbl2, by omega⟩
            have HBy := Lib.hid hBy2
            have HM2 := Lib.hid hm2
            clear hB2 hbl2 hBy2 hm2 HB2
            cases hp : Ln.pos bs2 with
            | none =>
              have HP := Lib.hid hp
              clear hp
              go_wp2_with fail
              refine (Ln.line HM2.out hcap2 HBy.out (by have := HBl.out; have := HM2.out; omega)).mono ?_
              rintro e w' ⟨he, hw⟩
              have hw' := hw.symm
              subst hw'
              rw [Ln.lineT_none HP.out, Ln.lineN_none HP.out, ES.out] at he
              have he' : e = .returned (.tuple #[.string { data := #[] }, .int .i64 0]) := he
              clear he
              subst he'
              go_wp2_with fail
              refine (Ln.both_next HS2.out HM.out HBB.out a1 w1 (by have := HBl.out; omega)).mono ?_
              rintro e w8 ⟨he, hB8, hS8⟩
              rw [Ln.nextT_none HP.out, Ln.nextL_none HP.out, Ln.nextK_none HP.out, ES.out] at he
              rw [Ln.nextS_none HP.out] at hB8
              subst he
              have HB8 := Lib.hid hB8
              have HS8 := Lib.hid hS8
              clear hB8 hS8
              go_wp2
              go_roundw
              case rel => exact ⟨k + 1, y2, m2, c2, by omega, by go_num, rfl, ⟨bs2, HB8.out, HBl.out.1⟩, HS8.out, fun _ => by omega⟩
              case measure => simp [intOf]; omega
            | some i =>
              have HP := Lib.hid hp
              have hpl := Ln.pos_lt hp
              have hi : (i : Int) ≤ 25000 := by have := HBl.out; omega
              obtain ⟨Z, hZ⟩ : ∃ Z, Z = Ln.lineN bs2 := ⟨_, rfl⟩
              have hZ2 : Z = i + 2 := by rw [hZ, Ln.lineN_some hp]
              have hZp : (0 : Int) < (Z : Int) := by omega
              have hZn : ¬ ((Z : Int) = 0) := by omega
              have hZp' : 0 < Z := by omega
              have hZn' : ¬ (Z = 0) := by omega
              have hZl : Z ≤ m2 := by have := HM2.out; omega
              obtain ⟨T, hT⟩ : ∃ T, T = Ln.str (bs2.take i) := ⟨_, rfl⟩
              have hTs : T.size = i := by rw [hT, Ln.str_size]; simp; omega
              have hlenT : ∀ ty w, (Builtin.len_ #[9] ty #[.string T]).run Try.prog w = .ok (.int .i64 (i : Int)) w := fun ty w => by rw [← hTs]; exact run_len_string w 9 ty T Try.underlying9
              obtain ⟨s1, s2⟩ := Ln.cut_drop y2 m2 c2 Z hZl hcap2
              obtain ⟨Y, hY⟩ : ∃ Y, Y = (if c2 = Z then y2 else y2.map (fun a => a.add Z)) := ⟨_, rfl⟩
              obtain ⟨m', hm'⟩ : ∃ m', m' = m2 - Z := ⟨_, rfl⟩
              obtain ⟨c', hc'⟩ : ∃ c', c' = c2 - Z := ⟨_, rfl⟩
              rw [← hY, ← hm', ← hc'] at s1 s2
              have hnl : (Ln.nextS bs2).length = m' := by rw [Ln.nextS_some hp, hm', hZ2]; have := HM2.out; simp; omega
              have hlt' : m' < m2 := by omega
              have hm2 := HM2.out
              have HM2' := Lib.hid hm2
              have HZ := Lib.hid hZ
              have HZ2 := Lib.hid hZ2
              have HZL := Lib.hid hZl
              have HT := Lib.hid hT
              have HYY := Lib.hid hY
              have HMM := Lib.hid hm'
              have HCC := Lib.hid hc'
              have HNL := Lib.hid hnl
              clear hp hZ hZ2 hT hTs hY hm' hc' hnl hm2 hpl
              by_cases hneg : a1 < 0
              · by_cases h0 : (0 : Int) < (i : Int)
                · have HX : Hid (max a1 0 < (i : Int)) := Lib.hid (by omega)
                  go_wp2_with fail
                  refine (Ln.line HM2'.out hcap2 HBy.out (by have := HBl.out; have := HM2'.out; omega)).mono ?_
                  rintro e w' ⟨he, hw⟩
                  have hw' := hw.symm
                  subst hw'
                  rw [Ln.lineT_some HP.out, ← HT.out, ← HZ.out] at he
                  subst he
                  go_wp2_with fail
                  refine (Ln.both_next HS2.out HM.out HBB.out a1 w1 (by have := HBl.out; omega)).mono ?_
                  rintro e w8 ⟨he, hB8, hS8⟩
                  rw [Ln.nextT_long HP.out HX.out, Ln.nextL_long HP.out HX.out, Ln.nextK_some HP.out, ES.out] at he
                  subst he
                  have hB9 := hB8.drop Z (by have := HZL.out; omega)
                  rw [← HYY.out, ← HMM.out, ← HCC.out] at hB9
                  have HB9 := Lib.hid hB9
                  have HS8 := Lib.hid hS8
                  clear hB8 hS8 hB9
                  go_wp2_with fail
                  refine (Ln.both_held HB9.out).mono ?_
                  rintro e w9 ⟨he, hw⟩
                  have hw' := hw.symm
                  subst hw'
                  rw [HNL.out] at he
                  subst he
                  go_wp2
                  go_roundw
                  case rel => exact ⟨Y, m', c', rfl, ⟨bs2.drop Z, by have h := HB9.out; rw [Ln.nextS_some HP.out, ← HZ2.out] at h; exact h, by have := HBl.out; simp; omega⟩, HS8.out⟩
                  case measure => simp [Ln.vlen]; omega
                · have HX : Hid ((i : Int) ≤ max a1 0) := Lib.hid (by omega)
                  go_wp2_with fail
                  refine (Ln.line HM2'.out hcap2 HBy.out (by have := HBl.out; have := HM2'.out; omega)).mono ?_
                  rintro e w' ⟨he, hw⟩
                  have hw' := hw.symm
                  subst hw'
                  rw [Ln.lineT_some HP.out, ← HT.out, ← HZ.out] at he
                  subst he
                  go_wp2_with fail
                  refine (Ln.both_next HS2.out HM.out HBB.out a1 w1 (by have := HBl.out; omega)).mono ?_
                  rintro e w8 ⟨he, hB8, hS8⟩
                  rw [Ln.nextT_short HP.out HX.out, Ln.nextL_short HP.out HX.out, Ln.nextK_some HP.out, ← HT.out] at he
                  subst he
                  have hB9 := hB8.drop Z (by have := HZL.out; omega)
                  rw [← HYY.out, ← HMM.out, ← HCC.out] at hB9
                  have HB9 := Lib.hid hB9
                  have HS8 := Lib.hid hS8
                  clear hB8 hS8 hB9
                  go_wp2_with fail
                  refine (Ln.both_held HB9.out).mono ?_
                  rintro e w9 ⟨he, hw⟩
                  have hw' := hw.symm
                  subst hw'
                  rw [HNL.out] at he
                  subst he
                  go_wp2
                  go_roundw
                  case rel => exact ⟨Y, m', c', rfl, ⟨bs2.drop Z, by have h := HB9.out; rw [Ln.nextS_some HP.out, ← HZ2.out] at h; exact h, by have := HBl.out; simp; omega⟩, HS8.out⟩
                  case measure => simp [Ln.vlen]; omega
              · by_cases h0 : a1 < (i : Int)
                · have HX : Hid (max a1 0 < (i : Int)) := Lib.hid (by omega)
                  go_wp2_with fail
                  refine (Ln.line HM2'.out hcap2 HBy.out (by have := HBl.out; have := HM2'.out; omega)).mono ?_
                  rintro e w' ⟨he, hw⟩
                  have hw' := hw.symm
                  subst hw'
                  rw [Ln.lineT_some HP.out, ← HT.out, ← HZ.out] at he
                  subst he
                  go_wp2_with fail
                  refine (Ln.both_next HS2.out HM.out HBB.out a1 w1 (by have := HBl.out; omega)).mono ?_
                  rintro e w8 ⟨he, hB8, hS8⟩
                  rw [Ln.nextT_long HP.out HX.out, Ln.nextL_long HP.out HX.out, Ln.nextK_some HP.out, ES.out] at he
                  subst he
                  have hB9 := hB8.drop Z (by have := HZL.out; omega)
                  rw [← HYY.out, ← HMM.out, ← HCC.out] at hB9
                  have HB9 := Lib.hid hB9
                  have HS8 := Lib.hid hS8
                  clear hB8 hS8 hB9
                  go_wp2_with fail
                  refine (Ln.both_held HB9.out).mono ?_
                  rintro e w9 ⟨he, hw⟩
                  have hw' := hw.symm
                  subst hw'
                  rw [HNL.out] at he
                  subst he
                  go_wp2
                  go_roundw
                  case rel => exact ⟨Y, m', c', rfl, ⟨bs2.drop Z, by have h := HB9.out; rw [Ln.nextS_some HP.out, ← HZ2.out] at h; exact h, by have := HBl.out; simp; omega⟩, HS8.out⟩
                  case measure => simp [Ln.vlen]; omega
                · have HX : Hid ((i : Int) ≤ max a1 0) := Lib.hid (by omega)
                  go_wp2_with fail
                  refine (Ln.line HM2'.out hcap2 HBy.out (by have := HBl.out; have := HM2'.out; omega)).mono ?_
                  rintro e w' ⟨he, hw⟩
                  have hw' := hw.symm
                  subst hw'
                  rw [Ln.lineT_some HP.out, ← HT.out, ← HZ.out] at he
                  subst he
                  go_wp2_with fail
                  refine (Ln.both_next HS2.out HM.out HBB.out a1 w1 (by have := HBl.out; omega)).mono ?_
                  rintro e w8 ⟨he, hB8, hS8⟩
                  rw [Ln.nextT_short HP.out HX.out, Ln.nextL_short HP.out HX.out, Ln.nextK_some HP.out, ← HT.out] at he
                  subst he
                  have hB9 := hB8.drop Z (by have := HZL.out; omega)
                  rw [← HYY.out, ← HMM.out, ← HCC.out] at hB9
                  have HB9 := Lib.hid hB9
                  have HS8 := Lib.hid hS8
                  clear hB8 hS8 hB9
                  go_wp2_with fail
                  refine (Ln.both_held HB9.out).mono ?_
                  rintro e w9 ⟨he, hw⟩
                  have hw' := hw.symm
                  subst hw'
                  rw [HNL.out] at he
                  subst he
                  go_wp2
                  go_roundw
                  case rel => exact ⟨Y, m', c', rfl, ⟨bs2.drop Z, by have h := HB9.out; rw [Ln.nextS_some HP.out, ← HZ2.out] at h; exact h, by have := HBl.out; simp; omega⟩, HS8.out⟩
                  case measure => simp [Ln.vlen]; omega
    · obtain ⟨bs, hBo, hbl⟩ := HB.out
      obtain ⟨x2, cap2, e2, _⟩ := hBo.shape
      injection e2 with e3 hm2 e5
      have HBo := Lib.hid hBo
      have HM2 := Lib.hid hm2
      clear hBo hbl HB hm2 e3 e5
      go_wp2_with fail
      refine (Ln.ansS HS.out HM.out).mono ?_
      rintro e w5 ⟨rfl, hS5, hk5⟩
      have HS5 := Lib.hid hS5
      have HB5 := Lib.hid (HBo.out.quiet hk5)
      clear hS5 hk5
      go_wp2_with fail
      refine (Ln.both_held HB5.out).mono ?_
      rintro e w6 ⟨he, hw⟩
      have hw' := hw.symm
      subst hw'
      rw [← HM2.out] at he
      subst he
      go_wp2_with fail
      go_ret
      exact ⟨rfl, HS5.out.below⟩

/-! ### The row's step -/
set_option maxRecDepth 100000 in
theorem lifted (os : Os) (started : os.Started) (H : Type) (enc : TypeId × Value → H) :
    ReturnsInHanded {} Try.checked os 3 .any (Rows.lineNextSpec.pre6 enc Try.prog Try.f3 Rows.lineNextRow.domain false) (Rows.lineNextSpec.post enc Try.prog Try.f3 false true false false) := by
  refine returnsInHanded_of_change_shaped (C := Try.checked) own started (by kernel_rfl) Try.func3
    (ChangeSpec.witness6 (enc := enc) (C := Try.checked) false ⟨#[], #[.slice none 0 0, .int .i64 0], []⟩ 8 (by kernel_rfl) (by kernel_rfl) (by kernel_rfl) (by kernel_rfl)) ?_
  intro W base args ds gs before hval0 hW hcnd hsz hsh _
  have hval : ∀ (j : Nat) t v, Try.f3.params[j]? = some t → args[j]? = some v → Value.okWide Try.prog W .any base t v := hval0
  have hW' := hW
  obtain ⟨p, q, hA0, hV, rfl, hfz, hnd⟩ := hW
  have hA : DataW.TrodAll enc Try.prog W 0 (fun _ => true) true Try.f3.params.toList args.toList ds p := hA0
  rw [Try.params3] at hA hval hsz
  obtain ⟨v0, vs0, d0, ds0, p0, q0, hargs, rfl, rfl, h0, r0⟩ := trodAll_cons hA
  obtain ⟨v1, vs1, d1, ds1, p1, q1, rfl, rfl, rfl, h1, r1⟩ := trodAll_cons r0
  obtain ⟨rfl, rfl, rfl⟩ := trodAll_nil r1
  obtain rfl : args = #[v0, v1] := by cases args; simp_all
  obtain ⟨rfl, rfl⟩ := trodVars_none hV
  obtain ⟨a0, len0, cap0, rfl⟩ := okWide_slice Try.underlying22 (hval 0 22 v0 rfl rfl)
  have k0 := h0
  have lt0 : ∀ x ∈ p0, x.block < W.heap.size := by obtain ⟨m, hm⟩ := k0; exact DataW.trod_lt m _ _ _ hm
  obtain ⟨b0, x0, c0, e0, l0, m0, B0⟩ : ∃ a ops cap, Value.slice a0 len0 cap0 = .slice a ops.length cap ∧ ops.length ≤ cap ∧ cap ≤ 9223372036854775807 ∧ Ln.Rows2 W a ops := by
    obtain ⟨fuel, hf⟩ := h0
    exact Ln.arg_rows hf
  injection e0 with e0 f0 g0
  subst e0 f0 g0
  obtain ⟨a1, rfl, rfl, rfl, w1⟩ := open_int Try.underlying3 (hval 1 3 v1 rfl rfl) h1
  clear hA0 hval0
  refine (walk a0 x0 cap0 a1 W l0 m0 B0 w1 (Ln.maxLen_some W hsh)).mono fun e W' ⟨he, bel⟩ => ?_
  subst he
  exact ⟨_, rfl, _, _, _, [], _, [], hW', trodAll_mk1 (shut_bool Try.underlying4 _), (trodAll_cons_mk (Below.trod laidOut (by kernel_rfl) (of_decide_eq_true (by kernel_rfl)) k0 bel lt0) (trodAll_cons_mk (shut_int Try.underlying3 w1) trodAll_mk0)), rfl, bel.frame _, fun h => by cases h⟩

theorem over : Rows.lineNextRow.holds Try.pinned (OpenSpec.ofChange Rows.lineNextSpec) :=
  OpenClaim.holds_of_wide 3 Try.f3 rfl rfl rfl rfl rfl rfl rfl ⟨rfl, rfl, rfl, rfl, rfl⟩ rfl rfl rfl rfl rfl (by kernel_rfl) Try.func3 (by kernel_rfl)
    (of_decide_eq_true (by kernel_rfl)) (by unfold Func.isWrapper; first | (rw [if_pos (by decide +kernel)]; kernel_rfl) | (rw [if_neg (by decide +kernel)]; exact ⟨rfl, rfl⟩))
    (fun os started H enc _ => lifted os started H enc)

/-- The statement. -/
theorem proved : Rows.LineNextSaid := over
#print axioms proved
end Go.Proofs.Ytflnmgameihglaa.lineNext
