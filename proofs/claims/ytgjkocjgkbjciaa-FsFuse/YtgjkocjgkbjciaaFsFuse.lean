/-
  Proved here: so many writes are done as the fuse says, and not one more; all that is asked then is refused, till a crash; for every fuse and every name. Conditions: none.
-/
import Derived.Test.YtgjkocjgkbjciaaRows
import Derived.Test.YtgjkocjgkbjciaaMore
import Derived.Lib.Hide
import Derived.WalkKit
import Derived.ProofKit
import Derived.OpenShut
import Derived.ShutString
import Derived.ChangeOld
import Derived.Below
namespace Go.Proofs.Ytgjkocjgkbjciaa.fsFuse
open Go.ChangeShapes Go.WideShapes Go.ChangeAt Go.RowKit
set_option linter.unusedVariables false

theorem own : ownKnob Try.prog.godebug = none := by kernel_rfl
theorem laidOut : laidOutB Try.prog = true := by kernel_rfl

/-! ### The walk -/
set_option maxHeartbeats 4000000 in
set_option maxRecDepth 100000 in
theorem walk (a0 : Int) (a1 : ByteArray) (w : World) (w0 : (Lit.int .u8 a0).wf = true) (m1 : a1.size ≤ 9223372036854775807) :
    Calls Try.prog 6 #[.int .u8 a0, .string a1] w fun e w' => e = .returned (.bool true) ∧ Below w.heap.size w w' := by
  have hA := m1
  have b0 := bounds_u8 w0
  obtain ⟨F, rfl⟩ : ∃ F : Nat, a0 = (F : Int) := ⟨a0.toNat, by omega⟩
  have hF : F ≤ 255 := by omega
  have cN := Fs.refName a1 hA w
  obtain ⟨V, hV⟩ : ∃ V, V = Fs.isNm (Fs.nm a1) := ⟨_, rfl⟩
  rw [← hV] at cN
  have HV := Lib.hid hV
  clear hV w0
  cases V
  · go_enter Try.func6, Try.ntmps6
    go_wp2_with fail
    refine cN.mono ?_
    rintro e w' ⟨rfl, rfl⟩
    go_wp2_with fail
    refine (Fs.answers w).mono ?_
    rintro e w1 ⟨rfl, k1⟩
    have HK := Lib.hid k1
    clear k1
    go_wp2
    go_ret
    exact ⟨rfl, Fs.quiet_below HK.out (Nat.le_refl _)⟩
  · have ha : Fs.isNm (Fs.nm a1) = true := HV.out.symm
    have HA := Lib.hid ha
    clear ha
    go_enter Try.func6, Try.ntmps6
    go_wp2_with fail
    refine cN.mono ?_
    rintro e w' ⟨rfl, rfl⟩
    go_wp2_with fail
    refine (Fs.dNew 5000 w).mono ?_
    rintro e w1 ⟨rfl, hd1, k1⟩
    have cC := Fs.dCreate w1 a1 hA (by decide) hd1
    have HW1 : Hid (Below w.heap.size w w1) := Fs.quiet_below k1 (Nat.le_refl _)
    clear hd1 k1
    go_wp2_with fail
    refine cC.mono ?_
    rintro e w2 ⟨rfl, hd2, b2⟩
    have cF := Fs.dFuse w2 (F : Int) (by omega) hd2
    rw [Fs.fuse_start HA.out F] at cF
    have HW2 : Hid (Below w.heap.size w w2) := HW1.out.trans b2
    clear hd2 b2 cC
    go_wp2_with fail
    refine cF.mono ?_
    rintro e w3 ⟨rfl, hd3, b3⟩
    have HD3 := Lib.hid hd3
    have HW3 : Hid (Below w.heap.size w w3) := HW2.out.trans b3
    clear hd3 b3 cF
    go_wp2
    go_loopw [6, 7] (fun x y wr => ∃ i : Nat, i ≤ 300 ∧ x = .int .i64 ((min i F : Nat) : Int) ∧ y = .int .i64 (i : Int) ∧ Hid (Fs.D w.heap.size wr w.heap.size (Fs.fuseSt (Fs.nm a1) F i)) ∧ Hid (Below w.heap.size w wr)) (fun _ y _ => 300 - (intOf y).toNat)
    case atStart => exact ⟨0, by omega, by simp, rfl, HD3.out, HW3.out⟩
    case round =>
      obtain ⟨i, hi, rfl, rfl, HD, HW⟩ := hrel
      by_cases h8 : (i : Int) < 300
      · have hB : Fs.Bytes (fun b => wr.heap.size ≤ b) (wr.alloc (.cells #[.int .u8 1] 5)) (some ⟨wr.heap.size, 0, none⟩) [1] := by
          have := Fs.Bytes.of_at (bs := [1]) (Fs.At.new wr 5 (Fs.cellsOf [1]).toArray) (by simp)
          exact this.mono (fun b _ e => by omega)
        have k3 : Fs.Keep (fun _ => False) wr (wr.alloc (.cells #[.int .u8 1] 5)) := (Fs.Keep.refl _ wr).alloc _
        have cA := Fs.dAppendNew (wr.alloc (.cells #[.int .u8 1] 5)) a1 hA wr (some ⟨wr.heap.size, 0, none⟩) 1 1 [1] rfl (by omega) hB HD.out k3
        obtain ⟨s1, s2⟩ := Fs.fuse_step HA.out F i hF
        rw [s1, s2] at cA
        have HK3 : Hid (Below w.heap.size w (wr.alloc (.cells #[.int .u8 1] 5))) := HW.out.trans (Fs.quiet_below k3 HW.out.size)
        obtain ⟨M, hM⟩ : ∃ M, M = min i F := ⟨_, rfl⟩
        rw [← hM]
        have hMl : M ≤ 300 := by omega
        have HM := Lib.hid hM
        clear hB k3 s1 s2 hM
        by_cases hiF : i < F
        · rw [if_pos hiF] at cA
          have HI := Lib.hid hiF
          clear hiF
          go_wp2_with fail
          refine cA.mono ?_
          rintro e w5 ⟨rfl, hd5, b5⟩
          have HD5 := Lib.hid hd5
          have HW5 : Hid (Below w.heap.size w w5) := HK3.out.trans b5
          clear hd5 b5 cA
          go_wp2
          go_roundw
          case rel => exact ⟨i + 1, by omega, by have := HM.out; have := HI.out; rw [show min (i + 1) F = M + 1 by omega]; go_num, by go_num, HD5.out, HW5.out⟩
          case measure => simp [intOf]; omega
        · rw [if_neg hiF] at cA
          have HI := Lib.hid hiF
          clear hiF
          go_wp2_with fail
          refine cA.mono ?_
          rintro e w5 ⟨rfl, hd5, b5⟩
          have HD5 := Lib.hid hd5
          have HW5 : Hid (Below w.heap.size w w5) := HK3.out.trans b5
          clear hd5 b5 cA
          go_wp2
          go_roundw
          case rel => exact ⟨i + 1, by omega, by have := HM.out; have := HI.out; rw [show min (i + 1) F = M by omega], by go_num, HD5.out, HW5.out⟩
          case measure => simp [intOf]; omega
      · have hi3 : i = 300 := by omega
        subst hi3
        rw [show min 300 F = F by omega]
        have hfd := Fs.fuse_find HA.out F 300
        rw [if_pos (by omega)] at hfd
        have cR := Fs.dRead wr a1 hA HD.out
        rw [hfd] at cR
        clear hfd
        go_wp2_with fail
        refine cR.mono ?_
        rintro e v1 ⟨y, n, c, _, rfl, _, k1, _⟩
        have HD1 := Lib.hid (HD.out.quiet k1)
        have HW1' : Hid (Below w.heap.size w v1) := HW.out.trans (Fs.quiet_below k1 HW.out.size)
        have hdn : (Fs.fuseSt (Fs.nm a1) F 300).down = true := by simp [Fs.fuseSt]; omega
        have HDN := Lib.hid hdn
        clear k1 cR
        have cD := Fs.down w.heap.size _ _ v1 HD1.out.2
        rw [hdn] at cD
        go_wp2_with fail
        refine cD.mono ?_
        rintro e v' ⟨rfl, rfl⟩
        go_wp2_with fail
        refine (Fs.listDown w.heap.size _ _ v1 HD1.out.2 HDN.out).mono ?_
        rintro e v' ⟨rfl, rfl⟩
        have hrz : Fs.readyE (Fs.fuseSt (Fs.nm a1) F 300) [Fs.nm { data := #[122, 122] }] = 2 := by
          unfold Fs.readyE
          rw [hdn]
          rfl
        have e1 : Fs.createE (Fs.fuseSt (Fs.nm a1) F 300) (Fs.nm { data := #[122, 122] }) = 2 := by unfold Fs.createE; rw [hrz]; rfl
        have e2 : Fs.createS (Fs.fuseSt (Fs.nm a1) F 300) (Fs.nm { data := #[122, 122] }) = Fs.fuseSt (Fs.nm a1) F 300 := by unfold Fs.createS; rw [hrz]; rfl
        have cZ := Fs.dCreate v1 { data := #[122, 122] } (by decide) (by rw [Fs.fuse_bulk]; decide) HD1.out
        rw [e1, e2] at cZ
        clear e1 e2 hrz hdn cD
        go_wp2_with fail
        refine cZ.mono ?_
        rintro e v2 ⟨rfl, hd2, b2⟩
        have HD2 := Lib.hid hd2
        have HW2' : Hid (Below w.heap.size w v2) := HW1'.out.trans b2
        clear hd2 b2 cZ
        have e1 : Fs.dirSyncE (Fs.fuseSt (Fs.nm a1) F 300) = 2 := by unfold Fs.dirSyncE; rw [HDN.out]; rfl
        have e2 : Fs.dirSyncS (Fs.fuseSt (Fs.nm a1) F 300) = Fs.fuseSt (Fs.nm a1) F 300 := by unfold Fs.dirSyncS; rw [HDN.out]; rfl
        have cY := Fs.dDirSync v2 HD2.out
        rw [e1, e2] at cY
        clear e1 e2
        go_wp2_with fail
        refine cY.mono ?_
        rintro e v3 ⟨rfl, hd3, b3⟩
        have HD3' := Lib.hid hd3
        have HW3' : Hid (Below w.heap.size w v3) := HW2'.out.trans b3
        clear hd3 b3 cY
        have cX := Fs.dCrash v3 9 999 (by omega) HD3'.out
        rw [Fs.fuse_crash _ F 300 hF (by omega)] at cX
        go_wp2_with fail
        refine cX.mono ?_
        rintro e v4 ⟨rfl, hd4, b4⟩
        have HD4 := Lib.hid hd4
        have HW4 : Hid (Below w.heap.size w v4) := HW3'.out.trans b4
        clear hd4 b4 cX
        obtain ⟨r1, r2⟩ := Fs.fuse_read HA.out F
        have cR := Fs.dRead v4 a1 hA HD4.out
        rw [r1, r2] at cR
        clear r1 r2
        go_wp2_with fail
        refine cR.mono ?_
        rintro e v5 ⟨y, n, c, rfl, rfl, _, k5, _⟩
        have HD5 := Lib.hid (HD4.out.quiet k5)
        have HW5 : Hid (Below w.heap.size w v5) := HW4.out.trans (Fs.quiet_below k5 HW4.out.size)
        clear k5 cR
        go_wp2_with fail
        refine (Fs.answers v5).mono ?_
        rintro e v6 ⟨rfl, k6⟩
        have HD6 := Lib.hid (HD5.out.quiet k6)
        have HW6 : Hid (Below w.heap.size w v6) := HW5.out.trans (Fs.quiet_below k6 HW5.out.size)
        clear k6
        have cD := Fs.down w.heap.size _ _ v6 HD6.out.2
        go_wp2_with fail
        refine cD.mono ?_
        rintro e v' ⟨rfl, rfl⟩
        go_wp2
        go_ret
        exact ⟨rfl, HW6.out⟩

/-! ### The row's step -/
set_option maxRecDepth 100000 in
theorem lifted (os : Os) (started : os.Started) (H : Type) (enc : TypeId × Value → H) :
    ReturnsInHanded {} Try.checked os 6 .any (Rows.fsFuseSpec.pre6 enc Try.prog Try.f6 Rows.fsFuseRow.domain false) (Rows.fsFuseSpec.post enc Try.prog Try.f6 false true false false) := by
  refine returnsInHanded_of_change_sized (C := Try.checked) own started (by kernel_rfl) Try.func6
    (ChangeSpec.witness6 (enc := enc) (C := Try.checked) false ⟨#[], #[.int .u8 0, .string { data := #[] }], []⟩ 8 (by kernel_rfl) (by kernel_rfl) (by kernel_rfl) (by kernel_rfl)) ?_
  intro W base args ds gs before hval0 hW hcnd hsz _
  have hval : ∀ (j : Nat) t v, Try.f6.params[j]? = some t → args[j]? = some v → Value.okWide Try.prog W .any base t v := hval0
  have hW' := hW
  obtain ⟨p, q, hA0, hV, rfl, hfz, hnd⟩ := hW
  have hA : DataW.TrodAll enc Try.prog W 0 (fun _ => true) true Try.f6.params.toList args.toList ds p := hA0
  rw [Try.params6] at hA hval hsz
  obtain ⟨v0, vs0, d0, ds0, p0, q0, hargs, rfl, rfl, h0, r0⟩ := trodAll_cons hA
  obtain ⟨v1, vs1, d1, ds1, p1, q1, rfl, rfl, rfl, h1, r1⟩ := trodAll_cons r0
  obtain ⟨rfl, rfl, rfl⟩ := trodAll_nil r1
  obtain rfl : args = #[v0, v1] := by cases args; simp_all
  obtain ⟨rfl, rfl⟩ := trodVars_none hV
  obtain ⟨a0, rfl, rfl, rfl, w0⟩ := open_int Try.underlying5 (hval 0 5 v0 rfl rfl) h0
  obtain ⟨a1, rfl, rfl, rfl, w1⟩ := ChangeMaps.open_string Try.underlying9 (hval 1 9 v1 rfl rfl) h1
  clear hA0 hval0
  refine (walk a0 a1 W w0 (by simpa only [maxLen] using w1)).mono fun e W' ⟨he, bel⟩ => ?_
  subst he
  exact ⟨_, rfl, _, _, _, [], _, [], hW', trodAll_mk1 (shut_bool Try.underlying4 _), (trodAll_cons_mk (shut_int Try.underlying5 w0) (trodAll_cons_mk (ChangeMaps.shut_string Try.underlying9 w1) trodAll_mk0)), rfl, bel.frame _, fun h => by cases h⟩

theorem over : Rows.fsFuseRow.holds Try.pinned (OpenSpec.ofChange Rows.fsFuseSpec) :=
  OpenClaim.holds_of_wide 6 Try.f6 rfl rfl rfl rfl rfl rfl rfl ⟨rfl, rfl, rfl, rfl, rfl⟩ rfl rfl rfl rfl rfl (by kernel_rfl) Try.func6 (by kernel_rfl)
    (of_decide_eq_true (by kernel_rfl)) (by unfold Func.isWrapper; first | (rw [if_pos (by decide +kernel)]; kernel_rfl) | (rw [if_neg (by decide +kernel)]; exact ⟨rfl, rfl⟩))
    (fun os started H enc _ => lifted os started H enc)

/-- The statement. -/
theorem proved : Rows.FsFuseSaid := over
#print axioms proved
end Go.Proofs.Ytgjkocjgkbjciaa.fsFuse
