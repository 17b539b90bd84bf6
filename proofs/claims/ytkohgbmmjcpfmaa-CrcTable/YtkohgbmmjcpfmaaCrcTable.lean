/-
  Proved here: the table's entry of any byte is what eight steps make of it (the law CrcTable returns true). Conditions: none.
  The frame of the row's step was written by the guide's program.
-/
import Derived.Test.YtkohgbmmjcpfmaaRows
import Derived.Test.YtkohgbmmjcpfmaaIn
import Derived.WalkKit
import Derived.ProofKit
import Derived.OpenShut
import Derived.Below
import Derived.ShutString
namespace Go.Proofs.Ytkohgbmmjcpfmaa.crcTable
open Go.ChangeShapes Go.WideShapes Go.ChangeAt Go.RowKit
open Go.ChangeMaps (open_string shut_string)
set_option linter.unusedVariables false      -- a walk need not use every 'w<i>' (that an integer argument fits its kind)

theorem own : ownKnob Try.prog.godebug = none := by kernel_rfl

/-! ### STEP 1: THE WALK: the Go text returns true. 'Grown w w'': the world has at most new blocks (Derived/RowKit3.lean). Part the cases AHEAD of 'go_enter' where a test parts the walk; take each callee by a contract of your own. -/
theorem walk (a0 : Int) (w0 : (Lit.int .u8 a0).wf = true) (w : World) :
    Calls Try.prog 4 #[.int .u8 a0] w fun e w' => e = .returned (.bool true) ∧ Below w.heap.size w w' := by
  obtain ⟨n0, n1⟩ := Crc.wf_u8 w0
  obtain ⟨n, rfl⟩ := Int.eq_ofNat_of_zero_le n0
  have hn : n < 256 := by omega
  go_enter Try.func4, Try.ntmps4
  go_wp2
  go_loop [3, 4] (fun x i => ∃ k m : Nat, k ≤ 8 ∧ m < 4294967296 ∧ x = .int .u32 (m : Int) ∧ i = .int .i64 (k : Int) ∧ Hid (Crc.sts (8 - k) m = Crc.sts 8 n)) (fun _ i => 8 - (intOf i).toNat)
  case atStart => exact ⟨0, n, by omega, by omega, rfl, rfl, rfl⟩
  case round =>
    obtain ⟨k, m, hk, hm, rfl, rfl, HR⟩ := hrel
    have h0 : (0 : Int) ≤ (m : Int) := by omega
    have h1 : (m : Int) ≤ 4294967295 := by omega
    by_cases h8 : (k : Int) < 8
    · rcases Nat.mod_two_eq_zero_or_one m with hp | hp
      · have ha : ((m : Int) % 2 == 1) = false := by simp; omega
        have HP := Lib.hid hp
        clear hp
        go_wp2
        go_round
        case rel =>
          refine ⟨k + 1, m / 2, by omega, by omega, rfl, by go_num, ?_⟩
          show Crc.sts (8 - (k + 1)) (m / 2) = Crc.sts 8 n
          rw [Crc.st_even HP.out]
          exact Crc.sts_next (by omega) HR.out
        case measure => simp [intOf]; omega
      · have ha : ((m : Int) % 2 == 1) = true := by simp; omega
        have hx := Crc.xor_poly m hm
        have HP := Lib.hid hp
        clear hp
        go_wp2
        go_round
        case rel =>
          refine ⟨k + 1, m / 2 ^^^ 3988292384, by omega, Crc.xor_lt32 (by omega) (by omega), rfl, by go_num, ?_⟩
          show Crc.sts (8 - (k + 1)) (m / 2 ^^^ 3988292384) = Crc.sts 8 n
          rw [Crc.st_odd HP.out]
          exact Crc.sts_next (by omega) HR.out
        case measure => simp [intOf]; omega
    · have hk8 : k = 8 := by omega
      have hfin : m = Crc.sts 8 n := by
        have := HR.out
        rw [hk8] at this
        exact this
      have HK := Lib.hid hk8
      have e1 : (((Crc.sts 8 n : Nat) : Int) == (m : Int)) = true := by rw [hfin]; exact beq_self_eq_true _
      clear hk8 hfin
      have hx := fun w => Crc.run_index_tab w .u8 n hn
      go_wp2_with (first
        | (go_at_call 7; refine (Crc.answers _).mono ?_; rintro e w1 ⟨rfl, hb1⟩)
        | (go_at_call 10; refine (Crc.table _).mono ?_; rintro e w2 ⟨rfl, hb2⟩))
      go_ret
      exact ⟨rfl, hb1.trans (hb2.mono hb1.size)⟩
  -- go_enter Try.func4, Try.ntmps4
  -- go_wp2
  -- go_ret
  -- exact ⟨rfl, by repeat (first | exact Grown.refl _ | apply Grown.drew | apply Grown.alloc)⟩

/-! ### THE ROW's STEP: WRITTEN OUT: LEAVE IT -/
set_option maxRecDepth 100000 in
theorem lifted (os : Os) (started : os.Started) (H : Type) (enc : TypeId × Value → H) :
    ReturnsInHanded {} Try.checked os 4 .any (Rows.crcTableSpec.pre6 enc Try.prog Try.f4 Rows.crcTableRow.domain false) (Rows.crcTableSpec.post enc Try.prog Try.f4 false true false false) := by
  refine returnsInHanded_of_change (C := Try.checked) own started (by kernel_rfl) Try.func4
    (ChangeSpec.witness6 (enc := enc) (C := Try.checked) false ⟨#[], #[.int .u8 0], []⟩ 8 (by kernel_rfl) (by kernel_rfl) (by kernel_rfl) (by kernel_rfl)) ?_
  intro W base args ds gs before hval0 hW hcnd _
  have hval : ∀ (j : Nat) t v, Try.f4.params[j]? = some t → args[j]? = some v → Value.okWide Try.prog W .any base t v := hval0
  have hW' := hW
  obtain ⟨p, q, hA0, hV, rfl, hfz, hnd⟩ := hW
  have hA : DataW.TrodAll enc Try.prog W 0 (fun _ => true) true Try.f4.params.toList args.toList ds p := hA0
  rw [Try.params4] at hA hval
  obtain ⟨v0, vs0, d0, ds0, p0, q0, hargs, rfl, rfl, h0, r0⟩ := trodAll_cons hA
  obtain ⟨rfl, rfl, rfl⟩ := trodAll_nil r0
  obtain rfl : args = #[v0] := by cases args; simp_all
  obtain ⟨rfl, rfl⟩ := trodVars_none hV
  obtain ⟨a0, rfl, rfl, rfl, w0⟩ := open_int Try.underlying5 (hval 0 5 v0 rfl rfl) h0
  clear hA0 hval0
  refine (walk a0 w0 W).mono fun e W' ⟨he, bel⟩ => ?_
  subst he
  exact ⟨_, rfl, _, _, _, [], _, [], hW', trodAll_mk1 (shut_bool Try.underlying4 _), (trodAll_cons_mk (shut_int Try.underlying5 w0) trodAll_mk0), rfl, bel.frame _, fun h => by cases h⟩

theorem over : Rows.crcTableRow.holds Try.pinned (OpenSpec.ofChange Rows.crcTableSpec) :=
  OpenClaim.holds_of_wide 4 Try.f4 rfl rfl rfl rfl rfl rfl rfl ⟨rfl, rfl, rfl, rfl, rfl⟩ rfl rfl rfl rfl rfl (by kernel_rfl) Try.func4 (by kernel_rfl)
    (of_decide_eq_true (by kernel_rfl)) (by unfold Func.isWrapper; first | (rw [if_pos (by decide +kernel)]; kernel_rfl) | (rw [if_neg (by decide +kernel)]; exact ⟨rfl, rfl⟩))
    (fun os started H enc _ => lifted os started H enc)

/-- ████ THE STATEMENT ████ -/
theorem proved : Rows.CrcTableSaid :=
  over
#print axioms proved
end Go.Proofs.Ytkohgbmmjcpfmaa.crcTable
