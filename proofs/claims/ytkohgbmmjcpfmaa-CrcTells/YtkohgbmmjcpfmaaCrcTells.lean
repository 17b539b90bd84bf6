/-
  Proved here: bytes of which some bits within 32 beside each other are turned have another sum (the law CrcTells returns true). Conditions: none.
  The frame of the row's step was written by the guide's program.
-/
import Derived.Test.YtkohgbmmjcpfmaaRows
import Derived.Test.YtkohgbmmjcpfmaaIn
import Derived.WalkKit
import Derived.ProofKit
import Derived.OpenShut
import Derived.ShutString
import Derived.ChangeOld
import Derived.Below
namespace Go.Proofs.Ytkohgbmmjcpfmaa.crcTells
open Go.ChangeShapes Go.WideShapes Go.ChangeAt Go.RowKit
open Go.ChangeMaps (open_string shut_string)
set_option linter.unusedVariables false

theorem own : ownKnob Try.prog.godebug = none := by kernel_rfl
theorem laidOut : laidOutB Try.prog = true := by kernel_rfl

/-- WHAT THE WALK IS TOLD OF A SLICE OF INTEGERS THAT CAME IN: it is nil; or it leads to a row of 'cap' cells, the numbers 'zs' (the first 'len' are its elements, the rest its spare room), each fitting its kind. -/
def IsRow (k : IntKind) (w : World) (a : Option Addr) (len cap : Nat) (zs : List Int) : Prop :=
  (a = none ∧ len = 0 ∧ cap = 0 ∧ zs = []) ∨
  ∃ x, a = some x ∧ len ≤ cap ∧ cap ≤ maxLen ∧ zs.length = cap ∧ (∀ i, i < zs.length → w.cell? (x.add i) = some (.int k (zs.getD i 0))) ∧ ∀ n ∈ zs, (Lit.int k n).wf = true

/-! ### STEP 1: THE WALK: the Go text returns true, AND WRITES NOTHING THAT WAS THERE: 'Below w.heap.size w w'' (Derived/Below.lean: '.refl', '.alloc', '.drew', '.setCell' at a new block, '.trans'). Open each 'IsRow' by 'rcases' AHEAD of 'go_enter'; part every test ahead of the walk. -/
theorem walk (a0 : Option Addr) (len0 cap0 : Nat) (z0 : List Int) (a1 : Int) (a2 : Int) (a3 : Int) (w : World) (w0 : IsRow .u8 w a0 len0 cap0 z0) (w1 : (Lit.int .u16 a1).wf = true) (w2 : (Lit.int .u32 a2).wf = true) (w3 : (Lit.int .u8 a3).wf = true) :
    Calls Try.prog 5 #[.slice a0 len0 cap0, .int .u16 a1, .int .u32 a2, .int .u8 a3] w fun e w' => e = .returned (.bool true) ∧ Below w.heap.size w w' := by
  obtain ⟨bs, rfl, hB⟩ := Crc.bytes_of w0
  have b1 := bounds_u16 w1
  have b2 := bounds_u32 w2
  have b3 := bounds_u8 w3
  obtain ⟨A, rfl⟩ := Int.eq_ofNat_of_zero_le b1.1
  obtain ⟨T, rfl⟩ := Int.eq_ofNat_of_zero_le b2.1
  obtain ⟨S, rfl⟩ := Int.eq_ofNat_of_zero_le b3.1
  by_cases h5 : (bs.length : Int) < 5
  · go_enter Try.func5, Try.ntmps5
    go_wp2_with (go_at_call 7; refine (Crc.answers _).mono ?_; rintro e w' ⟨rfl, hb⟩)
    go_ret
    exact ⟨rfl, hb⟩
  by_cases h50 : (5000 : Int) < (bs.length : Int)
  · go_enter Try.func5, Try.ntmps5
    go_wp2_with (go_at_call 7; refine (Crc.answers _).mono ?_; rintro e w' ⟨rfl, hb⟩)
    go_ret
    exact ⟨rfl, hb⟩
  by_cases hT : T = 0
  · subst hT
    go_enter Try.func5, Try.ntmps5
    go_wp2_with (go_at_call 7; refine (Crc.answers _).mono ?_; rintro e w' ⟨rfl, hb⟩)
    go_ret
    exact ⟨rfl, hb⟩
  have hT0 : ((T : Int) == 0) = false := by simp; omega
  have HT := Lib.hid hT
  clear hT
  obtain ⟨b, off, rfl, hcell⟩ : ∃ b off, a0 = some ⟨b, off, none⟩ ∧ ∀ i, i < bs.length → w.cell? ⟨b, off + i, none⟩ = some (.int .u8 ((bs.getD i 0 : Nat) : Int)) := by
    rcases hB.2 with h0 | h0
    · subst h0; simp at h5
    · exact h0
  obtain ⟨K, hKd⟩ : ∃ K, K = A % (bs.length - 4) := ⟨_, rfl⟩
  have hK : (A : Int) % ((bs.length : Int) - 4) = (K : Int) := by rw [hKd, show ((bs.length : Int) - 4) = ((bs.length - 4 : Nat) : Int) by omega]; rfl
  obtain ⟨X, hXd⟩ : ∃ X, X = T * 2 ^ (S % 8) := ⟨_, rfl⟩
  have hX := Crc.shl_u64 T (S % 8) (by omega) (by omega)
  have hXl : X < 1099511627776 := by rw [hXd]; exact Crc.shl_lt T (S % 8) (by omega) (by omega)
  rw [← hXd] at hX
  have HX := Lib.hid hXd
  clear hXd
  have hKl : K + 4 < bs.length := by have := Nat.mod_lt A (show 0 < bs.length - 4 by omega); omega
  obtain ⟨i0, hi, hz0, hz1, hz2⟩ := info_parts Crc.info5
  have HC := Lib.hid hcell
  have HB := Lib.hid hB
  have HG := Lib.hid (Crc.news_at (w.alloc (.cells #[] 5)) b off bs (fun i h => Lib.cell?_alloc_marked _ (hcell i h)))
  clear hKd hcell hB
  go_enter Try.func5, Try.ntmps5
  go_wp2_with (at_builtin; refine wpList_append_grows _ (by rfl) (.tmp 32) (.tmp 33) 22 (by rfl) 5 i0 (.int .u8 0) 1 1 Try.underlying22 hi hz0 hz1 hz2 (by rfl) (by decide) (some ⟨w.heap.size, 0, none⟩) 0 0 [] (by rfl) (by simp) (by simp) (by simp) ⟨b, off, none⟩ bs.length cap0 (Crc.cellsOf bs) (by rfl) (by simp [Crc.cellsOf_length]) HG.out (Crc.news_one bs) (by omega) (by unfold maxLen; omega) (by omega) ?_; intro v1 wa hown hgrow; obtain ⟨g, cp, rfl, hg0, hg1, hg2⟩ := Crc.own_open hown (by omega))
  have hbel : Below w.heap.size w wa := ((Below.refl _ w).alloc (Nat.le_refl _) _).grown hgrow (by simp) (by simp)
  have HG1 := Lib.hid hg1
  have HG2 := Lib.hid hg2
  have hgw : w.heap.size ≤ g := by simp at hg0; omega
  clear hg1 hg2 hgrow hown hg0
  go_loopw [12] (fun x wr => ∃ i : Nat, i ≤ 5 ∧ x = .int .i64 (i : Int) ∧ Hid (∀ j, j < bs.length → wr.cell? ⟨g, j, none⟩ = some (.int .u8 ((Crc.mix bs K X i j : Nat) : Int))) ∧ Hid (∀ j, wr.frozen? ⟨g, j, none⟩ = false) ∧ Below w.heap.size w wr) (fun x _ => 5 - (intOf x).toNat)
  case atStart => exact ⟨0, by omega, rfl, by show ∀ j, _ → _; intro j hj; rw [Crc.mix_zero]; exact HG1.out j hj, HG2.out, hbel⟩
  case round =>
    obtain ⟨i, hi5, rfl, HW, HF, hbr⟩ := hrel
    by_cases h8 : (i : Int) < 5
    · have hc := HW.out (K + i) (by omega)
      rw [Crc.mix_at] at hc
      obtain ⟨c, hcd⟩ : ∃ c, c = bs.getD (K + i) 0 := ⟨_, rfl⟩
      rw [← hcd] at hc
      have hcl : c < 256 := by rw [hcd]; exact Crc.getD_lt HB.out.1 (K + i) (by omega)
      have hxm := Crc.xor_mix c X i hcl
      have HS := Lib.hid (Crc.mix_step hc hcd HW.out)
      have HD := Lib.hid hcd
      clear hcd
      have hf := HF.out (K + i)
      have x0 : (0 : Int) ≤ (X : Int) := by omega
      have x1 : (X : Int) ≤ 1099511627775 := by omega
      go_wp2
      go_roundw
      case rel => exact ⟨i + 1, by omega, by go_num, HS.out, fun j => (World.frozen?_setCell ..).trans (HF.out j), hbr.setCell hgw _⟩
      case measure => simp [intOf]; omega
    · have hi6 : i = 5 := by omega
      subst hi6
      have hlc := Crc.mixed_length bs K X
      have hBc : Crc.Bytes wr (some ⟨g, 0, none⟩) (Crc.mixed bs K X) := Crc.mixed_bytes HB.out.1 HW.out
      have hne : ((((Crc.sum bs : Nat) : Int)) != ((Crc.sum (Crc.mixed bs K X) : Nat) : Int)) = true := Crc.mixed_tells HB.out.1 hKl HX.out (by omega) HT.out
      have hl1 : bs.length ≤ 4611686018427387904 := by omega
      have hl2 : (Crc.mixed bs K X).length ≤ 4611686018427387904 := by omega
      have HLC := Lib.hid hlc
      have HBC := Lib.hid hBc
      clear hlc hBc
      go_wp2_with (first
        | (go_at_call 7; refine (Crc.answers _).mono ?_; rintro e w3 ⟨rfl, hb3⟩)
        | (go_at_call 8; refine (Crc.sumLen (some ⟨g, 0, none⟩) bs.length cp (Crc.mixed bs K X) HLC.out hl2 w4 ((HBC.out.behind hb3).behind hb4)).mono ?_; rintro e w5 ⟨rfl, hb5⟩)
        | (go_at_call 8; refine (Crc.sumOf (some ⟨b, off, none⟩) cap0 bs hl1 w3 ((HB.out.behind hbr).behind hb3)).mono ?_; rintro e w4 ⟨rfl, hb4⟩))
      go_ret
      exact ⟨rfl, ((hbr.trans (hb3.mono hbr.size)).trans (hb4.mono (Nat.le_trans hbr.size hb3.size))).trans (hb5.mono (Nat.le_trans (Nat.le_trans hbr.size hb3.size) hb4.size))⟩

/-! ### THE ROW's STEP: WRITTEN OUT: LEAVE IT -/
set_option maxRecDepth 100000 in
theorem lifted (os : Os) (started : os.Started) (H : Type) (enc : TypeId × Value → H) :
    ReturnsInHanded {} Try.checked os 5 .any (Rows.crcTellsSpec.pre6 enc Try.prog Try.f5 Rows.crcTellsRow.domain false) (Rows.crcTellsSpec.post enc Try.prog Try.f5 false true false false) := by
  refine returnsInHanded_of_change (C := Try.checked) own started (by kernel_rfl) Try.func5
    (ChangeSpec.witness6 (enc := enc) (C := Try.checked) false ⟨#[], #[.slice none 0 0, .int .u16 0, .int .u32 0, .int .u8 0], []⟩ 8 (by kernel_rfl) (by kernel_rfl) (by kernel_rfl) (by kernel_rfl)) ?_
  intro W base args ds gs before hval0 hW hcnd _
  have hval : ∀ (j : Nat) t v, Try.f5.params[j]? = some t → args[j]? = some v → Value.okWide Try.prog W .any base t v := hval0
  have hW' := hW
  obtain ⟨p, q, hA0, hV, rfl, hfz, hnd⟩ := hW
  have hA : DataW.TrodAll enc Try.prog W 0 (fun _ => true) true Try.f5.params.toList args.toList ds p := hA0
  rw [Try.params5] at hA hval
  obtain ⟨v0, vs0, d0, ds0, p0, q0, hargs, rfl, rfl, h0, r0⟩ := trodAll_cons hA
  obtain ⟨v1, vs1, d1, ds1, p1, q1, rfl, rfl, rfl, h1, r1⟩ := trodAll_cons r0
  obtain ⟨v2, vs2, d2, ds2, p2, q2, rfl, rfl, rfl, h2, r2⟩ := trodAll_cons r1
  obtain ⟨v3, vs3, d3, ds3, p3, q3, rfl, rfl, rfl, h3, r3⟩ := trodAll_cons r2
  obtain ⟨rfl, rfl, rfl⟩ := trodAll_nil r3
  obtain rfl : args = #[v0, v1, v2, v3] := by cases args; simp_all
  obtain ⟨rfl, rfl⟩ := trodVars_none hV
  obtain ⟨a0, len0, cap0, rfl⟩ := okWide_slice Try.underlying22 (hval 0 22 v0 rfl rfl)
  have k0 := h0
  have lt0 : ∀ x ∈ p0, x.block < W.heap.size := by obtain ⟨m, hm⟩ := k0; exact DataW.trod_lt m _ _ _ hm
  obtain ⟨z0, w0⟩ : ∃ zs, IsRow .u8 W a0 len0 cap0 zs := by
    obtain ⟨fuel, hf⟩ := h0
    rcases open_ints Try.underlying22 Try.underlying5 (by kernel_rfl) hf with ⟨hcs, _⟩ | ⟨x, l, c, zs, hcs, _, hl, hm, hz, _, hcell, hwz⟩
    · simp [Value.cells] at hcs
      obtain ⟨rfl, rfl, rfl⟩ := hcs
      exact ⟨[], .inl ⟨rfl, rfl, rfl, rfl⟩⟩
    · simp [Value.cells] at hcs
      obtain ⟨rfl, rfl, rfl⟩ := hcs
      exact ⟨zs, .inr ⟨_, rfl, hl, hm, by simpa using hz, hcell, hwz⟩⟩
  obtain ⟨a1, rfl, rfl, rfl, w1⟩ := open_int Try.underlying30 (hval 1 30 v1 rfl rfl) h1
  obtain ⟨a2, rfl, rfl, rfl, w2⟩ := open_int Try.underlying24 (hval 2 24 v2 rfl rfl) h2
  obtain ⟨a3, rfl, rfl, rfl, w3⟩ := open_int Try.underlying5 (hval 3 5 v3 rfl rfl) h3
  clear hA0 hval0
  refine (walk a0 len0 cap0 z0 a1 a2 a3 W w0 w1 w2 w3).mono fun e W' ⟨he, bel⟩ => ?_
  subst he
  exact ⟨_, rfl, _, _, _, [], _, [], hW', trodAll_mk1 (shut_bool Try.underlying4 _), (trodAll_cons_mk (Below.trod laidOut (by kernel_rfl) (of_decide_eq_true (by kernel_rfl)) k0 bel lt0) (trodAll_cons_mk (shut_int Try.underlying30 w1) (trodAll_cons_mk (shut_int Try.underlying24 w2) (trodAll_cons_mk (shut_int Try.underlying5 w3) trodAll_mk0)))), rfl, bel.frame _, fun h => by cases h⟩

theorem over : Rows.crcTellsRow.holds Try.pinned (OpenSpec.ofChange Rows.crcTellsSpec) :=
  OpenClaim.holds_of_wide 5 Try.f5 rfl rfl rfl rfl rfl rfl rfl ⟨rfl, rfl, rfl, rfl, rfl⟩ rfl rfl rfl rfl rfl (by kernel_rfl) Try.func5 (by kernel_rfl)
    (of_decide_eq_true (by kernel_rfl)) (by unfold Func.isWrapper; first | (rw [if_pos (by decide +kernel)]; kernel_rfl) | (rw [if_neg (by decide +kernel)]; exact ⟨rfl, rfl⟩))
    (fun os started H enc _ => lifted os started H enc)

/-- ████ THE STATEMENT ████ -/
theorem proved : Rows.CrcTellsSaid := over
#print axioms proved
end Go.Proofs.Ytkohgbmmjcpfmaa.crcTells
