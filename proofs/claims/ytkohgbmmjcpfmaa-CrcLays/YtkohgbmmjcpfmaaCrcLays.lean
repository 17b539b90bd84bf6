/-
  Proved here: three texts of one length, laid over one another by exclusive or, have as their sum the three sums, laid likewise (the law CrcLays returns true). Conditions: none.
  The frame of the row's step was written by the guide's program.
-/
import Derived.Test.YtkohgbmmjcpfmaaRows
import Derived.Test.YtkohgbmmjcpfmaaIn
import Derived.WalkKit
import Derived.ProofKit
import Derived.OpenShut
import Derived.ShutString
import Derived.ChangeOld
import Derived.Below
import Derived.StillTailTactics
import Derived.Deep.RegionHeld3
namespace Go.Proofs.Ytkohgbmmjcpfmaa.crcLays
open Go.ChangeShapes Go.WideShapes Go.ChangeAt Go.RowKit
open Go.ChangeMaps (open_string shut_string)
set_option linter.unusedVariables false

theorem own : ownKnob Try.prog.godebug = none := by kernel_rfl
theorem laidOut : laidOutB Try.prog = true := by kernel_rfl

/-- WHAT THE WALK IS TOLD OF A SLICE OF INTEGERS THAT CAME IN: it is nil; or it leads to a row of 'cap' cells, the numbers 'zs' (the first 'len' are its elements, the rest its spare room), each fitting its kind. -/
def IsRow (k : IntKind) (w : World) (a : Option Addr) (len cap : Nat) (zs : List Int) : Prop :=
  (a = none ∧ len = 0 ∧ cap = 0 ∧ zs = []) ∨
  ∃ x, a = some x ∧ len ≤ cap ∧ cap ≤ maxLen ∧ zs.length = cap ∧ (∀ i, i < zs.length → w.cell? (x.add i) = some (.int k (zs.getD i 0))) ∧ ∀ n ∈ zs, (Lit.int k n).wf = true

/-! ### STEP 1: THE WALK: the Go text returns true, AND WRITES NOTHING THAT WAS THERE: 'Below w.heap.size w w'' (Derived/Below.lean: '.refl', '.alloc', '.drew', '.setCell' at a new block, '.trans'). Open each 'IsRow' by 'rcases' AHEAD of 'go_enter'; part every test ahead of the walk. -/
theorem walk (a0 : Option Addr) (len0 cap0 : Nat) (z0 : List Int) (a1 : Option Addr) (len1 cap1 : Nat) (z1 : List Int) (a2 : Option Addr) (len2 cap2 : Nat) (z2 : List Int) (w : World) (w0 : IsRow .u8 w a0 len0 cap0 z0) (w1 : IsRow .u8 w a1 len1 cap1 z1) (w2 : IsRow .u8 w a2 len2 cap2 z2) :
    Calls Try.prog 6 #[.slice a0 len0 cap0, .slice a1 len1 cap1, .slice a2 len2 cap2] w fun e w' => e = .returned (.bool true) ∧ Below w.heap.size w w' := by
  have k0 := Crc.len_le_cap w0
  have k1 := Crc.len_le_cap w1
  have k2 := Crc.len_le_cap w2
  obtain ⟨xa, rfl, hA⟩ := Crc.bytes_of w0
  obtain ⟨xb, rfl, hB⟩ := Crc.bytes_of w1
  obtain ⟨xc, rfl, hC⟩ := Crc.bytes_of w2
  obtain ⟨N, hNa, hNb, hNc, hmin⟩ := Crc.min3 xa.length xb.length xc.length
  by_cases h20 : (2000 : Int) < (N : Int)
  · go_enter Try.func6, Try.ntmps6
    go_wp2_with (go_at_call 7; refine (Crc.answers _).mono ?_; rintro e w' ⟨rfl, hb⟩)
    go_ret
    exact ⟨rfl, hb⟩
  have hmk := Crc.make_u8 N (by omega)
  have HA := Lib.hid hA
  have HB := Lib.hid hB
  have HC := Lib.hid hC
  have HS := Lib.hid (Crc.lay3_start w N xa xb xc)
  clear hA hB hC w0 w1 w2
  go_enter Try.func6, Try.ntmps6
  go_wp2
  go_loopw [9] (fun x wr => ∃ i : Nat, i ≤ N ∧ x = .int .i64 (i : Int) ∧ Hid (∀ j, j < N → wr.cell? ⟨w.heap.size, j, none⟩ = some (.int .u8 ((Crc.lay3 xa xb xc i j : Nat) : Int))) ∧ Hid (∀ j, wr.frozen? ⟨w.heap.size, j, none⟩ = false) ∧ Below w.heap.size w wr) (fun x _ => N - (intOf x).toNat)
  case atStart => exact ⟨0, by omega, rfl, HS.out, fun j => frozen_of_row _ _ j _ 5 (heap_alloc_new _ _), (Below.refl _ w).alloc (Nat.le_refl _) _⟩
  case round =>
    obtain ⟨i, hiN, rfl, HW, HF, hbr⟩ := hrel
    by_cases h8 : (i : Int) < (N : Int)
    · obtain ⟨a, ha⟩ : ∃ a, a = xa.getD i 0 := ⟨_, rfl⟩
      obtain ⟨b, hb⟩ : ∃ b, b = xb.getD i 0 := ⟨_, rfl⟩
      obtain ⟨c, hc⟩ : ∃ c, c = xc.getD i 0 := ⟨_, rfl⟩
      have hal : a < 256 := by rw [ha]; exact Crc.getD_lt HA.out.1 i (by omega)
      have hbl : b < 256 := by rw [hb]; exact Crc.getD_lt HB.out.1 i (by omega)
      have hcl : c < 256 := by rw [hc]; exact Crc.getD_lt HC.out.1 i (by omega)
      obtain ⟨ba, oa, rfl, hca⟩ := (HA.out.behind hbr).at i (by omega)
      obtain ⟨bb, ob, rfl, hcb⟩ := (HB.out.behind hbr).at i (by omega)
      obtain ⟨bc, oc, rfl, hcc⟩ := (HC.out.behind hbr).at i (by omega)
      rw [← ha] at hca
      rw [← hb] at hcb
      rw [← hc] at hcc
      have hg := HW.out i (by omega)
      have hf := HF.out i
      have hx1 := u8_xor_nat a b hal hbl
      have hx2 := u8_xor_nat (a ^^^ b) c (Crc.xor_lt8 hal hbl) hcl
      have HN := Lib.hid (Crc.lay3_step hg ha hb hc HW.out)
      have HN' := Lib.hid HF.out
      clear ha hb hc
      have i0 : (0 : Int) ≤ (i : Int) := by omega
      have i1 : (i : Int) < (xa.length : Int) := by omega
      have i2 : (i : Int) < (xb.length : Int) := by omega
      have i3 : (i : Int) < (xc.length : Int) := by omega
      go_wp2
      go_still_tail 17, (by kernel_rfl)
      change wpList _ _ _ _ _ wr.drew
      go_wp2
      go_roundw
      case rel => exact ⟨i + 1, by omega, by go_num, HN.out, fun j => (World.frozen?_setCell ..).trans (HF.out j), (hbr.setCell (p := ⟨w.heap.size, i, none⟩) (Nat.le_refl _) _).drew⟩
      case measure => simp [intOf]; omega
    · have hiN' : i = N := by omega
      subst hiN'
      obtain ⟨pa, hpa, hpa', ea⟩ := Crc.slice_pre a0 xa.length cap0 i (by omega)
      obtain ⟨pb, hpb, hpb', eb⟩ := Crc.slice_pre a1 xb.length cap1 i (by omega)
      obtain ⟨pc, hpc, hpc', ec⟩ := Crc.slice_pre a2 xc.length cap2 i (by omega)
      have HX := Lib.hid (Crc.laid_bytes hNa hNb hNc HA.out.1 HB.out.1 HC.out.1 HW.out)
      have HLX := Lib.hid (Crc.laid_length hNa hNb hNc)
      have HLA : Hid ((xa.take i).length = i) := by show _ = _; simp; omega
      have HLB : Hid ((xb.take i).length = i) := by show _ = _; simp; omega
      have HLC : Hid ((xc.take i).length = i) := by show _ = _; simp; omega
      have HPA := Lib.hid ((HA.out.behind hbr).pre i ea)
      have HPB := Lib.hid ((HB.out.behind hbr).pre i eb)
      have HPC := Lib.hid ((HC.out.behind hbr).pre i ec)
      have hq1 := u32_xor_nat (Crc.sum (xa.take i)) (Crc.sum (xb.take i)) (Crc.sum_lt _) (Crc.sum_lt _)
      have hq2 := u32_xor_nat (Crc.sum (xa.take i) ^^^ Crc.sum (xb.take i)) (Crc.sum (xc.take i)) (Crc.xor_lt32 (Crc.sum_lt _) (Crc.sum_lt _)) (Crc.sum_lt _)
      have hq3 : (((Crc.sum (Crc.laid xa xb xc i) : Nat) : Int) == ((Crc.sum (xa.take i) ^^^ Crc.sum (xb.take i) ^^^ Crc.sum (xc.take i) : Nat) : Int)) = true := by
        rw [Crc.laid_sum hNa hNb hNc HA.out.1 HB.out.1 HC.out.1]; exact beq_self_eq_true _
      clear ea eb ec
      go_wp2
      go_region_held3 (fun _ => True) (exact trivial)
        (first
          | (go_at_call 7; refine (Crc.answers _).mono ?_; rintro e w3 ⟨rfl, hb3⟩)
          | (go_at_call 8; refine (Crc.sumLen pc i cap2 (xc.take i) HLC.out (by rw [HLC.out]; omega) w6 ((((HPC.out.drew.behind hb3).behind hb4).behind hb5).behind hb6)).mono ?_; rintro e w7 ⟨rfl, hb7⟩)
          | (go_at_call 8; refine (Crc.sumLen pb i cap1 (xb.take i) HLB.out (by rw [HLB.out]; omega) w5 (((HPB.out.drew.behind hb3).behind hb4).behind hb5)).mono ?_; rintro e w6 ⟨rfl, hb6⟩)
          | (go_at_call 8; refine (Crc.sumLen pa i cap0 (xa.take i) HLA.out (by rw [HLA.out]; omega) w4 ((HPA.out.drew.behind hb3).behind hb4)).mono ?_; rintro e w5 ⟨rfl, hb5⟩)
          | (go_at_call 8; refine (Crc.sumLen (some ⟨w.heap.size, 0, none⟩) i i (Crc.laid xa xb xc i) HLX.out (by rw [HLX.out]; omega) w3 (HX.out.drew.behind hb3)).mono ?_; rintro e w4 ⟨rfl, hb4⟩))
      go_wp2
      go_ret
      have q0 : w.heap.size ≤ wr.drew.heap.size := hbr.size
      have q3 := Nat.le_trans q0 hb3.size
      have q4 := Nat.le_trans q3 hb4.size
      have q5 := Nat.le_trans q4 hb5.size
      have q6 := Nat.le_trans q5 hb6.size
      exact ⟨rfl, ((((hbr.drew.trans (hb3.mono q0)).trans (hb4.mono q3)).trans (hb5.mono q4)).trans (hb6.mono q5)).trans (hb7.mono q6)⟩

/-! ### THE ROW's STEP: WRITTEN OUT: LEAVE IT -/
set_option maxRecDepth 100000 in
theorem lifted (os : Os) (started : os.Started) (H : Type) (enc : TypeId × Value → H) :
    ReturnsInHanded {} Try.checked os 6 .any (Rows.crcLaysSpec.pre6 enc Try.prog Try.f6 Rows.crcLaysRow.domain false) (Rows.crcLaysSpec.post enc Try.prog Try.f6 false true false false) := by
  refine returnsInHanded_of_change (C := Try.checked) own started (by kernel_rfl) Try.func6
    (ChangeSpec.witness6 (enc := enc) (C := Try.checked) false ⟨#[], #[.slice none 0 0, .slice none 0 0, .slice none 0 0], []⟩ 8 (by kernel_rfl) (by kernel_rfl) (by kernel_rfl) (by kernel_rfl)) ?_
  intro W base args ds gs before hval0 hW hcnd _
  have hval : ∀ (j : Nat) t v, Try.f6.params[j]? = some t → args[j]? = some v → Value.okWide Try.prog W .any base t v := hval0
  have hW' := hW
  obtain ⟨p, q, hA0, hV, rfl, hfz, hnd⟩ := hW
  have hA : DataW.TrodAll enc Try.prog W 0 (fun _ => true) true Try.f6.params.toList args.toList ds p := hA0
  rw [Try.params6] at hA hval
  obtain ⟨v0, vs0, d0, ds0, p0, q0, hargs, rfl, rfl, h0, r0⟩ := trodAll_cons hA
  obtain ⟨v1, vs1, d1, ds1, p1, q1, rfl, rfl, rfl, h1, r1⟩ := trodAll_cons r0
  obtain ⟨v2, vs2, d2, ds2, p2, q2, rfl, rfl, rfl, h2, r2⟩ := trodAll_cons r1
  obtain ⟨rfl, rfl, rfl⟩ := trodAll_nil r2
  obtain rfl : args = #[v0, v1, v2] := by cases args; simp_all
  obtain ⟨rfl, rfl⟩ := trodVars_none hV
  obtain ⟨a0, len0, cap0, rfl⟩ := okWide_slice Try.underlying22 (hval 0 22 v0 rfl rfl)
  have k0 := h0
  have lt0 : ∀ x ∈ p0, x.block < W.heap.size := by obtain ⟨m, hm⟩ := k0; exact DataW.trod_lt m _ _ _ hm
  obtain ⟨z0, w0⟩ : ∃ zs, IsRow .u8 W a0 len0 cap0 zs := by
    obtain ⟨fuel, hf⟩ := h0
    rcases open_ints Try.underlying22 Try.underlying5 (by kernel_rfl) hf with ⟨hcs, _⟩ | ⟨x, l, c, zs, hcs, _, hl, hm, hz, _, hcell, hwz⟩
    · simp [Value.cells] at hcs
      obtain ⟨rfl, rfl, rfl⟩ := hcs
      exact ⟨[], .inl ⟨rfl, rfl, rfl, rfl⟩⟩
    · simp [Value.cells] at hcs
      obtain ⟨rfl, rfl, rfl⟩ := hcs
      exact ⟨zs, .inr ⟨_, rfl, hl, hm, by simpa using hz, hcell, hwz⟩⟩
  obtain ⟨a1, len1, cap1, rfl⟩ := okWide_slice Try.underlying22 (hval 1 22 v1 rfl rfl)
  have k1 := h1
  have lt1 : ∀ x ∈ p1, x.block < W.heap.size := by obtain ⟨m, hm⟩ := k1; exact DataW.trod_lt m _ _ _ hm
  obtain ⟨z1, w1⟩ : ∃ zs, IsRow .u8 W a1 len1 cap1 zs := by
    obtain ⟨fuel, hf⟩ := h1
    rcases open_ints Try.underlying22 Try.underlying5 (by kernel_rfl) hf with ⟨hcs, _⟩ | ⟨x, l, c, zs, hcs, _, hl, hm, hz, _, hcell, hwz⟩
    · simp [Value.cells] at hcs
      obtain ⟨rfl, rfl, rfl⟩ := hcs
      exact ⟨[], .inl ⟨rfl, rfl, rfl, rfl⟩⟩
    · simp [Value.cells] at hcs
      obtain ⟨rfl, rfl, rfl⟩ := hcs
      exact ⟨zs, .inr ⟨_, rfl, hl, hm, by simpa using hz, hcell, hwz⟩⟩
  obtain ⟨a2, len2, cap2, rfl⟩ := okWide_slice Try.underlying22 (hval 2 22 v2 rfl rfl)
  have k2 := h2
  have lt2 : ∀ x ∈ p2, x.block < W.heap.size := by obtain ⟨m, hm⟩ := k2; exact DataW.trod_lt m _ _ _ hm
  obtain ⟨z2, w2⟩ : ∃ zs, IsRow .u8 W a2 len2 cap2 zs := by
    obtain ⟨fuel, hf⟩ := h2
    rcases open_ints Try.underlying22 Try.underlying5 (by kernel_rfl) hf with ⟨hcs, _⟩ | ⟨x, l, c, zs, hcs, _, hl, hm, hz, _, hcell, hwz⟩
    · simp [Value.cells] at hcs
      obtain ⟨rfl, rfl, rfl⟩ := hcs
      exact ⟨[], .inl ⟨rfl, rfl, rfl, rfl⟩⟩
    · simp [Value.cells] at hcs
      obtain ⟨rfl, rfl, rfl⟩ := hcs
      exact ⟨zs, .inr ⟨_, rfl, hl, hm, by simpa using hz, hcell, hwz⟩⟩
  clear hA0 hval0
  refine (walk a0 len0 cap0 z0 a1 len1 cap1 z1 a2 len2 cap2 z2 W w0 w1 w2).mono fun e W' ⟨he, bel⟩ => ?_
  subst he
  exact ⟨_, rfl, _, _, _, [], _, [], hW', trodAll_mk1 (shut_bool Try.underlying4 _), (trodAll_cons_mk (Below.trod laidOut (by kernel_rfl) (of_decide_eq_true (by kernel_rfl)) k0 bel lt0) (trodAll_cons_mk (Below.trod laidOut (by kernel_rfl) (of_decide_eq_true (by kernel_rfl)) k1 bel lt1) (trodAll_cons_mk (Below.trod laidOut (by kernel_rfl) (of_decide_eq_true (by kernel_rfl)) k2 bel lt2) trodAll_mk0))), rfl, bel.frame _, fun h => by cases h⟩

theorem over : Rows.crcLaysRow.holds Try.pinned (OpenSpec.ofChange Rows.crcLaysSpec) :=
  OpenClaim.holds_of_wide 6 Try.f6 rfl rfl rfl rfl rfl rfl rfl ⟨rfl, rfl, rfl, rfl, rfl⟩ rfl rfl rfl rfl rfl (by kernel_rfl) Try.func6 (by kernel_rfl)
    (of_decide_eq_true (by kernel_rfl)) (by unfold Func.isWrapper; first | (rw [if_pos (by decide +kernel)]; kernel_rfl) | (rw [if_neg (by decide +kernel)]; exact ⟨rfl, rfl⟩))
    (fun os started H enc _ => lifted os started H enc)

/-- ████ THE STATEMENT ████ -/
theorem proved : Rows.CrcLaysSaid := over
#print axioms proved
end Go.Proofs.Ytkohgbmmjcpfmaa.crcLays
