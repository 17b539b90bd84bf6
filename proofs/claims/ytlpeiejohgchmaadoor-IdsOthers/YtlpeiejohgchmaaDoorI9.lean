/-
  Stage 13: the document's digits.
-/
import Derived.Test.YtlpeiejohgchmaaDoorI3
namespace Go.Proofs.YtlpeiejohgchmaaDoor.Fs
open Go.RowKit Go.Shelf Go.Maps
set_option linter.unusedVariables false
set_option linter.unusedSimpArgs false

/-- The last i digits of N. -/
def sufD (N i : Nat) : Nm := (List.range i).reverse.map (digAt N)
theorem sufD_succ (N i : Nat) : sufD N (i + 1) = digAt N i :: sufD N i := by
  simp [sufD, List.range_succ]
theorem sufD_nine (N : Nat) : sufD N 9 = dig9 N := rfl
set_option maxRecDepth 100000 in
set_option maxHeartbeats 4000000 in
theorem digitsC : DigitsC := by
  intro N w hN
  go_enter Tryd.func10, Tryd.ntmps10
  go_wp2
  go_loopw [0, 3, 4] (fun nn ss ii wr => ∃ i : Nat, i ≤ 9 ∧ nn = .int .i64 ((N / 10 ^ i : Nat) : Int) ∧ ss = .string ⟨(sufD N i).toArray⟩ ∧ ii = .int .i64 (i : Int) ∧ Hid (Keep (fun _ => False) w wr)) (fun _ _ ii _ => 300 - (intOf ii).toNat)
  case atStart => exact ⟨0, by omega, by simp, rfl, rfl, Lib.hid (Keep.refl _ _)⟩
  case round =>
    obtain ⟨i, hi, rfl, rfl, rfl, HK⟩ := hrel
    by_cases hlt : (i : Int) < 9
    · obtain ⟨q, hq⟩ : ∃ q, q = N / 10 ^ i := ⟨_, rfl⟩
      rw [← hq]
      have hq9 : q ≤ 999999999 := by rw [hq]; exact Nat.le_trans (Nat.div_le_self _ _) hN
      have HQ := Lib.hid hq
      clear hq
      obtain ⟨d, hd⟩ : ∃ d : Nat, d = 48 + q % 10 := ⟨_, rfl⟩
      have hdi : (48 : Int) + (q : Int) % 10 = (d : Int) := by omega
      have hd2 : d < 256 := by omega
      have HD := Lib.hid hd
      have hB : Bytes (· = wr.heap.size) (wr.alloc (.cells (cellsOf [d]).toArray 5)) (some ⟨wr.heap.size, 0, none⟩) [d] := Bytes.of_at (At.new wr 5 _) (by simp; omega)
      have hcv : (convert 25 9 (.slice (some ⟨wr.heap.size, 0, none⟩) 1 1)).run Tryd.prog (wr.alloc (.cells #[.int .u8 (d : Int)] 5)) = .ok (.string (str [d])) (wr.alloc (.cells #[.int .u8 (d : Int)] 5)) := run_str hB 1 1 rfl
      clear hB hd hd2
      have hs : str [d] ++ ({ data := (sufD N i).toArray } : ByteArray) = { data := (sufD N (i + 1)).toArray } := by
        apply ByteArray.ext
        rw [ByteArray.data_append, sufD_succ]
        show (#[UInt8.ofNat ((d : Nat) : Int).toNat] : Array UInt8) ++ (sufD N i).toArray = _
        have hd' : UInt8.ofNat ((d : Nat) : Int).toNat = digAt N i := by
          rw [Int.toNat_natCast, HD.out, HQ.out]
          rfl
        rw [hd']
        simp
      have HS := Lib.hid hs
      have hq10 : q / 10 = N / 10 ^ (i + 1) := by rw [HQ.out, Nat.pow_succ, Nat.div_div_eq_div_mul]
      have HQ10 := Lib.hid hq10
      clear hs hq10
      have hz1 : (str [d]).size = 1 := strOfNums_size _
      have hz2 : ({ data := (sufD N i).toArray } : ByteArray).size = i := by simp [ByteArray.size, sufD]
      go_wp2
      go_roundw
      case rel => exact ⟨i + 1, by omega, by rw [← HQ10.out]; go_num, by rw [HS.out], by go_num, Lib.hid (HK.out.alloc _)⟩
      case measure => simp [intOf]; omega
    · have h9 : i = 9 := by omega
      subst h9
      go_wp2
      go_ret
      exact ⟨rfl, HK.out⟩
end Go.Proofs.YtlpeiejohgchmaaDoor.Fs
