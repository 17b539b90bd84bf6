/-
  How much a call adds to a disk; bytes as strings in whatever world.
-/
import Derived.Test.YtgjkocjgkbjciaaMor2
namespace Go.Proofs.Ytgjkocjgkbjciaa.Fs
open Go.RowKit
set_option linter.unusedVariables false

theorem bulk_chg (s : St) (c : Chg) : (chgS s c).bulk ≤ s.bulk + 1 := by
  unfold chgS
  split
  · show (burnS s).files.length + (burnS s).sure.length + (s.loose ++ [c]).length ≤ s.bulk + 1
    rw [burn_files, burn_sure]
    unfold St.bulk
    simp
    omega
  · rw [burn_bulk]
    omega
theorem bulk_create (s : St) (a : Nm) : (createS s a).bulk ≤ s.bulk + 2 := by
  unfold createS
  split
  · omega
  · split
    · omega
    · split
      · omega
      · split
        · have h1 := bulk_chg { s with files := s.files ++ [⟨[], 0⟩] } (.mk a s.files.length)
          have h2 : St.bulk { s with files := s.files ++ [⟨[], 0⟩] } = s.bulk + 1 := by
            unfold St.bulk
            simp
            omega
          omega
        · rw [burn_bulk]; omega
theorem bulk_set (s : St) (i : Nat) (x : File) : (setFile s i x).bulk = s.bulk := by
  unfold setFile St.bulk
  simp
theorem bulk_append (s : St) (a : Nm) (bs : List Nat) : (appendS s a bs).bulk = s.bulk := by
  unfold appendS
  split
  · rfl
  · split
    · rfl
    · split
      · rw [bulk_set, burn_bulk]
      · exact burn_bulk s
theorem bulk_sync (s : St) (a : Nm) : (syncS s a).bulk = s.bulk := by
  unfold syncS
  split
  · rfl
  · split
    · rw [bulk_set, burn_bulk]
    · exact burn_bulk s
theorem bulk_rename (s : St) (a b : Nm) : (renameS s a b).bulk ≤ s.bulk + 1 := by
  unfold renameS
  split
  · omega
  · split
    · split
      · rw [burn_bulk]; omega
      · exact bulk_chg _ _
    · omega
theorem bulk_unlink (s : St) (a : Nm) : (unlinkS s a).bulk ≤ s.bulk + 1 := by
  unfold unlinkS
  split
  · omega
  · exact bulk_chg _ _
theorem bulk_dirSync (s : St) : (dirSyncS s).bulk ≤ s.bulk := by
  unfold dirSyncS
  split
  · omega
  · split
    · have h1 := length_apps_le (burnS s).loose (burnS s).sure
      show (burnS s).files.length + (((burnS s).loose.take s.loose.length).foldl app (burnS s).sure).length + 0 ≤ s.bulk
      rw [burn_loose, List.take_length, burn_files, burn_sure]
      rw [burn_loose, burn_sure] at h1
      unfold St.bulk
      omega
    · rw [burn_bulk]; omega

/-! ### Bytes as strings -/
set_option maxRecDepth 100000 in
theorem conv_own {w w' : World} {y : Option Addr} {n c : Nat} {bs : List Nat} (h : Own w (.slice y n c) bs) (k : Keep (fun _ => False) w w') : (convert 32 9 (.slice y n c)).run Try.prog w' = .ok (.string (str bs)) w' := by
  obtain ⟨x, cap, e, hB⟩ := h.shape
  injection e with e1 e2 e3
  subst e1 e3
  exact run_str (hB.quiet k) n c e2.symm
set_option maxRecDepth 100000 in
theorem conv_arg {B : Nat} {w w' : World} {x : Option Addr} {n c : Nat} {bs : List Nat} (h : Bytes (fun k => k < B) w x bs) (hn : bs.length = n) (hb : Below B w w') : (convert 32 9 (.slice x n c)).run Try.prog w' = .ok (.string (str bs)) w' :=
  run_str (h.below hb) n c hn

end Go.Proofs.Ytgjkocjgkbjciaa.Fs
