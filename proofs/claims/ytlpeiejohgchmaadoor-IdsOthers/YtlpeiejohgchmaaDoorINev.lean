/-
  Stage 13, plain: what Next makes of the disk, and what any crash may leave. Nothing of the program is imported but fs's plain words.
-/
import Derived.Test.YtlpeiejohgchmaaDoorIMath
namespace Go.Proofs.YtlpeiejohgchmaaDoor.Fs
set_option linter.unusedVariables false
set_option linter.unusedSimpArgs false

/-! ### What a crash may leave -/
/-- P holds of each directory that a crash may leave. -/
def All (s : St) (P : Dir → Prop) : Prop := ∀ k, P ((s.loose.take k).foldl app s.sure)
section
variable {s : St} {P Q : Dir → Prop} {a : Nm}
theorem All.mono (h : All s P) (hP : ∀ d, P d → Q d) : All s Q := fun k => hP _ (h k)
theorem All.now (h : All s P) : P s.now := by have := h s.loose.length; rwa [List.take_length] at this
theorem All.same {t : St} (h : All s P) (h1 : t.sure = s.sure) (h2 : t.loose = s.loose) : All t P := fun k => by rw [h1, h2]; exact h k
theorem burn_sure (s : St) : (burnS s).sure = s.sure := by unfold burnS; split <;> rfl
theorem burn_loose (s : St) : (burnS s).loose = s.loose := by unfold burnS; split <;> rfl
theorem burn_files' (s : St) : (burnS s).files = s.files := by unfold burnS; split <;> rfl
theorem burn_now (s : St) : (burnS s).now = s.now := by unfold St.now; rw [burn_sure, burn_loose]
theorem burn_down {s : St} (h : burnE s = 0) : (burnS s).down = s.down := by
  unfold burnE at h
  unfold burnS
  split
  · rfl
  · rename_i h0; rw [h0] at h; simp at h
  · rfl
theorem burn_gone {s : St} (h : burnE s ≠ 0) : (burnS s).down = true ∧ burnE s = 2 := by
  unfold burnE at h ⊢
  split at h
  · rename_i h0; simp [burnS, h0]
  · exact absurd rfl h
theorem All.burn (h : All s P) : All (burnS s) P := h.same (burn_sure s) (burn_loose s)
theorem All.chg {c : Chg} (h : All s P) (hc : burnE s = 0 → P (app s.now c)) : All (chgS s c) P := by
  unfold chgS
  split
  · rename_i h0
    intro k
    show P (((s.loose ++ [c]).take k).foldl app (burnS s).sure)
    rw [burn_sure]
    by_cases hk : k ≤ s.loose.length
    · rw [List.take_append_of_le_length hk]; exact h k
    · rw [List.take_of_length_le (by simp; omega), List.foldl_append]
      exact hc h0
  · exact h.burn
theorem chg_now {c : Chg} (h0 : burnE s = 0) : (chgS s c).now = app s.now c := by
  unfold chgS
  rw [if_pos h0]
  show (s.loose ++ [c]).foldl app (burnS s).sure = _
  rw [burn_sure, List.foldl_append]
  rfl
theorem more_all (h : All s P) (fs : List File) : All { s with files := fs } P := h.same rfl rfl
theorem burnE_more (s : St) (fs : List File) : burnE { s with files := fs } = burnE s := rfl
/-- Create. -/
theorem create_ok {s : St} {a : Nm} (h : createE s a = 0) : readyE s [a] = 0 ∧ get s.now a = none ∧ s.now.length < 256 ∧ burnE s = 0 := by
  unfold createE at h
  split at h
  · rename_i h0; exact absurd h h0
  · rename_i h0
    split at h
    · cases h
    · rename_i h1
      split at h
      · cases h
      · rename_i h2
        exact ⟨Decidable.byContradiction h0, by simpa using h1, by omega, h⟩
theorem createS_ok {s : St} {a : Nm} (h : createE s a = 0) : createS s a = chgS { s with files := s.files ++ [⟨[], 0⟩] } (.mk a s.files.length) := by
  obtain ⟨h0, h1, h2, h3⟩ := create_ok h
  unfold createS
  rw [if_neg (by simp [h0]), if_neg (by simp [h1]), if_neg (by omega), if_pos h3]
theorem createS_no {s : St} {a : Nm} (h : createE s a ≠ 0) : createS s a = s ∨ (createS s a = burnS s ∧ burnE s ≠ 0) := by
  unfold createS
  unfold createE at h
  split
  · exact .inl rfl
  · rename_i h0
    rw [if_neg h0] at h
    split
    · exact .inl rfl
    · rename_i h1
      rw [if_neg h1] at h
      split
      · exact .inl rfl
      · rename_i h2
        rw [if_neg h2] at h
        rw [if_neg h]
        exact .inr ⟨rfl, h⟩
theorem All.create (h : All s P) (hc : createE s a = 0 → P (put s.now a s.files.length)) : All (createS s a) P := by
  by_cases h0 : createE s a = 0
  · rw [createS_ok h0]
    exact (more_all h _).chg (fun _ => hc h0)
  · rcases createS_no h0 with e | ⟨e, _⟩ <;> rw [e]
    · exact h
    · exact h.burn
theorem create_now (h0 : createE s a = 0) : (createS s a).now = put s.now a s.files.length := by
  rw [createS_ok h0]
  exact (chg_now (s := { s with files := s.files ++ [⟨[], 0⟩] }) (c := .mk a s.files.length) ((create_ok h0).2.2.2)).trans rfl
/-- DirSync. -/
theorem sync_ok {s : St} (h : dirSyncE s = 0) : s.down = false ∧ burnE s = 0 ∧ dirSyncS s = settleS (burnS s) s.loose.length := by
  unfold dirSyncE at h
  split at h
  · cases h
  · rename_i h0
    refine ⟨by simpa using h0, h, ?_⟩
    unfold dirSyncS
    rw [if_neg h0, if_pos h]
theorem sync_now {s : St} (h : dirSyncE s = 0) : (dirSyncS s).now = s.now ∧ (dirSyncS s).loose = [] ∧ (dirSyncS s).sure = s.now ∧ (dirSyncS s).down = false ∧ (dirSyncS s).files = s.files := by
  obtain ⟨h1, h2, h3⟩ := sync_ok h
  rw [h3]
  have e : (settleS (burnS s) s.loose.length).sure = s.now := by
    show ((burnS s).loose.take s.loose.length).foldl app (burnS s).sure = _
    rw [burn_sure, burn_loose, List.take_length]
    rfl
  refine ⟨e, rfl, e, ?_, burn_files' s⟩
  show (burnS s).down = false
  rw [burn_down h2, h1]
theorem All.sync (h0 : dirSyncE s = 0) (h : P s.now) : All (dirSyncS s) P := fun k => by
  obtain ⟨_, e1, e2, _⟩ := sync_now h0
  rw [e1, e2]
  simpa using h
theorem sync_no {s : St} (h : dirSyncE s ≠ 0) (hd : s.down = false) : dirSyncS s = burnS s ∧ burnE s ≠ 0 ∧ dirSyncE s = 2 := by
  have hd' : ¬ s.down = true := by simp [hd]
  unfold dirSyncE at h ⊢
  unfold dirSyncS
  rw [if_neg hd'] at h
  rw [if_neg hd', if_neg h, if_neg hd']
  exact ⟨rfl, h, (burn_gone h).2⟩
/-- Unlink. -/
theorem unlink_no {s : St} (hf : findE s a = 0) (h : unlinkE s a ≠ 0) : unlinkS s a = burnS s ∧ burnE s ≠ 0 ∧ unlinkE s a = 2 := by
  have hf' : ¬ findE s a ≠ 0 := by simp [hf]
  unfold unlinkE at h ⊢
  unfold unlinkS
  rw [if_neg hf'] at h
  rw [if_neg hf', if_neg hf']
  unfold chgS
  rw [if_neg h]
  exact ⟨rfl, h, (burn_gone h).2⟩
theorem unlink_ok {s : St} (h : unlinkE s a = 0) : findE s a = 0 ∧ burnE s = 0 ∧ unlinkS s a = chgS s (.unl a) := by
  unfold unlinkE at h
  split at h
  · rename_i h0; exact absurd h h0
  · rename_i h0
    unfold unlinkS
    rw [if_neg h0]
    exact ⟨Decidable.byContradiction h0, h, rfl⟩
theorem unlink_now (h : unlinkE s a = 0) : (unlinkS s a).now = del s.now a := by
  obtain ⟨_, h1, e⟩ := unlink_ok h
  rw [e, chg_now h1]
  rfl
/-- Crash. -/
theorem crash_all (a b : Int) (h : All s P) : P (crashS s a b).now ∧ (crashS s a b).loose = [] ∧ (crashS s a b).down = false ∧ (crashS s a b).fuse = none ∧ (crashS s a b).sure = (crashS s a b).now :=
  ⟨h _, rfl, rfl, rfl, rfl⟩
theorem all_rest (hl : s.loose = []) (h : P s.now) : All s P := fun k => by
  have e : s.now = s.sure := by unfold St.now; rw [hl]; rfl
  rw [hl]
  rw [e] at h
  simpa using h
end
end Go.Proofs.YtlpeiejohgchmaaDoor.Fs
