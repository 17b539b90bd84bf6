/-
  Stage 13, plain: where the power lasts; names that a directory gets one by one; Open anew without a crash.
-/
import Derived.Test.YtlpeiejohgchmaaDoorINex
namespace Go.Proofs.YtlpeiejohgchmaaDoor.Fs
set_option linter.unusedVariables false
set_option linter.unusedSimpArgs false
section
variable {s : St} {x : Ix} {i c : Nat}
theorem burn_free (hf : s.fuse = none) : burnE s = 0 ∧ burnS s = s := by
  unfold burnE burnS
  rw [hf]
  exact ⟨rfl, rfl⟩
theorem chg_fuse {c : Chg} (hf : s.fuse = none) : (chgS s c).fuse = none := by
  unfold chgS
  rw [if_pos (burn_free hf).1, (burn_free hf).2]
  exact hf
theorem create_free {a : Nm} (hf : s.fuse = none) : (createS s a).fuse = none ∧ (createS s a).down = s.down := by
  by_cases h : createE s a = 0
  · rw [createS_ok h]
    exact ⟨chg_fuse (s := { s with files := s.files ++ [⟨[], 0⟩] }) hf, chg_down (s := { s with files := s.files ++ [⟨[], 0⟩] }) (create_ok h).2.2.2⟩
  · rcases createS_no h with e | ⟨e, h'⟩
    · rw [e]; exact ⟨hf, rfl⟩
    · exact absurd (burn_free hf).1 h'
theorem raise_free (hd : s.down = false) (hf : s.fuse = none) (hn : s.now.length < 256) (hg : get s.now (nameN (upN x)) = none)
    (hh : x.has = true → nameN x.most ≠ nameN (upN x) ∧ ∃ j, get s.now (nameN x.most) = some j) : raiseE s x = 0 ∧ (raiseS s x).fuse = none := by
  have h1 : createE s (nameN (upN x)) = 0 := by
    unfold createE
    rw [if_neg (by simp [ready_name hd]), if_neg (by simp [hg]), if_neg (by omega)]
    exact (burn_free hf).1
  have h1' : ¬ createE s (nameN (upN x)) ≠ 0 := by simp [h1]
  have f1 : (r1 s x).fuse = none := (create_free hf).1
  have d1 : (r1 s x).down = false := (create_free hf).2.trans hd
  have n1 : (r1 s x).now = put s.now (nameN (upN x)) s.files.length := create_now h1
  have h2 : dirSyncE (r1 s x) = 0 := by
    unfold dirSyncE
    rw [if_neg (by simp [d1])]
    exact (burn_free f1).1
  have h2' : ¬ dirSyncE (r1 s x) ≠ 0 := by simp [h2]
  obtain ⟨n2, l2, _, d2, _⟩ := sync_now h2
  have f2 : (r2 s x).fuse = none := by
    rw [r2, (sync_ok h2).2.2, (burn_free f1).2]
    exact f1
  unfold raiseE raiseS
  rw [if_neg h1', if_neg h1', if_neg h2', if_neg h2']
  cases hx : x.has with
  | false =>
    rw [if_neg (by simp : ¬ (false = true)), if_neg (by simp : ¬ (false = true))]
    exact ⟨rfl, f2⟩
  | true =>
    rw [if_pos (rfl : true = true), if_pos (rfl : true = true)]
    obtain ⟨hne, j, hj⟩ := hh hx
    have hf3 : findE (r2 s x) (nameN x.most) = 0 := by
      unfold findE
      rw [if_neg (by simp [ready_name (show (r2 s x).down = false from d2)]), if_pos (by rw [r2, n2, n1, get_put_other _ _ hne, hj]; rfl)]
    have h3 : unlinkE (r2 s x) (nameN x.most) = 0 := by
      unfold unlinkE
      rw [if_neg (by simp [hf3])]
      exact (burn_free f2).1
    refine ⟨h3, ?_⟩
    rw [(unlink_ok h3).2.2]
    exact chg_fuse f2
/-- Between two Nexts without a fuse. -/
theorem next_free (hi : i ≤ 200) (hc : 16 * c + 16 ≤ topN) (h : Inv i c s x) (hf : s.fuse = none) :
    nextE s x = 0 ∧ nextN s x = x.last + 1 ∧ Inv i (c + 1) (nextS s x) (nextX s x) ∧ (nextS s x).fuse = none ∧ nextX s x = if x.most ≤ x.last then ⟨x.last + 1, upN x, true⟩ else ⟨x.last + 1, x.most, x.has⟩ := by
  have hl : ¬ topN ≤ x.last := by have := h.le; have := h.cap; omega
  have hcap := h.cap
  have hle := h.le
  have hR : x.most ≤ x.last → raiseE s x = 0 ∧ (raiseS s x).fuse = none := fun hx => by
    have hm : upN x = x.most + 16 := by unfold upN; omega
    have hN := h.views.now.1
    refine raise_free h.up hf (by have := h.now; omega) (hN.get (by omega) (by omega)) fun e => ⟨fun e' => ?_, h.has e⟩
    have := nameN_inj (n := x.most) (m := upN x) (by unfold topN at hc; omega) (by unfold topN at hc; omega) e'
    omega
  rcases next_inv hi hc h with ⟨e, hn, _, hI⟩ | ⟨e, _⟩
  · refine ⟨e, hn, hI, ?_, ?_⟩
    · unfold nextS
      rw [if_neg (by simp [h.up]), if_neg hl]
      split
      · rename_i hx; exact (hR hx).2
      · exact hf
    · unfold nextX
      rw [if_neg (by simp [e])]
  · exfalso
    unfold nextE at e
    rw [if_neg (by simp [h.up]), if_neg hl] at e
    split at e
    · rename_i hx; rw [(hR hx).1] at e; cases e
    · cases e
theorem Inv.one (h : Inv 0 c s x) (hx : x.has = true) : s.now.length = 1 := by
  obtain ⟨j, hj⟩ := h.has hx
  have h1 := List.length_pos_of_mem (get_mem hj)
  have h2 := h.now
  omega
/-- Open anew, without a crash. -/
theorem Inv.again (h : Inv i c s x) (ht : 16 * c ≤ topN) : openX s = ⟨x.most, x.most, x.has⟩ ∧ Inv i c s (openX s) := by
  have hm : mostD s.now = x.most := h.views.now.2.1
  have hh : (!(numsD s.now).isEmpty) = x.has := by
    cases e : x.has with
    | false => rw [h.none e]; rfl
    | true =>
      obtain ⟨j, hj⟩ := h.has e
      have : x.most ∈ numsD s.now := mem_nums.2 ⟨_, get_mem hj, numN_name (by have := h.cap; unfold topN at ht; omega)⟩
      cases hn : numsD s.now with
      | nil => rw [hn] at this; cases this
      | cons _ _ => rfl
  have e : openX s = ⟨x.most, x.most, x.has⟩ := by unfold openX; rw [hm, hh]
  rw [e]
  exact ⟨rfl, h.up, Nat.le_refl _, h.cap, h.views, h.now, h.has, h.none, h.files, h.loose⟩
end
/-! ### Other names -/
theorem most_put {d : Dir} {a : Nm} {j : Nat} (h : get d a = none) : mostD (put d a j) = max (mostD d) ((numN a).getD 0) := by
  have hne := get_none.1 h
  apply Nat.le_antisymm
  · rcases most_mem (d := put d a j) with e | hm
    · omega
    · obtain ⟨p, hp, hn⟩ := mem_nums.1 hm
      rcases mem_put.1 hp with rfl | ⟨hp, _⟩
      · rw [hn]; exact Nat.le_max_right _ _
      · exact Nat.le_trans (most_ge (mem_nums.2 ⟨p, hp, hn⟩)) (Nat.le_max_left _ _)
  · apply Nat.max_le.2
    constructor
    · rcases most_mem (d := d) with e | hm
      · omega
      · obtain ⟨p, hp, hn⟩ := mem_nums.1 hm
        exact most_ge (mem_nums.2 ⟨p, mem_put.2 (.inr ⟨hp, hne p hp⟩), hn⟩)
    · cases hn : numN a with
      | none => exact Nat.zero_le _
      | some n => exact most_ge (mem_nums.2 ⟨(a, j), mem_put.2 (.inl rfl), hn⟩)
theorem numN_le (a : Nm) : (numN a).getD 0 ≤ topN := by
  cases h : numN a with
  | none => exact Nat.zero_le _
  | some n => exact (numN_some h).2
theorem most_le (d : Dir) : mostD d ≤ topN := by
  rcases most_mem (d := d) with e | hm
  · omega
  · obtain ⟨p, hp, hn⟩ := mem_nums.1 hm
    exact (numN_some hn).2
/-- Next behind Open, on a disk of whatever names that is up and not full. -/
theorem next_open {s : St} (hd : s.down = false) (hf : s.fuse = none) (hn : s.now.length < 256) :
    nextE s (openX s) = (if mostD s.now = topN then 3 else 0) ∧ nextN s (openX s) = (if mostD s.now = topN then 0 else mostD s.now + 1) := by
  have hle := most_le s.now
  have hE : nextE s (openX s) = (if mostD s.now = topN then 3 else 0) := by
    unfold nextE
    rw [if_neg (by simp [hd])]
    by_cases h : mostD s.now = topN
    · rw [if_pos h, if_pos (by show topN ≤ mostD s.now; omega)]
    · rw [if_neg h, if_neg (by show ¬ topN ≤ mostD s.now; omega), if_pos (by show mostD s.now ≤ mostD s.now; omega)]
      have hm : mostD s.now < upN (openX s) ∧ upN (openX s) ≤ topN := by
        show mostD s.now < min (mostD s.now + 16) topN ∧ min (mostD s.now + 16) topN ≤ topN
        omega
      refine (raise_free hd hf hn ?_ fun e => ⟨fun e' => ?_, ?_⟩).1
      · refine get_none.2 fun p hp e => ?_
        have := most_ge (d := s.now) (n := upN (openX s)) (mem_nums.2 ⟨p, hp, by rw [e]; exact numN_name (by have := hm.2; unfold topN at this; omega)⟩)
        omega
      · have := nameN_inj (n := mostD s.now) (m := upN (openX s)) (by unfold topN at hle; omega) (by have := hm.2; unfold topN at this; omega) e'
        omega
      · have hne : numsD s.now ≠ [] := by
          intro e'
          simp [openX, e'] at e
        have hmem : mostD s.now ∈ numsD s.now := by
          rcases most_mem (d := s.now) with e0 | hm
          · obtain ⟨m, hm⟩ := List.exists_mem_of_ne_nil _ hne
            have : m = 0 := by have := most_ge hm; omega
            rw [e0]
            exact this ▸ hm
          · exact hm
        obtain ⟨p, hp, hn⟩ := mem_nums.1 hmem
        obtain ⟨hp1, _⟩ := numN_some hn
        show ∃ j, get s.now (nameN (mostD s.now)) = some j
        cases hg : get s.now (nameN (mostD s.now)) with
        | none => exact absurd hp1 (get_none.1 hg p hp)
        | some j => exact ⟨j, rfl⟩
  refine ⟨hE, ?_⟩
  unfold nextN
  rw [hE]
  by_cases h : mostD s.now = topN
  · rw [if_pos h, if_pos h, if_pos (by decide)]
  · rw [if_neg h, if_neg h, if_neg (by decide)]; rfl
end Go.Proofs.YtlpeiejohgchmaaDoor.Fs
