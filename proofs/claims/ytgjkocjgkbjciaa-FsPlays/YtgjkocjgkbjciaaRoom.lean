/-
  Never more bytes than room, nor more files than may be; what is refused changes nothing: the model's part of FsRoom.
-/
import Derived.Test.YtgjkocjgkbjciaaTexts
namespace Go.Proofs.Ytgjkocjgkbjciaa.Fs
set_option linter.unusedVariables false

theorem perm_del {d : Dir} (hn : (d.map (·.1)).Nodup) {a : Nm} {i : Nat} (h : (a, i) ∈ d) : d.Perm ((a, i) :: del d a) := by
  induction d with
  | nil => simp at h
  | cons y r ih =>
    simp only [List.map_cons, List.nodup_cons] at hn
    rcases List.mem_cons.1 h with e | hr
    · subst e
      have : del r a = r := List.filter_eq_self.2 fun p hp => by
        have : p.1 ≠ a := fun e => hn.1 (e ▸ List.mem_map.2 ⟨p, hp, rfl⟩)
        simpa using this
      have e2 : del ((a, i) :: r) a = del r a := by simp [del]
      rw [e2, this]
    · have hy : y.1 ≠ a := fun e => hn.1 (e ▸ List.mem_map.2 ⟨(a, i), hr, rfl⟩)
      have e2 : del (y :: r) a = y :: del r a := by simp [del, hy]
      rw [e2]
      exact ((ih hn.2 hr).cons y).trans (.swap (a, i) y (del r a))
theorem del_comm (d : Dir) (a b : Nm) : del (del d a) b = del (del d b) a := by
  unfold del
  rw [List.filter_filter, List.filter_filter]
  congr 1
  funext p
  rw [Bool.and_comm]
theorem put_perm (d : Dir) (a : Nm) (i : Nat) : (put d a i).Perm ((a, i) :: del d a) := ins_perm _ _
theorem ren_perm (d : Dir) {a b : Nm} (hne : a ≠ b) (i : Nat) : (del (put d b i) a).Perm ((b, i) :: del (del d a) b) := by
  have h1 : (del (put d b i) a).Perm (del ((b, i) :: del d b) a) := (put_perm d b i).filter _
  have h2 : del ((b, i) :: del d b) a = (b, i) :: del (del d b) a := by
    have : ((b == a) = false) := by simpa using Ne.symm hne
    simp [del, this]
  rw [h2, del_comm] at h1
  exact h1
/-- The bytes of the files of a directory. -/
def sumD (s : St) (d : Dir) : Nat := (d.map fun p => (s.file p.2).bytes.length).sum
theorem sumD_perm (s : St) {d e : Dir} (h : d.Perm e) : sumD s d = sumD s e := (h.map _).sum_nat
theorem sumD_sub (s : St) {d e : Dir} (h : d.Sublist e) : sumD s d ≤ sumD s e := sum_sub _ h
theorem sumD_congr {s t : St} {d : Dir} (h : ∀ p ∈ d, (s.file p.2).bytes.length = (t.file p.2).bytes.length) : sumD s d = sumD t d := by
  unfold sumD
  rw [List.map_congr_left h]
theorem used_eq (s : St) : s.used = sumD s s.now := rfl

/-- A disk with power, without a fuse, within its bounds. -/
structure Fine (s : St) (z : Nat) : Prop where
  fuse : s.fuse = none
  down : s.down = false
  room : s.room = z
  used : s.used ≤ z
  few : s.now.length ≤ 256
theorem fine_do {s : St} (hG : Good s) {z : Nat} (h : Fine s z) (o : OpR) : Fine (doS s o) z := by
  have hE := live_burnE h.fuse
  have hS := live_burnS h.fuse
  have hT := hG.now
  unfold doS
  split
  · unfold createS
    split
    · exact h
    · split
      · exact h
      · split
        · exact h
        · rename_i h256
          rw [live_chg (s := { s with files := s.files ++ [⟨[], 0⟩] }) h.fuse]
          have en : St.now { s with files := s.files ++ [⟨[], 0⟩], loose := s.loose ++ [.mk (nm o.a) s.files.length] } = put s.now (nm o.a) s.files.length := by simp [St.now, app]
          refine ⟨h.fuse, h.down, h.room, ?_, ?_⟩
          · rw [used_eq, en, sumD_perm _ (put_perm _ _ _)]
            have h1 : sumD { s with files := s.files ++ [⟨[], 0⟩], loose := s.loose ++ [.mk (nm o.a) s.files.length] } (del s.now (nm o.a)) = sumD s (del s.now (nm o.a)) := sumD_congr fun p hp => by
              have hl := hT.lt p (mem_del.1 hp).1
              unfold St.file
              simp only
              rw [List.getD_eq_getElem?_getD, List.getD_eq_getElem?_getD, List.getElem?_append_left hl]
            have h2 := sumD_sub s (List.filter_sublist (l := s.now) (p := fun p => !(p.1 == nm o.a)))
            have h3 : sumD { s with files := s.files ++ [⟨[], 0⟩], loose := s.loose ++ [.mk (nm o.a) s.files.length] } ((nm o.a, s.files.length) :: del s.now (nm o.a)) = 0 + sumD { s with files := s.files ++ [⟨[], 0⟩], loose := s.loose ++ [.mk (nm o.a) s.files.length] } (del s.now (nm o.a)) := by
              unfold sumD
              simp [St.file]
            rw [h3, h1]
            have h4 := h.used
            rw [used_eq] at h4
            have h5 : sumD s (del s.now (nm o.a)) ≤ sumD s s.now := h2
            omega
          · rw [en]
            have := length_put_le s.now (nm o.a) s.files.length
            omega
  · split
    · unfold appendS
      split
      · exact h
      · rename_i hf
        split
        · exact h
        · rename_i hr
          rw [hS]
          have hf0 : findE s (nm o.a) = 0 := by simpa using hf
          obtain ⟨_, j, hj⟩ := find_ok hf0
          rw [hj]
          simp only [Option.getD_some]
          have hm := get_mem hj
          have hP := perm_del hT.names hm
          have hjl := hT.lt _ hm
          refine ⟨h.fuse, h.down, h.room, ?_, h.few⟩
          rw [used_eq, set_now, sumD_perm _ hP]
          have h1 : sumD (setFile s j ⟨(s.file j).bytes ++ o.data, (s.file j).sure⟩) (del s.now (nm o.a)) = sumD s (del s.now (nm o.a)) := sumD_congr fun p hp => by
            have hpj : p.2 ≠ j := fun e => (mem_del.1 hp).2 (congrArg Prod.fst (hT.same (mem_del.1 hp).1 hm e))
            unfold St.file setFile
            simp only
            simp only [List.getD_eq_getElem?_getD, List.getElem?_set_ne (Ne.symm hpj)]
          have h2 : sumD (setFile s j ⟨(s.file j).bytes ++ o.data, (s.file j).sure⟩) ((nm o.a, j) :: del s.now (nm o.a)) = ((s.file j).bytes.length + o.data.length) + sumD (setFile s j ⟨(s.file j).bytes ++ o.data, (s.file j).sure⟩) (del s.now (nm o.a)) := by
            have e : (setFile s j ⟨(s.file j).bytes ++ o.data, (s.file j).sure⟩).file j = ⟨(s.file j).bytes ++ o.data, (s.file j).sure⟩ := by
              unfold setFile
              show St.file _ j = _
              unfold St.file
              simp only
              rw [List.getD_eq_getElem?_getD, List.getElem?_set_self hjl]
              rfl
            unfold sumD
            rw [List.map_cons, List.sum_cons]
            show ((setFile s j ⟨(s.file j).bytes ++ o.data, (s.file j).sure⟩).file j).bytes.length + _ = _
            rw [e]
            simp only [List.length_append]
          have h3 : s.used = (s.file j).bytes.length + sumD s (del s.now (nm o.a)) := by rw [used_eq, sumD_perm s hP]; rfl
          have h4 := h.room
          rw [h2, h1]
          omega
    · split
      · unfold syncS
        split
        · exact h
        · rename_i hf
          rw [hS]
          have hf0 : findE s (nm o.a) = 0 := by simpa using hf
          obtain ⟨_, j, hj⟩ := find_ok hf0
          rw [hj]
          simp only [Option.getD_some]
          refine ⟨h.fuse, h.down, h.room, ?_, h.few⟩
          rw [used_eq, set_now]
          rw [show sumD (setFile s j ⟨(s.file j).bytes, (s.file j).bytes.length⟩) s.now = sumD s s.now from sumD_congr fun p hp => by
            by_cases e : p.2 = j
            · rw [e]
              unfold setFile St.file
              simp only
              rw [List.getD_eq_getElem?_getD, List.getElem?_set_self (hT.lt _ (get_mem hj))]
              rfl
            · unfold setFile St.file
              simp only
              simp only [List.getD_eq_getElem?_getD, List.getElem?_set_ne (Ne.symm e)]]
          exact h.used
      · split
        · unfold renameS
          split
          · exact h
          · split
            · rename_i hs
              split
              · rw [hS]; exact h
              · rename_i hne
                rw [live_chg h.fuse]
                have hne' : nm o.a ≠ nm o.b := hne
                obtain ⟨i, hi⟩ := Option.isSome_iff_exists.1 hs
                have en : St.now { s with loose := s.loose ++ [.ren (nm o.a) (nm o.b)] } = del (put s.now (nm o.b) i) (nm o.a) := by simp [St.now, app]; rw [show List.foldl app s.sure s.loose = s.now from rfl, hi]; rfl
                have hm := get_mem hi
                have hP := perm_del hT.names hm
                have hQ := ren_perm s.now hne' i
                have hsub : (del (del s.now (nm o.a)) (nm o.b)).Sublist (del s.now (nm o.a)) := List.filter_sublist
                refine ⟨h.fuse, h.down, h.room, ?_, ?_⟩
                · rw [used_eq, en, sumD_perm _ hQ]
                  have h1 := sumD_sub s hsub
                  have h3 : s.used = (s.file i).bytes.length + sumD s (del s.now (nm o.a)) := by rw [used_eq, sumD_perm s hP]; rfl
                  have h2 : sumD { s with loose := s.loose ++ [.ren (nm o.a) (nm o.b)] } ((nm o.b, i) :: del (del s.now (nm o.a)) (nm o.b)) = (s.file i).bytes.length + sumD s (del (del s.now (nm o.a)) (nm o.b)) := rfl
                  have h4 := h.used
                  omega
                · rw [en, hQ.length_eq]
                  have h1 := hP.length_eq
                  have h2 := hsub.length_le
                  have h3 := h.few
                  simp only [List.length_cons] at h1 ⊢
                  omega
            · exact h
        · split
          · unfold unlinkS
            split
            · exact h
            · rw [live_chg h.fuse]
              have en : St.now { s with loose := s.loose ++ [.unl (nm o.a)] } = del s.now (nm o.a) := by simp [St.now, app]
              refine ⟨h.fuse, h.down, h.room, ?_, ?_⟩
              · rw [used_eq, en]
                have h1 : sumD s (del s.now (nm o.a)) ≤ sumD s s.now := sumD_sub s List.filter_sublist
                have h2 : sumD { s with loose := s.loose ++ [.unl (nm o.a)] } (del s.now (nm o.a)) = sumD s (del s.now (nm o.a)) := rfl
                have h4 := h.used
                rw [used_eq] at h4
                omega
              · rw [en]
                exact Nat.le_trans (length_del_le _ _) h.few
          · split
            · rw [live_dirSync h.fuse h.down]
              exact ⟨h.fuse, h.down, h.room, h.used, h.few⟩
            · exact h
theorem fine_start (z : Nat) (hz : z ≤ 16777216) : Fine (newS (z : Int)) z := by
  refine ⟨rfl, rfl, ?_, ?_, ?_⟩
  · show (min (max (z : Int) 0) 16777216).toNat = z
    omega
  · simp [newS, St.used, St.now]
  · simp [newS, St.now]
/-- What is refused changes nothing. -/
theorem refused {s : St} (hf : s.fuse = none) (hd : s.down = false) (o : OpR) (h : doE s o ≠ 0) : doS s o = s := by
  have hE := live_burnE hf
  have hS := live_burnS hf
  unfold doE at h
  unfold doS
  by_cases h1 : o.kind = 1
  · rw [if_pos h1] at h ⊢
    unfold createE at h
    unfold createS
    by_cases c1 : readyE s [nm o.a] ≠ 0
    · rw [if_pos c1]
    · rw [if_neg c1] at h ⊢
      by_cases c2 : (get s.now (nm o.a)).isSome
      · rw [if_pos c2]
      · rw [if_neg c2] at h ⊢
        by_cases c3 : 256 ≤ s.now.length
        · rw [if_pos c3]
        · rw [if_neg c3] at h
          exact absurd hE h
  · rw [if_neg h1] at h ⊢
    by_cases h2 : o.kind = 2
    · rw [if_pos h2] at h ⊢
      unfold appendE at h
      unfold appendS
      by_cases c1 : findE s (nm o.a) ≠ 0
      · rw [if_pos c1]
      · rw [if_neg c1] at h ⊢
        by_cases c2 : s.room < s.used + o.data.length
        · rw [if_pos c2]
        · rw [if_neg c2] at h
          exact absurd hE h
    · rw [if_neg h2] at h ⊢
      by_cases h3 : o.kind = 3
      · rw [if_pos h3] at h ⊢
        unfold syncE at h
        unfold syncS
        by_cases c1 : findE s (nm o.a) ≠ 0
        · rw [if_pos c1]
        · rw [if_neg c1] at h
          exact absurd hE h
      · rw [if_neg h3] at h ⊢
        by_cases h4 : o.kind = 4
        · rw [if_pos h4] at h ⊢
          unfold renameE at h
          unfold renameS
          by_cases c1 : readyE s [nm o.a, nm o.b] ≠ 0
          · rw [if_pos c1]
          · rw [if_neg c1] at h ⊢
            by_cases c2 : (get s.now (nm o.a)).isSome
            · rw [if_pos c2] at h
              exact absurd hE h
            · rw [if_neg c2]
        · rw [if_neg h4] at h ⊢
          by_cases h5 : o.kind = 5
          · rw [if_pos h5] at h ⊢
            unfold unlinkE at h
            unfold unlinkS
            by_cases c1 : findE s (nm o.a) ≠ 0
            · rw [if_pos c1]
            · rw [if_neg c1] at h
              exact absurd hE h
          · rw [if_neg h5] at h ⊢
            by_cases h6 : o.kind = 6
            · rw [if_pos h6] at h
              unfold dirSyncE at h
              rw [hd] at h
              exact absurd hE h
            · rw [if_neg h6] at h
              exact absurd rfl h

end Go.Proofs.Ytgjkocjgkbjciaa.Fs
