/-
  The document's model of a crash keeps every file, the program the named ones alone: what both have of the files that can be named is one.
-/
import Derived.Test.YtgjkocjgkbjciaaRise
namespace Go.Proofs.Ytgjkocjgkbjciaa.Fs
set_option linter.unusedVariables false
set_option linter.unusedSimpArgs false

/-! ### What a write leaves is well made -/
theorem do_good {s : St} (h : Good s) (o : OpR) (hb : s.bulk + 2 ≤ 1000000) (hd : ∀ c ∈ o.data, c < 256) : Good (doS s o) := by
  have hB := burn_good h
  unfold doS
  split
  · unfold createS
    split
    · exact h
    · split
      · exact h
      · rename_i hs
        split
        · exact h
        · split
          · exact chg_good (more_good h hb) (more_fits h _ (by simpa using hs)) (more_bulk hb)
          · exact hB
  · split
    · unfold appendS
      split
      · exact h
      · rename_i hf
        split
        · exact h
        · rename_i hr
          split
          · obtain ⟨_, j, hj⟩ := find_ok (s := s) (a := nm o.a) (by simpa using hf)
            rw [hj]
            simp only [Option.getD_some]
            have hm : s.file j ∈ s.files := file_mem (h.now.lt _ (get_mem hj))
            have hu := file_le_used hj
            have h1 := h.sure _ hm
            have h2 := h.room
            exact set_good hB j _ (by simp; omega) (fun c hc => by
              rcases List.mem_append.1 hc with hc | hc
              · exact h.byte _ hm c hc
              · exact hd c hc) (by simp; omega)
          · exact hB
    · split
      · unfold syncS
        split
        · exact h
        · rename_i hf
          split
          · obtain ⟨_, j, hj⟩ := find_ok (s := s) (a := nm o.a) (by simpa using hf)
            rw [hj]
            simp only [Option.getD_some]
            have hm : s.file j ∈ s.files := file_mem (h.now.lt _ (get_mem hj))
            exact set_good hB j _ (Nat.le_refl _) (h.byte (s.file j) hm) (h.len (s.file j) hm)
          · exact hB
      · split
        · unfold renameS
          split
          · exact h
          · split
            · rename_i hs
              split
              · exact hB
              · rename_i hne
                exact chg_good h ⟨Option.isSome_iff_exists.1 hs, hne⟩ (by omega)
            · exact h
        · split
          · unfold unlinkS
            split
            · exact h
            · exact chg_good h trivial (by omega)
          · split
            · unfold dirSyncS
              split
              · exact h
              · split
                · have := settle_good hB
                  rw [burn_loose] at this
                  exact this
                · exact hB
            · exact h
theorem rise_now {s : St} (h : Rising s.sure) : Rising s.now := rising_apps h _
theorem do_rising {s : St} (h : Rising s.sure) (o : OpR) : Rising (doS s o).sure := by
  have hB : Rising (burnS s).sure := by rw [burn_sure]; exact h
  have hC : ∀ (t : St) (c : Chg), t.sure = s.sure → Rising (chgS t c).sure := fun t c e => by
    unfold chgS
    split
    · show Rising (burnS t).sure
      rw [burn_sure, e]; exact h
    · rw [burn_sure, e]; exact h
  unfold doS
  split
  · unfold createS
    split
    · exact h
    · split
      · exact h
      · split
        · exact h
        · split
          · exact hC _ _ rfl
          · exact hB
  · split
    · unfold appendS
      split
      · exact h
      · split
        · exact h
        · split <;> exact hB
    · split
      · unfold syncS
        split
        · exact h
        · split <;> exact hB
      · split
        · unfold renameS
          split
          · exact h
          · split
            · split
              · exact hB
              · exact hC _ _ rfl
            · exact h
        · split
          · unfold unlinkS
            split
            · exact h
            · exact hC _ _ rfl
          · split
            · unfold dirSyncS
              split
              · exact h
              · split
                · show Rising (((burnS s).loose.take s.loose.length).foldl app (burnS s).sure)
                  exact rising_apps hB _
                · exact hB
            · exact h

/-! ### A crash, as the document has it -/
def crashR (s : St) (dirs bytes : Int) : St :=
  { s with sure := (s.loose.take (min dirs.toNat s.loose.length)).foldl app s.sure, loose := [], files := s.files.map (keepF · bytes.toNat), fuse := none, down := false }
theorem crashR_good {s : St} (h : Good s) (dirs bytes : Int) : Good (crashR s dirs bytes) := by
  have hl : (crashR s dirs bytes).files.length = s.files.length := by simp [crashR]
  have hc := h.chain.take (min dirs.toNat s.loose.length)
  have hm : ∀ y ∈ (crashR s dirs bytes).files, ∃ x ∈ s.files, y = keepF x bytes.toNat := fun y hy => by
    obtain ⟨x, hx, e⟩ := List.mem_map.1 hy
    exact ⟨x, hx, e.symm⟩
  refine ⟨by rw [hl]; exact Chain.tidy h.tidy hc, trivial, fun y hy => ?_, fun y hy c hcc => ?_, fun y hy => ?_, h.room, by simp [crashR], ?_⟩
  · obtain ⟨x, hx, rfl⟩ := hm y hy
    have := h.sure x hx
    simp [keepF]
    omega
  · obtain ⟨x, hx, rfl⟩ := hm y hy
    exact h.byte x hx c (List.mem_of_mem_take hcc)
  · obtain ⟨x, hx, rfl⟩ := hm y hy
    have := h.len x hx
    simp [keepF]
    omega
  · have h1 := h.bulk
    have h2 := length_apps_le (s.loose.take (min dirs.toNat s.loose.length)) s.sure
    unfold St.bulk at h1 ⊢
    rw [hl]
    show s.files.length + ((s.loose.take (min dirs.toNat s.loose.length)).foldl app s.sure).length + 0 ≤ 1000000
    simp at h2
    omega
theorem crashR_rising {s : St} (h : Rising s.sure) (dirs bytes : Int) : Rising (crashR s dirs bytes).sure := rising_apps h _

/-! ### Files that can be named -/
def Live (s : St) (i : Nat) : Prop := (∃ p ∈ s.sure, p.2 = i) ∨ ∃ a, Chg.mk a i ∈ s.loose
theorem app_ids {n : Nat} {d : Dir} {c : Chg} (hf : Fits n d c) {p : Nm × Nat} (hp : p ∈ app d c) : (∃ q ∈ d, q.2 = p.2) ∨ ∃ a, c = .mk a p.2 := by
  cases c with
  | mk a i =>
    rcases mem_put.1 hp with e | ⟨h, _⟩
    · exact .inr ⟨a, by rw [e]⟩
    · exact .inl ⟨p, h, rfl⟩
  | ren a b =>
    obtain ⟨⟨i, hi⟩, hne⟩ := hf
    have h1 := (mem_del.1 hp).1
    rw [hi] at h1
    rcases mem_put.1 h1 with e | ⟨h, _⟩
    · exact .inl ⟨_, get_mem hi, by rw [e]; rfl⟩
    · exact .inl ⟨p, h, rfl⟩
  | unl a => exact .inl ⟨p, (mem_del.1 hp).1, rfl⟩
theorem apps_ids {n : Nat} : ∀ {l : List Chg} {d : Dir}, Chain n d l → ∀ {p : Nm × Nat}, p ∈ l.foldl app d → (∃ q ∈ d, q.2 = p.2) ∨ ∃ a, Chg.mk a p.2 ∈ l
  | [], d, _, p, hp => .inl ⟨p, hp, rfl⟩
  | c :: r, d, h, p, hp => by
    rcases apps_ids (l := r) h.2 hp with ⟨q, hq, e⟩ | ⟨a, ha⟩
    · rcases app_ids h.1 hq with ⟨q', hq', e'⟩ | ⟨a, ha⟩
      · exact .inl ⟨q', hq', by rw [e', e]⟩
      · exact .inr ⟨a, by rw [ha, e]; exact List.mem_cons_self⟩
    · exact .inr ⟨a, List.mem_cons_of_mem _ ha⟩
theorem now_live {s : St} (h : Good s) {p : Nm × Nat} (hp : p ∈ s.now) : Live s p.2 := apps_ids h.chain hp
theorem take_live {s : St} (h : Good s) (k : Nat) {p : Nm × Nat} (hp : p ∈ (s.loose.take k).foldl app s.sure) : Live s p.2 := by
  rcases apps_ids (h.chain.take k) hp with h1 | ⟨a, ha⟩
  · exact .inl h1
  · exact .inr ⟨a, List.mem_of_mem_take ha⟩

/-- The document's disk is the program's, but for files that can't be named. -/
def Sim (s r : St) : Prop := ∃ F : List File, r = { s with files := F } ∧ F.length = s.files.length ∧ ∀ i, Live s i → F.getD i ⟨[], 0⟩ = s.files.getD i ⟨[], 0⟩
theorem Sim.refl (s : St) : Sim s s := ⟨s.files, rfl, rfl, fun _ _ => rfl⟩
section
variable {s r : St}
theorem Sim.now (h : Sim s r) : r.now = s.now := by obtain ⟨F, rfl, _⟩ := h; rfl
theorem Sim.down (h : Sim s r) : r.down = s.down := by obtain ⟨F, rfl, _⟩ := h; rfl
theorem Sim.loose (h : Sim s r) : r.loose = s.loose := by obtain ⟨F, rfl, _⟩ := h; rfl
theorem Sim.bulk (h : Sim s r) : r.bulk = s.bulk := by obtain ⟨F, rfl, hl, _⟩ := h; unfold St.bulk; simp [hl]
theorem Sim.file (h : Sim s r) {i : Nat} (hi : Live s i) : r.file i = s.file i := by obtain ⟨F, rfl, hl, hf⟩ := h; exact hf i hi
theorem Sim.used (h : Sim s r) (hG : Good s) : r.used = s.used := by
  unfold St.used
  rw [h.now, List.map_congr_left (fun p hp => by rw [h.file (now_live hG hp)])]
theorem burn_files_eq (s : St) (F : List File) : burnS { s with files := F } = { burnS s with files := F } := by
  obtain ⟨room, sure, loose, files, fuse, down⟩ := s
  cases fuse with
  | none => rfl
  | some n => cases n <;> rfl
theorem live_burn {i : Nat} : Live (burnS s) i ↔ Live s i := by unfold Live; rw [burn_sure, burn_loose]
theorem sim_burn (h : Sim s r) : Sim (burnS s) (burnS r) := by
  obtain ⟨F, rfl, hl, hf⟩ := h
  exact ⟨F, burn_files_eq s F, by rw [burn_files]; exact hl, fun i hi => by rw [burn_files]; exact hf i (live_burn.1 hi)⟩
theorem sim_chg (h : Sim s r) (c : Chg) (hc : ∀ a i, c = .mk a i → r.file i = s.file i) : Sim (chgS s c) (chgS r c) := by
  obtain ⟨F, rfl, hl, hf⟩ := h
  have hE : burnE { s with files := F } = burnE s := rfl
  unfold chgS
  rw [hE, burn_files_eq s F]
  split
  · refine ⟨F, rfl, by show F.length = (burnS s).files.length; rw [burn_files]; exact hl, fun i hi => ?_⟩
    show F.getD i ⟨[], 0⟩ = (burnS s).files.getD i ⟨[], 0⟩
    rw [burn_files]
    rcases hi with ⟨p, hp, e⟩ | ⟨a, ha⟩
    · refine hf i (.inl ⟨p, ?_, e⟩)
      have : p ∈ (burnS s).sure := hp
      rwa [burn_sure] at this
    · rcases List.mem_append.1 (show Chg.mk a i ∈ s.loose ++ [c] from ha) with ha | ha
      · exact hf i (.inr ⟨a, ha⟩)
      · simp at ha
        exact hc a i ha.symm
  · exact ⟨F, rfl, by rw [burn_files]; exact hl, fun i hi => by rw [burn_files]; exact hf i (live_burn.1 hi)⟩
theorem getD_set (l : List File) (j i : Nat) (x : File) : (l.set j x).getD i ⟨[], 0⟩ = if i = j ∧ j < l.length then x else l.getD i ⟨[], 0⟩ := by
  simp only [List.getD_eq_getElem?_getD, List.getElem?_set]
  by_cases h : j = i
  · subst h
    by_cases h2 : j < l.length
    · simp [h2]
    · simp [h2]
  · rw [if_neg h, if_neg (fun hh => h hh.1.symm)]
theorem sim_set (h : Sim s r) (j : Nat) (x : File) : Sim (setFile s j x) (setFile r j x) := by
  obtain ⟨F, rfl, hl, hf⟩ := h
  refine ⟨F.set j x, rfl, by simp [setFile, hl], fun i hi => ?_⟩
  show (F.set j x).getD i ⟨[], 0⟩ = (s.files.set j x).getD i ⟨[], 0⟩
  rw [getD_set, getD_set, hl, hf i hi]
theorem sim_do (h : Sim s r) (hG : Good s) (o : OpR) : doE r o = doE s o ∧ Sim (doS s o) (doS r o) := by
  have hu := h.used hG
  have hB := sim_burn h
  have hF : ∀ {i : Nat} {a : Nm}, get s.now a = some i → r.file i = s.file i := fun hi => h.file (now_live hG (get_mem hi))
  have hset : ∀ j x, Sim (setFile (burnS s) j x) (setFile (burnS r) j x) := fun j x => sim_set hB j x
  have hC := sim_chg h
  have hSim := h
  obtain ⟨F, rfl, hl, hf⟩ := h
  unfold doE doS
  by_cases h1 : o.kind = 1
  · simp only [h1, if_true]
    refine ⟨rfl, ?_⟩
    unfold createS
    by_cases c1 : readyE s [nm o.a] ≠ 0
    · rw [if_pos c1]
      show Sim _ (if readyE s [nm o.a] ≠ 0 then _ else _)
      rw [if_pos c1]
      exact hSim
    · rw [if_neg c1]
      show Sim _ (if readyE s [nm o.a] ≠ 0 then _ else _)
      rw [if_neg c1]
      by_cases c2 : (get s.now (nm o.a)).isSome
      · rw [if_pos c2]
        show Sim _ (if (get s.now (nm o.a)).isSome then _ else _)
        rw [if_pos c2]
        exact hSim
      · rw [if_neg c2]
        show Sim _ (if (get s.now (nm o.a)).isSome then _ else _)
        rw [if_neg c2]
        by_cases c3 : 256 ≤ s.now.length
        · rw [if_pos c3]
          show Sim _ (if 256 ≤ s.now.length then _ else _)
          rw [if_pos c3]
          exact hSim
        · rw [if_neg c3]
          show Sim _ (if 256 ≤ s.now.length then _ else _)
          rw [if_neg c3]
          by_cases c4 : burnE s = 0
          · rw [if_pos c4]
            show Sim _ (if burnE s = 0 then _ else _)
            rw [if_pos c4]
            have hM : Sim { s with files := s.files ++ [⟨[], 0⟩] } { s with files := F ++ [⟨[], 0⟩] } := by
              refine ⟨F ++ [⟨[], 0⟩], rfl, by simp [hl], fun i hi => ?_⟩
              show (F ++ [File.mk [] 0]).getD i ⟨[], 0⟩ = (s.files ++ [File.mk [] 0]).getD i ⟨[], 0⟩
              have := hf i hi
              simp only [List.getD_eq_getElem?_getD, List.getElem?_append, hl] at this ⊢
              split
              · exact this
              · rfl
            have := sim_chg hM (.mk (nm o.a) s.files.length) (fun a i e => by
              injection e with _ e
              subst e
              show (F ++ [File.mk [] 0]).getD s.files.length ⟨[], 0⟩ = (s.files ++ [File.mk [] 0]).getD s.files.length ⟨[], 0⟩
              simp [List.getD_eq_getElem?_getD, hl])
            show Sim (chgS { s with files := s.files ++ [⟨[], 0⟩] } (.mk (nm o.a) s.files.length)) (chgS { s with files := F ++ [⟨[], 0⟩] } (.mk (nm o.a) F.length))
            rw [hl]
            exact this
          · rw [if_neg c4]
            show Sim _ (if burnE s = 0 then _ else _)
            rw [if_neg c4]
            exact hB
  · simp only [h1, if_false]
    by_cases h2 : o.kind = 2
    · simp only [h2, if_true]
      unfold appendE appendS
      rw [hu]
      by_cases c1 : findE s (nm o.a) ≠ 0
      · rw [if_pos c1, if_pos c1]
        refine ⟨(if_pos c1), ?_⟩
        show Sim _ (if findE s (nm o.a) ≠ 0 then _ else _)
        rw [if_pos c1]
        exact hSim
      · rw [if_neg c1, if_neg c1]
        refine ⟨(if_neg c1), ?_⟩
        show Sim _ (if findE s (nm o.a) ≠ 0 then _ else _)
        rw [if_neg c1]
        by_cases c2 : s.room < s.used + o.data.length
        · rw [if_pos c2]
          show Sim _ (if s.room < s.used + o.data.length then _ else _)
          rw [if_pos c2]
          exact hSim
        · rw [if_neg c2]
          show Sim _ (if s.room < s.used + o.data.length then _ else _)
          rw [if_neg c2]
          by_cases c4 : burnE s = 0
          · rw [if_pos c4]
            show Sim _ (if burnE s = 0 then _ else _)
            rw [if_pos c4]
            obtain ⟨_, j, hj⟩ := find_ok (s := s) (a := nm o.a) (by simpa using c1)
            have hj' : get (St.now { s with files := F }) (nm o.a) = some j := hj
            rw [hj, hj']
            simp only [Option.getD_some]
            rw [hF hj]
            exact hset _ _
          · rw [if_neg c4]
            show Sim _ (if burnE s = 0 then _ else _)
            rw [if_neg c4]
            exact hB
    · simp only [h2, if_false]
      by_cases h3 : o.kind = 3
      · simp only [h3, if_true]
        refine ⟨rfl, ?_⟩
        unfold syncS
        by_cases c1 : findE s (nm o.a) ≠ 0
        · rw [if_pos c1]
          show Sim _ (if findE s (nm o.a) ≠ 0 then _ else _)
          rw [if_pos c1]
          exact hSim
        · rw [if_neg c1]
          show Sim _ (if findE s (nm o.a) ≠ 0 then _ else _)
          rw [if_neg c1]
          by_cases c4 : burnE s = 0
          · rw [if_pos c4]
            show Sim _ (if burnE s = 0 then _ else _)
            rw [if_pos c4]
            obtain ⟨_, j, hj⟩ := find_ok (s := s) (a := nm o.a) (by simpa using c1)
            have hj' : get (St.now { s with files := F }) (nm o.a) = some j := hj
            rw [hj, hj']
            simp only [Option.getD_some]
            rw [hF hj]
            exact hset _ _
          · rw [if_neg c4]
            show Sim _ (if burnE s = 0 then _ else _)
            rw [if_neg c4]
            exact hB
      · simp only [h3, if_false]
        by_cases h4 : o.kind = 4
        · simp only [h4, if_true]
          refine ⟨rfl, ?_⟩
          unfold renameS
          by_cases c1 : readyE s [nm o.a, nm o.b] ≠ 0
          · rw [if_pos c1]
            show Sim _ (if readyE s [nm o.a, nm o.b] ≠ 0 then _ else _)
            rw [if_pos c1]
            exact hSim
          · rw [if_neg c1]
            show Sim _ (if readyE s [nm o.a, nm o.b] ≠ 0 then _ else _)
            rw [if_neg c1]
            by_cases c2 : (get s.now (nm o.a)).isSome
            · rw [if_pos c2]
              show Sim _ (if (get s.now (nm o.a)).isSome then _ else _)
              rw [if_pos c2]
              by_cases c3 : nm o.a = nm o.b
              · rw [if_pos c3, if_pos c3]
                exact hB
              · rw [if_neg c3, if_neg c3]
                exact hC _ (fun a i e => by cases e)
            · rw [if_neg c2]
              show Sim _ (if (get s.now (nm o.a)).isSome then _ else _)
              rw [if_neg c2]
              exact hSim
        · simp only [h4, if_false]
          by_cases h5 : o.kind = 5
          · simp only [h5, if_true]
            refine ⟨rfl, ?_⟩
            unfold unlinkS
            by_cases c1 : findE s (nm o.a) ≠ 0
            · rw [if_pos c1]
              show Sim _ (if findE s (nm o.a) ≠ 0 then _ else _)
              rw [if_pos c1]
              exact hSim
            · rw [if_neg c1]
              show Sim _ (if findE s (nm o.a) ≠ 0 then _ else _)
              rw [if_neg c1]
              exact hC _ (fun a i e => by cases e)
          · simp only [h5, if_false]
            by_cases h6 : o.kind = 6
            · simp only [h6, if_true]
              refine ⟨rfl, ?_⟩
              unfold dirSyncS
              by_cases c1 : s.down = true
              · rw [if_pos c1]
                show Sim _ (if s.down = true then _ else _)
                rw [if_pos c1]
                exact hSim
              · rw [if_neg c1]
                show Sim _ (if s.down = true then _ else _)
                rw [if_neg c1]
                by_cases c4 : burnE s = 0
                · rw [if_pos c4]
                  show Sim _ (if burnE s = 0 then _ else _)
                  rw [if_pos c4, burn_files_eq s F]
                  refine ⟨F, rfl, by show F.length = (burnS s).files.length; rw [burn_files]; exact hl, fun i hi => ?_⟩
                  show F.getD i ⟨[], 0⟩ = (burnS s).files.getD i ⟨[], 0⟩
                  rw [burn_files]
                  refine hf i ?_
                  rcases hi with ⟨p, hp, e⟩ | ⟨a, ha⟩
                  · have hp' : p ∈ ((burnS s).loose.take s.loose.length).foldl app (burnS s).sure := hp
                    rw [burn_loose, burn_sure, List.take_length] at hp'
                    rw [← e]
                    exact now_live hG hp'
                  · cases ha
                · rw [if_neg c4]
                  show Sim _ (if burnE s = 0 then _ else _)
                  rw [if_neg c4]
                  exact hB
            · simp only [h6, if_false]
              exact ⟨trivial, hSim⟩
theorem sim_crash (h : Sim s r) (hG : Good s) (dirs bytes : Int) : Sim (crashS s dirs bytes) (crashR r dirs bytes) := by
  obtain ⟨F, rfl, hl, hf⟩ := h
  refine ⟨F.map (keepF · bytes.toNat), rfl, by simp [crashS, keepAll, hl], fun i hi => ?_⟩
  rcases hi with ⟨p, hp, e⟩ | ⟨a, ha⟩
  · have hp' : p ∈ (s.loose.take (min dirs.toNat s.loose.length)).foldl app s.sure := hp
    have hil : i < s.files.length := by
      rw [← e]
      exact (Chain.tidy hG.tidy (hG.chain.take _)).lt p hp'
    have h1 := hf i (by rw [← e]; exact take_live hG _ hp')
    have hany : ((s.loose.take (min dirs.toNat s.loose.length)).foldl app s.sure).any (fun q => q.2 == i) = true := List.any_eq_true.2 ⟨p, hp', by simpa using e⟩
    show (F.map (keepF · bytes.toNat)).getD i ⟨[], 0⟩ = (keepAll s.files ((s.loose.take (min dirs.toNat s.loose.length)).foldl app s.sure) bytes.toNat).getD i ⟨[], 0⟩
    unfold keepAll
    simp only [List.getD_eq_getElem?_getD, List.getElem?_map, List.getElem?_mapIdx, List.getElem?_eq_getElem hil, List.getElem?_eq_getElem (show i < F.length by omega), Option.map_some, Option.getD_some, hany, if_true] at h1 ⊢
    rw [h1]
  · cases ha
theorem sim_room (h : Sim s r) (n : Int) : Sim (roomS s n) (roomS r n) := by obtain ⟨F, rfl, hl, hf⟩ := h; exact ⟨F, rfl, hl, hf⟩
theorem sim_fuse (h : Sim s r) (n : Int) : Sim (fuseS s n) (fuseS r n) := by obtain ⟨F, rfl, hl, hf⟩ := h; exact ⟨F, rfl, hl, hf⟩
end

end Go.Proofs.Ytgjkocjgkbjciaa.Fs
