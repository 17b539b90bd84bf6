/-
  A crash, and what is read behind it: of a file renamed over another one, and of what was made sure.
-/
import Derived.Test.YtgjkocjgkbjciaaMore
namespace Go.Proofs.Ytgjkocjgkbjciaa.Fs
set_option linter.unusedVariables false
set_option linter.unusedSectionVars false

/-! ### Behind a crash -/
theorem crash_read {s : St} (dirs bytes : Int) {b : Nm} (hb : isNm b = true) {i : Nat} {x : File} (hg : get ((s.loose.take (min dirs.toNat s.loose.length)).foldl app s.sure) b = some i) (hx : s.files[i]? = some x) :
    findE (crashS s dirs bytes) b = 0 ∧ readV (crashS s dirs bytes) b = (keepF x bytes.toNat).bytes := by
  have hn : (crashS s dirs bytes).now = (s.loose.take (min dirs.toNat s.loose.length)).foldl app s.sure := rfl
  have hg' : get (crashS s dirs bytes).now b = some i := by rw [hn]; exact hg
  have h1 := live_findE (s := crashS s dirs bytes) rfl rfl hb hg'
  refine ⟨h1, ?_⟩
  unfold readV
  rw [h1, hg']
  simp only [ne_eq, not_true, if_false, Option.getD_some]
  unfold St.file crashS keepAll
  simp only
  rw [List.getD_eq_getElem?_getD, List.getElem?_mapIdx, hx]
  have : ((s.loose.take (min dirs.toNat s.loose.length)).foldl app s.sure).any (fun p => p.2 == i) = true := List.any_eq_true.2 ⟨(b, i), get_mem hg, by simp⟩
  rw [this]
  rfl
theorem crash_none {s : St} (dirs bytes : Int) {b : Nm} (hb : isNm b = true) (hg : get ((s.loose.take (min dirs.toNat s.loose.length)).foldl app s.sure) b = none) : findE (crashS s dirs bytes) b = 4 := by
  have hn : (crashS s dirs bytes).now = (s.loose.take (min dirs.toNat s.loose.length)).foldl app s.sure := rfl
  unfold findE
  rw [good_ready hb rfl, hn, hg]
  rfl
theorem keep_whole (l : List Nat) (m : Nat) : (keepF ⟨l, l.length⟩ m).bytes = l := by simp [keepF]

/-! ### FsAtomic -/
def aX (a b : Nm) (old young : List Nat) (f : Option Nat) (d : Bool) : Nat → St
  | 0 => ⟨5000, [(b, 0)], [], [⟨old, old.length⟩], f, d⟩
  | 1 => ⟨5000, [(b, 0)], [.mk a 1], [⟨old, old.length⟩, ⟨[], 0⟩], f, d⟩
  | 2 => ⟨5000, [(b, 0)], [.mk a 1], [⟨old, old.length⟩, ⟨young, 0⟩], f, d⟩
  | 3 => ⟨5000, [(b, 0)], [.mk a 1], [⟨old, old.length⟩, ⟨young, young.length⟩], f, d⟩
  | 4 => ⟨5000, [(b, 0)], [.mk a 1, .ren a b], [⟨old, old.length⟩, ⟨young, young.length⟩], f, d⟩
  | _ => ⟨5000, app (app [(b, 0)] (.mk a 1)) (.ren a b), [], [⟨old, old.length⟩, ⟨young, young.length⟩], f, d⟩
section
variable {a b : Nm} {old young : List Nat} (ha : isNm a = true) (hb : isNm b = true) (hab : a ≠ b) (hl : old.length + young.length ≤ 1000)
include ha hb hab hl
theorem at_pre : dirSyncS (syncS (appendS (createS (newS 5000) b) b old) b) = aX a b old young none false 0 := by
  rw [live_create rfl rfl hb rfl (by decide)]
  rw [live_append (i := 0) rfl rfl hb (by simp [newS, St.now, app, put, del, ins, get]) old (by simp [newS, St.now, St.used, app, put, del, ins, St.file]; omega)]
  rw [live_sync (i := 0) rfl rfl hb (by simp [newS, setFile, St.now, app, put, del, ins, get])]
  rw [live_dirSync rfl rfl]
  simp [aX, newS, setFile, St.now, St.file, app, put, del, ins]
  rfl
theorem dead_all {s : St} (hd : s.down = true) : createS s a = s ∧ appendS s a young = s ∧ syncS s a = s ∧ renameS s a b = s ∧ dirSyncS s = s := by
  have r1 : readyE s [a] = 2 := by simp [readyE, ha, hd]
  have r2 : readyE s [a, b] = 2 := by simp [readyE, ha, hb, hd]
  have f1 : findE s a = 2 := by unfold findE; rw [r1]; rfl
  refine ⟨?_, ?_, ?_, ?_, ?_⟩
  · unfold createS; rw [r1]; rfl
  · unfold appendS; rw [f1]; rfl
  · unfold syncS; rw [f1]; rfl
  · unfold renameS; rw [r2]; rfl
  · unfold dirSyncS; rw [hd]; rfl
theorem at_get (f : Option Nat) (d : Bool) : get (aX a b old young f d 1).now a = some 1 ∧ get (aX a b old young f d 2).now a = some 1 ∧ get (aX a b old young f d 3).now a = some 1 := by
  have h : ∀ i, get (app [(b, 0)] (.mk a i)) a = some i := fun i => get_put_same _ _ _
  exact ⟨h 1, h 1, h 1⟩
theorem at_used (f : Option Nat) : (aX a b old young f false 1).used = old.length := by
  have hP : (aX a b old young f false 1).now.Perm [(a, 1), (b, 0)] := by
    have e : del [(b, 0)] a = [(b, 0)] := by simp [del, Ne.symm hab]
    have := ins_perm (a, 1) (del [(b, 0)] a)
    rw [e] at this
    have e2 : (aX a b old young f false 1).now = ins (a, 1) (del [(b, 0)] a) := rfl
    rw [e2, e]
    exact this
  unfold St.used
  rw [(hP.map _).sum_nat]
  simp [aX, St.file]
theorem at_s1 (n : Nat) : createS (aX a b old young (some (n + 1)) false 0) a = aX a b old young (some n) false 1 ∧ createS (aX a b old young (some 0) false 0) a = aX a b old young (some 0) true 0 := by
  have hg : ∀ f, get (aX a b old young f false 0).now a = none := fun f => by
    show get [(b, 0)] a = none
    simp [get, Ne.symm hab]
  constructor
  · unfold createS
    rw [good_ready ha rfl, hg]
    rfl
  · unfold createS
    rw [good_ready ha rfl, hg]
    rfl
theorem at_s2 (n : Nat) : appendS (aX a b old young (some (n + 1)) false 1) a young = aX a b old young (some n) false 2 ∧ appendS (aX a b old young (some 0) false 1) a young = aX a b old young (some 0) true 1 := by
  have hfd : ∀ f, findE (aX a b old young f false 1) a = 0 := fun f => by
    unfold findE
    rw [good_ready ha rfl, (at_get ha hb hab hl f false).1]
    rfl
  have hu : ∀ f, ¬ (aX a b old young f false 1).room < (aX a b old young f false 1).used + young.length := fun f => by
    rw [at_used ha hb hab hl]
    show ¬ (5000 < old.length + young.length)
    omega
  constructor
  · unfold appendS
    rw [hfd, if_neg (by simp), if_neg (hu _), (at_get ha hb hab hl _ false).1]
    rfl
  · unfold appendS
    rw [hfd, if_neg (by simp), if_neg (hu _)]
    rfl
theorem at_s3 (n : Nat) : syncS (aX a b old young (some (n + 1)) false 2) a = aX a b old young (some n) false 3 ∧ syncS (aX a b old young (some 0) false 2) a = aX a b old young (some 0) true 2 := by
  have hfd : ∀ f, findE (aX a b old young f false 2) a = 0 := fun f => by
    unfold findE
    rw [good_ready ha rfl, (at_get ha hb hab hl f false).2.1]
    rfl
  constructor
  · unfold syncS
    rw [hfd, if_neg (by simp), (at_get ha hb hab hl _ false).2.1]
    rfl
  · unfold syncS
    rw [hfd, if_neg (by simp)]
    rfl
theorem at_s4 (n : Nat) : renameS (aX a b old young (some (n + 1)) false 3) a b = aX a b old young (some n) false 4 ∧ renameS (aX a b old young (some 0) false 3) a b = aX a b old young (some 0) true 3 := by
  have hr : ∀ f, readyE (aX a b old young f false 3) [a, b] = 0 := fun f => by
    simp [readyE, ha, hb]
    rfl
  constructor
  · unfold renameS
    rw [hr, if_neg (by simp), (at_get ha hb hab hl _ false).2.2]
    simp only [Option.isSome_some, if_true, if_neg hab]
    rfl
  · unfold renameS
    rw [hr, if_neg (by simp), (at_get ha hb hab hl _ false).2.2]
    simp only [Option.isSome_some, if_true, if_neg hab]
    rfl
theorem at_s5 (n : Nat) : dirSyncS (aX a b old young (some (n + 1)) false 4) = aX a b old young (some n) false 5 ∧ dirSyncS (aX a b old young (some 0) false 4) = aX a b old young (some 0) true 4 := ⟨rfl, rfl⟩
/-- Wherever the power goes, the disk is one of these. -/
theorem at_path (F : Nat) : ∃ j f d, dirSyncS (renameS (syncS (appendS (createS (aX a b old young (some F) false 0) a) a young) a) a b) = aX a b old young f d j := by
  have dead : ∀ j f, createS (aX a b old young f true j) a = aX a b old young f true j ∧ appendS (aX a b old young f true j) a young = aX a b old young f true j ∧ syncS (aX a b old young f true j) a = aX a b old young f true j ∧ renameS (aX a b old young f true j) a b = aX a b old young f true j ∧ dirSyncS (aX a b old young f true j) = aX a b old young f true j :=
    fun j f => dead_all ha hb hab hl (by unfold aX; split <;> rfl)
  match F with
  | 0 => exact ⟨0, some 0, true, by rw [(at_s1 ha hb hab hl 0).2, (dead 0 _).2.1, (dead 0 _).2.2.1, (dead 0 _).2.2.2.1, (dead 0 _).2.2.2.2]⟩
  | 1 => exact ⟨1, some 0, true, by rw [(at_s1 ha hb hab hl 0).1, (at_s2 ha hb hab hl 0).2, (dead 1 _).2.2.1, (dead 1 _).2.2.2.1, (dead 1 _).2.2.2.2]⟩
  | 2 => exact ⟨2, some 0, true, by rw [(at_s1 ha hb hab hl 1).1, (at_s2 ha hb hab hl 0).1, (at_s3 ha hb hab hl 0).2, (dead 2 _).2.2.2.1, (dead 2 _).2.2.2.2]⟩
  | 3 => exact ⟨3, some 0, true, by rw [(at_s1 ha hb hab hl 2).1, (at_s2 ha hb hab hl 1).1, (at_s3 ha hb hab hl 0).1, (at_s4 ha hb hab hl 0).2, (dead 3 _).2.2.2.2]⟩
  | 4 => exact ⟨4, some 0, true, by rw [(at_s1 ha hb hab hl 3).1, (at_s2 ha hb hab hl 2).1, (at_s3 ha hb hab hl 1).1, (at_s4 ha hb hab hl 0).1, (at_s5 ha hb hab hl 0).2]⟩
  | n + 5 => exact ⟨5, some n, false, by rw [(at_s1 ha hb hab hl (n + 4)).1, (at_s2 ha hb hab hl (n + 3)).1, (at_s3 ha hb hab hl (n + 2)).1, (at_s4 ha hb hab hl (n + 1)).1, (at_s5 ha hb hab hl n).1]⟩
theorem at_read (f : Option Nat) (d : Bool) (j : Nat) (dirs bytes : Int) : findE (crashS (aX a b old young f d j) dirs bytes) b = 0 ∧ (readV (crashS (aX a b old young f d j) dirs bytes) b = old ∨ readV (crashS (aX a b old young f d j) dirs bytes) b = young) := by
  have hba : b ≠ a := Ne.symm hab
  have g0 : get [(b, 0)] b = some 0 := by simp [get]
  have g1 : get (app [(b, 0)] (.mk a 1)) b = some 0 := by
    show get (put [(b, 0)] a 1) b = some 0
    rw [get_put_other _ _ hba]
    exact g0
  have g2 : get (app (app [(b, 0)] (.mk a 1)) (.ren a b)) b = some 1 := by
    show get (del (put (put [(b, 0)] a 1) b ((get (put [(b, 0)] a 1) a).getD 0)) a) b = some 1
    rw [get_del_other _ hba, get_put_same, get_put_same]
    rfl
  have fin : ∀ (s : St) (i : Nat) (l : List Nat), get ((s.loose.take (min dirs.toNat s.loose.length)).foldl app s.sure) b = some i → s.files[i]? = some ⟨l, l.length⟩ → findE (crashS s dirs bytes) b = 0 ∧ readV (crashS s dirs bytes) b = l := fun s i l h1 h2 => by
    obtain ⟨h3, h4⟩ := crash_read dirs bytes hb h1 h2
    exact ⟨h3, by rw [h4, keep_whole]⟩
  have one : ∀ (x : File), ∀ (s : St), s.sure = [(b, 0)] → s.loose = [.mk a 1] → s.files[0]? = some ⟨old, old.length⟩ → findE (crashS s dirs bytes) b = 0 ∧ readV (crashS s dirs bytes) b = old := fun x s h1 h2 h3 => by
    refine fin s 0 old ?_ h3
    rw [h1, h2]
    rcases (show min dirs.toNat [Chg.mk a 1].length = 0 ∨ min dirs.toNat [Chg.mk a 1].length = 1 by simp; omega) with h | h
    · rw [h]; exact g0
    · rw [h]; exact g1
  match j with
  | 0 => have := fin (aX a b old young f d 0) 0 old (by show get (([] : List Chg).take _ |>.foldl app [(b, 0)]) b = _; simp [g0]) rfl; exact ⟨this.1, .inl this.2⟩
  | 1 => have := one ⟨[], 0⟩ (aX a b old young f d 1) rfl rfl rfl; exact ⟨this.1, .inl this.2⟩
  | 2 => have := one ⟨[], 0⟩ (aX a b old young f d 2) rfl rfl rfl; exact ⟨this.1, .inl this.2⟩
  | 3 => have := one ⟨[], 0⟩ (aX a b old young f d 3) rfl rfl rfl; exact ⟨this.1, .inl this.2⟩
  | 4 =>
    rcases (show min dirs.toNat [Chg.mk a 1, Chg.ren a b].length = 0 ∨ min dirs.toNat [Chg.mk a 1, Chg.ren a b].length = 1 ∨ min dirs.toNat [Chg.mk a 1, Chg.ren a b].length = 2 by simp; omega) with h | h | h
    · have := fin (aX a b old young f d 4) 0 old (by show get (([Chg.mk a 1, Chg.ren a b]).take (min dirs.toNat [Chg.mk a 1, Chg.ren a b].length) |>.foldl app [(b, 0)]) b = _; rw [h]; exact g0) rfl; exact ⟨this.1, .inl this.2⟩
    · have := fin (aX a b old young f d 4) 0 old (by show get (([Chg.mk a 1, Chg.ren a b]).take (min dirs.toNat [Chg.mk a 1, Chg.ren a b].length) |>.foldl app [(b, 0)]) b = _; rw [h]; exact g1) rfl; exact ⟨this.1, .inl this.2⟩
    · have := fin (aX a b old young f d 4) 1 young (by show get (([Chg.mk a 1, Chg.ren a b]).take (min dirs.toNat [Chg.mk a 1, Chg.ren a b].length) |>.foldl app [(b, 0)]) b = _; rw [h]; exact g2) rfl; exact ⟨this.1, .inr this.2⟩
  | n + 5 => have := fin (aX a b old young f d (n + 5)) 1 young (by show get (([] : List Chg).take _ |>.foldl app (app (app [(b, 0)] (.mk a 1)) (.ren a b))) b = _; simp [g2]) rfl; exact ⟨this.1, .inr this.2⟩
end

end Go.Proofs.Ytgjkocjgkbjciaa.Fs
