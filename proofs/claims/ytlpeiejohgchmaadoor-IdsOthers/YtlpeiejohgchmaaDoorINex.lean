/-
  Stage 13, plain: Next. Nothing of the program is imported but fs's plain words.
-/
import Derived.Test.YtlpeiejohgchmaaDoorINev
namespace Go.Proofs.YtlpeiejohgchmaaDoor.Fs
set_option linter.unusedVariables false
set_option linter.unusedSimpArgs false

structure Ix where
  last : Nat
  most : Nat
  has : Bool
def topN : Nat := 999999999
def upN (x : Ix) : Nat := min (x.last + 16) topN
def r1 (s : St) (x : Ix) : St := createS s (nameN (upN x))
def r2 (s : St) (x : Ix) : St := dirSyncS (r1 s x)
def raiseE (s : St) (x : Ix) : Nat :=
  if createE s (nameN (upN x)) ≠ 0 then createE s (nameN (upN x)) else
  if dirSyncE (r1 s x) ≠ 0 then dirSyncE (r1 s x) else
  if x.has then unlinkE (r2 s x) (nameN x.most) else 0
def raiseS (s : St) (x : Ix) : St :=
  if createE s (nameN (upN x)) ≠ 0 then r1 s x else
  if dirSyncE (r1 s x) ≠ 0 then r2 s x else
  if x.has then unlinkS (r2 s x) (nameN x.most) else r2 s x
def nextE (s : St) (x : Ix) : Nat := if s.down then 2 else if topN ≤ x.last then 3 else if x.most ≤ x.last then raiseE s x else 0
def nextS (s : St) (x : Ix) : St := if s.down then s else if topN ≤ x.last then s else if x.most ≤ x.last then raiseS s x else s
/-- What the raising leaves of an Ids. -/
def upX (s : St) (x : Ix) : Ix := if createE s (nameN (upN x)) ≠ 0 then x else if dirSyncE (r1 s x) ≠ 0 then x else ⟨x.last, upN x, true⟩
/-- What a Next that fails leaves of it. -/
def leftX (s : St) (x : Ix) : Ix := if s.down then x else if topN ≤ x.last then x else if x.most ≤ x.last then upX s x else x
def nextX (s : St) (x : Ix) : Ix := if nextE s x ≠ 0 then leftX s x else if x.most ≤ x.last then ⟨x.last + 1, upN x, true⟩ else ⟨x.last + 1, x.most, x.has⟩
def nextN (s : St) (x : Ix) : Nat := if nextE s x ≠ 0 then 0 else x.last + 1
def openX (s : St) : Ix := ⟨mostD s.now, mostD s.now, !(numsD s.now).isEmpty⟩

/-! ### Names -/
theorem digAt_ok (n i : Nat) : okByte (digAt n i) = true := by
  unfold okByte
  rw [digAt_val]
  have := Nat.mod_lt (n / 10 ^ i) (show 0 < 10 by decide)
  simp
  omega
theorem nameN_is (n : Nat) : isNm (nameN n) = true := by
  have h : (nameN n).all okByte = true := by
    simp only [nameN, preN, dig9, List.cons_append, List.nil_append, List.all_cons, List.all_nil, digAt_ok, Bool.and_true]
    decide
  simp [isNm, h, nameN_length]
theorem ready_name {s : St} (h : s.down = false) (n : Nat) : readyE s [nameN n] = 0 := by simp [readyE, nameN_is, h]
/-- All names of d are those of numbers up to M. -/
def NamesTo (M : Nat) (d : Dir) : Prop := ∀ p ∈ d, ∃ n, n ≤ M ∧ p.1 = nameN n
theorem NamesTo.mono {M N : Nat} {d : Dir} (h : NamesTo M d) (hMN : M ≤ N) : NamesTo N d := fun p hp => let ⟨n, h1, h2⟩ := h p hp; ⟨n, Nat.le_trans h1 hMN, h2⟩
theorem NamesTo.put {M : Nat} {d : Dir} (h : NamesTo M d) (i : Nat) : NamesTo M (put d (nameN M) i) := fun p hp => by
  rcases mem_put.1 hp with rfl | ⟨hp, _⟩
  · exact ⟨M, Nat.le_refl _, rfl⟩
  · exact h p hp
theorem NamesTo.del {M : Nat} {d : Dir} (h : NamesTo M d) (a : Nm) : NamesTo M (del d a) := fun p hp => h p (mem_del.1 hp).1
theorem NamesTo.get {M m : Nat} {d : Dir} (h : NamesTo M d) (hm : M < m) (ht : m ≤ topN) : get d (nameN m) = none := get_none.2 fun p hp e => by
  obtain ⟨n, h1, h2⟩ := h p hp
  have := nameN_inj (n := n) (m := m) (by have := ht; unfold topN at this; omega) ht (h2.symm.trans e)
  omega
theorem NamesTo.most {M : Nat} {d : Dir} (h : NamesTo M d) (ht : M ≤ topN) (hM : M = 0 ∨ ∃ j, Fs.get d (nameN M) = some j) : mostD d = M := by
  have h1 : mostD d ≤ M := by
    rcases most_mem (d := d) with e | hm
    · omega
    · obtain ⟨p, hp, hn⟩ := mem_nums.1 hm
      obtain ⟨n, hn1, hn2⟩ := h p hp
      rw [hn2, numN_name (by have := ht; unfold topN at this; omega)] at hn
      have := Option.some.inj hn
      omega
  rcases hM with rfl | ⟨j, hj⟩
  · omega
  · have h2 : M ∈ numsD d := mem_nums.2 ⟨_, get_mem hj, numN_name ht⟩
    have := most_ge h2
    omega
theorem length_del_lt {d : Dir} {a : Nm} {j : Nat} (h : get d a = some j) : (del d a).length < d.length := by
  have hm := get_mem h
  unfold del
  have := List.length_filter_lt_length_iff_exists (p := fun p : Nm × Nat => !(p.1 == a)) (l := d) |>.2 ⟨_, hm, by simp⟩
  exact this

/-! ### What holds between two calls of Next -/
def Pd (i M : Nat) (d : Dir) : Prop := NamesTo M d ∧ mostD d = M ∧ d.length ≤ i + 2
/-- What holds of each directory that a crash may leave: no number above what its greatest file says was given (they were up to L). -/
def Qd (i c L : Nat) (d : Dir) : Prop := NamesTo (16 * c) d ∧ L ≤ mostD d ∧ d.length ≤ i + 2
theorem Qd.of {i c L M : Nat} {d : Dir} (h : Pd i M d) (h1 : M ≤ 16 * c) (h2 : L ≤ M) : Qd i c L d := ⟨h.1.mono h1, by rw [h.2.1]; exact h2, h.2.2⟩
structure Inv (i c : Nat) (s : St) (x : Ix) : Prop where
  up : s.down = false
  le : x.last ≤ x.most
  cap : x.most ≤ 16 * c
  views : All s (Pd i x.most)
  now : s.now.length ≤ i + 1
  has : x.has = true → ∃ j, get s.now (nameN x.most) = some j
  none : x.has = false → s.now = []
  files : s.files.length ≤ c
  loose : s.loose.length ≤ 1
theorem Inv.bulk {i c : Nat} {s : St} {x : Ix} (h : Inv i c s x) : s.bulk ≤ c + i + 3 := by
  have h1 := h.files
  have h2 := h.loose
  have h3 : s.sure.length ≤ i + 2 := by have := (h.views 0).2.2; simpa using this
  unfold St.bulk
  omega
/-- What a Next leaves that has failed. -/
def Fell (i c L : Nat) (s : St) : Prop := All s (Qd i c L) ∧ s.files.length ≤ c
theorem Inv.fell {i c : Nat} {s : St} {x : Ix} (h : Inv i c s x) : Fell i c x.last s := ⟨h.views.mono fun d hd => Qd.of hd h.cap h.le, h.files⟩
theorem chg_files {s : St} {c : Chg} : (chgS s c).files = s.files := by unfold chgS; split <;> exact burn_files' s
theorem chg_down {s : St} {c : Chg} (h : burnE s = 0) : (chgS s c).down = s.down := by unfold chgS; rw [if_pos h]; exact burn_down h
theorem chg_loose {s : St} {c : Chg} (h : burnE s = 0) : (chgS s c).loose = s.loose ++ [c] := by unfold chgS; rw [if_pos h]
section
variable {i c : Nat} {s : St} {x : Ix}
theorem raise_inv (hi : i ≤ 200) (hc : 16 * c + 16 ≤ topN) (h : Inv i c s x) (hx : x.most ≤ x.last) :
    (raiseE s x = 0 ∧ Inv i (c + 1) (raiseS s x) ⟨x.last + 1, upN x, true⟩) ∨ (raiseE s x = 2 ∧ Fell i (c + 1) x.last (raiseS s x)) := by
  have hle := h.le
  have hcap := h.cap
  have hm : upN x = x.most + 16 := by unfold upN; omega
  have hmt : upN x ≤ topN := by omega
  have hN := h.views.now
  have hget : get s.now (nameN (upN x)) = none := hN.1.get (by omega) hmt
  have hce : createE s (nameN (upN x)) = burnE s := by
    unfold createE
    rw [if_neg (by simp [ready_name h.up]), if_neg (by simp [hget]), if_neg (by have := h.now; omega)]
  unfold raiseE raiseS
  by_cases h1 : createE s (nameN (upN x)) = 0
  rotate_left
  · right
    rw [if_pos h1, if_pos h1, r1]
    have hb := burn_gone (hce ▸ h1)
    have he : createS s (nameN (upN x)) = s ∨ createS s (nameN (upN x)) = burnS s := (createS_no h1).imp id (·.1)
    refine ⟨by rw [hce]; exact hb.2, ?_⟩
    rcases he with e | e <;> rw [e]
    · exact ⟨h.fell.1.mono fun d hd => ⟨hd.1.mono (by omega), hd.2⟩, by have := h.files; omega⟩
    · exact ⟨(h.fell.1.mono fun d hd => ⟨hd.1.mono (by omega), hd.2⟩ : All s (Qd i (c + 1) x.last)).burn, by rw [burn_files']; have := h.files; omega⟩
  · have hn1 : (r1 s x).now = put s.now (nameN (upN x)) s.files.length := create_now h1
    have hb1 := (create_ok h1).2.2.2
    have hd1 : (r1 s x).down = false := by rw [r1, createS_ok h1, chg_down (s := { s with files := s.files ++ [⟨[], 0⟩] }) hb1]; exact h.up
    have hf1 : (r1 s x).files.length ≤ c + 1 := by rw [r1, createS_ok h1, chg_files]; have := h.files; simp; exact this
    have hNP : NamesTo (upN x) (put s.now (nameN (upN x)) s.files.length) := (hN.1.mono (by omega)).put _
    have hMP : mostD (put s.now (nameN (upN x)) s.files.length) = upN x := hNP.most hmt (.inr ⟨_, get_put_same _ _ _⟩)
    have hLP : (put s.now (nameN (upN x)) s.files.length).length ≤ i + 2 := by have := length_put_le s.now (nameN (upN x)) s.files.length; have := h.now; omega
    have hP : Pd i (upN x) (put s.now (nameN (upN x)) s.files.length) := ⟨hNP, hMP, hLP⟩
    have hA1 : All (r1 s x) (Qd i (c + 1) x.last) := (h.fell.1.mono fun d hd => ⟨hd.1.mono (by omega), hd.2⟩ : All s (Qd i (c + 1) x.last)).create fun _ => Qd.of hP (by omega) (by omega)
    have h1' : ¬ createE s (nameN (upN x)) ≠ 0 := by simp [h1]
    rw [if_neg h1', if_neg h1']
    by_cases h2 : dirSyncE (r1 s x) = 0
    rotate_left
    · right
      obtain ⟨e1, e2, e3⟩ := sync_no h2 hd1
      rw [if_pos h2, if_pos h2, r2, e1]
      exact ⟨e3, hA1.burn, by rw [burn_files']; exact hf1⟩
    · obtain ⟨n2, l2, _, d2, f2⟩ := sync_now h2
      rw [hn1] at n2
      have hA2 : All (r2 s x) (Pd i (upN x)) := All.sync h2 (by rw [hn1]; exact hP)
      have h2' : ¬ dirSyncE (r1 s x) ≠ 0 := by simp [h2]
      rw [if_neg h2', if_neg h2']
      cases hh : x.has with
      | false =>
        left
        rw [if_neg (by simp : ¬ (false = true)), if_neg (by simp : ¬ (false = true))]
        refine ⟨rfl, ⟨d2, (by show x.last + 1 ≤ upN x; omega), (by show upN x ≤ _; omega), hA2, ?_, fun _ => ⟨_, (by rw [r2, n2]; exact get_put_same _ _ _)⟩, fun e => (by cases e), (by rw [r2, f2]; exact hf1), (by rw [r2, l2]; simp)⟩⟩
        rw [r2, n2]
        have := length_put_le s.now (nameN (upN x)) s.files.length
        rw [h.none hh] at this ⊢
        simp at this
        omega
      | true =>
        rw [if_pos (rfl : true = true), if_pos (rfl : true = true)]
        obtain ⟨j, hj⟩ := h.has hh
        have hne : nameN x.most ≠ nameN (upN x) := fun e => by
          have := nameN_inj (n := x.most) (m := upN x) (by have := hmt; unfold topN at this; omega) hmt e
          omega
        have hg2 : get (r2 s x).now (nameN x.most) = some j := by rw [r2, n2, get_put_other _ _ hne]; exact hj
        have hf : findE (r2 s x) (nameN x.most) = 0 := by
          unfold findE
          rw [if_neg (by simp [ready_name (show (r2 s x).down = false from d2)]), if_pos (by rw [hg2]; rfl)]
        by_cases h3 : unlinkE (r2 s x) (nameN x.most) = 0
        · left
          obtain ⟨_, b3, e3⟩ := unlink_ok h3
          have n3 : (unlinkS (r2 s x) (nameN x.most)).now = del (put s.now (nameN (upN x)) s.files.length) (nameN x.most) := by rw [unlink_now h3, r2, n2]
          have hg3 : get (del (put s.now (nameN (upN x)) s.files.length) (nameN x.most)) (nameN (upN x)) = some s.files.length := by rw [get_del_other _ (Ne.symm hne)]; exact get_put_same _ _ _
          have hP3 : Pd i (upN x) (del (put s.now (nameN (upN x)) s.files.length) (nameN x.most)) :=
            ⟨hNP.del _, (hNP.del _).most hmt (.inr ⟨_, hg3⟩), Nat.le_trans (length_del_le _ _) hLP⟩
          refine ⟨h3, ⟨?_, (by show x.last + 1 ≤ upN x; omega), (by show upN x ≤ _; omega), ?_, ?_, fun _ => ⟨_, (by rw [n3]; exact hg3)⟩, fun e => (by cases e), ?_, ?_⟩⟩
          · rw [e3, chg_down b3]; exact d2
          · rw [e3]
            exact hA2.chg fun _ => by
              show Pd i (upN x) (del (r2 s x).now _)
              rw [r2, n2]
              exact hP3
          · rw [n3]
            have := length_del_lt (d := put s.now (nameN (upN x)) s.files.length) (a := nameN x.most) (j := j) (by rw [get_put_other _ _ hne]; exact hj)
            omega
          · rw [e3, chg_files, r2, f2]; exact hf1
          · rw [e3, chg_loose b3, r2, l2]; simp
        · right
          obtain ⟨e1, e2, e3⟩ := unlink_no hf h3
          rw [e1]
          exact ⟨e3, (hA2.mono fun d hd => Qd.of hd (by omega) (by omega)).burn, by rw [burn_files', r2, f2]; exact hf1⟩
theorem Inv.up1 (h : Inv i c s x) (hx : ¬ x.most ≤ x.last) : Inv i (c + 1) s ⟨x.last + 1, x.most, x.has⟩ :=
  ⟨h.up, by show x.last + 1 ≤ x.most; omega, by have := h.cap; show x.most ≤ _; omega, h.views, h.now, h.has, h.none, by have := h.files; omega, h.loose⟩
/-- A Next on a disk that is up gives one more than the last; or the power is gone, and every directory that a crash may leave says as much as was given. -/
theorem next_inv (hi : i ≤ 200) (hc : 16 * c + 16 ≤ topN) (h : Inv i c s x) :
    (nextE s x = 0 ∧ nextN s x = x.last + 1 ∧ (nextX s x).last = x.last + 1 ∧ Inv i (c + 1) (nextS s x) (nextX s x)) ∨ (nextE s x = 2 ∧ nextN s x = 0 ∧ Fell i (c + 1) x.last (nextS s x)) := by
  have hl : ¬ topN ≤ x.last := by have := h.le; have := h.cap; omega
  have hE : nextE s x = if x.most ≤ x.last then raiseE s x else 0 := by
    unfold nextE
    rw [if_neg (by simp [h.up]), if_neg hl]
  have hS : nextS s x = if x.most ≤ x.last then raiseS s x else s := by
    unfold nextS
    rw [if_neg (by simp [h.up]), if_neg hl]
  unfold nextN nextX
  by_cases hx : x.most ≤ x.last
  · rw [if_pos hx] at hE hS
    rcases raise_inv hi hc h hx with ⟨e, hI⟩ | ⟨e, hF⟩
    · left
      rw [hE, e, hS, if_neg (by simp), if_neg (by simp), if_pos hx]
      exact ⟨rfl, rfl, rfl, hI⟩
    · right
      rw [hE, e, hS, if_pos (by simp)]
      exact ⟨rfl, rfl, hF⟩
  · rw [if_neg hx] at hE hS
    left
    rw [hE, hS, if_neg (by simp), if_neg (by simp), if_neg hx]
    exact ⟨rfl, rfl, rfl, h.up1 hx⟩
end

/-! ### A crash, and Open behind it -/
structure Rest (i c L : Nat) (s : St) : Prop where
  up : s.down = false
  loose : s.loose = []
  fuse : s.fuse = none
  names : NamesTo (16 * c) s.now
  most : L ≤ mostD s.now
  len : s.now.length ≤ i + 1
  files : s.files.length ≤ c
theorem rest_new (n : Int) : Rest 0 0 0 (newS n) := ⟨rfl, rfl, rfl, fun p hp => (by simp [newS, St.now] at hp), Nat.zero_le _, by simp [newS, St.now], by simp [newS]⟩
theorem Fell.crash {i c L : Nat} {s : St} (h : Fell i c L s) (a b : Int) : Rest (i + 1) c L (crashS s a b) := by
  obtain ⟨h1, h2, h3, h4, _⟩ := crash_all a b h.1
  exact ⟨h3, h2, h4, h1.1, h1.2.1, h1.2.2, by show (keepAll _ _ _).length ≤ c; simp [keepAll]; exact h.2⟩
theorem Rest.opened {i c L : Nat} {s : St} (h : Rest i c L s) (hc : 16 * c ≤ topN) (n : Int) : Inv i c (fuseS s n) (openX s) ∧ L ≤ (openX s).last := by
  have hnow : (fuseS s n).now = s.now := rfl
  have hM : NamesTo (mostD s.now) s.now := fun p hp => by
    obtain ⟨m, h1, h2⟩ := h.names p hp
    exact ⟨m, most_ge (mem_nums.2 ⟨p, hp, by rw [h2]; exact numN_name (by have := hc; unfold topN at this; omega)⟩), h2⟩
  have hle : mostD s.now ≤ 16 * c := by
    rcases most_mem (d := s.now) with e | hm
    · omega
    · obtain ⟨p, hp, hn⟩ := mem_nums.1 hm
      obtain ⟨m, h1, h2⟩ := h.names p hp
      rw [h2, numN_name (by have := hc; unfold topN at this; omega)] at hn
      have := Option.some.inj hn
      omega
  refine ⟨⟨h.up, Nat.le_refl _, hle, all_rest h.loose ⟨hM, rfl, by rw [hnow]; have := h.len; omega⟩, h.len, fun e => ?_, fun e => ?_, h.files, by show s.loose.length ≤ 1; rw [h.loose]; simp⟩, h.most⟩
  · rw [hnow]
    have hne : numsD s.now ≠ [] := by
      intro e'
      simp [openX, e'] at e
    rcases most_mem (d := s.now) with e0 | hm
    · obtain ⟨m, hm⟩ := List.exists_mem_of_ne_nil _ hne
      have : m = 0 := by have := most_ge hm; omega
      subst this
      obtain ⟨p, hp, hn⟩ := mem_nums.1 hm
      obtain ⟨hp1, _⟩ := numN_some hn
      show ∃ j, get s.now (nameN (mostD s.now)) = some j
      rw [e0]
      cases hg : get s.now (nameN 0) with
      | none => exact absurd hp1 (get_none.1 hg p hp)
      | some j => exact ⟨j, rfl⟩
    · obtain ⟨p, hp, hn⟩ := mem_nums.1 hm
      obtain ⟨hp1, _⟩ := numN_some hn
      show ∃ j, get s.now (nameN (mostD s.now)) = some j
      cases hg : get s.now (nameN (mostD s.now)) with
      | none => exact absurd hp1 (get_none.1 hg p hp)
      | some j => exact ⟨j, rfl⟩
  · rw [hnow]
    have he : numsD s.now = [] := by simpa [openX] using e
    cases hd : s.now with
    | nil => rfl
    | cons p r =>
      exfalso
      have hp : p ∈ s.now := by rw [hd]; exact List.mem_cons_self ..
      obtain ⟨m, h1, h2⟩ := h.names p hp
      have : m ∈ numsD s.now := mem_nums.2 ⟨p, hp, by rw [h2]; exact numN_name (by have := hc; unfold topN at this; omega)⟩
      rw [he] at this
      cases this
end Go.Proofs.YtlpeiejohgchmaaDoor.Fs
