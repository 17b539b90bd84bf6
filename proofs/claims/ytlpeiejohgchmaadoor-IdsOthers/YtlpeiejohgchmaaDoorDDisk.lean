/-
  The disk in memory: its struct, its two directories, its loose changes as functions, its files; what keeps it as it is.
-/
import Derived.Test.YtlpeiejohgchmaaDoorDDir
namespace Go.Proofs.YtlpeiejohgchmaaDoor.Fs
open Go.RowKit Go.Maps
set_option linter.unusedVariables false

/-! ### Append to a row of the call's own -/
section
variable {w : World} {S : Nat → Prop}
set_option maxRecDepth 100000 in
theorem run_append_row (t e : TypeId) (ty : TypeId) (z : Value) (size bytes : Nat) (ht : Tryd.prog.underlying t = some (.slice e)) (hi : (Tryd.prog.info? e).map (fun i => (i.zero, i.size, i.bytes)) = some (some z, size, bytes)) (hzs : z.cells.size = size) (hsz : 0 < size)
    (v : Value) (n : Nat) (xs : List Value) (hown : Row w S e size v n xs) (a : Addr) (m c : Nat) (news : List Value) (hl : news.length = m * size) (hnews : ∀ j u, news[j]? = some u → w.cell? (a.add j) = some u) (h1 : ∀ u ∈ news, u.oneCell' = true)
    (h63 : n + m ≤ 9223372036854775807) (hbytes : (n + m) * bytes ≤ 140737488355328) :
    ∃ v' w', (Builtin.append_ #[t, t] ty #[v, .slice (some a) m c]).run Tryd.prog w = .ok v' w' ∧ Row w' (Up S w w') e size v' (n + m) (xs ++ news) ∧ Keep (fun k => v.ownBlock = some k) w w' ∧ New w v.ownBlock v'.ownBlock := by
  obtain ⟨i0, hi, hz0, hz1, hz2⟩ := info_parts hi
  obtain ⟨v', w', hr, h2, h3, _, h5⟩ := run_append_own_at (P := Tryd.prog) w 0 t ty e i0 z size bytes ht hi hz0 hz1 hz2 hzs hsz v n xs hown.1 a m c news hl hnews h1 (by simp only [maxLen]; omega) hbytes (Nat.zero_le _)
  have k : Keep (fun k => v.ownBlock = some k) w w' := (Keep.refl _ w).grown h3 (fun k hk _ => hk)
  have hN : New w v.ownBlock v'.ownBlock := fun k hk => by
    rcases h5 with h5 | h5
    · exact .inl (h5.symm.trans hk)
    · rw [h5] at hk
      injection hk with hk
      exact .inr (by omega)
  refine ⟨v', w', hr, ⟨h2, fun b hb => ?_⟩, k, hN⟩
  rcases hN b hb with h | h
  · exact .inl (hown.2 b h)
  · exact .inr ⟨h, (h2.lt b hb).2⟩
end

/-! ### Changes as functions -/
/-- The function v is the change c. -/
def Clo (w : World) (S : Nat → Prop) (fb : Nat → Nat) (v : Value) : Chg → Prop
  | .mk a i => ∃ p q A, v = .func (.func 31) #[] #[.pointer (some ⟨p, 0, none⟩), .pointer (some ⟨q, 0, none⟩)] ∧ At w p 56 #[.pointer (some ⟨fb i, 0, none⟩)] ∧ At w q 9 #[.string A] ∧ nm A = a ∧ A.size ≤ 80 ∧ S p ∧ S q
  | .ren a b => False
  | .unl a => ∃ q A, v = .func (.func 47) #[] #[.pointer (some ⟨q, 0, none⟩)] ∧ At w q 9 #[.string A] ∧ nm A = a ∧ A.size ≤ 80 ∧ S q
section
variable {w w' : World} {S : Nat → Prop} {fb : Nat → Nat} {v : Value} {c : Chg}
theorem Clo.keep {T : Nat → Prop} (h : Clo w S fb v c) (k : Keep T w w') (hT : ∀ b t cs, S b → At w b t cs → t = 9 ∨ t = 56 → ¬ T b) : Clo w' S fb v c := by
  cases c with
  | mk a i => obtain ⟨p, q, A, e, hp, hq, r1, r2, s1, s2⟩ := h; exact ⟨p, q, A, e, hp.keep k (hT p _ _ s1 hp (.inr rfl)), hq.keep k (hT q _ _ s2 hq (.inl rfl)), r1, r2, s1, s2⟩
  | ren a b => exact h.elim
  | unl a => obtain ⟨q, A, e, hq, r1, r2, s2⟩ := h; exact ⟨q, A, e, hq.keep k (hT q _ _ s2 hq (.inl rfl)), r1, r2, s2⟩
theorem Clo.mono {S' : Nat → Prop} (h : Clo w S fb v c) (hS : ∀ b, b < w.heap.size → S b → S' b) : Clo w S' fb v c := by
  cases c with
  | mk a i => obtain ⟨p, q, A, e, hp, hq, r1, r2, s1, s2⟩ := h; exact ⟨p, q, A, e, hp, hq, r1, r2, hS p hp.lt s1, hS q hq.lt s2⟩
  | ren a b => exact h.elim
  | unl a => obtain ⟨q, A, e, hq, r1, r2, s2⟩ := h; exact ⟨q, A, e, hq, r1, r2, hS q hq.lt s2⟩
theorem Clo.congr {gb : Nat → Nat} {n : Nat} {d : Dir} (h : Clo w S fb v c) (hc : Fits n d c) (hg : ∀ i, i < n → fb i = gb i) : Clo w S gb v c := by
  cases c with
  | mk a i => obtain ⟨p, q, A, e, hp, r⟩ := h; exact ⟨p, q, A, e, by rw [← hg i hc.1]; exact hp, r⟩
  | ren a b => exact h
  | unl a => exact h
end
/-- The functions are the changes, one by one. -/
def Clos (w : World) (S : Nat → Prop) (fb : Nat → Nat) (cl : List Value) (l : List Chg) : Prop := cl.length = l.length ∧ ∀ (i : Nat) v c, cl[i]? = some v → l[i]? = some c → Clo w S fb v c
section
variable {w w' : World} {S : Nat → Prop} {fb : Nat → Nat} {cl : List Value} {l : List Chg}
theorem Clos.nil (w : World) (S : Nat → Prop) (fb : Nat → Nat) : Clos w S fb [] [] := ⟨rfl, fun i v c h => by simp at h⟩
theorem Clos.keep {T : Nat → Prop} (h : Clos w S fb cl l) (k : Keep T w w') (hT : ∀ b t cs, S b → At w b t cs → t = 9 ∨ t = 56 → ¬ T b) : Clos w' S fb cl l := ⟨h.1, fun i v c h1 h2 => (h.2 i v c h1 h2).keep k hT⟩
theorem Clos.mono {S' : Nat → Prop} (h : Clos w S fb cl l) (hS : ∀ b, b < w.heap.size → S b → S' b) : Clos w S' fb cl l := ⟨h.1, fun i v c h1 h2 => (h.2 i v c h1 h2).mono hS⟩
theorem Clos.congr {gb : Nat → Nat} {n : Nat} {d : Dir} (h : Clos w S fb cl l) (hc : Chain n d l) (hg : ∀ i, i < n → fb i = gb i) : Clos w S gb cl l := ⟨h.1, fun i v c h1 h2 => (h.2 i v c h1 h2).congr (hc.fits i c h2) hg⟩
theorem Clos.snoc {v : Value} {c : Chg} (h : Clos w S fb cl l) (hv : Clo w S fb v c) : Clos w S fb (cl ++ [v]) (l ++ [c]) := by
  refine ⟨by simp [h.1], fun i u x h1 h2 => ?_⟩
  by_cases hi : i < cl.length
  · rw [List.getElem?_append_left hi] at h1
    rw [List.getElem?_append_left (by rw [← h.1]; exact hi)] at h2
    exact h.2 i u x h1 h2
  · rw [List.getElem?_append_right (by omega)] at h1
    rw [List.getElem?_append_right (by rw [← h.1]; omega)] at h2
    have e1 : i - cl.length = 0 := by have := (List.getElem?_eq_some_iff.1 h1).1; simp at this; omega
    have e2 : i - l.length = 0 := by rw [← h.1]; exact e1
    rw [e1] at h1
    rw [e2] at h2
    have : v = u := by simpa using h1
    have : c = x := by simpa using h2
    subst_vars
    exact hv
theorem Clos.one (h : Clos w S fb cl l) : ∀ u ∈ cl, u.oneCell' = true := by
  intro u hu
  obtain ⟨i, hi, rfl⟩ := List.getElem_of_mem hu
  have hc : l[i]? = some (l[i]'(by rw [← h.1]; exact hi)) := List.getElem?_eq_getElem _
  have := h.2 i _ _ (List.getElem?_eq_getElem hi) hc
  revert this
  generalize l[i]'(by rw [← h.1]; exact hi) = c
  generalize cl[i] = v
  intro this
  cases c with
  | mk a j => obtain ⟨p, q, A, e, _⟩ := this; rw [e]; rfl
  | ren a b => exact this.elim
  | unl a => obtain ⟨q, A, e, _⟩ := this; rw [e]; rfl
end

/-! ### Files -/
structure FilesAt (w : World) (S : Nat → Prop) (fb : Nat → Nat) (rw : Nat → Value) (fs : List File) : Prop where
  at_ : ∀ i x, fs[i]? = some x → At w (fb i) 63 #[rw i, .int .i64 (x.sure : Int)]
  own : ∀ i x, fs[i]? = some x → Own w (rw i) x.bytes
  inS : ∀ i, i < fs.length → S (fb i)
  rowS : ∀ i b, i < fs.length → (rw i).ownBlock = some b → S b
  inj : ∀ i j, i < fs.length → j < fs.length → fb i = fb j → i = j
  apart : ∀ i j b, i < fs.length → j < fs.length → (rw i).ownBlock = some b → (rw j).ownBlock = some b → i = j
section
variable {w w' : World} {S : Nat → Prop} {fb : Nat → Nat} {rw_ : Nat → Value} {fs : List File}
theorem getElem?_some_lt {α : Type} {l : List α} {i : Nat} (h : i < l.length) : ∃ x, l[i]? = some x := ⟨_, List.getElem?_eq_getElem h⟩
theorem FilesAt.keep {T : Nat → Prop} (h : FilesAt w S fb rw_ fs) (k : Keep T w w') (hT : ∀ b t cs, S b → At w b t cs → t = 5 ∨ t = 63 → ¬ T b) : FilesAt w' S fb rw_ fs :=
  ⟨fun i x hx => (h.at_ i x hx).keep k (hT _ _ _ (h.inS i (List.getElem?_eq_some_iff.1 hx).1) (h.at_ i x hx) (.inr rfl)),
   fun i x hx => (h.own i x hx).keep k (fun b hb => by obtain ⟨cs, hc⟩ := owns_at (h.own i x hx).1 hb; exact hT b 5 cs (h.rowS i b (List.getElem?_eq_some_iff.1 hx).1 hb) hc (.inl rfl)),
   h.inS, h.rowS, h.inj, h.apart⟩
theorem FilesAt.lt (h : FilesAt w S fb rw_ fs) (i : Nat) (hi : i < fs.length) : fb i < w.heap.size := by
  obtain ⟨x, hx⟩ := getElem?_some_lt hi
  exact (h.at_ i x hx).lt
theorem FilesAt.mono {S' : Nat → Prop} (h : FilesAt w S fb rw_ fs) (hS : ∀ b, b < w.heap.size → S b → S' b) : FilesAt w S' fb rw_ fs :=
  ⟨h.at_, h.own, fun i hi => hS _ (h.lt i hi) (h.inS i hi), fun i b hi hb => by
    obtain ⟨x, hx⟩ := getElem?_some_lt hi
    exact hS b ((h.own i x hx).lt b hb) (h.rowS i b hi hb), h.inj, h.apart⟩
end

/-! ### The disk -/
def cellsFS (s : St) (a b : Option Nat) (lv : Value) : Array Value :=
  #[.int .i64 (s.room : Int), .map a, .map b, lv, .bool s.fuse.isSome, .int .i64 ((s.fuse.getD 0 : Nat) : Int), .bool s.down]
/-- Where all of it lies. -/
structure Lay where
  now : Option Nat
  sure : Option Nat
  lv : Value
  cl : List Value
  fb : Nat → Nat
  row : Nat → Value
structure Parts (w : World) (S : Nat → Prop) (f : Nat) (s : St) (d : Dir) (L : Lay) : Prop where
  fs : At w f 48 (cellsFS s L.now L.sure L.lv)
  inS : S f
  both : L.now = none ↔ L.sure = none
  two : ∀ b, L.now = some b → L.sure ≠ some b
  made : s.loose ≠ [] → L.sure ≠ none
  now : MapAt w S L.now d L.fb
  sure : MapAt w S L.sure s.sure L.fb
  loose : Row w S 65 1 L.lv L.cl.length L.cl
  clos : Clos w S L.fb L.cl s.loose
  files : FilesAt w S L.fb L.row s.files
def Disk (w : World) (S : Nat → Prop) (f : Nat) (s : St) : Prop := (∃ L, Parts w S f s s.now L) ∧ Good s
theorem Disk.good {w : World} {S : Nat → Prop} {f : Nat} {s : St} (h : Disk w S f s) : Good s := h.2
section
variable {w w' : World} {S T : Nat → Prop} {f : Nat} {s : St} {d : Dir} {L : Lay}
/-- Nothing of the disk has turned. -/
theorem Parts.keep (h : Parts w S f s d L) (k : Keep T w w') (hT : ∀ b, S b → ¬ T b) : Parts w' S f s d L :=
  ⟨h.fs.keep k (hT f h.inS), h.inS, h.both, h.two, h.made, h.now.keep k (fun b _ hb _ => hT b hb), h.sure.keep k (fun b _ hb _ => hT b hb), h.loose.keep k (fun b _ hb _ => hT b hb), h.clos.keep k (fun b _ _ hb _ _ => hT b hb), h.files.keep k (fun b _ _ hb _ _ => hT b hb)⟩
theorem Parts.mono {S' : Nat → Prop} (h : Parts w S f s d L) (hS : ∀ b, b < w.heap.size → S b → S' b) : Parts w S' f s d L :=
  ⟨h.fs, hS f h.fs.lt h.inS, h.both, h.two, h.made, h.now.mono hS, h.sure.mono hS, h.loose.mono hS, h.clos.mono hS, h.files.mono hS⟩
theorem Disk.keep (h : Disk w S f s) (k : Keep T w w') (hT : ∀ b, S b → ¬ T b) : Disk w' S f s := by
  obtain ⟨⟨L, hp⟩, hg⟩ := h
  exact ⟨⟨L, hp.keep k hT⟩, hg⟩
theorem Disk.mono {S' : Nat → Prop} (h : Disk w S f s) (hS : ∀ b, b < w.heap.size → S b → S' b) : Disk w S' f s := by
  obtain ⟨⟨L, hp⟩, hg⟩ := h
  exact ⟨⟨L, hp.mono hS⟩, hg⟩
theorem not_map_at {w : World} {b : Nat} {t : TypeId} {cs : Array Value} (h : At w b t cs) : ¬ MapBlk w b := by
  rintro ⟨es, c, he⟩
  unfold At at h
  rw [h] at he
  cases he
/-- The blocks of T are maps, or the disk's struct, or rows of functions. -/
def Off (w : World) (T : Nat → Prop) : Prop := ∀ b, T b → b < w.heap.size → MapBlk w b ∨ ∃ t cs, At w b t cs ∧ (t = 48 ∨ t = 65)
theorem Off.ne {b : Nat} {t : TypeId} {cs : Array Value} (h : Off w T) (hb : At w b t cs) (h1 : t ≠ 48) (h2 : t ≠ 65) : ¬ T b := by
  intro ht
  rcases h b ht hb.lt with hm | ⟨t', cs', h3, h4⟩
  · exact not_map_at hb hm
  · rcases h4 with rfl | rfl
    · exact At.ne hb h3 h1 rfl
    · exact At.ne hb h3 h2 rfl
theorem Clos.off {fb : Nat → Nat} {cl : List Value} {l : List Chg} (h : Clos w S fb cl l) (k : Keep T w w') (hT : Off w T) : Clos w' S fb cl l :=
  h.keep k (fun b t cs _ hb ht => hT.ne hb (by rcases ht with rfl | rfl <;> decide) (by rcases ht with rfl | rfl <;> decide))
theorem Clo.off {fb : Nat → Nat} {v : Value} {c : Chg} (h : Clo w S fb v c) (k : Keep T w w') (hT : Off w T) : Clo w' S fb v c :=
  h.keep k (fun b t cs _ hb ht => hT.ne hb (by rcases ht with rfl | rfl <;> decide) (by rcases ht with rfl | rfl <;> decide))
theorem FilesAt.off {fb : Nat → Nat} {rw_ : Nat → Value} {fs : List File} (h : FilesAt w S fb rw_ fs) (k : Keep T w w') (hT : Off w T) : FilesAt w' S fb rw_ fs :=
  h.keep k (fun b t cs _ hb ht => hT.ne hb (by rcases ht with rfl | rfl <;> decide) (by rcases ht with rfl | rfl <;> decide))
/-- The struct's own cells have turned: all but the directories and the loose changes is as it was. -/
theorem Parts.turn {s' : St} (h : Parts w S f s d L) (k : Keep (· = f) w w') (hf : At w' f 48 (cellsFS s' L.now L.sure L.lv)) (h1 : s'.sure = s.sure) (h2 : s'.loose = s.loose) (h3 : s'.files = s.files) : Parts w' S f s' d L := by
  have hO : Off w (· = f) := fun b e _ => by subst e; exact .inr ⟨48, _, h.fs, .inl rfl⟩
  refine ⟨hf, h.inS, h.both, h.two, by rw [h2]; exact h.made, ?_, ?_, h.loose.keep k ?_, ?_, ?_⟩
  · exact h.now.keep k (fun b _ _ hb e => not_map_at h.fs (e ▸ hb))
  · rw [h1]; exact h.sure.keep k (fun b _ _ hb e => not_map_at h.fs (e ▸ hb))
  · exact fun b cs _ hb e => At.ne hb h.fs (by decide) e
  · rw [h2]; exact h.clos.off k hO
  · rw [h3]; exact h.files.off k hO
theorem lv_at (h : Parts w S f s d L) {b : Nat} (hb : L.lv.ownBlock = some b) : ∃ cs, At w b 65 cs := owns_at h.loose.1 hb
theorem map_blk {m : Option Nat} {b : Nat} {fb : Nat → Nat} (h : MapAt w S m d fb) (hm : m = some b) : MapBlk w b := by
  rcases h with ⟨h, _⟩ | ⟨b', hb, _, ho⟩
  · rw [h] at hm; cases hm
  · rw [hb] at hm; injection hm with hm; subst hm; exact owns_blk ho
theorem map_in {m : Option Nat} {b : Nat} {fb : Nat → Nat} (h : MapAt w S m d fb) (hm : m = some b) : S b := by
  rcases h with ⟨h, _⟩ | ⟨b', hb, hs, ho⟩
  · rw [h] at hm; cases hm
  · rw [hb] at hm; injection hm with hm; subst hm; exact hs
end

end Go.Proofs.YtlpeiejohgchmaaDoor.Fs
