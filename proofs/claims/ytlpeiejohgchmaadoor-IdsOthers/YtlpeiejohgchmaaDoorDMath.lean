/-
  The model of the disk: directories as rising lists of names, changes, files, and what each call makes of them. Plain lists and numbers.
-/
import Derived.Test.YtlpeiejohgchmaaDoorRows
import Derived.WideShapes
namespace Go.Proofs.YtlpeiejohgchmaaDoor.Fs

abbrev Nm := List UInt8
abbrev Dir := List (Nm × Nat)

/-! ### Directories -/
def ins (x : Nm × Nat) : Dir → Dir
  | [] => [x]
  | y :: r => if bytesBefore x.1 y.1 then x :: y :: r else y :: ins x r
def del (d : Dir) (a : Nm) : Dir := d.filter fun p => !(p.1 == a)
def put (d : Dir) (a : Nm) (i : Nat) : Dir := ins (a, i) (del d a)
def get (d : Dir) (a : Nm) : Option Nat := (d.find? fun p => p.1 == a).map (·.2)

set_option linter.unusedVariables false
theorem ins_perm (x : Nm × Nat) : ∀ d : Dir, (ins x d).Perm (x :: d)
  | [] => .refl _
  | y :: r => by
    unfold ins
    split
    · exact .refl _
    · exact ((ins_perm x r).cons y).trans (.swap x y r)
theorem mem_ins {x p : Nm × Nat} {d : Dir} : p ∈ ins x d ↔ p = x ∨ p ∈ d := by rw [(ins_perm x d).mem_iff]; simp
theorem mem_del {p : Nm × Nat} {d : Dir} {a : Nm} : p ∈ del d a ↔ p ∈ d ∧ p.1 ≠ a := by simp [del]
theorem mem_put {p : Nm × Nat} {d : Dir} {a : Nm} {i : Nat} : p ∈ put d a i ↔ p = (a, i) ∨ (p ∈ d ∧ p.1 ≠ a) := by rw [put, mem_ins, mem_del]

theorem get_none {d : Dir} {a : Nm} : get d a = none ↔ ∀ p ∈ d, p.1 ≠ a := by simp [get]
theorem get_mem {d : Dir} {a : Nm} {i : Nat} (h : get d a = some i) : (a, i) ∈ d := by
  unfold get at h
  obtain ⟨p, hp, rfl⟩ := Option.map_eq_some_iff.1 h
  have h1 := List.mem_of_find?_eq_some hp
  have h2 := List.find?_some hp
  simp at h2
  subst h2
  exact h1
theorem get_of_mem {d : Dir} (hn : (d.map (·.1)).Nodup) {a : Nm} {i : Nat} (h : (a, i) ∈ d) : get d a = some i := by
  induction d with
  | nil => simp at h
  | cons y r ih =>
    simp only [List.map_cons, List.nodup_cons] at hn
    rcases List.mem_cons.1 h with e | hr
    · subst e; simp [get]
    · have hne : y.1 ≠ a := fun e => hn.1 (e ▸ List.mem_map.2 ⟨(a, i), hr, rfl⟩)
      have : get (y :: r) a = get r a := by simp [get, hne]
      rw [this]
      exact ih hn.2 hr
theorem get_del_same (d : Dir) (a : Nm) : get (del d a) a = none := get_none.2 fun p hp => (mem_del.1 hp).2
theorem find_filter {α : Type} {f g : α → Bool} (h : ∀ p, f p = true → g p = true) : ∀ l : List α, (l.filter g).find? f = l.find? f
  | [] => rfl
  | y :: r => by
    cases hg : g y
    · have hf : f y = false := by
        cases hf : f y
        · rfl
        · rw [h y hf] at hg; cases hg
      simp [hg, hf, find_filter h r]
    · cases hf : f y <;> simp [hg, hf, find_filter h r]
theorem get_del_other (d : Dir) {a b : Nm} (h : b ≠ a) : get (del d a) b = get d b := by
  unfold get del
  rw [find_filter]
  intro p hp
  simp at hp ⊢
  subst hp
  exact h
theorem find_ins_hit {f : Nm × Nat → Bool} {x : Nm × Nat} (hx : f x = true) : ∀ l : Dir, (∀ p ∈ l, f p = false) → (ins x l).find? f = some x
  | [], _ => by simp [ins, hx]
  | y :: r, h => by
    unfold ins
    split
    · simp [hx]
    · simp [h y (by simp), find_ins_hit hx r (fun p hp => h p (by simp [hp]))]
theorem find_ins_miss {f : Nm × Nat → Bool} {x : Nm × Nat} (hx : f x = false) : ∀ l : Dir, (ins x l).find? f = l.find? f
  | [] => by simp [ins, hx]
  | y :: r => by
    unfold ins
    split
    · simp [hx]
    · cases hy : f y <;> simp [hy, find_ins_miss hx r]
theorem get_put_same (d : Dir) (a : Nm) (i : Nat) : get (put d a i) a = some i := by
  unfold get put
  rw [find_ins_hit (by simp) _ (fun p hp => by simpa using (mem_del.1 hp).2)]
  rfl
theorem get_put_other (d : Dir) {a b : Nm} (i : Nat) (h : b ≠ a) : get (put d a i) b = get d b := by
  unfold get put
  rw [find_ins_miss (by simpa using h.symm)]
  exact get_del_other d h
theorem length_ins (x : Nm × Nat) (d : Dir) : (ins x d).length = d.length + 1 := (ins_perm x d).length_eq
theorem length_del_le (d : Dir) (a : Nm) : (del d a).length ≤ d.length := List.length_filter_le _ _
theorem length_put_le (d : Dir) (a : Nm) (i : Nat) : (put d a i).length ≤ d.length + 1 := by
  rw [put, length_ins]
  have := length_del_le d a
  omega

/-! ### Changes -/
inductive Chg where
  | mk (a : Nm) (i : Nat)
  | ren (a b : Nm)
  | unl (a : Nm)
def app (d : Dir) : Chg → Dir
  | .mk a i => put d a i
  | .ren a b => del (put d b ((get d a).getD 0)) a
  | .unl a => del d a
theorem length_app_le (d : Dir) (c : Chg) : (app d c).length ≤ d.length + 1 := by
  cases c with
  | mk a i => exact length_put_le d a i
  | ren a b => exact Nat.le_trans (length_del_le _ _) (length_put_le d b _)
  | unl a => exact Nat.le_trans (length_del_le _ _) (Nat.le_succ _)
theorem length_apps_le : ∀ (l : List Chg) (d : Dir), (l.foldl app d).length ≤ d.length + l.length
  | [], d => Nat.le_refl _
  | c :: r, d => by
    have h1 := length_apps_le r (app d c)
    have h2 := length_app_le d c
    simp only [List.foldl_cons, List.length_cons]
    omega

/-- No name twice, no file twice, all files among the first n. -/
structure Tidy (n : Nat) (d : Dir) : Prop where
  lt : ∀ p ∈ d, p.2 < n
  ids : (d.map (·.2)).Nodup
  names : (d.map (·.1)).Nodup
theorem Tidy.nil (n : Nat) : Tidy n [] := ⟨by simp, by simp, by simp⟩
theorem Tidy.mono {n m : Nat} {d : Dir} (h : Tidy n d) (hm : n ≤ m) : Tidy m d := ⟨fun p hp => Nat.lt_of_lt_of_le (h.lt p hp) hm, h.ids, h.names⟩
theorem Tidy.del {n : Nat} {d : Dir} (h : Tidy n d) (a : Nm) : Tidy n (del d a) :=
  ⟨fun p hp => h.lt p (mem_del.1 hp).1, h.ids.sublist (List.filter_sublist.map _), h.names.sublist (List.filter_sublist.map _)⟩
theorem Tidy.ins {n : Nat} {d : Dir} (h : Tidy n d) {a : Nm} {i : Nat} (hi : i < n) (h1 : ∀ p ∈ d, p.1 ≠ a) (h2 : ∀ p ∈ d, p.2 ≠ i) : Tidy n (ins (a, i) d) := by
  refine ⟨fun p hp => ?_, ?_, ?_⟩
  · rcases mem_ins.1 hp with e | hp
    · subst e; exact hi
    · exact h.lt p hp
  · rw [((ins_perm (a, i) d).map (·.2)).nodup_iff]
    simp only [List.map_cons, List.nodup_cons]
    exact ⟨fun hm => by obtain ⟨p, hp, e⟩ := List.mem_map.1 hm; exact h2 p hp e, h.ids⟩
  · rw [((ins_perm (a, i) d).map (·.1)).nodup_iff]
    simp only [List.map_cons, List.nodup_cons]
    exact ⟨fun hm => by obtain ⟨p, hp, e⟩ := List.mem_map.1 hm; exact h1 p hp e, h.names⟩
theorem same_id {d : Dir} (h : (d.map (·.2)).Nodup) {p q : Nm × Nat} (hp : p ∈ d) (hq : q ∈ d) (e : p.2 = q.2) : p = q := by
  induction d with
  | nil => simp at hp
  | cons y r ih =>
    simp only [List.map_cons, List.nodup_cons] at h
    rcases List.mem_cons.1 hp with e1 | hp'
    · rcases List.mem_cons.1 hq with e2 | hq'
      · rw [e1, e2]
      · subst e1; exact absurd (List.mem_map.2 ⟨q, hq', e.symm⟩) h.1
    · rcases List.mem_cons.1 hq with e2 | hq'
      · subst e2; exact absurd (List.mem_map.2 ⟨p, hp', e⟩) h.1
      · exact ih h.2 hp' hq'
theorem Tidy.same {n : Nat} {d : Dir} (h : Tidy n d) {p q : Nm × Nat} (hp : p ∈ d) (hq : q ∈ d) (e : p.2 = q.2) : p = q := same_id h.ids hp hq e

/-- May the change be done to the directory? -/
def Fits (n : Nat) (d : Dir) : Chg → Prop
  | .mk a i => i < n ∧ (∀ p ∈ d, p.2 ≠ i) ∧ get d a = none
  | .ren a b => (∃ i, get d a = some i) ∧ a ≠ b
  | .unl _ => True
theorem Fits.mono {n m : Nat} {d : Dir} {c : Chg} (h : Fits n d c) (hm : n ≤ m) : Fits m d c := by
  cases c with
  | mk a i => exact ⟨Nat.lt_of_lt_of_le h.1 hm, h.2⟩
  | ren a b => exact h
  | unl a => trivial
theorem tidy_app {n : Nat} {d : Dir} (h : Tidy n d) {c : Chg} (hc : Fits n d c) : Tidy n (app d c) := by
  cases c with
  | mk a i =>
    obtain ⟨h1, h2, _⟩ := hc
    exact (h.del a).ins h1 (fun p hp => (mem_del.1 hp).2) (fun p hp => h2 p (mem_del.1 hp).1)
  | ren a b =>
    obtain ⟨⟨i, hi⟩, hne⟩ := hc
    have hm := get_mem hi
    have hP : (app d (.ren a b)).Perm ((b, i) :: del (del d b) a) := by
      show (del (put d b ((get d a).getD 0)) a).Perm _
      rw [hi]
      have h1 : (del (put d b i) a).Perm (del ((b, i) :: del d b) a) := (ins_perm (b, i) (del d b)).filter _
      have h2 : del ((b, i) :: del d b) a = (b, i) :: del (del d b) a := by
        have : ((b == a) = false) := by simpa using Ne.symm hne
        simp [del, this]
      rw [h2] at h1
      exact h1
    have hD := (h.del b).del a
    refine ⟨fun p hp => ?_, ?_, ?_⟩
    · rcases List.mem_cons.1 (hP.mem_iff.1 hp) with e | hp
      · subst e; exact h.lt (a, i) hm
      · exact hD.lt p hp
    · rw [(hP.map (·.2)).nodup_iff]
      simp only [List.map_cons, List.nodup_cons]
      refine ⟨fun hx => ?_, hD.ids⟩
      obtain ⟨p, hp, e⟩ := List.mem_map.1 hx
      obtain ⟨hp1, hp2⟩ := mem_del.1 hp
      have := h.same (mem_del.1 hp1).1 hm e
      rw [this] at hp2
      exact hp2 rfl
    · rw [(hP.map (·.1)).nodup_iff]
      simp only [List.map_cons, List.nodup_cons]
      refine ⟨fun hx => ?_, hD.names⟩
      obtain ⟨p, hp, e⟩ := List.mem_map.1 hx
      exact (mem_del.1 (mem_del.1 hp).1).2 e
  | unl a => exact h.del a

/-- May the changes be done, one behind the other? -/
def Chain (n : Nat) : Dir → List Chg → Prop
  | _, [] => True
  | d, c :: r => Fits n d c ∧ Chain n (app d c) r
theorem Chain.mono {n m : Nat} (hm : n ≤ m) : ∀ {l : List Chg} {d : Dir}, Chain n d l → Chain m d l
  | [], _, _ => trivial
  | _ :: _, _, h => ⟨h.1.mono hm, Chain.mono hm h.2⟩
theorem Chain.snoc {n : Nat} {c : Chg} : ∀ {l : List Chg} {d : Dir}, Chain n d l → Fits n (l.foldl app d) c → Chain n d (l ++ [c])
  | [], _, _, h => ⟨h, trivial⟩
  | _ :: _, _, h, h' => ⟨h.1, Chain.snoc h.2 h'⟩
theorem Chain.take {n : Nat} : ∀ (k : Nat) {l : List Chg} {d : Dir}, Chain n d l → Chain n d (l.take k)
  | 0, _, _, _ => trivial
  | _ + 1, [], _, _ => trivial
  | k + 1, _ :: _, _, h => ⟨h.1, Chain.take k h.2⟩
theorem Chain.fits {n : Nat} : ∀ {l : List Chg} {d : Dir}, Chain n d l → ∀ (k : Nat) (c : Chg), l[k]? = some c → Fits n ((l.take k).foldl app d) c
  | [], _, _, k, c, hk => by simp at hk
  | x :: r, d, h, 0, c, hk => by
    have : x = c := by simpa using hk
    subst this
    exact h.1
  | x :: r, d, h, k + 1, c, hk => by
    have := Chain.fits h.2 k c (by simpa using hk)
    simpa using this
theorem Chain.tidy {n : Nat} : ∀ {l : List Chg} {d : Dir}, Tidy n d → Chain n d l → Tidy n (l.foldl app d)
  | [], _, h, _ => h
  | _ :: r, _, h, hc => Chain.tidy (l := r) (tidy_app h hc.1) hc.2

/-! ### Names -/
def okByte (c : UInt8) : Bool := decide (33 ≤ c.toNat) && decide (c.toNat ≤ 126) && !(decide (c.toNat = 47))
def isNm (a : Nm) : Bool := decide (1 ≤ a.length) && decide (a.length ≤ 80) && a.all okByte
theorem isNm_length {a : Nm} (h : isNm a = true) : a.length ≤ 80 := by
  simp [isNm] at h
  exact h.1.2

/-! ### The disk -/
structure File where
  bytes : List Nat
  sure : Nat
structure St where
  room : Nat
  sure : Dir
  loose : List Chg
  files : List File
  fuse : Option Nat
  down : Bool
def St.now (s : St) : Dir := s.loose.foldl app s.sure
def St.file (s : St) (i : Nat) : File := s.files.getD i ⟨[], 0⟩
def St.used (s : St) : Nat := (s.now.map fun p => (s.file p.2).bytes.length).sum
/-- How much there is of it all. -/
def St.bulk (s : St) : Nat := s.files.length + s.sure.length + s.loose.length
structure Good (s : St) : Prop where
  tidy : Tidy s.files.length s.sure
  chain : Chain s.files.length s.sure s.loose
  sure : ∀ x ∈ s.files, x.sure ≤ x.bytes.length
  byte : ∀ x ∈ s.files, ∀ c ∈ x.bytes, c < 256
  len : ∀ x ∈ s.files, x.bytes.length ≤ 16777216
  room : s.room ≤ 16777216
  fuse : ∀ n, s.fuse = some n → n ≤ 9223372036854775807
  bulk : s.bulk ≤ 1000000
theorem Good.now {s : St} (h : Good s) : Tidy s.files.length s.now := Chain.tidy h.tidy h.chain
theorem Good.scalar {s t : St} (h : Good s) (h1 : t.sure = s.sure) (h2 : t.loose = s.loose) (h3 : t.files = s.files) (h4 : t.room ≤ 16777216) (h5 : ∀ n, t.fuse = some n → n ≤ 9223372036854775807) : Good t :=
  ⟨by rw [h1, h3]; exact h.tidy, by rw [h1, h2, h3]; exact h.chain, by rw [h3]; exact h.sure, by rw [h3]; exact h.byte, by rw [h3]; exact h.len, h4, h5, by unfold St.bulk; rw [h1, h2, h3]; exact h.bulk⟩
theorem now_length (s : St) : s.now.length ≤ s.bulk := by
  have := length_apps_le s.loose s.sure
  unfold St.now St.bulk
  omega
theorem file_mem {s : St} {i : Nat} (h : i < s.files.length) : s.file i ∈ s.files := by
  unfold St.file
  rw [List.getD_eq_getElem?_getD, List.getElem?_eq_getElem h]
  exact List.getElem_mem h
theorem sum_le {α : Type} (f : α → Nat) (m : Nat) : ∀ l : List α, (∀ x ∈ l, f x ≤ m) → (l.map f).sum ≤ l.length * m
  | [], _ => by simp
  | y :: r, h => by
    have h1 := h y (by simp)
    have h2 := sum_le f m r (fun x hx => h x (by simp [hx]))
    simp only [List.map_cons, List.sum_cons, List.length_cons, Nat.succ_mul]
    omega
theorem Good.used_le {s : St} (h : Good s) : s.used ≤ 16777216000000 := by
  have h1 := sum_le (fun p : Nm × Nat => (s.file p.2).bytes.length) 16777216 s.now (fun p hp => h.len _ (file_mem (h.now.lt p hp)))
  have h2 := now_length s
  have h3 := h.bulk
  have h4 : s.now.length * 16777216 ≤ 1000000 * 16777216 := Nat.mul_le_mul_right _ (by omega)
  unfold St.used
  omega

/-! ### Calls -/
def burnE (s : St) : Nat := if s.fuse = some 0 then 2 else 0
def burnS (s : St) : St := match s.fuse with
  | none => s
  | some 0 => { s with down := true }
  | some (n + 1) => { s with fuse := some n }
def newS (room : Int) : St := ⟨(min (max room 0) 16777216).toNat, [], [], [], none, false⟩
def roomS (s : St) (n : Int) : St := { s with room := (min (max n 0) 16777216).toNat }
def fuseS (s : St) (n : Int) : St := { s with fuse := some (max n 0).toNat }
def readyE (s : St) (ns : List Nm) : Nat := if ns.all isNm then (if s.down then 2 else 0) else 1
def findE (s : St) (a : Nm) : Nat := if readyE s [a] ≠ 0 then readyE s [a] else if (get s.now a).isSome then 0 else 4
/-- A change of the directory, if the power lasts. -/
def chgS (s : St) (c : Chg) : St := if burnE s = 0 then { burnS s with loose := s.loose ++ [c] } else burnS s
def createE (s : St) (a : Nm) : Nat := if readyE s [a] ≠ 0 then readyE s [a] else if (get s.now a).isSome then 5 else if 256 ≤ s.now.length then 3 else burnE s
def createS (s : St) (a : Nm) : St := if readyE s [a] ≠ 0 then s else if (get s.now a).isSome then s else if 256 ≤ s.now.length then s else
  if burnE s = 0 then chgS { s with files := s.files ++ [⟨[], 0⟩] } (.mk a s.files.length) else burnS s
def setFile (s : St) (i : Nat) (x : File) : St := { s with files := s.files.set i x }
def appendE (s : St) (a : Nm) (b : List Nat) : Nat := if findE s a ≠ 0 then findE s a else if s.room < s.used + b.length then 3 else burnE s
def appendS (s : St) (a : Nm) (b : List Nat) : St := if findE s a ≠ 0 then s else if s.room < s.used + b.length then s else
  if burnE s = 0 then setFile (burnS s) ((get s.now a).getD 0) ⟨(s.file ((get s.now a).getD 0)).bytes ++ b, (s.file ((get s.now a).getD 0)).sure⟩ else burnS s
def syncE (s : St) (a : Nm) : Nat := if findE s a ≠ 0 then findE s a else burnE s
def syncS (s : St) (a : Nm) : St := if findE s a ≠ 0 then s else
  if burnE s = 0 then setFile (burnS s) ((get s.now a).getD 0) ⟨(s.file ((get s.now a).getD 0)).bytes, (s.file ((get s.now a).getD 0)).bytes.length⟩ else burnS s
def renameE (s : St) (a b : Nm) : Nat := if readyE s [a, b] ≠ 0 then readyE s [a, b] else if (get s.now a).isSome then burnE s else 4
def renameS (s : St) (a b : Nm) : St := if readyE s [a, b] ≠ 0 then s else if (get s.now a).isSome then (if a = b then burnS s else chgS s (.ren a b)) else s
def unlinkE (s : St) (a : Nm) : Nat := if findE s a ≠ 0 then findE s a else burnE s
def unlinkS (s : St) (a : Nm) : St := if findE s a ≠ 0 then s else chgS s (.unl a)
def settleS (s : St) (k : Nat) : St := { s with sure := (s.loose.take k).foldl app s.sure, loose := [] }
def dirSyncE (s : St) : Nat := if s.down then 2 else burnE s
def dirSyncS (s : St) : St := if s.down then s else if burnE s = 0 then settleS (burnS s) s.loose.length else burnS s
def readV (s : St) (a : Nm) : List Nat := if findE s a ≠ 0 then [] else (s.file ((get s.now a).getD 0)).bytes
def keepF (x : File) (more : Nat) : File := ⟨x.bytes.take (x.sure + min more (x.bytes.length - x.sure)), x.sure + min more (x.bytes.length - x.sure)⟩
def keepAll (fs : List File) (d : Dir) (more : Nat) : List File := fs.mapIdx fun i x => if d.any (fun p => p.2 == i) then keepF x more else x
def crashS (s : St) (dirs bytes : Int) : St :=
  { s with sure := (s.loose.take (min dirs.toNat s.loose.length)).foldl app s.sure, loose := [],
           files := keepAll s.files ((s.loose.take (min dirs.toNat s.loose.length)).foldl app s.sure) bytes.toNat, fuse := none, down := false }

end Go.Proofs.YtlpeiejohgchmaaDoor.Fs
