/-
  Several texts in one: AMath ALaw.
-/
import Derived.Lib.Split
import Derived.Lib.IndexMore
import Derived.Lib.CutLaws
import Derived.Lib.IndexBytes

section
/-
  Mailboxes in plain words: labels, domains, local parts, mailboxes, paths, over lists of bytes.
-/
namespace Go.Proofs.YtimoebicacnihaaGreatDoor.Ad
set_option linter.unusedVariables false

/-- A letter or a digit, as a number. -/
def plainZ (r : Int) : Bool := decide (97 ≤ r ∧ r ≤ 122) || (decide (65 ≤ r ∧ r ≤ 90) || decide (48 ≤ r ∧ r ≤ 57))
def greatZ (r : Int) : Bool := decide (65 ≤ r ∧ r ≤ 90)
def plain (c : UInt8) : Bool := plainZ c.toNat
def lower (c : UInt8) : UInt8 := if greatZ c.toNat then c + 32 else c
def upper (c : UInt8) : UInt8 := if decide (97 ≤ c.toNat ∧ c.toNat ≤ 122) then c - 32 else c
def small (l : List UInt8) : List UInt8 := l.map lower
def great (l : List UInt8) : List UInt8 := l.map upper
/-- Letters, digits and some signs alone. -/
def madeOf (signs l : List UInt8) : Bool := l.all fun c => plain c || signs.contains c
def fits (l : List UInt8) : Bool := decide (1 ≤ l.length) && decide (l.length ≤ 32)
def hasEnd (l p : List UInt8) : Bool := Lib.hasPrefix l p || Lib.hasSuffix l p
def label (l : List UInt8) : Bool := fits l && (!hasEnd l [45] && madeOf [45] l)
def loc (l : List UInt8) : Bool := fits l && (!hasEnd l [46] && (!Lib.contains l [46, 46] && madeOf [46, 95, 43, 45] l))
/-- The pieces between a sign. -/
def cuts (c : UInt8) : List UInt8 → List (List UInt8)
  | [] => [[]]
  | x :: r => if x = c then [] :: cuts c r else (x :: (cuts c r).headD []) :: (cuts c r).tail
def domain (l : List UInt8) : Bool := decide (l.length ≤ 64) && (cuts 46 l).all label
/-- Ahead of the first @, and behind it. -/
def ahead (l : List UInt8) : List UInt8 := l.takeWhile (· != 64)
def behind (l : List UInt8) : List UInt8 := l.drop ((ahead l).length + 1)
def isBox (l : List UInt8) : Bool := decide (l.length ≤ 64) && (l.contains 64 && (loc (ahead l) && domain (behind l)))
def splitM (l : List UInt8) : List UInt8 × List UInt8 := if isBox l then (ahead l, small (behind l)) else ([], [])
def parseM (l : List UInt8) : List UInt8 := if isBox l then ahead l ++ 64 :: small (behind l) else []
/-- What stands between the first and the last byte. -/
def inner (l : List UInt8) : List UInt8 := (l.drop 1).dropLast
def isAngled (l : List UInt8) : Bool := decide (2 ≤ l.length) && (l.head? == some 60 && l.getLast? == some 62)
def isPath (l : List UInt8) : Bool := isAngled l && (decide (l.length = 2) || isBox (inner l))
def pathM (l : List UInt8) : List UInt8 := if isAngled l && !decide (l.length = 2) then parseM (inner l) else []

/-! ### Where a byte is first -/
theorem indexByte_cases (c : UInt8) : ∀ l : List UInt8, (Lib.indexByte l c = -1 ∧ c ∉ l) ∨ ∃ i : Nat, Lib.indexByte l c = i ∧ ∃ h : i < l.length, l[i] = c ∧ c ∉ l.take i
  | [] => .inl ⟨rfl, by simp⟩
  | x :: l => by
    by_cases hx : x = c
    · refine .inr ⟨0, ?_, by simp, by simpa using hx, by simp⟩
      simp [Lib.indexByte, hx]
    · have hb : (x == c) = false := by simpa using hx
      rcases indexByte_cases c l with ⟨h1, h2⟩ | ⟨i, h1, h2, h3, h4⟩
      · left
        refine ⟨?_, ?_⟩
        · unfold Lib.indexByte
          rw [hb, h1]
          rfl
        · simp only [List.mem_cons, not_or]
          exact ⟨fun e => hx e.symm, h2⟩
      · right
        refine ⟨i + 1, ?_, by simp; omega, by simpa using h3, ?_⟩
        · unfold Lib.indexByte
          have hne : ((i : Int) == -1) = false := by rw [beq_eq_false_iff_ne]; omega
          rw [hb, h1]
          simp only [Bool.false_eq_true, if_false, hne]
          omega
        · simp only [List.take_succ_cons, List.mem_cons, not_or]
          exact ⟨fun e => hx e.symm, h4⟩

/-! ### Pieces -/
theorem cuts_ne (c : UInt8) : ∀ l, cuts c l ≠ []
  | [] => by simp [cuts]
  | x :: r => by
    unfold cuts
    split <;> simp
theorem cuts_miss (c : UInt8) : ∀ {l : List UInt8}, c ∉ l → cuts c l = [l]
  | [], _ => rfl
  | x :: r, h => by
    simp only [List.mem_cons, not_or] at h
    unfold cuts
    rw [if_neg (fun e => h.1 e.symm), cuts_miss c h.2]
    rfl
theorem cuts_hit (c : UInt8) : ∀ {i : Nat} {l : List UInt8} (h : i < l.length), l[i] = c → c ∉ l.take i → cuts c l = l.take i :: cuts c (l.drop (i + 1))
  | _, [], h, _, _ => by simp at h
  | 0, x :: r, h, e, _ => by
    simp only [List.getElem_cons_zero] at e
    rw [show cuts c (x :: r) = if x = c then [] :: cuts c r else (x :: (cuts c r).headD []) :: (cuts c r).tail from rfl, if_pos e]
    rfl
  | i + 1, x :: r, h, e, hn => by
    simp only [List.take_succ_cons, List.mem_cons, not_or] at hn
    simp only [List.length_cons] at h
    have ih := cuts_hit c (i := i) (l := r) (by omega) (by simpa using e) hn.2
    rw [show cuts c (x :: r) = if x = c then [] :: cuts c r else (x :: (cuts c r).headD []) :: (cuts c r).tail from rfl, if_neg (fun e => hn.1 e.symm), ih]
    rfl
theorem split_cuts (c : UInt8) : ∀ (n : Nat) (l : List UInt8), l.length ≤ n → Lib.split l [c] = cuts c l ∧ (Lib.split l [c]).length = Lib.count l [c] + 1
  | n, l, hn => by
    unfold Lib.split
    rcases indexByte_cases c l with ⟨h1, h2⟩ | ⟨i, h1, h2, h3, h4⟩
    · have hi : Lib.index l [c] = -1 := by rw [Lib.index_one]; exact h1
      rw [Lib.count_miss hi, cuts_miss c h2]
      exact ⟨rfl, rfl⟩
    · have hi : Lib.index l [c] = i := by rw [Lib.index_one]; exact h1
      rw [Lib.count_hit (by simp) hi, cuts_hit c h2 h3 h4, Nat.add_comm 1]
      match n, hn with
      | 0, hn => omega
      | n + 1, hn =>
        obtain ⟨e1, e2⟩ := split_cuts c n (l.drop (i + 1)) (by simp; omega)
        unfold Lib.split at e1 e2
        have hne : ((i : Int) == -1) = false := by rw [beq_eq_false_iff_ne]; omega
        unfold Lib.splitK
        rw [hi]
        simp only [hne, Bool.false_eq_true, if_false, List.length_cons, List.length_nil, Int.toNat_natCast, Nat.add_zero, Nat.zero_add]
        rw [e1]
        rw [e1] at e2
        exact ⟨rfl, by omega⟩
theorem mem_cuts (c : UInt8) : ∀ {l : List UInt8} {x : UInt8}, x ∈ l → x = c ∨ ∃ p ∈ cuts c l, x ∈ p
  | [], x, h => by simp at h
  | y :: r, x, h => by
    simp only [List.mem_cons] at h
    unfold cuts
    by_cases hy : y = c
    · rw [if_pos hy]
      rcases h with h | h
      · exact .inl (h.trans hy)
      · rcases mem_cuts c h with h | ⟨p, hp, hx⟩
        · exact .inl h
        · exact .inr ⟨p, List.mem_cons_of_mem _ hp, hx⟩
    · rw [if_neg hy]
      obtain ⟨q, t, e⟩ := List.exists_cons_of_ne_nil (cuts_ne c r)
      rw [e]
      rcases h with h | h
      · exact .inr ⟨_, List.mem_cons_self .., by rw [h]; exact List.mem_cons_self ..⟩
      · rcases mem_cuts c h with h | ⟨p, hp, hx⟩
        · exact .inl h
        · rw [e] at hp
          rcases List.mem_cons.1 hp with h | h
          · subst h
            exact .inr ⟨_, List.mem_cons_self .., List.mem_cons_of_mem _ hx⟩
          · exact .inr ⟨p, List.mem_cons_of_mem _ h, hx⟩
theorem plain_low {c : UInt8} (h : plain c = true) : c.toNat < 128 := by
  simp [plain, plainZ] at h
  omega
theorem label_low {l : List UInt8} (h : label l = true) : ∀ x ∈ l, x.toNat < 128 := by
  intro x hx
  simp only [label, Bool.and_eq_true, madeOf, List.all_eq_true] at h
  have := h.2.2 x hx
  simp only [Bool.or_eq_true] at this
  rcases this with h | h
  · exact plain_low h
  · have : x = 45 := by simpa using h
    subst this
    decide
theorem domain_low {l : List UInt8} (h : domain l = true) : ∀ x ∈ l, x.toNat < 128 := by
  intro x hx
  simp only [domain, Bool.and_eq_true, List.all_eq_true] at h
  rcases mem_cuts 46 hx with rfl | ⟨p, hp, hxp⟩
  · decide
  · exact label_low (h.2 p hp) x hxp

/-! ### The first @ -/
theorem ahead_miss {l : List UInt8} (h : (64 : UInt8) ∉ l) : isBox l = false := by
  simp [isBox, h]
theorem ahead_hit : ∀ {i : Nat} {l : List UInt8} (h : i < l.length), l[i] = (64 : UInt8) → (64 : UInt8) ∉ l.take i → ahead l = l.take i ∧ behind l = l.drop (i + 1) ∧ l.contains 64 = true := by
  intro i l h e hn
  have ha : ∀ {i : Nat} {l : List UInt8} (h : i < l.length), l[i] = (64 : UInt8) → (64 : UInt8) ∉ l.take i → ahead l = l.take i := by
    intro i
    induction i with
    | zero =>
      intro l h e hn
      match l, h, e with
      | x :: r, h, e =>
        simp only [List.getElem_cons_zero] at e
        simp [ahead, e]
    | succ i ih =>
      intro l h e hn
      match l, h, e, hn with
      | x :: r, h, e, hn =>
        simp only [List.take_succ_cons, List.mem_cons, not_or] at hn
        simp only [List.length_cons] at h
        have := ih (l := r) (by omega) (by simpa using e) hn.2
        unfold ahead at this ⊢
        have hx : (x != 64) = true := by simpa using fun e => hn.1 e.symm
        rw [List.takeWhile_cons, hx, if_pos rfl, this]
        rfl
  have ea := ha h e hn
  refine ⟨ea, ?_, ?_⟩
  · rw [behind, ea, List.length_take, Nat.min_eq_left (by omega)]
  · rw [List.contains_iff_mem, ← e]
    exact List.getElem_mem h
theorem isBox_hit {i : Nat} {l : List UInt8} (h : i < l.length) (e : l[i] = (64 : UInt8)) (hn : (64 : UInt8) ∉ l.take i) : isBox l = (decide (l.length ≤ 64) && (loc (l.take i) && domain (l.drop (i + 1)))) := by
  obtain ⟨e1, e2, e3⟩ := ahead_hit h e hn
  rw [isBox, e1, e2, e3, Bool.true_and]

/-! ### Between < and > -/
theorem prefix_one (l : List UInt8) (c : UInt8) : Lib.hasPrefix l [c] = (l.head? == some c) := by
  cases l with
  | nil => rfl
  | cons x r =>
    simp only [Lib.hasPrefix, List.isPrefixOf, List.head?_cons, Bool.and_true]
    rw [Bool.beq_comm]
    rfl
theorem suffix_one (l : List UInt8) (c : UInt8) : Lib.hasSuffix l [c] = (l.getLast? == some c) := by
  rw [← List.head?_reverse, ← prefix_one]
  rfl
theorem angled (l : List UInt8) : isAngled l = (Lib.hasPrefix l [60] && Lib.hasSuffix (Lib.trimPrefix l [60]) [62]) := by
  rw [prefix_one, suffix_one, Lib.trimPrefix, prefix_one, isAngled]
  match l with
  | [] => rfl
  | [x] =>
    cases hx : (([x] : List UInt8).head? == some 60) <;> simp
  | x :: y :: r =>
    cases hx : ((x :: y :: r).head? == some 60) with
    | false => simp
    | true =>
      simp [List.getLast?_cons_cons]
theorem inner_angled {l : List UInt8} (h : isAngled l = true) : inner l = Lib.trimSuffix (Lib.trimPrefix l [60]) [62] := by
  have h2 := h
  rw [angled, Bool.and_eq_true] at h2
  unfold Lib.trimSuffix
  rw [if_pos h2.2]
  unfold Lib.trimPrefix
  rw [if_pos h2.1, inner, List.dropLast_eq_take]
  rfl
end Go.Proofs.YtimoebicacnihaaGreatDoor.Ad
end

section
/-
  Mailboxes in plain words, further: a local part byte by byte, letters' cases, what is joined.
-/
namespace Go.Proofs.YtimoebicacnihaaGreatDoor.Ad
set_option linter.unusedVariables false
set_option linter.unusedSimpArgs false

def sgn : List UInt8 := [46, 95, 43, 45]
/-- The byte at k, in a local part. -/
def at0 (l : List UInt8) (k : Nat) : UInt8 := l[k]?.getD 0
def edge (l : List UInt8) (k : Nat) : Bool := decide (k = 0) || (decide (k + 1 = l.length) || (at0 l (k - 1) == 46))
def goodAt (l : List UInt8) (k : Nat) : Bool := !((at0 l k == 46) && edge l k) && (plain (at0 l k) || sgn.contains (at0 l k))

theorem at0_lt {l : List UInt8} {k : Nat} (h : k < l.length) : at0 l k = l[k] := by
  simp [at0, h]

theorem occ_two (l : List UInt8) (j : Nat) : Lib.occAt l [46, 46] j = true ↔ l[j]? = some 46 ∧ l[j + 1]? = some 46 := by
  unfold Lib.occAt
  rw [show l[j]? = (l.drop j)[0]? by simp, show l[j + 1]? = (l.drop j)[1]? by simp]
  match l.drop j with
  | [] => simp
  | [x] => simp [List.isPrefixOf]
  | x :: y :: r =>
    simp [List.isPrefixOf]
    exact ⟨fun h => ⟨h.1.symm, h.2.symm⟩, fun h => ⟨h.1.symm, h.2.symm⟩⟩

theorem contains_two (l : List UInt8) : Lib.contains l [46, 46] = true ↔ ∃ j : Nat, l[j]? = some (46 : UInt8) ∧ l[j + 1]? = some (46 : UInt8) := by
  unfold Lib.contains
  rw [decide_eq_true_eq]
  rcases Lib.index_spec l [46, 46] with ⟨h1, h2⟩ | ⟨i, h1, h2, h3, h4⟩
  · refine ⟨fun h => by omega, ?_⟩
    rintro ⟨j, hj⟩
    have hl : j < l.length := (List.getElem?_eq_some_iff.1 hj.1).1
    have := h2 j (by omega)
    rw [(occ_two l j).2 hj] at this
    cases this
  · refine ⟨fun _ => ⟨i, (occ_two l i).1 h3⟩, fun _ => by omega⟩

theorem loc_good (l : List UInt8) : loc l = true ↔ fits l = true ∧ ∀ k, k < l.length → goodAt l k = true := by
  unfold loc
  simp only [Bool.and_eq_true, Bool.not_eq_true', hasEnd, Bool.or_eq_false_iff, prefix_one, suffix_one]
  constructor
  · rintro ⟨h1, ⟨h2, h3⟩, h4, h5⟩
    refine ⟨h1, fun k hk => ?_⟩
    unfold madeOf at h5
    rw [List.all_eq_true] at h5
    have h6 := h5 l[k] (List.getElem_mem hk)
    unfold goodAt
    rw [Bool.and_eq_true]
    refine ⟨?_, by rw [at0_lt hk]; exact h6⟩
    rw [Bool.not_eq_true', Bool.and_eq_false_iff]
    by_cases he : at0 l k = 46
    · right
      rw [at0_lt hk] at he
      unfold edge
      simp only [Bool.or_eq_false_iff, decide_eq_false_iff_not]
      refine ⟨?_, ?_, ?_⟩
      · rintro rfl
        rw [List.head?_eq_getElem?, List.getElem?_eq_getElem hk, he] at h2
        simp at h2
      · intro e
        rw [List.getLast?_eq_getElem?, show l.length - 1 = k by omega, List.getElem?_eq_getElem hk, he] at h3
        simp at h3
      · rw [beq_eq_false_iff_ne]
        intro e
        by_cases h0 : k = 0
        · subst h0
          rw [List.head?_eq_getElem?, List.getElem?_eq_getElem hk, he] at h2
          simp at h2
        · have hlt : k - 1 < l.length := by omega
          rw [at0_lt hlt] at e
          have : Lib.contains l [46, 46] = true := (contains_two l).2 ⟨k - 1, by rw [List.getElem?_eq_getElem hlt, e], by rw [show k - 1 + 1 = k by omega, List.getElem?_eq_getElem hk, he]⟩
          rw [this] at h4
          cases h4
    · left
      rw [beq_eq_false_iff_ne]
      exact he
  · rintro ⟨h1, h2⟩
    refine ⟨h1, ⟨?_, ?_⟩, ?_, ?_⟩
    · rw [beq_eq_false_iff_ne]
      intro e
      rw [List.head?_eq_getElem?] at e
      obtain ⟨hk, he⟩ := List.getElem?_eq_some_iff.1 e
      have := h2 0 hk
      simp [goodAt, at0_lt hk, he, edge] at this
    · rw [beq_eq_false_iff_ne]
      intro e
      rw [List.getLast?_eq_getElem?] at e
      obtain ⟨hk, he⟩ := List.getElem?_eq_some_iff.1 e
      have := h2 _ hk
      simp [goodAt, at0_lt hk, he, edge] at this
      omega
    · cases hc : Lib.contains l [46, 46] with
      | false => rfl
      | true =>
        obtain ⟨j, hj, hj1⟩ := (contains_two l).1 hc
        obtain ⟨hk, he⟩ := List.getElem?_eq_some_iff.1 hj
        obtain ⟨hk1, he1⟩ := List.getElem?_eq_some_iff.1 hj1
        have := h2 _ hk1
        simp [goodAt, at0_lt hk1, he1, edge, at0_lt hk, he] at this
    · unfold madeOf
      rw [List.all_eq_true]
      intro x hx
      obtain ⟨k, hk, rfl⟩ := List.getElem_of_mem hx
      have := h2 k hk
      unfold goodAt at this
      rw [Bool.and_eq_true, at0_lt hk] at this
      exact this.2
theorem loc_false {l : List UInt8} {k : Nat} (hk : k < l.length) (h : goodAt l k = false) : loc l = false := by
  cases hl : loc l with
  | false => rfl
  | true => exact absurd (((loc_good l).1 hl).2 k hk) (by rw [h]; decide)
theorem loc_all {l : List UInt8} (h : ∀ k, k < l.length → goodAt l k = true) : loc l = fits l := by
  cases hf : fits l with
  | true => exact (loc_good l).2 ⟨hf, h⟩
  | false =>
    unfold loc
    rw [hf, Bool.false_and]

/-! ### A label, byte by byte -/
def okLab (c : UInt8) : Bool := plain c || (c == 45)
theorem okLab_eq (c : UInt8) : (plain c || ([45] : List UInt8).contains c) = okLab c := by
  unfold okLab
  rw [List.contains_cons, List.contains_nil, Bool.or_false]
theorem label_eq (l : List UInt8) : label l = (fits l && ((!(at0 l 0 == 45) && !(at0 l (l.length - 1) == 45)) && l.all okLab)) := by
  unfold label madeOf hasEnd
  rw [prefix_one, suffix_one]
  have e : (fun c => plain c || ([45] : List UInt8).contains c) = okLab := funext okLab_eq
  rw [e]
  match l with
  | [] => rfl
  | x :: r =>
    have h1 : ((x :: r).head? == some 45) = (at0 (x :: r) 0 == 45) := by simp [at0]
    have h2 : ((x :: r).getLast? == some 45) = (at0 (x :: r) ((x :: r).length - 1) == 45) := by
      rw [List.getLast?_eq_getElem?, List.getElem?_eq_getElem (by simp), at0_lt (by simp)]
      simp
    rw [h1, h2, Bool.not_or]

/-! ### Letters' cases -/
structure Tame (f : UInt8 → UInt8) : Prop where
  plain : ∀ c, plain (f c) = plain c
  same : ∀ c, Ad.plain c = false → f c = c
theorem Tame.eq {f : UInt8 → UInt8} (h : Tame f) {s : UInt8} (hs : Ad.plain s = false) (c : UInt8) : f c = s ↔ c = s := by
  cases hc : Ad.plain c with
  | false => rw [h.same c hc]
  | true =>
    have := h.plain c
    rw [hc] at this
    constructor
    · rintro rfl
      rw [hs] at this
      cases this
    · rintro rfl
      rw [hs] at hc
      cases hc
theorem Tame.beq {f : UInt8 → UInt8} (h : Tame f) {s : UInt8} (hs : Ad.plain s = false) (c : UInt8) : (f c == s) = (c == s) := by
  have := h.eq hs c
  cases e : (c == s) with
  | true => rw [beq_iff_eq] at e ⊢; exact this.2 e
  | false => rw [beq_eq_false_iff_ne] at e ⊢; exact fun e2 => e (this.1 e2)
theorem tame_lower : Tame lower where
  plain c := by
    unfold lower
    split
    · rename_i h
      simp [greatZ] at h
      have : (c + 32).toNat = c.toNat + 32 := by rw [UInt8.toNat_add]; simp; omega
      unfold Ad.plain
      rw [this]
      rw [show plainZ ((c.toNat + 32 : Nat) : Int) = true by simp [plainZ]; omega, show plainZ (c.toNat : Int) = true by simp [plainZ]; omega]
    · rfl
  same c h := by
    unfold lower
    rw [if_neg]
    intro hg
    simp [greatZ] at hg
    simp [Ad.plain, plainZ] at h
    omega
theorem tame_upper : Tame upper where
  plain c := by
    unfold upper
    split
    · rename_i h
      simp at h
      have : (c - 32).toNat = c.toNat - 32 := by rw [UInt8.toNat_sub]; simp; omega
      unfold Ad.plain
      rw [this]
      rw [show plainZ ((c.toNat - 32 : Nat) : Int) = true by simp [plainZ]; omega, show plainZ (c.toNat : Int) = true by simp [plainZ]; omega]
    · rfl
  same c h := by
    unfold upper
    rw [if_neg]
    intro hg
    simp at hg
    simp [Ad.plain, plainZ] at h
    omega
theorem lower_lower (c : UInt8) : lower (lower c) = lower c := by
  by_cases h : greatZ c.toNat = true
  · have e : lower c = c + 32 := by unfold lower; rw [if_pos h]
    rw [e]
    unfold lower
    rw [if_neg]
    intro h2
    simp [greatZ] at h h2
    have : (c + 32).toNat = c.toNat + 32 := by rw [UInt8.toNat_add]; simp; omega
    omega
  · have e : lower c = c := by unfold lower; rw [if_neg h]
    rw [e, e]
theorem lower_upper (c : UInt8) : lower (upper c) = lower c := by
  by_cases h : 97 ≤ c.toNat ∧ c.toNat ≤ 122
  · have e : upper c = c - 32 := by unfold upper; rw [if_pos (decide_eq_true h)]
    have e2 : (c - 32).toNat = c.toNat - 32 := by rw [UInt8.toNat_sub]; simp; omega
    have e3 : lower c = c := by unfold lower; rw [if_neg (by simp [greatZ]; omega)]
    rw [e, e3]
    unfold lower
    rw [if_pos (by rw [e2]; simp [greatZ]; omega)]
    apply UInt8.toNat_inj.1
    rw [UInt8.toNat_add, e2]
    simp
    omega
  · have e : upper c = c := by unfold upper; rw [if_neg (by simpa using h)]
    rw [e]
theorem small_small (l : List UInt8) : small (small l) = small l := by
  simp [small, lower_lower]
theorem small_great (l : List UInt8) : small (great l) = small l := by
  simp [small, great, lower_upper]

theorem Tame.head {f : UInt8 → UInt8} (h : Tame f) {s : UInt8} (hs : Ad.plain s = false) (l : List UInt8) : ((l.map f).head? == some s) = (l.head? == some s) := by
  cases l with
  | nil => rfl
  | cons x r => simpa using h.beq hs x
theorem Tame.last {f : UInt8 → UInt8} (h : Tame f) {s : UInt8} (hs : Ad.plain s = false) (l : List UInt8) : ((l.map f).getLast? == some s) = (l.getLast? == some s) := by
  rw [← List.head?_reverse, ← List.head?_reverse, ← List.map_reverse]
  exact h.head hs _
theorem Tame.made {f : UInt8 → UInt8} (h : Tame f) {g : List UInt8} (hg : ∀ s ∈ g, Ad.plain s = false) (l : List UInt8) : madeOf g (l.map f) = madeOf g l := by
  unfold madeOf
  rw [List.all_map]
  congr 1
  funext c
  simp only [Function.comp]
  cases hc : Ad.plain c with
  | true => rw [h.plain, hc, Bool.true_or, Bool.true_or]
  | false => rw [h.same c hc, hc]
theorem Tame.label {f : UInt8 → UInt8} (h : Tame f) (l : List UInt8) : label (l.map f) = label l := by
  unfold Ad.label hasEnd
  rw [prefix_one, prefix_one, suffix_one, suffix_one, h.head (by decide), h.last (by decide), h.made (by decide)]
  simp [fits]
theorem Tame.cuts {f : UInt8 → UInt8} (h : Tame f) {s : UInt8} (hs : Ad.plain s = false) : ∀ l : List UInt8, cuts s (l.map f) = (cuts s l).map (·.map f)
  | [] => rfl
  | x :: r => by
    have ih := Tame.cuts h hs r
    have hx := h.eq hs x
    rw [List.map_cons]
    unfold Ad.cuts
    by_cases e : x = s
    · rw [if_pos (hx.2 e), if_pos e, ih]
      rfl
    · rw [if_neg (fun e2 => e (hx.1 e2)), if_neg e, ih]
      obtain ⟨q, t, e3⟩ := List.exists_cons_of_ne_nil (cuts_ne s r)
      rw [e3]
      rfl
theorem Tame.domain {f : UInt8 → UInt8} (h : Tame f) (l : List UInt8) : domain (l.map f) = domain l := by
  unfold Ad.domain
  rw [h.cuts (by decide), List.all_map, List.length_map]
  congr 2
  funext p
  exact h.label p
theorem Tame.at0 {f : UInt8 → UInt8} (h : Tame f) (l : List UInt8) (k : Nat) : Ad.at0 (l.map f) k = f (Ad.at0 l k) := by
  unfold Ad.at0
  rw [List.getElem?_map]
  cases l[k]? with
  | none => exact (h.same 0 (by decide)).symm
  | some c => rfl
theorem Tame.good {f : UInt8 → UInt8} (h : Tame f) (l : List UInt8) (k : Nat) : goodAt (l.map f) k = goodAt l k := by
  unfold goodAt edge
  rw [h.at0, h.at0, h.beq (by decide), h.beq (by decide), List.length_map]
  congr 1
  cases hc : Ad.plain (Ad.at0 l k) with
  | true => rw [h.plain, hc, Bool.true_or, Bool.true_or]
  | false => rw [h.same _ hc, hc]
theorem Tame.loc {f : UInt8 → UInt8} (h : Tame f) (l : List UInt8) : loc (l.map f) = loc l := by
  have e : Ad.loc (l.map f) = true ↔ Ad.loc l = true := by
    rw [loc_good, loc_good]
    simp only [List.length_map, h.good]
    simp [fits]
  cases hl : Ad.loc l with
  | true => exact e.2 hl
  | false => exact Bool.eq_false_iff.2 fun h2 => by rw [e.1 h2] at hl; cases hl

/-! ### A mailbox out of its parts -/
theorem loc_at {l : List UInt8} (h : loc l = true) : (64 : UInt8) ∉ l := by
  intro hm
  obtain ⟨k, hk, e⟩ := List.getElem_of_mem hm
  have := ((loc_good l).1 h).2 k hk
  simp only [goodAt, at0_lt hk, e, Bool.and_eq_true] at this
  exact absurd this.2 (by decide)
theorem parts_join {a b : List UInt8} (h : (64 : UInt8) ∉ a) : ahead (a ++ 64 :: b) = a ∧ behind (a ++ 64 :: b) = b ∧ (a ++ 64 :: b).contains 64 = true := by
  have hlt : a.length < (a ++ 64 :: b).length := by simp
  have e1 : (a ++ 64 :: b)[a.length]'hlt = (64 : UInt8) := by simp
  have e2 : (a ++ 64 :: b).take a.length = a := by simp
  have e3 : (a ++ 64 :: b).drop (a.length + 1) = b := by
    rw [List.drop_append]
    simp
  have := ahead_hit hlt e1 (by rw [e2]; exact h)
  rw [e2, e3] at this
  exact this
theorem isBox_join {a b : List UInt8} (ha : loc a = true) : isBox (a ++ 64 :: b) = (decide (a.length + 1 + b.length ≤ 64) && domain b) := by
  obtain ⟨e1, e2, e3⟩ := parts_join (b := b) (loc_at ha)
  unfold isBox
  rw [e1, e2, e3, ha]
  simp only [Bool.true_and, List.length_append, List.length_cons]
  congr 2
  exact propext ⟨fun h => by omega, fun h => by omega⟩
theorem box_parts {l : List UInt8} (h : isBox l = true) : loc (ahead l) = true ∧ domain (behind l) = true ∧ (ahead l).length + 1 + (behind l).length = l.length ∧ l.length ≤ 64 := by
  simp only [isBox, Bool.and_eq_true, decide_eq_true_eq] at h
  obtain ⟨h1, h2, h3, h4⟩ := h
  refine ⟨h3, h4, ?_, h1⟩
  rcases indexByte_cases 64 l with ⟨_, h5⟩ | ⟨i, _, h5, h6, h7⟩
  · rw [List.contains_iff_mem] at h2
    exact absurd h2 h5
  · obtain ⟨e1, e2, _⟩ := ahead_hit h5 h6 h7
    rw [e1, e2, List.length_take, List.length_drop]
    omega
/-- What is parsed is parsed to itself. -/
theorem parse_fixed {l : List UInt8} (h : isBox l = true) : isBox (parseM l) = true ∧ parseM (parseM l) = parseM l ∧ splitM (parseM l) = (ahead l, small (behind l)) ∧ parseM l = ahead l ++ 64 :: small (behind l) ∧ domain (small (behind l)) = true ∧ (parseM l).length ≤ 64 := by
  obtain ⟨h1, h2, h3, h4⟩ := box_parts h
  have e : parseM l = ahead l ++ 64 :: small (behind l) := by rw [parseM, h]; rfl
  have hd : domain (small (behind l)) = true := by
    unfold small
    rw [tame_lower.domain]
    exact h2
  have hl : (small (behind l)).length = (behind l).length := by simp [small]
  have hb : isBox (ahead l ++ 64 :: small (behind l)) = true := by
    rw [isBox_join h1, hd, hl, decide_eq_true (by omega)]
    rfl
  obtain ⟨p1, p2, _⟩ := parts_join (b := small (behind l)) (loc_at h1)
  rw [e]
  refine ⟨hb, ?_, ?_, rfl, hd, ?_⟩
  · rw [parseM, hb, p1, p2, small_small]
    rfl
  · rw [splitM, hb, p1, p2, small_small]
    rfl
  · simp only [List.length_append, List.length_cons, hl]
    omega
/-- A mailbox of a local part and a domain, in whatever cases. -/
theorem parse_join {a b : List UInt8} (ha : loc a = true) (hb : domain b = true) (hl : a.length + 1 + b.length ≤ 64) : isBox (a ++ 64 :: b) = true ∧ parseM (a ++ 64 :: b) = a ++ 64 :: small b := by
  have hbx : isBox (a ++ 64 :: b) = true := by
    rw [isBox_join ha, hb, decide_eq_true hl]
    rfl
  obtain ⟨p1, p2, _⟩ := parts_join (b := b) (loc_at ha)
  refine ⟨hbx, ?_⟩
  rw [parseM, hbx, p1, p2]
  rfl

/-! ### Domains joined -/
theorem cuts_join (c : UInt8) : ∀ a b : List UInt8, cuts c (a ++ c :: b) = cuts c a ++ cuts c b
  | [], b => by
    show cuts c (c :: b) = [] :: cuts c b
    rw [cuts, if_pos rfl]
  | x :: a, b => by
    have ih := cuts_join c a b
    show cuts c (x :: (a ++ c :: b)) = _
    rw [cuts, cuts, ih]
    by_cases e : x = c
    · rw [if_pos e, if_pos e]
      rfl
    · rw [if_neg e, if_neg e]
      obtain ⟨q, t, e3⟩ := List.exists_cons_of_ne_nil (cuts_ne c a)
      rw [e3]
      rfl
theorem domain_point (a : List UInt8) : domain (a ++ [46]) = false := by
  unfold domain
  rw [cuts_join, List.all_append, show (cuts 46 []).all label = false by decide, Bool.and_false, Bool.and_false]
theorem point_domain (a : List UInt8) : domain (46 :: a) = false := by
  unfold domain
  rw [show (46 : UInt8) :: a = [] ++ 46 :: a from rfl, cuts_join, List.all_append, show (cuts 46 []).all label = false by decide, Bool.false_and, Bool.and_false]
theorem domain_nil : domain [] = false := by decide
end Go.Proofs.YtimoebicacnihaaGreatDoor.Ad
end
