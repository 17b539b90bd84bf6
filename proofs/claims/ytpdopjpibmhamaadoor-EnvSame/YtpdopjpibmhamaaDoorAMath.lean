/-
  Mailboxes in plain words: labels, domains, local parts, mailboxes, paths, over lists of bytes.
-/
import Derived.Lib.Split
import Derived.Lib.IndexMore
import Derived.Lib.CutLaws
import Derived.Lib.IndexBytes
namespace Go.Proofs.YtpdopjpibmhamaaDoor.Ad
set_option linter.unusedVariables false

/-- A letter or a digit, as a number. -/
def plainZ (r : Int) : Bool := decide (97 ≤ r ∧ r ≤ 122) || (decide (65 ≤ r ∧ r ≤ 90) || decide (48 ≤ r ∧ r ≤ 57))
def greatZ (r : Int) : Bool := decide (65 ≤ r ∧ r ≤ 90)
def plain (c : UInt8) : Bool := plainZ c.toNat
def lower (c : UInt8) : UInt8 := if greatZ c.toNat then c + 32 else c
def upper (c : UInt8) : UInt8 := if decide (97 ≤ c.toNat ∧ c.toNat ≤ 122) then c - 32 else c
def small (l : List UInt8) : List UInt8 := l.map lower
def great (l : List UInt8) : List UInt8 := l.map upper
/-- Letters, digits and some signs alone. -/
def madeOf (signs l : List UInt8) : Bool := l.all fun c => plain c || signs.contains c
def fits (l : List UInt8) : Bool := decide (1 ≤ l.length) && decide (l.length ≤ 32)
def hasEnd (l p : List UInt8) : Bool := Lib.hasPrefix l p || Lib.hasSuffix l p
def label (l : List UInt8) : Bool := fits l && (!hasEnd l [45] && madeOf [45] l)
def loc (l : List UInt8) : Bool := fits l && (!hasEnd l [46] && (!Lib.contains l [46, 46] && madeOf [46, 95, 43, 45] l))
/-- The pieces between a sign. -/
def cuts (c : UInt8) : List UInt8 → List (List UInt8)
  | [] => [[]]
  | x :: r => if x = c then [] :: cuts c r else (x :: (cuts c r).headD []) :: (cuts c r).tail
def domain (l : List UInt8) : Bool := decide (l.length ≤ 64) && (cuts 46 l).all label
/-- Ahead of the first @, and behind it. -/
def ahead (l : List UInt8) : List UInt8 := l.takeWhile (· != 64)
def behind (l : List UInt8) : List UInt8 := l.drop ((ahead l).length + 1)
def isBox (l : List UInt8) : Bool := decide (l.length ≤ 64) && (l.contains 64 && (loc (ahead l) && domain (behind l)))
def splitM (l : List UInt8) : List UInt8 × List UInt8 := if isBox l then (ahead l, small (behind l)) else ([], [])
def parseM (l : List UInt8) : List UInt8 := if isBox l then ahead l ++ 64 :: small (behind l) else []
/-- What stands between the first and the last byte. -/
def inner (l : List UInt8) : List UInt8 := (l.drop 1).dropLast
def isAngled (l : List UInt8) : Bool := decide (2 ≤ l.length) && (l.head? == some 60 && l.getLast? == some 62)
def isPath (l : List UInt8) : Bool := isAngled l && (decide (l.length = 2) || isBox (inner l))
def pathM (l : List UInt8) : List UInt8 := if isAngled l && !decide (l.length = 2) then parseM (inner l) else []

/-! ### Where a byte is first -/
theorem indexByte_cases (c : UInt8) : ∀ l : List UInt8, (Lib.indexByte l c = -1 ∧ c ∉ l) ∨ ∃ i : Nat, Lib.indexByte l c = i ∧ ∃ h : i < l.length, l[i] = c ∧ c ∉ l.take i
  | [] => .inl ⟨rfl, by simp⟩
  | x :: l => by
    by_cases hx : x = c
    · refine .inr ⟨0, ?_, by simp, by simpa using hx, by simp⟩
      simp [Lib.indexByte, hx]
    · have hb : (x == c) = false := by simpa using hx
      rcases indexByte_cases c l with ⟨h1, h2⟩ | ⟨i, h1, h2, h3, h4⟩
      · left
        refine ⟨?_, ?_⟩
        · unfold Lib.indexByte
          rw [hb, h1]
          rfl
        · simp only [List.mem_cons, not_or]
          exact ⟨fun e => hx e.symm, h2⟩
      · right
        refine ⟨i + 1, ?_, by simp; omega, by simpa using h3, ?_⟩
        · unfold Lib.indexByte
          have hne : ((i : Int) == -1) = false := by rw [beq_eq_false_iff_ne]; omega
          rw [hb, h1]
          simp only [Bool.false_eq_true, if_false, hne]
          omega
        · simp only [List.take_succ_cons, List.mem_cons, not_or]
          exact ⟨fun e => hx e.symm, h4⟩

/-! ### Pieces -/
theorem cuts_ne (c : UInt8) : ∀ l, cuts c l ≠ []
  | [] => by simp [cuts]
  | x :: r => by
    unfold cuts
    split <;> simp
theorem cuts_miss (c : UInt8) : ∀ {l : List UInt8}, c ∉ l → cuts c l = [l]
  | [], _ => rfl
  | x :: r, h => by
    simp only [List.mem_cons, not_or] at h
    unfold cuts
    rw [if_neg (fun e => h.1 e.symm), cuts_miss c h.2]
    rfl
theorem cuts_hit (c : UInt8) : ∀ {i : Nat} {l : List UInt8} (h : i < l.length), l[i] = c → c ∉ l.take i → cuts c l = l.take i :: cuts c (l.drop (i + 1))
  | _, [], h, _, _ => by simp at h
  | 0, x :: r, h, e, _ => by
    simp only [List.getElem_cons_zero] at e
    rw [show cuts c (x :: r) = if x = c then [] :: cuts c r else (x :: (cuts c r).headD []) :: (cuts c r).tail from rfl, if_pos e]
    rfl
  | i + 1, x :: r, h, e, hn => by
    simp only [List.take_succ_cons, List.mem_cons, not_or] at hn
    simp only [List.length_cons] at h
    have ih := cuts_hit c (i := i) (l := r) (by omega) (by simpa using e) hn.2
    rw [show cuts c (x :: r) = if x = c then [] :: cuts c r else (x :: (cuts c r).headD []) :: (cuts c r).tail from rfl, if_neg (fun e => hn.1 e.symm), ih]
    rfl
theorem split_cuts (c : UInt8) : ∀ (n : Nat) (l : List UInt8), l.length ≤ n → Lib.split l [c] = cuts c l ∧ (Lib.split l [c]).length = Lib.count l [c] + 1
  | n, l, hn => by
    unfold Lib.split
    rcases indexByte_cases c l with ⟨h1, h2⟩ | ⟨i, h1, h2, h3, h4⟩
    · have hi : Lib.index l [c] = -1 := by rw [Lib.index_one]; exact h1
      rw [Lib.count_miss hi, cuts_miss c h2]
      exact ⟨rfl, rfl⟩
    · have hi : Lib.index l [c] = i := by rw [Lib.index_one]; exact h1
      rw [Lib.count_hit (by simp) hi, cuts_hit c h2 h3 h4, Nat.add_comm 1]
      match n, hn with
      | 0, hn => omega
      | n + 1, hn =>
        obtain ⟨e1, e2⟩ := split_cuts c n (l.drop (i + 1)) (by simp; omega)
        unfold Lib.split at e1 e2
        have hne : ((i : Int) == -1) = false := by rw [beq_eq_false_iff_ne]; omega
        unfold Lib.splitK
        rw [hi]
        simp only [hne, Bool.false_eq_true, if_false, List.length_cons, List.length_nil, Int.toNat_natCast, Nat.add_zero, Nat.zero_add]
        rw [e1]
        rw [e1] at e2
        exact ⟨rfl, by omega⟩
theorem mem_cuts (c : UInt8) : ∀ {l : List UInt8} {x : UInt8}, x ∈ l → x = c ∨ ∃ p ∈ cuts c l, x ∈ p
  | [], x, h => by simp at h
  | y :: r, x, h => by
    simp only [List.mem_cons] at h
    unfold cuts
    by_cases hy : y = c
    · rw [if_pos hy]
      rcases h with h | h
      · exact .inl (h.trans hy)
      · rcases mem_cuts c h with h | ⟨p, hp, hx⟩
        · exact .inl h
        · exact .inr ⟨p, List.mem_cons_of_mem _ hp, hx⟩
    · rw [if_neg hy]
      obtain ⟨q, t, e⟩ := List.exists_cons_of_ne_nil (cuts_ne c r)
      rw [e]
      rcases h with h | h
      · exact .inr ⟨_, List.mem_cons_self .., by rw [h]; exact List.mem_cons_self ..⟩
      · rcases mem_cuts c h with h | ⟨p, hp, hx⟩
        · exact .inl h
        · rw [e] at hp
          rcases List.mem_cons.1 hp with h | h
          · subst h
            exact .inr ⟨_, List.mem_cons_self .., List.mem_cons_of_mem _ hx⟩
          · exact .inr ⟨p, List.mem_cons_of_mem _ h, hx⟩
theorem plain_low {c : UInt8} (h : plain c = true) : c.toNat < 128 := by
  simp [plain, plainZ] at h
  omega
theorem label_low {l : List UInt8} (h : label l = true) : ∀ x ∈ l, x.toNat < 128 := by
  intro x hx
  simp only [label, Bool.and_eq_true, madeOf, List.all_eq_true] at h
  have := h.2.2 x hx
  simp only [Bool.or_eq_true] at this
  rcases this with h | h
  · exact plain_low h
  · have : x = 45 := by simpa using h
    subst this
    decide
theorem domain_low {l : List UInt8} (h : domain l = true) : ∀ x ∈ l, x.toNat < 128 := by
  intro x hx
  simp only [domain, Bool.and_eq_true, List.all_eq_true] at h
  rcases mem_cuts 46 hx with rfl | ⟨p, hp, hxp⟩
  · decide
  · exact label_low (h.2 p hp) x hxp

/-! ### The first @ -/
theorem ahead_miss {l : List UInt8} (h : (64 : UInt8) ∉ l) : isBox l = false := by
  simp [isBox, h]
theorem ahead_hit : ∀ {i : Nat} {l : List UInt8} (h : i < l.length), l[i] = (64 : UInt8) → (64 : UInt8) ∉ l.take i → ahead l = l.take i ∧ behind l = l.drop (i + 1) ∧ l.contains 64 = true := by
  intro i l h e hn
  have ha : ∀ {i : Nat} {l : List UInt8} (h : i < l.length), l[i] = (64 : UInt8) → (64 : UInt8) ∉ l.take i → ahead l = l.take i := by
    intro i
    induction i with
    | zero =>
      intro l h e hn
      match l, h, e with
      | x :: r, h, e =>
        simp only [List.getElem_cons_zero] at e
        simp [ahead, e]
    | succ i ih =>
      intro l h e hn
      match l, h, e, hn with
      | x :: r, h, e, hn =>
        simp only [List.take_succ_cons, List.mem_cons, not_or] at hn
        simp only [List.length_cons] at h
        have := ih (l := r) (by omega) (by simpa using e) hn.2
        unfold ahead at this ⊢
        have hx : (x != 64) = true := by simpa using fun e => hn.1 e.symm
        rw [List.takeWhile_cons, hx, if_pos rfl, this]
        rfl
  have ea := ha h e hn
  refine ⟨ea, ?_, ?_⟩
  · rw [behind, ea, List.length_take, Nat.min_eq_left (by omega)]
  · rw [List.contains_iff_mem, ← e]
    exact List.getElem_mem h
theorem isBox_hit {i : Nat} {l : List UInt8} (h : i < l.length) (e : l[i] = (64 : UInt8)) (hn : (64 : UInt8) ∉ l.take i) : isBox l = (decide (l.length ≤ 64) && (loc (l.take i) && domain (l.drop (i + 1)))) := by
  obtain ⟨e1, e2, e3⟩ := ahead_hit h e hn
  rw [isBox, e1, e2, e3, Bool.true_and]

/-! ### Between < and > -/
theorem prefix_one (l : List UInt8) (c : UInt8) : Lib.hasPrefix l [c] = (l.head? == some c) := by
  cases l with
  | nil => rfl
  | cons x r =>
    simp only [Lib.hasPrefix, List.isPrefixOf, List.head?_cons, Bool.and_true]
    rw [Bool.beq_comm]
    rfl
theorem suffix_one (l : List UInt8) (c : UInt8) : Lib.hasSuffix l [c] = (l.getLast? == some c) := by
  rw [← List.head?_reverse, ← prefix_one]
  rfl
theorem angled (l : List UInt8) : isAngled l = (Lib.hasPrefix l [60] && Lib.hasSuffix (Lib.trimPrefix l [60]) [62]) := by
  rw [prefix_one, suffix_one, Lib.trimPrefix, prefix_one, isAngled]
  match l with
  | [] => rfl
  | [x] =>
    cases hx : (([x] : List UInt8).head? == some 60) <;> simp
  | x :: y :: r =>
    cases hx : ((x :: y :: r).head? == some 60) with
    | false => simp
    | true =>
      simp [List.getLast?_cons_cons]
theorem inner_angled {l : List UInt8} (h : isAngled l = true) : inner l = Lib.trimSuffix (Lib.trimPrefix l [60]) [62] := by
  have h2 := h
  rw [angled, Bool.and_eq_true] at h2
  unfold Lib.trimSuffix
  rw [if_pos h2.2]
  unfold Lib.trimPrefix
  rw [if_pos h2.1, inner, List.dropLast_eq_take]
  rfl
end Go.Proofs.YtpdopjpibmhamaaDoor.Ad
