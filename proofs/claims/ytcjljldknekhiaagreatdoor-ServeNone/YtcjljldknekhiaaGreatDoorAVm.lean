/-
  Commands in plain words: names, keys, options, sizes, over lists of bytes.
-/
import Derived.Test.YtcjljldknekhiaaGreatDoorALaw
import Derived.Lib.Atoi
namespace Go.Proofs.YtcjljldknekhiaaGreatDoor.Ad
set_option linter.unusedVariables false

/-- Ahead of the first of a sign, and behind it. -/
def ahd (c : UInt8) (l : List UInt8) : List UInt8 := l.takeWhile (· != c)
def bhd (c : UInt8) (l : List UInt8) : List UInt8 := l.drop ((ahd c l).length + 1)
theorem ahd_nil (c : UInt8) : ahd c [] = [] := rfl
theorem ahd_same (c : UInt8) (r : List UInt8) : ahd c (c :: r) = [] := by simp [ahd]
theorem bhd_same (c : UInt8) (r : List UInt8) : bhd c (c :: r) = r := by simp [bhd, ahd_same]
theorem ahd_cons {c x : UInt8} (h : x ≠ c) (r : List UInt8) : ahd c (x :: r) = x :: ahd c r := by
  have hx : (x != c) = true := by simpa using h
  rw [ahd, List.takeWhile_cons, hx, if_pos rfl]
  rfl
theorem bhd_cons {c x : UInt8} (h : x ≠ c) (r : List UInt8) : bhd c (x :: r) = bhd c r := by
  rw [bhd, ahd_cons h]
  rfl
theorem contains_cons {c x : UInt8} (h : x ≠ c) (r : List UInt8) : (x :: r).contains c = r.contains c := by
  have : (c == x) = false := by simpa using fun e => h e.symm
  rw [List.contains_cons, this, Bool.false_or]
theorem ahd_append (c : UInt8) : ∀ {a : List UInt8} (b : List UInt8), c ∉ a → ahd c (a ++ b) = a ++ ahd c b ∧ bhd c (a ++ b) = bhd c b ∧ (a ++ b).contains c = b.contains c
  | [], b, _ => ⟨rfl, rfl, rfl⟩
  | x :: a, b, h => by
    simp only [List.mem_cons, not_or] at h
    have hx : x ≠ c := fun e => h.1 e.symm
    obtain ⟨h1, h2, h3⟩ := ahd_append c b h.2
    rw [List.cons_append, ahd_cons hx, bhd_cons hx, contains_cons hx, h1, h2, h3]
    exact ⟨rfl, rfl, rfl⟩
theorem ahd_at (c : UInt8) {a : List UInt8} (b : List UInt8) (h : c ∉ a) : ahd c (a ++ c :: b) = a ∧ bhd c (a ++ c :: b) = b ∧ (a ++ c :: b).contains c = true := by
  obtain ⟨h1, h2, h3⟩ := ahd_append c (c :: b) h
  rw [h1, h2, h3, ahd_same, bhd_same]
  simp
theorem ahd_miss (c : UInt8) {a : List UInt8} (h : c ∉ a) : ahd c a = a ∧ bhd c a = [] ∧ a.contains c = false := by
  obtain ⟨h1, h2, h3⟩ := ahd_append c [] h
  rw [List.append_nil] at h1 h2 h3
  rw [h1, h2, h3, ahd_nil]
  simp [bhd]
theorem not_mem_ahd (c : UInt8) : ∀ l : List UInt8, c ∉ ahd c l
  | [] => by simp [ahd]
  | x :: r => by
    by_cases h : x = c
    · subst h; rw [ahd_same]; simp
    · rw [ahd_cons h]
      simp only [List.mem_cons, not_or]
      exact ⟨fun e => h e.symm, not_mem_ahd c r⟩
theorem split_ahd (c : UInt8) (l : List UInt8) : (l.contains c = true ∧ l = ahd c l ++ c :: bhd c l) ∨ (l.contains c = false ∧ c ∉ l ∧ l = ahd c l ∧ bhd c l = []) := by
  induction l with
  | nil => exact .inr ⟨rfl, by simp, rfl, rfl⟩
  | cons x r ih =>
    by_cases h : x = c
    · subst h
      exact .inl ⟨by simp, by rw [ahd_same, bhd_same]; rfl⟩
    · rw [ahd_cons h, bhd_cons h, contains_cons h]
      rcases ih with ⟨h1, h2⟩ | ⟨h1, h2, h3, h4⟩
      · exact .inl ⟨h1, by rw [List.cons_append, ← h2]⟩
      · exact .inr ⟨h1, by simp only [List.mem_cons, not_or]; exact ⟨fun e => h e.symm, h2⟩, by rw [← h3], h4⟩
theorem ahd_len (c : UInt8) (l : List UInt8) : (ahd c l).length ≤ l.length := (List.takeWhile_sublist _).length_le
theorem bhd_len (c : UInt8) (l : List UInt8) : (bhd c l).length ≤ l.length := by rw [bhd, List.length_drop]; omega
theorem cut_ahd (c : UInt8) (l : List UInt8) : Lib.cut l [c] = (ahd c l, bhd c l, l.contains c) := by
  rcases indexByte_cases c l with ⟨h1, h2⟩ | ⟨i, h1, h2, h3, h4⟩
  · obtain ⟨e1, e2, e3⟩ := ahd_miss c h2
    rw [Lib.cut, Lib.index_one, h1, e1, e2, e3]
    rfl
  · have hl : l = l.take i ++ c :: l.drop (i + 1) := by
      rw [← h3, ← List.drop_eq_getElem_cons h2, List.take_append_drop]
    obtain ⟨e1, e2, e3⟩ := ahd_at c (l.drop (i + 1)) h4
    rw [← hl] at e1 e2 e3
    rw [Lib.cut, Lib.index_one, h1, if_pos (by omega), e1, e2, e3]
    rfl
theorem cuts_ahd (c : UInt8) (l : List UInt8) : cuts c l = ahd c l :: (if l.contains c then cuts c (bhd c l) else []) := by
  rcases split_ahd c l with ⟨h1, h2⟩ | ⟨h1, h2, h3, h4⟩
  · have := cuts_join c (ahd c l) (bhd c l)
    rw [← h2, cuts_miss c (not_mem_ahd c l)] at this
    rw [this, h1]
    rfl
  · rw [cuts_miss c h2, h1, ← h3]
    rfl

/-! ### Letters' case -/
theorem great_length (l : List UInt8) : (great l).length = l.length := by simp [great]
theorem great_append (a b : List UInt8) : great (a ++ b) = great a ++ great b := by simp [great]
theorem upper_blank (c : UInt8) : upper c = 32 ↔ c = 32 := tame_upper.eq (by decide) c
theorem great_blank (l : List UInt8) : (32 : UInt8) ∈ great l ↔ (32 : UInt8) ∈ l := by
  rw [great, List.mem_map]
  constructor
  · rintro ⟨c, hc, e⟩
    rw [upper_blank] at e
    exact e ▸ hc
  · intro h
    exact ⟨32, h, (upper_blank 32).2 rfl⟩

/-! ### Keys -/
def keyed (key l : List UInt8) : Bool := decide (key.length ≤ l.length) && (great (l.take key.length) == key)
theorem keyed_len {key l : List UInt8} (h : keyed key l = true) : key.length ≤ l.length := by
  simp only [keyed, Bool.and_eq_true, decide_eq_true_eq] at h
  exact h.1
theorem keyed_great {key l : List UInt8} (h : keyed key l = true) : great (l.take key.length) = key := by
  simp only [keyed, Bool.and_eq_true, beq_iff_eq] at h
  exact h.2
theorem keyed_append {key k : List UInt8} (h : great k = key) (b : List UInt8) : keyed key (k ++ b) = true ∧ (k ++ b).drop key.length = b := by
  have hl : key.length = k.length := by rw [← h, great_length]
  constructor
  · rw [keyed, hl, List.take_left, h]
    simp
  · rw [hl, List.drop_left]
theorem keyed_word {key : List UInt8} (hk : (32 : UInt8) ∉ key) (l : List UInt8) : keyed key (ahd 32 l) = keyed key l := by
  cases h : keyed key l with
  | true =>
    have h1 := keyed_great h
    have hn : (32 : UInt8) ∉ l.take key.length := fun hm => hk (by rw [← h1]; exact (great_blank _).2 hm)
    have := (ahd_append 32 (l.drop key.length) hn).1
    rw [List.take_append_drop] at this
    rw [this]
    have hl := keyed_len h
    refine (keyed_append ?_ _).1
    exact h1
  | false =>
    cases h' : keyed key (ahd 32 l) with
    | false => rfl
    | true =>
      exfalso
      have hle := keyed_len h'
      have hp : (ahd 32 l) <+: l := List.takeWhile_prefix _
      obtain ⟨t, ht⟩ := hp
      have := keyed_great h'
      rw [← ht, keyed, List.take_append_of_le_length hle, this] at h
      simp at h
      omega
theorem keyed_parts {key l : List UInt8} (hk : (32 : UInt8) ∉ key) (h : keyed key l = true) :
    (ahd 32 l).drop key.length = ahd 32 (l.drop key.length) ∧ bhd 32 l = bhd 32 (l.drop key.length) ∧ l.contains 32 = (l.drop key.length).contains 32 := by
  have h1 := keyed_great h
  have hl := keyed_len h
  have hn : (32 : UInt8) ∉ l.take key.length := fun hm => hk (by rw [← h1]; exact (great_blank _).2 hm)
  obtain ⟨e1, e2, e3⟩ := ahd_append 32 (l.drop key.length) hn
  rw [List.take_append_drop] at e1 e2 e3
  refine ⟨?_, e2, e3⟩
  rw [e1, List.drop_append, List.drop_eq_nil_of_le (by simp; omega)]
  simp [Nat.min_eq_left hl]

/-! ### Numbers -/
def isDig (c : UInt8) : Bool := decide (48 ≤ c.toNat ∧ c.toNat ≤ 57)
def isNum (l : List UInt8) : Bool := decide (1 ≤ l.length) && (decide (l.length ≤ 9) && l.all isDig)
def numFrom (n : Nat) : List UInt8 → Nat
  | [] => n
  | c :: r => numFrom (n * 10 + (c.toNat - 48)) r
def num (l : List UInt8) : Nat := numFrom 0 l
theorem numFrom_append (n : Nat) : ∀ a b : List UInt8, numFrom n (a ++ b) = numFrom (numFrom n a) b
  | [], b => rfl
  | x :: a, b => by
    rw [List.cons_append]
    exact numFrom_append _ a b
theorem numFrom_le : ∀ (l : List UInt8) (n : Nat), l.all isDig = true → numFrom n l + 1 ≤ (n + 1) * 10 ^ l.length
  | [], n, _ => by
    show n + 1 ≤ (n + 1) * 1
    omega
  | c :: r, n, h => by
    simp only [List.all_cons, Bool.and_eq_true, isDig, decide_eq_true_eq] at h
    have h1 := numFrom_le r (n * 10 + (c.toNat - 48)) h.2
    have h2 : (n * 10 + (c.toNat - 48) + 1) * 10 ^ r.length ≤ (n + 1) * 10 * 10 ^ r.length := Nat.mul_le_mul_right _ (by omega)
    rw [Nat.mul_assoc, ← Nat.pow_succ'] at h2
    exact Nat.le_trans h1 h2
theorem num_lt {l : List UInt8} (h : isNum l = true) : num l < 1000000000 := by
  simp only [isNum, Bool.and_eq_true, decide_eq_true_eq] at h
  have h1 := numFrom_le l 0 h.2.2
  have h2 : 10 ^ l.length ≤ 1000000000 := Nat.le_trans (Nat.pow_le_pow_right (by decide) h.2.1) (by decide)
  rw [num]
  omega
theorem digit_val {c : UInt8} (h : isDig c = true) : Lib.digitVal c = some (c.toNat - 48) := by
  simp only [isDig, decide_eq_true_eq] at h
  unfold Lib.digitVal
  simp
  omega
theorem decFrom_num : ∀ (l : List UInt8) (n : Nat), l.all isDig = true → Lib.decFrom n l = some (numFrom n l)
  | [], n, _ => rfl
  | c :: r, n, h => by
    simp only [List.all_cons, Bool.and_eq_true] at h
    unfold Lib.decFrom
    rw [digit_val h.1]
    exact decFrom_num r _ h.2
theorem atoi_num {l : List UInt8} (h : isNum l = true) : Lib.atoi l = some (num l : Int) := by
  have h' := h
  simp only [isNum, Bool.and_eq_true, decide_eq_true_eq] at h'
  match l, h'.1, h'.2.2 with
  | b :: r, _, h3 =>
    have hb : isDig b = true := by
      simp only [List.all_cons, Bool.and_eq_true] at h3
      exact h3.1
    simp only [isDig, decide_eq_true_eq] at hb
    have e1 : (b == 45) = false := by
      rw [beq_eq_false_iff_ne]
      rintro rfl
      revert hb
      decide
    have e2 : (b == 43) = false := by
      rw [beq_eq_false_iff_ne]
      rintro rfl
      revert hb
      decide
    show (if (b == 45) = true then _ else if (b == 43) = true then _ else Option.map (fun (m : Nat) => (m : Int)) (Lib.decNat (b :: r))) = _
    rw [e1, e2]
    simp only [Bool.false_eq_true, if_false, Lib.decNat, List.isEmpty_cons]
    rw [decFrom_num _ _ h3]
    rfl

/-! ### Options -/
def kFrom : List UInt8 := [70, 82, 79, 77, 58]
def kTo : List UInt8 := [84, 79, 58]
def kSize : List UInt8 := [83, 73, 90, 69, 61]
def sizeGo (size code : Int) : List (List UInt8) → Int × Int
  | [] => if code = 0 then (size, 0) else (0, code)
  | o :: r => if keyed kSize o then (if size = -1 ∧ isNum (o.drop 5) = true then sizeGo (num (o.drop 5)) code r else (0, 501)) else sizeGo size 555 r
def sizeM (l : List UInt8) : Int × Int := sizeGo (-1) 0 (cuts 32 l)

/-! ### Commands -/
structure Out where
  arg : List UInt8
  size : Int
  code : Int
def bad (c : Int) : Out := ⟨[], 0, c⟩
def helloM (r : List UInt8) : Out := if domain r then ⟨small r, -1, 0⟩ else bad 501
def aloneM (b : Bool) : Out := if b then bad 501 else ⟨[], -1, 0⟩
def vrfyM (r : List UInt8) : Out := if r = [] then bad 501 else ⟨[], -1, 0⟩
def noopM : Out := ⟨[], -1, 0⟩
/-- What stands behind a key up to the next blank. -/
def wordM (key r : List UInt8) : List UInt8 := (ahd 32 r).drop key.length
def pathOk (key r : List UInt8) : Bool := keyed key (ahd 32 r) && isPath (wordM key r)
def mailM (r : List UInt8) : Out :=
  if pathOk kFrom r then
    (if r.contains 32 then (if (sizeM (bhd 32 r)).2 = 0 then ⟨pathM (wordM kFrom r), (sizeM (bhd 32 r)).1, 0⟩ else bad (sizeM (bhd 32 r)).2) else ⟨pathM (wordM kFrom r), -1, 0⟩)
  else bad 501
def rcptM (r : List UInt8) : Out :=
  if pathOk kTo r && !(pathM (wordM kTo r)).isEmpty then (if r.contains 32 then bad 555 else ⟨pathM (wordM kTo r), -1, 0⟩) else bad 501

def nHelo : List UInt8 := [72, 69, 76, 79]
def nEhlo : List UInt8 := [69, 72, 76, 79]
def nMail : List UInt8 := [77, 65, 73, 76]
def nRcpt : List UInt8 := [82, 67, 80, 84]
def nData : List UInt8 := [68, 65, 84, 65]
def nRset : List UInt8 := [82, 83, 69, 84]
def nQuit : List UInt8 := [81, 85, 73, 84]
def nNoop : List UInt8 := [78, 79, 79, 80]
def nVrfy : List UInt8 := [86, 82, 70, 89]
/-- Which of the nine. -/
inductive Kind where
  | hello | mail | rcpt | alone | noop | vrfy
def kind (n : List UInt8) : Option Kind :=
  if n = nHelo then some .hello else if n = nEhlo then some .hello else if n = nMail then some .mail else if n = nRcpt then some .rcpt
  else if n = nData then some .alone else if n = nRset then some .alone else if n = nQuit then some .alone else if n = nNoop then some .noop
  else if n = nVrfy then some .vrfy else none
def outM : Kind → List UInt8 → Bool → Out
  | .hello, r, _ => helloM r
  | .mail, r, _ => mailM r
  | .rcpt, r, _ => rcptM r
  | .alone, _, b => aloneM b
  | .noop, _, _ => noopM
  | .vrfy, r, _ => vrfyM r
/-- A command's name, argument, size; and a code. -/
structure Cmd where
  name : List UInt8
  arg : List UInt8
  size : Int
  code : Int
def noCmd (c : Int) : Cmd := ⟨[], [], 0, c⟩
def cmdOf (n : List UInt8) (o : Out) : Cmd := if o.code = 0 then ⟨n, o.arg, o.size, 0⟩ else noCmd o.code
def verbN (n r : List UInt8) (b : Bool) : Cmd :=
  match kind n with
  | none => noCmd 500
  | some k => cmdOf n (outM k r b)
def verbM (l : List UInt8) : Cmd := verbN (great (ahd 32 l)) (bhd 32 l) (l.contains 32)

/-! ### No code of a known name is 500 -/
theorem sizeGo_code : ∀ (L : List (List UInt8)) (s c : Int), (c = 0 ∨ c = 555) → ((sizeGo s c L).2 = 0 ∨ (sizeGo s c L).2 = 501 ∨ (sizeGo s c L).2 = 555)
  | [], s, c, h => by
    unfold sizeGo
    rcases h with rfl | rfl <;> simp
  | o :: r, s, c, h => by
    unfold sizeGo
    split
    · split
      · exact sizeGo_code r _ _ h
      · simp
    · exact sizeGo_code r _ _ (.inr rfl)
theorem sizeM_code (l : List UInt8) : (sizeM l).2 ≠ 500 := by
  rcases sizeGo_code (cuts 32 l) (-1) 0 (.inl rfl) with h | h | h <;> (rw [sizeM, h]; decide)
theorem outM_code (k : Kind) (r : List UInt8) (b : Bool) : (outM k r b).code ≠ 500 := by
  cases k with
  | hello => simp only [outM, helloM]; split <;> simp [bad]
  | mail =>
    have := sizeM_code (bhd 32 r)
    simp only [outM, mailM]
    split
    · split
      · split
        · simp
        · simpa [bad] using this
      · simp
    · simp [bad]
  | rcpt => simp only [outM, rcptM]; (split <;> (try split)) <;> simp [bad]
  | alone => simp only [outM, aloneM]; split <;> simp [bad]
  | noop => simp [outM, noopM]
  | vrfy => simp only [outM, vrfyM]; split <;> simp [bad]
theorem cmdOf_code (n : List UInt8) (o : Out) : (cmdOf n o).code = o.code := by
  unfold cmdOf
  split
  · rename_i h; exact h.symm
  · rfl
theorem verbN_known {n : List UInt8} {k : Kind} (h : kind n = some k) (r : List UInt8) (b : Bool) : (verbN n r b).code ≠ 500 := by
  unfold verbN
  rw [h]
  show (cmdOf n (outM k r b)).code ≠ 500
  rw [cmdOf_code]
  exact outM_code k r b
theorem verbN_other {n : List UInt8} (h : kind n = none) (r : List UInt8) (b : Bool) : verbN n r b = noCmd 500 := by
  unfold verbN
  rw [h]

/-! ### Cases of letters -/
theorem pathOk_key {key k k' : List UInt8} (hk : (32 : UInt8) ∉ key) (h : great k = key) (h' : great k' = key) (x : List UInt8) :
    pathOk key (k ++ x) = pathOk key (k' ++ x) ∧ wordM key (k ++ x) = wordM key (k' ++ x) ∧ (k ++ x).contains 32 = (k' ++ x).contains 32 ∧ bhd 32 (k ++ x) = bhd 32 (k' ++ x) := by
  have n1 : (32 : UInt8) ∉ k := fun hm => hk (h ▸ (great_blank k).2 hm)
  have n2 : (32 : UInt8) ∉ k' := fun hm => hk (h' ▸ (great_blank k').2 hm)
  obtain ⟨a1, a2, a3⟩ := ahd_append 32 x n1
  obtain ⟨b1, b2, b3⟩ := ahd_append 32 x n2
  rw [pathOk, pathOk, wordM, wordM, a1, a2, a3, b1, b2, b3, (keyed_append h _).1, (keyed_append h' _).1, (keyed_append h _).2, (keyed_append h' _).2]
  exact ⟨rfl, rfl, rfl, rfl⟩
theorem outM_key {k : Kind} {key a a' : List UInt8} (hk : (k = .mail ∧ key = kFrom) ∨ (k = .rcpt ∧ key = kTo) ∨ (a = [] ∧ a' = [])) (h : great a = key) (h' : great a' = key) (x : List UInt8) (b : Bool) : outM k (a ++ x) b = outM k (a' ++ x) b := by
  rcases hk with ⟨rfl, rfl⟩ | ⟨rfl, rfl⟩ | ⟨rfl, rfl⟩
  · obtain ⟨e1, e2, e3, e4⟩ := pathOk_key (key := kFrom) (by decide) h h' x
    show mailM _ = mailM _
    rw [mailM, mailM, e1, e2, e3, e4]
  · obtain ⟨e1, e2, e3, e4⟩ := pathOk_key (key := kTo) (by decide) h h' x
    show rcptM _ = rcptM _
    rw [rcptM, rcptM, e1, e2, e3]
  · rfl
/-- A name, then a blank and a key or not: in any case of letters the same. -/
theorem verbM_blank {n n' a a' key : List UInt8} {k : Kind} (hn : great n' = great n) (hb : (32 : UInt8) ∉ n) (hk : kind (great n) = some k) (hkey : (k = .mail ∧ key = kFrom) ∨ (k = .rcpt ∧ key = kTo) ∨ (a = [] ∧ a' = [])) (h : great a = key) (h' : great a' = key) (x : List UInt8) :
    verbM (n ++ 32 :: (a ++ x)) = verbM (n' ++ 32 :: (a' ++ x)) := by
  have hb' : (32 : UInt8) ∉ n' := fun hm => hb ((great_blank n).1 (hn ▸ (great_blank n').2 hm))
  obtain ⟨a1, a2, a3⟩ := ahd_at 32 (a ++ x) hb
  obtain ⟨b1, b2, b3⟩ := ahd_at 32 (a' ++ x) hb'
  rw [verbM, verbM, a1, a2, a3, b1, b2, b3, hn, verbN, verbN, hk]
  show cmdOf _ (outM k (a ++ x) true) = cmdOf _ (outM k (a' ++ x) true)
  rw [outM_key hkey h h' x]
theorem verbM_bare {n n' : List UInt8} (hn : great n' = great n) (hb : (32 : UInt8) ∉ n) (x : List UInt8) : verbM (n ++ x) = verbM (n' ++ x) := by
  have hb' : (32 : UInt8) ∉ n' := fun hm => hb ((great_blank n).1 (hn ▸ (great_blank n').2 hm))
  obtain ⟨a1, a2, a3⟩ := ahd_append 32 x hb
  obtain ⟨b1, b2, b3⟩ := ahd_append 32 x hb'
  rw [verbM, verbM, a1, a2, a3, b1, b2, b3, great_append, great_append, hn]
end Go.Proofs.YtcjljldknekhiaaGreatDoor.Ad
