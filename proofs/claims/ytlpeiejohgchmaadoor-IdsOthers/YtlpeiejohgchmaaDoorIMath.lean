/-
  The plain words of stage 13: the names of files that bear a number. Nothing of the program is imported but fs's plain words.
-/
import Derived.Test.YtlpeiejohgchmaaDoorDDir
namespace Go.Proofs.YtlpeiejohgchmaaDoor.Fs
set_option linter.unusedVariables false
set_option linter.unusedSimpArgs false

def preN : Nm := [110, 101, 120, 116, 45]
def digAt (n i : Nat) : UInt8 := UInt8.ofNat (48 + n / 10 ^ i % 10)
def dig9 (n : Nat) : Nm := [digAt n 8, digAt n 7, digAt n 6, digAt n 5, digAt n 4, digAt n 3, digAt n 2, digAt n 1, digAt n 0]
/-- The name of the file of n. -/
def nameN (n : Nat) : Nm := preN ++ dig9 n
def isDig (c : UInt8) : Bool := decide (48 ≤ c.toNat) && decide (c.toNat ≤ 57)
def valD (l : Nm) : Nat := l.foldl (fun v c => v * 10 + (c.toNat - 48)) 0
/-- The number that a name bears. -/
def numN (a : Nm) : Option Nat := if a.length = 14 ∧ a.take 5 = preN ∧ (a.drop 5).all isDig = true then some (valD (a.drop 5)) else none
theorem digAt_val (n i : Nat) : (digAt n i).toNat = 48 + n / 10 ^ i % 10 := by
  unfold digAt
  rw [UInt8.toNat_ofNat']
  have := Nat.mod_lt (n / 10 ^ i) (show 0 < 10 by decide)
  omega
theorem digAt_is (n i : Nat) : isDig (digAt n i) = true := by
  unfold isDig
  rw [digAt_val]
  have := Nat.mod_lt (n / 10 ^ i) (show 0 < 10 by decide)
  simp
  omega
theorem nameN_length (n : Nat) : (nameN n).length = 14 := rfl
theorem numN_name {n : Nat} (h : n ≤ 999999999) : numN (nameN n) = some n := by
  unfold numN
  have e1 : (nameN n).take 5 = preN := rfl
  have e2 : (nameN n).drop 5 = dig9 n := rfl
  have e3 : (dig9 n).all isDig = true := by simp [dig9, digAt_is]
  rw [e2, if_pos ⟨rfl, e1, e3⟩]
  congr 1
  simp only [valD, dig9, List.foldl_cons, List.foldl_nil, digAt_val, Nat.add_sub_cancel_left, Nat.reducePow]
  omega
theorem dig_back {c : UInt8} {v : Nat} (h : isDig c = true) (hv : v = c.toNat - 48) : UInt8.ofNat (48 + v) = c ∧ v ≤ 9 := by
  simp only [isDig, Bool.and_eq_true, decide_eq_true_eq] at h
  have e : 48 + v = c.toNat := by omega
  rw [e]
  exact ⟨UInt8.ofNat_toNat, by omega⟩
theorem numN_some {a : Nm} {n : Nat} (h : numN a = some n) : a = nameN n ∧ n ≤ 999999999 := by
  unfold numN at h
  split at h
  · rename_i hc
    obtain ⟨hl, hp, hd⟩ := hc
    have hn : valD (a.drop 5) = n := Option.some.inj h
    have ha : a = preN ++ a.drop 5 := by rw [← hp, List.take_append_drop]
    have hl9 : (a.drop 5).length = 9 := by rw [List.length_drop, hl]
    generalize a.drop 5 = l at *
    match l, hl9 with
    | [c8, c7, c6, c5, c4, c3, c2, c1, c0], _ =>
      simp only [List.all_cons, List.all_nil, Bool.and_true, Bool.and_eq_true] at hd
      obtain ⟨h8, h7, h6, h5, h4, h3, h2, h1, h0⟩ := hd
      obtain ⟨v8, e8⟩ : ∃ v, v = c8.toNat - 48 := ⟨_, rfl⟩
      obtain ⟨v7, e7⟩ : ∃ v, v = c7.toNat - 48 := ⟨_, rfl⟩
      obtain ⟨v6, e6⟩ : ∃ v, v = c6.toNat - 48 := ⟨_, rfl⟩
      obtain ⟨v5, e5⟩ : ∃ v, v = c5.toNat - 48 := ⟨_, rfl⟩
      obtain ⟨v4, e4⟩ : ∃ v, v = c4.toNat - 48 := ⟨_, rfl⟩
      obtain ⟨v3, e3⟩ : ∃ v, v = c3.toNat - 48 := ⟨_, rfl⟩
      obtain ⟨v2, e2⟩ : ∃ v, v = c2.toNat - 48 := ⟨_, rfl⟩
      obtain ⟨v1, e1⟩ : ∃ v, v = c1.toNat - 48 := ⟨_, rfl⟩
      obtain ⟨v0, e0⟩ : ∃ v, v = c0.toNat - 48 := ⟨_, rfl⟩
      simp only [valD, List.foldl_cons, List.foldl_nil, ← e8, ← e7, ← e6, ← e5, ← e4, ← e3, ← e2, ← e1, ← e0] at hn
      obtain ⟨b8, l8⟩ := dig_back h8 e8
      obtain ⟨b7, l7⟩ := dig_back h7 e7
      obtain ⟨b6, l6⟩ := dig_back h6 e6
      obtain ⟨b5, l5⟩ := dig_back h5 e5
      obtain ⟨b4, l4⟩ := dig_back h4 e4
      obtain ⟨b3, l3⟩ := dig_back h3 e3
      obtain ⟨b2, l2⟩ := dig_back h2 e2
      obtain ⟨b1, l1⟩ := dig_back h1 e1
      obtain ⟨b0, l0⟩ := dig_back h0 e0
      clear e8 e7 e6 e5 e4 e3 e2 e1 e0
      refine ⟨?_, by omega⟩
      rw [ha]
      have d8 : n / 10 ^ 8 % 10 = v8 := by simp only [Nat.reducePow]; omega
      have d7 : n / 10 ^ 7 % 10 = v7 := by simp only [Nat.reducePow]; omega
      have d6 : n / 10 ^ 6 % 10 = v6 := by simp only [Nat.reducePow]; omega
      have d5 : n / 10 ^ 5 % 10 = v5 := by simp only [Nat.reducePow]; omega
      have d4 : n / 10 ^ 4 % 10 = v4 := by simp only [Nat.reducePow]; omega
      have d3 : n / 10 ^ 3 % 10 = v3 := by simp only [Nat.reducePow]; omega
      have d2 : n / 10 ^ 2 % 10 = v2 := by simp only [Nat.reducePow]; omega
      have d1 : n / 10 ^ 1 % 10 = v1 := by simp only [Nat.reducePow]; omega
      have d0 : n / 10 ^ 0 % 10 = v0 := by simp only [Nat.reducePow]; omega
      simp only [nameN, dig9, digAt, d8, d7, d6, d5, d4, d3, d2, d1, d0, b8, b7, b6, b5, b4, b3, b2, b1, b0]
  · cases h
theorem nameN_inj {n m : Nat} (hn : n ≤ 999999999) (hm : m ≤ 999999999) (h : nameN n = nameN m) : n = m := by
  have h1 := numN_name hn
  rw [h, numN_name hm] at h1
  exact (Option.some.inj h1).symm
/-- The numbers that a directory's names bear, in the names' order. -/
def numsD (d : Dir) : List Nat := (d.map (·.1)).filterMap numN
theorem mem_nums {d : Dir} {n : Nat} : n ∈ numsD d ↔ ∃ p ∈ d, numN p.1 = some n := by
  unfold numsD
  simp only [List.mem_filterMap, List.mem_map]
  constructor
  · rintro ⟨a, ⟨p, hp, rfl⟩, h⟩
    exact ⟨p, hp, h⟩
  · rintro ⟨p, hp, h⟩
    exact ⟨p.1, ⟨p, hp, rfl⟩, h⟩
/-- What the greatest file says (0, if there is none). -/
def mostD (d : Dir) : Nat := (numsD d).foldl max 0
theorem foldl_max_ge : ∀ (l : List Nat) (m : Nat), m ≤ l.foldl max m ∧ ∀ x ∈ l, x ≤ l.foldl max m
  | [], m => ⟨Nat.le_refl _, fun x hx => by cases hx⟩
  | y :: l, m => by
    obtain ⟨h1, h2⟩ := foldl_max_ge l (max m y)
    refine ⟨Nat.le_trans (Nat.le_max_left m y) h1, fun x hx => ?_⟩
    rcases List.mem_cons.1 hx with rfl | hx
    · exact Nat.le_trans (Nat.le_max_right m _) h1
    · exact h2 x hx
theorem foldl_max_mem : ∀ (l : List Nat) (m : Nat), l.foldl max m = m ∨ l.foldl max m ∈ l
  | [], m => .inl rfl
  | y :: l, m => by
    rw [List.foldl_cons]
    rcases foldl_max_mem l (max m y) with h | h
    · rw [h]
      rcases Nat.le_total m y with hy | hy
      · rw [Nat.max_eq_right hy]; exact .inr (List.mem_cons_self ..)
      · rw [Nat.max_eq_left hy]; exact .inl rfl
    · exact .inr (List.mem_cons_of_mem _ h)
theorem most_ge {d : Dir} {n : Nat} (h : n ∈ numsD d) : n ≤ mostD d := (foldl_max_ge _ 0).2 n h
theorem most_mem {d : Dir} : mostD d = 0 ∨ mostD d ∈ numsD d := foldl_max_mem _ 0
end Go.Proofs.YtlpeiejohgchmaaDoor.Fs
