/-
  The plain mathematics of stage 3: a number as eight bytes, the highest first, and back; what a writer has put; what a reader answers and where it stands behind that. Nothing of the program is imported.
-/
import Derived.Laws.BitsAllLaws
import Derived.Laws.BitsLemmas
namespace Go.Proofs.YtimoebicacnihaaGreatDoor.Ln

/-- The number that bytes say, the highest first. -/
def val (bs : List Nat) : Nat := bs.foldl (fun a c => a * 256 + c) 0
/-- The i-th of a number's eight bytes. -/
def dig (n i : Nat) : Nat := n / 2 ^ (8 * (7 - i)) % 256
/-- A number's eight bytes. -/
def num8 (n : Nat) : List Nat := (List.range 8).map (dig n)
/-- Bytes behind their count. -/
def enc (bs : List Nat) : List Nat := num8 bs.length ++ bs

theorem num8_length (n : Nat) : (num8 n).length = 8 := by simp [num8]
theorem dig_lt (n i : Nat) : dig n i < 256 := Nat.mod_lt _ (by omega)
theorem num8_lt (n : Nat) : ∀ c ∈ num8 n, c < 256 := by
  intro c hc
  obtain ⟨i, _, rfl⟩ := List.mem_map.1 hc
  exact dig_lt n i
theorem enc_length (bs : List Nat) : (enc bs).length = 8 + bs.length := by simp [enc, num8_length]
theorem enc_lt {bs : List Nat} (h : ∀ c ∈ bs, c < 256) : ∀ c ∈ enc bs, c < 256 := by
  intro c hc
  rcases List.mem_append.1 hc with hc | hc
  · exact num8_lt _ c hc
  · exact h c hc
theorem take_num8_succ (n k : Nat) (hk : k < 8) : (num8 n).take (k + 1) = (num8 n).take k ++ [dig n k] := by
  have hl : k < (num8 n).length := by rw [num8_length]; exact hk
  rw [List.take_succ_eq_append_getElem hl]
  simp [num8]
theorem take_num8_all (n : Nat) : (num8 n).take 8 = num8 n := List.take_of_length_le (by rw [num8_length]; omega)

theorem val_snoc (bs : List Nat) (c : Nat) : val (bs ++ [c]) = val bs * 256 + c := by simp [val]
theorem val_nil : val [] = 0 := rfl
theorem fold_lt (bs : List Nat) : ∀ a, (∀ c ∈ bs, c < 256) → bs.foldl (fun a c => a * 256 + c) a < (a + 1) * 256 ^ bs.length := by
  induction bs with
  | nil => intro a _; simp
  | cons c bs ih =>
    intro a h
    have h1 := ih (a * 256 + c) fun d hd => h d (by simp [hd])
    have h2 := h c (by simp)
    rw [List.foldl_cons, List.length_cons, Nat.pow_succ]
    refine Nat.lt_of_lt_of_le h1 ?_
    have h3 : (a * 256 + c + 1) ≤ (a + 1) * 256 := by omega
    have h4 := Nat.mul_le_mul_right (256 ^ bs.length) h3
    rw [Nat.mul_assoc] at h4
    rw [Nat.mul_comm (256 ^ bs.length) 256]
    exact h4
theorem val_lt (bs : List Nat) (h : ∀ c ∈ bs, c < 256) : val bs < 256 ^ bs.length := by
  have := fold_lt bs 0 h
  simpa [val] using this
theorem val_num8 (n : Nat) (h : n < 2 ^ 64) : val (num8 n) = n := by
  have e : num8 n = [dig n 0, dig n 1, dig n 2, dig n 3, dig n 4, dig n 5, dig n 6, dig n 7] := rfl
  rw [e]
  simp only [val, List.foldl_cons, List.foldl_nil, dig]
  simp only [Nat.reduceSub, Nat.reduceMul, Nat.reducePow] at *
  omega
theorem take_snoc (bs : List Nat) (k : Nat) (h : k < bs.length) : bs.take (k + 1) = bs.take k ++ [bs.getD k 0] := by
  rw [List.take_succ_eq_append_getElem h]
  simp [h]
theorem val_take_succ (bs : List Nat) (k : Nat) (h : k < bs.length) : val (bs.take (k + 1)) = val (bs.take k) * 256 + bs.getD k 0 := by
  rw [take_snoc bs k h, val_snoc]
theorem pow256 (k : Nat) (h : k ≤ 8) : 256 ^ k ≤ 18446744073709551616 := by
  have := Nat.pow_le_pow_right (show 256 > 0 by omega) h
  omega
theorem val_take_lt (bs : List Nat) (hb : ∀ c ∈ bs, c < 256) (k : Nat) (hk : k ≤ 8) : val (bs.take k) < 18446744073709551616 := by
  have h1 := val_lt (bs.take k) (fun c hc => hb c (List.mem_of_mem_take hc))
  have h2 : (bs.take k).length ≤ 8 := by simp; omega
  have := pow256 _ h2
  omega
/-- Below eight bytes there is room for one more. -/
theorem val_take_small (bs : List Nat) (hb : ∀ c ∈ bs, c < 256) (k : Nat) (hk : k < 8) : val (bs.take k) < 72057594037927936 := by
  have h1 := val_lt (bs.take k) (fun c hc => hb c (List.mem_of_mem_take hc))
  have h2 : (bs.take k).length ≤ 7 := by simp; omega
  have h3 := Nat.pow_le_pow_right (show 256 > 0 by omega) h2
  omega
theorem or_low (a c : Nat) (hc : c < 256) : a * 256 ||| c = a * 256 + c := by
  have h := Nat.shiftLeft_add_eq_or_of_lt (i := 8) (b := c) (by omega) a
  rw [Nat.shiftLeft_eq] at h
  exact h.symm

/-- The greatest number that may be. -/
def top : Nat := 4611686018427387904
/-- Where a reader stands: what is still to be read; none: something was amiss. -/
def takeOk (n : Nat) : Option (List Nat) → Bool
  | none => false
  | some bs => decide (n ≤ bs.length)
def takeV (n : Nat) (s : Option (List Nat)) : List Nat := if takeOk n s then (s.getD []).take n else []
def takeS (n : Nat) (s : Option (List Nat)) : Option (List Nat) := if takeOk n s then some ((s.getD []).drop n) else none
def numOk (s : Option (List Nat)) : Bool := takeOk 8 s && decide (val (takeV 8 s) ≤ top)
def numV (s : Option (List Nat)) : Nat := if numOk s then val (takeV 8 s) else 0
def numS (s : Option (List Nat)) : Option (List Nat) := if numOk s then takeS 8 s else none
def bytOk (s : Option (List Nat)) : Bool := takeOk (numV s) (numS s)
def bytV (s : Option (List Nat)) : List Nat := takeV (numV s) (numS s)
def bytS (s : Option (List Nat)) : Option (List Nat) := takeS (numV s) (numS s)
def doneB (s : Option (List Nat)) : Bool := decide (s = some [])

theorem takeV_ok {n : Nat} {bs : List Nat} (h : n ≤ bs.length) : takeV n (some bs) = bs.take n := by simp [takeV, takeOk, h]
theorem takeS_ok {n : Nat} {bs : List Nat} (h : n ≤ bs.length) : takeS n (some bs) = some (bs.drop n) := by simp [takeS, takeOk, h]
theorem takeOk_ok {n : Nat} {bs : List Nat} (h : n ≤ bs.length) : takeOk n (some bs) = true := by simp [takeOk, h]
theorem takeOk_no {n : Nat} {bs : List Nat} (h : ¬ n ≤ bs.length) : takeOk n (some bs) = false := by simp [takeOk]; omega
theorem takeV_no {n : Nat} {s : Option (List Nat)} (h : takeOk n s = false) : takeV n s = [] := by simp [takeV, h]
theorem takeS_no {n : Nat} {s : Option (List Nat)} (h : takeOk n s = false) : takeS n s = none := by simp [takeS, h]
theorem numOk_none : numOk none = false := rfl
theorem numV_no {s : Option (List Nat)} (h : numOk s = false) : numV s = 0 := by simp [numV, h]
theorem numS_no {s : Option (List Nat)} (h : numOk s = false) : numS s = none := by simp [numS, h]
theorem bytOk_no {s : Option (List Nat)} (h : numOk s = false) : bytOk s = false := by simp [bytOk, numS_no h, takeOk]
theorem bytV_no {s : Option (List Nat)} (h : bytOk s = false) : bytV s = [] := takeV_no h
theorem bytS_no {s : Option (List Nat)} (h : bytOk s = false) : bytS s = none := takeS_no h
theorem numOk_some {s : Option (List Nat)} (h : numOk s = true) : ∃ bs, s = some bs ∧ 8 ≤ bs.length ∧ val (bs.take 8) ≤ top ∧ numV s = val (bs.take 8) ∧ numS s = some (bs.drop 8) := by
  rcases s with _ | bs
  · cases h
  · have h' := h
    simp only [numOk, Bool.and_eq_true, takeOk, decide_eq_true_eq] at h'
    refine ⟨bs, rfl, h'.1, ?_, ?_, ?_⟩
    · rw [← takeV_ok h'.1]; exact h'.2
    · rw [numV, if_pos h, takeV_ok h'.1]
    · rw [numS, if_pos h, takeS_ok h'.1]
theorem numOk_of {bs : List Nat} (h : 8 ≤ bs.length) (hv : val (bs.take 8) ≤ top) : numOk (some bs) = true := by
  simp [numOk, takeOk, h, takeV_ok h, hv]
theorem numOk_short {bs : List Nat} (h : ¬ 8 ≤ bs.length) : numOk (some bs) = false := by
  simp [numOk, takeOk_no h]
theorem numOk_great {bs : List Nat} (h : 8 ≤ bs.length) (hv : ¬ val (bs.take 8) ≤ top) : numOk (some bs) = false := by
  simp [numOk, takeV_ok h, hv]
theorem numV_le (s : Option (List Nat)) : numV s ≤ top := by
  cases h : numOk s with
  | false => rw [numV_no h]; exact Nat.zero_le _
  | true => obtain ⟨bs, _, _, h1, h2, _⟩ := numOk_some h; rw [h2]; exact h1

/-- A number that was put is read again. -/
theorem num_back (n : Nat) (hn : n ≤ top) (rest : List Nat) : numOk (some (num8 n ++ rest)) = true ∧ numV (some (num8 n ++ rest)) = n ∧ numS (some (num8 n ++ rest)) = some rest := by
  have e : (num8 n ++ rest).take 8 = num8 n := by rw [List.take_append_of_le_length (by rw [num8_length]; omega), take_num8_all]
  have hv : val (num8 n) = n := val_num8 n (by unfold top at hn; omega)
  have h8 : 8 ≤ (num8 n ++ rest).length := by rw [List.length_append, num8_length]; omega
  have hok := numOk_of h8 (by rw [e, hv]; exact hn)
  obtain ⟨bs, h1, _, _, h2, h3⟩ := numOk_some hok
  injection h1 with h1
  subst h1
  refine ⟨hok, by rw [h2, e, hv], ?_⟩
  rw [h3, List.drop_append_of_le_length (by rw [num8_length]; omega), List.drop_of_length_le (by rw [num8_length]; omega), List.nil_append]
/-- Bytes that were put are read again. -/
theorem byt_back (bs : List Nat) (hn : bs.length ≤ top) (rest : List Nat) : bytOk (some (enc bs ++ rest)) = true ∧ bytV (some (enc bs ++ rest)) = bs ∧ bytS (some (enc bs ++ rest)) = some rest := by
  have e : enc bs ++ rest = num8 bs.length ++ (bs ++ rest) := by simp [enc]
  obtain ⟨_, h2, h3⟩ := num_back bs.length hn (bs ++ rest)
  rw [e]
  have hl : bs.length ≤ (bs ++ rest).length := by simp
  refine ⟨by rw [bytOk, h2, h3, takeOk_ok hl], by rw [bytV, h2, h3, takeV_ok hl]; simp, by rw [bytS, h2, h3, takeS_ok hl]; simp⟩

end Go.Proofs.YtimoebicacnihaaGreatDoor.Ln
