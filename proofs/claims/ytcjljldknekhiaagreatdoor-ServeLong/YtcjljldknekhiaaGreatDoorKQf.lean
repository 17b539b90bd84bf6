/-
  What the law of long lines and texts tells, line by line.
-/
import Derived.Test.YtcjljldknekhiaaGreatDoorKg11
namespace Go.Proofs.YtcjljldknekhiaaGreatDoor.Ln
open Go.RowKit
set_option linter.unusedVariables false
set_option linter.unusedSimpArgs false

def xs (n : Nat) : List Nat := List.replicate n 120
def lNOOP (n : Nat) : List Nat := [78, 79, 79, 80, 32] ++ xs n
def lHELO : List Nat := [72, 69, 76, 79, 32, 97]
def lMAIL : List Nat := [77, 65, 73, 76, 32, 70, 82, 79, 77, 58, 60, 97, 64, 98, 62]
def lRCPT : List Nat := [82, 67, 80, 84, 32, 84, 79, 58, 60, 97, 64, 98, 62]
def lDATA : List Nat := [68, 65, 84, 65]
def ab : ByteArray := { data := #[97, 64, 98] }
theorem V9_noop_506 : V9 (str (lNOOP 506)) = ⟨nNOOP, nobody, -1, 0⟩ := by kernel_rfl
theorem V9_noop_507 : V9 (str (lNOOP 507)) = ⟨nNOOP, nobody, -1, 0⟩ := by kernel_rfl
theorem V9_helo : V9 (str lHELO) = ⟨nHELO, { data := #[97] }, -1, 0⟩ := by kernel_rfl
theorem V9_mail : V9 (str lMAIL) = ⟨nMAIL, ab, -1, 0⟩ := by kernel_rfl
theorem V9_rcpt : V9 (str lRCPT) = ⟨nRCPT, ab, -1, 0⟩ := by kernel_rfl
theorem V9_data : V9 (str lDATA) = ⟨nDATA, nobody, -1, 0⟩ := by kernel_rfl
/-- A line whose command is known. -/
theorem line_is {s : Se} {l : List Nat} {v : VC} (h4 : s.st ≠ 4) (hl : l.length ≤ 512) (hv : V9 (str l) = v) (hc : v.code = 0) : s.line V9 l = s.verb v := by
  unfold Se.line Se.command
  rw [if_neg h4, if_neg (by rw [str_size]; omega), hv, if_neg (by omega)]
theorem line_long {s : Se} {l : List Nat} (h4 : s.st ≠ 4) (hl : 512 < l.length) : s.line V9 l = s.say (reply 500) := by
  unfold Se.line Se.command
  rw [if_neg h4, if_pos (by rw [str_size]; omega)]
def LS (r : List Nat) (out : List Ev) (st : Nat) (f : ByteArray) (rc : List ByteArray) (body : List Nat) (bad : Nat) : Se := Se.mk { data := #[109, 120] } 1500 r out st f rc body bad
theorem LS_start (b : List Nat) : (Se.new { data := #[109, 120] } 1500).pop.fed b = LS b [] 0 nobody [] [] 0 := by
  have h : clampS 1500 = 1500 := by decide
  simp [Se.new, Se.pop, Se.fed, Se.say, LS, h]
def one (k : Int) : Nat := if 0 < k then 500 else 250
theorem xs_ok (n : Nat) : ∀ c ∈ xs n, c ≠ 13 := fun c hc => by rw [xs, List.mem_replicate] at hc; omega
theorem ls_line {l r : List Nat} {o : List Ev} {st : Nat} {f : ByteArray} {rc : List ByteArray} {body : List Nat} {bad : Nat} (h5 : st < 5) (hok : ∀ c ∈ l, c ≠ 13) : (LS (l ++ [13, 10] ++ r) o st f rc body bad).go V9 = ((LS r o st f rc body bad).line V9 l).go V9 := go_line (s := LS (l ++ [13, 10] ++ r) o st f rc body bad) h5 rfl hok
theorem ls_noop (k : Int) (hk : k = -1 ∨ k = 0 ∨ k = 1) (r : List Nat) : (LS (lNOOP (507 + k).toNat ++ [13, 10] ++ r) [] 0 nobody [] [] 0).go V9 = (LS r [.say (reply (one k))] 0 nobody [] [] 0).go V9 := by
  have hok : ∀ c ∈ lNOOP (507 + k).toNat, c ≠ 13 := fun c hc => by
    rw [lNOOP, List.mem_append] at hc
    rcases hc with hc | hc
    · simp at hc; omega
    · exact xs_ok _ c hc
  rw [ls_line (l := lNOOP (507 + k).toNat) (by decide) hok]
  have hl : (lNOOP (507 + k).toNat).length = 5 + (507 + k).toNat := by simp [lNOOP, xs]; omega
  rcases hk with rfl | rfl | rfl
  · rw [show (507 + (-1 : Int)).toNat = 506 by decide] at hl ⊢
    rw [line_is (by show 0 ≠ 4; decide) (by rw [hl]; decide) V9_noop_506 rfl]; rfl
  · rw [show (507 + (0 : Int)).toNat = 507 by decide] at hl ⊢
    rw [line_is (by show 0 ≠ 4; decide) (by rw [hl]; decide) V9_noop_507 rfl]; rfl
  · rw [line_long (by show 0 ≠ 4; decide) (by rw [hl]; decide)]; rfl
theorem ls_helo (o : List Ev) (r : List Nat) : (LS (lHELO ++ [13, 10] ++ r) o 0 nobody [] [] 0).go V9 = (LS r (o ++ [.say (reply 250)]) 1 nobody [] [] 0).go V9 := by
  rw [ls_line (l := lHELO) (by decide) (by decide), line_is (by show 0 ≠ 4; decide) (by decide) V9_helo rfl]; rfl
theorem ls_mail (o : List Ev) (r : List Nat) : (LS (lMAIL ++ [13, 10] ++ r) o 1 nobody [] [] 0).go V9 = (LS r (o ++ [.say (reply 250)]) 2 ab [] [] 0).go V9 := by
  rw [ls_line (l := lMAIL) (by decide) (by decide), line_is (by show 1 ≠ 4; decide) (by decide) V9_mail rfl]; rfl
theorem ls_rcpt (o : List Ev) (r : List Nat) : (LS (lRCPT ++ [13, 10] ++ r) o 2 ab [] [] 0).go V9 = (LS r (o ++ [.say (reply 250)]) 3 ab [ab] [] 0).go V9 := by
  rw [ls_line (l := lRCPT) (by decide) (by decide), line_is (by show 2 ≠ 4; decide) (by decide) V9_rcpt rfl]; rfl
theorem ls_data (o : List Ev) (r : List Nat) : (LS (lDATA ++ [13, 10] ++ r) o 3 ab [ab] [] 0).go V9 = (LS r (o ++ [.say (reply 354)]) 4 ab [ab] [] 0).go V9 := by
  rw [ls_line (l := lDATA) (by decide) (by decide), line_is (by show 3 ≠ 4; decide) (by decide) V9_data rfl]; rfl
/-! ### The text -/
theorem un_xs (n : Nat) : unT (xs n) = xs n := by
  cases n with
  | zero => rfl
  | succ n => rfl
theorem unE_xs (n : Nat) : unE (xs n) = false := by
  cases n with
  | zero => rfl
  | succ n => rfl
theorem odd_xs (n : Nat) : odd (xs n) = false := by
  rw [odd, List.any_eq_false]
  intro c hc
  rw [xs, List.mem_replicate] at hc
  rw [hc.2]
  decide
theorem un_dot (n : Nat) : unT (46 :: xs n) = xs n := by
  cases n with
  | zero => rfl
  | succ n => rfl
theorem unE_dot (n : Nat) (h : 0 < n) : unE (46 :: xs n) = false := by
  cases n with
  | zero => cases h
  | succ n => rfl
theorem xs_len (n : Nat) : (xs n).length = n := by simp [xs]
/-- A text's line that has its place. -/
theorem text_add {r l t : List Nat} {o : List Ev} {body : List Nat} (he : unE l = false) (ht : unT l = t) (hd : odd t = false) (hl : l.length ≤ 1000) (hs : body.length + t.length + 1 ≤ 1500) : (LS r o 4 ab [ab] body 0).line V9 l = LS r o 4 ab [ab] (body ++ t ++ [10]) 0 := by
  have h1 : bad1 (LS r o 4 ab [ab] body 0) l = 0 := by unfold bad1; rw [if_neg (by omega)]; rfl
  have h2 : bad2 (LS r o 4 ab [ab] body 0) l = 0 := by unfold bad2; rw [ht, hd, if_neg (by simp), h1]
  have h3 : bad3 (LS r o 4 ab [ab] body 0) l = 0 := by unfold bad3; rw [ht, if_neg (by show ¬ (1500 < body.length + t.length + 1 ∧ _); omega), h2]
  unfold Se.line
  rw [if_pos (show (LS _ _ 4 _ _ _ _).st = 4 from rfl)]
  unfold Se.text
  rw [if_neg (by rw [he]; decide), h3, ht]
  rfl
/-- One that is too long. -/
theorem text_bad {r l : List Nat} {o : List Ev} {body : List Nat} (he : unE l = false) (hl : 1000 < l.length) : (LS r o 4 ab [ab] body 0).line V9 l = LS r o 4 ab [ab] body 500 := by
  have h1 : bad1 (LS r o 4 ab [ab] body 0) l = 500 := by unfold bad1; rw [if_pos ⟨hl, rfl⟩]
  have h2 : bad2 (LS r o 4 ab [ab] body 0) l = 500 := by unfold bad2; rw [h1, if_neg (by simp)]
  have h3 : bad3 (LS r o 4 ab [ab] body 0) l = 500 := by unfold bad3; rw [h2, if_neg (by simp)]
  unfold Se.line
  rw [if_pos (show (LS _ _ 4 _ _ _ _).st = 4 from rfl)]
  unfold Se.text
  rw [if_neg (by rw [he]; decide), h3]
  rfl
theorem text_stays {r l : List Nat} {o : List Ev} {body : List Nat} (he : unE l = false) : (LS r o 4 ab [ab] body 500).line V9 l = LS r o 4 ab [ab] body 500 := by
  have h3 : bad3 (LS r o 4 ab [ab] body 500) l = 500 := bad3_stays (s := LS r o 4 ab [ab] body 500) (by show 500 ≠ 0; decide) l
  unfold Se.line
  rw [if_pos (show (LS _ _ 4 _ _ _ _).st = 4 from rfl)]
  unfold Se.text
  rw [if_neg (by rw [he]; decide), h3]
  rfl
theorem end_keep (r : List Nat) (o : List Ev) (body : List Nat) : (LS r o 4 ab [ab] body 0).line V9 [46] = LS r (o ++ [.keep ab [ab] body]) 5 ab [ab] body 0 := rfl
theorem end_bad (r : List Nat) (o : List Ev) (body : List Nat) : (LS r o 4 ab [ab] body 500).line V9 [46] = LS r (o ++ [.say (reply 500)]) 1 nobody [] [] 0 := rfl
/-- What is fed. -/
def fedA (k : Int) : List Nat := lNOOP (507 + k).toNat ++ [13, 10] ++ (lHELO ++ [13, 10] ++ (lMAIL ++ [13, 10] ++ (lRCPT ++ [13, 10] ++ (lDATA ++ [13, 10] ++ []))))
def txtOf (k : Int) (d : Bool) : List Nat := if d = true then 46 :: xs (999 + k).toNat else xs (1000 + k).toNat
def fedB (k : Int) (d : Bool) : List Nat := txtOf k d ++ [13, 10] ++ (xs 490 ++ [13, 10] ++ ([46] ++ [13, 10] ++ []))
def outA (k : Int) : List Ev := [.say (reply (one k)), .say (reply 250), .say (reply 250), .say (reply 250), .say (reply 354)]
def bodyK (k : Int) (d : Bool) : List Nat := (if d = true then xs (999 + k).toNat else xs (1000 + k).toNat) ++ [10] ++ xs 490 ++ [10]
def lastOf (k : Int) (d : Bool) : Ev := if 0 < k then .say (reply 500) else .keep ab [ab] (bodyK k d)
theorem long_go (k : Int) (d : Bool) (hk : k = -1 ∨ k = 0 ∨ k = 1) : (((Se.new { data := #[109, 120] } 1500).pop.fed (fedA k)).fed (fedB k d)).go V9 = { (if 0 < k then LS [] [] 1 nobody [] [] 0 else LS [] [] 5 ab [ab] (bodyK k d) 0) with out := outA k ++ [lastOf k d] } := by
  have e : fedA k ++ fedB k d = lNOOP (507 + k).toNat ++ [13, 10] ++ (lHELO ++ [13, 10] ++ (lMAIL ++ [13, 10] ++ (lRCPT ++ [13, 10] ++ (lDATA ++ [13, 10] ++ fedB k d)))) := by simp [fedA]
  rw [fed_fed, e, LS_start, ls_noop k hk, ls_helo, ls_mail, ls_rcpt, ls_data, fedB]
  have ht : ∀ c ∈ txtOf k d, c ≠ 13 := fun c hc => by
    unfold txtOf at hc
    split at hc
    · rw [List.mem_cons] at hc
      rcases hc with hc | hc
      · omega
      · exact xs_ok _ c hc
    · exact xs_ok _ c hc
  have hE : unE (txtOf k d) = false := by
    unfold txtOf
    split
    · exact unE_dot _ (by omega)
    · exact unE_xs _
  have hL : ((txtOf k d).length : Int) = 1000 + k := by
    unfold txtOf
    split
    · rw [List.length_cons, xs_len]; omega
    · rw [xs_len]; omega
  have hU : unT (txtOf k d) = if d = true then xs (999 + k).toNat else xs (1000 + k).toNat := by
    unfold txtOf
    split
    · exact un_dot _
    · exact un_xs _
  have hO : odd (if d = true then xs (999 + k).toNat else xs (1000 + k).toNat) = false := by split <;> exact odd_xs _
  have hN : ((if d = true then xs (999 + k).toNat else xs (1000 + k).toNat).length : Int) ≤ 1000 + k := by split <;> rw [xs_len] <;> omega
  rw [ls_line (by decide) ht]
  by_cases h0 : 0 < k
  · rw [text_bad hE (by omega), ls_line (by decide) (xs_ok _), text_stays (unE_xs _), ls_line (by decide) (by decide), end_bad, go_none rfl, if_pos h0, lastOf, if_pos h0]
    rfl
  · rw [text_add hE hU hO (by omega) (by simp only [List.length_nil]; omega), ls_line (by decide) (xs_ok _), text_add (unE_xs _) (un_xs _) (odd_xs _) (by rw [xs_len]; decide) (by rw [xs_len]; simp only [List.length_append, List.length_cons, List.length_nil]; omega), ls_line (by decide) (by decide), end_keep, go_over (by show ¬ 5 < 5; decide), if_neg h0, lastOf, if_neg h0]
    simp [LS, bodyK, outA]
end Go.Proofs.YtcjljldknekhiaaGreatDoor.Ln
