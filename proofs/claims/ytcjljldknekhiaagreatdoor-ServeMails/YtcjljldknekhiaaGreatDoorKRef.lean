/-
  What the document's own Line returns, for all bytes.
-/
import Derived.Test.YtcjljldknekhiaaGreatDoorKg1
namespace Go.Proofs.YtcjljldknekhiaaGreatDoor.Ln
open Go.RowKit
set_option linter.unusedVariables false
set_option linter.unusedSimpArgs false

theorem hit_at {bs : List Nat} {k c d : Nat} (hc : bs[k]? = some c) (hd : bs[k + 1]? = some d) : hit bs k = (c == 13 && d == 10) := by simp [hit, hc, hd]
theorem hit_end {bs : List Nat} {k : Nat} (h : bs.length ≤ k + 1) : hit bs k = false := by
  cases hh : hit bs k with
  | false => rfl
  | true => have := hit_lt hh; omega

set_option maxHeartbeats 4000000 in
set_option maxRecDepth 100000 in
theorem line {P : Nat → Prop} {w : World} {x : Option Addr} {n cap : Nat} {bs : List Nat} (hn : n = bs.length) (hcap : n ≤ cap) (hB : Bytes P w x bs) (hl : n ≤ 1099511627776) :
    Calls Tryz.prog 36 #[.slice x n cap] w fun e w' => e = .returned (.tuple #[.string (str (lineT bs)), .int .i64 ((lineN bs : Nat) : Int)]) ∧ w' = w := by
  have HB := Lib.hid hB
  have HN := Lib.hid hn
  clear hB hn
  go_enter Tryz.func36, Tryz.ntmps36
  go_wp2
  go_loop [4] (fun z => ∃ k : Nat, k ≤ n ∧ z = .int .i64 (k : Int) ∧ Hid (∀ j, j < k → hit bs j = false)) (fun z => n - (intOf z).toNat)
  case atStart => exact ⟨0, Nat.zero_le _, rfl, fun j hj => absurd hj (Nat.not_lt_zero _)⟩
  case round =>
    obtain ⟨k, hk, rfl, HR⟩ := hrel
    by_cases h1 : (k : Int) + 1 < (n : Int)
    · obtain ⟨b, off, _, rfl, c0⟩ := HB.out.at k (by have := HN.out; omega)
      obtain ⟨b', off', _, e', c1⟩ := HB.out.at (k + 1) (by have := HN.out; omega)
      injection e' with e'
      injection e' with e1 e2
      subst e1 e2
      obtain ⟨c, hc⟩ : ∃ c, c = bs.getD k 0 := ⟨_, rfl⟩
      obtain ⟨d, hd⟩ : ∃ d, d = bs.getD (k + 1) 0 := ⟨_, rfl⟩
      rw [← hc] at c0
      rw [← hd] at c1
      have hcl : c < 256 := by rw [hc]; exact getD_lt HB.out.1 k (by have := HN.out; omega)
      have hdl : d < 256 := by rw [hd]; exact getD_lt HB.out.1 (k + 1) (by have := HN.out; omega)
      have hh : hit bs k = (c == 13 && d == 10) := by
        have := HN.out
        refine hit_at ?_ ?_
        · rw [hc, List.getElem?_eq_getElem (by omega)]; simp [show k < bs.length by omega]
        · rw [hd, List.getElem?_eq_getElem (by omega)]; simp [show k + 1 < bs.length by omega]
      have HH := Lib.hid hh
      clear hc hd hh
      by_cases hc13 : c = 13
      · subst hc13
        by_cases hd10 : d = 10
        · subst hd10
          have hp : pos bs = some k := pos_first (by rw [HH.out]; rfl) HR.out
          have HP := Lib.hid hp
          obtain ⟨s1, s2⟩ := cut_pre (some ⟨b, off, none⟩) n cap k (by omega)
          have hs := run_str (HB.out.take k) k cap (by have := HN.out; simp; omega)
          clear hp
          go_wp2
          go_ret2
          refine ⟨?_, rfl⟩
          rw [lineT_some HP.out, lineN_some HP.out]
          rfl
        · have hd' : ¬ ((d : Int) = 10) := by omega
          go_wp2
          go_round
          case rel => exact ⟨k + 1, by omega, by go_num, fun j hj => by
            rcases Nat.lt_or_eq_of_le (Nat.le_of_lt_succ hj) with h | h
            · exact HR.out j h
            · subst h; rw [HH.out]; simp [hd10]⟩
          case measure => simp [intOf]; omega
      · have hc' : ¬ ((c : Int) = 13) := by omega
        go_wp2
        go_round
        case rel => exact ⟨k + 1, by omega, by go_num, fun j hj => by
          rcases Nat.lt_or_eq_of_le (Nat.le_of_lt_succ hj) with h | h
          · exact HR.out j h
          · subst h; rw [HH.out]; simp [hc13]⟩
        case measure => simp [intOf]; omega
    · have hp : pos bs = none := pos_none fun j => by
        rcases Nat.lt_or_ge j k with h | h
        · exact HR.out j h
        · exact hit_end (by have := HN.out; omega)
      have HP := Lib.hid hp
      clear hp
      go_wp2
      go_ret2
      refine ⟨?_, rfl⟩
      rw [lineT_none HP.out, lineN_none HP.out]
      rfl
end Go.Proofs.YtcjljldknekhiaaGreatDoor.Ln
