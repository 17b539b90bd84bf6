/-
  What the library's Equal over texts, and the program's Same return.
-/
import Derived.Test.YtpdopjpibmhamaaDoorE4
namespace Go.Proofs.YtpdopjpibmhamaaDoor.Ln
open Go.RowKit
set_option linter.unusedVariables false
set_option linter.unusedSimpArgs false

set_option maxHeartbeats 2000000 in
theorem equalTextsC {P Q : Nat → Prop} {w : World} (x : Option Addr) (n c : Nat) (L : List ByteArray) (y : Option Addr) (m d : Nat) (M : List ByteArray) (hn : n = L.length) (hm : m = M.length) (hl : n ≤ 1000000) (hL : TxP P w x L) (hM : TxP Q w y M) :
    Calls Tryd.prog 13 #[.slice x n c, .slice y m d] w (Quiet (.bool (decide (L = M))) w) := by
  have HN := Lib.hid hn
  have HM := Lib.hid hm
  have HX := Lib.hid hL
  have HY := Lib.hid hM
  clear hn hm hL hM
  by_cases hnm : ¬ ((n : Int) = (m : Int))
  · have HV : Hid (decide (L = M) = false) := Lib.hid (decide_eq_false (fun e => hnm (by rw [HN.out, HM.out, e])))
    have hne : ((n : Int) != (m : Int)) = true := by simpa using hnm
    clear hnm
    go_enter Tryd.func13, Tryd.ntmps13
    go_wp2
    go_ret
    exact ⟨by rw [HV.out]; rfl, Keep.refl _ _⟩
  obtain rfl : n = m := by omega
  clear hnm
  go_enter Tryd.func13, Tryd.ntmps13
  go_wp2
  go_loopw [13] (fun i wr => ∃ k : Nat, k ≤ n ∧ i = .int .i64 (k : Int) ∧ Hid (Keep (fun _ => False) w wr ∧ L.take k = M.take k)) (fun i _ => n - (intOf i).toNat)
  case atStart => exact ⟨0, by omega, rfl, Keep.refl _ _, rfl⟩
  case round =>
    obtain ⟨k, hk, rfl, HR⟩ := hrel
    by_cases hlt : (k : Int) < (n : Int)
    · have hkl : k < L.length := by have := HN.out; omega
      have hkm : k < M.length := by have := HM.out; omega
      obtain ⟨b, off, _, _, hx, hc⟩ := HX.out.at k hkl
      obtain ⟨b', off', _, _, hy, hc'⟩ := HY.out.at k hkm
      subst hx hy
      have c1 := HR.out.1.cell hc (fun h => h)
      have c2 := HR.out.1.cell hc' (fun h => h)
      obtain ⟨s, hs⟩ : ∃ s, s = L[k] := ⟨_, rfl⟩
      obtain ⟨t, ht⟩ : ∃ t, t = M[k] := ⟨_, rfl⟩
      rw [← hs] at c1
      rw [← ht] at c2
      have HS : Hid (∃ h1 h2, s = L[k]'h1 ∧ t = M[k]'h2) := Lib.hid ⟨hkl, hkm, hs, ht⟩
      have k0 : (0 : Int) ≤ (k : Int) := by omega
      clear hc hc' hs ht hkl hkm
      by_cases hst : s = t
      · subst hst
        go_wp2
        go_quiet (fail)
        go_wp2
        go_roundw
        case rel => exact ⟨k + 1, by omega, by go_num, keepDrewN HR.out.1 nq, by
          obtain ⟨h1, h2, h3, h4⟩ := HS.out
          rw [List.take_succ_eq_append_getElem h1, List.take_succ_eq_append_getElem h2, HR.out.2, ← h3, ← h4]⟩
        case measure => simp [intOf]; omega
      · have hne := list_beq hst
        have hne2 := list_bne hst
        go_wp2
        go_quiet (fail)
        go_wp2
        go_ret
        have hv : decide (L = M) = false := decide_eq_false (fun e => by
          obtain ⟨h1, h2, h3, h4⟩ := HS.out
          apply hst
          subst e
          rw [h3, h4])
        exact ⟨by rw [hv]; rfl, keepDrewN HR.out.1 nq⟩
    · have hkn : k = n := by omega
      go_wp2
      go_ret
      have hv : decide (L = M) = true := decide_eq_true (by
        have := HR.out.2
        rw [hkn, List.take_of_length_le (by rw [HN.out]; exact Nat.le_refl _), List.take_of_length_le (by rw [HM.out]; exact Nat.le_refl _)] at this
        exact this)
      exact ⟨by rw [hv]; rfl, HR.out.1⟩

/-! ### Same -/
def sameB (a b : Ml) : Bool := decide (a.id = b.id) && (decide (a.parent = b.parent) && (decide (a.born = b.born) && (decide (a.frm = b.frm) && (decide (a.rcpts = b.rcpts) && decide (a.body = b.body)))))
theorem sameB_iff {a b : Ml} : sameB a b = true ↔ a = b := by
  obtain ⟨a1, a2, a3, a4, a5, a6⟩ := a
  obtain ⟨b1, b2, b3, b4, b5, b6⟩ := b
  simp [sameB]
theorem sameB_self (a : Ml) : sameB a a = true := sameB_iff.2 rfl
end Go.Proofs.YtpdopjpibmhamaaDoor.Ln
