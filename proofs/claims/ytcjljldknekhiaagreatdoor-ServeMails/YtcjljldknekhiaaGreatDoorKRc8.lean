/-
  What the document's own command returns and does.
-/
import Derived.Test.YtcjljldknekhiaaGreatDoorKg2
import Derived.Test.YtcjljldknekhiaaGreatDoorKRc1
import Derived.Test.YtcjljldknekhiaaGreatDoorKRc2
import Derived.Test.YtcjljldknekhiaaGreatDoorKRc3
import Derived.Test.YtcjljldknekhiaaGreatDoorKRc4
import Derived.Test.YtcjljldknekhiaaGreatDoorKRc4b
import Derived.Test.YtcjljldknekhiaaGreatDoorKRc5
import Derived.Test.YtcjljldknekhiaaGreatDoorKRc6
import Derived.Test.YtcjljldknekhiaaGreatDoorKRc7
import Derived.Test.YtcjljldknekhiaaGreatDoorKRg
namespace Go.Proofs.YtcjljldknekhiaaGreatDoor.Ln
open Go.RowKit
set_option linter.unusedVariables false
set_option linter.unusedSimpArgs false

set_option maxHeartbeats 4000000 in
set_option maxRecDepth 100000 in
theorem cmd_none {F : Nat → Prop} {w : World} {g : Nat} {s : Se} (h : RS F w g s) (hok : Ok s) (ho : s.out.length + 2 ≤ 1000000) (l : ByteArray) (hl : l.size ≤ 512) (A : ByteArray) (z : Int) (B : ByteArray) (qHELO : (B.toList == [72, 69, 76, 79]) = false) (qEHLO : (B.toList == [69, 72, 76, 79]) = false) (qRSET : (B.toList == [82, 83, 69, 84]) = false) (qNOOP : (B.toList == [78, 79, 79, 80]) = false) (qVRFY : (B.toList == [86, 82, 70, 89]) = false) (qQUIT : (B.toList == [81, 85, 73, 84]) = false) (qMAIL : (B.toList == [77, 65, 73, 76]) = false) (qRCPT : (B.toList == [82, 67, 80, 84]) = false) (qDATA : (B.toList == [68, 65, 84, 65]) = false)
    (hv : ∀ w, Calls Tryz.prog 25 #[.string l] w fun e w' => e = .returned (.tuple #[.agg #[.string B, .string A, .int .i64 z], .int .i64 0]) ∧ Keep (fun _ => False) w w') :
    Calls Tryz.prog 38 #[.pointer (some ⟨g, 0, none⟩), .string l] w (Did F g (s) w) := by
  have N0 := Lib.hid (Now.start h)
  have HV := Lib.hid hv
  have HOK := Lib.hid hok
  have hst := hok.st
  have hsz := hok.size
  have hl' : (l.size : Int) ≤ 512 := by omega
  clear h hv hok
  go_enter Tryz.func38, Tryz.ntmps38
  go_wp2_with fail
  refine (HV.out _).mono ?_
  rintro e w1 ⟨rfl, hk1⟩
  have N1 := Lib.hid (N0.out.quiet (hk1.trans (laidV_keep w1 B A z) (fun _ _ h => h)))
  obtain ⟨v0, v1, v2⟩ := laidV_cells w1 B A z
  obtain ⟨c0, c1, c4, c5, c8, fz⟩ := N1.out.cells
  have f4 := fz 4
  clear hk1 fz
  go_wp2_with (refine step_laidV (by rfl) (.tmp 4) (.tmp 15) (by rfl) B A z (by rfl) (by rfl) ?_)
  (try simp only [Exit.inBlock, Exit.then])
  first | go_end0 | refine bodyPost_ret (results_none rfl _ _ _) rfl ?_
  exact N1.out.done

theorem lit_ne {B : ByteArray} {l : List UInt8} (h : B ≠ ⟨l.toArray⟩) : (B.toList == l) = false := by
  rw [beq_eq_false_iff_ne]
  intro e
  apply h
  apply ByteArray.ext
  apply Array.ext'
  rw [← Lib.toList_data]
  simpa using e
theorem refCommand {V : ByteArray → VC} (hV : VerbC V) : CmdC V := by
  intro F w g s h hok hh l hl ho
  rw [Se.command]
  by_cases h512 : 512 < l.size
  · rw [if_pos h512]
    exact cmd_long h ho l h512 (by omega)
  · rw [if_neg h512]
    have hv := fun w => hV.2 l w (by omega)
    obtain ⟨c0, c9⟩ := hV.1 l
    by_cases hc : 0 < (V l).code
    · rw [if_pos hc]
      obtain ⟨c, hcc⟩ : ∃ c : Nat, (V l).code = (c : Int) := ⟨(V l).code.toNat, by omega⟩
      rw [hcc] at hv
      rw [hcc, Int.toNat_natCast]
      exact cmd_code h ho l (by omega) _ _ _ c (by omega) (by omega) hv
    · rw [if_neg hc]
      have hc0 : (V l).code = 0 := by omega
      rw [hc0] at hv
      obtain ⟨N, hN⟩ : ∃ N, N = (V l).name := ⟨_, rfl⟩
      obtain ⟨A, hA⟩ : ∃ A, A = (V l).arg := ⟨_, rfl⟩
      obtain ⟨z, hz⟩ : ∃ z, z = (V l).size := ⟨_, rfl⟩
      rw [← hN, ← hA, ← hz] at hv
      rw [Se.verb, ← hN]
      have hl5 : l.size ≤ 512 := by omega
      have hmail : s.mail (V l) = if s.st ≠ 1 then s.say (reply 503) else if (s.size : Int) < z then s.say (reply 552) else { s with st := 2, frm := A }.say (reply 250) := by rw [Se.mail, hA, hz]
      have hrcpt : s.rcpt (V l) = if s.st < 2 then s.say (reply 503) else if 8 ≤ s.rcpts.length then s.say (reply 452) else { s with st := 3, rcpts := s.rcpts ++ [A] }.say (reply 250) := by rw [Se.rcpt, hA]
      rw [hmail, hrcpt]
      clear hN hA hz hmail hrcpt
      by_cases n1 : N = nHELO
      · rw [if_pos n1]
        subst n1
        by_cases h1 : s.st = 0
        · exact cmd_helo0 h hok ho l hl5 A z h1 hv
        · exact cmd_helo1 h hok ho l hl5 A z (by omega) hv
      rw [if_neg n1]
      by_cases n2 : N = nEHLO
      · rw [if_pos n2]
        subst n2
        by_cases h1 : s.st = 0
        · exact cmd_ehlo0 h hok ho l hl5 A z h1 hh hv
        · exact cmd_ehlo1 h hok ho l hl5 A z (by omega) hh hv
      rw [if_neg n2]
      by_cases n3 : N = nRSET
      · rw [if_pos n3]; subst n3; exact cmd_rset h hok ho l hl5 A z hv
      rw [if_neg n3]
      by_cases n4 : N = nNOOP
      · rw [if_pos n4]; subst n4; exact cmd_noop h hok ho l hl5 A z hv
      rw [if_neg n4]
      by_cases n5 : N = nVRFY
      · rw [if_pos n5]; subst n5; exact cmd_vrfy h hok ho l hl5 A z hv
      rw [if_neg n5]
      by_cases n6 : N = nQUIT
      · rw [if_pos n6]; subst n6; exact cmd_quit h hok ho l hl5 A z hv
      rw [if_neg n6]
      by_cases n7 : N = nMAIL
      · rw [if_pos n7]
        subst n7
        by_cases h1 : s.st = 1
        · rw [if_neg (by simpa using h1)]
          by_cases h2 : (s.size : Int) < z
          · rw [if_pos h2]; exact cmd_mail1 h hok ho l hl5 A z (by omega) h2 hv
          · rw [if_neg h2]; exact cmd_mail2 h hok ho l hl5 A z (by omega) h2 hv
        · rw [if_pos h1]; exact cmd_mail0 h hok ho l hl5 A z (by omega) hv
      rw [if_neg n7]
      by_cases n8 : N = nRCPT
      · rw [if_pos n8]
        subst n8
        by_cases h1 : s.st < 2
        · rw [if_pos h1]; exact cmd_rcpt0 h hok ho l hl5 A z (by omega) hv
        · rw [if_neg h1]
          by_cases h2 : 8 ≤ s.rcpts.length
          · rw [if_pos h2]; exact cmd_rcpt1 h hok ho l hl5 A z (by omega) h2 hv
          · rw [if_neg h2]; exact cmd_rcpt2 h hok ho l hl5 A z (by omega) (by omega) hv
      rw [if_neg n8]
      by_cases n9 : N = nDATA
      · rw [if_pos n9]
        subst n9
        rw [Se.data]
        by_cases h1 : s.st = 3
        · rw [if_neg (by simpa using h1)]; exact cmd_data h hok ho l hl5 A z (by omega) hv
        · rw [if_pos h1]; exact cmd_data0 h hok ho l hl5 A z (by omega) hv
      rw [if_neg n9]
      exact cmd_none h hok ho l hl5 A z N (lit_ne n1) (lit_ne n2) (lit_ne n3) (lit_ne n4) (lit_ne n5) (lit_ne n6) (lit_ne n7) (lit_ne n8) (lit_ne n9) hv
end Go.Proofs.YtcjljldknekhiaaGreatDoor.Ln
