/-
  What the document's own text returns and does.
-/
import Derived.Test.YtcjljldknekhiaaGreatDoorKRx2
import Derived.Test.YtcjljldknekhiaaGreatDoorKRx3
import Derived.Test.YtcjljldknekhiaaGreatDoorKRx6
import Derived.Test.YtcjljldknekhiaaGreatDoorKRc8
namespace Go.Proofs.YtcjljldknekhiaaGreatDoor.Ln
open Go.RowKit
set_option linter.unusedVariables false

theorem bad3_off {s : Se} {l : List Nat} (h : 0 < s.bad) : bad3 s l = s.bad := by
  have h1 : bad1 s l = s.bad := by rw [bad1, if_neg (fun e => by omega)]
  have h2 : bad2 s l = s.bad := by rw [bad2, h1, if_neg (fun e => by omega)]
  rw [bad3, h2, if_neg (fun e => by omega)]
theorem bad3_long {s : Se} {l : List Nat} (h : s.bad = 0) (hl : 1000 < l.length) : bad3 s l = 500 := by
  have h1 : bad1 s l = 500 := by rw [bad1, if_pos ⟨hl, h⟩]
  have h2 : bad2 s l = 500 := by rw [bad2, h1, if_neg (fun e => by simp at e)]
  rw [bad3, h2, if_neg (fun e => by simp at e)]
theorem bad3_short {s : Se} {l : List Nat} (h : s.bad = 0) (hl : ¬ 1000 < l.length) : bad3 s l = if odd (unT l) = true then 500 else if s.size < s.body.length + (unT l).length + 1 then 552 else 0 := by
  have h1 : bad1 s l = 0 := by rw [bad1, if_neg (fun e => hl e.1)]; exact h
  cases ho : odd (unT l) with
  | true =>
    have h2 : bad2 s l = 500 := by rw [bad2, h1, if_pos ⟨ho, rfl⟩]
    rw [bad3, h2, if_neg (fun e => by simp at e)]
    rfl
  | false =>
    have h2 : bad2 s l = 0 := by rw [bad2, h1, if_neg (fun e => by rw [ho] at e; simp at e)]
    rw [bad3, h2]
    by_cases hc : s.size < s.body.length + (unT l).length + 1
    · rw [if_pos ⟨hc, rfl⟩]; simp [hc]
    · rw [if_neg (fun e => hc e.1)]; simp [hc]
theorem refBody : TextC := by
  intro F w g s h hok l hl ho
  rw [Se.text]
  by_cases hE : unE (ns l) = true
  · rw [if_pos hE]
    by_cases hb : 0 < s.bad
    · rw [if_pos hb]; exact refBody_bad h hok hb l hl hE (by omega)
    · rw [if_neg hb]; exact refBody_keep h hok (by omega) l hl hE (by omega)
  · rw [if_neg hE]
    have hE' : unE (ns l) = false := by simpa using hE
    have hn := ns_length l
    by_cases hb : 0 < s.bad
    · have e := bad3_off (l := ns l) hb
      have he : ({ s with bad := bad3 s (ns l), body := if bad3 s (ns l) = 0 then s.body ++ unT (ns l) ++ [10] else s.body } : Se) = s := by rw [e, if_neg (by omega)]
      rw [he]
      exact refBody_off h hok hb l hl hE'
    · have hb0 : s.bad = 0 := by omega
      by_cases hlong : 1000 < (ns l).length
      · have e := bad3_long hb0 hlong
        have he : ({ s with bad := bad3 s (ns l), body := if bad3 s (ns l) = 0 then s.body ++ unT (ns l) ++ [10] else s.body } : Se) = { s with bad := 500 } := by rw [e, if_neg (by omega)]
        rw [he]
        exact refBody_long h hok hb0 l hl hE' (by omega)
      · have e := bad3_short hb0 hlong
        have he : ({ s with bad := bad3 s (ns l), body := if bad3 s (ns l) = 0 then s.body ++ unT (ns l) ++ [10] else s.body } : Se) = (if odd (unT (ns l)) = true then { s with bad := 500 } else if s.size < s.body.length + (unT (ns l)).length + 1 then { s with bad := 552 } else { s with body := s.body ++ unT (ns l) ++ [10] }) := by
          rw [e]
          cases ho2 : odd (unT (ns l)) with
          | true => simp
          | false =>
            by_cases hc : s.size < s.body.length + (unT (ns l)).length + 1
            · simp [hc]
            · simp [hc, hb0]
        rw [he]
        exact refBody_line h hok hb0 l hl hE' (by omega)
/-- All that can be done. -/
theorem refGo' {V : ByteArray → VC} (hV : VerbC V) {F : Nat → Prop} {w : World} {g : Nat} {s : Se} (h : RS F w g s) (hok : Ok s) (hh : s.host.size ≤ 100000) (hs : s.out.length + s.wait.length ≤ 900000) :
    Calls Tryz.prog 16 #[.pointer (some ⟨g, 0, none⟩)] w (Did F g (s.go V) w) := refGo refBody (refCommand hV) h hok hh hs
end Go.Proofs.YtcjljldknekhiaaGreatDoor.Ln
