/-
  What a command's line says, as a session takes it: the program's Parse and the document's own Verb say the same.
-/
import Derived.Test.YtcjljldknekhiaaGreatDoorPs
import Derived.Test.YtcjljldknekhiaaGreatDoorAV7
namespace Go.Proofs.YtcjljldknekhiaaGreatDoor.Ln
open Go.RowKit
set_option linter.unusedVariables false
set_option linter.unusedSimpArgs false

def V9 (l : ByteArray) : VC := ⟨Ad.bs (Ad.verbM l.data.toList).name, Ad.bs (Ad.verbM l.data.toList).arg, (Ad.verbM l.data.toList).size, (Ad.verbM l.data.toList).code⟩
theorem out_codes (k : Ad.Kind) (r : List UInt8) (b : Bool) : (Ad.outM k r b).code = 0 ∨ (Ad.outM k r b).code = 501 ∨ (Ad.outM k r b).code = 555 := by
  cases k with
  | hello => simp only [Ad.outM, Ad.helloM]; split <;> simp [Ad.bad]
  | mail =>
    have := Ad.sizeGo_code (Ad.cuts 32 (Ad.bhd 32 r)) (-1) 0 (.inl rfl)
    simp only [Ad.outM, Ad.mailM]
    split
    · split
      · split
        · simp
        · exact this
      · simp
    · simp [Ad.bad]
  | rcpt => simp only [Ad.outM, Ad.rcptM]; (split <;> (try split)) <;> simp [Ad.bad]
  | alone => simp only [Ad.outM, Ad.aloneM]; split <;> simp [Ad.bad]
  | noop => simp [Ad.outM, Ad.noopM]
  | vrfy => simp only [Ad.outM, Ad.vrfyM]; split <;> simp [Ad.bad]
theorem verbN_codes (n r : List UInt8) (b : Bool) : (Ad.verbN n r b).code = 0 ∨ (Ad.verbN n r b).code = 500 ∨ (Ad.verbN n r b).code = 501 ∨ (Ad.verbN n r b).code = 555 := by
  cases hk : Ad.kind n with
  | none => rw [Ad.verbN_other hk]; exact .inr (.inl rfl)
  | some k =>
    have e : Ad.verbN n r b = Ad.cmdOf n (Ad.outM k r b) := by unfold Ad.verbN; rw [hk]
    rw [e, Ad.cmdOf_code]
    rcases out_codes k r b with h | h | h
    · exact .inl h
    · exact .inr (.inr (.inl h))
    · exact .inr (.inr (.inr h))
theorem V9_codes (l : ByteArray) : (V9 l).code = 0 ∨ (V9 l).code = 500 ∨ (V9 l).code = 501 ∨ (V9 l).code = 555 := verbN_codes _ _ _
/-- One of the nine. -/
def Nine (n : ByteArray) : Prop := n = nHELO ∨ n = nEHLO ∨ n = nRSET ∨ n = nNOOP ∨ n = nVRFY ∨ n = nQUIT ∨ n = nMAIL ∨ n = nRCPT ∨ n = nDATA
theorem V9_nine (l : ByteArray) (h : (V9 l).code = 0) : Nine (V9 l).name := by
  show Nine (Ad.bs (Ad.verbN _ _ _).name)
  have h : (Ad.verbN (Ad.great (Ad.ahd 32 l.data.toList)) (Ad.bhd 32 l.data.toList) (l.data.toList.contains 32)).code = 0 := h
  generalize Ad.great (Ad.ahd 32 l.data.toList) = n at h ⊢
  cases hk : Ad.kind n with
  | none => rw [Ad.verbN_other hk] at h; cases h
  | some k =>
    have e : Ad.verbN n (Ad.bhd 32 l.data.toList) (l.data.toList.contains 32) = Ad.cmdOf n (Ad.outM k (Ad.bhd 32 l.data.toList) (l.data.toList.contains 32)) := by unfold Ad.verbN; rw [hk]
    rw [e, Ad.cmdOf_code] at h
    rw [e, Ad.cmdOf, if_pos h]
    show Nine (Ad.bs n)
    unfold Ad.kind at hk
    split at hk; · rename_i e; subst e; exact .inl rfl
    split at hk; · rename_i e; subst e; exact .inr (.inl rfl)
    split at hk; · rename_i e; subst e; exact .inr (.inr (.inr (.inr (.inr (.inr (.inl rfl))))))
    split at hk; · rename_i e; subst e; exact .inr (.inr (.inr (.inr (.inr (.inr (.inr (.inl rfl)))))))
    split at hk; · rename_i e; subst e; exact .inr (.inr (.inr (.inr (.inr (.inr (.inr (.inr rfl)))))))
    split at hk; · rename_i e; subst e; exact .inr (.inr (.inl rfl))
    split at hk; · rename_i e; subst e; exact .inr (.inr (.inr (.inr (.inr (.inl rfl)))))
    split at hk; · rename_i e; subst e; exact .inr (.inr (.inr (.inl rfl)))
    split at hk; · rename_i e; subst e; exact .inr (.inr (.inr (.inr (.inl rfl))))
    cases hk
theorem V9_cmd (l : ByteArray) : Ad.cmdV (Ad.verbM l.data.toList) = .tuple #[.agg #[.string (V9 l).name, .string (V9 l).arg, .int .i64 (V9 l).size], .int .i64 (V9 l).code] := rfl
theorem parseC (l : ByteArray) (hl : l.size < 4294967281) (w : World) (hE : Env w) :
    Calls Tryz.prog 88 #[.string l] w fun e w' => e = .returned (.tuple #[.agg #[.string (V9 l).name, .string (V9 l).arg, .int .i64 (V9 l).size], .int .i64 (V9 l).code]) ∧ Keep (fun _ => False) w w' := by
  obtain ⟨⟨m, hm⟩, _⟩ := hE
  refine (Ad.vparse_walk l hl m w hm).mono ?_
  rintro e w' ⟨rfl, hb⟩
  exact ⟨by rw [V9_cmd], Keep.of_below hb⟩
end Go.Proofs.YtcjljldknekhiaaGreatDoor.Ln
