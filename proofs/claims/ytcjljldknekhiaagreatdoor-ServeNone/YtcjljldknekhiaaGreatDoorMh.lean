/-
  No line turns the host's name.
-/
import Derived.Test.YtcjljldknekhiaaGreatDoorSm
namespace Go.Proofs.YtcjljldknekhiaaGreatDoor.Ln
set_option linter.unusedVariables false

theorem text_host (s : Se) (l : List Nat) : (s.text l).host = s.host := by
  unfold Se.text
  split
  · split <;> rfl
  · rfl
theorem verb_host (s : Se) (v : VC) : (s.verb v).host = s.host := by
  unfold Se.verb
  split; · rfl
  split; · rfl
  split; · rfl
  split; · rfl
  split; · rfl
  split; · rfl
  split
  · unfold Se.mail; split; · rfl
    split <;> rfl
  split
  · unfold Se.rcpt; split; · rfl
    split <;> rfl
  split
  · unfold Se.data; split <;> rfl
  rfl
theorem line_host (V : ByteArray → VC) (s : Se) (l : List Nat) : (s.line V l).host = s.host := by
  unfold Se.line
  split
  · exact text_host s l
  · unfold Se.command
    split; · rfl
    split; · rfl
    exact verb_host s _
end Go.Proofs.YtcjljldknekhiaaGreatDoor.Ln
