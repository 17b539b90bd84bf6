/-
  The document's Verb, whole.
-/
import Derived.Test.YtcjljldknekhiaaGreatDoorKAR3
import Derived.Test.YtcjljldknekhiaaGreatDoorKAR4A
import Derived.Test.YtcjljldknekhiaaGreatDoorKAR4B
import Derived.Test.YtcjljldknekhiaaGreatDoorKAR5
import Derived.Test.YtcjljldknekhiaaGreatDoorKAR5A
namespace Go.Proofs.YtcjljldknekhiaaGreatDoor.Ad
open Go.RowKit
set_option linter.unusedVariables false

theorem refVerb_walk (s : ByteArray) (hs : s.size ≤ 100000) (w : World) : Calls Tryz.prog 25 #[.string s] w fun e w' => e = .returned (cmdV (verbM s.data.toList)) ∧ Below w.heap.size w w' := by
  rw [verbM, verbN]
  cases hk : kind (great (ahd 32 s.data.toList)) with
  | none => exact refVerb_none s hs w hk
  | some k =>
    show Calls Tryz.prog 25 #[.string s] w fun e w' => e = .returned (cmdV (cmdOf (great (ahd 32 s.data.toList)) (outM k (bhd 32 s.data.toList) (s.data.toList.contains 32)))) ∧ Below w.heap.size w w'
    unfold kind at hk
    split at hk
    · rename_i h; cases hk; exact refVerb_hello s hs w _ rfl (.inl h)
    split at hk
    · rename_i h; cases hk; exact refVerb_hello s hs w _ rfl (.inr h)
    split at hk
    · rename_i h
      cases hk
      show Calls Tryz.prog 25 #[.string s] w fun e w' => e = .returned (cmdV (cmdOf (great (ahd 32 s.data.toList)) (mailM (bhd 32 s.data.toList)))) ∧ Below w.heap.size w w'
      cases h1 : keyed kFrom (bhd 32 s.data.toList) with
      | false => exact refVerb_mailS s hs w _ _ rfl rfl h h1
      | true =>
        cases h2 : isPath (ahd 32 ((bhd 32 s.data.toList).drop 5)) with
        | false => exact refVerb_mailP s hs w _ _ rfl rfl h h1 h2
        | true =>
          cases h3 : ((bs (pathM (ahd 32 ((bhd 32 s.data.toList).drop 5)))).toList == []) with
          | false => exact refVerb_mailA s hs w _ _ rfl rfl h h1 h2 h3
          | true => exact refVerb_mailB s hs w _ _ rfl rfl h h1 h2 h3
    split at hk
    · rename_i h
      cases hk
      show Calls Tryz.prog 25 #[.string s] w fun e w' => e = .returned (cmdV (cmdOf (great (ahd 32 s.data.toList)) (rcptM (bhd 32 s.data.toList)))) ∧ Below w.heap.size w w'
      cases h1 : keyed kTo (bhd 32 s.data.toList) with
      | false => exact refVerb_rcptS s hs w _ _ rfl rfl h h1
      | true =>
        cases h2 : isPath (ahd 32 ((bhd 32 s.data.toList).drop 3)) with
        | false => exact refVerb_rcptP s hs w _ _ rfl rfl h h1 (.inl h2)
        | true =>
          by_cases h3 : pathM (ahd 32 ((bhd 32 s.data.toList).drop 3)) = []
          · exact refVerb_rcptP s hs w _ _ rfl rfl h h1 (.inr h3)
          · exact refVerb_rcptA s hs w _ _ rfl rfl h h1 h2 h3
    split at hk
    · rename_i h; cases hk; exact refVerb_alone s hs w _ rfl (.inl h)
    split at hk
    · rename_i h; cases hk; exact refVerb_alone s hs w _ rfl (.inr (.inl h))
    split at hk
    · rename_i h; cases hk; exact refVerb_alone s hs w _ rfl (.inr (.inr h))
    split at hk
    · rename_i h; cases hk; exact refVerb_noop s hs w _ rfl h
    split at hk
    · rename_i h; cases hk; exact refVerb_vrfy s hs w _ rfl h
    · cases hk
end Go.Proofs.YtcjljldknekhiaaGreatDoor.Ad
