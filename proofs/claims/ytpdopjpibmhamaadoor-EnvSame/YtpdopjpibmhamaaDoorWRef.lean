/-
  A row just made.
-/
import Derived.Test.YtpdopjpibmhamaaDoorWRead
namespace Go.Proofs.YtpdopjpibmhamaaDoor.Ln
open Go.RowKit

theorem Own.of_at {w : World} {g : Nat} {bs : List Nat} (h : At w g 5 (cellsOf bs).toArray) (hb : ∀ c ∈ bs, c < 256) (hm : bs.length ≤ maxLen) : Own w (.slice (some ⟨g, 0, none⟩) bs.length bs.length) bs := by
  refine ⟨⟨by simp [cellsOf_length], .inr ⟨g, bs.length, _, rfl, Nat.zero_le _, h, Nat.le_refl _, hm, by simp [cellsOf_length], ?_⟩⟩, hb⟩
  simp [← cellsOf_length]

end Go.Proofs.YtpdopjpibmhamaaDoor.Ln
