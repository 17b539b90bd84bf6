/-
  What the program's '(*Writer).Bytes' and 'Out' return and leave behind, for every writer and all bytes.
-/
import Derived.Test.YtcplemamcgonkaaWWrite
namespace Go.Proofs.Ytcplemamcgonkaa.Ln
open Go.RowKit

/-- What 'Out' answers. -/
def OutP (s : Option (List Nat)) (w : World) (e : Ending) (w' : World) : Prop :=
  match s with
  | none => e = .returned (.tuple #[.slice none 0 0, .bool false]) ∧ w = w'
  | some bs => ∃ g m, m = bs.length ∧ w.heap.size ≤ g ∧ e = .returned (.tuple #[.slice (some ⟨g, 0, none⟩) m m, .bool true]) ∧ At w' g 5 (cellsOf bs).toArray ∧ Keep (fun _ => False) w w'

set_option maxHeartbeats 1000000 in
theorem out (p : Nat) (q : Option Nat) (s : Option (List Nat)) (hl : (s.getD []).length ≤ 1099511627776) (w : World) (h : Wr w p q s) : Calls Try.prog 22 #[.pointer (some ⟨p, 0, none⟩)] w (OutP s w) := by
  rcases s with _ | bs
  · have hA : At w p 46 #[.slice none 0 0, .bool true] := h.2
    have c0 := hA.cell 0
    have c1 := hA.cell 1
    simp at c0 c1
    clear h hA
    go_enter Try.func22, Try.ntmps22
    go_wp2
    go_ret2
    exact ⟨rfl, rfl⟩
  · obtain ⟨x0, n0, cap0, hn, _, hA, hO⟩ := h
    have c0 := hA.cell 0
    have c1 := hA.cell 1
    simp at c0 c1
    obtain ⟨x1, cap1, e1, hB⟩ := hO.shape
    injection e1 with e1 e2 e3
    subst e1 e3
    have HB := Lib.hid hB
    have HN := Lib.hid hn
    have hl' : n0 ≤ 1099511627776 := by rw [hn]; exact hl
    clear hA hO hB hn e2 hl
    go_enter Try.func22, Try.ntmps22
    go_wp2_with (go_at_call 30; refine (copied _ x0 n0 cap0 bs HN.out.symm hl' w HB.out).mono ?_; rintro e w1 ⟨g, m, hm, hg, rfl, hat, hk⟩; have HM := Lib.hid hm; clear hm)
    go_ret2
    exact ⟨g, m, HM.out, hg, rfl, hat, hk⟩
set_option maxHeartbeats 400000 in
theorem outNil (w : World) : Calls Try.prog 22 #[.pointer none] w fun e w' => e = .returned (.tuple #[.slice none 0 0, .bool false]) ∧ w = w' := by
  go_enter Try.func22, Try.ntmps22
  go_wp2
  go_ret2
  exact ⟨rfl, rfl⟩

/-- A new writer. -/
theorem Wr.new (w : World) : Wr (w.alloc (.cells #[.slice none 0 0, .bool false] 46)) w.heap.size none (some []) := ⟨none, 0, 0, rfl, rfl, At.new w 46 _, Own.empty _⟩

end Go.Proofs.Ytcplemamcgonkaa.Ln
