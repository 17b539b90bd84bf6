/-
  What 'Used' and 'settle' return.
-/
import Derived.Test.YtlpeiejohgchmaaDoorDChg
import Derived.Deep.LoopGhost
import Derived.Laws.IdiomRangeMap
namespace Go.Proofs.YtlpeiejohgchmaaDoor.Fs
open Go.RowKit Go.Maps
set_option linter.unusedVariables false

/-! ### Sums over what is no longer to come -/
def sumBut (s : St) (d : Dir) (left : Lit → Bool) : Nat := ((d.filter fun p => !left (.string p.1)).map fun p => (s.file p.2).bytes.length).sum
theorem sumBut_start (s : St) (d : Dir) (fb : Nat → Nat) : sumBut s d (Maps.has (toD fb d)) = 0 := by
  unfold sumBut
  rw [List.filter_eq_nil_iff.2]
  · rfl
  · intro p hp
    have : get d p.1 ≠ none := fun h => get_none.1 h p hp rfl
    rw [toD_has]
    cases h : get d p.1
    · exact absurd h this
    · simp
theorem sumBut_end (s : St) (d : Dir) {left : Lit → Bool} (hl : ∀ kl, left kl = false) : sumBut s d left = (d.map fun p => (s.file p.2).bytes.length).sum := by
  unfold sumBut
  rw [List.filter_eq_self.2]
  intro p _
  simp [hl]
theorem sumBut_step (s : St) : ∀ (d : Dir), (d.map (·.1)).Nodup → ∀ (left : Lit → Bool) (a : Nm) (i : Nat), (a, i) ∈ d → left (.string a) = true → sumBut s d (fun z => left z && !z.sameKey (.string a)) = sumBut s d left + (s.file i).bytes.length
  | [], _, _, _, _, h, _ => by simp at h
  | y :: r, hn, left, a, i, h, hl => by
    simp only [List.map_cons, List.nodup_cons] at hn
    have hsk : ∀ b : Nm, (Lit.string b).sameKey (.string a) = (b == a) := fun b => rfl
    rcases List.mem_cons.1 h with e | hr
    · subst e
      have hr : ∀ p ∈ r, p.1 ≠ a := fun p hp e => hn.1 (e ▸ List.mem_map.2 ⟨p, hp, rfl⟩)
      have e1 : r.filter (fun p => !(left (.string p.1) && !(Lit.string p.1).sameKey (.string a))) = r.filter (fun p => !left (.string p.1)) := List.filter_congr fun p hp => by
        rw [hsk]
        have : (p.1 == a) = false := by simpa using hr p hp
        simp [this]
      unfold sumBut
      rw [List.filter_cons, List.filter_cons]
      simp only [hsk, hl, beq_self_eq_true, Bool.not_true, Bool.and_false, Bool.not_false, if_true, List.map_cons, List.sum_cons]
      rw [show (fun p : Nm × Nat => !(left (.string p.1) && !(p.1 == a))) = fun p => !(left (.string p.1) && !(Lit.string p.1).sameKey (.string a)) from rfl, e1]
      simp
      omega
    · have ih := sumBut_step s r hn.2 left a i hr hl
      have hy : y.1 ≠ a := fun e => hn.1 (e ▸ List.mem_map.2 ⟨(a, i), hr, rfl⟩)
      unfold sumBut at ih ⊢
      rw [List.filter_cons, List.filter_cons]
      have hb : (y.1 == a) = false := by simpa using hy
      simp only [hsk, hb, Bool.not_false, Bool.and_true]
      cases left (.string y.1)
      · simp only [Bool.not_false, if_true, List.map_cons, List.sum_cons]
        have := ih
        simp only [hsk] at this
        omega
      · simp only [Bool.not_true]
        have := ih
        simp only [hsk] at this
        simpa using this

theorem sum_sub {α : Type} (g : α → Nat) {l l' : List α} (h : l.Sublist l') : (l.map g).sum ≤ (l'.map g).sum := by
  induction h with
  | slnil => exact Nat.le_refl _
  | cons a _ ih => simp only [List.map_cons, List.sum_cons]; omega
  | cons_cons a _ ih => simp only [List.map_cons, List.sum_cons]; omega
theorem sumBut_le (s : St) (d : Dir) (left : Lit → Bool) : sumBut s d left ≤ (d.map fun p => (s.file p.2).bytes.length).sum := sum_sub _ List.filter_sublist
theorem at_some {fb : Nat → Nat} {d : Dir} {a : Nm} {y : DW} (h : ∀ zd, (toD fb d).atKey (.string a) zd = y) : ∃ i, get d a = some i ∧ y = .lit (.int .i64 (fb i)) := by
  have h1 := h .nil
  have h2 := h (.lit (.bool true))
  rw [toD_at] at h1 h2
  cases hg : get d a with
  | none => rw [hg] at h1 h2; rw [← h1] at h2; cases h2
  | some i => rw [hg] at h1; exact ⟨i, rfl, h1.symm⟩
theorem ranges_keep {w w' : World} {R : Value → Option (DW × List MemPlace)} {b r n : Nat} {D : DW} {left : Lit → Bool} {cnt : Nat} {T : Nat → Prop} (h : w.ranges Tryd.prog 9 R b r n D left cnt) (k : Keep T w w') (h1 : ¬ T b) (h2 : ¬ T r) : w'.ranges Tryd.prog 9 R b r n D left cnt := by
  have l1 := h.owns.lt
  have l2 := h.lt
  obtain ⟨es, clock, since, seen, c0, hb, F, hs, hD, hr, rest⟩ := h
  exact ⟨es, clock, since, seen, c0, (k.block b l1 h1).trans hb, F, hs, hD, (k.block r l2 h2).trans hr, rest⟩
theorem invK9 : ∀ key kl, keyOf Tryd.prog 9 key = some kl → ∃ x : List UInt8, key = encStr x := fun key kl h => by
  obtain ⟨x, hx, _⟩ := Maps.keyOf_str Tryd.underlying9 h
  exact ⟨x, hx⟩

end Go.Proofs.YtlpeiejohgchmaaDoor.Fs
