/-
  The calls of a disk that the laws make, over blocks behind a base; what 'answers' and 'do' of the laws return.
-/
import Derived.Test.YtlpeiejohgchmaaDoorDCrash
namespace Go.Proofs.YtlpeiejohgchmaaDoor.Fs
open Go.RowKit Go.Maps
set_option linter.unusedVariables false

/-- The blocks from base on. -/
def Iv (base : Nat) (w : World) (b : Nat) : Prop := base ≤ b ∧ b < w.heap.size
/-- A disk that lies behind base. -/
def D (base : Nat) (w : World) (f : Nat) (s : St) : Prop := base ≤ w.heap.size ∧ Disk w (Iv base w) f s
/-- What a write leaves behind, for the laws. -/
def Ok (base : Nat) (w : World) (f : Nat) (s : St) (E : Nat) (e : Ending) (w' : World) : Prop := e = .returned (.int .i64 (E : Int)) ∧ D base w' f s ∧ Below base w w'
section
variable {base f E : Nat} {w w' : World} {s : St} {e : Ending}
theorem D.keep {T : Nat → Prop} (h : D base w f s) (k : Keep T w w') (hT : ∀ b, Iv base w b → ¬ T b) : D base w' f s :=
  ⟨Nat.le_trans h.1 k.size, (h.2.keep k hT).mono (fun i hi hs => ⟨hs.1, hi⟩)⟩
theorem D.quiet (h : D base w f s) (k : Keep (fun _ => False) w w') : D base w' f s := h.keep k (fun _ _ h => h)
theorem D.of (hb : base ≤ w.heap.size) (h : Disk w' (Up (Iv base w) w w') f s) (k : Keep (Iv base w) w w') : D base w' f s ∧ Below base w w' := by
  refine ⟨⟨Nat.le_trans hb k.size, h.mono (fun i hi hs => ?_)⟩, k.below hb (fun _ h => h.1)⟩
  rcases hs with hs | hs
  · exact ⟨hs.1, hi⟩
  · exact ⟨by omega, hi⟩
theorem Ok.of (hb : base ≤ w.heap.size) (h : Wrote w (Iv base w) f s E e w') : Ok base w f s E e w' := by
  obtain ⟨h1, h2, h3⟩ := h
  exact ⟨h1, D.of hb h2 h3⟩
theorem D.good (h : D base w f s) : Good s := h.2.good
end
theorem quiet_below {base : Nat} {w w' : World} (k : Keep (fun _ => False) w w') (hb : base ≤ w.heap.size) : Below base w w' := k.below hb (fun _ h => h.elim)

section
variable {base f : Nat} {s : St} (w : World) (A B : ByteArray)
theorem dNew (n : Int) (w : World) : Calls Tryd.prog 11 #[.int .i64 n] w fun e w' => e = .returned (.pointer (some ⟨w.heap.size, 0, none⟩)) ∧ D w.heap.size w' w.heap.size (newS n) ∧ Keep (fun _ => False) w w' :=
  (new n w).mono fun e w' ⟨h1, h2, h3, h4⟩ => ⟨h1, ⟨h3.size, h2.mono (fun i hi e => ⟨by omega, hi⟩)⟩, h3⟩
theorem dCreate (hA : A.size ≤ 9223372036854775807) (hb : s.bulk + 2 ≤ 1000000) (h : D base w f s) : Calls Tryd.prog 18 #[.pointer (some ⟨f, 0, none⟩), .string A] w (Ok base w f (createS s (nm A)) (createE s (nm A))) :=
  (create f _ s A hA hb w h.2).mono fun e w' hw => Ok.of h.1 hw
theorem dUnlink (hA : A.size ≤ 9223372036854775807) (hb : s.bulk + 2 ≤ 1000000) (h : D base w f s) : Calls Tryd.prog 36 #[.pointer (some ⟨f, 0, none⟩), .string A] w (Ok base w f (unlinkS s (nm A)) (unlinkE s (nm A))) :=
  (unlink f _ s A hA hb w h.2).mono fun e w' hw => Ok.of h.1 hw
theorem dDirSync (h : D base w f s) : Calls Tryd.prog 35 #[.pointer (some ⟨f, 0, none⟩)] w (Ok base w f (dirSyncS s) (dirSyncE s)) :=
  (dirSync f _ s w h.2).mono fun e w' hw => Ok.of h.1 hw
theorem dFuse (n : Int) (hn : n ≤ 9223372036854775807) (h : D base w f s) : Calls Tryd.prog 13 #[.pointer (some ⟨f, 0, none⟩), .int .i64 n] w fun e w' => e = .returned (.tuple #[]) ∧ D base w' f (fuseS s n) ∧ Below base w w' :=
  (fuse f _ s n hn w h.2).mono fun e w' ⟨h1, h2, h3, h4⟩ => by
    obtain ⟨⟨L, hp⟩, _⟩ := h.2
    exact ⟨h1, ⟨by rw [h4]; exact h.1, h2.mono (fun i hi hs => ⟨hs.1, hi⟩)⟩, h3.below h.1 (fun k e => by rw [e]; exact hp.inS.1)⟩
theorem dCrash (a b : Int) (hb : b ≤ 9223372036854775807) (h : D base w f s) : Calls Tryd.prog 16 #[.pointer (some ⟨f, 0, none⟩), .int .i64 a, .int .i64 b] w fun e w' => e = .returned (.tuple #[]) ∧ D base w' f (crashS s a b) ∧ Below base w w' :=
  (crash f _ s a b hb w h.2).mono fun e w' ⟨h1, h2, h3⟩ => ⟨h1, D.of h.1 h2 h3⟩
end

/-! ### answers -/
def s100 : St := ⟨100, [], [.mk [97] 0], [⟨[], 0⟩], none, false⟩
def s101 : St := ⟨100, [], [.mk [97] 0], [⟨[7], 0⟩], none, false⟩
def bA : ByteArray := { data := #[97] }
def bB : ByteArray := { data := #[98] }
/-! ### List on no disk, and without power -/
set_option maxHeartbeats 2000000 in
theorem listNone (w : World) : Calls Tryd.prog 17 #[.pointer none] w fun e w' => e = .returned (.slice none 0 0) ∧ w = w' := by
  go_enter Tryd.func17, Tryd.ntmps17
  go_wp2
  go_ret
  exact ⟨rfl, rfl⟩
set_option maxHeartbeats 2000000 in
theorem listDown (f : Nat) (S : Nat → Prop) (s : St) (w : World) (h : Disk w S f s) (hd : s.down = true) : Calls Tryd.prog 17 #[.pointer (some ⟨f, 0, none⟩)] w fun e w' => e = .returned (.slice none 0 0) ∧ w = w' := by
  obtain ⟨⟨L, hp⟩, hG⟩ := h
  have c6 := hp.fs.cell 6
  simp [cellsFS, hd] at c6
  clear hp hG
  go_enter Tryd.func17, Tryd.ntmps17
  go_wp2
  go_ret
  exact ⟨rfl, rfl⟩

end Go.Proofs.YtlpeiejohgchmaaDoor.Fs
