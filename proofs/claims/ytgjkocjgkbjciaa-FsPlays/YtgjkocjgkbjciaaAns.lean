/-
  The calls of a disk that the laws make, over blocks behind a base; what 'answers' and 'do' of the laws return.
-/
import Derived.Test.YtgjkocjgkbjciaaCrash
namespace Go.Proofs.Ytgjkocjgkbjciaa.Fs
open Go.RowKit Go.Maps
set_option linter.unusedVariables false

/-- The blocks from base on. -/
def Iv (base : Nat) (w : World) (b : Nat) : Prop := base ≤ b ∧ b < w.heap.size
/-- A disk that lies behind base. -/
def D (base : Nat) (w : World) (f : Nat) (s : St) : Prop := base ≤ w.heap.size ∧ Disk w (Iv base w) f s
/-- What a write leaves behind, for the laws. -/
def Ok (base : Nat) (w : World) (f : Nat) (s : St) (E : Nat) (e : Ending) (w' : World) : Prop := e = .returned (.int .i64 (E : Int)) ∧ D base w' f s ∧ Below base w w'
section
variable {base f E : Nat} {w w' : World} {s : St} {e : Ending}
theorem D.keep {T : Nat → Prop} (h : D base w f s) (k : Keep T w w') (hT : ∀ b, Iv base w b → ¬ T b) : D base w' f s :=
  ⟨Nat.le_trans h.1 k.size, (h.2.keep k hT).mono (fun i hi hs => ⟨hs.1, hi⟩)⟩
theorem D.quiet (h : D base w f s) (k : Keep (fun _ => False) w w') : D base w' f s := h.keep k (fun _ _ h => h)
theorem D.of (hb : base ≤ w.heap.size) (h : Disk w' (Up (Iv base w) w w') f s) (k : Keep (Iv base w) w w') : D base w' f s ∧ Below base w w' := by
  refine ⟨⟨Nat.le_trans hb k.size, h.mono (fun i hi hs => ?_)⟩, k.below hb (fun _ h => h.1)⟩
  rcases hs with hs | hs
  · exact ⟨hs.1, hi⟩
  · exact ⟨by omega, hi⟩
theorem Ok.of (hb : base ≤ w.heap.size) (h : Wrote w (Iv base w) f s E e w') : Ok base w f s E e w' := by
  obtain ⟨h1, h2, h3⟩ := h
  exact ⟨h1, D.of hb h2 h3⟩
theorem D.good (h : D base w f s) : Good s := h.2.good
end
theorem quiet_below {base : Nat} {w w' : World} (k : Keep (fun _ => False) w w') (hb : base ≤ w.heap.size) : Below base w w' := k.below hb (fun _ h => h.elim)

section
variable {base f : Nat} {s : St} (w : World) (A B : ByteArray)
theorem dNew (n : Int) (w : World) : Calls Try.prog 10 #[.int .i64 n] w fun e w' => e = .returned (.pointer (some ⟨w.heap.size, 0, none⟩)) ∧ D w.heap.size w' w.heap.size (newS n) ∧ Keep (fun _ => False) w w' :=
  (new n w).mono fun e w' ⟨h1, h2, h3, h4⟩ => ⟨h1, ⟨h3.size, h2.mono (fun i hi e => ⟨by omega, hi⟩)⟩, h3⟩
theorem dCreate (hA : A.size ≤ 9223372036854775807) (hb : s.bulk + 2 ≤ 1000000) (h : D base w f s) : Calls Try.prog 18 #[.pointer (some ⟨f, 0, none⟩), .string A] w (Ok base w f (createS s (nm A)) (createE s (nm A))) :=
  (create f _ s A hA hb w h.2).mono fun e w' hw => Ok.of h.1 hw
theorem dUnlink (hA : A.size ≤ 9223372036854775807) (hb : s.bulk + 2 ≤ 1000000) (h : D base w f s) : Calls Try.prog 22 #[.pointer (some ⟨f, 0, none⟩), .string A] w (Ok base w f (unlinkS s (nm A)) (unlinkE s (nm A))) :=
  (unlink f _ s A hA hb w h.2).mono fun e w' hw => Ok.of h.1 hw
theorem dRename (hA : A.size ≤ 9223372036854775807) (hB : B.size ≤ 9223372036854775807) (hb : s.bulk + 2 ≤ 1000000) (h : D base w f s) : Calls Try.prog 26 #[.pointer (some ⟨f, 0, none⟩), .string A, .string B] w (Ok base w f (renameS s (nm A) (nm B)) (renameE s (nm A) (nm B))) :=
  (rename f _ s A B hA hB hb w h.2).mono fun e w' hw => Ok.of h.1 hw
theorem dSync (hA : A.size ≤ 9223372036854775807) (h : D base w f s) : Calls Try.prog 20 #[.pointer (some ⟨f, 0, none⟩), .string A] w (Ok base w f (syncS s (nm A)) (syncE s (nm A))) :=
  (sync f _ s A hA w h.2).mono fun e w' hw => Ok.of h.1 hw
theorem dDirSync (h : D base w f s) : Calls Try.prog 21 #[.pointer (some ⟨f, 0, none⟩)] w (Ok base w f (dirSyncS s) (dirSyncE s)) :=
  (dirSync f _ s w h.2).mono fun e w' hw => Ok.of h.1 hw
/-- Bytes that lie ahead of base. -/
theorem dAppend (hA : A.size ≤ 9223372036854775807) (P : Nat → Prop) (x : Option Addr) (n cap : Nat) (bs : List Nat) (hn : bs.length = n) (hnb : n ≤ 4611686018427387904) (hP : ∀ b, P b → b < base) (hB : Bytes P w x bs) (h : D base w f s) :
    Calls Try.prog 19 #[.pointer (some ⟨f, 0, none⟩), .string A, .slice x n cap] w (Ok base w f (appendS s (nm A) bs) (appendE s (nm A) bs)) :=
  (append f _ s A hA P x n cap bs hn hnb (fun b hp hi => by have := hP b hp; have := hi.1; omega) w hB h.2).mono fun e w' hw => Ok.of h.1 hw
/-- Bytes of a row of the call's own, made behind the disk. -/
theorem dAppendNew (hA : A.size ≤ 9223372036854775807) (w0 : World) (x : Option Addr) (n cap : Nat) (bs : List Nat) (hn : bs.length = n) (hnb : n ≤ 4611686018427387904) (hB : Bytes (fun b => w0.heap.size ≤ b) w x bs) (h : D base w0 f s) (k : Keep (fun _ => False) w0 w) :
    Calls Try.prog 19 #[.pointer (some ⟨f, 0, none⟩), .string A, .slice x n cap] w (Ok base w f (appendS s (nm A) bs) (appendE s (nm A) bs)) :=
  (append f (Iv base w0) s A hA _ x n cap bs hn hnb (fun b hp hi => by have := hi.2; omega) w hB (h.2.keep k (fun _ _ h => h))).mono fun e w' ⟨h1, h2, h3⟩ => by
    have hb := Nat.le_trans h.1 k.size
    have h4 := D.of hb (h2.mono (fun i hi hs => by
      rcases hs with hs | hs
      · exact .inl ⟨hs.1, Nat.lt_of_lt_of_le hs.2 k.size⟩
      · exact .inr hs)) (h3.mono (fun i _ hs => ⟨hs.1, Nat.lt_of_lt_of_le hs.2 k.size⟩))
    exact ⟨h1, h4⟩
theorem dRead (hA : A.size ≤ 9223372036854775807) (h : D base w f s) : Calls Try.prog 24 #[.pointer (some ⟨f, 0, none⟩), .string A] w fun e w' => ∃ y n c, n = (readV s (nm A)).length ∧ e = .returned (.tuple #[.slice y n c, .int .i64 ((findE s (nm A) : Nat) : Int)]) ∧ Own w' (.slice y n c) (readV s (nm A)) ∧ Keep (fun _ => False) w w' ∧ (∀ b, (Value.slice y n c).ownBlock = some b → w.heap.size ≤ b) :=
  (read f _ s A hA w h.2).mono fun e w' ⟨y, n, c, h1, h2, h3, h4, _, h5⟩ => ⟨y, n, c, h1, h2, h3, h5, h4⟩
theorem dUsed (h : D base w f s) : Calls Try.prog 30 #[.pointer (some ⟨f, 0, none⟩)] w fun e w' => e = .returned (.int .i64 (s.used : Int)) ∧ Keep (fun _ => False) w w' := by
  obtain ⟨_, ⟨L, hp⟩, hG⟩ := h
  exact usedP f _ s L w hp hG
theorem dFuse (n : Int) (hn : n ≤ 9223372036854775807) (h : D base w f s) : Calls Try.prog 25 #[.pointer (some ⟨f, 0, none⟩), .int .i64 n] w fun e w' => e = .returned (.tuple #[]) ∧ D base w' f (fuseS s n) ∧ Below base w w' :=
  (fuse f _ s n hn w h.2).mono fun e w' ⟨h1, h2, h3, h4⟩ => by
    obtain ⟨⟨L, hp⟩, _⟩ := h.2
    exact ⟨h1, ⟨by rw [h4]; exact h.1, h2.mono (fun i hi hs => ⟨hs.1, hi⟩)⟩, h3.below h.1 (fun k e => by rw [e]; exact hp.inS.1)⟩
theorem dCrash (a b : Int) (hb : b ≤ 9223372036854775807) (h : D base w f s) : Calls Try.prog 23 #[.pointer (some ⟨f, 0, none⟩), .int .i64 a, .int .i64 b] w fun e w' => e = .returned (.tuple #[]) ∧ D base w' f (crashS s a b) ∧ Below base w w' :=
  (crash f _ s a b hb w h.2).mono fun e w' ⟨h1, h2, h3⟩ => ⟨h1, D.of h.1 h2 h3⟩
end

/-! ### answers -/
def s100 : St := ⟨100, [], [.mk [97] 0], [⟨[], 0⟩], none, false⟩
def s101 : St := ⟨100, [], [.mk [97] 0], [⟨[7], 0⟩], none, false⟩
def bA : ByteArray := { data := #[97] }
def bB : ByteArray := { data := #[98] }
theorem ans1 : createS (newS 100) (nm bA) = s100 := by rfl
theorem ans2 : createE (newS 100) (nm bA) = 0 := by rfl
theorem ans3 : appendS s100 (nm bA) [7] = s101 := by rfl
theorem ans4 : appendE s100 (nm bA) [7] = 0 := by rfl
theorem ans5 : readV s101 (nm bA) = [7] := by rfl
theorem ans6 : findE s101 (nm bA) = 0 := by rfl
theorem ans7 : s101.used = 1 := by rfl
theorem ans8 : appendE s101 (nm bB) [] = 4 := by rfl

set_option maxHeartbeats 4000000 in
set_option maxRecDepth 100000 in
theorem answers (w : World) : Calls Try.prog 12 #[] w fun e w' => e = .returned (.bool true) ∧ Keep (fun _ => False) w w' := by
  go_enter Try.func12, Try.ntmps12
  go_wp2_with fail
  refine (dNew 100 w).mono ?_
  rintro e w1 ⟨rfl, hd1, k1⟩
  have cC := dCreate w1 bA (by decide) (by decide) hd1
  rw [ans1, ans2] at cC
  have HK1 := Lib.hid k1
  clear hd1 k1
  go_wp2_with fail
  refine cC.mono ?_
  rintro e w2 ⟨rfl, hd2, b2⟩
  have HD2 := Lib.hid hd2
  have HB2 := Lib.hid b2
  clear hd2 b2 cC
  go_wp2_with fail
  have hB3 : Bytes (fun b => w2.heap.size ≤ b) (w2.alloc (.cells #[.int .u8 7] 5)) (some ⟨w2.heap.size, 0, none⟩) [7] := by
    have := Bytes.of_at (bs := [7]) (At.new w2 5 (cellsOf [7]).toArray) (by simp)
    exact this.mono (fun b _ e => by omega)
  have k3 : Keep (fun _ => False) w2 (w2.alloc (.cells #[.int .u8 7] 5)) := (Keep.refl _ w2).alloc _
  refine (dAppendNew _ bA (by decide) w2 (some ⟨w2.heap.size, 0, none⟩) 1 1 [7] rfl (by omega) hB3 HD2.out k3).mono ?_
  rw [ans3, ans4]
  rintro e w3 ⟨rfl, hd3, b3⟩
  have HD3 := Lib.hid hd3
  have HB3 : Hid (Below w.heap.size w w3) := (Keep.below HK1.out (Nat.le_refl _) (fun _ h => h.elim)).trans ((HB2.out.trans (quiet_below k3 HD2.out.1)).trans b3)
  clear hd3 b3 hB3 k3
  go_wp2_with fail
  refine (dRead w3 bA (by decide) HD3.out).mono ?_
  rw [ans5, ans6]
  rintro e w4 ⟨y, n, c, hn, rfl, hO4, k4, hb4⟩
  have hn1 : n = 1 := hn
  subst hn1
  obtain ⟨x4, c4, e4, hby⟩ := hO4.shape
  injection e4 with e4a e4b e4c
  subst e4a
  obtain ⟨g, off, _, rfl, hc⟩ := hby.at 0 (by decide)
  simp at hc
  have HD4 := Lib.hid (HD3.out.quiet k4)
  have HB4 : Hid (Below w.heap.size w w4) := HB3.out.trans (quiet_below k4 HD3.out.1)
  clear hn hO4 k4 hb4 hby e4b e4c
  go_wp2_with fail
  refine (dUsed w4 HD4.out).mono ?_
  rw [ans7]
  rintro e w5 ⟨rfl, k5⟩
  have HD5 := Lib.hid (HD4.out.quiet k5)
  have HB5 : Hid (Below w.heap.size w w5) := HB4.out.trans (quiet_below k5 HD4.out.1)
  clear k5
  go_wp2_with fail
  refine (loose w.heap.size _ s101 w5 HD5.out.2).mono ?_
  rintro e w6 ⟨rfl, rfl⟩
  go_wp2_with fail
  refine (dAppend w5 bB (by decide) (fun _ => False) none 0 0 [] rfl (by omega) (fun _ h => h.elim) (Bytes.nil _ _ _) HD5.out).mono ?_
  rw [ans8]
  rintro e w7 ⟨rfl, hd7, b7⟩
  have HB7 : Hid (Below w.heap.size w w7) := HB5.out.trans b7
  clear hd7 b7
  go_wp2
  go_ret
  exact ⟨rfl, Keep.of_below HB7.out⟩

/-! ### List on no disk, and without power -/
set_option maxHeartbeats 2000000 in
theorem listNone (w : World) : Calls Try.prog 28 #[.pointer none] w fun e w' => e = .returned (.slice none 0 0) ∧ w = w' := by
  go_enter Try.func28, Try.ntmps28
  go_wp2
  go_ret
  exact ⟨rfl, rfl⟩
set_option maxHeartbeats 2000000 in
theorem listDown (f : Nat) (S : Nat → Prop) (s : St) (w : World) (h : Disk w S f s) (hd : s.down = true) : Calls Try.prog 28 #[.pointer (some ⟨f, 0, none⟩)] w fun e w' => e = .returned (.slice none 0 0) ∧ w = w' := by
  obtain ⟨⟨L, hp⟩, hG⟩ := h
  have c6 := hp.fs.cell 6
  simp [cellsFS, hd] at c6
  clear hp hG
  go_enter Try.func28, Try.ntmps28
  go_wp2
  go_ret
  exact ⟨rfl, rfl⟩

end Go.Proofs.Ytgjkocjgkbjciaa.Fs
