/-
  Stage 13: an Ids and its disk side by side in memory; what the laws ask of the program's calls.
-/
import Derived.Test.YtlpeiejohgchmaaDoorI2
import Derived.Test.YtlpeiejohgchmaaDoorINfr
import Derived.Test.YtlpeiejohgchmaaDoorDList
import Derived.Test.YtlpeiejohgchmaaDoorDAns
namespace Go.Proofs.YtlpeiejohgchmaaDoor.Fs
open Go.RowKit Go.Shelf Go.Maps
set_option linter.unusedVariables false
set_option linter.unusedSimpArgs false

/-- An Ids lies at X; it gives numbers of the disk at f. -/
def XA (w : World) (f X : Nat) (x : Ix) : Prop := At w X 50 (idsC f x.last x.most (if x.has then sN x.most else { data := #[] })) ∧ x.last ≤ 999999999
theorem XA.keep {w w' : World} {f X : Nat} {x : Ix} {T : Nat → Prop} (h : XA w f X x) (k : Keep T w w') (hT : ¬ T X) : XA w' f X x := ⟨At.keep h.1 k hT, h.2⟩
theorem XA.lt {w : World} {f X : Nat} {x : Ix} (h : XA w f X x) : X < w.heap.size := At.lt h.1

/-! ### Both -/
/-- The library's variables, below base. -/
def GB (base : Nat) (w : World) : Prop := 5 ≤ base ∧ Glob w
theorem GB.below {base : Nat} {w w' : World} (h : GB base w) (k : Below base w w') : GB base w' := ⟨h.1, h.2.below k h.1⟩
theorem GB.keep {base : Nat} {w w' : World} {S : Nat → Prop} (h : GB base w) (k : Keep S w w') (hS : ∀ b, S b → base ≤ b) : GB base w' := ⟨h.1, h.2.keep k fun i hi hs => by have := hS i hs; have := h.1; omega⟩
def DG (base : Nat) (w : World) (f : Nat) (s : St) : Prop := D base w f s ∧ GB base w
def Sys (base : Nat) (w : World) (f X : Nat) (s : St) (x : Ix) : Prop :=
  ∃ S, (∀ b, S b → base ≤ b ∧ b < w.heap.size) ∧ base ≤ X ∧ ¬ S X ∧ Disk w S f s ∧ XA w f X x ∧ GB base w
section
variable {base f X : Nat} {w w' : World} {s t : St} {x : Ix}
theorem DG.size (h : DG base w f s) : base ≤ w.heap.size := h.1.1
theorem Sys.size (h : Sys base w f X s x) : base ≤ w.heap.size := by
  obtain ⟨S, h1, h2, h3, h4, h5, _⟩ := h
  have := h5.lt
  omega
theorem Sys.gb (h : Sys base w f X s x) : GB base w := by
  obtain ⟨S, h1, h2, h3, h4, h5, h6⟩ := h
  exact h6
theorem Sys.disk (h : Sys base w f X s x) : DG base w f s := by
  obtain ⟨S, h1, h2, h3, h4, h5, h6⟩ := id h
  exact ⟨⟨h.size, h4.mono fun b _ hb => h1 b hb⟩, h6⟩
theorem Sys.quiet (h : Sys base w f X s x) (k : Keep (fun _ => False) w w') : Sys base w' f X s x := by
  obtain ⟨S, h1, h2, h3, h4, h5, h6⟩ := h
  exact ⟨S, fun b hb => ⟨(h1 b hb).1, Nat.lt_of_lt_of_le (h1 b hb).2 k.size⟩, h2, h3, h4.keep k (fun _ _ h => h), h5.keep k (fun h => h), h6.keep k (fun _ h => h.elim)⟩
/-- The disk has turned, its Ids stands. -/
theorem Sys.turned {S : Nat → Prop} (h1 : ∀ b, S b → base ≤ b ∧ b < w.heap.size) (h2 : base ≤ X) (h3 : ¬ S X) (h5 : XA w f X x) (h6 : GB base w) (hd : Disk w' (Up S w w') f t) (k : Keep S w w') : Sys base w' f X t x ∧ Below base w w' :=
  ⟨⟨Up S w w', fun b hb => by
      rcases hb with hb | ⟨hb, hb'⟩
      · exact ⟨(h1 b hb).1, Nat.lt_of_lt_of_le (h1 b hb).2 k.size⟩
      · exact ⟨by have := h5.lt; omega, hb'⟩, h2, fun hb => by
      rcases hb with hb | ⟨hb, _⟩
      · exact h3 hb
      · have := h5.lt; omega, hd, h5.keep k h3, h6.keep k (fun b hb => (h1 b hb).1)⟩, k.below (by have := h5.lt; omega) fun b hb => (h1 b hb).1⟩
theorem sList (h : Sys base w f X s x) (hd : s.down = false) : Calls Tryd.prog 17 #[.pointer (some ⟨f, 0, none⟩)] w fun e w' => Listed w s.now e w' ∧ Sys base w' f X s x ∧ Below base w w' := by
  obtain ⟨S, h1, h2, h3, h4, h5, h6⟩ := id h
  refine (listUp f S s w h4 hd).mono fun e w' hL => ⟨hL, ?_⟩
  obtain ⟨v, _, _, hb⟩ := hL
  exact ⟨h.quiet (Keep.of_below hb), hb.mono h.size⟩
theorem sFuse (n : Int) (hn : n ≤ 9223372036854775807) (h : Sys base w f X s x) : Calls Tryd.prog 13 #[.pointer (some ⟨f, 0, none⟩), .int .i64 n] w fun e w' => e = .returned (.tuple #[]) ∧ Sys base w' f X (fuseS s n) x ∧ Below base w w' := by
  obtain ⟨S, h1, h2, h3, h4, h5, h6⟩ := id h
  refine (fuse f S s n hn w h4).mono fun e w' ⟨e1, d1, k1, z1⟩ => ?_
  obtain ⟨⟨L, hp⟩, _⟩ := h4
  have k : Keep S w w' := k1.mono fun b _ e => by rw [e]; exact hp.inS
  exact ⟨e1, Sys.turned h1 h2 h3 h5 h6 (d1.mono fun b _ hb => .inl hb) k⟩
theorem gNew (hG : Glob w) (n : Int) : Calls Tryd.prog 11 #[.int .i64 n] w fun e w' => e = .returned (.pointer (some ⟨w.heap.size, 0, none⟩)) ∧ DG w.heap.size w' w.heap.size (newS n) ∧ Keep (fun _ => False) w w' :=
  (dNew n w).mono fun e w' ⟨h1, h2, h3⟩ => ⟨h1, ⟨h2, hG.1, hG.quiet h3⟩, h3⟩
theorem gCreate (A : ByteArray) (hA : A.size ≤ 9223372036854775807) (hb : s.bulk + 2 ≤ 1000000) (h : DG base w f s) : Calls Tryd.prog 18 #[.pointer (some ⟨f, 0, none⟩), .string A] w fun e w' => e = .returned (.int .i64 (createE s (nm A) : Nat)) ∧ DG base w' f (createS s (nm A)) ∧ Below base w w' :=
  (dCreate w A hA hb h.1).mono fun e w' ⟨h1, h2, h3⟩ => ⟨h1, ⟨h2, h.2.below h3⟩, h3⟩
theorem gCrash (a b : Int) (hb : b ≤ 9223372036854775807) (h : DG base w f s) : Calls Tryd.prog 16 #[.pointer (some ⟨f, 0, none⟩), .int .i64 a, .int .i64 b] w fun e w' => e = .returned (.tuple #[]) ∧ DG base w' f (crashS s a b) ∧ Below base w w' :=
  (dCrash w a b hb h.1).mono fun e w' ⟨h1, h2, h3⟩ => ⟨h1, ⟨h2, h.2.below h3⟩, h3⟩
end

/-! ### What is asked of the program -/
def OpenC : Prop := ∀ (base : Nat) (w : World) (f : Nat) (s : St), DG base w f s → s.down = false → ShortD s.now → Calls Tryd.prog 12 #[.pointer (some ⟨f, 0, none⟩)] w fun e w' =>
  ∃ X, e = .returned (.tuple #[.pointer (some ⟨X, 0, none⟩), .int .i64 0]) ∧ Sys base w' f X s (openX s) ∧ Below base w w'
def OpenDownC : Prop := ∀ (base : Nat) (w : World) (f : Nat) (s : St), DG base w f s → s.down = true → Calls Tryd.prog 12 #[.pointer (some ⟨f, 0, none⟩)] w fun e w' =>
  e = .returned (.tuple #[.pointer none, .int .i64 2]) ∧ Keep (fun _ => False) w w'
def OpenNoneC : Prop := ∀ w : World, Calls Tryd.prog 12 #[.pointer none] w fun e w' => e = .returned (.tuple #[.pointer none, .int .i64 1]) ∧ Keep (fun _ => False) w w'
def NextC : Prop := ∀ (base : Nat) (w : World) (f X : Nat) (s : St) (x : Ix), Sys base w f X s x → s.bulk + 4 ≤ 1000000 → Calls Tryd.prog 14 #[.pointer (some ⟨X, 0, none⟩)] w fun e w' =>
  e = .returned (.tuple #[.int .i64 (nextN s x : Nat), .int .i64 (nextE s x : Nat)]) ∧ Sys base w' f X (nextS s x) (nextX s x) ∧ Below base w w'
def NextNoneC : Prop := ∀ w : World, Calls Tryd.prog 14 #[.pointer none] w fun e w' => e = .returned (.tuple #[.int .i64 0, .int .i64 1]) ∧ Keep (fun _ => False) w w'
def LastC : Prop := ∀ (base : Nat) (w : World) (f X : Nat) (s : St) (x : Ix), Sys base w f X s x → Calls Tryd.prog 15 #[.pointer (some ⟨X, 0, none⟩)] w fun e w' => e = .returned (.int .i64 (x.last : Nat)) ∧ w = w'
def LastNoneC : Prop := ∀ w : World, Calls Tryd.prog 15 #[.pointer none] w fun e w' => e = .returned (.int .i64 0) ∧ w = w'
/-- The document's digits. -/
def DigitsC : Prop := ∀ (n : Nat) (w : World), n ≤ 999999999 → Calls Tryd.prog 10 #[.int .i64 (n : Int)] w fun e w' => e = .returned (.string ⟨(dig9 n).toArray⟩) ∧ Keep (fun _ => False) w w'
structure IdsC : Prop where
  opens : OpenC
  openDown : OpenDownC
  openNone : OpenNoneC
  next : NextC
  nextNone : NextNoneC
  last : LastC
  lastNone : LastNoneC
  name : NamesC
  digits : DigitsC
theorem short_new (n : Int) : ShortD (newS n).now := fun p hp => by cases hp
theorem NamesTo.short {M : Nat} {d : Dir} (h : NamesTo M d) : ShortD d := fun p hp => by
  obtain ⟨n, _, e⟩ := h p hp
  rw [e, nameN_length]
  decide

/-! ### The first number of a new disk -/
def s0 (n : Int) : St := newS n
def x0 : Ix := ⟨0, 0, false⟩
def s1 (n : Int) : St := ⟨(min (max n 0) 16777216).toNat, [(nameN 16, 0)], [], [⟨[], 0⟩], none, false⟩
def x1 : Ix := ⟨1, 16, true⟩
theorem open_new (n : Int) : openX (newS n) = x0 := rfl
set_option maxRecDepth 100000 in
theorem first_new (n : Int) : nextE (newS n) x0 = 0 ∧ nextN (newS n) x0 = 1 ∧ nextX (newS n) x0 = x1 ∧ nextS (newS n) x0 = s1 n := by
  generalize hr : (min (max n 0) 16777216).toNat = r
  have e : newS n = ⟨r, [], [], [], none, false⟩ := by rw [← hr]; rfl
  have e1 : s1 n = ⟨r, [(nameN 16, 0)], [], [⟨[], 0⟩], none, false⟩ := by rw [← hr]; rfl
  rw [e, e1]
  exact ⟨rfl, rfl, rfl, rfl⟩
end Go.Proofs.YtlpeiejohgchmaaDoor.Fs
