/-
  What the functions that are kept as loose changes do to a directory; what 'find' returns.
-/
import Derived.Test.YtlpeiejohgchmaaDoorDScal
namespace Go.Proofs.YtlpeiejohgchmaaDoor.Fs
open Go.RowKit Go.Maps
set_option linter.unusedVariables false

/-- What a change leaves behind. -/
def Did (w : World) (S : Nat → Prop) (b : Nat) (d : Dir) (fb : Nat → Nat) (e : Ending) (w' : World) : Prop := e = .returned (.tuple #[]) ∧ MapAt w' S (some b) d fb ∧ Keep (· = b) w w' ∧ w'.heap.size = w.heap.size
theorem MapAt.owns {w : World} {S : Nat → Prop} {b : Nat} {d : Dir} {fb : Nat → Nat} (h : MapAt w S (some b) d fb) : S b ∧ w.ownsMap Tryd.prog 9 fileR b d.length (toD fb d) := by
  rcases h with ⟨h, _⟩ | ⟨b', hb, hs, ho⟩
  · cases h
  · injection hb with hb
    subst hb
    exact ⟨hs, ho⟩
theorem turned_size {w w' : World} {b : Nat} (h : w.mapTurned w' b) : w'.heap.size = w.heap.size := by
  obtain ⟨es, clock, es', clock', hb, rfl⟩ := h
  simp [ChangeMaps.setBlock]
theorem turned_keep {w w' : World} {b : Nat} (h : w.mapTurned w' b) : Keep (· = b) w w' := (Keep.refl _ w).grown h.grown (fun k hk _ => by injection hk with hk; exact hk.symm)

set_option maxHeartbeats 1000000 in
theorem cloMk (S : Nat → Prop) (fb : Nat → Nat) (b : Nat) (d : Dir) (hd : d.length ≤ 2000000) (p q i : Nat) (A : ByteArray) (hA : A.size ≤ 80) (w : World) (hm : MapAt w S (some b) d fb) (hp : At w p 56 #[.pointer (some ⟨fb i, 0, none⟩)]) (hq : At w q 9 #[.string A]) :
    Calls Tryd.prog 31 #[.map (some b), .pointer (some ⟨p, 0, none⟩), .pointer (some ⟨q, 0, none⟩)] w (Did w S b (put d (nm A) i) fb) := by
  obtain ⟨hs, ho⟩ := hm.owns
  have c1 := hp.cell 0
  have c2 := hq.cell 0
  simp at c1 c2
  have HS := Lib.hid hs
  have HO := Lib.hid ho
  clear hm hp hq hs ho
  go_enter Tryd.func31, Tryd.ntmps31
  go_wp2_with (first
    | (at_mapUpdate; refine wpList_mapUpdate_in _ rfl _ _ _ 45 rfl 9 56 keyed9 Tryd.underlying45 fileR b d.length (toD fb d) rfl HO.out (by simp only [maxLen]; omega) _ _ (.string (nm A)) rfl rfl (key_nm (by omega)) (.lit (.int .i64 (fb i))) [] rfl ?_; intro w1 hown1 hturn1)
    | go_in)
  go_end0
  rw [← toD_put] at hown1
  exact ⟨rfl, .inr ⟨b, rfl, HS.out, owns_dir hown1⟩, turned_keep hturn1, turned_size hturn1⟩

set_option maxHeartbeats 1000000 in
theorem cloUnl (S : Nat → Prop) (fb : Nat → Nat) (b : Nat) (d : Dir) (q : Nat) (A : ByteArray) (hA : A.size ≤ 80) (w : World) (hm : MapAt w S (some b) d fb) (hq : At w q 9 #[.string A]) :
    Calls Tryd.prog 47 #[.map (some b), .pointer (some ⟨q, 0, none⟩)] w (Did w S b (del d (nm A)) fb) := by
  obtain ⟨hs, ho⟩ := hm.owns
  have c2 := hq.cell 0
  simp at c2
  have HS := Lib.hid hs
  have HO := Lib.hid ho
  clear hm hq hs ho
  go_enter Tryd.func47, Tryd.ntmps47
  go_wp2_with (first
    | (at_delete; refine wpList_delete_own _ rfl _ _ 45 9 rfl 56 keyed9 Tryd.underlying45 fileR b d.length (toD fb d) rfl HO.out _ (.string (nm A)) rfl (key_nm (by omega)) ?_; intro w1 hown1 hturn1)
    | go_in)
  go_end0
  rw [← toD_del] at hown1
  exact ⟨rfl, .inr ⟨b, rfl, HS.out, owns_dir hown1⟩, turned_keep hturn1, turned_size hturn1⟩

theorem keepCell {w w1 : World} {p b n : Nat} {D : DW} {A : ByteArray} (hp : At w p 9 #[.string A]) (ho : w.ownsMap Tryd.prog 9 fileR b n D) (ht : w.mapTurned w1 b) : w1.cell? ⟨p, 0, none⟩ = some (.string A) := by
  have := hp.keep (turned_keep ht) (fun e => by
    have h1 := owns_blk ho
    rw [← e] at h1
    exact not_map_at hp h1)
  simpa using this.cell 0
/-- Whatever change it is: called, it is done to the directory. -/
theorem doClo {w : World} {S : Nat → Prop} {fb : Nat → Nat} {v : Value} {c : Chg} (h : Clo w S fb v c) : ∃ g cb, v = .func (.func g) #[] cb ∧ (∀ args w, (callFunc g args).run Tryd.prog w = .ok (.enter g args) w) ∧
    ∀ (w' : World) (S' : Nat → Prop), Clo w' S' fb v c → ∀ (n b : Nat) (d : Dir), d.length ≤ 2000000 → Fits n d c → MapAt w' S' (some b) d fb → Calls Tryd.prog g (#[.map (some b)] ++ cb) w' (Did w' S' b (app d c) fb) := by
  cases c with
  | mk a i =>
    obtain ⟨p, q, A, e, _⟩ := h
    refine ⟨31, _, e, enters_of Tryd.func31 (by kernel_rfl) rfl, fun w' S' h' n b d hd hf hm => ?_⟩
    obtain ⟨p', q', A', e', hp, hq, rfl, hA, _⟩ := h'
    rw [e] at e'
    simp at e'
    obtain ⟨rfl, rfl⟩ := e'
    exact cloMk S' fb b d hd p q i A' hA w' hm hp hq
  | ren a b' => exact h.elim
  | unl a =>
    obtain ⟨q, A, e, _⟩ := h
    refine ⟨47, _, e, enters_of Tryd.func47 (by kernel_rfl) rfl, fun w' S' h' n b d hd hf hm => ?_⟩
    obtain ⟨q', A', e', hq, rfl, hA, _⟩ := h'
    rw [e] at e'
    simp at e'
    subst e'
    exact cloUnl S' fb b d q A' hA w' hm hq

/-! ### find -/
/-- What 'find' answers. -/
def findV (s : St) (fb : Nat → Nat) (a : Nm) : Value := if findE s a ≠ 0 then .pointer none else hit fb (get s.now a)
set_option maxHeartbeats 1000000 in
theorem findNone (A : ByteArray) (w : World) : Calls Tryd.prog 46 #[.pointer none, .string A] w fun e w' => e = .returned (.tuple #[.pointer none, .int .i64 1]) ∧ Keep (fun _ => False) w w' := by
  go_enter Tryd.func46, Tryd.ntmps46
  go_wp2_with (go_at_call 29; refine (readyNone _ _).mono ?_; rintro e w' ⟨rfl, rfl⟩)
  go_ret2
  exact ⟨rfl, (Keep.refl _ w).alloc _⟩
set_option maxHeartbeats 1000000 in
theorem find (f : Nat) (S : Nat → Prop) (s : St) (L : Lay) (A : ByteArray) (hA : A.size ≤ 9223372036854775807) (w : World) (h : Parts w S f s s.now L) (hG : Good s) :
    Calls Tryd.prog 46 #[.pointer (some ⟨f, 0, none⟩), .string A] w fun e w' => e = .returned (.tuple #[findV s L.fb (nm A), .int .i64 ((findE s (nm A) : Nat) : Int)]) ∧ w' = w.alloc (.cells #[.string A] 9) := by
  have hg : At (w.alloc (.cells #[.string A] 9)) w.heap.size 9 (([A].map Value.string).toArray) := At.new w _ _
  have k0 : Keep (fun _ => False) w (w.alloc (.cells #[.string A] 9)) := (Keep.refl _ w).alloc _
  have hP := h.keep k0 (fun _ _ h => h)
  have cR := ready f S s _ ⟨⟨L, hP⟩, hG⟩ w.heap.size 1 1 [A] rfl (by omega) hg (by simpa using hA)
  have hE : readyE s ([A].map nm) = 0 ∨ readyE s ([A].map nm) = 1 ∨ readyE s ([A].map nm) = 2 := by unfold readyE; split <;> (try split) <;> simp
  have c1 := hP.fs.cell 1
  simp [cellsFS] at c1
  have hl := hP.now.look hA
  have HR : Hid (∀ x, readyE s [nm A] = x → readyE s ([A].map nm) = x) := fun x h => h
  clear h hG hg k0 hP
  obtain ⟨E, hE0⟩ : ∃ E, E = readyE s ([A].map nm) := ⟨_, rfl⟩
  rw [← hE0] at cR hE
  have HE := Lib.hid hE0
  clear hE0
  rcases hE with rfl | rfl | rfl
  · obtain ⟨G, hG⟩ : ∃ G, G = get s.now (nm A) := ⟨_, rfl⟩
    rw [← hG] at hl
    have HG := Lib.hid hG
    clear hG
    rcases G with _ | i
    · simp only [hit] at hl
      go_enter Tryd.func46, Tryd.ntmps46
      go_wp2_with (go_at_call 29; refine cR.mono ?_; rintro e w' ⟨rfl, rfl⟩)
      go_ret2
      have e1 : findE s (nm A) = 4 := by unfold findE; rw [show readyE s [nm A] = 0 from HE.out.symm, ← HG.out]; rfl
      unfold findV
      rw [e1]
      exact ⟨rfl, rfl⟩
    · simp only [hit] at hl
      go_enter Tryd.func46, Tryd.ntmps46
      go_wp2_with (go_at_call 29; refine cR.mono ?_; rintro e w' ⟨rfl, rfl⟩)
      go_ret2
      have e1 : findE s (nm A) = 0 := by unfold findE; rw [show readyE s [nm A] = 0 from HE.out.symm, ← HG.out]; rfl
      unfold findV
      rw [e1, ← HG.out]
      exact ⟨rfl, rfl⟩
  · go_enter Tryd.func46, Tryd.ntmps46
    go_wp2_with (go_at_call 29; refine cR.mono ?_; rintro e w' ⟨rfl, rfl⟩)
    go_ret2
    have e1 : findE s (nm A) = 1 := by unfold findE; rw [show readyE s [nm A] = 1 from HE.out.symm]; rfl
    unfold findV
    rw [e1]
    exact ⟨rfl, rfl⟩
  · go_enter Tryd.func46, Tryd.ntmps46
    go_wp2_with (go_at_call 29; refine cR.mono ?_; rintro e w' ⟨rfl, rfl⟩)
    go_ret2
    have e1 : findE s (nm A) = 2 := by unfold findE; rw [show readyE s [nm A] = 2 from HE.out.symm]; rfl
    unfold findV
    rw [e1]
    exact ⟨rfl, rfl⟩

end Go.Proofs.YtlpeiejohgchmaaDoor.Fs
