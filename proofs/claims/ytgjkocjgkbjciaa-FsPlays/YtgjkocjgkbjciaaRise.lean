/-
  Directories rise: names in order, and the document's own way to do a change.
-/
import Derived.Test.YtgjkocjgkbjciaaRoom
namespace Go.Proofs.Ytgjkocjgkbjciaa.Fs
set_option linter.unusedVariables false

theorem before_irr : ∀ a : List UInt8, bytesBefore a a = false
  | [] => rfl
  | x :: r => by simp [bytesBefore, before_irr r]
theorem before_tr : ∀ {a b c : List UInt8}, bytesBefore a b = true → bytesBefore b c = true → bytesBefore a c = true
  | [], [], _, h, _ => by simp [bytesBefore] at h
  | [], _ :: _, [], _, h => by simp [bytesBefore] at h
  | [], _ :: _, _ :: _, _, _ => rfl
  | _ :: _, [], _, h, _ => by simp [bytesBefore] at h
  | _ :: _, _ :: _, [], _, h => by simp [bytesBefore] at h
  | x :: r, y :: s, z :: t, h1, h2 => by
    simp only [bytesBefore, Bool.or_eq_true, Bool.and_eq_true, decide_eq_true_eq, beq_iff_eq] at h1 h2 ⊢
    rcases h1 with h1 | ⟨rfl, h1⟩
    · rcases h2 with h2 | ⟨rfl, h2⟩
      · exact .inl (UInt8.lt_trans h1 h2)
      · exact .inl h1
    · rcases h2 with h2 | ⟨rfl, h2⟩
      · exact .inl h2
      · exact .inr ⟨rfl, before_tr h1 h2⟩
theorem before_tot : ∀ a b : List UInt8, bytesBefore a b = true ∨ a = b ∨ bytesBefore b a = true
  | [], [] => .inr (.inl rfl)
  | [], _ :: _ => .inl rfl
  | _ :: _, [] => .inr (.inr rfl)
  | x :: r, y :: s => by
    simp only [bytesBefore, Bool.or_eq_true, Bool.and_eq_true, decide_eq_true_eq, beq_iff_eq, List.cons.injEq]
    have htri : x < y ∨ x = y ∨ y < x := by
      rcases Nat.lt_trichotomy x.toNat y.toNat with h | h | h
      · exact .inl (UInt8.lt_iff_toNat_lt.2 h)
      · exact .inr (.inl (UInt8.toNat_inj.1 h))
      · exact .inr (.inr (UInt8.lt_iff_toNat_lt.2 h))
    rcases htri with h | rfl | h
    · exact .inl (.inl h)
    · rcases before_tot r s with h | rfl | h
      · exact .inl (.inr ⟨rfl, h⟩)
      · exact .inr (.inl ⟨rfl, rfl⟩)
      · exact .inr (.inr (.inr ⟨rfl, h⟩))
    · exact .inr (.inr (.inl h))
/-- Names in their rising order. -/
def Rising (d : Dir) : Prop := d.Pairwise fun p q => bytesBefore p.1 q.1 = true
theorem Rising.nodup {d : Dir} (h : Rising d) : (d.map (·.1)).Nodup := by
  rw [List.Nodup, List.pairwise_map]
  exact h.imp (fun {p q} hpq e => by rw [e, before_irr] at hpq; cases hpq)
theorem Rising.del {d : Dir} (h : Rising d) (a : Nm) : Rising (del d a) := List.Pairwise.sublist List.filter_sublist h
theorem Rising.ins {x : Nm × Nat} : ∀ {d : Dir}, Rising d → (∀ p ∈ d, p.1 ≠ x.1) → Rising (ins x d)
  | [], _, _ => List.pairwise_singleton _ _
  | y :: r, h, hx => by
    obtain ⟨h1, h2⟩ := List.pairwise_cons.1 h
    unfold Fs.ins
    by_cases hb : bytesBefore x.1 y.1 = true
    · rw [if_pos hb]
      refine List.pairwise_cons.2 ⟨fun p hp => ?_, h⟩
      rcases List.mem_cons.1 hp with e | hp
      · rw [e]; exact hb
      · exact before_tr hb (h1 p hp)
    · rw [if_neg hb]
      refine List.pairwise_cons.2 ⟨fun p hp => ?_, Rising.ins h2 (fun p hp => hx p (List.mem_cons_of_mem _ hp))⟩
      rcases mem_ins.1 hp with e | hp
      · rw [e]
        rcases before_tot x.1 y.1 with h | h | h
        · exact absurd h hb
        · exact absurd h.symm (hx y List.mem_cons_self)
        · exact h
      · exact h1 p hp
theorem Rising.put {d : Dir} (h : Rising d) (a : Nm) (i : Nat) : Rising (put d a i) := (h.del a).ins (fun p hp => (mem_del.1 hp).2)
theorem Rising.app {d : Dir} (h : Rising d) (c : Chg) : Rising (app d c) := by
  cases c with
  | mk a i => exact h.put a i
  | ren a b => exact (h.put b _).del a
  | unl a => exact h.del a
theorem rising_apps {d : Dir} (h : Rising d) : ∀ l : List Chg, Rising (l.foldl Fs.app d)
  | [] => h
  | c :: r => rising_apps (h.app c) r
theorem rising_perm {d e : Dir} (hd : Rising d) (he : Rising e) (hp : d.Perm e) : d = e :=
  List.Perm.eq_of_pairwise (le := fun p q : Nm × Nat => bytesBefore p.1 q.1 = true) (fun a b _ _ h1 h2 => by
    have := before_tr h1 h2
    rw [before_irr] at this
    cases this) hd he hp
/-- A rename, as the document does it. -/
theorem ren_eq {d : Dir} (h : Rising d) {a b : Nm} (hne : a ≠ b) {i : Nat} (hi : get d a = some i) : app d (.ren a b) = ins (b, i) (del (del d a) b) := by
  refine rising_perm (h.app _) (((h.del a).del b).ins (fun p hp => (mem_del.1 hp).2)) ?_
  show (del (put d b ((get d a).getD 0)) a).Perm _
  rw [hi]
  exact (ren_perm d hne i).trans (ins_perm _ _).symm
/-- Where a name is put. -/
def place (nm : Nm) : Dir → Nat
  | [] => 0
  | y :: r => if bytesBefore y.1 nm then place nm r + 1 else 0
theorem place_le (a : Nm) : ∀ d : Dir, place a d ≤ d.length
  | [] => Nat.le_refl _
  | y :: r => by
    unfold place
    have := place_le a r
    split
    · simp; omega
    · omega
theorem place_ins {a : Nm} {i : Nat} : ∀ {d : Dir}, (∀ p ∈ d, p.1 ≠ a) → ins (a, i) d = d.take (place a d) ++ (a, i) :: d.drop (place a d)
  | [], _ => rfl
  | y :: r, h => by
    have hy := h y List.mem_cons_self
    unfold ins place
    by_cases hb : bytesBefore a y.1 = true
    · have : bytesBefore y.1 a = false := by
        cases hc : bytesBefore y.1 a
        · rfl
        · have := before_tr hb hc
          rw [before_irr] at this
          cases this
      simp [hb, this]
    · have : bytesBefore y.1 a = true := by
        rcases before_tot a y.1 with h | h | h
        · exact absurd h hb
        · exact absurd h.symm hy
        · exact h
      simp [hb, this, place_ins (fun p hp => h p (List.mem_cons_of_mem _ hp))]
theorem place_step {a : Nm} : ∀ {d : Dir} {k : Nat} {p : Nm × Nat}, k ≤ place a d → d[k]? = some p → (bytesBefore p.1 a = true ↔ k + 1 ≤ place a d)
  | [], k, p, _, h => by simp at h
  | y :: r, 0, p, _, h => by
    have : y = p := by simpa using h
    subst this
    unfold place
    split
    · rename_i h; simp [h]
    · rename_i h; simp [h]
  | y :: r, k + 1, p, hk, h => by
    unfold place at hk ⊢
    split at hk
    · rename_i hy
      rw [if_pos hy]
      have h1 : r[k]? = some p := by simpa using h
      have := place_step (d := r) (k := k) (p := p) (a := a) (by omega) h1
      rw [this]
      omega
    · omega

end Go.Proofs.Ytgjkocjgkbjciaa.Fs
