/-
  What the document's own Begins returns, for all bytes.
-/
import Derived.Test.YtimoebicacnihaaGreatDoorKg13
import Derived.Test.YtimoebicacnihaaGreatDoorKg5
namespace Go.Proofs.YtimoebicacnihaaGreatDoor.Ln
open Go.RowKit
set_option linter.unusedVariables false
set_option linter.unusedSimpArgs false

/-! ### What is left grows no longer -/
def lenS (s : Option (List Nat)) : Nat := (s.getD []).length
theorem numS_len (s : Option (List Nat)) : lenS (numS s) ≤ lenS s := by
  cases h : numOk s with
  | false => rw [numS_no h]; exact Nat.zero_le _
  | true =>
    obtain ⟨t, rfl, _, _, _, h5⟩ := numOk_some h
    rw [h5]
    simp [lenS]
theorem bytS_len (s : Option (List Nat)) : lenS (bytS s) ≤ lenS s := by
  refine Nat.le_trans ?_ (numS_len s)
  rw [bytS, takeS]
  split
  · simp [lenS]
  · exact Nat.zero_le _
theorem bytV_len (s : Option (List Nat)) : (bytV s).length ≤ lenS s := by
  refine Nat.le_trans ?_ (numS_len s)
  rw [bytV, takeV]
  split
  · simp [lenS, List.length_take]; omega
  · exact Nat.zero_le _
theorem rdS_len (s : Option (List Nat)) : ∀ n, lenS (rdS n s) ≤ lenS s
  | 0 => Nat.le_refl _
  | n + 1 => Nat.le_trans (bytS_len _) (rdS_len s n)
theorem rdL_small (s : Option (List Nat)) : ∀ n, ∀ t ∈ rdL n s, t.size ≤ lenS s
  | 0, t, ht => by cases ht
  | n + 1, t, ht => by
    rw [rdL] at ht
    rcases List.mem_append.1 ht with ht | ht
    · exact rdL_small s n t ht
    · rw [List.mem_singleton] at ht
      rw [ht, str_size]
      exact Nat.le_trans (bytV_len _) (rdS_len s n)
theorem q5_len (bs : List Nat) : lenS (q5 bs) ≤ bs.length := Nat.le_trans (numS_len _) (Nat.le_trans (bytS_len _) (Nat.le_trans (numS_len _) (Nat.le_trans (numS_len _) (numS_len _))))
theorem q3_len (bs : List Nat) : lenS (q3 bs) ≤ bs.length := Nat.le_trans (numS_len _) (Nat.le_trans (numS_len _) (numS_len _))

/-! ### An eye, and a mail, of the call's own -/
structure Rb (w0 w : World) (A B p : Nat) (P : Nat → Prop) (s : Option (List Nat)) (cs : Array Value) : Prop where
  ey : Ey P w p s
  row : At w B 25 cs
  res : At w A 25 mzC
  kp : Keep (fun _ => False) w0 w
  hA : w0.heap.size ≤ A
  hB : w0.heap.size ≤ B
  hp : w0.heap.size ≤ p
  nab : ¬ A = B
  np : ¬ P p ∧ ¬ P A ∧ ¬ P B
  lt : ∀ b, P b → b < p
section
variable {w0 w w' : World} {A B p : Nat} {P : Nat → Prop} {s s' : Option (List Nat)} {cs : Array Value}
theorem Rb.ne (h : Rb w0 w A B p P s cs) : ¬ A = p ∧ ¬ B = p := by
  obtain ⟨cs', hc⟩ := h.ey.at
  exact ⟨fun e => At.ne h.res hc (by decide) e, fun e => At.ne h.row hc (by decide) e⟩
theorem Rb.on (h : Rb w0 w A B p P s cs) (hR : Ey P w' p s') (k : Keep (· = p) w w') : Rb w0 w' A B p P s' cs :=
  ⟨hR, h.row.keep k h.ne.2, h.res.keep k h.ne.1, h.kp.trans k (fun i hi e => by have := h.hp; omega), h.hA, h.hB, h.hp, h.nab, h.np, h.lt⟩
theorem Rb.put (h : Rb w0 w A B p P s cs) (i : Nat) (u : Value) : Rb w0 (w.setCell ⟨B, i, none⟩ u) A B p P s (cs.setIfInBounds i u) := by
  have k : Keep (fun k => k = B) w (w.setCell ⟨B, i, none⟩ u) := (Keep.refl (fun k => k = B) w).setCell (p := ⟨B, i, none⟩) (fun _ => rfl) _
  exact ⟨h.ey.keep k (fun e => h.ne.2 e.symm) (fun b _ hb e => h.np.2.2 (e ▸ hb)), h.row.put i u, h.res.keep k h.nab, h.kp.trans k (fun i hi e => by have := h.hB; omega), h.hA, h.hB, h.hp, h.nab, h.np, h.lt⟩
theorem Rb.quiet (h : Rb w0 w A B p P s cs) (k : Keep (fun _ => False) w w') : Rb w0 w' A B p P s cs :=
  ⟨h.ey.keep k (fun h => h) (fun _ _ _ h => h), h.row.keep k (fun h => h), h.res.keep k (fun h => h), h.kp.trans k (fun _ _ h => h), h.hA, h.hB, h.hp, h.nab, h.np, h.lt⟩
theorem Rb.far (h : Rb w0 w A B p P s cs) {S : Nat → Prop} {C : Nat} (k : Keep S w w') (hS : ∀ i, S i → C ≤ i) (hC : w0.heap.size ≤ C) (hA : A < C) (hB : B < C) (hp : p < C) : Rb w0 w' A B p P s cs :=
  ⟨h.ey.keep k (fun e => by have := hS _ e; omega) (fun b _ hb e => by have := hS _ e; have := h.lt b hb; omega), h.row.keep k (fun e => by have := hS _ e; omega), h.res.keep k (fun e => by have := hS _ e; omega), h.kp.trans k (fun i hi e => by have := hS _ e; omega), h.hA, h.hB, h.hp, h.nab, h.np, h.lt⟩
theorem Rb.num (h : Rb w0 w A B p P s cs) : Calls Tryz.prog 34 #[.pointer (some ⟨p, 0, none⟩)] w fun e w' => e = .returned (.int .i64 ((numV s : Nat) : Int)) ∧ Rb w0 w' A B p P (numS s) cs ∧ Keep (· = p) w w' :=
  (eyNum P p h.np.1 s w h.ey).mono fun e w' ⟨he, hR, k, _⟩ => ⟨he, h.on hR k, k⟩
theorem Rb.byt (h : Rb w0 w A B p P s cs) (hl : lenS s ≤ 1000000) : Calls Tryz.prog 32 #[.pointer (some ⟨p, 0, none⟩)] w fun e w' => ∃ x n cap, n = (bytV s).length ∧ n ≤ cap ∧ e = .returned (.slice x n cap) ∧ Bytes (fun b => w.heap.size ≤ b) w' x (bytV s) ∧ Rb w0 w' A B p P (bytS s) cs ∧ Keep (· = p) w w' :=
  (eyByt P p h.np.1 h.lt s hl w h.ey).mono fun e w' ⟨x, n, cap, hn, hc, he, hB, hR, k⟩ => ⟨x, n, cap, hn, hc, he, hB, h.on hR k, k⟩
end
/-- What Begins answers. -/
def Begun (bs : List Nat) (w : World) (e : Ending) (w' : World) : Prop :=
  ∃ m n rx rn rc bx bn bc, e = .returned (.tuple #[.agg (mlC m rx rn rc bx bn bc), .int .i64 (n : Nat), .bool (beginsB bs)]) ∧ MlIt (fun b => w.heap.size ≤ b) w' m rx rn bx bn ∧ Keep (fun _ => False) w w' ∧ (if beginsB bs = true then m = readMl (innerM bs) ∧ n = (innerM bs).length + 12 else m = noMl ∧ n = 0)
theorem begun_no {bs : List Nat} {w w' : World} (h : beginsB bs = false) (k : Keep (fun _ => False) w w') : Begun bs w (.returned (.tuple #[.agg mzC, .int .i64 0, .bool false])) w' :=
  ⟨noMl, 0, none, 0, 0, none, 0, 0, by rw [h]; rfl, ⟨TxP.nil _ _ _, Bytes.nil _ _ _, rfl, rfl⟩, k, by rw [h]; exact ⟨rfl, rfl⟩⟩
theorem wrap_none {bs : List Nat} (h : bytS (some bs) = none) : wrapB bs = false := by
  rw [wrapB]
  have : ¬ 4 ≤ (tailM bs).length := by rw [tailM, h]; simp
  simp [this]
theorem wrap_some {bs r : List Nat} (h : bytS (some bs) = some r) : wrapB bs = (decide (4 ≤ r.length) && decide (r.take 4 = sum4 (innerM bs))) := by
  rw [wrapB, bytS_some h, tailM, h]
  rfl
theorem begins_wrap {bs : List Nat} (h : wrapB bs = false) : beginsB bs = false := by rw [beginsB, h]; rfl
theorem Rb.new {w0 w1 w2 w3 : World} {A p : Nat} {P : Nat → Prop} {s : Option (List Nat)} (ey : Ey P w2 p s) (res : At w2 A 25 mzC) (kp : Keep (fun _ => False) w0 w2) (hA : w0.heap.size ≤ A) (hp : w0.heap.size ≤ p) (np : ¬ P p ∧ ¬ P A) (lt : ∀ b, P b → b < p) (cs : Array Value) :
    Rb w0 ((w2.alloc (.cells #[.int .i64 0, .int .i64 0, .int .i64 0, .string { data := #[] }, .slice none 0 0, .slice none 0 0] 25)).setRow w2.heap.size cs) A w2.heap.size p P s cs := by
  have k1 := keep_new w2 (.cells #[.int .i64 0, .int .i64 0, .int .i64 0, .string { data := #[] }, .slice none 0 0, .slice none 0 0] 25)
  have k2 : Keep (fun _ => False) w2 ((w2.alloc (.cells #[.int .i64 0, .int .i64 0, .int .i64 0, .string { data := #[] }, .slice none 0 0, .slice none 0 0] 25)).setRow w2.heap.size cs) := k1.setRow (fun h => absurd h (Nat.lt_irrefl _)) cs
  have hp2 : p < w2.heap.size := by
    obtain ⟨cs', hc⟩ := ey.at
    exact hc.lt
  have hA2 := res.lt
  exact ⟨ey.keep k2 (fun h => h) (fun _ _ _ h => h), (mz_new w2).setRow cs, res.keep k2 (fun h => h), kp.trans k2 (fun _ _ h => h), hA, kp.size, hp, by omega, ⟨np.1, np.2, fun h => by have := lt _ h; omega⟩, lt⟩

structure Rq (w0 w : World) (A p : Nat) (P : Nat → Prop) (s : Option (List Nat)) : Prop where
  ey : Ey P w p s
  res : At w A 25 mzC
  kp : Keep (fun _ => False) w0 w
  hA : w0.heap.size ≤ A
  hp : w0.heap.size ≤ p
  np : ¬ P p ∧ ¬ P A
  lt : ∀ b, P b → b < p
section
variable {w0 w w' : World} {A p : Nat} {P : Nat → Prop} {s s' : Option (List Nat)}
theorem Rq.on (h : Rq w0 w A p P s) (hR : Ey P w' p s') (k : Keep (· = p) w w') : Rq w0 w' A p P s' := by
  have hne : ¬ A = p := by
    obtain ⟨cs', hc⟩ := h.ey.at
    exact fun e => At.ne h.res hc (by decide) e
  exact ⟨hR, h.res.keep k hne, h.kp.trans k (fun i hi e => by have := h.hp; omega), h.hA, h.hp, h.np, h.lt⟩
theorem Rq.num (h : Rq w0 w A p P s) : Calls Tryz.prog 34 #[.pointer (some ⟨p, 0, none⟩)] w fun e w' => e = .returned (.int .i64 ((numV s : Nat) : Int)) ∧ Rq w0 w' A p P (numS s) :=
  (eyNum P p h.np.1 s w h.ey).mono fun e w' ⟨he, hR, k, _⟩ => ⟨he, h.on hR k⟩
theorem Rq.byt (h : Rq w0 w A p P s) (hl : lenS s ≤ 1000000) : Calls Tryz.prog 32 #[.pointer (some ⟨p, 0, none⟩)] w fun e w' => ∃ x n cap, n = (bytV s).length ∧ n ≤ cap ∧ e = .returned (.slice x n cap) ∧ Bytes (fun b => w.heap.size ≤ b) w' x (bytV s) ∧ Rq w0 w' A p P (bytS s) :=
  (eyByt P p h.np.1 h.lt s hl w h.ey).mono fun e w' ⟨x, n, cap, hn, hc, he, hB, hR, k⟩ => ⟨x, n, cap, hn, hc, he, hB, h.on hR k⟩
end
theorem run_append_tso {B : Nat} {w : World} {v : Value} {L : List ByteArray} (ty : TypeId) (hown : Tso B w v L) (hB : B ≤ w.heap.size) (g : Nat) (A : ByteArray) (hc : w.cell? ⟨g, 0, none⟩ = some (.string A)) (hl : L.length ≤ 1000) :
    ∃ y n cap w', (Builtin.append_ #[22, 22] ty #[v, .slice (some ⟨g, 0, none⟩) 1 1]).run Tryz.prog w = .ok (.slice y n cap) w' ∧ Tso B w' (.slice y n cap) (L ++ [A]) ∧ Keep (fun k => v.ownBlock = some k) w w' := by
  obtain ⟨i0, hi, hz0, hz1, hz2⟩ := info_parts info9t
  obtain ⟨v', w', hr, h2, h3, _, _⟩ := run_append_own_at (P := Tryz.prog) w B 22 ty 9 i0 _ 1 16 Tryz.underlying22 hi hz0 hz1 hz2 rfl (by omega) v L.length (L.map Value.string) hown ⟨g, 0, none⟩ 1 1 [.string A] rfl (fun j u hj => by
    rcases j with _ | j
    · simp at hj
      subst hj
      exact hc
    · simp at hj) (fun x hx => by simp at hx; subst hx; rfl) (by simp only [maxLen]; omega) (by omega) hB
  have hT : Tso B w' v' (L ++ [A]) := by
    unfold Tso
    rw [List.map_append, List.length_append]
    exact h2
  obtain ⟨y, cap, rfl, _⟩ := hT.shape
  exact ⟨y, _, cap, w', hr, hT, (Keep.refl _ w).grown h3 (fun k hk _ => hk)⟩

set_option maxHeartbeats 16000000 in
set_option maxRecDepth 100000 in
theorem refBeginsC {P0 : Nat → Prop} {w : World} (x : Option Addr) (n cap : Nat) (bs : List Nat) (hn : n = bs.length) (hc : n ≤ cap) (hl : n ≤ 100000) (h : Bytes P0 w x bs) :
    Calls Tryz.prog 14 #[.slice x n cap] w (Begun bs w) := by
  have kA := (keep_new w (.cells #[.int .i64 0, .int .i64 0, .int .i64 0, .string { data := #[] }, .slice none 0 0, .slice none 0 0] 25)).alloc (.cells #[.slice x n cap, .bool false] 66)
  obtain ⟨W1, hW1⟩ : ∃ W1, W1 = (w.alloc (.cells #[.int .i64 0, .int .i64 0, .int .i64 0, .string { data := #[] }, .slice none 0 0, .slice none 0 0] 25)).alloc (.cells #[.slice x n cap, .bool false] 66) := ⟨_, rfl⟩
  obtain ⟨A, hA⟩ : ∃ A, A = w.heap.size := ⟨_, rfl⟩
  obtain ⟨p, hp⟩ : ∃ p, p = w.heap.size + 1 := ⟨_, rfl⟩
  rw [← hW1] at kA
  have HZ : Hid (At W1 A 25 mzC) := Lib.hid (by rw [hW1, hA]; exact (mz_new w).alloc _)
  have HEY : Hid (Ey (fun b => b < w.heap.size) W1 p (some bs)) := Lib.hid (by
    refine ⟨x, n, cap, hn, hc, ?_, (h.mono (Q := fun b => b < w.heap.size) (fun b hb _ => hb)).quiet kA⟩
    have := At.new (w.alloc (.cells #[.int .i64 0, .int .i64 0, .int .i64 0, .string { data := #[] }, .slice none 0 0, .slice none 0 0] 25)) 66 #[.slice x n cap, .bool false]
    rw [show (w.alloc (.cells #[.int .i64 0, .int .i64 0, .int .i64 0, .string { data := #[] }, .slice none 0 0, .slice none 0 0] 25)).heap.size = w.heap.size + 1 by simp] at this
    rw [hW1, hp]
    exact this)
  have KA := Lib.hid kA
  have HW1 := Lib.hid hW1
  have HA0 := Lib.hid hA
  have HP0 := Lib.hid hp
  have HN := Lib.hid hn
  have HS1 : Hid (W1.heap.size = w.heap.size + 2) := Lib.hid (by rw [hW1]; simp)
  have HIL : Hid ((innerM bs).length ≤ 100000) := Lib.hid (by have := bytV_len (some bs); have e : lenS (some bs) = bs.length := rfl; have : (innerM bs).length = (bytV (some bs)).length := rfl; omega)
  clear h kA hW1 hn
  go_enter Tryz.func14, Tryz.ntmps14
  go_wp2_with fail
  rw [← HW1.out, ← hp, ← hA]
  clear hA hp
  refine (eyByt (fun b => b < w.heap.size) p (by have := HP0.out; omega) (fun b hb => by have := HP0.out; omega) (some bs) (by have := HN.out; simp; omega) W1 HEY.out).mono ?_
  rintro e w2 ⟨xi, ni, ci, hni, hci, rfl, hBI, hE2, hk2⟩
  have HBI : Hid (Bytes (fun b => W1.heap.size ≤ b) w2 xi (innerM bs)) := Lib.hid hBI
  have HNI : Hid (ni = (innerM bs).length) := Lib.hid hni
  have HCI := Lib.hid hci
  have hni1 : ni ≤ 100000 := by rw [hni]; exact HIL.out
  have K2 := Lib.hid (KA.out.trans hk2 (fun i hi e => by have := HP0.out; omega))
  have HZ2 := Lib.hid (HZ.out.keep hk2 (fun e => by have := HP0.out; have := HA0.out; omega))
  have KS2 := Lib.hid hk2.size
  clear hBI hni hk2 HEY HZ KA
  cases hs : bytS (some bs) with
  | none =>
    have HV : Hid (beginsB bs = false) := Lib.hid (begins_wrap (wrap_none hs))
    rw [hs] at hE2
    obtain ⟨x', n', c', _, hAE⟩ := hE2
    obtain ⟨p0, p1⟩ : w2.drew.cell? ⟨p, 0, none⟩ = some (.slice x' n' c') ∧ w2.drew.cell? ⟨p, 1, none⟩ = some (.bool true) := ⟨hAE.cell 0, hAE.cell 1⟩
    have HZD : Hid (At w2.drew A 25 mzC) := Lib.hid HZ2.out
    have KD := Lib.hid K2.out.drew
    clear hs hAE
    go_wp2
    refine wp_region_noPanic ?_
    refine wp_region_held_drew (S := fun w' => w'.cell? ⟨p, 0, none⟩ = some (.slice x' n' c') ∧ w'.cell? ⟨p, 1, none⟩ = some (.bool true)) (by kernel_rfl) ⟨p0, p1⟩ (fun hHeld => ?_)
    refine wpAnyH_take (i := 0) (v := ?_) rfl (by kernel_rfl) (by kernel_rfl) (by kernel_rfl) (fun _ _ _ h => h) (Or.inl ⟨by rfl, ?_⟩) (by assumption) ?_
    rotate_left
    · (intro wS hSw; (try dsimp only at hSw); obtain ⟨hS1, hS2⟩ := hSw; (try simp only [List.getElem_toArray, List.getElem_cons_succ, List.getElem_cons_zero]); go_simp; try (with_reducible rfl))
    try simp only [Act.put, List.getElem_toArray, List.getElem_cons_succ, List.getElem_cons_zero, List.setIfInBounds_toArray, List.set_cons_zero, List.set_cons_succ]
    refine wpAnyH_take (i := 1) (v := ?_) rfl (by kernel_rfl) (by kernel_rfl) (by kernel_rfl) (fun _ _ _ h => h) (Or.inl ⟨by rfl, ?_⟩) (by assumption) ?_
    rotate_left
    · (intro wS hSw; (try dsimp only at hSw); obtain ⟨hS1, hS2⟩ := hSw; (try simp only [List.getElem_toArray, List.getElem_cons_succ, List.getElem_cons_zero]); go_simp; try (with_reducible rfl))
    try simp only [Act.put, List.getElem_toArray, List.getElem_cons_succ, List.getElem_cons_zero, List.setIfInBounds_toArray, List.set_cons_zero, List.set_cons_succ]
    refine wpAnyH_take (i := 2) (v := ?_) rfl (by kernel_rfl) (by kernel_rfl) (by kernel_rfl) (fun _ _ _ h => h) (Or.inl ⟨by rfl, ?_⟩) (by assumption) ?_
    rotate_left
    · (intro wS hSw; (try dsimp only at hSw); obtain ⟨hS1, hS2⟩ := hSw; (try simp only [List.getElem_toArray, List.getElem_cons_succ, List.getElem_cons_zero]); go_simp; try (with_reducible rfl))
    try simp only [Act.put, List.getElem_toArray, List.getElem_cons_succ, List.getElem_cons_zero, List.setIfInBounds_toArray, List.set_cons_zero, List.set_cons_succ]
    refine wpAnyH_take (i := 3) (v := ?_) rfl (by kernel_rfl) (by kernel_rfl) (by kernel_rfl) (fun _ _ _ h => h) (Or.inl ⟨by rfl, ?_⟩) (by assumption) ?_
    rotate_left
    · (intro wS hSw; (try dsimp only at hSw); obtain ⟨hS1, hS2⟩ := hSw; (try simp only [List.getElem_toArray, List.getElem_cons_succ, List.getElem_cons_zero]); go_simp; try (with_reducible rfl))
    try simp only [Act.put, List.getElem_toArray, List.getElem_cons_succ, List.getElem_cons_zero, List.setIfInBounds_toArray, List.set_cons_zero, List.set_cons_succ]
    refine wpAnyH_take (i := 4) (v := ?_) rfl (by kernel_rfl) (by kernel_rfl) (by kernel_rfl) (fun _ _ _ h => h) (Or.inl ⟨by rfl, ?_⟩) (by assumption) ?_
    rotate_left
    · (intro wS hSw; (try dsimp only at hSw); obtain ⟨hS1, hS2⟩ := hSw; (try simp only [List.getElem_toArray, List.getElem_cons_succ, List.getElem_cons_zero]); go_simp; try (with_reducible rfl))
    try simp only [Act.put, List.getElem_toArray, List.getElem_cons_succ, List.getElem_cons_zero, List.setIfInBounds_toArray, List.set_cons_zero, List.set_cons_succ]
    refine wpAnyH_take (i := 5) (v := undef) rfl (by kernel_rfl) (by kernel_rfl) (by kernel_rfl) (fun _ _ _ h => h) (Or.inr ⟨by rfl, rfl⟩) (by assumption) ?_
    try simp only [Act.put, List.getElem_toArray, List.getElem_cons_succ, List.getElem_cons_zero, List.setIfInBounds_toArray, List.set_cons_zero, List.set_cons_succ]
    refine wpAnyH_take (i := 6) (v := undef) rfl (by kernel_rfl) (by kernel_rfl) (by kernel_rfl) (fun _ _ _ h => h) (Or.inr ⟨by rfl, rfl⟩) (by assumption) ?_
    try simp only [Act.put, List.getElem_toArray, List.getElem_cons_succ, List.getElem_cons_zero, List.setIfInBounds_toArray, List.set_cons_zero, List.set_cons_succ]
    refine wpAnyH_take (i := 7) (v := undef) rfl (by kernel_rfl) (by kernel_rfl) (by kernel_rfl) (fun _ _ _ h => h) (Or.inr ⟨by rfl, rfl⟩) (by assumption) ?_
    try simp only [Act.put, List.getElem_toArray, List.getElem_cons_succ, List.getElem_cons_zero, List.setIfInBounds_toArray, List.set_cons_zero, List.set_cons_succ]
    refine wpAnyH_take (i := 8) (v := undef) rfl (by kernel_rfl) (by kernel_rfl) (by kernel_rfl) (fun _ _ _ h => h) (Or.inr ⟨by rfl, rfl⟩) (by assumption) ?_
    try simp only [Act.put, List.getElem_toArray, List.getElem_cons_succ, List.getElem_cons_zero, List.setIfInBounds_toArray, List.set_cons_zero, List.set_cons_succ]
    refine wpAnyH_take (i := 9) (v := undef) rfl (by kernel_rfl) (by kernel_rfl) (by kernel_rfl) (fun _ _ _ h => h) (Or.inr ⟨by rfl, rfl⟩) (by assumption) ?_
    try simp only [Act.put, List.getElem_toArray, List.getElem_cons_succ, List.getElem_cons_zero, List.setIfInBounds_toArray, List.set_cons_zero, List.set_cons_succ]
    refine wpAnyH_take (i := 10) (v := undef) rfl (by kernel_rfl) (by kernel_rfl) (by kernel_rfl) (fun _ _ _ h => h) (Or.inr ⟨by rfl, rfl⟩) (by assumption) ?_
    try simp only [Act.put, List.getElem_toArray, List.getElem_cons_succ, List.getElem_cons_zero, List.setIfInBounds_toArray, List.set_cons_zero, List.set_cons_succ]
    refine wpAnyH_take (i := 11) (v := ?_) rfl (by kernel_rfl) (by kernel_rfl) (by kernel_rfl) (fun _ _ _ h => h) (Or.inl ⟨by rfl, ?_⟩) (by assumption) ?_
    rotate_left
    · (intro wS hSw; (try dsimp only at hSw); obtain ⟨hS1, hS2⟩ := hSw; (try simp only [List.getElem_toArray, List.getElem_cons_succ, List.getElem_cons_zero]); go_simp; try (with_reducible rfl))
    try simp only [Act.put, List.getElem_toArray, List.getElem_cons_succ, List.getElem_cons_zero, List.setIfInBounds_toArray, List.set_cons_zero, List.set_cons_succ]
    refine wpAnyH_take (i := 12) (v := ?_) rfl (by kernel_rfl) (by kernel_rfl) (by kernel_rfl) (fun _ _ _ h => h) (Or.inl ⟨by rfl, ?_⟩) (by assumption) ?_
    rotate_left
    · (intro wS hSw; (try dsimp only at hSw); obtain ⟨hS1, hS2⟩ := hSw; (try simp only [List.getElem_toArray, List.getElem_cons_succ, List.getElem_cons_zero]); go_simp; try (with_reducible rfl))
    try simp only [Act.put, List.getElem_toArray, List.getElem_cons_succ, List.getElem_cons_zero, List.setIfInBounds_toArray, List.set_cons_zero, List.set_cons_succ]
    refine wpAnyH_take (i := 13) (v := undef) rfl (by kernel_rfl) (by kernel_rfl) (by kernel_rfl) (fun _ _ _ h => h) (Or.inr ⟨by rfl, rfl⟩) (by assumption) ?_
    try simp only [Act.put, List.getElem_toArray, List.getElem_cons_succ, List.getElem_cons_zero, List.setIfInBounds_toArray, List.set_cons_zero, List.set_cons_succ]
    refine wpAnyH_take (i := 14) (v := undef) rfl (by kernel_rfl) (by kernel_rfl) (by kernel_rfl) (fun _ _ _ h => h) (Or.inr ⟨by rfl, rfl⟩) (by assumption) ?_
    try simp only [Act.put, List.getElem_toArray, List.getElem_cons_succ, List.getElem_cons_zero, List.setIfInBounds_toArray, List.set_cons_zero, List.set_cons_succ]
    refine wpAnyH_take (i := 15) (v := undef) rfl (by kernel_rfl) (by kernel_rfl) (by kernel_rfl) (fun _ _ _ h => h) (Or.inr ⟨by rfl, rfl⟩) (by assumption) ?_
    try simp only [Act.put, List.getElem_toArray, List.getElem_cons_succ, List.getElem_cons_zero, List.setIfInBounds_toArray, List.set_cons_zero, List.set_cons_succ]
    refine wpAnyH_take (i := 16) (v := undef) rfl (by kernel_rfl) (by kernel_rfl) (by kernel_rfl) (fun _ _ _ h => h) (Or.inr ⟨by rfl, rfl⟩) (by assumption) ?_
    try simp only [Act.put, List.getElem_toArray, List.getElem_cons_succ, List.getElem_cons_zero, List.setIfInBounds_toArray, List.set_cons_zero, List.set_cons_succ]
    refine wpAnyH_take (i := 17) (v := undef) rfl (by kernel_rfl) (by kernel_rfl) (by kernel_rfl) (fun _ _ _ h => h) (Or.inr ⟨by rfl, rfl⟩) (by assumption) ?_
    try simp only [Act.put, List.getElem_toArray, List.getElem_cons_succ, List.getElem_cons_zero, List.setIfInBounds_toArray, List.set_cons_zero, List.set_cons_succ]
    refine wpAnyH_take (i := 18) (v := undef) rfl (by kernel_rfl) (by kernel_rfl) (by kernel_rfl) (fun _ _ _ h => h) (Or.inr ⟨by rfl, rfl⟩) (by assumption) ?_
    try simp only [Act.put, List.getElem_toArray, List.getElem_cons_succ, List.getElem_cons_zero, List.setIfInBounds_toArray, List.set_cons_zero, List.set_cons_succ]
    refine wpAnyH_take (i := 19) (v := undef) rfl (by kernel_rfl) (by kernel_rfl) (by kernel_rfl) (fun _ _ _ h => h) (Or.inr ⟨by rfl, rfl⟩) (by assumption) ?_
    try simp only [Act.put, List.getElem_toArray, List.getElem_cons_succ, List.getElem_cons_zero, List.setIfInBounds_toArray, List.set_cons_zero, List.set_cons_succ]
    refine wpAnyH_take (i := 20) (v := undef) rfl (by kernel_rfl) (by kernel_rfl) (by kernel_rfl) (fun _ _ _ h => h) (Or.inr ⟨by rfl, rfl⟩) (by assumption) ?_
    try simp only [Act.put, List.getElem_toArray, List.getElem_cons_succ, List.getElem_cons_zero, List.setIfInBounds_toArray, List.set_cons_zero, List.set_cons_succ]
    refine wpAnyH_take (i := 21) (v := undef) rfl (by kernel_rfl) (by kernel_rfl) (by kernel_rfl) (fun _ _ _ h => h) (Or.inr ⟨by rfl, rfl⟩) (by assumption) ?_
    try simp only [Act.put, List.getElem_toArray, List.getElem_cons_succ, List.getElem_cons_zero, List.setIfInBounds_toArray, List.set_cons_zero, List.set_cons_succ]
    refine wpAnyH_take (i := 22) (v := undef) rfl (by kernel_rfl) (by kernel_rfl) (by kernel_rfl) (fun _ _ _ h => h) (Or.inr ⟨by rfl, rfl⟩) (by assumption) ?_
    try simp only [Act.put, List.getElem_toArray, List.getElem_cons_succ, List.getElem_cons_zero, List.setIfInBounds_toArray, List.set_cons_zero, List.set_cons_succ]
    refine wpAnyH_take (i := 23) (v := ?_) rfl (by kernel_rfl) (by kernel_rfl) (by kernel_rfl) (fun _ _ _ h => h) (Or.inl ⟨by rfl, ?_⟩) (by assumption) ?_
    rotate_left
    · (intro wS hSw; (try dsimp only at hSw); obtain ⟨hS1, hS2⟩ := hSw; (try simp only [List.getElem_toArray, List.getElem_cons_succ, List.getElem_cons_zero]); go_simp; try (with_reducible rfl))
    try simp only [Act.put, List.getElem_toArray, List.getElem_cons_succ, List.getElem_cons_zero, List.setIfInBounds_toArray, List.set_cons_zero, List.set_cons_succ]
    refine wpAnyH_done (by kernel_rfl) ?_ _
    refine NoPanic.normal ?_
    go_wp2_with (refine wpList_store_row (by rfl) 25 (.tmp 2) (.tmp 40) (by rfl) A mzC (by rfl) (by rfl) 25 _ HZD.out infoM rfl (one_ml _ _ _ _ _ _ _ _ _ _) ?_)
    (try simp only [Exit.inBlock, Exit.then])
    refine bodyPost_ret (ret_ml2 (fn := Tryz.f14) (p := 2) (u := 3) (v := 4) rfl _ _ A rfl ⟨(HZD.out).setRow _, rfl⟩) rfl ?_
    exact begun_no HV.out (KD.out.setRow (fun h => by have := HA0.out; omega) _)
  | some r =>
    have hW := wrap_some hs
    rw [hs] at hE2
    obtain ⟨xr, nr, cr, hnr, hcr, hAE, hBR⟩ := hE2
    obtain ⟨p0, p1⟩ : w2.drew.cell? ⟨p, 0, none⟩ = some (.slice xr nr cr) ∧ w2.drew.cell? ⟨p, 1, none⟩ = some (.bool false) := ⟨hAE.cell 0, hAE.cell 1⟩
    have HAE := Lib.hid hAE
    have HBR := Lib.hid hBR
    have HNR := Lib.hid hnr
    have HZD : Hid (At w2.drew A 25 mzC) := Lib.hid HZ2.out
    have KD := Lib.hid K2.out.drew
    clear hs hAE hBR hnr
    by_cases h4 : (nr : Int) < 4
    · have HV : Hid (beginsB bs = false) := Lib.hid (begins_wrap (by
        rw [hW, decide_eq_false (show ¬ 4 ≤ r.length by have := HNR.out; omega)]; rfl))
      clear hW
      go_wp2
      refine wp_region_noPanic ?_
      refine wp_region_held_drew (S := fun w' => w'.cell? ⟨p, 0, none⟩ = some (.slice xr nr cr) ∧ w'.cell? ⟨p, 1, none⟩ = some (.bool false)) (by kernel_rfl) ⟨p0, p1⟩ (fun hHeld => ?_)
      refine wpAnyH_take (i := 0) (v := ?_) rfl (by kernel_rfl) (by kernel_rfl) (by kernel_rfl) (fun _ _ _ h => h) (Or.inl ⟨by rfl, ?_⟩) (by assumption) ?_
      rotate_left
      · (intro wS hSw; (try dsimp only at hSw); obtain ⟨hS1, hS2⟩ := hSw; (try simp only [List.getElem_toArray, List.getElem_cons_succ, List.getElem_cons_zero]); go_simp; try (with_reducible rfl))
      try simp only [Act.put, List.getElem_toArray, List.getElem_cons_succ, List.getElem_cons_zero, List.setIfInBounds_toArray, List.set_cons_zero, List.set_cons_succ]
      refine wpAnyH_take (i := 1) (v := ?_) rfl (by kernel_rfl) (by kernel_rfl) (by kernel_rfl) (fun _ _ _ h => h) (Or.inl ⟨by rfl, ?_⟩) (by assumption) ?_
      rotate_left
      · (intro wS hSw; (try dsimp only at hSw); obtain ⟨hS1, hS2⟩ := hSw; (try simp only [List.getElem_toArray, List.getElem_cons_succ, List.getElem_cons_zero]); go_simp; try (with_reducible rfl))
      try simp only [Act.put, List.getElem_toArray, List.getElem_cons_succ, List.getElem_cons_zero, List.setIfInBounds_toArray, List.set_cons_zero, List.set_cons_succ]
      refine wpAnyH_take (i := 2) (v := ?_) rfl (by kernel_rfl) (by kernel_rfl) (by kernel_rfl) (fun _ _ _ h => h) (Or.inl ⟨by rfl, ?_⟩) (by assumption) ?_
      rotate_left
      · (intro wS hSw; (try dsimp only at hSw); obtain ⟨hS1, hS2⟩ := hSw; (try simp only [List.getElem_toArray, List.getElem_cons_succ, List.getElem_cons_zero]); go_simp; try (with_reducible rfl))
      try simp only [Act.put, List.getElem_toArray, List.getElem_cons_succ, List.getElem_cons_zero, List.setIfInBounds_toArray, List.set_cons_zero, List.set_cons_succ]
      refine wpAnyH_take (i := 3) (v := ?_) rfl (by kernel_rfl) (by kernel_rfl) (by kernel_rfl) (fun _ _ _ h => h) (Or.inl ⟨by rfl, ?_⟩) (by assumption) ?_
      rotate_left
      · (intro wS hSw; (try dsimp only at hSw); obtain ⟨hS1, hS2⟩ := hSw; (try simp only [List.getElem_toArray, List.getElem_cons_succ, List.getElem_cons_zero]); go_simp; try (with_reducible rfl))
      try simp only [Act.put, List.getElem_toArray, List.getElem_cons_succ, List.getElem_cons_zero, List.setIfInBounds_toArray, List.set_cons_zero, List.set_cons_succ]
      refine wpAnyH_take (i := 4) (v := ?_) rfl (by kernel_rfl) (by kernel_rfl) (by kernel_rfl) (fun _ _ _ h => h) (Or.inl ⟨by rfl, ?_⟩) (by assumption) ?_
      rotate_left
      · (intro wS hSw; (try dsimp only at hSw); obtain ⟨hS1, hS2⟩ := hSw; (try simp only [List.getElem_toArray, List.getElem_cons_succ, List.getElem_cons_zero]); go_simp; try (with_reducible rfl))
      try simp only [Act.put, List.getElem_toArray, List.getElem_cons_succ, List.getElem_cons_zero, List.setIfInBounds_toArray, List.set_cons_zero, List.set_cons_succ]
      refine wpAnyH_take (i := 5) (v := ?_) rfl (by kernel_rfl) (by kernel_rfl) (by kernel_rfl) (fun _ _ _ h => h) (Or.inl ⟨by rfl, ?_⟩) (by assumption) ?_
      rotate_left
      · (intro wS hSw; (try dsimp only at hSw); obtain ⟨hS1, hS2⟩ := hSw; (try simp only [List.getElem_toArray, List.getElem_cons_succ, List.getElem_cons_zero]); go_simp; try (with_reducible rfl))
      try simp only [Act.put, List.getElem_toArray, List.getElem_cons_succ, List.getElem_cons_zero, List.setIfInBounds_toArray, List.set_cons_zero, List.set_cons_succ]
      refine wpAnyH_take (i := 6) (v := ?_) rfl (by kernel_rfl) (by kernel_rfl) (by kernel_rfl) (fun _ _ _ h => h) (Or.inl ⟨by rfl, ?_⟩) (by assumption) ?_
      rotate_left
      · (intro wS hSw; (try dsimp only at hSw); obtain ⟨hS1, hS2⟩ := hSw; (try simp only [List.getElem_toArray, List.getElem_cons_succ, List.getElem_cons_zero]); go_simp; try (with_reducible rfl))
      try simp only [Act.put, List.getElem_toArray, List.getElem_cons_succ, List.getElem_cons_zero, List.setIfInBounds_toArray, List.set_cons_zero, List.set_cons_succ]
      refine wpAnyH_take (i := 7) (v := ?_) rfl (by kernel_rfl) (by kernel_rfl) (by kernel_rfl) (fun _ _ _ h => h) (Or.inl ⟨by rfl, ?_⟩) (by assumption) ?_
      rotate_left
      · (intro wS hSw; (try dsimp only at hSw); obtain ⟨hS1, hS2⟩ := hSw; (try simp only [List.getElem_toArray, List.getElem_cons_succ, List.getElem_cons_zero]); go_simp; try (with_reducible rfl))
      try simp only [Act.put, List.getElem_toArray, List.getElem_cons_succ, List.getElem_cons_zero, List.setIfInBounds_toArray, List.set_cons_zero, List.set_cons_succ]
      refine wpAnyH_take (i := 8) (v := ?_) rfl (by kernel_rfl) (by kernel_rfl) (by kernel_rfl) (fun _ _ _ h => h) (Or.inl ⟨by rfl, ?_⟩) (by assumption) ?_
      rotate_left
      · (intro wS hSw; (try dsimp only at hSw); obtain ⟨hS1, hS2⟩ := hSw; (try simp only [List.getElem_toArray, List.getElem_cons_succ, List.getElem_cons_zero]); go_simp; try (with_reducible rfl))
      try simp only [Act.put, List.getElem_toArray, List.getElem_cons_succ, List.getElem_cons_zero, List.setIfInBounds_toArray, List.set_cons_zero, List.set_cons_succ]
      refine wpAnyH_take (i := 9) (v := ?_) rfl (by kernel_rfl) (by kernel_rfl) (by kernel_rfl) (fun _ _ _ h => h) (Or.inl ⟨by rfl, ?_⟩) (by assumption) ?_
      rotate_left
      · (intro wS hSw; (try dsimp only at hSw); obtain ⟨hS1, hS2⟩ := hSw; (try simp only [List.getElem_toArray, List.getElem_cons_succ, List.getElem_cons_zero]); go_simp; try (with_reducible rfl))
      try simp only [Act.put, List.getElem_toArray, List.getElem_cons_succ, List.getElem_cons_zero, List.setIfInBounds_toArray, List.set_cons_zero, List.set_cons_succ]
      refine wpAnyH_take (i := 10) (v := ?_) rfl (by kernel_rfl) (by kernel_rfl) (by kernel_rfl) (fun _ _ _ h => h) (Or.inl ⟨by rfl, ?_⟩) (by assumption) ?_
      rotate_left
      · (intro wS hSw; (try dsimp only at hSw); obtain ⟨hS1, hS2⟩ := hSw; (try simp only [List.getElem_toArray, List.getElem_cons_succ, List.getElem_cons_zero]); go_simp; try (with_reducible rfl))
      try simp only [Act.put, List.getElem_toArray, List.getElem_cons_succ, List.getElem_cons_zero, List.setIfInBounds_toArray, List.set_cons_zero, List.set_cons_succ]
      refine wpAnyH_take (i := 11) (v := ?_) rfl (by kernel_rfl) (by kernel_rfl) (by kernel_rfl) (fun _ _ _ h => h) (Or.inl ⟨by rfl, ?_⟩) (by assumption) ?_
      rotate_left
      · (intro wS hSw; (try dsimp only at hSw); obtain ⟨hS1, hS2⟩ := hSw; (try simp only [List.getElem_toArray, List.getElem_cons_succ, List.getElem_cons_zero]); go_simp; try (with_reducible rfl))
      try simp only [Act.put, List.getElem_toArray, List.getElem_cons_succ, List.getElem_cons_zero, List.setIfInBounds_toArray, List.set_cons_zero, List.set_cons_succ]
      refine wpAnyH_take (i := 12) (v := ?_) rfl (by kernel_rfl) (by kernel_rfl) (by kernel_rfl) (fun _ _ _ h => h) (Or.inl ⟨by rfl, ?_⟩) (by assumption) ?_
      rotate_left
      · (intro wS hSw; (try dsimp only at hSw); obtain ⟨hS1, hS2⟩ := hSw; (try simp only [List.getElem_toArray, List.getElem_cons_succ, List.getElem_cons_zero]); go_simp; try (with_reducible rfl))
      try simp only [Act.put, List.getElem_toArray, List.getElem_cons_succ, List.getElem_cons_zero, List.setIfInBounds_toArray, List.set_cons_zero, List.set_cons_succ]
      refine wpAnyH_take (i := 13) (v := undef) rfl (by kernel_rfl) (by kernel_rfl) (by kernel_rfl) (fun _ _ _ h => h) (Or.inr ⟨by rfl, rfl⟩) (by assumption) ?_
      try simp only [Act.put, List.getElem_toArray, List.getElem_cons_succ, List.getElem_cons_zero, List.setIfInBounds_toArray, List.set_cons_zero, List.set_cons_succ]
      refine wpAnyH_take (i := 14) (v := undef) rfl (by kernel_rfl) (by kernel_rfl) (by kernel_rfl) (fun _ _ _ h => h) (Or.inr ⟨by rfl, rfl⟩) (by assumption) ?_
      try simp only [Act.put, List.getElem_toArray, List.getElem_cons_succ, List.getElem_cons_zero, List.setIfInBounds_toArray, List.set_cons_zero, List.set_cons_succ]
      refine wpAnyH_take (i := 15) (v := undef) rfl (by kernel_rfl) (by kernel_rfl) (by kernel_rfl) (fun _ _ _ h => h) (Or.inr ⟨by rfl, rfl⟩) (by assumption) ?_
      try simp only [Act.put, List.getElem_toArray, List.getElem_cons_succ, List.getElem_cons_zero, List.setIfInBounds_toArray, List.set_cons_zero, List.set_cons_succ]
      refine wpAnyH_take (i := 16) (v := undef) rfl (by kernel_rfl) (by kernel_rfl) (by kernel_rfl) (fun _ _ _ h => h) (Or.inr ⟨by rfl, rfl⟩) (by assumption) ?_
      try simp only [Act.put, List.getElem_toArray, List.getElem_cons_succ, List.getElem_cons_zero, List.setIfInBounds_toArray, List.set_cons_zero, List.set_cons_succ]
      refine wpAnyH_take (i := 17) (v := undef) rfl (by kernel_rfl) (by kernel_rfl) (by kernel_rfl) (fun _ _ _ h => h) (Or.inr ⟨by rfl, rfl⟩) (by assumption) ?_
      try simp only [Act.put, List.getElem_toArray, List.getElem_cons_succ, List.getElem_cons_zero, List.setIfInBounds_toArray, List.set_cons_zero, List.set_cons_succ]
      refine wpAnyH_take (i := 18) (v := undef) rfl (by kernel_rfl) (by kernel_rfl) (by kernel_rfl) (fun _ _ _ h => h) (Or.inr ⟨by rfl, rfl⟩) (by assumption) ?_
      try simp only [Act.put, List.getElem_toArray, List.getElem_cons_succ, List.getElem_cons_zero, List.setIfInBounds_toArray, List.set_cons_zero, List.set_cons_succ]
      refine wpAnyH_take (i := 19) (v := undef) rfl (by kernel_rfl) (by kernel_rfl) (by kernel_rfl) (fun _ _ _ h => h) (Or.inr ⟨by rfl, rfl⟩) (by assumption) ?_
      try simp only [Act.put, List.getElem_toArray, List.getElem_cons_succ, List.getElem_cons_zero, List.setIfInBounds_toArray, List.set_cons_zero, List.set_cons_succ]
      refine wpAnyH_take (i := 20) (v := undef) rfl (by kernel_rfl) (by kernel_rfl) (by kernel_rfl) (fun _ _ _ h => h) (Or.inr ⟨by rfl, rfl⟩) (by assumption) ?_
      try simp only [Act.put, List.getElem_toArray, List.getElem_cons_succ, List.getElem_cons_zero, List.setIfInBounds_toArray, List.set_cons_zero, List.set_cons_succ]
      refine wpAnyH_take (i := 21) (v := undef) rfl (by kernel_rfl) (by kernel_rfl) (by kernel_rfl) (fun _ _ _ h => h) (Or.inr ⟨by rfl, rfl⟩) (by assumption) ?_
      try simp only [Act.put, List.getElem_toArray, List.getElem_cons_succ, List.getElem_cons_zero, List.setIfInBounds_toArray, List.set_cons_zero, List.set_cons_succ]
      refine wpAnyH_take (i := 22) (v := undef) rfl (by kernel_rfl) (by kernel_rfl) (by kernel_rfl) (fun _ _ _ h => h) (Or.inr ⟨by rfl, rfl⟩) (by assumption) ?_
      try simp only [Act.put, List.getElem_toArray, List.getElem_cons_succ, List.getElem_cons_zero, List.setIfInBounds_toArray, List.set_cons_zero, List.set_cons_succ]
      refine wpAnyH_take (i := 23) (v := ?_) rfl (by kernel_rfl) (by kernel_rfl) (by kernel_rfl) (fun _ _ _ h => h) (Or.inl ⟨by rfl, ?_⟩) (by assumption) ?_
      rotate_left
      · (intro wS hSw; (try dsimp only at hSw); obtain ⟨hS1, hS2⟩ := hSw; (try simp only [List.getElem_toArray, List.getElem_cons_succ, List.getElem_cons_zero]); go_simp; try (with_reducible rfl))
      try simp only [Act.put, List.getElem_toArray, List.getElem_cons_succ, List.getElem_cons_zero, List.setIfInBounds_toArray, List.set_cons_zero, List.set_cons_succ]
      refine wpAnyH_done (by kernel_rfl) ?_ _
      refine NoPanic.normal ?_
      go_wp2_with (refine wpList_store_row (by rfl) 25 (.tmp 2) (.tmp 40) (by rfl) A mzC (by rfl) (by rfl) 25 _ HZD.out infoM rfl (one_ml _ _ _ _ _ _ _ _ _ _) ?_)
      (try simp only [Exit.inBlock, Exit.then])
      refine bodyPost_ret (ret_ml2 (fn := Tryz.f14) (p := 2) (u := 3) (v := 4) rfl _ _ A rfl ⟨(HZD.out).setRow _, rfl⟩) rfl ?_
      exact begun_no HV.out (KD.out.setRow (fun h => by have := HA0.out; omega) _)
    have h4' : 4 ≤ nr := by omega
    have hd4 : decide ((nr : Int) < 4) = false := decide_eq_false h4
    have HW : Hid (wrapB bs = decide (r.take 4 = sum4 (innerM bs))) := Lib.hid (by
      rw [hW, decide_eq_true (show 4 ≤ r.length by have := HNR.out; omega)]; rfl)
    obtain ⟨s1, s2⟩ := cut_pre xr nr cr 4 (by omega)
    have s3 : ∀ w, (Instr.slice 23 (.slice xr nr cr) none (some (.int .i64 4)) none).run Tryz.prog w = .ok (.slice xr 4 cr) w := s1
    have s4 : ∀ w, (Instr.sliceAt 23 (.slice xr nr cr) none (some (.int .i64 4)) none).run Tryz.prog w = .ok (.slice xr 4 cr) w := s2
    have HB4 : Hid (∀ W, Keep (fun _ => False) w2 W → (convert 23 9 (.slice xr 4 cr)).run Tryz.prog W = .ok (.string (str (r.take 4))) W) := Lib.hid (fun W k => run_str ((HBR.out.take 4).quiet k) 4 cr (by rw [List.length_take]; have := HNR.out; omega))
    obtain ⟨T, hT⟩ : ∃ T, T = str (r.take 4) := ⟨_, rfl⟩
    obtain ⟨U, hU⟩ : ∃ U, U = str (sum4 (innerM bs)) := ⟨_, rfl⟩
    rw [← hT] at HB4
    have HTU : Hid (wrapB bs = decide (T = U)) := Lib.hid (by
      rw [HW.out, hT, hU]
      rw [Bool.eq_iff_iff, decide_eq_true_iff, decide_eq_true_iff]
      constructor
      · intro e; rw [e]
      · exact fun e => str_inj (fun c hc => HBR.out.1 c (List.mem_of_mem_take hc)) (sum4_lt _) e)
    have HU := Lib.hid hU
    have kD : Keep (fun _ => False) w2 w2.drew := (Keep.refl _ w2).drew
    have hcv := HB4.out w2.drew kD
    clear h4 hW hT hU s1 s2
    go_wp2
    refine wp_region_noPanic ?_
    refine wp_region_held_drew (S := fun w' => w'.cell? ⟨p, 0, none⟩ = some (.slice xr nr cr) ∧ w'.cell? ⟨p, 1, none⟩ = some (.bool false) ∧ (convert 23 9 (.slice xr 4 cr)).run Tryz.prog w' = .ok (.string T) w') (by kernel_rfl) ⟨p0, p1, hcv⟩ (fun hHeld => ?_)
    refine wpAnyH_take (i := 0) (v := ?_) rfl (by kernel_rfl) (by kernel_rfl) (by kernel_rfl) (fun _ _ _ h => h) (Or.inl ⟨by rfl, ?_⟩) (by assumption) ?_
    rotate_left
    · (intro wS hSw; (try dsimp only at hSw); obtain ⟨hS1, hS2, hS3⟩ := hSw; (try simp only [List.getElem_toArray, List.getElem_cons_succ, List.getElem_cons_zero]); go_simp; try (with_reducible rfl))
    try simp only [Act.put, List.getElem_toArray, List.getElem_cons_succ, List.getElem_cons_zero, List.setIfInBounds_toArray, List.set_cons_zero, List.set_cons_succ]
    refine wpAnyH_take (i := 1) (v := ?_) rfl (by kernel_rfl) (by kernel_rfl) (by kernel_rfl) (fun _ _ _ h => h) (Or.inl ⟨by rfl, ?_⟩) (by assumption) ?_
    rotate_left
    · (intro wS hSw; (try dsimp only at hSw); obtain ⟨hS1, hS2, hS3⟩ := hSw; (try simp only [List.getElem_toArray, List.getElem_cons_succ, List.getElem_cons_zero]); go_simp; try (with_reducible rfl))
    try simp only [Act.put, List.getElem_toArray, List.getElem_cons_succ, List.getElem_cons_zero, List.setIfInBounds_toArray, List.set_cons_zero, List.set_cons_succ]
    refine wpAnyH_take (i := 2) (v := ?_) rfl (by kernel_rfl) (by kernel_rfl) (by kernel_rfl) (fun _ _ _ h => h) (Or.inl ⟨by rfl, ?_⟩) (by assumption) ?_
    rotate_left
    · (intro wS hSw; (try dsimp only at hSw); obtain ⟨hS1, hS2, hS3⟩ := hSw; (try simp only [List.getElem_toArray, List.getElem_cons_succ, List.getElem_cons_zero]); go_simp; try (with_reducible rfl))
    try simp only [Act.put, List.getElem_toArray, List.getElem_cons_succ, List.getElem_cons_zero, List.setIfInBounds_toArray, List.set_cons_zero, List.set_cons_succ]
    refine wpAnyH_take (i := 3) (v := ?_) rfl (by kernel_rfl) (by kernel_rfl) (by kernel_rfl) (fun _ _ _ h => h) (Or.inl ⟨by rfl, ?_⟩) (by assumption) ?_
    rotate_left
    · (intro wS hSw; (try dsimp only at hSw); obtain ⟨hS1, hS2, hS3⟩ := hSw; (try simp only [List.getElem_toArray, List.getElem_cons_succ, List.getElem_cons_zero]); go_simp; try (with_reducible rfl))
    try simp only [Act.put, List.getElem_toArray, List.getElem_cons_succ, List.getElem_cons_zero, List.setIfInBounds_toArray, List.set_cons_zero, List.set_cons_succ]
    refine wpAnyH_take (i := 4) (v := ?_) rfl (by kernel_rfl) (by kernel_rfl) (by kernel_rfl) (fun _ _ _ h => h) (Or.inl ⟨by rfl, ?_⟩) (by assumption) ?_
    rotate_left
    · (intro wS hSw; (try dsimp only at hSw); obtain ⟨hS1, hS2, hS3⟩ := hSw; (try simp only [List.getElem_toArray, List.getElem_cons_succ, List.getElem_cons_zero]); go_simp; try (with_reducible rfl))
    try simp only [Act.put, List.getElem_toArray, List.getElem_cons_succ, List.getElem_cons_zero, List.setIfInBounds_toArray, List.set_cons_zero, List.set_cons_succ]
    refine wpAnyH_take (i := 5) (v := ?_) rfl (by kernel_rfl) (by kernel_rfl) (by kernel_rfl) (fun _ _ _ h => h) (Or.inl ⟨by rfl, ?_⟩) (by assumption) ?_
    rotate_left
    · (intro wS hSw; (try dsimp only at hSw); obtain ⟨hS1, hS2, hS3⟩ := hSw; (try simp only [List.getElem_toArray, List.getElem_cons_succ, List.getElem_cons_zero]); go_simp; try (with_reducible rfl))
    try simp only [Act.put, List.getElem_toArray, List.getElem_cons_succ, List.getElem_cons_zero, List.setIfInBounds_toArray, List.set_cons_zero, List.set_cons_succ]
    refine wpAnyH_take (i := 6) (v := ?_) rfl (by kernel_rfl) (by kernel_rfl) (by kernel_rfl) (fun _ _ _ h => h) (Or.inl ⟨by rfl, ?_⟩) (by assumption) ?_
    rotate_left
    · (intro wS hSw; (try dsimp only at hSw); obtain ⟨hS1, hS2, hS3⟩ := hSw; (try simp only [List.getElem_toArray, List.getElem_cons_succ, List.getElem_cons_zero]); go_simp; try (with_reducible rfl))
    try simp only [Act.put, List.getElem_toArray, List.getElem_cons_succ, List.getElem_cons_zero, List.setIfInBounds_toArray, List.set_cons_zero, List.set_cons_succ]
    refine wpAnyH_take (i := 7) (v := ?_) rfl (by kernel_rfl) (by kernel_rfl) (by kernel_rfl) (fun _ _ _ h => h) (Or.inl ⟨by rfl, ?_⟩) (by assumption) ?_
    rotate_left
    · (intro wS hSw; (try dsimp only at hSw); obtain ⟨hS1, hS2, hS3⟩ := hSw; (try simp only [List.getElem_toArray, List.getElem_cons_succ, List.getElem_cons_zero]); go_simp; try (with_reducible rfl))
    try simp only [Act.put, List.getElem_toArray, List.getElem_cons_succ, List.getElem_cons_zero, List.setIfInBounds_toArray, List.set_cons_zero, List.set_cons_succ]
    refine wpAnyH_take (i := 8) (v := ?_) rfl (by kernel_rfl) (by kernel_rfl) (by kernel_rfl) (fun _ _ _ h => h) (Or.inl ⟨by rfl, ?_⟩) (by assumption) ?_
    rotate_left
    · (intro wS hSw; (try dsimp only at hSw); obtain ⟨hS1, hS2, hS3⟩ := hSw; (try simp only [List.getElem_toArray, List.getElem_cons_succ, List.getElem_cons_zero]); go_simp; try (with_reducible rfl))
    try simp only [Act.put, List.getElem_toArray, List.getElem_cons_succ, List.getElem_cons_zero, List.setIfInBounds_toArray, List.set_cons_zero, List.set_cons_succ]
    refine wpAnyH_take (i := 9) (v := ?_) rfl (by kernel_rfl) (by kernel_rfl) (by kernel_rfl) (fun _ _ _ h => h) (Or.inl ⟨by rfl, ?_⟩) (by assumption) ?_
    rotate_left
    · (intro wS hSw; (try dsimp only at hSw); obtain ⟨hS1, hS2, hS3⟩ := hSw; (try simp only [List.getElem_toArray, List.getElem_cons_succ, List.getElem_cons_zero]); go_simp; try (with_reducible rfl))
    try simp only [Act.put, List.getElem_toArray, List.getElem_cons_succ, List.getElem_cons_zero, List.setIfInBounds_toArray, List.set_cons_zero, List.set_cons_succ]
    refine wpAnyH_take (i := 10) (v := ?_) rfl (by kernel_rfl) (by kernel_rfl) (by kernel_rfl) (fun _ _ _ h => h) (Or.inl ⟨by rfl, ?_⟩) (by assumption) ?_
    rotate_left
    · (intro wS hSw; (try dsimp only at hSw); obtain ⟨hS1, hS2, hS3⟩ := hSw; (try simp only [List.getElem_toArray, List.getElem_cons_succ, List.getElem_cons_zero]); go_simp; try (with_reducible rfl))
    try simp only [Act.put, List.getElem_toArray, List.getElem_cons_succ, List.getElem_cons_zero, List.setIfInBounds_toArray, List.set_cons_zero, List.set_cons_succ]
    refine wpAnyH_take (i := 11) (v := ?_) rfl (by kernel_rfl) (by kernel_rfl) (by kernel_rfl) (fun _ _ _ h => h) (Or.inl ⟨by rfl, ?_⟩) (by assumption) ?_
    rotate_left
    · (intro wS hSw; (try dsimp only at hSw); obtain ⟨hS1, hS2, hS3⟩ := hSw; (try simp only [List.getElem_toArray, List.getElem_cons_succ, List.getElem_cons_zero]); go_simp; try (with_reducible rfl))
    try simp only [Act.put, List.getElem_toArray, List.getElem_cons_succ, List.getElem_cons_zero, List.setIfInBounds_toArray, List.set_cons_zero, List.set_cons_succ]
    refine wpAnyH_take (i := 12) (v := ?_) rfl (by kernel_rfl) (by kernel_rfl) (by kernel_rfl) (fun _ _ _ h => h) (Or.inl ⟨by rfl, ?_⟩) (by assumption) ?_
    rotate_left
    · (intro wS hSw; (try dsimp only at hSw); obtain ⟨hS1, hS2, hS3⟩ := hSw; (try simp only [List.getElem_toArray, List.getElem_cons_succ, List.getElem_cons_zero]); go_simp; try (with_reducible rfl))
    try simp only [Act.put, List.getElem_toArray, List.getElem_cons_succ, List.getElem_cons_zero, List.setIfInBounds_toArray, List.set_cons_zero, List.set_cons_succ]
    refine wpAnyH_take (i := 13) (v := ?_) rfl (by kernel_rfl) (by kernel_rfl) (by kernel_rfl) (fun _ _ _ h => h) (Or.inl ⟨by rfl, ?_⟩) (by assumption) ?_
    rotate_left
    · (intro wS hSw; (try dsimp only at hSw); obtain ⟨hS1, hS2, hS3⟩ := hSw; (try simp only [List.getElem_toArray, List.getElem_cons_succ, List.getElem_cons_zero]); go_simp; try (with_reducible rfl))
    try simp only [Act.put, List.getElem_toArray, List.getElem_cons_succ, List.getElem_cons_zero, List.setIfInBounds_toArray, List.set_cons_zero, List.set_cons_succ]
    refine wpAnyH_take (i := 14) (v := ?_) rfl (by kernel_rfl) (by kernel_rfl) (by kernel_rfl) (fun _ _ _ h => h) (Or.inl ⟨by rfl, ?_⟩) (by assumption) ?_
    rotate_left
    · (intro wS hSw; (try dsimp only at hSw); obtain ⟨hS1, hS2, hS3⟩ := hSw; (try simp only [List.getElem_toArray, List.getElem_cons_succ, List.getElem_cons_zero]); go_simp; try (with_reducible rfl))
    try simp only [Act.put, List.getElem_toArray, List.getElem_cons_succ, List.getElem_cons_zero, List.setIfInBounds_toArray, List.set_cons_zero, List.set_cons_succ]
    refine wpAnyH_take (i := 15) (v := ?_) rfl (by kernel_rfl) (by kernel_rfl) (by kernel_rfl) (fun _ _ _ h => h) (Or.inl ⟨by rfl, ?_⟩) (by assumption) ?_
    rotate_left
    · (intro wS hSw; (try dsimp only at hSw); obtain ⟨hS1, hS2, hS3⟩ := hSw; (try simp only [List.getElem_toArray, List.getElem_cons_succ, List.getElem_cons_zero]); go_simp; try (with_reducible rfl))
    try simp only [Act.put, List.getElem_toArray, List.getElem_cons_succ, List.getElem_cons_zero, List.setIfInBounds_toArray, List.set_cons_zero, List.set_cons_succ]
    refine wpAnyH_take (i := 16) (v := ?_) rfl (by kernel_rfl) (by kernel_rfl) (by kernel_rfl) (fun _ _ _ h => h) (Or.inl ⟨by rfl, ?_⟩) (by assumption) ?_
    rotate_left
    · (intro wS hSw; (try dsimp only at hSw); obtain ⟨hS1, hS2, hS3⟩ := hSw; (try simp only [List.getElem_toArray, List.getElem_cons_succ, List.getElem_cons_zero]); go_simp; try (with_reducible rfl))
    try simp only [Act.put, List.getElem_toArray, List.getElem_cons_succ, List.getElem_cons_zero, List.setIfInBounds_toArray, List.set_cons_zero, List.set_cons_succ]
    refine wpAnyH_take (i := 17) (v := ?_) rfl (by kernel_rfl) (by kernel_rfl) (by kernel_rfl) (fun _ _ _ h => h) (Or.inl ⟨by rfl, ?_⟩) (by assumption) ?_
    rotate_left
    · (intro wS hSw; (try dsimp only at hSw); obtain ⟨hS1, hS2, hS3⟩ := hSw; (try simp only [List.getElem_toArray, List.getElem_cons_succ, List.getElem_cons_zero]); go_simp; try (with_reducible rfl))
    try simp only [Act.put, List.getElem_toArray, List.getElem_cons_succ, List.getElem_cons_zero, List.setIfInBounds_toArray, List.set_cons_zero, List.set_cons_succ]
    refine wpAnyH_take (i := 18) (v := ?_) rfl (by kernel_rfl) (by kernel_rfl) (by kernel_rfl) (fun _ _ _ h => h) (Or.inl ⟨by rfl, ?_⟩) (by assumption) ?_
    rotate_left
    · (intro wS hSw; (try dsimp only at hSw); obtain ⟨hS1, hS2, hS3⟩ := hSw; (try simp only [List.getElem_toArray, List.getElem_cons_succ, List.getElem_cons_zero]); go_simp; try (with_reducible rfl))
    try simp only [Act.put, List.getElem_toArray, List.getElem_cons_succ, List.getElem_cons_zero, List.setIfInBounds_toArray, List.set_cons_zero, List.set_cons_succ]
    refine wpAnyH_take (i := 19) (v := ?_) rfl (by kernel_rfl) (by kernel_rfl) (by kernel_rfl) (fun _ _ _ h => h) (Or.inl ⟨by rfl, ?_⟩) (by assumption) ?_
    rotate_left
    · (intro wS hSw; (try dsimp only at hSw); obtain ⟨hS1, hS2, hS3⟩ := hSw; (try simp only [List.getElem_toArray, List.getElem_cons_succ, List.getElem_cons_zero]); go_simp; try (with_reducible rfl))
    try simp only [Act.put, List.getElem_toArray, List.getElem_cons_succ, List.getElem_cons_zero, List.setIfInBounds_toArray, List.set_cons_zero, List.set_cons_succ]
    refine wpAnyH_ready (rs := [20]) (by kernel_rfl) (by simp) ?_
    refine AllReadyH.cons rfl (fun K hK => ?_) AllReadyH.nil
    go_simp
    refine (refSumC xi ni ci (innerM bs) HNI.out (by omega) (HBI.out.quiet kD)).mono ?_
    rintro e w3 ⟨g3, n3, hn3, hg3, rfl, hat3, hk3⟩
    obtain rfl : n3 = 4 := hn3
    have k23 := kD.trans hk3 (fun _ _ h => h)
    have hsu := run_str (Bytes.of_at hat3 (sum4_lt (innerM bs))) 4 4 rfl
    rw [← HU.out] at hsu
    have hcv3 := HB4.out w3 k23
    obtain ⟨r0, r1⟩ : w3.cell? ⟨p, 0, none⟩ = some (.slice xr nr cr) ∧ w3.cell? ⟨p, 1, none⟩ = some (.bool false) := ⟨(HAE.out.keep k23 (fun h => h)).cell 0, (HAE.out.keep k23 (fun h => h)).cell 1⟩
    have K3 := Lib.hid (K2.out.trans k23 (fun _ _ h => h))
    have HZ3 := Lib.hid (HZ2.out.keep k23 (fun h => h))
    have HBI3 := Lib.hid (HBI.out.quiet k23)
    have KS3 := Lib.hid k23.size
    clear hg3 hat3 hk3 k23 kD hcv p0 p1
    go_wp2_with fail
    refine hK.out _ _ ⟨r0, r1, hcv3⟩ (fun hHeld => ?_)
    clear hK K
    try simp only [Act.put, List.getElem_toArray, List.getElem_cons_succ, List.getElem_cons_zero, List.setIfInBounds_toArray, List.set_cons_zero, List.set_cons_succ]
    refine wpAnyH_ready (rs := [21]) (by kernel_rfl) (by simp) ?_
    refine AllReadyH.cons rfl (fun K hK => ?_) AllReadyH.nil
    go_simp
    refine hK.out _ _ ⟨r0, r1, hcv3⟩ (fun hHeld => ?_)
    clear hK K
    try simp only [Act.put, List.getElem_toArray, List.getElem_cons_succ, List.getElem_cons_zero, List.setIfInBounds_toArray, List.set_cons_zero, List.set_cons_succ]
    by_cases hTU : ¬ T = U
    · have HV : Hid (beginsB bs = false) := Lib.hid (begins_wrap (by rw [HTU.out, decide_eq_false hTU]))
      have hb := list_bne hTU
      have hb2 := list_beq hTU
      refine wpAnyH_take (i := 22) (v := ?_) rfl (by kernel_rfl) (by kernel_rfl) (by kernel_rfl) (fun _ _ _ h => h) (Or.inl ⟨by rfl, ?_⟩) (by assumption) ?_
      rotate_left
      · (intro wS hSw; (try dsimp only at hSw); obtain ⟨hS1, hS2, hS3⟩ := hSw; (try simp only [List.getElem_toArray, List.getElem_cons_succ, List.getElem_cons_zero]); go_simp; try (with_reducible rfl))
      try simp only [Act.put, List.getElem_toArray, List.getElem_cons_succ, List.getElem_cons_zero, List.setIfInBounds_toArray, List.set_cons_zero, List.set_cons_succ]
      refine wpAnyH_take (i := 23) (v := ?_) rfl (by kernel_rfl) (by kernel_rfl) (by kernel_rfl) (fun _ _ _ h => h) (Or.inl ⟨by rfl, ?_⟩) (by assumption) ?_
      rotate_left
      · (intro wS hSw; (try dsimp only at hSw); obtain ⟨hS1, hS2, hS3⟩ := hSw; (try simp only [List.getElem_toArray, List.getElem_cons_succ, List.getElem_cons_zero]); go_simp; try (with_reducible rfl))
      try simp only [Act.put, List.getElem_toArray, List.getElem_cons_succ, List.getElem_cons_zero, List.setIfInBounds_toArray, List.set_cons_zero, List.set_cons_succ]
      refine wpAnyH_done (by kernel_rfl) ?_ _
      refine NoPanic.normal ?_
      clear s3 s4 r0 r1 hcv3 hsu
      go_wp2_with (refine wpList_store_row (by rfl) 25 (.tmp 2) (.tmp 40) (by rfl) A mzC (by rfl) (by rfl) 25 _ HZ3.out infoM rfl (one_ml _ _ _ _ _ _ _ _ _ _) ?_)
      (try simp only [Exit.inBlock, Exit.then])
      refine bodyPost_ret (ret_ml2 (fn := Tryz.f14) (p := 2) (u := 3) (v := 4) rfl _ _ A rfl ⟨(HZ3.out).setRow _, rfl⟩) rfl ?_
      exact begun_no HV.out (K3.out.setRow (fun h => by have := HA0.out; omega) _)
    have hTU : T = U := Decidable.not_not.1 hTU
    have HWT : Hid (wrapB bs = true) := Lib.hid (by rw [HTU.out, decide_eq_true hTU])
    subst hTU
    refine wpAnyH_take (i := 22) (v := ?_) rfl (by kernel_rfl) (by kernel_rfl) (by kernel_rfl) (fun _ _ _ h => h) (Or.inl ⟨by rfl, ?_⟩) (by assumption) ?_
    rotate_left
    · (intro wS hSw; (try dsimp only at hSw); obtain ⟨hS1, hS2, hS3⟩ := hSw; (try simp only [List.getElem_toArray, List.getElem_cons_succ, List.getElem_cons_zero]); go_simp; try (with_reducible rfl))
    try simp only [Act.put, List.getElem_toArray, List.getElem_cons_succ, List.getElem_cons_zero, List.setIfInBounds_toArray, List.set_cons_zero, List.set_cons_succ]
    refine wpAnyH_take (i := 23) (v := ?_) rfl (by kernel_rfl) (by kernel_rfl) (by kernel_rfl) (fun _ _ _ h => h) (Or.inl ⟨by rfl, ?_⟩) (by assumption) ?_
    rotate_left
    · (intro wS hSw; (try dsimp only at hSw); obtain ⟨hS1, hS2, hS3⟩ := hSw; (try simp only [List.getElem_toArray, List.getElem_cons_succ, List.getElem_cons_zero]); go_simp; try (with_reducible rfl))
    try simp only [Act.put, List.getElem_toArray, List.getElem_cons_succ, List.getElem_cons_zero, List.setIfInBounds_toArray, List.set_cons_zero, List.set_cons_succ]
    refine wpAnyH_done (by kernel_rfl) ?_ _
    refine NoPanic.normal ?_
    clear s3 s4 r0 r1 hcv3 hsu
    obtain ⟨I, hI⟩ : ∃ I, I = innerM bs := ⟨_, rfl⟩
    rw [← hI] at HBI3 HNI HIL
    have HII := Lib.hid hI
    clear hI HU HB4 HTU HW HBR HNR HAE HBI HZ2 HZD KD K2 hd4
    obtain ⟨P, hP⟩ : ∃ P : Nat → Prop, P = fun b => w.heap.size + 2 ≤ b ∧ b < w3.heap.size := ⟨_, rfl⟩
    have kE := keep_new w3 (.cells #[.slice xi ni ci, .bool false] 66)
    obtain ⟨q, hq⟩ : ∃ q, q = w3.heap.size := ⟨_, rfl⟩
    have HEQ : Hid (Ey P (w3.alloc (.cells #[.slice xi ni ci, .bool false] 66)) q (some I)) := Lib.hid ⟨xi, ni, ci, HNI.out, HCI.out, by rw [hq]; exact At.new w3 _ _, by
      rw [hP]
      exact (HBI3.out.mono (fun b hb h => ⟨by have := HS1.out; omega, hb⟩)).quiet kE⟩
    obtain ⟨W4, hW4⟩ : ∃ W4, W4 = w3.alloc (.cells #[.slice xi ni ci, .bool false] 66) := ⟨_, rfl⟩
    have Q4 : Hid (Rq w W4 A q P (some I)) := Lib.hid (by
      have h1 := HA0.out
      have h2 := K3.out.size
      rw [hW4]
      exact ⟨HEQ.out, HZ3.out.keep kE (fun h => h), K3.out.trans kE (fun _ _ h => h), by omega, by omega, by rw [hP]; exact ⟨fun h => by have := h.2; omega, fun h => by have := h.1; omega⟩, fun b h => by rw [hP] at h; have := h.2; omega⟩)
    have HW4 := Lib.hid hW4
    have HQ := Lib.hid hq
    have HQB : Hid (∀ b, P b → b < w3.heap.size) := Lib.hid (fun b h => by rw [hP] at h; exact h.2)
    clear hW4 hq hP kE HEQ HZ3 K3 HBI3 KS3 KS2
    go_wp2_with fail
    rw [← HW4.out, ← HQ.out]
    refine Q4.out.num.mono ?_
    rintro e w5 ⟨rfl, hQ5⟩
    have Q5 := Lib.hid hQ5
    obtain ⟨i1, hi1⟩ : ∃ i1 : Nat, i1 = numV (some I) := ⟨_, rfl⟩
    rw [← hi1]
    have HI1 := Lib.hid hi1
    clear hi1 hQ5 Q4
    go_wp2_with fail
    refine Q5.out.num.mono ?_
    rintro e w6 ⟨rfl, hQ6⟩
    have Q6 := Lib.hid hQ6
    obtain ⟨i2, hi2⟩ : ∃ i2 : Nat, i2 = numV (q1 I) := ⟨_, rfl⟩
    rw [show numS (some I) = q1 I from rfl, ← hi2]
    have HI2 := Lib.hid hi2
    clear hi2 hQ6 Q5
    go_wp2_with fail
    refine Q6.out.num.mono ?_
    rintro e w7 ⟨rfl, hQ7⟩
    have Q7 : Hid (Rq w w7 A q P (q3 I)) := Lib.hid hQ7
    obtain ⟨i3, hi3⟩ : ∃ i3 : Nat, i3 = numV (q2 I) := ⟨_, rfl⟩
    rw [show numS (numS (some I)) = q2 I from rfl, ← hi3]
    have HI3 := Lib.hid hi3
    clear hi3 hQ7 Q6
    go_wp2_with fail
    refine (Q7.out.byt (by have := q3_len I; have := HIL.out; omega)).mono ?_
    rintro e w8 ⟨x8, n8, c8, hn8, _, rfl, hB8, hQ8⟩
    have Q8 : Hid (Rq w w8 A q P (q4 I)) := Lib.hid hQ8
    have hs8 := run_str hB8 n8 c8 hn8.symm
    obtain ⟨F, hF⟩ : ∃ F, F = str (bytV (q3 I)) := ⟨_, rfl⟩
    rw [← hF] at hs8
    have HF := Lib.hid hF
    have HFS : Hid (F.size ≤ 100000) := Lib.hid (by
      rw [hF, str_size]
      have h1 := bytV_len (q3 I)
      have h2 := q3_len I
      have h3 := HIL.out
      omega)
    clear hF hQ8 hB8 hn8 Q7
    obtain ⟨B, hB⟩ : ∃ B, B = w8.heap.size := ⟨_, rfl⟩
    obtain ⟨W9, hW9⟩ : ∃ W9, W9 = (w8.alloc (.cells #[.int .i64 0, .int .i64 0, .int .i64 0, .string { data := #[] }, .slice none 0 0, .slice none 0 0] 25)).setRow w8.heap.size #[.int .i64 (i1 : Int), .int .i64 (i2 : Int), .int .i64 (i3 : Int), .string F, .slice none 0 0, .slice none 0 0] := ⟨_, rfl⟩
    have R9 : Hid (Rb w W9 A B q P (q4 I) #[.int .i64 (i1 : Int), .int .i64 (i2 : Int), .int .i64 (i3 : Int), .string F, .slice none 0 0, .slice none 0 0]) := Lib.hid (by
      rw [hW9, hB]
      have Q := Q8.out
      exact Rb.new (w1 := w) (w3 := w) Q.ey Q.res Q.kp Q.hA Q.hp Q.np Q.lt _)
    have HZ8 := Lib.hid (mz_new w8)
    have HW9 := Lib.hid hW9
    have HB0 := Lib.hid hB
    clear hW9 hB Q8
    go_wp2_with (refine wpList_store_row (by rfl) 25 (.tmp 8) (.tmp 53) (by rfl) w8.heap.size #[.int .i64 (i1 : Int), .int .i64 (i2 : Int), .int .i64 (i3 : Int), .string F, .slice none 0 0, .slice none 0 0] (by rfl) (by rfl) 25 _ HZ8.out infoM rfl (one_ml _ _ _ _ _ _ _ _ _ _) ?_; rw [← HW9.out])
    rw [← HB0.out]
    refine R9.out.num.mono ?_
    rintro e w10 ⟨rfl, hR10, _⟩
    have R10 : Hid (Rb w w10 A B q P (q5 I) #[.int .i64 (i1 : Int), .int .i64 (i2 : Int), .int .i64 (i3 : Int), .string F, .slice none 0 0, .slice none 0 0]) := Lib.hid hR10
    obtain ⟨N, hN⟩ : ∃ N : Nat, N = cntM I := ⟨_, rfl⟩
    rw [show numV (q4 I) = N from hN.symm]
    have HNN := Lib.hid hN
    have hNtop : N ≤ 4611686018427387904 := by rw [hN]; exact numV_le _
    obtain ⟨C, hC⟩ : ∃ C, C = w10.heap.size := ⟨_, rfl⟩
    have HCC : Hid (A < C ∧ B < C ∧ q < C ∧ w.heap.size ≤ C) := Lib.hid (by
      obtain ⟨cs', hc'⟩ := R10.out.ey.at
      rw [hC]
      exact ⟨R10.out.res.lt, R10.out.row.lt, hc'.lt, R10.out.kp.size⟩)
    have HC10 : Hid (C ≤ w10.heap.size) := Lib.hid (Nat.le_of_eq hC)
    have HQL : Hid (∀ k, lenS (rdS k (q5 I)) ≤ 1000000) := Lib.hid (fun k => by
      have h1 := rdS_len (q5 I) k
      have h2 := q5_len I
      have h3 := HIL.out
      omega)
    have HRS : Hid (∀ k, ∀ t ∈ rdL k (q5 I), t.size ≤ 100000) := Lib.hid (fun k t ht => by
      have h1 := rdL_small (q5 I) k t ht
      have h2 := q5_len I
      have h3 := HIL.out
      omega)
    clear hN hC hR10 R9 HZ8 hs8
    go_wp2
    go_loopw [10] (fun i wr => ∃ (k : Nat) (v : Value), k ≤ N ∧ k ≤ 9 ∧ i = .int .i64 (k : Int) ∧ Hid (Rb w wr A B q P (rdS k (q5 I)) #[.int .i64 (i1 : Int), .int .i64 (i2 : Int), .int .i64 (i3 : Int), .string F, v, .slice none 0 0]) ∧ Hid (Tso C wr v (rdL k (q5 I))) ∧ Hid (C ≤ wr.heap.size)) (fun i _ => 9 - (intOf i).toNat)
    case atStart => exact ⟨0, .slice none 0 0, by omega, by omega, rfl, R10.out, Tso.empty _ _, HC10.out⟩
    case round =>
      obtain ⟨k, v, hk, hk9, rfl, R, T, HCR⟩ := hrel
      by_cases hlt : (k : Int) < (N : Int)
      · by_cases hlt9 : (k : Int) < 9
        · obtain ⟨b4, b4f⟩ : wr.cell? ⟨B, 4, none⟩ = some v ∧ wr.frozen? ⟨B, 4, none⟩ = false := ⟨R.out.row.cell 4, R.out.row.frozen 4⟩
          have RX := Lib.hid (R.out.quiet ((Keep.refl (fun _ => False) wr).drew))
          have TX := Lib.hid (T.out.quiet ((Keep.refl (fun _ => False) wr).drew))
          have HRL := Lib.hid (rdL_length (q5 I) k)
          clear R T
          go_wp2
          refine wp_region_noPanic ?_
          refine wp_region_held_drew (S := fun w' => True) (by kernel_rfl) trivial (fun hHeld => ?_)
          refine wpAnyH_take (i := 0) (v := ?_) rfl (by kernel_rfl) (by kernel_rfl) (by kernel_rfl) (fun _ _ _ h => h) (Or.inl ⟨by rfl, ?_⟩) (by assumption) ?_
          rotate_left
          · (intro wS hSw; (try dsimp only at hSw); (try simp only [List.getElem_toArray, List.getElem_cons_succ, List.getElem_cons_zero]); go_simp; try (with_reducible rfl))
          try simp only [Act.put, List.getElem_toArray, List.getElem_cons_succ, List.getElem_cons_zero, List.setIfInBounds_toArray, List.set_cons_zero, List.set_cons_succ]
          refine wpAnyH_take (i := 2) (v := ?_) rfl (by kernel_rfl) (by kernel_rfl) (by kernel_rfl) (fun _ _ _ h => h) (Or.inl ⟨by rfl, ?_⟩) (by assumption) ?_
          rotate_left
          · (intro wS hSw; (try dsimp only at hSw); (try simp only [List.getElem_toArray, List.getElem_cons_succ, List.getElem_cons_zero]); go_simp; try (with_reducible rfl))
          try simp only [Act.put, List.getElem_toArray, List.getElem_cons_succ, List.getElem_cons_zero, List.setIfInBounds_toArray, List.set_cons_zero, List.set_cons_succ]
          refine wpAnyH_ready (rs := [1, 3]) (by kernel_rfl) (by simp) ?_
          refine AllReadyH.cons rfl (fun K hK => ?_) (AllReadyH.cons rfl (fun K hK => ?_) AllReadyH.nil)
          · go_simp
            refine hK.out _ _ trivial (fun hHeld => ?_)
            clear hK K
            try simp only [Act.put, List.getElem_toArray, List.getElem_cons_succ, List.getElem_cons_zero, List.setIfInBounds_toArray, List.set_cons_zero, List.set_cons_succ]
            refine wpAnyH_ready (rs := [3]) (by kernel_rfl) (by simp) ?_
            refine AllReadyH.cons rfl (fun K hK => ?_) AllReadyH.nil
            go_simp
            refine (RX.out.byt (HQL.out k)).mono ?_
            rintro e w11 ⟨x11, n11, c11, hn11, _, rfl, hB11, hR11, hk11⟩
            have R11 : Hid (Rb w w11 A B q P (rdS (k + 1) (q5 I)) #[.int .i64 (i1 : Int), .int .i64 (i2 : Int), .int .i64 (i3 : Int), .string F, v, .slice none 0 0]) := Lib.hid hR11
            have T11 := Lib.hid (TX.out.keep hk11 (fun b hb e => by have := (TX.out.lt b hb).1; have := HCC.out.2.2.1; omega))
            have hs11 := run_str hB11 n11 c11 hn11.symm
            obtain ⟨Z, hZt⟩ : ∃ Z, Z = str (bytV (rdS k (q5 I))) := ⟨_, rfl⟩
            rw [← hZt] at hs11
            have HZT := Lib.hid hZt
            have HC11 : Hid (C ≤ w11.heap.size) := Lib.hid (Nat.le_trans HCR.out hk11.size)
            have y4 : w11.cell? ⟨B, 4, none⟩ = some v := hR11.row.cell 4
            have kZ := keep_new w11 (.cells #[.string Z] 9)
            have z4 : (w11.alloc (.cells #[.string Z] 9)).cell? ⟨B, 4, none⟩ = some v := kZ.cell y4 (fun h => h)
            obtain ⟨y12, n12, c12, w12, hr12, hT12, hk12⟩ := run_append_tso 22 (T11.out.quiet kZ) (Nat.le_trans HC11.out kZ.size) w11.heap.size Z (cell_of_row _ _ 0 _ _ (0, 0) (heap_alloc_new w11 _)) (by have := HRL.out; omega)
            have R12 : Hid (Rb w w12 A B q P (rdS (k + 1) (q5 I)) #[.int .i64 (i1 : Int), .int .i64 (i2 : Int), .int .i64 (i3 : Int), .string F, v, .slice none 0 0]) := Lib.hid (by
              obtain ⟨c1, c2, c3, c4⟩ := HCC.out
              exact (R11.out.quiet kZ).far hk12 (fun i e => ((T11.out.quiet kZ).lt i e).1) c4 c1 c2 c3)
            obtain ⟨u4, u4f⟩ : w12.cell? ⟨B, 4, none⟩ = some v ∧ w12.frozen? ⟨B, 4, none⟩ = false := ⟨R12.out.row.cell 4, R12.out.row.frozen 4⟩
            have R13 := Lib.hid (R12.out.put 4 (.slice y12 n12 c12))
            have T13 : Hid (Tso C (w12.setCell ⟨B, 4, none⟩ (.slice y12 n12 c12)) (.slice y12 n12 c12) (rdL (k + 1) (q5 I))) := Lib.hid (by
              have := hT12.keep ((Keep.refl (fun k => k = B) w12).setCell (p := ⟨B, 4, none⟩) (fun _ => rfl) (.slice y12 n12 c12)) (fun b hb e => by have := (hT12.lt b hb).1; have := HCC.out.2.1; omega)
              rw [rdL, ← HZT.out]
              exact this)
            have HC13 : Hid (C ≤ (w12.setCell ⟨B, 4, none⟩ (.slice y12 n12 c12)).heap.size) := Lib.hid (by
              have h1 := Nat.le_trans HC11.out (Nat.le_trans kZ.size hk12.size)
              simp [World.setCell]
              exact h1)
            have HR12 := Lib.hid hr12
            clear hn11 hB11 hR11 hk11 hZt kZ hT12 hk12 hr12
            go_wp2_with fail
            refine hK.out _ _ trivial (fun hHeld => ?_)
            clear hK K
            try simp only [Act.put, List.getElem_toArray, List.getElem_cons_succ, List.getElem_cons_zero, List.setIfInBounds_toArray, List.set_cons_zero, List.set_cons_succ]
            refine wpAnyH_ready (rs := [4]) (by kernel_rfl) (by simp) ?_
            refine AllReadyH.cons rfl (fun K hK => ?_) AllReadyH.nil
            go_simp
            refine hK.out _ _ trivial (fun hHeld => ?_)
            clear hK K
            try simp only [Act.put, List.getElem_toArray, List.getElem_cons_succ, List.getElem_cons_zero, List.setIfInBounds_toArray, List.set_cons_zero, List.set_cons_succ]
            refine wpAnyH_ready (rs := [5]) (by kernel_rfl) (by simp) ?_
            refine AllReadyH.cons rfl (fun K hK => ?_) AllReadyH.nil
            go_simp
            refine hK.out _ _ trivial (fun hHeld => ?_)
            clear hK K
            try simp only [Act.put, List.getElem_toArray, List.getElem_cons_succ, List.getElem_cons_zero, List.setIfInBounds_toArray, List.set_cons_zero, List.set_cons_succ]
            refine wpAnyH_ready (rs := [6]) (by kernel_rfl) (by simp) ?_
            refine AllReadyH.cons rfl (fun K hK => ?_) AllReadyH.nil
            refine wp_append_runB (by rfl) (by rfl) (by rfl) HR12.out ?_
            refine hK.out _ _ trivial (fun hHeld => ?_)
            clear hK K
            try simp only [Act.put, List.getElem_toArray, List.getElem_cons_succ, List.getElem_cons_zero, List.setIfInBounds_toArray, List.set_cons_zero, List.set_cons_succ]
            refine wpAnyH_take (i := 7) (v := ?_) rfl (by kernel_rfl) (by kernel_rfl) (by kernel_rfl) (fun _ _ _ h => h) (Or.inl ⟨by rfl, ?_⟩) (by assumption) ?_
            rotate_left
            · (intro wS hSw; (try dsimp only at hSw); (try simp only [List.getElem_toArray, List.getElem_cons_succ, List.getElem_cons_zero]); go_simp; try (with_reducible rfl))
            try simp only [Act.put, List.getElem_toArray, List.getElem_cons_succ, List.getElem_cons_zero, List.setIfInBounds_toArray, List.set_cons_zero, List.set_cons_succ]
            refine wpAnyH_ready (rs := [8]) (by kernel_rfl) (by simp) ?_
            refine AllReadyH.cons rfl (fun K hK => ?_) AllReadyH.nil
            go_simp
            refine hK.out _ _ trivial (fun hHeld => ?_)
            clear hK K
            try simp only [Act.put, List.getElem_toArray, List.getElem_cons_succ, List.getElem_cons_zero, List.setIfInBounds_toArray, List.set_cons_zero, List.set_cons_succ]
            refine wpAnyH_done (by kernel_rfl) ?_ _
            refine NoPanic.normal ?_
            clear y4 z4 u4 u4f hs11
            go_wp2
            go_roundw
            case rel => exact ⟨k + 1, .slice y12 n12 c12, by omega, by omega, by go_num, R13.out, T13.out, HC13.out⟩
            case measure => simp [intOf]; omega

          · go_simp
            refine (RX.out.byt (HQL.out k)).mono ?_
            rintro e w11 ⟨x11, n11, c11, hn11, _, rfl, hB11, hR11, hk11⟩
            have R11 : Hid (Rb w w11 A B q P (rdS (k + 1) (q5 I)) #[.int .i64 (i1 : Int), .int .i64 (i2 : Int), .int .i64 (i3 : Int), .string F, v, .slice none 0 0]) := Lib.hid hR11
            have T11 := Lib.hid (TX.out.keep hk11 (fun b hb e => by have := (TX.out.lt b hb).1; have := HCC.out.2.2.1; omega))
            have hs11 := run_str hB11 n11 c11 hn11.symm
            obtain ⟨Z, hZt⟩ : ∃ Z, Z = str (bytV (rdS k (q5 I))) := ⟨_, rfl⟩
            rw [← hZt] at hs11
            have HZT := Lib.hid hZt
            have HC11 : Hid (C ≤ w11.heap.size) := Lib.hid (Nat.le_trans HCR.out hk11.size)
            have y4 : w11.cell? ⟨B, 4, none⟩ = some v := hR11.row.cell 4
            have kZ := keep_new w11 (.cells #[.string Z] 9)
            have z4 : (w11.alloc (.cells #[.string Z] 9)).cell? ⟨B, 4, none⟩ = some v := kZ.cell y4 (fun h => h)
            obtain ⟨y12, n12, c12, w12, hr12, hT12, hk12⟩ := run_append_tso 22 (T11.out.quiet kZ) (Nat.le_trans HC11.out kZ.size) w11.heap.size Z (cell_of_row _ _ 0 _ _ (0, 0) (heap_alloc_new w11 _)) (by have := HRL.out; omega)
            have R12 : Hid (Rb w w12 A B q P (rdS (k + 1) (q5 I)) #[.int .i64 (i1 : Int), .int .i64 (i2 : Int), .int .i64 (i3 : Int), .string F, v, .slice none 0 0]) := Lib.hid (by
              obtain ⟨c1, c2, c3, c4⟩ := HCC.out
              exact (R11.out.quiet kZ).far hk12 (fun i e => ((T11.out.quiet kZ).lt i e).1) c4 c1 c2 c3)
            obtain ⟨u4, u4f⟩ : w12.cell? ⟨B, 4, none⟩ = some v ∧ w12.frozen? ⟨B, 4, none⟩ = false := ⟨R12.out.row.cell 4, R12.out.row.frozen 4⟩
            have R13 := Lib.hid (R12.out.put 4 (.slice y12 n12 c12))
            have T13 : Hid (Tso C (w12.setCell ⟨B, 4, none⟩ (.slice y12 n12 c12)) (.slice y12 n12 c12) (rdL (k + 1) (q5 I))) := Lib.hid (by
              have := hT12.keep ((Keep.refl (fun k => k = B) w12).setCell (p := ⟨B, 4, none⟩) (fun _ => rfl) (.slice y12 n12 c12)) (fun b hb e => by have := (hT12.lt b hb).1; have := HCC.out.2.1; omega)
              rw [rdL, ← HZT.out]
              exact this)
            have HC13 : Hid (C ≤ (w12.setCell ⟨B, 4, none⟩ (.slice y12 n12 c12)).heap.size) := Lib.hid (by
              have h1 := Nat.le_trans HC11.out (Nat.le_trans kZ.size hk12.size)
              simp [World.setCell]
              exact h1)
            have HR12 := Lib.hid hr12
            clear hn11 hB11 hR11 hk11 hZt kZ hT12 hk12 hr12
            go_wp2_with fail
            refine hK.out _ _ trivial (fun hHeld => ?_)
            clear hK K
            try simp only [Act.put, List.getElem_toArray, List.getElem_cons_succ, List.getElem_cons_zero, List.setIfInBounds_toArray, List.set_cons_zero, List.set_cons_succ]
            refine wpAnyH_ready (rs := [1, 4]) (by kernel_rfl) (by simp) ?_
            refine AllReadyH.cons rfl (fun K hK => ?_) (AllReadyH.cons rfl (fun K hK => ?_) AllReadyH.nil)
            · go_simp
              refine hK.out _ _ trivial (fun hHeld => ?_)
              clear hK K
              try simp only [Act.put, List.getElem_toArray, List.getElem_cons_succ, List.getElem_cons_zero, List.setIfInBounds_toArray, List.set_cons_zero, List.set_cons_succ]
              refine wpAnyH_ready (rs := [4]) (by kernel_rfl) (by simp) ?_
              refine AllReadyH.cons rfl (fun K hK => ?_) AllReadyH.nil
              go_simp
              refine hK.out _ _ trivial (fun hHeld => ?_)
              clear hK K
              try simp only [Act.put, List.getElem_toArray, List.getElem_cons_succ, List.getElem_cons_zero, List.setIfInBounds_toArray, List.set_cons_zero, List.set_cons_succ]
              refine wpAnyH_ready (rs := [5]) (by kernel_rfl) (by simp) ?_
              refine AllReadyH.cons rfl (fun K hK => ?_) AllReadyH.nil
              go_simp
              refine hK.out _ _ trivial (fun hHeld => ?_)
              clear hK K
              try simp only [Act.put, List.getElem_toArray, List.getElem_cons_succ, List.getElem_cons_zero, List.setIfInBounds_toArray, List.set_cons_zero, List.set_cons_succ]
              refine wpAnyH_ready (rs := [6]) (by kernel_rfl) (by simp) ?_
              refine AllReadyH.cons rfl (fun K hK => ?_) AllReadyH.nil
              refine wp_append_runB (by rfl) (by rfl) (by rfl) HR12.out ?_
              refine hK.out _ _ trivial (fun hHeld => ?_)
              clear hK K
              try simp only [Act.put, List.getElem_toArray, List.getElem_cons_succ, List.getElem_cons_zero, List.setIfInBounds_toArray, List.set_cons_zero, List.set_cons_succ]
              refine wpAnyH_take (i := 7) (v := ?_) rfl (by kernel_rfl) (by kernel_rfl) (by kernel_rfl) (fun _ _ _ h => h) (Or.inl ⟨by rfl, ?_⟩) (by assumption) ?_
              rotate_left
              · (intro wS hSw; (try dsimp only at hSw); (try simp only [List.getElem_toArray, List.getElem_cons_succ, List.getElem_cons_zero]); go_simp; try (with_reducible rfl))
              try simp only [Act.put, List.getElem_toArray, List.getElem_cons_succ, List.getElem_cons_zero, List.setIfInBounds_toArray, List.set_cons_zero, List.set_cons_succ]
              refine wpAnyH_ready (rs := [8]) (by kernel_rfl) (by simp) ?_
              refine AllReadyH.cons rfl (fun K hK => ?_) AllReadyH.nil
              go_simp
              refine hK.out _ _ trivial (fun hHeld => ?_)
              clear hK K
              try simp only [Act.put, List.getElem_toArray, List.getElem_cons_succ, List.getElem_cons_zero, List.setIfInBounds_toArray, List.set_cons_zero, List.set_cons_succ]
              refine wpAnyH_done (by kernel_rfl) ?_ _
              refine NoPanic.normal ?_
              clear y4 z4 u4 u4f hs11
              go_wp2
              go_roundw
              case rel => exact ⟨k + 1, .slice y12 n12 c12, by omega, by omega, by go_num, R13.out, T13.out, HC13.out⟩
              case measure => simp [intOf]; omega

            · go_simp
              refine hK.out _ _ trivial (fun hHeld => ?_)
              clear hK K
              try simp only [Act.put, List.getElem_toArray, List.getElem_cons_succ, List.getElem_cons_zero, List.setIfInBounds_toArray, List.set_cons_zero, List.set_cons_succ]
              refine wpAnyH_ready (rs := [1, 5]) (by kernel_rfl) (by simp) ?_
              refine AllReadyH.cons rfl (fun K hK => ?_) (AllReadyH.cons rfl (fun K hK => ?_) AllReadyH.nil)
              · go_simp
                refine hK.out _ _ trivial (fun hHeld => ?_)
                clear hK K
                try simp only [Act.put, List.getElem_toArray, List.getElem_cons_succ, List.getElem_cons_zero, List.setIfInBounds_toArray, List.set_cons_zero, List.set_cons_succ]
                refine wpAnyH_ready (rs := [5]) (by kernel_rfl) (by simp) ?_
                refine AllReadyH.cons rfl (fun K hK => ?_) AllReadyH.nil
                go_simp
                refine hK.out _ _ trivial (fun hHeld => ?_)
                clear hK K
                try simp only [Act.put, List.getElem_toArray, List.getElem_cons_succ, List.getElem_cons_zero, List.setIfInBounds_toArray, List.set_cons_zero, List.set_cons_succ]
                refine wpAnyH_ready (rs := [6]) (by kernel_rfl) (by simp) ?_
                refine AllReadyH.cons rfl (fun K hK => ?_) AllReadyH.nil
                refine wp_append_runB (by rfl) (by rfl) (by rfl) HR12.out ?_
                refine hK.out _ _ trivial (fun hHeld => ?_)
                clear hK K
                try simp only [Act.put, List.getElem_toArray, List.getElem_cons_succ, List.getElem_cons_zero, List.setIfInBounds_toArray, List.set_cons_zero, List.set_cons_succ]
                refine wpAnyH_take (i := 7) (v := ?_) rfl (by kernel_rfl) (by kernel_rfl) (by kernel_rfl) (fun _ _ _ h => h) (Or.inl ⟨by rfl, ?_⟩) (by assumption) ?_
                rotate_left
                · (intro wS hSw; (try dsimp only at hSw); (try simp only [List.getElem_toArray, List.getElem_cons_succ, List.getElem_cons_zero]); go_simp; try (with_reducible rfl))
                try simp only [Act.put, List.getElem_toArray, List.getElem_cons_succ, List.getElem_cons_zero, List.setIfInBounds_toArray, List.set_cons_zero, List.set_cons_succ]
                refine wpAnyH_ready (rs := [8]) (by kernel_rfl) (by simp) ?_
                refine AllReadyH.cons rfl (fun K hK => ?_) AllReadyH.nil
                go_simp
                refine hK.out _ _ trivial (fun hHeld => ?_)
                clear hK K
                try simp only [Act.put, List.getElem_toArray, List.getElem_cons_succ, List.getElem_cons_zero, List.setIfInBounds_toArray, List.set_cons_zero, List.set_cons_succ]
                refine wpAnyH_done (by kernel_rfl) ?_ _
                refine NoPanic.normal ?_
                clear y4 z4 u4 u4f hs11
                go_wp2
                go_roundw
                case rel => exact ⟨k + 1, .slice y12 n12 c12, by omega, by omega, by go_num, R13.out, T13.out, HC13.out⟩
                case measure => simp [intOf]; omega

              · go_simp
                refine hK.out _ _ trivial (fun hHeld => ?_)
                clear hK K
                try simp only [Act.put, List.getElem_toArray, List.getElem_cons_succ, List.getElem_cons_zero, List.setIfInBounds_toArray, List.set_cons_zero, List.set_cons_succ]
                refine wpAnyH_ready (rs := [1]) (by kernel_rfl) (by simp) ?_
                refine AllReadyH.cons rfl (fun K hK => ?_) AllReadyH.nil
                go_simp
                refine hK.out _ _ trivial (fun hHeld => ?_)
                clear hK K
                try simp only [Act.put, List.getElem_toArray, List.getElem_cons_succ, List.getElem_cons_zero, List.setIfInBounds_toArray, List.set_cons_zero, List.set_cons_succ]
                refine wpAnyH_ready (rs := [6]) (by kernel_rfl) (by simp) ?_
                refine AllReadyH.cons rfl (fun K hK => ?_) AllReadyH.nil
                refine wp_append_runB (by rfl) (by rfl) (by rfl) HR12.out ?_
                refine hK.out _ _ trivial (fun hHeld => ?_)
                clear hK K
                try simp only [Act.put, List.getElem_toArray, List.getElem_cons_succ, List.getElem_cons_zero, List.setIfInBounds_toArray, List.set_cons_zero, List.set_cons_succ]
                refine wpAnyH_take (i := 7) (v := ?_) rfl (by kernel_rfl) (by kernel_rfl) (by kernel_rfl) (fun _ _ _ h => h) (Or.inl ⟨by rfl, ?_⟩) (by assumption) ?_
                rotate_left
                · (intro wS hSw; (try dsimp only at hSw); (try simp only [List.getElem_toArray, List.getElem_cons_succ, List.getElem_cons_zero]); go_simp; try (with_reducible rfl))
                try simp only [Act.put, List.getElem_toArray, List.getElem_cons_succ, List.getElem_cons_zero, List.setIfInBounds_toArray, List.set_cons_zero, List.set_cons_succ]
                refine wpAnyH_ready (rs := [8]) (by kernel_rfl) (by simp) ?_
                refine AllReadyH.cons rfl (fun K hK => ?_) AllReadyH.nil
                go_simp
                refine hK.out _ _ trivial (fun hHeld => ?_)
                clear hK K
                try simp only [Act.put, List.getElem_toArray, List.getElem_cons_succ, List.getElem_cons_zero, List.setIfInBounds_toArray, List.set_cons_zero, List.set_cons_succ]
                refine wpAnyH_done (by kernel_rfl) ?_ _
                refine NoPanic.normal ?_
                clear y4 z4 u4 u4f hs11
                go_wp2
                go_roundw
                case rel => exact ⟨k + 1, .slice y12 n12 c12, by omega, by omega, by go_num, R13.out, T13.out, HC13.out⟩
                case measure => simp [intOf]; omega
        · have hd9 : decide ((k : Int) < 9) = false := decide_eq_false hlt9
          have HRO : Hid (readOk I = (decide (N ≤ 8) && doneB (bytS (rdS k (q5 I))))) := Lib.hid (by
            rw [readOk, ← HNN.out, decide_eq_false (show ¬ N ≤ 8 by omega)]; rfl)
          have HKN : Hid (N ≤ 8 → k = N) := Lib.hid (fun h => by omega)
          clear hlt9
          go_wp2_with fail
          refine (R.out.byt (HQL.out k)).mono ?_
          rintro e w13 ⟨x13, n13, c13, hn13, _, rfl, hB13, hR13, hk13⟩
          obtain ⟨b5, b5f⟩ : w13.cell? ⟨B, 5, none⟩ = some (.slice none 0 0) ∧ w13.frozen? ⟨B, 5, none⟩ = false := ⟨hR13.row.cell 5, hR13.row.frozen 5⟩
          have T13 := T.out.keep hk13 (fun b hb e => by have := (T.out.lt b hb).1; have := HCC.out.2.2.1; omega)
          obtain ⟨y, cy, hv, hcy, _⟩ := T13.shape
          obtain ⟨L, hL⟩ : ∃ L, L = (rdL k (q5 I)).length := ⟨_, rfl⟩
          rw [← hL] at hv hcy
          subst hv
          obtain ⟨W14, hW14⟩ : ∃ W14, W14 = w13.setCell ⟨B, 5, none⟩ (.slice x13 n13 c13) := ⟨_, rfl⟩
          have k14 : Keep (fun k => k = B) w13 W14 := by rw [hW14]; exact (Keep.refl (fun k => k = B) w13).setCell (p := ⟨B, 5, none⟩) (fun _ => rfl) _
          obtain ⟨s13, hs13⟩ : ∃ s13, s13 = bytS (rdS k (q5 I)) := ⟨_, rfl⟩
          rw [← hs13] at hR13 HRO
          obtain ⟨m, hm⟩ : ∃ m : Ml, m = ⟨(i1 : Int), (i2 : Int), (i3 : Int), F, rdL k (q5 I), bytV (rdS k (q5 I))⟩ := ⟨_, rfl⟩
          have R14 : Hid (Rb w W14 A B q P s13 (mlC m y L cy x13 n13 c13)) := Lib.hid (by rw [hW14, hm]; exact hR13.put 5 (.slice x13 n13 c13))
          have T14 := T13.keep k14 (fun b hb e => by have := (T13.lt b hb).1; have := HCC.out.2.1; omega)
          have HM14 : Hid (MlIt (fun b => C ≤ b) W14 m y L x13 n13) := Lib.hid (by
            obtain ⟨y', cy', hv', _, hT'⟩ := T14.shape
            injection hv' with e1 e2 e3
            subst e1
            have hB14 := (hB13.mono (Q := fun b => C ≤ b) (fun b _ hb => Nat.le_trans HCR.out hb)).keep k14 (fun b _ hb e => by have := HCC.out.2.1; omega)
            rw [hm]
            exact ⟨hT', hB14, hL, hn13⟩)
          have HML : Hid (N ≤ 8 → m = readMl I) := Lib.hid (fun h8 => by
            rw [hm, readMl, ← HNN.out, ← HI1.out, ← HI2.out, ← HI3.out, ← HF.out, HKN.out h8])
          have HMS : Hid (m.frm.size ≤ 100000 ∧ ∀ t ∈ m.rcpts, t.size ≤ 100000) := Lib.hid (by rw [hm]; exact ⟨HFS.out, HRS.out k⟩)
          have HBG : Hid (beginsB bs = (readOk I && goodM (readMl I))) := Lib.hid (by rw [beginsB, HWT.out, ← HII.out]; rfl)
          have HA14 := Lib.hid R14.out.res
          have K14 := Lib.hid R14.out.kp
          have HW14 := Lib.hid hW14
          clear hW14 k14 hm hs13 hR13 hk13 hB13 hn13 T13 T14 hL hcy R T
          cases s13 with
          | none =>
            have HV : Hid (beginsB bs = false) := Lib.hid (by rw [HBG.out, HRO.out]; simp [doneB])
            obtain ⟨x', n', c', _, hAE⟩ := R14.out.ey
            obtain ⟨z0, z1⟩ : W14.cell? ⟨q, 0, none⟩ = some (.slice x' n' c') ∧ W14.cell? ⟨q, 1, none⟩ = some (.bool true) := ⟨hAE.cell 0, hAE.cell 1⟩
            rw [HW14.out] at z0 z1
            clear hAE
            go_wp2_with (rw [← HW14.out]; refine wpList_store_row (by rfl) 25 (.tmp 2) (.tmp 97) (by rfl) A mzC (by rfl) (by rfl) 25 _ HA14.out infoM rfl (one_ml _ _ _ _ _ _ _ _ _ _) ?_)
            (try simp only [Exit.inBlock, Exit.then])
            refine bodyPost_ret (ret_ml2 (fn := Tryz.f14) (p := 2) (u := 3) (v := 4) rfl _ _ A rfl ⟨HA14.out.setRow _, rfl⟩) rfl ?_
            exact begun_no HV.out (K14.out.setRow (fun h => by have := HA0.out; omega) _)
          | some r =>
            obtain ⟨xr, nr, cr, hnr, _, hAE, _⟩ := R14.out.ey
            obtain ⟨z0, z1⟩ : W14.cell? ⟨q, 0, none⟩ = some (.slice xr nr cr) ∧ W14.cell? ⟨q, 1, none⟩ = some (.bool false) := ⟨hAE.cell 0, hAE.cell 1⟩
            rw [HW14.out] at z0 z1
            have HNR := Lib.hid hnr
            clear hAE hnr
            by_cases hr0 : (0 : Int) < (nr : Int)
            · have HV : Hid (beginsB bs = false) := Lib.hid (by
                have : ¬ r = [] := fun e => by have := HNR.out; rw [e] at this; simp at this; omega
                rw [HBG.out, HRO.out]; simp [doneB, this])
              go_wp2_with (rw [← HW14.out]; refine wpList_store_row (by rfl) 25 (.tmp 2) (.tmp 97) (by rfl) A mzC (by rfl) (by rfl) 25 _ HA14.out infoM rfl (one_ml _ _ _ _ _ _ _ _ _ _) ?_)
              (try simp only [Exit.inBlock, Exit.then])
              refine bodyPost_ret (ret_ml2 (fn := Tryz.f14) (p := 2) (u := 3) (v := 4) rfl _ _ A rfl ⟨HA14.out.setRow _, rfl⟩) rfl ?_
              exact begun_no HV.out (K14.out.setRow (fun h => by have := HA0.out; omega) _)
            have HR0 : Hid (r = []) := Lib.hid (List.eq_nil_of_length_eq_zero (by have := HNR.out; omega))
            obtain rfl : nr = 0 := by omega
            clear hr0
            by_cases h8 : (8 : Int) < (N : Int)
            · have HV : Hid (beginsB bs = false) := Lib.hid (by
                rw [HBG.out, HRO.out, decide_eq_false (show ¬ N ≤ 8 by omega)]; rfl)
              go_wp2_with (rw [← HW14.out]; refine wpList_store_row (by rfl) 25 (.tmp 2) (.tmp 97) (by rfl) A mzC (by rfl) (by rfl) 25 _ HA14.out infoM rfl (one_ml _ _ _ _ _ _ _ _ _ _) ?_)
              (try simp only [Exit.inBlock, Exit.then])
              refine bodyPost_ret (ret_ml2 (fn := Tryz.f14) (p := 2) (u := 3) (v := 4) rfl _ _ A rfl ⟨HA14.out.setRow _, rfl⟩) rfl ?_
              exact begun_no HV.out (K14.out.setRow (fun h => by have := HA0.out; omega) _)
            have hd8 : decide ((8 : Int) < (N : Int)) = false := decide_eq_false h8
            have HM : Hid (m = readMl I) := Lib.hid (HML.out (by omega))
            have HBB : Hid (beginsB bs = goodM m) := Lib.hid (by rw [HBG.out, HRO.out, decide_eq_true (show N ≤ 8 by omega), HR0.out, HM.out]; simp [doneB])
            clear h8
            obtain ⟨v0, v1, v2, v3, v4, v5⟩ : W14.cell? ⟨B, 0, none⟩ = some (.int .i64 m.id) ∧ W14.cell? ⟨B, 1, none⟩ = some (.int .i64 m.parent) ∧ W14.cell? ⟨B, 2, none⟩ = some (.int .i64 m.born) ∧ W14.cell? ⟨B, 3, none⟩ = some (.string m.frm) ∧ W14.cell? ⟨B, 4, none⟩ = some (.slice y L cy) ∧ W14.cell? ⟨B, 5, none⟩ = some (.slice x13 n13 c13) := ⟨R14.out.row.cell 0, R14.out.row.cell 1, R14.out.row.cell 2, R14.out.row.cell 3, R14.out.row.cell 4, R14.out.row.cell 5⟩
            have HROW := Lib.hid R14.out.row
            rw [HW14.out] at v0 v1 v2 v3 v4 v5
            have HGD := Lib.hid (refGoodC (rc := cy) (bc := c13) HM14.out (Nat.le_trans HMS.out.1 (by decide)) (fun s hs => Nat.le_trans (HMS.out.2 s hs) (by decide)))
            obtain ⟨gd, hgd⟩ : ∃ gd, gd = goodM m := ⟨_, rfl⟩
            rw [← hgd] at HGD
            have HGG := Lib.hid hgd
            clear hgd
            go_wp2_with fail
            rw [← HW14.out]
            refine HGD.out.mono ?_
            rintro e w15 ⟨rfl, hk15⟩
            have HA15 := Lib.hid (HA14.out.keep hk15 (fun h => h))
            have K15 := Lib.hid (K14.out.trans hk15 (fun _ _ h => h))
            have HM15 := Lib.hid (HM14.out.quiet hk15)
            have HROW15 := Lib.hid (HROW.out.keep hk15 (fun h => h))
            clear hk15 v0 v1 v2 v3 v4 v5 z0 z1
            cases gd with
            | false =>
              have HV : Hid (beginsB bs = false) := Lib.hid (by rw [HBB.out, ← HGG.out])
              go_wp2_with (refine wpList_store_row (by rfl) 25 (.tmp 2) (.tmp 97) (by rfl) A mzC (by rfl) (by rfl) 25 _ HA15.out infoM rfl (one_ml _ _ _ _ _ _ _ _ _ _) ?_)
              (try simp only [Exit.inBlock, Exit.then])
              refine bodyPost_ret (ret_ml2 (fn := Tryz.f14) (p := 2) (u := 3) (v := 4) rfl _ _ A rfl ⟨HA15.out.setRow _, rfl⟩) rfl ?_
              exact begun_no HV.out (K15.out.setRow (fun h => by have := HA0.out; omega) _)
            | true =>
              have HV : Hid (beginsB bs = true) := Lib.hid (by rw [HBB.out, ← HGG.out])
              go_wp2_with (first
                | (refine wpList_load_row (by rfl) 25 (.tmp 8) (by rfl) B (by rfl) 25 (mlC m y L cy x13 n13 c13) (0, 0) _ HROW15.out Tryz.underlying25 rfl infoM ?_)
                | (refine wpList_store_row (by rfl) 25 (.tmp 2) (.tmp 98) (by rfl) A (mlC m y L cy x13 n13 c13) (by rfl) (by rfl) 25 _ HA15.out infoM rfl (one_ml _ _ _ _ _ _ _ _ _ _) ?_))
              (try simp only [Exit.inBlock, Exit.then])
              refine bodyPost_ret (ret_ml2 (fn := Tryz.f14) (p := 2) (u := 3) (v := 4) rfl _ _ A rfl ⟨HA15.out.setRow _, rfl⟩) rfl ?_
              have hA0 := HA0.out
              obtain ⟨c1, c2, c3, c4⟩ := HCC.out
              refine ⟨m, ni + 12, y, L, cy, x13, n13, c13, ?_, (HM15.out.keep ((Keep.refl (fun k => k = A) w15).setRow (fun _ => rfl) _) (fun b _ hb e => by omega)).mono (fun b _ hb => by omega), K15.out.setRow (fun h => by omega) _, ?_⟩
              · rw [HV.out]
                rfl
              · rw [HV.out, if_pos rfl]
                exact ⟨by rw [HM.out, HII.out], by rw [HNI.out, HII.out]⟩
      · have hd : decide ((k : Int) < (N : Int)) = false := decide_eq_false hlt
        have HRO : Hid (readOk I = (decide (N ≤ 8) && doneB (bytS (rdS k (q5 I))))) := Lib.hid (by
          have e : k = N := by omega
          rw [readOk, lastS, ← HNN.out, e])
        have HKN : Hid (N ≤ 8 → k = N) := Lib.hid (fun h => by omega)
        have hlt2 : ¬ (k < N) := by omega
        have hd2 : decide (k < N) = false := decide_eq_false hlt2
        go_wp2_with fail
        refine (R.out.byt (HQL.out k)).mono ?_
        rintro e w13 ⟨x13, n13, c13, hn13, _, rfl, hB13, hR13, hk13⟩
        obtain ⟨b5, b5f⟩ : w13.cell? ⟨B, 5, none⟩ = some (.slice none 0 0) ∧ w13.frozen? ⟨B, 5, none⟩ = false := ⟨hR13.row.cell 5, hR13.row.frozen 5⟩
        have T13 := T.out.keep hk13 (fun b hb e => by have := (T.out.lt b hb).1; have := HCC.out.2.2.1; omega)
        obtain ⟨y, cy, hv, hcy, _⟩ := T13.shape
        obtain ⟨L, hL⟩ : ∃ L, L = (rdL k (q5 I)).length := ⟨_, rfl⟩
        rw [← hL] at hv hcy
        subst hv
        obtain ⟨W14, hW14⟩ : ∃ W14, W14 = w13.setCell ⟨B, 5, none⟩ (.slice x13 n13 c13) := ⟨_, rfl⟩
        have k14 : Keep (fun k => k = B) w13 W14 := by rw [hW14]; exact (Keep.refl (fun k => k = B) w13).setCell (p := ⟨B, 5, none⟩) (fun _ => rfl) _
        obtain ⟨s13, hs13⟩ : ∃ s13, s13 = bytS (rdS k (q5 I)) := ⟨_, rfl⟩
        rw [← hs13] at hR13 HRO
        obtain ⟨m, hm⟩ : ∃ m : Ml, m = ⟨(i1 : Int), (i2 : Int), (i3 : Int), F, rdL k (q5 I), bytV (rdS k (q5 I))⟩ := ⟨_, rfl⟩
        have R14 : Hid (Rb w W14 A B q P s13 (mlC m y L cy x13 n13 c13)) := Lib.hid (by rw [hW14, hm]; exact hR13.put 5 (.slice x13 n13 c13))
        have T14 := T13.keep k14 (fun b hb e => by have := (T13.lt b hb).1; have := HCC.out.2.1; omega)
        have HM14 : Hid (MlIt (fun b => C ≤ b) W14 m y L x13 n13) := Lib.hid (by
          obtain ⟨y', cy', hv', _, hT'⟩ := T14.shape
          injection hv' with e1 e2 e3
          subst e1
          have hB14 := (hB13.mono (Q := fun b => C ≤ b) (fun b _ hb => Nat.le_trans HCR.out hb)).keep k14 (fun b _ hb e => by have := HCC.out.2.1; omega)
          rw [hm]
          exact ⟨hT', hB14, hL, hn13⟩)
        have HML : Hid (N ≤ 8 → m = readMl I) := Lib.hid (fun h8 => by
          rw [hm, readMl, ← HNN.out, ← HI1.out, ← HI2.out, ← HI3.out, ← HF.out, HKN.out h8])
        have HMS : Hid (m.frm.size ≤ 100000 ∧ ∀ t ∈ m.rcpts, t.size ≤ 100000) := Lib.hid (by rw [hm]; exact ⟨HFS.out, HRS.out k⟩)
        have HBG : Hid (beginsB bs = (readOk I && goodM (readMl I))) := Lib.hid (by rw [beginsB, HWT.out, ← HII.out]; rfl)
        have HA14 := Lib.hid R14.out.res
        have K14 := Lib.hid R14.out.kp
        have HW14 := Lib.hid hW14
        clear hW14 k14 hm hs13 hR13 hk13 hB13 hn13 T13 T14 hL hcy R T
        cases s13 with
        | none =>
          have HV : Hid (beginsB bs = false) := Lib.hid (by rw [HBG.out, HRO.out]; simp [doneB])
          obtain ⟨x', n', c', _, hAE⟩ := R14.out.ey
          obtain ⟨z0, z1⟩ : W14.cell? ⟨q, 0, none⟩ = some (.slice x' n' c') ∧ W14.cell? ⟨q, 1, none⟩ = some (.bool true) := ⟨hAE.cell 0, hAE.cell 1⟩
          rw [HW14.out] at z0 z1
          clear hAE
          go_wp2_with (rw [← HW14.out]; refine wpList_store_row (by rfl) 25 (.tmp 2) (.tmp 97) (by rfl) A mzC (by rfl) (by rfl) 25 _ HA14.out infoM rfl (one_ml _ _ _ _ _ _ _ _ _ _) ?_)
          (try simp only [Exit.inBlock, Exit.then])
          refine bodyPost_ret (ret_ml2 (fn := Tryz.f14) (p := 2) (u := 3) (v := 4) rfl _ _ A rfl ⟨HA14.out.setRow _, rfl⟩) rfl ?_
          exact begun_no HV.out (K14.out.setRow (fun h => by have := HA0.out; omega) _)
        | some r =>
          obtain ⟨xr, nr, cr, hnr, _, hAE, _⟩ := R14.out.ey
          obtain ⟨z0, z1⟩ : W14.cell? ⟨q, 0, none⟩ = some (.slice xr nr cr) ∧ W14.cell? ⟨q, 1, none⟩ = some (.bool false) := ⟨hAE.cell 0, hAE.cell 1⟩
          rw [HW14.out] at z0 z1
          have HNR := Lib.hid hnr
          clear hAE hnr
          by_cases hr0 : (0 : Int) < (nr : Int)
          · have HV : Hid (beginsB bs = false) := Lib.hid (by
              have : ¬ r = [] := fun e => by have := HNR.out; rw [e] at this; simp at this; omega
              rw [HBG.out, HRO.out]; simp [doneB, this])
            go_wp2_with (rw [← HW14.out]; refine wpList_store_row (by rfl) 25 (.tmp 2) (.tmp 97) (by rfl) A mzC (by rfl) (by rfl) 25 _ HA14.out infoM rfl (one_ml _ _ _ _ _ _ _ _ _ _) ?_)
            (try simp only [Exit.inBlock, Exit.then])
            refine bodyPost_ret (ret_ml2 (fn := Tryz.f14) (p := 2) (u := 3) (v := 4) rfl _ _ A rfl ⟨HA14.out.setRow _, rfl⟩) rfl ?_
            exact begun_no HV.out (K14.out.setRow (fun h => by have := HA0.out; omega) _)
          have HR0 : Hid (r = []) := Lib.hid (List.eq_nil_of_length_eq_zero (by have := HNR.out; omega))
          obtain rfl : nr = 0 := by omega
          clear hr0
          by_cases h8 : (8 : Int) < (N : Int)
          · have HV : Hid (beginsB bs = false) := Lib.hid (by
              rw [HBG.out, HRO.out, decide_eq_false (show ¬ N ≤ 8 by omega)]; rfl)
            go_wp2_with (rw [← HW14.out]; refine wpList_store_row (by rfl) 25 (.tmp 2) (.tmp 97) (by rfl) A mzC (by rfl) (by rfl) 25 _ HA14.out infoM rfl (one_ml _ _ _ _ _ _ _ _ _ _) ?_)
            (try simp only [Exit.inBlock, Exit.then])
            refine bodyPost_ret (ret_ml2 (fn := Tryz.f14) (p := 2) (u := 3) (v := 4) rfl _ _ A rfl ⟨HA14.out.setRow _, rfl⟩) rfl ?_
            exact begun_no HV.out (K14.out.setRow (fun h => by have := HA0.out; omega) _)
          have hd8 : decide ((8 : Int) < (N : Int)) = false := decide_eq_false h8
          have HM : Hid (m = readMl I) := Lib.hid (HML.out (by omega))
          have HBB : Hid (beginsB bs = goodM m) := Lib.hid (by rw [HBG.out, HRO.out, decide_eq_true (show N ≤ 8 by omega), HR0.out, HM.out]; simp [doneB])
          clear h8
          obtain ⟨v0, v1, v2, v3, v4, v5⟩ : W14.cell? ⟨B, 0, none⟩ = some (.int .i64 m.id) ∧ W14.cell? ⟨B, 1, none⟩ = some (.int .i64 m.parent) ∧ W14.cell? ⟨B, 2, none⟩ = some (.int .i64 m.born) ∧ W14.cell? ⟨B, 3, none⟩ = some (.string m.frm) ∧ W14.cell? ⟨B, 4, none⟩ = some (.slice y L cy) ∧ W14.cell? ⟨B, 5, none⟩ = some (.slice x13 n13 c13) := ⟨R14.out.row.cell 0, R14.out.row.cell 1, R14.out.row.cell 2, R14.out.row.cell 3, R14.out.row.cell 4, R14.out.row.cell 5⟩
          have HROW := Lib.hid R14.out.row
          rw [HW14.out] at v0 v1 v2 v3 v4 v5
          have HGD := Lib.hid (refGoodC (rc := cy) (bc := c13) HM14.out (Nat.le_trans HMS.out.1 (by decide)) (fun s hs => Nat.le_trans (HMS.out.2 s hs) (by decide)))
          obtain ⟨gd, hgd⟩ : ∃ gd, gd = goodM m := ⟨_, rfl⟩
          rw [← hgd] at HGD
          have HGG := Lib.hid hgd
          clear hgd
          go_wp2_with fail
          rw [← HW14.out]
          refine HGD.out.mono ?_
          rintro e w15 ⟨rfl, hk15⟩
          have HA15 := Lib.hid (HA14.out.keep hk15 (fun h => h))
          have K15 := Lib.hid (K14.out.trans hk15 (fun _ _ h => h))
          have HM15 := Lib.hid (HM14.out.quiet hk15)
          have HROW15 := Lib.hid (HROW.out.keep hk15 (fun h => h))
          clear hk15 v0 v1 v2 v3 v4 v5 z0 z1
          cases gd with
          | false =>
            have HV : Hid (beginsB bs = false) := Lib.hid (by rw [HBB.out, ← HGG.out])
            go_wp2_with (refine wpList_store_row (by rfl) 25 (.tmp 2) (.tmp 97) (by rfl) A mzC (by rfl) (by rfl) 25 _ HA15.out infoM rfl (one_ml _ _ _ _ _ _ _ _ _ _) ?_)
            (try simp only [Exit.inBlock, Exit.then])
            refine bodyPost_ret (ret_ml2 (fn := Tryz.f14) (p := 2) (u := 3) (v := 4) rfl _ _ A rfl ⟨HA15.out.setRow _, rfl⟩) rfl ?_
            exact begun_no HV.out (K15.out.setRow (fun h => by have := HA0.out; omega) _)
          | true =>
            have HV : Hid (beginsB bs = true) := Lib.hid (by rw [HBB.out, ← HGG.out])
            go_wp2_with (first
              | (refine wpList_load_row (by rfl) 25 (.tmp 8) (by rfl) B (by rfl) 25 (mlC m y L cy x13 n13 c13) (0, 0) _ HROW15.out Tryz.underlying25 rfl infoM ?_)
              | (refine wpList_store_row (by rfl) 25 (.tmp 2) (.tmp 98) (by rfl) A (mlC m y L cy x13 n13 c13) (by rfl) (by rfl) 25 _ HA15.out infoM rfl (one_ml _ _ _ _ _ _ _ _ _ _) ?_))
            (try simp only [Exit.inBlock, Exit.then])
            refine bodyPost_ret (ret_ml2 (fn := Tryz.f14) (p := 2) (u := 3) (v := 4) rfl _ _ A rfl ⟨HA15.out.setRow _, rfl⟩) rfl ?_
            have hA0 := HA0.out
            obtain ⟨c1, c2, c3, c4⟩ := HCC.out
            refine ⟨m, ni + 12, y, L, cy, x13, n13, c13, ?_, (HM15.out.keep ((Keep.refl (fun k => k = A) w15).setRow (fun _ => rfl) _) (fun b _ hb e => by omega)).mono (fun b _ hb => by omega), K15.out.setRow (fun h => by omega) _, ?_⟩
            · rw [HV.out]
              rfl
            · rw [HV.out, if_pos rfl]
              exact ⟨by rw [HM.out, HII.out], by rw [HNI.out, HII.out]⟩

end Go.Proofs.YtimoebicacnihaaGreatDoor.Ln
