/-
  A slice into a row of any elements that the call itself made: what it holds, an append to it of whatever yields cells, what is left of it.
-/
import Derived.Test.YtimoebicacnihaaGreatDoorKg1
namespace Go.Proofs.YtimoebicacnihaaGreatDoor.Ln
open Go.RowKit
set_option linter.unusedVariables false

/-- v is a slice of n elements of that type, whose cells are xs: with no room at all (q is none), or somewhere in the row of block q, which may be written, with its room. -/
def MidG (e : TypeId) (size : Nat) (w : World) (v : Value) (q : Option Nat) (n : Nat) (xs : List Value) : Prop :=
  xs.length = n * size ∧ (∀ u ∈ xs, u.oneCell' = true) ∧ ∃ x cap, v = .slice x n cap ∧ n ≤ cap ∧
    ((cap = 0 ∧ q = none) ∨ ∃ g off cur, x = some ⟨g, off, none⟩ ∧ q = some g ∧ At w g e cur ∧ off + cap * size ≤ cur.size ∧
      ∀ i, i < xs.length → cur[off + i]? = xs[i]?)
section
variable {e : TypeId} {size : Nat} {w w' : World} {v : Value} {q : Option Nat} {n : Nat} {xs : List Value}
theorem MidG.empty (e : TypeId) (size : Nat) (w : World) (x : Option Addr) : MidG e size w (.slice x 0 0) none 0 [] := ⟨by simp, by simp, x, 0, rfl, Nat.le_refl _, .inl ⟨rfl, rfl⟩⟩
theorem MidG.lt (h : MidG e size w v q n xs) : ∀ k, q = some k → k < w.heap.size := by
  rintro k rfl
  obtain ⟨_, _, x, cap, _, _, ⟨_, h0⟩ | ⟨g, off, cur, _, hq, hA, _⟩⟩ := h
  · cases h0
  · cases hq; exact hA.lt
theorem MidG.keep {S : Nat → Prop} (h : MidG e size w v q n xs) (k : Keep S w w') (hs : ∀ b, q = some b → ¬ S b) : MidG e size w' v q n xs := by
  obtain ⟨hb, h1, x, cap, hv, hc, h0 | ⟨g, off, cur, hx, hq, hA, h2, h3⟩⟩ := h
  · exact ⟨hb, h1, x, cap, hv, hc, .inl h0⟩
  · exact ⟨hb, h1, x, cap, hv, hc, .inr ⟨g, off, cur, hx, hq, hA.keep k (hs g hq), h2, h3⟩⟩
theorem MidG.ne {g : Nat} {t : TypeId} {cs : Array Value} (h : MidG e size w v q n xs) (hg : At w g t cs) (ht : t ≠ e) : q ≠ some g := by
  rintro rfl
  obtain ⟨_, _, x, cap, _, _, ⟨_, h0⟩ | ⟨g', off, cur, _, hq, hA, _⟩⟩ := h
  · cases h0
  · cases hq; exact At.ne hg hA ht rfl
theorem MidG.shape (h : MidG e size w v q n xs) : ∃ x cap, v = .slice x n cap ∧ n ≤ cap := by
  obtain ⟨_, _, x, cap, hv, hc, _⟩ := h
  exact ⟨x, cap, hv, hc⟩
theorem MidG.cell {x : Option Addr} {L C : Nat} (h : MidG e size w (.slice x L C) q n xs) (i : Nat) (hi : i < xs.length) : ∃ g off, x = some ⟨g, off, none⟩ ∧ q = some g ∧ w.cell? ⟨g, off + i, none⟩ = xs[i]? := by
  obtain ⟨hb, _, x', cap, hv, hc, ⟨h0, _⟩ | ⟨g, off, cur, hx, hq, hA, h2, h3⟩⟩ := h
  · injection hv with e1 e2 e3
    have : n = 0 := by omega
    rw [hb, this] at hi
    simp at hi
  · injection hv with e1 e2 e3
    subst e1
    exact ⟨g, off, hx, hq, by rw [hA.cell, h3 i hi]⟩
/-- What is left behind m elements. -/
theorem MidG.drop {x : Option Addr} {L C : Nat} (h : MidG e size w (.slice x L C) q n xs) (m : Nat) (hm : m ≤ L) (hsz : 0 < size) :
    ∃ q', MidG e size w (.slice (if C = m then x else x.map (fun a => a.add (m * size))) (L - m) (C - m)) q' (n - m) (xs.drop (m * size)) ∧ (q' = q ∨ q' = none) := by
  obtain ⟨hb, h1, x', cap, hv, hc, h0⟩ := h
  injection hv with e1 e2 e3
  subst e1 e3
  have hl : (xs.drop (m * size)).length = (n - m) * size := by rw [List.length_drop, hb, Nat.sub_mul]
  have ho : ∀ u ∈ xs.drop (m * size), u.oneCell' = true := fun u hu => h1 u (List.mem_of_mem_drop hu)
  by_cases hC : C = m
  · exact ⟨none, ⟨hl, ho, _, _, by rw [e2], by omega, .inl ⟨by omega, rfl⟩⟩, .inr rfl⟩
  · rcases h0 with ⟨h0, _⟩ | ⟨g, off, cur, hx, hq, hA, h2, h3⟩
    · omega
    · refine ⟨q, ⟨hl, ho, _, _, by rw [e2], by omega, .inr ⟨g, off + m * size, cur, ?_, hq, hA, ?_, fun i hi => ?_⟩⟩, .inl rfl⟩
      · rw [if_neg hC, hx]
        simp [Addr.add_mid]
      · have : (C - m) * size + m * size = C * size := by rw [← Nat.add_mul]; congr 1; omega
        omega
      · have hi' : m * size + i < xs.length := by rw [List.length_drop] at hi; omega
        rw [Nat.add_assoc, h3 _ hi', List.getElem?_drop]
end

set_option maxRecDepth 100000 in
/-- An append to such a slice, of whatever yields cells. -/
theorem run_append_midG {e t tx : TypeId} {i0 : TypeInfo} {z : Value} (ty : TypeId) (ht : Tryz.prog.underlying t = some (.slice e)) (hi : Tryz.prog.info? e = some i0) (hz0 : i0.zero = some z) (hzs : z.cells.size = i0.size) (hsz : 0 < i0.size) (hby : i0.bytes ≤ 1000)
    (w : World) (v : Value) (q : Option Nat) (n : Nat) (xs : List Value) (hM : MidG e i0.size w v q n xs) (x : Value) (m : Nat) (news : List Value) (hsrc : Src Tryz.prog i0.size tx x m news w) (hl : n + m ≤ 1000000000) :
    ∃ y k cap q' w', (Builtin.append_ #[t, tx] ty #[v, x]).run Tryz.prog w = .ok (.slice y k cap) w' ∧ MidG e i0.size w' (.slice y k cap) q' (n + m) (xs ++ news) ∧ Keep (fun k => q = some k) w w' ∧ New w q q' := by
  have hall : ∀ u ∈ xs ++ news, u.oneCell' = true := fun u hu => by
    rcases List.mem_append.1 hu with h | h
    · exact hM.2.1 u h
    · exact hsrc.one u h
  have hlen : (xs ++ news).length = (n + m) * i0.size := by rw [List.length_append, hM.1, hsrc.newsLen, Nat.add_mul]
  by_cases hm0 : m = 0
  · subst hm0
    have hn0 : news = [] := List.eq_nil_of_length_eq_zero (by rw [hsrc.newsLen]; simp)
    subst hn0
    obtain ⟨y, cap, rfl, hc⟩ := hM.shape
    exact ⟨y, n, cap, q, w, run_append_nothing w t tx ty e i0 ht hi y n cap hc _ hsrc, by simpa using hM, Keep.refl _ _, New.refl _ _⟩
  · obtain ⟨hb, h1, y, cap, rfl, hcap, h0⟩ := hM
    by_cases hroom : n + m ≤ cap
    · rcases h0 with ⟨h0, _⟩ | ⟨g, off, cur, hx, hq, hA, hs, hcur⟩
      · omega
      · subst hx
        have hmul : n * i0.size + m * i0.size ≤ cap * i0.size := by rw [← Nat.add_mul]; exact Nat.mul_le_mul_right _ hroom
        have hcell : ∀ j, j < news.length → (w.cell? ⟨g, off + n * i0.size + j, none⟩).isSome = true := fun j hj => by
          rw [hsrc.newsLen] at hj
          rw [hA.cell, Array.getElem?_eq_getElem (by omega)]
          rfl
        have hr := run_append_room_src w t tx ty e i0 ht hi g off n cap x m news hsrc hroom hcell (fun j _ => hA.frozen _)
        obtain ⟨cs', hA', hsz'⟩ := hA.setCells news (off + n * i0.size)
        refine ⟨_, _, _, q, _, hr, ⟨hlen, hall, _, _, rfl, hroom, .inr ⟨g, off, cs', rfl, hq, hA', by omega, fun i hi => ?_⟩⟩, Keep.setCells (fun _ => hq) _ _ (Keep.refl _ _), New.refl _ _⟩
        rw [← hA'.cell]
        by_cases hlt : i < xs.length
        · rw [World.cell?_setCells_out _ _ _ _ _ (fun _ _ => .inl (by simp; omega)), hA.cell, hcur i hlt, List.getElem?_append_left hlt]
        · obtain ⟨j, rfl⟩ : ∃ j, i = xs.length + j := ⟨i - xs.length, by omega⟩
          have hj : j < news.length := by rw [List.length_append] at hi; omega
          rw [hb, ← Nat.add_assoc, World.cell?_setCells_in _ _ _ _ hcell j hj, ← hb, List.getElem?_append_right (by omega), Nat.add_sub_cancel_left, List.getElem?_eq_getElem hj]
    · have hold : (Builtin.firstCells i0.size n (.slice y n cap)).run Tryz.prog w.drew = .ok xs.toArray w.drew := by
        rcases h0 with ⟨h0, _⟩ | ⟨g, off, cur, hx, hq, hA, hs, hcur⟩
        · have hn : n = 0 := by omega
          subst hn
          have hx0 : xs = [] := List.eq_nil_of_length_eq_zero (by rw [hb]; simp)
          subst hx0
          rcases y with _ | ad
          · exact run_firstCells_none w.drew _ 0 0 cap
          · exact run_firstCells_some w.drew _ 0 ad 0 cap [] (by simp) (by simp)
        · subst hx
          refine run_firstCells_some w.drew _ n _ n cap xs hb (fun j u hu => ?_)
          have hj : j < xs.length := (List.getElem?_eq_some_iff.1 hu).1
          rw [Addr.add_mid]
          show w.cell? _ = _
          rw [hA.cell, hcur j hj, hu]
      have hr := run_append_grow_src w t tx ty e i0 z ht hi hz0 y n cap xs hold x m news hsrc (by omega) (by omega) (growslice_fits (by omega) (by
        have : (n + m) * i0.bytes ≤ 1000000000 * 1000 := Nat.mul_le_mul hl hby
        omega))
      refine ⟨_, _, _, some w.heap.size, _, hr, ⟨hlen, hall, _, _, rfl, grownCap_ge _ _ _ _, .inr ⟨w.heap.size, 0, _, rfl, rfl, At.new w.drew e _, ?_, fun i hi => ?_⟩⟩, (Keep.refl _ w).drew.alloc _, fun k hk => .inr (by cases hk; exact Nat.le_refl _)⟩
      · have hge := grownCap_ge w (n + m) cap e
        simp only [Array.size_append, List.size_toArray, hlen, size_zeroCells, hzs]
        have : (grownCap w (n + m) cap e - (n + m)) * i0.size + (n + m) * i0.size = grownCap w (n + m) cap e * i0.size := by rw [← Nat.add_mul]; congr 1; omega
        omega
      · rw [Nat.zero_add, Array.getElem?_append_left (by simpa using hi)]
        simp
end Go.Proofs.YtimoebicacnihaaGreatDoor.Ln
