/-
  Copies of texts and of bytes, as runs of append.
-/
import Derived.Test.YtcjljldknekhiaaGreatDoorRv
namespace Go.Proofs.YtcjljldknekhiaaGreatDoor.Ln
open Go.RowKit
set_option linter.unusedVariables false
set_option linter.unusedSimpArgs false

theorem wp_append_runT {o : Oper} {a : Act} {w w' : World} {K : Act → World → Prop} {Q : Exit → Act → World → Prop} {s t : Operand} {T : TypeId} {v u r : Value} (ho : o.op = .call { callee := .builtin .append, args := #[s, t], argTypes := #[T, T] }) (hs : a.eval s = v) (hx : a.eval t = u)
    (hr : (Builtin.append_ #[T, T] o.type #[v, u]).run Tryz.prog w = .ok r w') (hK : K (a.put o.dst r) w') : o.wp Tryz.prog a w K Q := by
  unfold Oper.wp execOp
  simp only [ho, resolve, invoke, builtin, Sem.run_bind, Sem.run_pure, Result.andThen_ok, List.map_toArray, List.map_cons, List.map_nil, hs, hx, hr]
  exact hK
theorem infoS : ∃ i z, Tryz.prog.info? 9 = some i ∧ i.zero = some z ∧ z.cells.size = i.size ∧ i.size = 1 ∧ i.bytes ≤ 1000 := by
  have h : (Tryz.prog.info? 9).map (fun i => (i.zero.map (·.cells.size), i.size, decide (i.bytes ≤ 1000))) = some (some 1, 1, true) := by kernel_rfl
  obtain ⟨i, hi, he⟩ := Option.map_eq_some_iff.1 h
  injection he with h1 h2
  injection h2 with h2 h3
  obtain ⟨z, hz, hs⟩ := Option.map_eq_some_iff.1 h1
  exact ⟨i, z, hi, hz, by rw [hs, h2], h2, of_decide_eq_true h3⟩
def strV (L : List ByteArray) : List Value := L.map fun t => .string t
theorem strV_length (L : List ByteArray) : (strV L).length = L.length := by simp [strV]
theorem strV_one (L : List ByteArray) : ∀ u ∈ strV L, u.oneCell' = true := fun u hu => by
  obtain ⟨t, _, rfl⟩ := List.mem_map.1 hu
  rfl
theorem TxtR.src {R : Nat → Prop} {w : World} {v : Value} {L : List ByteArray} (h : TxtR R w v L) : Src Tryz.prog 1 36 v L.length (strV L) w := by
  obtain ⟨x, cap, rfl, hc, h0⟩ := h
  rcases x with _ | ad
  · have hL : L = [] := by
      rcases h0 with h0 | ⟨b, off, _, hx, _⟩
      · exact h0
      · cases hx
    subst hL
    exact Src.ofNil w Tryz.underlying36 cap
  · refine Src.ofSlice w Tryz.underlying36 ad L.length cap (strV L) (by rw [strV_length, Nat.mul_one]) (fun j u hu => ?_) (strV_one L)
    have hj : j < L.length := by have := (List.getElem?_eq_some_iff.1 hu).1; rwa [strV_length] at this
    rcases h0 with h0 | ⟨b, off, _, hx, hcell⟩
    · subst h0; simp at hj
    · injection hx with hx
      subst hx
      rw [Addr.add_mid, hcell j hj, ← hu]
      simp [strV, hj]
theorem MidG.txt {w : World} {v : Value} {q : Option Nat} {n : Nat} {L : List ByteArray} (hn : n = L.length) (h : MidG 9 1 w v q n (strV L)) : TxtR (fun b => q = some b) w v L := by
  subst hn
  have hc := fun {x : Option Addr} {l c : Nat} (e : v = .slice x l c) => MidG.cell (e := 9) (size := 1) (w := w) (q := q) (n := L.length) (xs := strV L) (x := x) (L := l) (C := c) (e ▸ h)
  obtain ⟨x, cap, hv, hcap⟩ := h.shape
  refine ⟨x, cap, hv, hcap, ?_⟩
  by_cases h0 : L = []
  · exact .inl h0
  · have hpos : 0 < L.length := List.length_pos_iff.2 h0
    obtain ⟨g, off, hx, hq, _⟩ := hc hv 0 (by rw [strV_length]; exact hpos)
    refine .inr ⟨g, off, hq, hx, fun i hi => ?_⟩
    obtain ⟨g', off', hx', _, hcell⟩ := hc hv i (by rw [strV_length]; exact hi)
    rw [hx] at hx'
    injection hx' with hx'
    injection hx' with e1 e2
    subst e1 e2
    rw [hcell]
    simp [strV, hi]
/-- A copy of texts. -/
theorem app_txt {R : Nat → Prop} {w : World} {v : Value} {L : List ByteArray} (h : TxtR R w v L) (x : Option Addr) (ty : TypeId) (hl : L.length ≤ 1000000) :
    ∃ y k cap q w', (Builtin.append_ #[36, 36] ty #[.slice x 0 0, v]).run Tryz.prog w = .ok (.slice y k cap) w' ∧ MidG 9 1 w' (.slice y k cap) q L.length (strV L) ∧ Keep (fun _ => False) w w' ∧ New w none q := by
  obtain ⟨i0, z, hi, hz, hzs, h1, hby⟩ := infoS
  have hM : MidG 9 i0.size w (.slice x 0 0) none 0 [] := MidG.empty _ _ _ _
  have hsrc : Src Tryz.prog i0.size 36 v L.length (strV L) w := by rw [h1]; exact h.src
  obtain ⟨y, k, cap, q', w', hr, h2, h3, h4⟩ := run_append_midG (t := 36) ty Tryz.underlying36 hi hz hzs (by rw [h1]; decide) hby w _ none 0 [] hM v L.length (strV L) hsrc (by omega)
  rw [h1] at h2
  refine ⟨y, k, cap, q', w', hr, by simpa using h2, h3.mono (fun _ _ e => by cases e), h4⟩
theorem one_str (t : ByteArray) : ∀ u ∈ [Value.string t], u.oneCell' = true := fun u hu => by
  have : u = Value.string t := by simpa using hu
  subst this
  rfl
/-- One text more. -/
theorem app_one {w : World} {v : Value} {q : Option Nat} {n : Nat} {xs : List Value} (hM0 : MidG 9 1 w v q n xs) (ad : Addr) (t : ByteArray) (ht : w.cell? ad = some (.string t)) (ty : TypeId) (hl : n ≤ 1000000) :
    ∃ y k cap q' w', (Builtin.append_ #[36, 36] ty #[v, .slice (some ad) 1 1]).run Tryz.prog w = .ok (.slice y k cap) w' ∧ MidG 9 1 w' (.slice y k cap) q' (n + 1) (xs ++ [.string t]) ∧ Keep (fun k => q = some k) w w' ∧ New w q q' := by
  obtain ⟨i0, z, hi, hz, hzs, h1, hby⟩ := infoS
  have hM : MidG 9 i0.size w v q n xs := by rw [h1]; exact hM0
  have hsrc : Src Tryz.prog i0.size 36 (.slice (some ad) 1 1) 1 [.string t] w := by
    rw [h1]
    refine Src.ofSlice w Tryz.underlying36 ad 1 1 [.string t] rfl (fun j u hu => ?_) (one_str t)
    have hj : j = 0 := by have := (List.getElem?_eq_some_iff.1 hu).1; simpa using this
    subst hj
    have : u = .string t := by simpa using hu.symm
    subst this
    have e : ad.add 0 = ad := by simp [Addr.add]
    rw [e]
    exact ht
  obtain ⟨y, k, cap, q', w', hr, h2, h3, h4⟩ := run_append_midG (t := 36) ty Tryz.underlying36 hi hz hzs (by rw [h1]; decide) hby w _ q n xs hM _ 1 [.string t] hsrc (by omega)
  rw [h1] at h2
  exact ⟨y, k, cap, q', w', hr, h2, h3, h4⟩
/-- A copy of bytes. -/
theorem app_bytes {R : Nat → Prop} {w : World} {v : Value} {bs : List Nat} (h : ByV R w v bs) (x : Option Addr) (ty : TypeId) (hl : bs.length ≤ 1000000) :
    ∃ y k cap q w', (Builtin.append_ #[34, 34] ty #[.slice x 0 0, v]).run Tryz.prog w = .ok (.slice y k cap) w' ∧ Mid w' (.slice y k cap) q bs ∧ Keep (fun _ => False) w w' ∧ New w none q := by
  obtain ⟨y0, c0, rfl, hc, hB⟩ := h
  obtain ⟨y, n, cap, q', w', hr, h2, h3, h4⟩ := run_append_mid ty w (.slice x 0 0) none [] (Mid.empty _ _) R y0 bs.length c0 bs rfl hB (by simp; omega)
  exact ⟨y, n, cap, q', w', hr, by simpa using h2, h3.mono (fun _ _ e => by cases e), h4⟩
theorem Mid.byv {w : World} {v : Value} {q : Option Nat} {bs : List Nat} (h : Mid w v q bs) : ByV (fun b => q = some b) w v bs := by
  obtain ⟨x, cap, hv, hc, _, hB⟩ := h.shape
  exact ⟨x, cap, hv, hc, hB⟩
/-- The recipients' row is a new one. -/
theorem RSat.rcpt {F : Nat → Prop} {w X : World} {g : Nat} {s : Se} {wv ov rv bv v : Value} {qo qb q : Option Nat} {xs : List Value} {L : List ByteArray} (h : RSat F w g s wv ov rv bv qo qb xs) (k : Keep (fun _ => False) w X) {n : Nat} (hn : n = L.length) (hM : MidG 9 1 X v q n (strV L)) (hq : ∀ b, q = some b → w.heap.size ≤ b) :
    X.cell? ⟨g, 6, none⟩ = some rv ∧ X.frozen? ⟨g, 6, none⟩ = false ∧ ∃ F', RSat F' (X.setCell ⟨g, 6, none⟩ v) g { s with rcpts := L } wv ov v bv qo qb xs ∧ Keep F w (X.setCell ⟨g, 6, none⟩ v) ∧ More F F' w := by
  have k0 : Keep (fun k => qb = some k) w X := k.mono (fun _ _ e => e.elim)
  obtain ⟨hc, hf, F', h1, h2, h3⟩ := h.turn k0 (s' := { s with rcpts := L }) (i := 6) (u := v) (wv' := wv) (rv' := v) (bv' := bv) (qb' := qb) (by rfl) rfl (h.body.keep k (fun _ _ h => h)) (New.refl _ _) (R1 := fun b => Rd F g qo qb b ∨ q = some b) (fun b hb => by
      rcases hb with hb | hb
      · exact ⟨.inl hb, hb.2.2.2⟩
      · exact ⟨.inr ⟨hq b hb, hM.lt b hb⟩, fun e => by have := hq b hb; have := h.flt b (h.fb b e); omega⟩)
    (h.wait.keep k (fun b _ hR => ⟨fun h => h, .inl hR⟩)) ((hM.txt hn).keep (Keep.refl (fun _ => False) X) (fun b _ hR => ⟨fun h => h, .inr hR⟩))
  exact ⟨hc 6, hf, F', h1, h2, h3⟩
end Go.Proofs.YtcjljldknekhiaaGreatDoor.Ln
