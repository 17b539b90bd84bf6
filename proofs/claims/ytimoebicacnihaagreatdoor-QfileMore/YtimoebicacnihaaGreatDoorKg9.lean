/-
  Several texts in one: HZ HBase.
-/
import Derived.Test.YtimoebicacnihaaGreatDoorKg4
import Derived.Test.YtimoebicacnihaaGreatDoorKg8
import Derived.Test.YtimoebicacnihaaGreatDoorKE4
import Derived.Test.YtimoebicacnihaaGreatDoorKF2
import Derived.Test.YtimoebicacnihaaGreatDoorKF3
import Derived.Test.YtimoebicacnihaaGreatDoorKg5
import Derived.Test.YtimoebicacnihaaGreatDoorKMg
import Derived.BigQuiet
import Derived.IntWalk
import Derived.Laws.ResultCell

section
/-
  What mark's texts take of the layers below: env's texts have it.
-/
end

section
/-
  Rows of structs (of any number of cells): marks and fates in memory.
-/
namespace Go.Proofs.YtimoebicacnihaaGreatDoor.Ln
open Go.RowKit
set_option linter.unusedVariables false
set_option linter.unusedSimpArgs false

/-! ### Structs in a row -/
section
variable {α : Type} {sz : Nat} {cells : α → List Value}
def StP (sz : Nat) (cells : α → List Value) (P : Nat → Prop) (w : World) (x : Option Addr) (L : List α) : Prop :=
  ∀ (i : Nat) (k : α), L[i]? = some k → ∃ b off, P b ∧ b < w.heap.size ∧ x = some ⟨b, off, none⟩ ∧ ∀ j, j < sz → w.cell? ⟨b, off + i * sz + j, none⟩ = (cells k)[j]?
theorem StP.keep {P S : Nat → Prop} {w w' : World} {x : Option Addr} {L : List α} (h : StP sz cells P w x L) (hsz : ∀ k, (cells k).length = sz) (k : Keep S w w') (hs : ∀ b, b < w.heap.size → P b → ¬ S b) : StP sz cells P w' x L := fun i t ht => by
  obtain ⟨b, off, h1, h2, h3, h4⟩ := h i t ht
  refine ⟨b, off, h1, Nat.lt_of_lt_of_le h2 k.size, h3, fun j hj => ?_⟩
  have h5 := h4 j hj
  rw [List.getElem?_eq_getElem (by rw [hsz]; exact hj)] at h5 ⊢
  exact k.cell h5 (hs b h2 h1)
theorem StP.mono {P Q : Nat → Prop} {w : World} {x : Option Addr} {L : List α} (h : StP sz cells P w x L) (hq : ∀ b, b < w.heap.size → P b → Q b) : StP sz cells Q w x L := fun i t ht => by
  obtain ⟨b, off, h1, h2, h3, h4⟩ := h i t ht
  exact ⟨b, off, hq b h2 h1, h2, h3, h4⟩
theorem StP.nil (P : Nat → Prop) (w : World) (x : Option Addr) : StP sz cells P w x [] := fun i t ht => by cases ht
theorem StP.take {P : Nat → Prop} {w : World} {x : Option Addr} {L : List α} (h : StP sz cells P w x L) (n : Nat) : StP sz cells P w x (L.take n) := fun i t ht => by
  refine h i t ?_
  rw [List.getElem?_take] at ht
  split at ht
  · exact ht
  · cases ht
def cellsG (cells : α → List Value) (L : List α) : List Value := (L.map cells).flatten
theorem cellsG_length (hsz : ∀ k, (cells k).length = sz) : ∀ L : List α, (cellsG cells L).length = L.length * sz
  | [] => by simp [cellsG]
  | k :: L => by
    have := cellsG_length hsz L
    simp only [cellsG, List.map_cons, List.flatten_cons, List.length_append, List.length_cons] at this ⊢
    rw [this, hsz, Nat.add_mul]
    omega
theorem cellsG_append (A B : List α) : cellsG cells (A ++ B) = cellsG cells A ++ cellsG cells B := by simp [cellsG]
theorem cellsG_at (hsz : ∀ k, (cells k).length = sz) : ∀ (L : List α) (i : Nat) (k : α), L[i]? = some k → ∀ j, j < sz → (cellsG cells L)[i * sz + j]? = (cells k)[j]?
  | [], i, k, h => by cases h
  | t :: L, 0, k, h => fun j hj => by
    have e : t = k := by simpa using h
    subst e
    rw [Nat.zero_mul, Nat.zero_add]
    show (cells t ++ cellsG cells L)[j]? = _
    rw [List.getElem?_append_left (by rw [hsz]; exact hj)]
  | t :: L, i + 1, k, h => fun j hj => by
    have h' : L[i]? = some k := by simpa using h
    show (cells t ++ cellsG cells L)[(i + 1) * sz + j]? = _
    rw [List.getElem?_append_right (by rw [hsz, Nat.add_mul]; omega), hsz, show (i + 1) * sz + j - sz = i * sz + j by rw [Nat.add_mul]; omega]
    exact cellsG_at hsz L i k h' j hj
theorem StP.flat {P : Nat → Prop} {w : World} {b off : Nat} {L : List α} (hsz : ∀ k, (cells k).length = sz) (h : StP sz cells P w (some ⟨b, off, none⟩) L) : ∀ (j : Nat) (u : Value), (cellsG cells L)[j]? = some u → w.cell? ⟨b, off + j, none⟩ = some u := by
  intro j u hj
  have hjl : j < L.length * sz := by rw [← cellsG_length hsz]; exact (List.getElem?_eq_some_iff.1 hj).1
  have h0 : 0 < sz := Nat.pos_of_ne_zero (fun e => by subst e; simp at hjl)
  have hi : j / sz < L.length := (Nat.div_lt_iff_lt_mul h0).2 hjl
  obtain ⟨b', off', _, _, hx, hc⟩ := h (j / sz) L[j / sz] (List.getElem?_eq_getElem hi)
  cases hx
  have hm := Nat.mod_lt j h0
  have e : j / sz * sz + j % sz = j := Nat.div_add_mod' j sz
  have h1 := hc (j % sz) hm
  rw [Nat.add_assoc, e] at h1
  rw [h1, ← cellsG_at hsz L (j / sz) L[j / sz] (List.getElem?_eq_getElem hi) (j % sz) hm, e, hj]
theorem StP.src {P : Nat → Prop} {w : World} {x : Option Addr} {n c : Nat} {L : List α} (hsz : ∀ k, (cells k).length = sz) (hone : ∀ k, ∀ u ∈ cells k, u.oneCell' = true) {t e : TypeId} (ht : Tryz.prog.underlying t = some (.slice e)) (h : StP sz cells P w x L) (hn : n = L.length) : Src Tryz.prog sz t (.slice x n c) n (cellsG cells L) w := by
  subst hn
  have hone' : ∀ u ∈ cellsG cells L, u.oneCell' = true := fun u hu => by
    obtain ⟨l, hl, hu⟩ := List.mem_flatten.1 hu
    obtain ⟨k, _, rfl⟩ := List.mem_map.1 hl
    exact hone k u hu
  rcases x with _ | ad
  · have : L = [] := by
      rcases L with _ | ⟨t, L⟩
      · rfl
      · obtain ⟨b, off, _, _, hx, _⟩ := h 0 t rfl
        cases hx
    subst this
    exact Src.ofNil w ht c
  · by_cases h0 : L = []
    · subst h0
      exact Src.ofSlice w ht ad 0 c [] (by simp) (fun j u hj => by simp at hj) (by simp)
    · obtain ⟨k, hk⟩ : ∃ k, L[0]? = some k := by
        rcases L with _ | ⟨t, L⟩
        · exact absurd rfl h0
        · exact ⟨t, rfl⟩
      obtain ⟨b, off, _, _, hx, _⟩ := h 0 k hk
      cases hx
      refine Src.ofSlice w ht _ L.length c (cellsG cells L) (cellsG_length hsz L) (fun j u hj => ?_) hone'
      rw [Addr.add_mid]
      exact h.flat hsz j u hj

/-! ### A row of one's own -/
def StO (e : TypeId) (sz : Nat) (cells : α → List Value) (w : World) (v : Value) (q : Option Nat) (L : List α) : Prop := MidG e sz w v q L.length (cellsG cells L)
theorem StO.empty (e : TypeId) (sz : Nat) (cells : α → List Value) (w : World) (x : Option Addr) : StO e sz cells w (.slice x 0 0) none [] := MidG.empty e sz w x
theorem StO.row {e : TypeId} {w : World} {v : Value} {q : Option Nat} {L : List α} (hsz : ∀ k, (cells k).length = sz) (h : StO e sz cells w v q L) : ∃ x c, v = .slice x L.length c ∧ L.length ≤ c ∧ StP sz cells (fun b => q = some b) w x L := by
  obtain ⟨x, c, rfl, hc⟩ := h.shape
  refine ⟨x, c, rfl, hc, fun i k hk => ?_⟩
  have hi : i < L.length := (List.getElem?_eq_some_iff.1 hk).1
  have hl := cellsG_length hsz L
  have hm : i * sz + sz ≤ L.length * sz := by rw [← Nat.succ_mul]; exact Nat.mul_le_mul_right _ hi
  by_cases h0 : sz = 0
  · subst h0
    have hb : ∃ b off, q = some b ∧ b < w.heap.size ∧ x = some ⟨b, off, none⟩ ∨ c = 0 := by
      obtain ⟨_, _, x', c', hv, _, ⟨h0, _⟩ | ⟨g, off, cur, hx, hq, hA, _⟩⟩ := h
      · cases hv; exact ⟨0, 0, .inr h0⟩
      · cases hv; exact ⟨g, off, .inl ⟨hq, hA.lt, hx⟩⟩
    obtain ⟨b, off, ⟨h1, h2, h3⟩ | h1⟩ := hb
    · exact ⟨b, off, h1, h2, h3, fun j hj => by omega⟩
    · omega
  · obtain ⟨g, off, hx, hq, _⟩ := h.cell (i * sz) (by omega)
    refine ⟨g, off, hq, h.lt g hq, hx, fun j hj => ?_⟩
    obtain ⟨g', off', hx', _, hcell⟩ := h.cell (i * sz + j) (by omega)
    rw [hx] at hx'
    cases hx'
    rw [Nat.add_assoc, hcell, cellsG_at hsz L i k hk j hj]

/-! ### A row that is written into -/
def StR (e : TypeId) (sz : Nat) (cells : α → List Value) (w : World) (g : Nat) (L : List α) : Prop :=
  ∃ cur : Array Value, At w g e cur ∧ cur.size = L.length * sz ∧ ∀ (i : Nat) (k : α), L[i]? = some k → ∀ j, j < sz → cur[i * sz + j]? = (cells k)[j]?
theorem StR.lt {e : TypeId} {w : World} {g : Nat} {L : List α} (h : StR e sz cells w g L) : g < w.heap.size := by
  obtain ⟨cur, h1, _⟩ := h
  exact h1.lt
theorem StR.keep {e : TypeId} {S : Nat → Prop} {w w' : World} {g : Nat} {L : List α} (h : StR e sz cells w g L) (k : Keep S w w') (hs : ¬ S g) : StR e sz cells w' g L := by
  obtain ⟨cur, h1, h2⟩ := h
  exact ⟨cur, h1.keep k hs, h2⟩
theorem StR.row {e : TypeId} {w : World} {g : Nat} {L : List α} (h : StR e sz cells w g L) : StP sz cells (fun b => b = g) w (some ⟨g, 0, none⟩) L := fun i k hk => by
  obtain ⟨cur, h1, h2, h3⟩ := h
  exact ⟨g, 0, rfl, h1.lt, rfl, fun j hj => by rw [h1.cell, Nat.zero_add]; exact h3 i k hk j hj⟩
theorem StR.frozen {e : TypeId} {w : World} {g : Nat} {L : List α} (h : StR e sz cells w g L) (i : Nat) : w.frozen? ⟨g, i, none⟩ = false := by
  obtain ⟨cur, h1, _⟩ := h
  exact h1.frozen i
theorem StR.put {e : TypeId} {w : World} {g : Nat} {L : List α} (hsz : ∀ k, (cells k).length = sz) (h : StR e sz cells w g L) (i : Nat) (hi : i < L.length) (k : α) : StR e sz cells (w.setCells g (i * sz) (cells k)) g (L.set i k) := by
  obtain ⟨cur, h1, h2, h3⟩ := h
  obtain ⟨cur', h1', h2'⟩ := h1.setCells (cells k) (i * sz)
  have hm : i * sz + sz ≤ L.length * sz := by rw [← Nat.succ_mul]; exact Nat.mul_le_mul_right _ hi
  refine ⟨cur', h1', by rw [h2', h2, List.length_set], fun i' k' hk' j hj => ?_⟩
  have hi' : i' < L.length := by have := (List.getElem?_eq_some_iff.1 hk').1; simpa using this
  rw [← h1'.cell]
  by_cases e' : i' = i
  · subst e'
    have e2 : k' = k := by simpa [hi] using hk'.symm
    subst e2
    have := World.cell?_setCells_in g (cells k') (i' * sz) w (fun j' hj' => by
      rw [hsz] at hj'
      rw [h1.cell, Array.getElem?_eq_getElem (by omega)]
      rfl) j (by rw [hsz]; exact hj)
    rw [this, List.getElem?_eq_getElem (by rw [hsz]; exact hj)]
  · rw [List.getElem?_set_ne (fun e => e' e.symm)] at hk'
    have hm' : i' * sz + sz ≤ L.length * sz := by rw [← Nat.succ_mul]; exact Nat.mul_le_mul_right _ hi'
    rw [World.cell?_setCells_out _ _ _ _ _ (fun _ _ => ?_), h1.cell, h3 i' k' hk' j hj]
    rw [hsz]
    rcases Nat.lt_or_gt_of_ne e' with h | h
    · have : i' * sz + sz ≤ i * sz := by rw [← Nat.succ_mul]; exact Nat.mul_le_mul_right _ h
      left; show i' * sz + j < _; omega
    · have : i * sz + sz ≤ i' * sz := by rw [← Nat.succ_mul]; exact Nat.mul_le_mul_right _ h
      right; show _ ≤ i' * sz + j; omega
end

/-! ### Marks, fates -/
def mkL (k : Mk) : List Value := [.int .i64 k.kind, .int .i64 k.rcpt, .int .i64 k.n]
def ftL (f : Ft) : List Value := [.int .i64 f.st, .int .i64 f.tries, .int .i64 f.next, .int .i64 f.crashes, .bool f.op]
theorem mkL_len (k : Mk) : (mkL k).length = 3 := rfl
theorem ftL_len (f : Ft) : (ftL f).length = 5 := rfl
theorem mkL_one (k : Mk) : ∀ u ∈ mkL k, u.oneCell' = true := by simp [mkL, Value.oneCell']
theorem ftL_one (f : Ft) : ∀ u ∈ ftL f, u.oneCell' = true := by simp [ftL, Value.oneCell']
def mkC (k : Mk) : Array Value := #[.int .i64 k.kind, .int .i64 k.rcpt, .int .i64 k.n]
def ftC (f : Ft) : Array Value := #[.int .i64 f.st, .int .i64 f.tries, .int .i64 f.next, .int .i64 f.crashes, .bool f.op]
abbrev MkP := StP 3 mkL
abbrev FtP := StP 5 ftL
abbrev MkO := StO 57 3 mkL
abbrev FtR := StR 46 5 ftL
section
variable {P : Nat → Prop} {w w' : World} {x : Option Addr} {L : List Mk} {F : List Ft}
theorem mk_at (h : MkP P w x L) (i : Nat) (hi : i < L.length) : ∃ b off, P b ∧ b < w.heap.size ∧ x = some ⟨b, off, none⟩ ∧ w.cell? ⟨b, off + i * 3, none⟩ = some (.int .i64 L[i].kind) ∧ w.cell? ⟨b, off + i * 3 + 1, none⟩ = some (.int .i64 L[i].rcpt) ∧ w.cell? ⟨b, off + i * 3 + 2, none⟩ = some (.int .i64 L[i].n) := by
  obtain ⟨b, off, h1, h2, h3, h4⟩ := h i L[i] (List.getElem?_eq_getElem hi)
  exact ⟨b, off, h1, h2, h3, h4 0 (by decide), h4 1 (by decide), h4 2 (by decide)⟩
theorem ft_at (h : FtP P w x F) (i : Nat) (hi : i < F.length) : ∃ b off, P b ∧ b < w.heap.size ∧ x = some ⟨b, off, none⟩ ∧ w.cell? ⟨b, off + i * 5, none⟩ = some (.int .i64 F[i].st) ∧ w.cell? ⟨b, off + i * 5 + 1, none⟩ = some (.int .i64 F[i].tries) ∧ w.cell? ⟨b, off + i * 5 + 2, none⟩ = some (.int .i64 F[i].next) ∧ w.cell? ⟨b, off + i * 5 + 3, none⟩ = some (.int .i64 F[i].crashes) ∧ w.cell? ⟨b, off + i * 5 + 4, none⟩ = some (.bool F[i].op) := by
  obtain ⟨b, off, h1, h2, h3, h4⟩ := h i F[i] (List.getElem?_eq_getElem hi)
  exact ⟨b, off, h1, h2, h3, h4 0 (by decide), h4 1 (by decide), h4 2 (by decide), h4 3 (by decide), h4 4 (by decide)⟩
theorem mk_keep {S : Nat → Prop} (h : MkP P w x L) (k : Keep S w w') (hs : ∀ b, b < w.heap.size → P b → ¬ S b) : MkP P w' x L := StP.keep h mkL_len k hs
theorem mk_quiet (h : MkP P w x L) (k : Keep (fun _ => False) w w') : MkP P w' x L := StP.keep h mkL_len k (fun _ _ _ h => h)
theorem ft_keep {S : Nat → Prop} (h : FtP P w x F) (k : Keep S w w') (hs : ∀ b, b < w.heap.size → P b → ¬ S b) : FtP P w' x F := StP.keep h ftL_len k hs
theorem ft_quiet (h : FtP P w x F) (k : Keep (fun _ => False) w w') : FtP P w' x F := StP.keep h ftL_len k (fun _ _ _ h => h)
end
theorem infoK : (Tryz.prog.info? 57).map (fun i => (i.zero, i.size, i.bytes)) = some (some (.agg #[.int .i64 0, .int .i64 0, .int .i64 0]), 3, 24) := by kernel_rfl
theorem infoF : (Tryz.prog.info? 46).map (fun i => (i.zero, i.size, i.bytes)) = some (some (.agg #[.int .i64 0, .int .i64 0, .int .i64 0, .int .i64 0, .bool false]), 5, 40) := by kernel_rfl
/-- An append of one mark, or of a row of marks, to a row of one's own. -/
theorem app_mk {P : Nat → Prop} {w : World} {v : Value} {q : Option Nat} {L : List Mk} (h : MkO w v q L) {x : Option Addr} {n c : Nat} {M : List Mk} (hn : n = M.length) (hM : MkP P w x M) (ty : TypeId) (hl : L.length + n ≤ 1000000) :
    ∃ y k cap q' w', (Builtin.append_ #[26, 26] ty #[v, .slice x n c]).run Tryz.prog w = .ok (.slice y k cap) w' ∧ k = (L ++ M).length ∧ MkO w' (.slice y k cap) q' (L ++ M) ∧ Keep (fun k => q = some k) w w' ∧ New w q q' := by
  obtain ⟨i0, hi, hz0, hz1, hz2⟩ := info_parts infoK
  have hsrc : Src Tryz.prog i0.size 26 (.slice x n c) n (cellsG mkL M) w := by rw [hz1]; exact StP.src mkL_len mkL_one Tryz.underlying26 hM hn
  have hM' : MidG 57 i0.size w v q L.length (cellsG mkL L) := by rw [hz1]; exact h
  obtain ⟨y, k, cap, q', w', hr, h2, h3, h4⟩ := run_append_midG (t := 26) ty Tryz.underlying26 hi hz0 (by rw [hz1]; rfl) (by rw [hz1]; decide) (by rw [hz2]; decide) w v q L.length (cellsG mkL L) hM' _ n (cellsG mkL M) hsrc (by omega)
  rw [hz1, hn, ← cellsG_append, ← List.length_append] at h2
  obtain ⟨_, _, hv, _⟩ := h2.shape
  injection hv with e1 e2 e3
  exact ⟨y, k, cap, q', w', hr, e2, h2, h3, h4⟩
theorem wpList_app_mk {P : Nat → Prop} {w : World} {ops : Array Oper} {rest : List Oper} {o : Oper} {a : Act} {Q : Exit → Act → World → Prop} (hgd : o.guard = none) (s t : Operand)
    (ho : o.op = .call { callee := .builtin .append, args := #[s, t], argTypes := #[26, 26] })
    (v : Value) (hs : a.eval s = v) (q : Option Nat) (L : List Mk) (h : MkO w v q L) (x : Option Addr) (n c : Nat) (hx : a.eval t = .slice x n c) (M : List Mk) (hn : n = M.length) (hM : MkP P w x M) (hl : L.length + n ≤ 1000000)
    (hK : ∀ y k cap q' w', Hid (k = (L ++ M).length) → MkO w' (.slice y k cap) q' (L ++ M) → Keep (fun k => q = some k) w w' → New w q q' → wpList Tryz.prog ops Q rest (a.put o.dst (.slice y k cap)) w') :
    wpList Tryz.prog ops Q (o :: rest) a w := by
  refine wpList_plain hgd fun K hK' => ?_
  obtain ⟨y, k, cap, q', w', hr, h1, h2, h3, h4⟩ := app_mk (c := c) h hn hM o.type hl
  exact wp_append_runB ho hs hx hr (hK' _ _ (hK y k cap q' w' (Lib.hid h1) h2 h3 h4))
theorem mk_one (w : World) (k : Mk) : MkP (fun b => b = w.heap.size) (w.alloc (.cells #[.int .i64 k.kind, .int .i64 k.rcpt, .int .i64 k.n] 57)) (some ⟨w.heap.size, 0, none⟩) [k] := fun i t ht => by
  have hA := At.new w 57 (mkC k)
  rcases i with _ | i
  · have : t = k := by simpa using ht.symm
    subst this
    refine ⟨w.heap.size, 0, rfl, hA.lt, rfl, fun j hj => ?_⟩
    rw [show (0 : Nat) + 0 * 3 + j = j by omega]
    refine (hA.cell j).trans ?_
    show (mkL t).toArray[j]? = _
    simp
  · simp at ht
end Go.Proofs.YtimoebicacnihaaGreatDoor.Ln
end
