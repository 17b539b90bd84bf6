/-
  Several texts in one: Er F4 Eh Ei E5 F6.
-/
import Derived.Test.YtimoebicacnihaaGreatDoorKg1
import Derived.Test.YtimoebicacnihaaGreatDoorKEBase
import Derived.Test.YtimoebicacnihaaGreatDoorKg6
import Derived.Deep.Slices
import Derived.Deep.Fields
import Derived.SizedLaws
import Derived.Test.YtimoebicacnihaaGreatDoorKF3
import Derived.Test.YtimoebicacnihaaGreatDoorKMg
import Derived.Test.YtimoebicacnihaaGreatDoorKE4

section
/-
  Arguments opened: a slice of bytes, a slice of texts, a mail; the first world.
-/
namespace Go.Proofs.YtimoebicacnihaaGreatDoor.Ln
open Go.RowKit Go.ChangeShapes Go.WideShapes Go.Deep
set_option linter.unusedVariables false
set_option linter.unusedSimpArgs false

/-- The slice that begins at a has these texts. -/
def Strs (W : World) (a : Option Addr) (L : List ByteArray) : Prop :=
  ∀ (i : Nat) (t : ByteArray), L[i]? = some t → ∃ b off, b < W.heap.size ∧ a = some ⟨b, off, none⟩ ∧ W.cell? ⟨b, off + i, none⟩ = some (.string t)

section
variable {H : Type} {enc : TypeId × Value → H} {W : World}
theorem arg_bytes {fuel : Nat} {v : Value} {x : DataW H × List MemPlace} (h : DataW.trod enc Tryz.prog W 0 (fun _ => true) true fuel 23 [v] = some x) :
    ∃ a bs cap, v = .slice a bs.length cap ∧ bs.length ≤ cap ∧ cap ≤ 9223372036854775807 ∧ Bytes (fun k => k < W.heap.size) W a bs := by
  rcases open_ints Tryz.underlying23 Tryz.underlying5 (by kernel_rfl) h with ⟨hcs, _⟩ | ⟨ad, l, c, zs, hcs, _, hl, hm, hz, hx, hcell, hwz⟩
  · injection hcs with hcs _
    subst hcs
    exact ⟨none, [], 0, rfl, Nat.le_refl _, by omega, Bytes.nil _ _ _⟩
  · injection hcs with hcs _
    subst hcs
    have hz' : zs.length = c := by simpa using hz
    obtain ⟨bs, h1, h2, h3, h4⟩ := bytes_of (w := W) (a := some ad) (len := l) (cap := c) (zs := zs) (.inr ⟨ad, rfl, hl, hm, hz', hcell, hwz⟩)
    subst h1
    exact ⟨some ad, bs, c, rfl, h2, h3, h4⟩
theorem arg_strs {fuel : Nat} {v : Value} {x : DataW H × List MemPlace} (h : DataW.trod enc Tryz.prog W 0 (fun _ => true) true fuel 22 [v] = some x) :
    ∃ a L cap, v = .slice a L.length cap ∧ L.length ≤ cap ∧ cap ≤ 9223372036854775807 ∧ Strs W a L ∧ ∀ s ∈ L, s.size ≤ 9223372036854775807 := by
  rcases Go.ChangeShapes.open_strings Tryz.underlying22 Tryz.underlying9 (by kernel_rfl) h with ⟨hcs, _⟩ | ⟨ad, l, c, ss, hcs, _, hl, hm, hlen, _, hcell, hsz⟩
  · injection hcs with hcs _
    subst hcs
    exact ⟨none, [], 0, rfl, Nat.le_refl _, by omega, fun i t h => by simp at h, fun s h => by simp at h⟩
  · injection hcs with hcs _
    subst hcs
    have hlen' : ss.length = c := by simpa using hlen
    have hls : (ss.take l).length = l := by rw [List.length_take]; omega
    refine ⟨some ad, ss.take l, c, by rw [hls], by omega, hm, fun i t hi => ?_, fun s hs => by simpa only [maxLen] using hsz s (List.mem_of_mem_take hs)⟩
    have hi0 : i < (ss.take l).length := (List.getElem?_eq_some_iff.1 hi).1
    have hi' : i < ss.length := by rw [List.length_take] at hi0; omega
    have hc := hcell i hi'
    have hsp : ad.spot = none := by
      simpa [Addr.add] using World.cell?_spot (hcell 0 (by omega))
    obtain ⟨b, off, spot⟩ := ad
    subst hsp
    rw [show (⟨b, off, none⟩ : Addr).add i = ⟨b, off + i, none⟩ by unfold Addr.add; split <;> simp_all] at hc
    refine ⟨b, off, ?_, rfl, ?_⟩
    · exact World.block_lt_of_cell? W ⟨b, off + i, none⟩ hc
    · rw [hc]
      have : t = ss[i] := by
        rw [List.getElem?_eq_getElem hi0] at hi
        injection hi with hi
        rw [← hi, List.getElem_take]
      simp [hi', this]

theorem strs_tx {a : Option Addr} {L : List ByteArray} (h : Strs W a L) : TxP (fun k => k < W.heap.size) W a L := fun i t hi => by
  obtain ⟨b, off, h1, h2, h3⟩ := h i t hi
  exact ⟨b, off, h1, h1, h2, h3⟩
set_option maxRecDepth 100000 in
theorem arg_mail {fuel : Nat} {cs : Array Value} {x : DataW H × List MemPlace} (h : DataW.trod enc Tryz.prog W 0 (fun _ => true) true fuel 25 cs.toList = some x) :
    ∃ m rx rc bx bc, cs = mlC m rx m.rcpts.length rc bx m.body.length bc ∧ MlAt (fun k => k < W.heap.size) W m rx m.rcpts.length rc bx m.body.length bc ∧ m.frm.size ≤ 9223372036854775807 ∧ ∀ s ∈ m.rcpts, s.size ≤ 9223372036854775807 := by
  have o3 : Tryz.prog.cellsOf 3 = 1 := by kernel_rfl
  have o9 : Tryz.prog.cellsOf 9 = 1 := by kernel_rfl
  have ob : Tryz.prog.cellsOf 23 = 1 := by kernel_rfl
  have os : Tryz.prog.cellsOf 22 = 1 := by kernel_rfl
  have hC : Tryz.prog.cellsOf 25 = 6 := by kernel_rfl
  obtain ⟨ys, k, _, _, hlen, hyl, hf⟩ := DataW.trod_struct Tryz.underlying25 h
  rw [hC] at hlen
  obtain ⟨cs⟩ := cs
  simp only [] at hf hlen
  match cs, hlen with
  | [v0, v1, v2, v3, v4, v5], _ =>
    have f0 := hf 0 _ rfl
    have f1 := hf 1 _ rfl
    have f2 := hf 2 _ rfl
    have f3 := hf 3 _ rfl
    have f4 := hf 4 _ rfl
    have f5 := hf 5 _ rfl
    simp [o3, o9, ob, os] at f0 f1 f2 f3 f4 f5
    have hg : ∀ i, i < 6 → ∃ y, ys[i]? = some y := fun i hi => ⟨ys[i]'(by rw [hyl]; exact hi), List.getElem?_eq_getElem _⟩
    obtain ⟨y0, h0⟩ := hg 0 (by decide)
    obtain ⟨y1, h1⟩ := hg 1 (by decide)
    obtain ⟨y2, h2⟩ := hg 2 (by decide)
    obtain ⟨y3, h3⟩ := hg 3 (by decide)
    obtain ⟨y4, h4⟩ := hg 4 (by decide)
    obtain ⟨y5, h5⟩ := hg 5 (by decide)
    rw [h0] at f0
    rw [h1] at f1
    rw [h2] at f2
    rw [h3] at f3
    rw [h4] at f4
    rw [h5] at f5
    obtain ⟨z0, e0, _, _⟩ := DataW.trod_int Tryz.underlying3 f0
    obtain ⟨z1, e1, _, _⟩ := DataW.trod_int Tryz.underlying3 f1
    obtain ⟨z2, e2, _, _⟩ := DataW.trod_int Tryz.underlying3 f2
    obtain ⟨s3, e3, _, z3⟩ := DataW.trod_string Tryz.underlying9 f3
    obtain ⟨a4, L4, c4, e4, l4, _, B4, z4⟩ := arg_strs f4
    obtain ⟨a5, L5, c5, e5, l5, _, B5⟩ := arg_bytes f5
    injection e0 with e0 _
    injection e1 with e1 _
    injection e2 with e2 _
    injection e3 with e3 _
    subst e0 e1 e2 e3 e4 e5
    exact ⟨⟨z0, z1, z2, s3, L4, L5⟩, a4, c4, a5, c5, rfl, ⟨strs_tx B4, B5, rfl, rfl, l4, l5⟩, by simpa only [maxLen] using z3, z4⟩
end
theorem env9 (W : World) (shape : W.ShapedOpen Tryz.prog) : Env W := Ad.maxLen_some W shape
end Go.Proofs.YtimoebicacnihaaGreatDoor.Ln
end

section
/-
  What the document's own Own, and the laws' own one and light return.
-/
namespace Go.Proofs.YtimoebicacnihaaGreatDoor.Ln
open Go.RowKit
set_option linter.unusedVariables false
set_option linter.unusedSimpArgs false

/-! ### Rows that are laid anew -/
theorem TxP.src {P : Nat → Prop} {w : World} {x : Option Addr} {n c : Nat} {L : List ByteArray} (h : TxP P w x L) (hn : n = L.length) : Src Tryz.prog 1 22 (.slice x n c) n (L.map Value.string) w := by
  subst hn
  have hone : ∀ u ∈ L.map Value.string, u.oneCell' = true := fun u hu => by
    obtain ⟨t, _, rfl⟩ := List.mem_map.1 hu
    rfl
  rcases x with _ | ad
  · have : L = [] := by
      rcases L with _ | ⟨t, L⟩
      · rfl
      · obtain ⟨b, off, _, _, hx, _⟩ := h 0 t rfl
        cases hx
    subst this
    exact Src.ofNil w Tryz.underlying22 c
  · refine Src.ofSlice w Tryz.underlying22 ad L.length c (L.map Value.string) (by simp) (fun j u hj => ?_) hone
    rw [List.getElem?_map] at hj
    cases ht : L[j]? with
    | none => rw [ht] at hj; cases hj
    | some t =>
      rw [ht] at hj
      have hu : u = Value.string t := (Option.some.inj hj).symm
      obtain ⟨b, off, _, _, hx, hc⟩ := h j t ht
      injection hx with hx
      subst hx
      rw [Addr.add_mid, hu]
      exact hc
theorem info9m : ∃ (i0 : TypeInfo) (z : Value), Tryz.prog.info? 9 = some i0 ∧ i0.zero = some z ∧ z.cells.size = i0.size ∧ i0.size = 1 ∧ i0.bytes ≤ 1000 := by
  obtain ⟨i0, hi, hz0, hz1, hz2⟩ := info_parts info9t
  exact ⟨i0, _, hi, hz0, by rw [hz1]; rfl, hz1, by rw [hz2]; decide⟩
theorem app_txts {P : Nat → Prop} {w : World} {x : Option Addr} {n c : Nat} {L : List ByteArray} (hn : n = L.length) (h : TxP P w x L) (ad : Option Addr) (ty : TypeId) (hl : n ≤ 1000000) :
    ∃ y cap w', (Builtin.append_ #[22, 22] ty #[.slice ad 0 0, .slice x n c]).run Tryz.prog w = .ok (.slice y n cap) w' ∧ n ≤ cap ∧ TxP (fun b => w.heap.size ≤ b) w' y L ∧ Keep (fun _ => False) w w' := by
  obtain ⟨i0, z, hi, hz, hzs, h1, hby⟩ := info9m
  have hM : MidG 9 i0.size w (.slice ad 0 0) none 0 [] := MidG.empty _ _ _ _
  have hsrc : Src Tryz.prog i0.size 22 (.slice x n c) n (L.map Value.string) w := by rw [h1]; exact h.src hn
  obtain ⟨y, k, cap, q', w', hr, h2, h3, h4⟩ := run_append_midG (t := 22) ty Tryz.underlying22 hi hz hzs (by rw [h1]; decide) hby w _ none 0 [] hM _ n (L.map Value.string) hsrc (by omega)
  rw [h1] at h2
  rw [Nat.zero_add, List.nil_append] at h2
  obtain ⟨y', cap', hv, hc⟩ := h2.shape
  injection hv with e1 e2 e3
  subst e1 e2 e3
  refine ⟨y, cap, w', hr, hc, fun i t ht => ?_, h3.mono (fun _ _ e => by cases e)⟩
  have hi' : i < (L.map Value.string).length := by rw [List.length_map]; exact (List.getElem?_eq_some_iff.1 ht).1
  obtain ⟨g, off, hx, hq, hcell⟩ := h2.cell i hi'
  refine ⟨g, off, ?_, ?_, hx, ?_⟩
  · rcases h4 g hq with h | h
    · cases h
    · exact h
  · exact h2.lt g hq
  · rw [hcell, List.getElem?_map, ht]
    rfl
theorem app_byts {P : Nat → Prop} {w : World} {x : Option Addr} {n c : Nat} {B : List Nat} (hn : n = B.length) (h : Bytes P w x B) (ad : Option Addr) (ty : TypeId) (hl : n ≤ 1000000) :
    ∃ y cap w', (Builtin.append_ #[23, 23] ty #[.slice ad 0 0, .slice x n c]).run Tryz.prog w = .ok (.slice y n cap) w' ∧ n ≤ cap ∧ Bytes (fun b => w.heap.size ≤ b) w' y B ∧ Keep (fun _ => False) w w' := by
  obtain ⟨y, k, cap, q', w', hr, h2, h3, h4⟩ := run_append_mid ty w (.slice ad 0 0) none [] (Mid.empty _ _) P x n c B hn.symm h (by simp; omega)
  rw [List.nil_append] at h2
  have hk : k = n := by rw [h2.len, hn]
  subst hk
  refine ⟨y, cap, w', hr, h2.cap_le, h2.bytes.mono (fun b _ hb => ?_), h3.mono (fun _ _ e => by cases e)⟩
  rcases h4 b hb with h | h
  · cases h
  · exact h
theorem wpList_app_txts {w : World} {ops : Array Oper} {rest : List Oper} {o : Oper} {a : Act} {Q : Exit → Act → World → Prop} (hgd : o.guard = none) (s t : Operand)
    (ho : o.op = .call { callee := .builtin .append, args := #[s, t], argTypes := #[22, 22] }) (ad : Option Addr) (hs : a.eval s = .slice ad 0 0)
    {P : Nat → Prop} (x : Option Addr) (n c : Nat) (L : List ByteArray) (hx : a.eval t = .slice x n c) (hn : n = L.length) (h : TxP P w x L) (hl : n ≤ 1000000)
    (hK : ∀ y cap w', n ≤ cap → TxP (fun b => w.heap.size ≤ b) w' y L → Keep (fun _ => False) w w' → wpList Tryz.prog ops Q rest (a.put o.dst (.slice y n cap)) w') :
    wpList Tryz.prog ops Q (o :: rest) a w := by
  refine wpList_plain hgd fun K hK' => ?_
  obtain ⟨y, cap, w', hr, h1, h2, h3⟩ := app_txts (c := c) hn h ad o.type hl
  exact wp_append_runB ho hs hx hr (hK' _ _ (hK y cap w' h1 h2 h3))
theorem wpList_app_byts {w : World} {ops : Array Oper} {rest : List Oper} {o : Oper} {a : Act} {Q : Exit → Act → World → Prop} (hgd : o.guard = none) (s t : Operand)
    (ho : o.op = .call { callee := .builtin .append, args := #[s, t], argTypes := #[23, 23] }) (ad : Option Addr) (hs : a.eval s = .slice ad 0 0)
    {P : Nat → Prop} (x : Option Addr) (n c : Nat) (B : List Nat) (hx : a.eval t = .slice x n c) (hn : n = B.length) (h : Bytes P w x B) (hl : n ≤ 1000000)
    (hK : ∀ y cap w', n ≤ cap → Bytes (fun b => w.heap.size ≤ b) w' y B → Keep (fun _ => False) w w' → wpList Tryz.prog ops Q rest (a.put o.dst (.slice y n cap)) w') :
    wpList Tryz.prog ops Q (o :: rest) a w := by
  refine wpList_plain hgd fun K hK' => ?_
  obtain ⟨y, cap, w', hr, h1, h2, h3⟩ := app_byts (c := c) hn h ad o.type hl
  exact wp_append_runB ho hs hx hr (hK' _ _ (hK y cap w' h1 h2 h3))

/-! ### Own -/
theorem ret_ml1 {fn : Func} {p : Tmp} (h : fn.results = #[.cell p 25]) (tmps : Array Value) (w : World) (g : Nat) {cs : Array Value} (hp : tmps.getD p undef = .pointer (some ⟨g, 0, none⟩)) (hg : At w g 25 cs ∧ cs.size = 6) :
    (results fn tmps).run Tryz.prog w = .ok (.agg cs) w := results_cell_row h tmps w g 25 cs (0, 0) _ hp hg.1 Tryz.underlying25 rfl (by rw [hg.2]; exact infoM)
/-- A mail that shares nothing with what was there. -/
def Owned (m : Ml) (w : World) (e : Ending) (w' : World) : Prop := ∃ rx rn rc bx bn bc, e = .returned (.agg (mlC m rx rn rc bx bn bc)) ∧ MlAt (fun b => w.heap.size ≤ b) w' m rx rn rc bx bn bc ∧ Keep (fun _ => False) w w'
/-! ### light -/
def lightB (m : Ml) : Bool := decide (m.rcpts.length ≤ 50) && (m.rcpts.all (fun s => decide (s.size ≤ 200)) && (decide (m.frm.size ≤ 200) && decide (m.body.length ≤ 9000)))
/-! ### one -/
def m1 : Ml := ⟨1, 0, 0, { data := #[] }, [{ data := #[97, 64, 98] }], [120, 10]⟩
theorem m1_good : goodM m1 = true := by kernel_rfl
theorem bytes_mark2 (w : World) (bs : List Nat) (hb : ∀ c ∈ bs, c < 256) (fr : Nat × Nat) : Bytes (fun b => b = w.heap.size) (w.alloc (.cells (cellsOf bs).toArray 5 fr)) (some ⟨w.heap.size, 0, none⟩) bs := by
  refine ⟨hb, .inr ⟨w.heap.size, 0, rfl, rfl, fun i hi => ?_⟩⟩
  rw [cell_of_row _ _ (0 + i) _ _ fr (heap_alloc_new _ _), Nat.zero_add, ← cellsOf_at bs i hi]
  simp
end Go.Proofs.YtimoebicacnihaaGreatDoor.Ln
end

section
/-
  What the laws' own walks ask again and again.
-/
namespace Go.Proofs.YtimoebicacnihaaGreatDoor.Ln
open Go.RowKit
set_option linter.unusedVariables false
set_option linter.unusedSimpArgs false

theorem begins_good {bs : List Nat} (h : beginsB bs = true) : goodM (readMl (innerM bs)) = true := by
  simp only [beginsB, Bool.and_eq_true] at h
  exact h.2.2
theorem good_rn {m : Ml} (h : goodM m = true) : m.rcpts.length ≤ 100 := by
  have := (goodM_fine h).n
  omega
theorem begun_rn {bs : List Nat} {m : Ml} {n rn : Nat} (hif : if beginsB bs = true then m = readMl (innerM bs) ∧ n = (innerM bs).length + 12 else m = noMl ∧ n = 0) (hr : rn = m.rcpts.length) : rn ≤ 1000000 := by
  cases h : beginsB bs with
  | false =>
    rw [h] at hif
    obtain ⟨rfl, _⟩ := hif
    subst hr
    decide
  | true =>
    rw [h, if_pos rfl] at hif
    have := good_rn (begins_good h)
    rw [← hif.1] at this
    omega
theorem begun_eq {bs : List Nat} {m m' : Ml} {n n' : Nat} (h : if beginsB bs = true then m = readMl (innerM bs) ∧ n = (innerM bs).length + 12 else m = noMl ∧ n = 0) (h' : if beginsB bs = true then m' = readMl (innerM bs) ∧ n' = (innerM bs).length + 12 else m' = noMl ∧ n' = 0) : m' = m ∧ n' = n := by
  split at h
  · rename_i hb
    rw [if_pos hb] at h'
    exact ⟨h'.1.trans h.1.symm, h'.2.trans h.2.symm⟩
  · rename_i hb
    rw [if_neg hb] at h'
    exact ⟨h'.1.trans h.1.symm, h'.2.trans h.2.symm⟩
/-- The six cells of a mail. -/
def Cells (w : World) (A : Nat) (m : Ml) (rx : Option Addr) (rn rc : Nat) (bx : Option Addr) (bn bc : Nat) : Prop :=
  w.cell? ⟨A, 0, none⟩ = some (.int .i64 m.id) ∧ w.cell? ⟨A, 1, none⟩ = some (.int .i64 m.parent) ∧ w.cell? ⟨A, 2, none⟩ = some (.int .i64 m.born) ∧ w.cell? ⟨A, 3, none⟩ = some (.string m.frm) ∧ w.cell? ⟨A, 4, none⟩ = some (.slice rx rn rc) ∧ w.cell? ⟨A, 5, none⟩ = some (.slice bx bn bc)
theorem cells_of {w : World} {A : Nat} {m : Ml} {rx bx : Option Addr} {rn rc bn bc : Nat} (h : At w A 25 (mlC m rx rn rc bx bn bc)) : Cells w A m rx rn rc bx bn bc := ⟨h.cell 0, h.cell 1, h.cell 2, h.cell 3, h.cell 4, h.cell 5⟩
/-- A mail put into a variable just made. -/
theorem put_mail (w : World) (m : Ml) (rx : Option Addr) (rn rc : Nat) (bx : Option Addr) (bn bc : Nat) :
    ∃ W, W = (w.alloc (.cells #[.int .i64 0, .int .i64 0, .int .i64 0, .string { data := #[] }, .slice none 0 0, .slice none 0 0] 25)).setRow w.heap.size (mlC m rx rn rc bx bn bc) ∧ Keep (fun _ => False) w W ∧ At W w.heap.size 25 (mlC m rx rn rc bx bn bc) ∧ w.heap.size < W.heap.size := by
  refine ⟨_, rfl, (keep_new w _).setRow (fun h => absurd h (Nat.lt_irrefl _)) _, (mz_new w).setRow _, ?_⟩
  have h := (Keep.setRow (g := w.heap.size) (Keep.refl (fun _ => True) (w.alloc (.cells #[.int .i64 0, .int .i64 0, .int .i64 0, .string { data := #[] }, .slice none 0 0, .slice none 0 0] 25))) (fun _ => trivial) (mlC m rx rn rc bx bn bc)).size
  have h2 : (w.alloc (.cells #[.int .i64 0, .int .i64 0, .int .i64 0, .string { data := #[] }, .slice none 0 0, .slice none 0 0] 25)).heap.size = w.heap.size + 1 := by simp
  omega
end Go.Proofs.YtimoebicacnihaaGreatDoor.Ln
end

section
/-
  A row of bytes that one holds alone: bytes put into it.
-/
namespace Go.Proofs.YtimoebicacnihaaGreatDoor.Ln
open Go.RowKit
set_option linter.unusedVariables false
set_option linter.unusedSimpArgs false

/-- The row of block g begins with these bytes. -/
def RowB (w : World) (g : Nat) (bs : List Nat) : Prop := ∃ cur : Array Value, At w g 5 cur ∧ ∀ i, i < bs.length → cur[i]? = some (.int .u8 ((bs.getD i 0 : Nat) : Int))
theorem Own.rowB {w : World} {x : Option Addr} {n cap : Nat} {bs : List Nat} (h : Own w (.slice x n cap) bs) (h0 : 0 < bs.length) : ∃ g, x = some ⟨g, 0, none⟩ ∧ (Value.slice x n cap).ownBlock = some g ∧ n = bs.length ∧ n ≤ cap ∧ RowB w g bs := by
  rcases h.1.2 with ⟨hv, h1⟩ | ⟨g, cap', cur, hv, _, hg, hnc, hm, hs, ht⟩
  · omega
  · injection hv with e1 e2 e3
    subst e1 e2 e3
    refine ⟨g, rfl, rfl, rfl, hnc, cur, hg, fun i hi => ?_⟩
    rw [← cellsOf_at bs i hi, ← ht, Nat.mul_one, List.getElem?_take, if_pos hi, Array.getElem?_toList]
theorem RowB.cell {w : World} {g : Nat} {bs : List Nat} (h : RowB w g bs) {i : Nat} (hi : i < bs.length) : w.cell? ⟨g, i, none⟩ = some (.int .u8 ((bs.getD i 0 : Nat) : Int)) ∧ w.frozen? ⟨g, i, none⟩ = false ∧ g < w.heap.size := by
  obtain ⟨cur, h1, h2⟩ := h
  exact ⟨(h1.cell i).trans (h2 i hi), h1.frozen i, h1.lt⟩
theorem RowB.put {w : World} {g : Nat} {bs : List Nat} (h : RowB w g bs) (i : Nat) (hi : i < bs.length) (c : Nat) : RowB (w.setCell ⟨g, i, none⟩ (.int .u8 (c : Int))) g (bs.set i c) := by
  obtain ⟨cur, h1, h2⟩ := h
  refine ⟨_, h1.put i _, fun j hj => ?_⟩
  rw [List.length_set] at hj
  have hic : i < cur.size := by
    have := h2 i hi
    exact (Array.getElem?_eq_some_iff.1 this).1
  rw [Array.getElem?_setIfInBounds]
  by_cases hij : i = j
  · subst hij
    simp [hic, List.getD_eq_getElem?_getD, hi]
  · rw [if_neg hij, h2 j hj, List.getD_eq_getElem?_getD, List.getD_eq_getElem?_getD, List.getElem?_set_ne hij]
theorem RowB.keep {S : Nat → Prop} {w w' : World} {g : Nat} {bs : List Nat} (h : RowB w g bs) (k : Keep S w w') (hs : ¬ S g) : RowB w' g bs := by
  obtain ⟨cur, h1, h2⟩ := h
  exact ⟨cur, h1.keep k hs, h2⟩
theorem RowB.bytes {w : World} {g : Nat} {bs : List Nat} (h : RowB w g bs) (hb : ∀ c ∈ bs, c < 256) : Bytes (fun b => b = g) w (some ⟨g, 0, none⟩) bs := by
  refine ⟨hb, .inr ⟨g, 0, rfl, rfl, fun i hi => ?_⟩⟩
  rw [Nat.zero_add]
  exact (h.cell hi).1
theorem light_parts {m : Ml} (h : lightB m = true) : m.frm.size ≤ 100000 ∧ (∀ s ∈ m.rcpts, s.size ≤ 100000) ∧ m.rcpts.length ≤ 50 ∧ m.body.length ≤ 9000 := by
  simp only [lightB, Bool.and_eq_true, decide_eq_true_eq, List.all_eq_true] at h
  exact ⟨by omega, fun s hs => by have := h.2.1 s hs; omega, h.1, h.2.2.2⟩
theorem record_pos (m : Ml) : 0 < (record m).length := by rw [record_length]; omega
theorem record_small {m : Ml} (h : Fine m) : (record m).length ≤ 10000 := by rw [record_length]; have := content_small h; omega
theorem begun_no_m {bs : List Nat} {m : Ml} {n : Nat} (hb : beginsB bs = false) (h : if beginsB bs = true then m = readMl (innerM bs) ∧ n = (innerM bs).length + 12 else m = noMl ∧ n = 0) : m = noMl ∧ n = 0 := by
  rw [hb] at h
  exact h
/-- A row of one's own, made empty. -/
theorem gr_none (w : World) : Gr w (w.alloc (.cells #[] 5)) (.slice (some ⟨w.heap.size, 0, none⟩) 0 0) [] :=
  ⟨Own.made w [] (by simp) (by decide), fun b hb => by simp [Value.ownBlock] at hb; omega, keep_new w _⟩
end Go.Proofs.YtimoebicacnihaaGreatDoor.Ln
end

section
/-
  What the library's Equal over texts, and the program's Same return.
-/
namespace Go.Proofs.YtimoebicacnihaaGreatDoor.Ln
open Go.RowKit
set_option linter.unusedVariables false
set_option linter.unusedSimpArgs false

/-! ### Same -/
def sameB (a b : Ml) : Bool := decide (a.id = b.id) && (decide (a.parent = b.parent) && (decide (a.born = b.born) && (decide (a.frm = b.frm) && (decide (a.rcpts = b.rcpts) && decide (a.body = b.body)))))
theorem sameB_iff {a b : Ml} : sameB a b = true ↔ a = b := by
  obtain ⟨a1, a2, a3, a4, a5, a6⟩ := a
  obtain ⟨b1, b2, b3, b4, b5, b6⟩ := b
  simp [sameB]
theorem sameB_self (a : Ml) : sameB a a = true := sameB_iff.2 rfl
end Go.Proofs.YtimoebicacnihaaGreatDoor.Ln
end

section
/-
  What the laws' own helper 'answers' returns: true.
-/
namespace Go.Proofs.YtimoebicacnihaaGreatDoor.Ln
open Go.RowKit
set_option linter.unusedVariables false
set_option linter.unusedSimpArgs false

theorem m1_begins : beginsB (record m1) = true ∧ innerM (record m1) = content m1 ∧ readMl (content m1) = m1 := by
  have := begins_record m1_good (by decide) []
  rw [List.append_nil] at this
  exact this
theorem noMl_other : sameB m1 noMl = false := by
  cases h : sameB m1 noMl with
  | false => rfl
  | true => exact absurd (congrArg Ml.id (sameB_iff.1 h)) (by decide)
def zM : Array Value := #[.int .i64 0, .int .i64 0, .int .i64 0, .string { data := #[] }, .slice none 0 0, .slice none 0 0]
theorem zero_at (w : World) : MlAt (fun _ => True) w noMl none 0 0 none 0 0 := ⟨TxP.nil _ _ _, Bytes.nil _ _ _, rfl, rfl, Nat.le_refl _, Nat.le_refl _⟩
end Go.Proofs.YtimoebicacnihaaGreatDoor.Ln
end
