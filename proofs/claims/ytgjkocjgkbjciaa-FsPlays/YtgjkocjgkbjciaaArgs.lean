/-
  Arguments opened: a slice of bytes, and a slice of the laws' Op (three numbers, two texts, bytes).
-/
import Derived.Test.YtgjkocjgkbjciaaAns
import Derived.Deep.Slices
import Derived.Deep.Fields
import Derived.SizedLaws
namespace Go.Proofs.Ytgjkocjgkbjciaa.Fs
open Go.RowKit Go.ChangeShapes Go.WideShapes Go.Deep
set_option linter.unusedVariables false

/-- One of the laws' Ops. -/
structure OpR where
  kind : Int
  num : Int
  more : Int
  a : ByteArray
  b : ByteArray
  data : List Nat
/-- Its cells lie from ad on. -/
def OpAt (W : World) (b off : Nat) (o : OpR) : Prop :=
  ∃ x c, W.cell? ⟨b, off, none⟩ = some (.int .i64 o.kind) ∧ W.cell? ⟨b, off + 1, none⟩ = some (.int .i64 o.num) ∧ W.cell? ⟨b, off + 2, none⟩ = some (.int .i64 o.more) ∧ W.cell? ⟨b, off + 3, none⟩ = some (.string o.a) ∧ W.cell? ⟨b, off + 4, none⟩ = some (.string o.b) ∧
    W.cell? ⟨b, off + 5, none⟩ = some (.slice x o.data.length c) ∧ o.data.length ≤ 9223372036854775807 ∧ o.a.size ≤ 9223372036854775807 ∧ o.b.size ≤ 9223372036854775807 ∧ o.num ≤ 9223372036854775807 ∧ o.more ≤ 9223372036854775807 ∧ Bytes (fun k => k < W.heap.size) W x o.data
/-- The slice that begins at a has these Ops. -/
def Ops (W : World) (a : Option Addr) (ops : List OpR) : Prop :=
  ∀ (i : Nat) (o : OpR), ops[i]? = some o → ∃ b off, b < W.heap.size ∧ a = some ⟨b, off, none⟩ ∧ OpAt W b (off + i * 6) o

section
variable {H : Type} {enc : TypeId × Value → H} {W : World}
theorem arg_bytes {fuel : Nat} {v : Value} {x : DataW H × List MemPlace} (h : DataW.trod enc Try.prog W 0 (fun _ => true) true fuel 32 [v] = some x) :
    ∃ a bs cap, v = .slice a bs.length cap ∧ bs.length ≤ cap ∧ cap ≤ 9223372036854775807 ∧ Bytes (fun k => k < W.heap.size) W a bs ∧ ((∀ n ∈ x.1.weights Try.prog 32, n ≤ reachBytes) → cap ≤ 140737488351232) := by
  rcases open_ints Try.underlying32 Try.underlying5 (by kernel_rfl) h with ⟨hcs, _⟩ | ⟨ad, l, c, zs, hcs, _, hl, hm, hz, hx, hcell, hwz⟩
  · injection hcs with hcs _
    subst hcs
    exact ⟨none, [], 0, rfl, Nat.le_refl _, by omega, Bytes.nil _ _ _, fun _ => by omega⟩
  · injection hcs with hcs _
    subst hcs
    have hz' : zs.length = c := by simpa using hz
    obtain ⟨bs, h1, h2, h3, h4⟩ := bytes_of (w := W) (a := some ad) (len := l) (cap := c) (zs := zs) (.inr ⟨ad, rfl, hl, hm, hz', hcell, hwz⟩)
    subst h1
    refine ⟨some ad, bs, c, rfl, h2, h3, h4, fun hw => ?_⟩
    have hb : Try.prog.bytesOf 5 = 1 := by kernel_rfl
    have := hw (((zs.take bs.length).length + (zs.drop bs.length).length) * 1) (by
      rw [hx]
      simp [DataW.weights, Try.underlying32, hb, lits])
    simp at this
    have e : reachBytes = 140737488351232 := by decide
    omega


set_option maxRecDepth 100000 in
theorem arg_ops {fuel : Nat} {v : Value} {x : DataW H × List MemPlace} (h : DataW.trod enc Try.prog W 0 (fun _ => true) true fuel 22 [v] = some x) :
    ∃ a ops cap, v = .slice a ops.length cap ∧ ops.length ≤ cap ∧ cap ≤ 9223372036854775807 ∧ Ops W a ops := by
  rcases open_slice Try.underlying22 h with ⟨hcs, _⟩ | ⟨ad, l, c, m, n, D, Pl, hcs, _, hl, hm, hmm, _, hi⟩
  · injection hcs with hcs _
    subst hcs
    exact ⟨none, [], 0, rfl, Nat.le_refl _, by omega, fun i o h => by simp at h⟩
  · injection hcs with hcs _
    subst hcs
    have hml : l ≤ m := by simp at hmm; omega
    have hC : Try.prog.cellsOf 34 = 6 := by kernel_rfl
    have hsp : 0 < l → ad.spot = none := by
      intro h0
      obtain ⟨cs, hc, _⟩ := hi 0 (by omega)
      rw [hC] at hc
      obtain ⟨_, hcl, hat⟩ := World.cells?_some hc
      have c0 := hat 0 (by omega)
      rw [List.getElem?_eq_getElem (by omega)] at c0
      simpa [Addr.add] using World.cell?_spot c0
    have key : ∀ i, ∃ o : OpR, i < l → ∃ b off, b < W.heap.size ∧ some ad = some ⟨b, off, none⟩ ∧ OpAt W b (off + i * 6) o := by
      intro i
      by_cases hil : i < l
      · obtain ⟨cs, hc, ht⟩ := hi i (by omega)
        rw [hC] at hc
        obtain ⟨ys, k, _, _, hlen, hyl, hf⟩ := DataW.trod_struct Try.underlying34 ht
        obtain ⟨_, hcl, hat⟩ := World.cells?_some hc
        have c0 := hat 0 (by omega)
        have c1 := hat 1 (by omega)
        have c2 := hat 2 (by omega)
        have c3 := hat 3 (by omega)
        have c4 := hat 4 (by omega)
        have c5 := hat 5 (by omega)
        match cs, hcl with
        | [v0, v1, v2, v3, v4, v5], _ =>
          have f0 := hf 0 _ rfl
          have f1 := hf 1 _ rfl
          have f2 := hf 2 _ rfl
          have f3 := hf 3 _ rfl
          have f4 := hf 4 _ rfl
          have f5 := hf 5 _ rfl
          have o3 : Try.prog.cellsOf 3 = 1 := by kernel_rfl
          have o9 : Try.prog.cellsOf 9 = 1 := by kernel_rfl
          have o32 : Try.prog.cellsOf 32 = 1 := by kernel_rfl
          simp [o3, o9, o32] at f0 f1 f2 f3 f4 f5 c0 c1 c2 c3 c4 c5
          obtain ⟨y0, h0⟩ : ∃ y, ys[0]? = some y := ⟨ys[0]'(by rw [hyl]; decide), List.getElem?_eq_getElem _⟩
          obtain ⟨y1, h1⟩ : ∃ y, ys[1]? = some y := ⟨ys[1]'(by rw [hyl]; decide), List.getElem?_eq_getElem _⟩
          obtain ⟨y2, h2⟩ : ∃ y, ys[2]? = some y := ⟨ys[2]'(by rw [hyl]; decide), List.getElem?_eq_getElem _⟩
          obtain ⟨y3, h3⟩ : ∃ y, ys[3]? = some y := ⟨ys[3]'(by rw [hyl]; decide), List.getElem?_eq_getElem _⟩
          obtain ⟨y4, h4⟩ : ∃ y, ys[4]? = some y := ⟨ys[4]'(by rw [hyl]; decide), List.getElem?_eq_getElem _⟩
          obtain ⟨y5, h5⟩ : ∃ y, ys[5]? = some y := ⟨ys[5]'(by rw [hyl]; decide), List.getElem?_eq_getElem _⟩
          rw [h0] at f0
          rw [h1] at f1
          rw [h2] at f2
          rw [h3] at f3
          rw [h4] at f4
          rw [h5] at f5
          obtain ⟨z0, e0, _, w0⟩ := DataW.trod_int Try.underlying3 f0
          obtain ⟨z1, e1, _, w1⟩ := DataW.trod_int Try.underlying3 f1
          obtain ⟨z2, e2, _, w2⟩ := DataW.trod_int Try.underlying3 f2
          obtain ⟨s3, e3, _, w3⟩ := DataW.trod_string Try.underlying9 f3
          obtain ⟨s4, e4, _, w4⟩ := DataW.trod_string Try.underlying9 f4
          obtain ⟨a5, bs, cap5, e5, hb5, hm5, hB5, _⟩ := arg_bytes f5
          injection e0 with e0 _
          injection e1 with e1 _
          injection e2 with e2 _
          injection e3 with e3 _
          injection e4 with e4 _
          subst e0 e1 e2 e3 e4 e5
          obtain ⟨b, off, spot⟩ := ad
          have hspot : spot = none := hsp (by omega)
          subst hspot
          simp only [Addr.add_mid] at c0 c1 c2 c3 c4 c5
          have b1 := bounds_i64 w1
          have b2 := bounds_i64 w2
          simp only [maxLen] at w3 w4
          refine ⟨⟨z0, z1, z2, s3, s4, bs⟩, fun _ => ⟨b, off, World.block_lt_of_cell? W _ c0, rfl, a5, cap5, c0, c1, c2, c3, c4, c5, Nat.le_trans hb5 hm5, by omega, by omega, b1.2, b2.2, hB5⟩⟩
      · exact ⟨⟨0, 0, 0, bA, bA, []⟩, fun h => absurd h hil⟩
    obtain ⟨f, hf⟩ := Classical.skolem.1 key
    refine ⟨some ad, (List.range l).map f, c, by simp, by simpa using hl, hm, fun i o ho => ?_⟩
    have hil : i < l := by have := (List.getElem?_eq_some_iff.1 ho).1; simpa using this
    have : o = f i := by simpa [hil] using ho.symm
    subst this
    exact hf i hil
end

theorem Bytes.below {B : Nat} {w w' : World} {x : Option Addr} {bs : List Nat} (h : Bytes (fun k => k < B) w x bs) (hb : Below B w w') : Bytes (fun k => k < B) w' x bs := by
  refine ⟨h.1, ?_⟩
  rcases h.2 with h0 | ⟨b, off, hp, rfl, hc⟩
  · exact .inl h0
  · refine .inr ⟨b, off, hp, rfl, fun i hi => ?_⟩
    have h1 := hc i hi
    have h2 : w'.heap[b]? = w.heap[b]? := hb.block b hp
    rw [World.cell?_of_block (w := w) (by exact h2)]
    exact h1

/-! ### A name that is none -/
section
variable {a : Nm} (s : St) (h : isNm a = false) (b : Nm) (bs : List Nat)
include h
theorem bad_ready1 : readyE s [a] = 1 := by simp [readyE, h]
theorem bad_find : findE s a = 1 := by unfold findE; rw [bad_ready1 s h]; rfl
theorem bad_createE : createE s a = 1 := by unfold createE; rw [bad_ready1 s h]; rfl
theorem bad_createS : createS s a = s := by unfold createS; rw [bad_ready1 s h]; rfl
theorem bad_appendE : appendE s a bs = 1 := by unfold appendE; rw [bad_find s h]; rfl
theorem bad_appendS : appendS s a bs = s := by unfold appendS; rw [bad_find s h]; rfl
theorem bad_syncE : syncE s a = 1 := by unfold syncE; rw [bad_find s h]; rfl
theorem bad_syncS : syncS s a = s := by unfold syncS; rw [bad_find s h]; rfl
theorem bad_unlinkE : unlinkE s a = 1 := by unfold unlinkE; rw [bad_find s h]; rfl
theorem bad_unlinkS : unlinkS s a = s := by unfold unlinkS; rw [bad_find s h]; rfl
theorem bad_ready2 : readyE s [a, b] = 1 := by simp [readyE, h]
theorem bad_ready2' : readyE s [b, a] = 1 := by simp [readyE, h]
theorem bad_renameE : renameE s a b = 1 := by unfold renameE; rw [bad_ready2 s h]; rfl
theorem bad_renameS : renameS s a b = s := by unfold renameS; rw [bad_ready2 s h]; rfl
theorem bad_renameE' : renameE s b a = 1 := by unfold renameE; rw [bad_ready2' s h]; rfl
theorem bad_renameS' : renameS s b a = s := by unfold renameS; rw [bad_ready2' s h]; rfl
end
theorem good_ready {a : Nm} {s : St} (h : isNm a = true) (hd : s.down = false) : readyE s [a] = 0 := by simp [readyE, h, hd]
theorem new_create {a : Nm} (n : Int) (h : isNm a = true) : createE (newS n) a = 0 := by
  unfold createE
  rw [good_ready h rfl]
  rfl

end Go.Proofs.Ytgjkocjgkbjciaa.Fs
