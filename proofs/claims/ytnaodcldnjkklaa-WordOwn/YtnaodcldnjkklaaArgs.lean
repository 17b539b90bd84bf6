/-
  Arguments opened: a slice of bytes, and a slice of the laws' Op (a kind, a number, bytes).
-/
import Derived.Test.YtnaodcldnjkklaaIn
import Derived.Deep.Slices
import Derived.Deep.Fields
import Derived.SizedLaws
namespace Go.Proofs.Ytnaodcldnjkklaa.Wd
open Go.RowKit Go.ChangeShapes Go.WideShapes Go.Deep

/-- One of the laws' Ops. -/
structure OpR where
  kind : Int
  num : Int
  txt : List Nat
/-- The slice that begins at a has these Ops. -/
def Ops (W : World) (a : Option Addr) (ops : List OpR) : Prop :=
  ∀ (i : Nat) (o : OpR), ops[i]? = some o → ∃ b off x c, b < W.heap.size ∧ a = some ⟨b, off, none⟩ ∧ W.cell? ⟨b, off + i * 3, none⟩ = some (.int .i64 o.kind) ∧ W.cell? ⟨b, off + i * 3 + 1, none⟩ = some (.int .i64 o.num) ∧
    W.cell? ⟨b, off + i * 3 + 2, none⟩ = some (.slice x o.txt.length c) ∧ o.txt.length ≤ 9223372036854775807 ∧ Bytes (fun k => k < W.heap.size) W x o.txt

section
variable {H : Type} {enc : TypeId × Value → H} {W : World}
theorem arg_bytes {fuel : Nat} {v : Value} {x : DataW H × List MemPlace} (h : DataW.trod enc Try.prog W 0 (fun _ => true) true fuel 24 [v] = some x) :
    ∃ a bs cap, v = .slice a bs.length cap ∧ bs.length ≤ cap ∧ cap ≤ 9223372036854775807 ∧ Bytes (fun k => k < W.heap.size) W a bs ∧ ((∀ n ∈ x.1.weights Try.prog 24, n ≤ reachBytes) → cap ≤ 140737488351232) := by
  rcases open_ints Try.underlying24 Try.underlying5 (by kernel_rfl) h with ⟨hcs, _⟩ | ⟨ad, l, c, zs, hcs, _, hl, hm, hz, hx, hcell, hwz⟩
  · injection hcs with hcs _
    subst hcs
    exact ⟨none, [], 0, rfl, Nat.le_refl _, by omega, Bytes.nil _ _ _, fun _ => by omega⟩
  · injection hcs with hcs _
    subst hcs
    have hz' : zs.length = c := by simpa using hz
    obtain ⟨bs, h1, h2, h3, h4⟩ := bytes_of (w := W) (a := some ad) (len := l) (cap := c) (zs := zs) (.inr ⟨ad, rfl, hl, hm, hz', hcell, hwz⟩)
    subst h1
    refine ⟨some ad, bs, c, rfl, h2, h3, h4, fun hw => ?_⟩
    have hb : Try.prog.bytesOf 5 = 1 := by kernel_rfl
    have := hw (((zs.take bs.length).length + (zs.drop bs.length).length) * 1) (by
      rw [hx]
      simp [DataW.weights, Try.underlying24, hb, lits])
    simp at this
    have e : reachBytes = 140737488351232 := by decide
    omega

theorem arg_ops {fuel : Nat} {v : Value} {x : DataW H × List MemPlace} (h : DataW.trod enc Try.prog W 0 (fun _ => true) true fuel 22 [v] = some x) :
    ∃ a ops cap, v = .slice a ops.length cap ∧ ops.length ≤ cap ∧ cap ≤ 9223372036854775807 ∧ Ops W a ops := by
  rcases open_slice Try.underlying22 h with ⟨hcs, _⟩ | ⟨ad, l, c, m, n, D, Pl, hcs, _, hl, hm, hmm, _, hi⟩
  · injection hcs with hcs _
    subst hcs
    exact ⟨none, [], 0, rfl, Nat.le_refl _, by omega, fun i o h => by simp at h⟩
  · injection hcs with hcs _
    subst hcs
    have hml : l ≤ m := by simp at hmm; omega
    have hC : Try.prog.cellsOf 28 = 3 := by kernel_rfl
    have hsp : 0 < l → ad.spot = none := by
      intro h0
      obtain ⟨cs, hc, _⟩ := hi 0 (by omega)
      rw [hC] at hc
      obtain ⟨_, hcl, hat⟩ := World.cells?_some hc
      have c0 := hat 0 (by omega)
      rw [List.getElem?_eq_getElem (by omega)] at c0
      simpa [Addr.add] using World.cell?_spot c0
    have key : ∀ i, ∃ o : OpR, i < l → ∃ b off x c, b < W.heap.size ∧ some ad = some ⟨b, off, none⟩ ∧ W.cell? ⟨b, off + i * 3, none⟩ = some (.int .i64 o.kind) ∧ W.cell? ⟨b, off + i * 3 + 1, none⟩ = some (.int .i64 o.num) ∧
        W.cell? ⟨b, off + i * 3 + 2, none⟩ = some (.slice x o.txt.length c) ∧ o.txt.length ≤ 9223372036854775807 ∧ Bytes (fun k => k < W.heap.size) W x o.txt := by
      intro i
      by_cases hil : i < l
      · obtain ⟨cs, hc, ht⟩ := hi i (by omega)
        rw [hC] at hc
        obtain ⟨ys, k, _, _, hlen, hyl, hf⟩ := DataW.trod_struct Try.underlying28 ht
        obtain ⟨_, hcl, hat⟩ := World.cells?_some hc
        have c0 := hat 0 (by omega)
        have c1 := hat 1 (by omega)
        have c2 := hat 2 (by omega)
        match cs, hcl with
        | [v0, v1, v2], _ =>
          have f0 := hf 0 _ rfl
          have f1 := hf 1 _ rfl
          have f2 := hf 2 _ rfl
          have o3 : Try.prog.cellsOf 3 = 1 := by kernel_rfl
          have o24 : Try.prog.cellsOf 24 = 1 := by kernel_rfl
          simp [o3, o24] at f0 f1 f2 c0 c1 c2
          obtain ⟨y0, h0⟩ : ∃ y, ys[0]? = some y := ⟨ys[0]'(by rw [hyl]; decide), List.getElem?_eq_getElem _⟩
          obtain ⟨y1, h1⟩ : ∃ y, ys[1]? = some y := ⟨ys[1]'(by rw [hyl]; decide), List.getElem?_eq_getElem _⟩
          obtain ⟨y2, h2⟩ : ∃ y, ys[2]? = some y := ⟨ys[2]'(by rw [hyl]; decide), List.getElem?_eq_getElem _⟩
          rw [h0] at f0
          rw [h1] at f1
          rw [h2] at f2
          obtain ⟨z0, e0, _, _⟩ := DataW.trod_int Try.underlying3 f0
          obtain ⟨z1, e1, _, _⟩ := DataW.trod_int Try.underlying3 f1
          obtain ⟨a2, bs, cap2, e2, hb2, hm2, hB2, _⟩ := arg_bytes f2
          injection e0 with e0 _
          injection e1 with e1 _
          subst e0 e1 e2
          obtain ⟨b, off, spot⟩ := ad
          have hspot : spot = none := hsp (by omega)
          subst hspot
          simp only [Addr.add_mid] at c0 c1 c2
          refine ⟨⟨z0, z1, bs⟩, fun _ => ⟨b, off, a2, cap2, World.block_lt_of_cell? W _ c0, rfl, c0, c1, c2, Nat.le_trans hb2 hm2, hB2⟩⟩
      · exact ⟨⟨0, 0, []⟩, fun h => absurd h hil⟩
    obtain ⟨f, hf⟩ := Classical.skolem.1 key
    refine ⟨some ad, (List.range l).map f, c, by simp, by simpa using hl, hm, fun i o ho => ?_⟩
    have hil : i < l := by have := (List.getElem?_eq_some_iff.1 ho).1; simpa using this
    have : o = f i := by simpa [hil] using ho.symm
    subst this
    exact hf i hil
end

end Go.Proofs.Ytnaodcldnjkklaa.Wd
