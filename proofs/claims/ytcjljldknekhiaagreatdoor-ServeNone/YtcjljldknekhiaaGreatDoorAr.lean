/-
  Arguments opened: a slice of bytes, a slice of texts, a slice of the laws' Op (a text and a number).
-/
import Derived.Test.YtcjljldknekhiaaGreatDoorMem
import Derived.Deep.Slices
import Derived.Deep.Fields
import Derived.SizedLaws
namespace Go.Proofs.YtcjljldknekhiaaGreatDoor.Ln
open Go.RowKit Go.ChangeShapes Go.WideShapes Go.Deep
set_option linter.unusedVariables false
set_option linter.unusedSimpArgs false

/-- One of the laws' Ops. -/
structure OpR where
  b : ByteArray
  code : Int
/-- The slice that begins at a has these Ops. -/
def Ops (W : World) (a : Option Addr) (ops : List OpR) : Prop :=
  ∀ (i : Nat) (o : OpR), ops[i]? = some o → ∃ b off, b < W.heap.size ∧ a = some ⟨b, off, none⟩ ∧ W.cell? ⟨b, off + i * 2, none⟩ = some (.string o.b) ∧ W.cell? ⟨b, off + i * 2 + 1, none⟩ = some (.int .i64 o.code) ∧ (Lit.int .i64 o.code).wf = true ∧ o.b.size ≤ 9223372036854775807
/-- The slice that begins at a has these texts. -/
def Strs (W : World) (a : Option Addr) (L : List ByteArray) : Prop :=
  ∀ (i : Nat) (t : ByteArray), L[i]? = some t → ∃ b off, b < W.heap.size ∧ a = some ⟨b, off, none⟩ ∧ W.cell? ⟨b, off + i, none⟩ = some (.string t)

section
variable {H : Type} {enc : TypeId × Value → H} {W : World}
theorem arg_bytes {fuel : Nat} {v : Value} {x : DataW H × List MemPlace} (h : DataW.trod enc Tryz.prog W 0 (fun _ => true) true fuel 34 [v] = some x) :
    ∃ a bs cap, v = .slice a bs.length cap ∧ bs.length ≤ cap ∧ cap ≤ 9223372036854775807 ∧ Bytes (fun k => k < W.heap.size) W a bs := by
  rcases open_ints Tryz.underlying34 Tryz.underlying5 (by kernel_rfl) h with ⟨hcs, _⟩ | ⟨ad, l, c, zs, hcs, _, hl, hm, hz, hx, hcell, hwz⟩
  · injection hcs with hcs _
    subst hcs
    exact ⟨none, [], 0, rfl, Nat.le_refl _, by omega, Bytes.nil _ _ _⟩
  · injection hcs with hcs _
    subst hcs
    have hz' : zs.length = c := by simpa using hz
    obtain ⟨bs, h1, h2, h3, h4⟩ := bytes_of (w := W) (a := some ad) (len := l) (cap := c) (zs := zs) (.inr ⟨ad, rfl, hl, hm, hz', hcell, hwz⟩)
    subst h1
    exact ⟨some ad, bs, c, rfl, h2, h3, h4⟩
theorem arg_strs {fuel : Nat} {v : Value} {x : DataW H × List MemPlace} (h : DataW.trod enc Tryz.prog W 0 (fun _ => true) true fuel 36 [v] = some x) :
    ∃ a L cap, v = .slice a L.length cap ∧ L.length ≤ cap ∧ cap ≤ 9223372036854775807 ∧ Strs W a L := by
  rcases Go.ChangeShapes.open_strings Tryz.underlying36 Tryz.underlying9 (by kernel_rfl) h with ⟨hcs, _⟩ | ⟨ad, l, c, ss, hcs, _, hl, hm, hlen, _, hcell, _⟩
  · injection hcs with hcs _
    subst hcs
    exact ⟨none, [], 0, rfl, Nat.le_refl _, by omega, fun i t h => by simp at h⟩
  · injection hcs with hcs _
    subst hcs
    have hlen' : ss.length = c := by simpa using hlen
    have hls : (ss.take l).length = l := by rw [List.length_take]; omega
    refine ⟨some ad, ss.take l, c, by rw [hls], by omega, hm, fun i t hi => ?_⟩
    have hi0 : i < (ss.take l).length := (List.getElem?_eq_some_iff.1 hi).1
    have hi' : i < ss.length := by rw [List.length_take] at hi0; omega
    have hc := hcell i hi'
    have hsp : ad.spot = none := by
      simpa [Addr.add] using World.cell?_spot (hcell 0 (by omega))
    obtain ⟨b, off, spot⟩ := ad
    subst hsp
    rw [show (⟨b, off, none⟩ : Addr).add i = ⟨b, off + i, none⟩ by unfold Addr.add; split <;> simp_all] at hc
    refine ⟨b, off, ?_, rfl, ?_⟩
    · exact World.block_lt_of_cell? W ⟨b, off + i, none⟩ hc
    · rw [hc]
      have : t = ss[i] := by
        rw [List.getElem?_eq_getElem hi0] at hi
        injection hi with hi
        rw [← hi, List.getElem_take]
      simp [hi', this]

set_option maxRecDepth 100000 in
theorem arg_ops {fuel : Nat} {v : Value} {x : DataW H × List MemPlace} (h : DataW.trod enc Tryz.prog W 0 (fun _ => true) true fuel 22 [v] = some x) :
    ∃ a ops cap, v = .slice a ops.length cap ∧ ops.length ≤ cap ∧ cap ≤ 9223372036854775807 ∧ Ops W a ops := by
  rcases open_slice Tryz.underlying22 h with ⟨hcs, _⟩ | ⟨ad, l, c, m, n, D, Pl, hcs, _, hl, hm, hmm, _, hi⟩
  · injection hcs with hcs _
    subst hcs
    exact ⟨none, [], 0, rfl, Nat.le_refl _, by omega, fun i o h => by simp at h⟩
  · injection hcs with hcs _
    subst hcs
    have hml : l ≤ m := by simp at hmm; omega
    have hC : Tryz.prog.cellsOf 31 = 2 := by kernel_rfl
    have hsp : 0 < l → ad.spot = none := by
      intro h0
      obtain ⟨cs, hc, _⟩ := hi 0 (by omega)
      rw [hC] at hc
      obtain ⟨_, hcl, hat⟩ := World.cells?_some hc
      have c0 := hat 0 (by omega)
      rw [List.getElem?_eq_getElem (by omega)] at c0
      simpa [Addr.add] using World.cell?_spot c0
    have key : ∀ i, ∃ o : OpR, i < l → ∃ b off, b < W.heap.size ∧ some ad = some ⟨b, off, none⟩ ∧ W.cell? ⟨b, off + i * 2, none⟩ = some (.string o.b) ∧ W.cell? ⟨b, off + i * 2 + 1, none⟩ = some (.int .i64 o.code) ∧ (Lit.int .i64 o.code).wf = true ∧ o.b.size ≤ 9223372036854775807 := by
      intro i
      by_cases hil : i < l
      · obtain ⟨cs, hc, ht⟩ := hi i (by omega)
        rw [hC] at hc
        obtain ⟨ys, k, _, _, hlen, hyl, hf⟩ := DataW.trod_struct Tryz.underlying31 ht
        obtain ⟨_, hcl, hat⟩ := World.cells?_some hc
        have c0 := hat 0 (by omega)
        have c1 := hat 1 (by omega)
        match cs, hcl with
        | [v0, v1], _ =>
          have f0 := hf 0 _ rfl
          have f1 := hf 1 _ rfl
          have o3 : Tryz.prog.cellsOf 3 = 1 := by kernel_rfl
          have o9 : Tryz.prog.cellsOf 9 = 1 := by kernel_rfl
          simp [o3, o9] at f0 f1 c0 c1
          obtain ⟨y0, h0⟩ : ∃ y, ys[0]? = some y := ⟨ys[0]'(by rw [hyl]; decide), List.getElem?_eq_getElem _⟩
          obtain ⟨y1, h1⟩ : ∃ y, ys[1]? = some y := ⟨ys[1]'(by rw [hyl]; decide), List.getElem?_eq_getElem _⟩
          rw [h0] at f0
          rw [h1] at f1
          obtain ⟨s0, e0, _, w0⟩ := DataW.trod_string Tryz.underlying9 f0
          obtain ⟨z1, e1, _, w1⟩ := DataW.trod_int Tryz.underlying3 f1
          injection e0 with e0 _
          injection e1 with e1 _
          subst e0 e1
          obtain ⟨b, off, spot⟩ := ad
          have hspot : spot = none := hsp (by omega)
          subst hspot
          simp only [Addr.add_mid] at c0 c1
          simp only [maxLen] at w0
          exact ⟨⟨s0, z1⟩, fun _ => ⟨b, off, World.block_lt_of_cell? W _ c0, rfl, c0, c1, w1, by omega⟩⟩
      · exact ⟨⟨{ data := #[] }, 0⟩, fun h => absurd h hil⟩
    obtain ⟨f, hf⟩ := Classical.skolem.1 key
    refine ⟨some ad, (List.range l).map f, c, by simp, by simpa using hl, hm, fun i o ho => ?_⟩
    have hil : i < l := by have := (List.getElem?_eq_some_iff.1 ho).1; simpa using this
    have : o = f i := by simpa [hil] using ho.symm
    subst this
    exact hf i hil
end
end Go.Proofs.YtcjljldknekhiaaGreatDoor.Ln
