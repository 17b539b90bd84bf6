/-
  Arguments opened: a slice of bytes, a slice of texts, a mail; the first world.
-/
import Derived.Test.YtpdopjpibmhamaaDoorMem
import Derived.Test.YtpdopjpibmhamaaDoorEBase
import Derived.Test.YtpdopjpibmhamaaDoorAFrame
import Derived.Deep.Slices
import Derived.Deep.Fields
import Derived.SizedLaws
namespace Go.Proofs.YtpdopjpibmhamaaDoor.Ln
open Go.RowKit Go.ChangeShapes Go.WideShapes Go.Deep
set_option linter.unusedVariables false
set_option linter.unusedSimpArgs false

/-- The slice that begins at a has these texts. -/
def Strs (W : World) (a : Option Addr) (L : List ByteArray) : Prop :=
  ∀ (i : Nat) (t : ByteArray), L[i]? = some t → ∃ b off, b < W.heap.size ∧ a = some ⟨b, off, none⟩ ∧ W.cell? ⟨b, off + i, none⟩ = some (.string t)

section
variable {H : Type} {enc : TypeId × Value → H} {W : World}
theorem arg_bytes {fuel : Nat} {v : Value} {x : DataW H × List MemPlace} (h : DataW.trod enc Tryd.prog W 0 (fun _ => true) true fuel 23 [v] = some x) :
    ∃ a bs cap, v = .slice a bs.length cap ∧ bs.length ≤ cap ∧ cap ≤ 9223372036854775807 ∧ Bytes (fun k => k < W.heap.size) W a bs := by
  rcases open_ints Tryd.underlying23 Tryd.underlying5 (by kernel_rfl) h with ⟨hcs, _⟩ | ⟨ad, l, c, zs, hcs, _, hl, hm, hz, hx, hcell, hwz⟩
  · injection hcs with hcs _
    subst hcs
    exact ⟨none, [], 0, rfl, Nat.le_refl _, by omega, Bytes.nil _ _ _⟩
  · injection hcs with hcs _
    subst hcs
    have hz' : zs.length = c := by simpa using hz
    obtain ⟨bs, h1, h2, h3, h4⟩ := bytes_of (w := W) (a := some ad) (len := l) (cap := c) (zs := zs) (.inr ⟨ad, rfl, hl, hm, hz', hcell, hwz⟩)
    subst h1
    exact ⟨some ad, bs, c, rfl, h2, h3, h4⟩
theorem arg_strs {fuel : Nat} {v : Value} {x : DataW H × List MemPlace} (h : DataW.trod enc Tryd.prog W 0 (fun _ => true) true fuel 22 [v] = some x) :
    ∃ a L cap, v = .slice a L.length cap ∧ L.length ≤ cap ∧ cap ≤ 9223372036854775807 ∧ Strs W a L := by
  rcases Go.ChangeShapes.open_strings Tryd.underlying22 Tryd.underlying9 (by kernel_rfl) h with ⟨hcs, _⟩ | ⟨ad, l, c, ss, hcs, _, hl, hm, hlen, _, hcell, _⟩
  · injection hcs with hcs _
    subst hcs
    exact ⟨none, [], 0, rfl, Nat.le_refl _, by omega, fun i t h => by simp at h⟩
  · injection hcs with hcs _
    subst hcs
    have hlen' : ss.length = c := by simpa using hlen
    have hls : (ss.take l).length = l := by rw [List.length_take]; omega
    refine ⟨some ad, ss.take l, c, by rw [hls], by omega, hm, fun i t hi => ?_⟩
    have hi0 : i < (ss.take l).length := (List.getElem?_eq_some_iff.1 hi).1
    have hi' : i < ss.length := by rw [List.length_take] at hi0; omega
    have hc := hcell i hi'
    have hsp : ad.spot = none := by
      simpa [Addr.add] using World.cell?_spot (hcell 0 (by omega))
    obtain ⟨b, off, spot⟩ := ad
    subst hsp
    rw [show (⟨b, off, none⟩ : Addr).add i = ⟨b, off + i, none⟩ by unfold Addr.add; split <;> simp_all] at hc
    refine ⟨b, off, ?_, rfl, ?_⟩
    · exact World.block_lt_of_cell? W ⟨b, off + i, none⟩ hc
    · rw [hc]
      have : t = ss[i] := by
        rw [List.getElem?_eq_getElem hi0] at hi
        injection hi with hi
        rw [← hi, List.getElem_take]
      simp [hi', this]

theorem strs_tx {a : Option Addr} {L : List ByteArray} (h : Strs W a L) : TxP (fun k => k < W.heap.size) W a L := fun i t hi => by
  obtain ⟨b, off, h1, h2, h3⟩ := h i t hi
  exact ⟨b, off, h1, h1, h2, h3⟩
set_option maxRecDepth 100000 in
theorem arg_mail {fuel : Nat} {cs : Array Value} {x : DataW H × List MemPlace} (h : DataW.trod enc Tryd.prog W 0 (fun _ => true) true fuel 25 cs.toList = some x) :
    ∃ m rx rc bx bc, cs = mlC m rx m.rcpts.length rc bx m.body.length bc ∧ MlAt (fun k => k < W.heap.size) W m rx m.rcpts.length rc bx m.body.length bc := by
  have o3 : Tryd.prog.cellsOf 3 = 1 := by kernel_rfl
  have o9 : Tryd.prog.cellsOf 9 = 1 := by kernel_rfl
  have ob : Tryd.prog.cellsOf 23 = 1 := by kernel_rfl
  have os : Tryd.prog.cellsOf 22 = 1 := by kernel_rfl
  have hC : Tryd.prog.cellsOf 25 = 6 := by kernel_rfl
  obtain ⟨ys, k, _, _, hlen, hyl, hf⟩ := DataW.trod_struct Tryd.underlying25 h
  rw [hC] at hlen
  obtain ⟨cs⟩ := cs
  simp only [] at hf hlen
  match cs, hlen with
  | [v0, v1, v2, v3, v4, v5], _ =>
    have f0 := hf 0 _ rfl
    have f1 := hf 1 _ rfl
    have f2 := hf 2 _ rfl
    have f3 := hf 3 _ rfl
    have f4 := hf 4 _ rfl
    have f5 := hf 5 _ rfl
    simp [o3, o9, ob, os] at f0 f1 f2 f3 f4 f5
    have hg : ∀ i, i < 6 → ∃ y, ys[i]? = some y := fun i hi => ⟨ys[i]'(by rw [hyl]; exact hi), List.getElem?_eq_getElem _⟩
    obtain ⟨y0, h0⟩ := hg 0 (by decide)
    obtain ⟨y1, h1⟩ := hg 1 (by decide)
    obtain ⟨y2, h2⟩ := hg 2 (by decide)
    obtain ⟨y3, h3⟩ := hg 3 (by decide)
    obtain ⟨y4, h4⟩ := hg 4 (by decide)
    obtain ⟨y5, h5⟩ := hg 5 (by decide)
    rw [h0] at f0
    rw [h1] at f1
    rw [h2] at f2
    rw [h3] at f3
    rw [h4] at f4
    rw [h5] at f5
    obtain ⟨z0, e0, _, _⟩ := DataW.trod_int Tryd.underlying3 f0
    obtain ⟨z1, e1, _, _⟩ := DataW.trod_int Tryd.underlying3 f1
    obtain ⟨z2, e2, _, _⟩ := DataW.trod_int Tryd.underlying3 f2
    obtain ⟨s3, e3, _, _⟩ := DataW.trod_string Tryd.underlying9 f3
    obtain ⟨a4, L4, c4, e4, l4, _, B4⟩ := arg_strs f4
    obtain ⟨a5, L5, c5, e5, l5, _, B5⟩ := arg_bytes f5
    injection e0 with e0 _
    injection e1 with e1 _
    injection e2 with e2 _
    injection e3 with e3 _
    subst e0 e1 e2 e3 e4 e5
    exact ⟨⟨z0, z1, z2, s3, L4, L5⟩, a4, c4, a5, c5, rfl, strs_tx B4, B5, rfl, rfl, l4, l5⟩
end
theorem env9 (W : World) (shape : W.ShapedOpen Tryd.prog) : Env W := Ad.maxLen_some W shape
end Go.Proofs.YtpdopjpibmhamaaDoor.Ln
