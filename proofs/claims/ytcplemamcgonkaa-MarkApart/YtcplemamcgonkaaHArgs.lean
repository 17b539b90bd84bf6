/-
  Arguments opened: a slice of bytes, a mark, a slice of marks.
-/
import Derived.Test.YtcplemamcgonkaaH10
import Derived.Deep.Slices
import Derived.Deep.Fields
import Derived.SizedLaws
namespace Go.Proofs.Ytcplemamcgonkaa.Ln
open Go.RowKit Go.ChangeShapes Go.WideShapes Go.Deep
set_option linter.unusedVariables false
set_option linter.unusedSimpArgs false

section
variable {H : Type} {enc : TypeId × Value → H} {W : World}
theorem arg_bytes {fuel : Nat} {v : Value} {x : DataW H × List MemPlace} (h : DataW.trod enc Try.prog W 0 (fun _ => true) true fuel 24 [v] = some x) :
    ∃ a bs cap, v = .slice a bs.length cap ∧ bs.length ≤ cap ∧ cap ≤ 9223372036854775807 ∧ Bytes (fun k => k < W.heap.size) W a bs ∧ ((∀ n ∈ x.1.weights Try.prog 24, n ≤ reachBytes) → cap ≤ 140737488351232) := by
  rcases open_ints Try.underlying24 Try.underlying5 (by kernel_rfl) h with ⟨hcs, _⟩ | ⟨ad, l, c, zs, hcs, _, hl, hm, hz, hx, hcell, hwz⟩
  · injection hcs with hcs _
    subst hcs
    exact ⟨none, [], 0, rfl, Nat.le_refl _, by omega, Bytes.nil _ _ _, fun _ => by omega⟩
  · injection hcs with hcs _
    subst hcs
    have hz' : zs.length = c := by simpa using hz
    obtain ⟨bs, h1, h2, h3, h4⟩ := bytes_of (w := W) (a := some ad) (len := l) (cap := c) (zs := zs) (.inr ⟨ad, rfl, hl, hm, hz', hcell, hwz⟩)
    subst h1
    refine ⟨some ad, bs, c, rfl, h2, h3, h4, fun hw => ?_⟩
    have hb : Try.prog.bytesOf 5 = 1 := by kernel_rfl
    have := hw (((zs.take bs.length).length + (zs.drop bs.length).length) * 1) (by
      rw [hx]
      simp [DataW.weights, Try.underlying24, hb, lits])
    simp at this
    have e : reachBytes = 140737488351232 := by decide
    omega
theorem trod_mark {fuel : Nat} {cs : List Value} {x : DataW H × List MemPlace} (hl : cs.length = 3) (h : DataW.trod enc Try.prog W 0 (fun _ => true) true fuel 23 cs = some x) : ∃ k : Mk, cs = mkL k := by
  have o3 : Try.prog.cellsOf 3 = 1 := by kernel_rfl
  obtain ⟨ys, k, _, _, hlen, hyl, hf⟩ := DataW.trod_struct Try.underlying23 h
  match cs, hl with
  | [v0, v1, v2], _ =>
    have f0 := hf 0 _ rfl
    have f1 := hf 1 _ rfl
    have f2 := hf 2 _ rfl
    simp [o3] at f0 f1 f2
    have hg : ∀ i, i < 3 → ∃ y, ys[i]? = some y := fun i hi => ⟨ys[i]'(by rw [hyl]; exact hi), List.getElem?_eq_getElem _⟩
    obtain ⟨y0, h0⟩ := hg 0 (by decide)
    obtain ⟨y1, h1⟩ := hg 1 (by decide)
    obtain ⟨y2, h2⟩ := hg 2 (by decide)
    rw [h0] at f0
    rw [h1] at f1
    rw [h2] at f2
    obtain ⟨z0, e0, _, _⟩ := DataW.trod_int Try.underlying3 f0
    obtain ⟨z1, e1, _, _⟩ := DataW.trod_int Try.underlying3 f1
    obtain ⟨z2, e2, _, _⟩ := DataW.trod_int Try.underlying3 f2
    injection e0 with e0 _
    injection e1 with e1 _
    injection e2 with e2 _
    subst e0 e1 e2
    exact ⟨⟨z0, z1, z2⟩, rfl⟩
theorem arg_mark {fuel : Nat} {cs : Array Value} {x : DataW H × List MemPlace} (h : DataW.trod enc Try.prog W 0 (fun _ => true) true fuel 23 cs.toList = some x) : ∃ k : Mk, cs = mkC k := by
  have hC : Try.prog.cellsOf 23 = 3 := by kernel_rfl
  have hlen : cs.toList.length = 3 := by
    obtain ⟨ys, k, _, _, hlen, _, _⟩ := DataW.trod_struct Try.underlying23 h
    rw [hlen, hC]
  obtain ⟨k, hk⟩ := trod_mark hlen h
  refine ⟨k, ?_⟩
  apply Array.ext'
  rw [hk]
  rfl
theorem arg_marks {fuel : Nat} {v : Value} {x : DataW H × List MemPlace} (h : DataW.trod enc Try.prog W 0 (fun _ => true) true fuel 30 [v] = some x) :
    ∃ a L cap, v = .slice a L.length cap ∧ L.length ≤ cap ∧ cap ≤ 9223372036854775807 ∧ MkP (fun k => k < W.heap.size) W a L ∧ ((∀ n ∈ x.1.weights Try.prog 30, n ≤ reachBytes) → cap ≤ 140737488351232) := by
  rcases open_slice Try.underlying30 h with ⟨hcs, _⟩ | ⟨ad, l, c, m, n, D, Pl, hcs, _, hl, hm, hmm, hx, hi⟩
  · injection hcs with hcs _
    subst hcs
    exact ⟨none, [], 0, rfl, Nat.le_refl _, by omega, StP.nil _ _ _, fun _ => by omega⟩
  · injection hcs with hcs _
    subst hcs
    have hmc : m = c := by simpa using hmm
    have hml : l ≤ m := by omega
    have hC : Try.prog.cellsOf 23 = 3 := by kernel_rfl
    have hb : Try.prog.bytesOf 23 = 24 := by kernel_rfl
    have hsp : 0 < l → ad.spot = none := by
      intro h0
      obtain ⟨cs, hc, _⟩ := hi 0 (by omega)
      rw [hC] at hc
      obtain ⟨_, hcl, hat⟩ := World.cells?_some hc
      have c0 := hat 0 (by omega)
      rw [List.getElem?_eq_getElem (by omega)] at c0
      simpa [Addr.add] using World.cell?_spot c0
    have key : ∀ i, ∃ k : Mk, i < l → ∃ b off, b < W.heap.size ∧ some ad = some ⟨b, off, none⟩ ∧ ∀ j, j < 3 → W.cell? ⟨b, off + i * 3 + j, none⟩ = (mkL k)[j]? := by
      intro i
      by_cases hil : i < l
      · obtain ⟨cs, hc, ht⟩ := hi i (by omega)
        rw [hC] at hc
        obtain ⟨_, hcl, hat⟩ := World.cells?_some hc
        obtain ⟨k, rfl⟩ := trod_mark hcl ht
        have c0 := hat 0 (by omega)
        have hspot : ad.spot = none := hsp (by omega)
        obtain ⟨b, off, spot⟩ := ad
        have hspot' : spot = none := hspot
        subst hspot'
        refine ⟨k, fun _ => ⟨b, off, ?_, rfl, fun j hj => ?_⟩⟩
        · have c0' : W.cell? ⟨b, off + i * 3, none⟩ = some (.int .i64 k.kind) := by simpa [mkL, Addr.add_mid] using c0
          exact World.block_lt_of_cell? W _ c0'
        · have := hat j hj
          simpa [Addr.add_mid] using this
      · exact ⟨⟨0, 0, 0⟩, fun h => absurd h hil⟩
    obtain ⟨f, hf⟩ := Classical.skolem.1 key
    refine ⟨some ad, (List.range l).map f, c, by simp, by simpa using hl, hm, fun i k hk => ?_, fun hw => ?_⟩
    · have hil : i < l := by have := (List.getElem?_eq_some_iff.1 hk).1; simpa using this
      have : k = f i := by simpa [hil] using hk.symm
      subst this
      obtain ⟨b, off, h1, h2, h3⟩ := hf i hil
      exact ⟨b, off, h1, h1, h2, h3⟩
    · have := hw ((((List.range l).map D).length + ((List.range (m - l)).map fun j => D (l + j)).length) * 24) (by
        rw [hx]
        simp [DataW.weights, Try.underlying30, hb])
      simp at this
      have e : reachBytes = 140737488351232 := by decide
      omega
end
end Go.Proofs.Ytcplemamcgonkaa.Ln
