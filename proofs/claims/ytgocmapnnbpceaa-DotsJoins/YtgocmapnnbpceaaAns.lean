/-
  What the laws' own helper 'answers' returns: true. No condition but that the library's MaxLen holds some number. Arguments opened; the calls, with all that a law has done so far kept from its first world on.
-/
import Derived.Test.YtgocmapnnbpceaaStf
import Derived.Test.YtgocmapnnbpceaaUn
import Derived.Test.YtgocmapnnbpceaaRef
import Derived.Deep.Slices
import Derived.Deep.Fields
import Derived.SizedLaws
import Derived.HandedShaped
namespace Go.Proofs.Ytgocmapnnbpceaa.Ln
open Go.RowKit Go.ChangeShapes Go.WideShapes Go.Deep
set_option linter.unusedVariables false
set_option linter.unusedSimpArgs false

/-- The library's MaxLen holds some number. -/
def Hm (w : World) : Prop := ∃ m, w.cell? ⟨0, 0, none⟩ = some (.int .i64 m)
theorem Hm.keep {S : Nat → Prop} {w w' : World} (h : Hm w) (k : Keep S w w') (hs : ¬ S 0) : Hm w' := by
  obtain ⟨m, hm⟩ := h
  exact ⟨m, k.cell hm hs⟩
theorem Hm.pos {w : World} (h : Hm w) : 0 < w.heap.size := by
  obtain ⟨m, hm⟩ := h
  exact World.block_lt_of_cell? w _ hm
theorem maxLen_some (w : World) (h : w.ShapedOpen Try.prog) : Hm w :=
  Go.Proofs.cell_of_shapedOpen_int (zero := #[.int .i64 0]) (t := 3) h (of_decide_eq_true (by kernel_rfl)) (by kernel_rfl) rfl (by kernel_rfl) (by kernel_rfl) Try.underlying3

theorem ex_lines : bodyB [46, 97, 10] = true ∧ stuffM (linesOf [46, 97, 10]) = [46, 46, 97, 13, 10, 46, 13, 10] := by decide
theorem ex_str : str [46, 46, 97, 13, 10, 46, 13, 10] = { data := #[46, 46, 97, 13, 10, 46, 13, 10] } := by kernel_rfl
theorem ex_un : str (unT (ns { data := #[46, 46, 97] })) = { data := #[46, 97] } ∧ unE (ns { data := #[46, 46, 97] }) = false ∧ str (unT (ns { data := #[46] })) = { data := #[] } ∧ unE (ns { data := #[46] }) = true := by
  refine ⟨by kernel_rfl, by decide, by kernel_rfl, by decide⟩

set_option maxHeartbeats 1000000 in
set_option maxRecDepth 100000 in
theorem answers (w : World) (hm : Hm w) : Calls Try.prog 7 #[] w fun e w' => e = .returned (.bool true) ∧ Keep (fun _ => False) w w' := by
  have kc : (convert 22 22 (.slice (some ⟨w.heap.size, 0, none⟩) 3 3)).run Try.prog (w.alloc (.cells #[.int .u8 46, .int .u8 97, .int .u8 10] 5)) = .ok (.slice (some ⟨w.heap.size, 0, none⟩) 3 3) (w.alloc (.cells #[.int .u8 46, .int .u8 97, .int .u8 10] 5 (3, 4))) :=
    Lib.run_convert_bytes_const (P := Try.prog) w 22 5 #[.int .u8 46, .int .u8 97, .int .u8 10] 3 3 Try.underlying22 Try.underlying5
  have hS : Bytes (fun b => b = w.heap.size) (w.alloc (.cells #[.int .u8 46, .int .u8 97, .int .u8 10] 5 (3, 4))) (some ⟨w.heap.size, 0, none⟩) [46, 97, 10] := bytes_mark w [46, 97, 10] (by decide) (3, 4)
  have k0 : Keep (fun _ => False) w (w.alloc (.cells #[.int .u8 46, .int .u8 97, .int .u8 10] 5 (3, 4))) := (Keep.refl _ w).alloc _
  obtain ⟨m, hm0⟩ := hm
  have hm1 := k0.cell hm0 (fun h => h)
  have HS := Lib.hid hS
  have HK0 := Lib.hid k0
  have HM := Lib.hid hm1
  clear hS k0 hm0 hm1
  go_enter Try.func7, Try.ntmps7
  go_wp2_with fail
  refine (stuff (bs := [46, 97, 10]) rfl (by decide) HS.out (by decide) m HM.out).mono ?_
  rintro e w1 ⟨he, hk1⟩
  rw [ex_lines.1, if_pos rfl, ex_lines.2, ex_str] at he
  subst he
  have HK1 := Lib.hid (HK0.out.trans hk1 (fun _ _ h => h))
  clear hk1
  go_wp2_with fail
  refine (unstuff _ _ (by decide)).mono ?_
  rintro e w2 ⟨he, hk2⟩
  rw [ex_un.1, ex_un.2.1] at he
  subst he
  have HK2 := Lib.hid (HK1.out.trans hk2 (fun _ _ h => h))
  clear hk2
  go_wp2_with fail
  refine (unstuff _ _ (by decide)).mono ?_
  rintro e w3 ⟨he, hk3⟩
  rw [ex_un.2.2.1, ex_un.2.2.2] at he
  subst he
  have HK3 := Lib.hid (HK2.out.trans hk3 (fun _ _ h => h))
  clear hk3
  go_wp2
  go_ret
  exact ⟨rfl, HK3.out⟩

section
variable {H : Type} {enc : TypeId × Value → H} {W : World}
theorem arg_bytes {fuel : Nat} {v : Value} {x : DataW H × List MemPlace} (h : DataW.trod enc Try.prog W 0 (fun _ => true) true fuel 22 [v] = some x) :
    ∃ a bs cap, v = .slice a bs.length cap ∧ bs.length ≤ cap ∧ cap ≤ 9223372036854775807 ∧ Bytes (fun k => k < W.heap.size) W a bs ∧ ((∀ n ∈ x.1.weights Try.prog 22, n ≤ reachBytes) → cap ≤ 140737488351232) := by
  rcases open_ints Try.underlying22 Try.underlying5 (by kernel_rfl) h with ⟨hcs, _⟩ | ⟨ad, l, c, zs, hcs, _, hl, hm, hz, hx, hcell, hwz⟩
  · injection hcs with hcs _
    subst hcs
    exact ⟨none, [], 0, rfl, Nat.le_refl _, by omega, Bytes.nil _ _ _, fun _ => by omega⟩
  · injection hcs with hcs _
    subst hcs
    have hz' : zs.length = c := by simpa using hz
    obtain ⟨bs, h1, h2, h3, h4⟩ := bytes_of (w := W) (a := some ad) (len := l) (cap := c) (zs := zs) (.inr ⟨ad, rfl, hl, hm, hz', hcell, hwz⟩)
    subst h1
    refine ⟨some ad, bs, c, rfl, h2, h3, h4, fun hw => ?_⟩
    have hb : Try.prog.bytesOf 5 = 1 := by kernel_rfl
    have := hw (((zs.take bs.length).length + (zs.drop bs.length).length) * 1) (by
      rw [hx]
      simp [DataW.weights, Try.underlying22, hb, lits])
    simp at this
    have e : reachBytes = 140737488351232 := by decide
    omega

end
theorem Bytes.below {B : Nat} {w w' : World} {x : Option Addr} {bs : List Nat} (h : Bytes (fun k => k < B) w x bs) (hb : Below B w w') : Bytes (fun k => k < B) w' x bs := by
  refine ⟨h.1, ?_⟩
  rcases h.2 with h0 | ⟨b, off, hp, rfl, hc⟩
  · exact .inl h0
  · refine .inr ⟨b, off, hp, rfl, fun i hi => ?_⟩
    have h1 := hc i hi
    have h2 : w'.heap[b]? = w.heap[b]? := hb.block b hp
    rw [World.cell?_of_block (w := w) (by exact h2)]
    exact h1
theorem conv_str (A : ByteArray) (w : World) : ∃ cap w1, (convert 9 22 (.string A)).run Try.prog w = .ok (.slice (some ⟨w.heap.size, 0, none⟩) A.size cap) w1 ∧ Bytes (fun b => b = w.heap.size) w1 (some ⟨w.heap.size, 0, none⟩) (ns A) ∧ Keep (fun _ => False) w w1 := by
  refine ⟨_, _, run_bytes_of_string w 9 22 5 A Try.underlying9 Try.underlying22 Try.underlying5, ⟨ns_lt A, .inr ⟨w.heap.size, 0, rfl, rfl, fun i hi => ?_⟩⟩, (Keep.refl _ w).drew.alloc _⟩
  have hi' : i < A.size := by rwa [ns_length] at hi
  refine (cell_of_row _ _ (0 + i) _ _ _ (heap_alloc_new w.drew _)).trans ?_
  rw [Nat.zero_add]
  have hi2 : i < A.data.size := hi'
  unfold bytesRow
  rw [Array.getElem?_append_left (by simpa using hi2)]
  simp [ns, Array.getElem?_eq_getElem hi2]

/-- All that was there in the first world is as it was. -/
abbrev Since (w0 w : World) : Prop := Keep (fun k => w0.heap.size ≤ k) w0 w
theorem Since.hm {w0 w : World} (h : Since w0 w) (hm : Hm w0) : Hm w := hm.keep h (by have := hm.pos; omega)
theorem Since.next {w0 w w' : World} {S : Nat → Prop} (h : Since w0 w) (k : Keep S w w') (hS : ∀ i, S i → w0.heap.size ≤ i) : Since w0 w' := Keep.trans h k (fun i _ hi => hS i hi)
theorem Since.quiet {w0 w w' : World} (h : Since w0 w) (k : Keep (fun _ => False) w w') : Since w0 w' := h.next k (fun _ h => h.elim)
theorem Since.below {w0 w : World} (h : Since w0 w) : Below w0.heap.size w0 w := Keep.below h (Nat.le_refl _) (fun _ h => h)
theorem Since.bytes {w0 w : World} {x : Option Addr} {bs : List Nat} (h : Since w0 w) (hB : Bytes (fun k => k < w0.heap.size) w0 x bs) : Bytes (fun k => k < w0.heap.size) w x bs := hB.keep h (fun b _ hb => by omega)


section
variable {w0 w : World}
theorem ansS (hS : Since w0 w) (hm : Hm w0) : Calls Try.prog 7 #[] w fun e w' => e = .returned (.bool true) ∧ Since w0 w' ∧ Keep (fun _ => False) w w' := by
  refine (answers w (hS.hm hm)).mono ?_
  rintro e w' ⟨rfl, h⟩
  exact ⟨rfl, hS.quiet h, h⟩
end
end Go.Proofs.Ytgocmapnnbpceaa.Ln
