/-
  What the laws' own helper 'answers' returns: true. No condition but that the library's MaxLen holds some number. Arguments opened: a slice of bytes, a slice of such slices.
-/
import Derived.Test.YtflnmgameihglaaRef
import Derived.Deep.Slices
import Derived.Deep.Fields
import Derived.SizedLaws
import Derived.HandedShaped
namespace Go.Proofs.Ytflnmgameihglaa.Ln
open Go.RowKit Go.ChangeShapes Go.WideShapes Go.Deep
set_option linter.unusedVariables false
set_option linter.unusedSimpArgs false

/-- The library's MaxLen holds some number. -/
def Hm (w : World) : Prop := ∃ m, w.cell? ⟨0, 0, none⟩ = some (.int .i64 m)
theorem Hm.keep {S : Nat → Prop} {w w' : World} (h : Hm w) (k : Keep S w w') (hs : ¬ S 0) : Hm w' := by
  obtain ⟨m, hm⟩ := h
  exact ⟨m, k.cell hm hs⟩
theorem Hm.pos {w : World} (h : Hm w) : 0 < w.heap.size := by
  obtain ⟨m, hm⟩ := h
  exact World.block_lt_of_cell? w _ hm
theorem maxLen_some (w : World) (h : w.ShapedOpen Try.prog) : Hm w :=
  Go.Proofs.cell_of_shapedOpen_int (zero := #[.int .i64 0]) (t := 3) h (of_decide_eq_true (by kernel_rfl)) (by kernel_rfl) rfl (by kernel_rfl) (by kernel_rfl) Try.underlying3

theorem info26 : (Try.prog.info? 26).map (fun i => (i.zero, i.size)) = some (some (.agg #[.slice none 0 0]), 1) := by kernel_rfl

set_option maxHeartbeats 1000000 in
set_option maxRecDepth 100000 in
theorem answers (w : World) (hm : Hm w) : Calls Try.prog 7 #[] w fun e w' => e = .returned (.bool true) ∧ Keep (fun _ => False) w w' := by
  have kc : (convert 24 24 (.slice (some ⟨w.heap.size + 1, 0, none⟩) 4 4)).run Try.prog ((w.alloc (.cells #[.slice none 0 0] 26)).alloc (.cells #[.int .u8 97, .int .u8 13, .int .u8 10, .int .u8 98] 5)) =
      .ok (.slice (some ⟨w.heap.size + 1, 0, none⟩) 4 4) ((w.alloc (.cells #[.slice none 0 0] 26)).alloc (.cells #[.int .u8 97, .int .u8 13, .int .u8 10, .int .u8 98] 5 (4, 5))) := by
    have := Lib.run_convert_bytes_const (P := Try.prog) (w.alloc (.cells #[.slice none 0 0] 26)) 24 5 #[.int .u8 97, .int .u8 13, .int .u8 10, .int .u8 98] 4 4 Try.underlying24 Try.underlying5
    simpa using this
  have h0 := hm.pos
  have hL : Lin w.heap.size ((w.alloc (.cells #[.slice none 0 0] 26)).alloc (.cells #[.int .u8 97, .int .u8 13, .int .u8 10, .int .u8 98] 5 (4, 5))) w.heap.size none [] :=
    (Lin.new w w.heap.size (Nat.le_refl _)).keep ((Keep.refl (fun _ => False) _).alloc _) (fun h => h) (fun _ _ h => h)
  have hS : Bytes (fun b => b = w.heap.size + 1) ((w.alloc (.cells #[.slice none 0 0] 26)).alloc (.cells #[.int .u8 97, .int .u8 13, .int .u8 10, .int .u8 98] 5 (4, 5))) (some ⟨w.heap.size + 1, 0, none⟩) [97, 13, 10, 98] := by
    have := bytes_mark (w.alloc (.cells #[.slice none 0 0] 26)) [97, 13, 10, 98] (by decide) (4, 5)
    have e : (w.alloc (.cells #[.slice none 0 0] 26)).heap.size = w.heap.size + 1 := by simp
    rw [e] at this
    exact this
  have k0 : Keep (fun _ => False) w ((w.alloc (.cells #[.slice none 0 0] 26)).alloc (.cells #[.int .u8 97, .int .u8 13, .int .u8 10, .int .u8 98] 5 (4, 5))) := ((Keep.refl _ w).alloc _).alloc _
  have HL := Lib.hid hL
  have HS := Lib.hid hS
  have HK0 := Lib.hid k0
  have HM := Lib.hid hm
  clear hL hS k0 hm
  go_enter Try.func7, Try.ntmps7
  go_wp2_with fail
  refine (feed HL.out _ 4 4 [97, 13, 10, 98] rfl HS.out (by decide)).mono ?_
  rintro e w1 ⟨rfl, q1, hL1, hk1, hn1⟩
  have hk1' : Keep (fun k => w.heap.size ≤ k) w w1 := (HK0.out.mono (fun _ _ h => h.elim)).trans hk1 (fun i _ h => by
    rcases h with h | h
    · omega
    · cases h)
  obtain ⟨m, hm1⟩ := HM.out.keep hk1' (by omega)
  have HL1 := Lib.hid hL1
  have HK1 := Lib.hid hk1'
  have HC1 := Lib.hid hm1
  clear hL1 hk1 hn1 hk1' hm1
  go_wp2_with fail
  refine (next HL1.out 9 (by decide) (by decide) m HC1.out).mono ?_
  rintro e w2 ⟨he, q2, hL2, hk2, hn2⟩
  have e0 : nextT ([] ++ [97, 13, 10, 98]) 9 = [97] := by decide
  have e1 : nextL ([] ++ [97, 13, 10, 98]) 9 = false := by decide
  have e2 : nextK ([] ++ [97, 13, 10, 98]) = true := by decide
  have e3 : nextS ([] ++ [97, 13, 10, 98]) = [98] := by decide
  have e4 : str [97] = { data := #[97] } := by kernel_rfl
  rw [e0, e1, e2, e4] at he
  rw [e3] at hL2
  subst he
  have hk2' : Keep (fun k => w.heap.size ≤ k) w w2 := HK1.out.trans hk2 (fun i _ h => by omega)
  have HL2 := Lib.hid hL2
  have HK2 := Lib.hid hk2'
  clear hL2 hk2 hn2 hk2' e0 e1 e2 e3 e4
  go_wp2_with fail
  refine (held HL2.out).mono ?_
  rintro e w3 ⟨rfl, hw⟩
  have hw' := hw.symm
  subst hw'
  go_wp2_with fail
  go_ret
  exact ⟨rfl, HK2.out.mono (fun i hi h => by omega)⟩

section
variable {H : Type} {enc : TypeId × Value → H} {W : World}
theorem arg_bytes {fuel : Nat} {v : Value} {x : DataW H × List MemPlace} (h : DataW.trod enc Try.prog W 0 (fun _ => true) true fuel 24 [v] = some x) :
    ∃ a bs cap, v = .slice a bs.length cap ∧ bs.length ≤ cap ∧ cap ≤ 9223372036854775807 ∧ Bytes (fun k => k < W.heap.size) W a bs ∧ ((∀ n ∈ x.1.weights Try.prog 24, n ≤ reachBytes) → cap ≤ 140737488351232) := by
  rcases open_ints Try.underlying24 Try.underlying5 (by kernel_rfl) h with ⟨hcs, _⟩ | ⟨ad, l, c, zs, hcs, _, hl, hm, hz, hx, hcell, hwz⟩
  · injection hcs with hcs _
    subst hcs
    exact ⟨none, [], 0, rfl, Nat.le_refl _, by omega, Bytes.nil _ _ _, fun _ => by omega⟩
  · injection hcs with hcs _
    subst hcs
    have hz' : zs.length = c := by simpa using hz
    obtain ⟨bs, h1, h2, h3, h4⟩ := bytes_of (w := W) (a := some ad) (len := l) (cap := c) (zs := zs) (.inr ⟨ad, rfl, hl, hm, hz', hcell, hwz⟩)
    subst h1
    refine ⟨some ad, bs, c, rfl, h2, h3, h4, fun hw => ?_⟩
    have hb : Try.prog.bytesOf 5 = 1 := by kernel_rfl
    have := hw (((zs.take bs.length).length + (zs.drop bs.length).length) * 1) (by
      rw [hx]
      simp [DataW.weights, Try.underlying24, hb, lits])
    simp at this
    have e : reachBytes = 140737488351232 := by decide
    omega

/-- The slice that begins at a has these slices of bytes. -/
def Rows2 (W : World) (a : Option Addr) (L : List (List Nat)) : Prop :=
  ∀ (i : Nat) (bs : List Nat), L[i]? = some bs → ∃ b off x c, b < W.heap.size ∧ a = some ⟨b, off, none⟩ ∧ W.cell? ⟨b, off + i, none⟩ = some (.slice x bs.length c) ∧ bs.length ≤ c ∧ c ≤ 9223372036854775807 ∧ Bytes (fun k => k < W.heap.size) W x bs

set_option maxRecDepth 100000 in
theorem arg_rows {fuel : Nat} {v : Value} {x : DataW H × List MemPlace} (h : DataW.trod enc Try.prog W 0 (fun _ => true) true fuel 22 [v] = some x) :
    ∃ a L cap, v = .slice a L.length cap ∧ L.length ≤ cap ∧ cap ≤ 9223372036854775807 ∧ Rows2 W a L := by
  rcases open_slice Try.underlying22 h with ⟨hcs, _⟩ | ⟨ad, l, c, m, n, D, Pl, hcs, _, hl, hm, hmm, _, hi⟩
  · injection hcs with hcs _
    subst hcs
    exact ⟨none, [], 0, rfl, Nat.le_refl _, by omega, fun i o h => by simp at h⟩
  · injection hcs with hcs _
    subst hcs
    have hml : l ≤ m := by simp at hmm; omega
    have hC : Try.prog.cellsOf 24 = 1 := by kernel_rfl
    have hsp : 0 < l → ad.spot = none := by
      intro h0
      obtain ⟨cs, hc, _⟩ := hi 0 (by omega)
      rw [hC] at hc
      obtain ⟨_, hcl, hat⟩ := World.cells?_some hc
      have c0 := hat 0 (by omega)
      rw [List.getElem?_eq_getElem (by omega)] at c0
      simpa [Addr.add] using World.cell?_spot c0
    have key : ∀ i, ∃ bs : List Nat, i < l → ∃ b off x c, b < W.heap.size ∧ some ad = some ⟨b, off, none⟩ ∧ W.cell? ⟨b, off + i, none⟩ = some (.slice x bs.length c) ∧ bs.length ≤ c ∧ c ≤ 9223372036854775807 ∧ Bytes (fun k => k < W.heap.size) W x bs := by
      intro i
      by_cases hil : i < l
      · obtain ⟨cs, hc, ht⟩ := hi i (by omega)
        rw [hC] at hc
        obtain ⟨_, hcl, hat⟩ := World.cells?_some hc
        have c0 := hat 0 (by omega)
        match cs, hcl with
        | [v0], _ =>
          obtain ⟨x, bs, cap, e, h1, h2, h3, _⟩ := arg_bytes ht
          subst e
          simp at c0
          obtain ⟨b, off, spot⟩ := ad
          have hspot : spot = none := hsp (by omega)
          subst hspot
          simp only [Addr.add_mid] at c0
          exact ⟨bs, fun _ => ⟨b, off, x, cap, by have := World.block_lt_of_cell? W _ c0; simpa using this, rfl, by simpa using c0, h1, h2, h3⟩⟩
      · exact ⟨[], fun h => absurd h hil⟩
    obtain ⟨f, hf⟩ := Classical.skolem.1 key
    refine ⟨some ad, (List.range l).map f, c, by simp, by simpa using hl, hm, fun i o ho => ?_⟩
    have hil : i < l := by have := (List.getElem?_eq_some_iff.1 ho).1; simpa using this
    have : o = f i := by simpa [hil] using ho.symm
    subst this
    exact hf i hil
end
theorem Bytes.below {B : Nat} {w w' : World} {x : Option Addr} {bs : List Nat} (h : Bytes (fun k => k < B) w x bs) (hb : Below B w w') : Bytes (fun k => k < B) w' x bs := by
  refine ⟨h.1, ?_⟩
  rcases h.2 with h0 | ⟨b, off, hp, rfl, hc⟩
  · exact .inl h0
  · refine .inr ⟨b, off, hp, rfl, fun i hi => ?_⟩
    have h1 := hc i hi
    have h2 : w'.heap[b]? = w.heap[b]? := hb.block b hp
    rw [World.cell?_of_block (w := w) (by exact h2)]
    exact h1
end Go.Proofs.Ytflnmgameihglaa.Ln
