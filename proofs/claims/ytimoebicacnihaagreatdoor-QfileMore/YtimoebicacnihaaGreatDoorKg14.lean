/-
  Several texts in one: HArgs HW HV.
-/
import Derived.Test.YtimoebicacnihaaGreatDoorKg12
import Derived.Test.YtimoebicacnihaaGreatDoorKg13
import Derived.Deep.Slices
import Derived.Deep.Fields
import Derived.SizedLaws
import Derived.Deep.Cut

section
/-
  Arguments opened: a slice of bytes, a mark, a slice of marks.
-/
namespace Go.Proofs.YtimoebicacnihaaGreatDoor.Ln
open Go.RowKit Go.ChangeShapes Go.WideShapes Go.Deep
set_option linter.unusedVariables false
set_option linter.unusedSimpArgs false

section
variable {H : Type} {enc : TypeId × Value → H} {W : World}
set_option maxRecDepth 100000 in
theorem trod_mark {fuel : Nat} {cs : List Value} {x : DataW H × List MemPlace} (hl : cs.length = 3) (h : DataW.trod enc Tryz.prog W 0 (fun _ => true) true fuel 57 cs = some x) : ∃ k : Mk, cs = mkL k := by
  have o3 : Tryz.prog.cellsOf 3 = 1 := by kernel_rfl
  obtain ⟨ys, k, _, _, hlen, hyl, hf⟩ := DataW.trod_struct Tryz.underlying57 h
  match cs, hl with
  | [v0, v1, v2], _ =>
    have f0 := hf 0 _ rfl
    have f1 := hf 1 _ rfl
    have f2 := hf 2 _ rfl
    simp [o3] at f0 f1 f2
    have hg : ∀ i, i < 3 → ∃ y, ys[i]? = some y := fun i hi => ⟨ys[i]'(by rw [hyl]; exact hi), List.getElem?_eq_getElem _⟩
    obtain ⟨y0, h0⟩ := hg 0 (by decide)
    obtain ⟨y1, h1⟩ := hg 1 (by decide)
    obtain ⟨y2, h2⟩ := hg 2 (by decide)
    rw [h0] at f0
    rw [h1] at f1
    rw [h2] at f2
    obtain ⟨z0, e0, _, _⟩ := DataW.trod_int Tryz.underlying3 f0
    obtain ⟨z1, e1, _, _⟩ := DataW.trod_int Tryz.underlying3 f1
    obtain ⟨z2, e2, _, _⟩ := DataW.trod_int Tryz.underlying3 f2
    injection e0 with e0 _
    injection e1 with e1 _
    injection e2 with e2 _
    subst e0 e1 e2
    exact ⟨⟨z0, z1, z2⟩, rfl⟩
set_option maxRecDepth 100000 in
theorem arg_mark {fuel : Nat} {cs : Array Value} {x : DataW H × List MemPlace} (h : DataW.trod enc Tryz.prog W 0 (fun _ => true) true fuel 57 cs.toList = some x) : ∃ k : Mk, cs = mkC k := by
  have hC : Tryz.prog.cellsOf 57 = 3 := by kernel_rfl
  have hlen : cs.toList.length = 3 := by
    obtain ⟨ys, k, _, _, hlen, _, _⟩ := DataW.trod_struct Tryz.underlying57 h
    rw [hlen, hC]
  obtain ⟨k, hk⟩ := trod_mark hlen h
  refine ⟨k, ?_⟩
  apply Array.ext'
  rw [hk]
  rfl
set_option maxRecDepth 100000 in
theorem arg_marks {fuel : Nat} {v : Value} {x : DataW H × List MemPlace} (h : DataW.trod enc Tryz.prog W 0 (fun _ => true) true fuel 26 [v] = some x) :
    ∃ a L cap, v = .slice a L.length cap ∧ L.length ≤ cap ∧ cap ≤ 9223372036854775807 ∧ MkP (fun k => k < W.heap.size) W a L ∧ ((∀ n ∈ x.1.weights Tryz.prog 26, n ≤ reachBytes) → cap * 24 ≤ 140737488351232) := by
  rcases open_slice Tryz.underlying26 h with ⟨hcs, _⟩ | ⟨ad, l, c, m, n, D, Pl, hcs, _, hl, hm, hmm, hx, hi⟩
  · injection hcs with hcs _
    subst hcs
    exact ⟨none, [], 0, rfl, Nat.le_refl _, by omega, StP.nil _ _ _, fun _ => by omega⟩
  · injection hcs with hcs _
    subst hcs
    have hmc : m = c := by simpa using hmm
    have hml : l ≤ m := by omega
    have hC : Tryz.prog.cellsOf 57 = 3 := by kernel_rfl
    have hb : Tryz.prog.bytesOf 57 = 24 := by kernel_rfl
    have hsp : 0 < l → ad.spot = none := by
      intro h0
      obtain ⟨cs, hc, _⟩ := hi 0 (by omega)
      rw [hC] at hc
      obtain ⟨_, hcl, hat⟩ := World.cells?_some hc
      have c0 := hat 0 (by omega)
      rw [List.getElem?_eq_getElem (by omega)] at c0
      simpa [Addr.add] using World.cell?_spot c0
    have key : ∀ i, ∃ k : Mk, i < l → ∃ b off, b < W.heap.size ∧ some ad = some ⟨b, off, none⟩ ∧ ∀ j, j < 3 → W.cell? ⟨b, off + i * 3 + j, none⟩ = (mkL k)[j]? := by
      intro i
      by_cases hil : i < l
      · obtain ⟨cs, hc, ht⟩ := hi i (by omega)
        rw [hC] at hc
        obtain ⟨_, hcl, hat⟩ := World.cells?_some hc
        obtain ⟨k, rfl⟩ := trod_mark hcl ht
        have c0 := hat 0 (by omega)
        have hspot : ad.spot = none := hsp (by omega)
        obtain ⟨b, off, spot⟩ := ad
        have hspot' : spot = none := hspot
        subst hspot'
        refine ⟨k, fun _ => ⟨b, off, ?_, rfl, fun j hj => ?_⟩⟩
        · have c0' : W.cell? ⟨b, off + i * 3, none⟩ = some (.int .i64 k.kind) := by simpa [mkL, Addr.add_mid] using c0
          exact World.block_lt_of_cell? W _ c0'
        · have := hat j hj
          simpa [Addr.add_mid] using this
      · exact ⟨⟨0, 0, 0⟩, fun h => absurd h hil⟩
    obtain ⟨f, hf⟩ := Classical.skolem.1 key
    refine ⟨some ad, (List.range l).map f, c, by simp, by simpa using hl, hm, fun i k hk => ?_, fun hw => ?_⟩
    · have hil : i < l := by have := (List.getElem?_eq_some_iff.1 hk).1; simpa using this
      have : k = f i := by simpa [hil] using hk.symm
      subst this
      obtain ⟨b, off, h1, h2, h3⟩ := hf i hil
      exact ⟨b, off, h1, h1, h2, h3⟩
    · have := hw ((((List.range l).map D).length + ((List.range (m - l)).map fun j => D (l + j)).length) * 24) (by
        rw [hx]
        simp [DataW.weights, Tryz.underlying26, hb])
      simp at this
      have e : reachBytes = 140737488351232 := by decide
      omega
end
end Go.Proofs.YtimoebicacnihaaGreatDoor.Ln
end

section
/-
  Appends of bytes without a small bound; a row of bytes that is written into; turned bytes.
-/
namespace Go.Proofs.YtimoebicacnihaaGreatDoor.Ln
open Go.RowKit
set_option linter.unusedVariables false
set_option linter.unusedSimpArgs false

set_option maxRecDepth 100000 in
theorem run_append_bytesW (ty : TypeId) (w : World) (v : Value) (bs : List Nat) (hown : Own w v bs) (P : Nat → Prop) (x : Option Addr) (m c : Nat) (cs : List Nat) (hm : cs.length = m) (h : Bytes P w x cs) (hl : bs.length + m ≤ 140737488355328) :
    ∃ y cap w', (Builtin.append_ #[23, 23] ty #[v, .slice x m c]).run Tryz.prog w = .ok (.slice y (bs.length + m) cap) w' ∧ Own w' (.slice y (bs.length + m) cap) (bs ++ cs) ∧
      Keep (fun k => v.ownBlock = some k) w w' ∧ New w v.ownBlock (Value.ownBlock (.slice y (bs.length + m) cap)) := by
  obtain ⟨i0, hi, hz0, hz1, hz2⟩ := info_parts info5
  subst hm
  rcases x with _ | ad
  · have hn : cs = [] := by
      rcases h.2 with h0 | ⟨b, off, _, hx, _⟩
      · exact h0
      · cases hx
    subst hn
    obtain ⟨y, cap, rfl, _⟩ := hown.shape
    refine ⟨y, cap, w, ?_, by simpa using hown, Keep.refl _ _, by simpa using New.refl w _⟩
    rcases hown.1.2 with ⟨h1, h2⟩ | ⟨g, cap', cur, h1, _, _, hnc, _⟩
    · injection h1 with e1 e2 e3
      subst e1 e3
      simp [Builtin.append_, run_underlying Tryz.underlying23, sizeOf, typeInfo, hi, Builtin.lenOf, Builtin.firstCells, h2]
    · injection h1 with e1 e2 e3
      subst e1 e3
      simp [Builtin.append_, run_underlying Tryz.underlying23, sizeOf, typeInfo, hi, Builtin.lenOf, Builtin.firstCells, hnc, storeCells]
  · obtain ⟨v', w', hr, h2, h3, _, h5⟩ := run_append_own_at (P := Tryz.prog) w 0 23 ty 5 i0 _ 1 1 Tryz.underlying23 hi hz0 hz1 hz2 rfl (by omega) v bs.length (cellsOf bs) hown.1 ad cs.length c (cellsOf cs) (by simp [cellsOf_length]) h.news (cellsOf_one cs) (by simp only [maxLen]; omega) (by omega) (Nat.zero_le _)
    have hO : Own w' v' (bs ++ cs) := ⟨by rw [cellsOf_append, List.length_append]; exact h2, fun c hc => by
      rcases List.mem_append.1 hc with hc | hc
      · exact hown.2 c hc
      · exact h.1 c hc⟩
    obtain ⟨y, cap, rfl, _⟩ := hO.shape
    rw [List.length_append] at hr hO h5
    refine ⟨y, cap, w', hr, hO, (Keep.refl _ w).grown h3 (fun k hk _ => hk), fun k hk => ?_⟩
    rcases h5 with h5 | h5
    · exact .inl (h5.symm.trans hk)
    · rw [h5] at hk
      injection hk with hk
      exact .inr (by omega)


theorem Gr.appW {w0 w : World} {v : Value} {bs : List Nat} (h : Gr w0 w v bs) (ty : TypeId) (P : Nat → Prop) (x : Option Addr) (m c : Nat) (cs : List Nat) (hm : cs.length = m) (hB : Bytes P w x cs) (hl : bs.length + m ≤ 140737488355328) :
    ∃ y n cap w', (Builtin.append_ #[23, 23] ty #[v, .slice x m c]).run Tryz.prog w = .ok (.slice y n cap) w' ∧ n = (bs ++ cs).length ∧ Gr w0 w' (.slice y n cap) (bs ++ cs) ∧ Keep (fun k => v.ownBlock = some k) w w' := by
  obtain ⟨y, cap, w', hr, h2, h3, h4⟩ := run_append_bytesW ty w v bs h.own P x m c cs hm hB (by omega)
  have e : bs.length + m = (bs ++ cs).length := by rw [List.length_append, hm]
  rw [e] at hr h2 h4
  refine ⟨y, _, cap, w', hr, rfl, ⟨h2, fun b hb => ?_, h.kp.trans h3 (fun i hi e => by have := h.new i e; omega)⟩, h3⟩
  rcases h4 b hb with h5 | h5
  · exact h.new b h5
  · exact Nat.le_trans h.kp.size h5
theorem wpList_appW {w0 w : World} {ops : Array Oper} {rest : List Oper} {o : Oper} {a : Act} {Q : Exit → Act → World → Prop} (hgd : o.guard = none) (s t : Operand)
    (ho : o.op = .call { callee := .builtin .append, args := #[s, t], argTypes := #[23, 23] })
    (v : Value) (bs : List Nat) (hs : a.eval s = v) (h : Gr w0 w v bs) (P : Nat → Prop) (x : Option Addr) (m c : Nat) (cs : List Nat) (hx : a.eval t = .slice x m c) (hm : cs.length = m) (hB : Bytes P w x cs) (hl : bs.length + m ≤ 140737488355328)
    (hK : ∀ y n cap w', Hid (n = (bs ++ cs).length) → Gr w0 w' (.slice y n cap) (bs ++ cs) → wpList Tryz.prog ops Q rest (a.put o.dst (.slice y n cap)) w') :
    wpList Tryz.prog ops Q (o :: rest) a w := by
  refine wpList_plain hgd fun K hK' => ?_
  obtain ⟨y, n, cap, w', hr, hn, h2, _⟩ := h.appW o.type P x m c cs hm hB hl
  exact wp_append_runB ho hs hx hr (hK' _ _ (hK y n cap w' (Lib.hid hn) h2))
/-! ### A row that is written into -/
theorem marksM_le (b : List Nat) : (marksM b).length ≤ 4096 := by
  have key : ∀ (f : Nat) (b : List Nat), (marksN f b).length ≤ f := fun f => by
    induction f with
    | zero => intro b; simp [marksN]
    | succ f ih =>
      intro b
      rw [marksN]
      split
      · have := ih (b.drop 28)
        simp only [List.length_cons]
        omega
      · simp
  exact key 4096 b
theorem xorB (c t : Nat) (hc : c < 256) (ht : t < 256) : bits .xor .u8 (c : Int) (t : Int) = ((c ^^^ t : Nat) : Int) := u8_xor_nat c t hc ht
theorem set_lt {bs : List Nat} (h : ∀ c ∈ bs, c < 256) (k v : Nat) (hv : v < 256) : ∀ c ∈ bs.set k v, c < 256 := fun c hc => by
  rcases List.mem_or_eq_of_mem_set hc with h1 | h1
  · exact h c h1
  · omega
end Go.Proofs.YtimoebicacnihaaGreatDoor.Ln
end

section
/-
  Rows of marks of the call's own; cuts of such rows.
-/
namespace Go.Proofs.YtimoebicacnihaaGreatDoor.Ln
open Go.RowKit
set_option linter.unusedVariables false
set_option linter.unusedSimpArgs false

theorem cut_pre_mk (x : Option Addr) (L C n : Nat) (hn : n ≤ C) :
    (∀ w, (Instr.slice 26 (.slice x L C) none (some (.int .i64 (n : Int))) none).run Tryz.prog w = .ok (.slice x n C) w) ∧
    (∀ w, (Instr.sliceAt 26 (.slice x L C) none (some (.int .i64 (n : Int))) none).run Tryz.prog w = .ok (.slice x n C) w) := by
  obtain ⟨i0, hi, hz0, hz1, hz2⟩ := info_parts infoK
  have h1 : (n : Int) ≤ (C : Int) := by omega
  have r : ∀ w, (Instr.slice 26 (.slice x L C) none (some (.int .i64 (n : Int))) none).run Tryz.prog w = .ok (.slice x n C) w := by
    intro w
    have hb : ∀ code, (Instr.sliceBound (.int .i64 (n : Int)) C code).run Tryz.prog w = .ok n w := by
      intro code; simp [Instr.sliceBound, asIntOf, h1]
    have e : (if C = 0 then x else x.map (fun a => a.add 0)) = x := by
      rcases x with _ | a <;> simp [Addr.add]
    simp [Instr.slice, run_underlying Tryz.underlying26, Instr.sliceBounds, hb, sizeOf, typeInfo, hi]
    simpa using e
  refine ⟨r, fun w => ?_⟩
  rw [← r w]
  simp [Instr.sliceAt, run_underlying Tryz.underlying26]

/-! ### Marks of one's own -/
structure Mo (w wr : World) (y : Option Addr) (n c : Nat) (q : Option Nat) (L : List Mk) : Prop where
  own : MkO wr (.slice y n c) q L
  new : ∀ b, q = some b → w.heap.size ≤ b
  kp : Keep (fun _ => False) w wr
theorem Mo.start {w wr : World} (k : Keep (fun _ => False) w wr) (y : Option Addr) : Mo w wr y 0 0 none [] := ⟨StO.empty _ _ _ _ _, fun b h => (by cases h), k⟩
theorem Mo.quiet {w wr w' : World} {y : Option Addr} {n c : Nat} {q : Option Nat} {L : List Mk} (h : Mo w wr y n c q L) (k : Keep (fun _ => False) wr w') : Mo w w' y n c q L := ⟨MidG.keep h.own k (fun _ _ h => h), h.new, h.kp.trans k (fun _ _ h => h)⟩
theorem Mo.app {w wr w' : World} {y y' : Option Addr} {n c n' c' : Nat} {q q' : Option Nat} {L M : List Mk} (h : Mo w wr y n c q L) (ho : MkO w' (.slice y' n' c') q' (L ++ M)) (kp : Keep (fun j => q = some j) wr w') (hn : New wr q q') : Mo w w' y' n' c' q' (L ++ M) :=
  ⟨ho, fun b hb => by
    rcases hn b hb with h1 | h1
    · exact h.new b h1
    · exact Nat.le_trans h.kp.size h1, h.kp.trans kp (fun i hi e => by have := h.new i e; omega)⟩
theorem Mo.row {w wr : World} {y : Option Addr} {n c : Nat} {q : Option Nat} {L : List Mk} (h : Mo w wr y n c q L) : n = L.length ∧ n ≤ c ∧ MkP (fun b => q = some b) wr y L := by
  obtain ⟨x, c', hv, hc, hp⟩ := StO.row mkL_len h.own
  injection hv with e1 e2 e3
  subst e1 e3
  exact ⟨e2, by omega, hp⟩
theorem filter_snoc (p : Mk → Bool) (x : List Mk) (k : Nat) (hk : k < x.length) : (x.take (k + 1)).filter p = (x.take k).filter p ++ (if p x[k] = true then [x[k]] else []) := by
  rw [List.take_succ_eq_append_getElem hk, List.filter_append]
  congr 1
  by_cases h : p x[k] = true
  · simp [h]
  · simp [h]
theorem filter_len (p : Mk → Bool) (x : List Mk) (k : Nat) : ((x.take k).filter p).length ≤ k := Nat.le_trans (List.length_filter_le _ _) (by rw [List.length_take]; omega)
theorem cnt8 : cntF 8 = 8 := by decide
theorem ft_get (N : Nat) (L : List Mk) (i : Nat) (hi : i < (fatesM N L).length) : (fatesM N L)[i] = (fatesM N L).getD i ft0 := by simp [List.getD_eq_getElem?_getD, hi]
end Go.Proofs.YtimoebicacnihaaGreatDoor.Ln
end
