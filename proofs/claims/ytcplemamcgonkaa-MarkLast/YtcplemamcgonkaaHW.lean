/-
  Appends of bytes without a small bound; a row of bytes that is written into; turned bytes.
-/
import Derived.Test.YtcplemamcgonkaaHArgs
import Derived.Deep.Cut
namespace Go.Proofs.Ytcplemamcgonkaa.Ln
open Go.RowKit
set_option linter.unusedVariables false
set_option linter.unusedSimpArgs false

set_option maxRecDepth 100000 in
theorem run_append_bytesW (ty : TypeId) (w : World) (v : Value) (bs : List Nat) (hown : Own w v bs) (P : Nat → Prop) (x : Option Addr) (m c : Nat) (cs : List Nat) (hm : cs.length = m) (h : Bytes P w x cs) (hl : bs.length + m ≤ 140737488355328) :
    ∃ y cap w', (Builtin.append_ #[24, 24] ty #[v, .slice x m c]).run Try.prog w = .ok (.slice y (bs.length + m) cap) w' ∧ Own w' (.slice y (bs.length + m) cap) (bs ++ cs) ∧
      Keep (fun k => v.ownBlock = some k) w w' ∧ New w v.ownBlock (Value.ownBlock (.slice y (bs.length + m) cap)) := by
  obtain ⟨i0, hi, hz0, hz1, hz2⟩ := info_parts info5
  subst hm
  rcases x with _ | ad
  · have hn : cs = [] := by
      rcases h.2 with h0 | ⟨b, off, _, hx, _⟩
      · exact h0
      · cases hx
    subst hn
    obtain ⟨y, cap, rfl, _⟩ := hown.shape
    refine ⟨y, cap, w, ?_, by simpa using hown, Keep.refl _ _, by simpa using New.refl w _⟩
    rcases hown.1.2 with ⟨h1, h2⟩ | ⟨g, cap', cur, h1, _, _, hnc, _⟩
    · injection h1 with e1 e2 e3
      subst e1 e3
      simp [Builtin.append_, run_underlying Try.underlying24, sizeOf, typeInfo, hi, Builtin.lenOf, Builtin.firstCells, h2]
    · injection h1 with e1 e2 e3
      subst e1 e3
      simp [Builtin.append_, run_underlying Try.underlying24, sizeOf, typeInfo, hi, Builtin.lenOf, Builtin.firstCells, hnc, storeCells]
  · obtain ⟨v', w', hr, h2, h3, _, h5⟩ := run_append_own_at (P := Try.prog) w 0 24 ty 5 i0 _ 1 1 Try.underlying24 hi hz0 hz1 hz2 rfl (by omega) v bs.length (cellsOf bs) hown.1 ad cs.length c (cellsOf cs) (by simp [cellsOf_length]) h.news (cellsOf_one cs) (by simp only [maxLen]; omega) (by omega) (Nat.zero_le _)
    have hO : Own w' v' (bs ++ cs) := ⟨by rw [cellsOf_append, List.length_append]; exact h2, fun c hc => by
      rcases List.mem_append.1 hc with hc | hc
      · exact hown.2 c hc
      · exact h.1 c hc⟩
    obtain ⟨y, cap, rfl, _⟩ := hO.shape
    rw [List.length_append] at hr hO h5
    refine ⟨y, cap, w', hr, hO, (Keep.refl _ w).grown h3 (fun k hk _ => hk), fun k hk => ?_⟩
    rcases h5 with h5 | h5
    · exact .inl (h5.symm.trans hk)
    · rw [h5] at hk
      injection hk with hk
      exact .inr (by omega)


theorem Gr.appW {w0 w : World} {v : Value} {bs : List Nat} (h : Gr w0 w v bs) (ty : TypeId) (P : Nat → Prop) (x : Option Addr) (m c : Nat) (cs : List Nat) (hm : cs.length = m) (hB : Bytes P w x cs) (hl : bs.length + m ≤ 140737488355328) :
    ∃ y n cap w', (Builtin.append_ #[24, 24] ty #[v, .slice x m c]).run Try.prog w = .ok (.slice y n cap) w' ∧ n = (bs ++ cs).length ∧ Gr w0 w' (.slice y n cap) (bs ++ cs) ∧ Keep (fun k => v.ownBlock = some k) w w' := by
  obtain ⟨y, cap, w', hr, h2, h3, h4⟩ := run_append_bytesW ty w v bs h.own P x m c cs hm hB (by omega)
  have e : bs.length + m = (bs ++ cs).length := by rw [List.length_append, hm]
  rw [e] at hr h2 h4
  refine ⟨y, _, cap, w', hr, rfl, ⟨h2, fun b hb => ?_, h.kp.trans h3 (fun i hi e => by have := h.new i e; omega)⟩, h3⟩
  rcases h4 b hb with h5 | h5
  · exact h.new b h5
  · exact Nat.le_trans h.kp.size h5
theorem wpList_appW {w0 w : World} {ops : Array Oper} {rest : List Oper} {o : Oper} {a : Act} {Q : Exit → Act → World → Prop} (hgd : o.guard = none) (s t : Operand)
    (ho : o.op = .call { callee := .builtin .append, args := #[s, t], argTypes := #[24, 24] })
    (v : Value) (bs : List Nat) (hs : a.eval s = v) (h : Gr w0 w v bs) (P : Nat → Prop) (x : Option Addr) (m c : Nat) (cs : List Nat) (hx : a.eval t = .slice x m c) (hm : cs.length = m) (hB : Bytes P w x cs) (hl : bs.length + m ≤ 140737488355328)
    (hK : ∀ y n cap w', Hid (n = (bs ++ cs).length) → Gr w0 w' (.slice y n cap) (bs ++ cs) → wpList Try.prog ops Q rest (a.put o.dst (.slice y n cap)) w') :
    wpList Try.prog ops Q (o :: rest) a w := by
  refine wpList_plain hgd fun K hK' => ?_
  obtain ⟨y, n, cap, w', hr, hn, h2, _⟩ := h.appW o.type P x m c cs hm hB hl
  exact wp_append_runB ho hs hx hr (hK' _ _ (hK y n cap w' (Lib.hid hn) h2))
/-! ### A row that is written into -/
def RowB (w : World) (g : Nat) (bs : List Nat) : Prop := ∃ cur : Array Value, At w g 5 cur ∧ ∀ i, i < bs.length → cur[i]? = some (.int .u8 ((bs.getD i 0 : Nat) : Int))
theorem Own.rowB {w : World} {x : Option Addr} {n cap : Nat} {bs : List Nat} (h : Own w (.slice x n cap) bs) (h0 : 0 < bs.length) : ∃ g, x = some ⟨g, 0, none⟩ ∧ (Value.slice x n cap).ownBlock = some g ∧ n = bs.length ∧ n ≤ cap ∧ RowB w g bs := by
  rcases h.1.2 with ⟨hv, h1⟩ | ⟨g, cap', cur, hv, _, hg, hnc, hm, hs, ht⟩
  · omega
  · injection hv with e1 e2 e3
    subst e1 e2 e3
    refine ⟨g, rfl, rfl, rfl, hnc, cur, hg, fun i hi => ?_⟩
    rw [← cellsOf_at bs i hi, ← ht, Nat.mul_one, List.getElem?_take, if_pos hi, Array.getElem?_toList]
theorem RowB.cell {w : World} {g : Nat} {bs : List Nat} (h : RowB w g bs) {i : Nat} (hi : i < bs.length) : w.cell? ⟨g, i, none⟩ = some (.int .u8 ((bs.getD i 0 : Nat) : Int)) ∧ w.frozen? ⟨g, i, none⟩ = false ∧ g < w.heap.size := by
  obtain ⟨cur, h1, h2⟩ := h
  exact ⟨(h1.cell i).trans (h2 i hi), h1.frozen i, h1.lt⟩
theorem RowB.put {w : World} {g : Nat} {bs : List Nat} (h : RowB w g bs) (i : Nat) (hi : i < bs.length) (c : Nat) : RowB (w.setCell ⟨g, i, none⟩ (.int .u8 (c : Int))) g (bs.set i c) := by
  obtain ⟨cur, h1, h2⟩ := h
  refine ⟨_, h1.put i _, fun j hj => ?_⟩
  rw [List.length_set] at hj
  have hic : i < cur.size := by
    have := h2 i hi
    exact (Array.getElem?_eq_some_iff.1 this).1
  rw [Array.getElem?_setIfInBounds]
  by_cases hij : i = j
  · subst hij
    simp [hic, List.getD_eq_getElem?_getD, hi]
  · rw [if_neg hij, h2 j hj, List.getD_eq_getElem?_getD, List.getD_eq_getElem?_getD, List.getElem?_set_ne hij]
theorem RowB.keep {S : Nat → Prop} {w w' : World} {g : Nat} {bs : List Nat} (h : RowB w g bs) (k : Keep S w w') (hs : ¬ S g) : RowB w' g bs := by
  obtain ⟨cur, h1, h2⟩ := h
  exact ⟨cur, h1.keep k hs, h2⟩
theorem RowB.bytes {w : World} {g : Nat} {bs : List Nat} (h : RowB w g bs) (hb : ∀ c ∈ bs, c < 256) : Bytes (fun b => b = g) w (some ⟨g, 0, none⟩) bs := by
  refine ⟨hb, .inr ⟨g, 0, rfl, rfl, fun i hi => ?_⟩⟩
  rw [Nat.zero_add]
  exact (h.cell hi).1
theorem gr_none (w : World) : Gr w (w.alloc (.cells #[] 5)) (.slice (some ⟨w.heap.size, 0, none⟩) 0 0) [] :=
  ⟨Own.made w [] (by simp) (by decide), fun b hb => by simp [Value.ownBlock] at hb; omega, keep_new w _⟩

theorem marksM_le (b : List Nat) : (marksM b).length ≤ 4096 := by
  have key : ∀ (f : Nat) (b : List Nat), (marksN f b).length ≤ f := fun f => by
    induction f with
    | zero => intro b; simp [marksN]
    | succ f ih =>
      intro b
      rw [marksN]
      split
      · have := ih (b.drop 28)
        simp only [List.length_cons]
        omega
      · simp
  exact key 4096 b
theorem xorB (c t : Nat) (hc : c < 256) (ht : t < 256) : bits .xor .u8 (c : Int) (t : Int) = ((c ^^^ t : Nat) : Int) := u8_xor_nat c t hc ht
theorem set_lt {bs : List Nat} (h : ∀ c ∈ bs, c < 256) (k v : Nat) (hv : v < 256) : ∀ c ∈ bs.set k v, c < 256 := fun c hc => by
  rcases List.mem_or_eq_of_mem_set hc with h1 | h1
  · exact h c h1
  · omega
end Go.Proofs.Ytcplemamcgonkaa.Ln
