/-
  A row of bytes that grows.
-/
import Derived.Test.YtpdopjpibmhamaaDoorE4
import Derived.Test.YtpdopjpibmhamaaDoorE0
import Derived.Lib.SlBytesConst
namespace Go.Proofs.YtpdopjpibmhamaaDoor.Ln
open Go.RowKit
set_option linter.unusedVariables false
set_option linter.unusedSimpArgs false

/-! ### A row of bytes that grows -/
theorem wp_append_runB {o : Oper} {a : Act} {w w' : World} {K : Act → World → Prop} {Q : Exit → Act → World → Prop} {s t : Operand} {T U : TypeId} {v u r : Value} (ho : o.op = .call { callee := .builtin .append, args := #[s, t], argTypes := #[T, U] }) (hs : a.eval s = v) (hx : a.eval t = u)
    (hr : (Builtin.append_ #[T, U] o.type #[v, u]).run Tryd.prog w = .ok r w') (hK : K (a.put o.dst r) w') : o.wp Tryd.prog a w K Q := by
  unfold Oper.wp execOp
  simp only [ho, resolve, invoke, builtin, Sem.run_bind, Sem.run_pure, Result.andThen_ok, List.map_toArray, List.map_cons, List.map_nil, hs, hx, hr]
  exact hK
structure Gr (w0 w : World) (v : Value) (bs : List Nat) : Prop where
  own : Own w v bs
  new : ∀ b, v.ownBlock = some b → w0.heap.size ≤ b
  kp : Keep (fun _ => False) w0 w
theorem Gr.quiet {w0 w w' : World} {v : Value} {bs : List Nat} (h : Gr w0 w v bs) (k : Keep (fun _ => False) w w') : Gr w0 w' v bs := ⟨h.own.keep k (fun _ _ h => h), h.new, h.kp.trans k (fun _ _ h => h)⟩
theorem Gr.of_copy {w0 w w' : World} {g m : Nat} {bs : List Nat} (k0 : Keep (fun _ => False) w0 w) (hm : m = bs.length) (hg : w.heap.size ≤ g) (hat : At w' g 5 (cellsOf bs).toArray) (k : Keep (fun _ => False) w w') (hb : ∀ c ∈ bs, c < 256) (hl : m ≤ 1000000) : Gr w0 w' (.slice (some ⟨g, 0, none⟩) m m) bs := by
  subst hm
  refine ⟨Own.of_at hat hb (by simp only [maxLen]; omega), fun b hb => ?_, k0.trans k (fun _ _ h => h)⟩
  injection hb with hb
  have := k0.size
  simp at hb
  omega
theorem Gr.app {w0 w : World} {v : Value} {bs : List Nat} (h : Gr w0 w v bs) (ty : TypeId) (P : Nat → Prop) (x : Option Addr) (m c : Nat) (cs : List Nat) (hm : cs.length = m) (hB : Bytes P w x cs) (hl : bs.length + m ≤ 1000000) :
    ∃ y n cap w', (Builtin.append_ #[23, 23] ty #[v, .slice x m c]).run Tryd.prog w = .ok (.slice y n cap) w' ∧ n = (bs ++ cs).length ∧ Gr w0 w' (.slice y n cap) (bs ++ cs) ∧ Keep (fun k => v.ownBlock = some k) w w' := by
  obtain ⟨y, cap, w', hr, h2, h3, h4⟩ := run_append_bytes ty w v bs h.own P x m c cs hm hB (by omega)
  have e : bs.length + m = (bs ++ cs).length := by rw [List.length_append, hm]
  rw [e] at hr h2 h4
  refine ⟨y, _, cap, w', hr, rfl, ⟨h2, fun b hb => ?_, h.kp.trans h3 (fun i hi e => by have := h.new i e; omega)⟩, h3⟩
  rcases h4 b hb with h5 | h5
  · exact h.new b h5
  · exact Nat.le_trans h.kp.size h5
theorem Gr.up {w0 w1 w : World} {v : Value} {bs : List Nat} (h : Gr w1 w v bs) (k : Keep (fun _ => False) w0 w1) : Gr w0 w v bs := ⟨h.own, fun b hb => Nat.le_trans k.size (h.new b hb), k.trans h.kp (fun _ _ h => h)⟩
theorem wpList_app {w0 w : World} {ops : Array Oper} {rest : List Oper} {o : Oper} {a : Act} {Q : Exit → Act → World → Prop} (hgd : o.guard = none) (s t : Operand)
    (ho : o.op = .call { callee := .builtin .append, args := #[s, t], argTypes := #[23, 23] })
    (v : Value) (bs : List Nat) (hs : a.eval s = v) (h : Gr w0 w v bs) (P : Nat → Prop) (x : Option Addr) (m c : Nat) (cs : List Nat) (hx : a.eval t = .slice x m c) (hm : cs.length = m) (hB : Bytes P w x cs) (hl : bs.length + m ≤ 1000000)
    (hK : ∀ y n cap w', Hid (n = (bs ++ cs).length) → Gr w0 w' (.slice y n cap) (bs ++ cs) → wpList Tryd.prog ops Q rest (a.put o.dst (.slice y n cap)) w') :
    wpList Tryd.prog ops Q (o :: rest) a w := by
  refine wpList_plain hgd fun K hK' => ?_
  obtain ⟨y, n, cap, w', hr, hn, h2, _⟩ := h.app o.type P x m c cs hm hB hl
  exact wp_append_runB ho hs hx hr (hK' _ _ (hK y n cap w' (Lib.hid hn) h2))
theorem Own.bytesO {w : World} {x : Option Addr} {n cap : Nat} {bs : List Nat} (h : Own w (.slice x n cap) bs) : Bytes (fun _ => True) w x bs ∧ n = bs.length ∧ n ≤ cap := by
  obtain ⟨x', cap', hv, hB⟩ := h.shape
  injection hv with e1 e2 e3
  subst e1 e3
  refine ⟨hB.mono (fun _ _ _ => trivial), e2, ?_⟩
  rcases h.1.2 with ⟨hv, h0⟩ | ⟨g, cap', cur, hv, _, _, hnc, _⟩
  · injection hv with _ e2' e3'
    omega
  · injection hv with _ e2' e3'
    omega

end Go.Proofs.YtpdopjpibmhamaaDoor.Ln
