/-
  The library's variables as they are laid; lines one by one; what a program that does nothing does not answer.
-/
import Derived.Test.YtcjljldknekhiaaGreatDoorQa
import Derived.Test.YtcjljldknekhiaaGreatDoorAFrame
import Derived.Lib.LaidTab
import Derived.Lib.SlBytesConst
import Derived.SevenTiedAt
import Derived.Stop.Joined
import Derived.Deep.DeepHandedRow
namespace Go.Proofs.YtcjljldknekhiaaGreatDoor.Ln
open Go.RowKit
set_option linter.unusedVariables false
set_option linter.unusedSimpArgs false

/-! ### The library's variables -/
theorem laid_tail {P : Program} {n : String} {d : DataW Unit} {r : List (String × DataW Unit)} {w : World} (h : laidMet P ((n, d) :: r) w) : laidMet P r w := by
  obtain ⟨ps, ⟨g, t, cs, fuel, p, q, _, _, _, _, hq, rfl⟩, hnd, hc⟩ := h
  exact ⟨q, hq, (List.nodup_append.1 hnd).2.1, fun b off hm => hc b off (List.mem_append_right _ hm)⟩
theorem laid_size {P : Program} {n : String} {d : DataW Unit} {r : List (String × DataW Unit)} {w : World} {k : Nat} (hk : P.globalNamed n = some k) (h : laidMet P ((n, d) :: r) w) : k < w.heap.size := by
  obtain ⟨ps, ⟨g, t, cs, fuel, p, q, hg, _, hv, _⟩, _⟩ := h
  obtain rfl := Option.some.inj (hk.symm.trans hg)
  unfold World.var? at hv
  rw [hg] at hv
  simp only [Option.bind_some] at hv
  rcases Nat.lt_or_ge k w.heap.size with h' | h'
  · exact h'
  · rw [Array.getElem?_eq_none h'] at hv; simp at hv
theorem env9 (W : World) (hL : laidMetH Tryz.prog Rows.serveNoneRow.laid W) (shape : W.ShapedOpen Tryz.prog) : Env W ∧ 9 ≤ W.heap.size := by
  rw [MakeChecks.laidMetH_plain _ _ _ (by kernel_rfl)] at hL
  have h0 : laidMet Tryz.prog (("math/bits.deBruijn32tab", Rows.laid_math_bits_deBruijn32tab) :: ("math/bits.deBruijn64tab", Rows.laid_math_bits_deBruijn64tab) :: ("internal/strconv.uint64pow10", Rows.laid_internal_strconv_uint64pow10) :: ("unicode/utf8.acceptRanges", Rows.laid_unicode_utf8_acceptRanges) :: ("strconv.ErrRange", Rows.laid_strconv_ErrRange) :: ("strconv.ErrSyntax", Rows.laid_strconv_ErrSyntax) :: [("unicode.CaseRanges", Rows.laid_unicode_CaseRanges), ("unicode/utf8.first", Rows.laid_unicode_utf8_first)]) W := hL
  have h2 := laid_tail (laid_tail h0)
  have h4 := laid_tail (laid_tail h2)
  have h5 := laid_tail h4
  refine ⟨⟨Ad.maxLen_some W shape, ?_⟩, ?_⟩
  · exact Lib.tabIs_of_head (k := .u64) (zs := Lib.pow10Tab) (g := 1) (t := 133) (e := 112) (n := 20) (by kernel_rfl) (by kernel_rfl) (by kernel_rfl) (by kernel_rfl) (by kernel_rfl) (by kernel_rfl) h2
  · have a : 8 < W.heap.size := by
      first
        | exact laid_size (k := 8) (by kernel_rfl) h4
        | exact laid_size (k := 8) (by kernel_rfl) h5
    exact a

/-! ### Lines one by one -/
theorem pos_line {l r : List Nat} (h : ∀ c ∈ l, c ≠ 13) : pos (l ++ [13, 10] ++ r) = some l.length := by
  refine pos_more ?_ r
  have := pos_end h
  rwa [List.append_assoc] at this
theorem go_line {V : ByteArray → VC} {s : Se} {l r : List Nat} (h5 : s.st < 5) (hw : s.wait = l ++ [13, 10] ++ r) (h : ∀ c ∈ l, c ≠ 13) : s.go V = (Se.line V { s with wait := r } l).go V := by
  have hp : pos s.wait = some l.length := by rw [hw]; exact pos_line h
  rw [go_some h5 hp]
  have e1 : s.wait.take l.length = l := by rw [hw, List.append_assoc, List.take_left]
  have e2 : s.cut l.length = { s with wait := r } := by
    unfold Se.cut
    rw [hw, show l.length + 2 = (l ++ [13, 10]).length by simp, List.drop_left]
  rw [e1, e2]

/-! ### A program that does nothing -/
theorem reply250 : reply 250 = { data := #[50, 53, 48, 32, 111, 107, 13, 10] } := by
  have : dig 250 = [50, 53, 48] := by
    rw [dig, if_neg (by decide), dig, if_neg (by decide), dig, if_pos (by decide)]
    rfl
  rw [reply, this]
  rfl
theorem hostMx : host9 { data := #[77, 120] } = { data := #[109, 120] } := by kernel_rfl
theorem V9_noop : V9 (str [78, 79, 79, 80]) = ⟨nNOOP, nobody, -1, 0⟩ := by kernel_rfl
def mxSe : Se := Se.new { data := #[109, 120] } 99
theorem hello_mx : hello { data := #[109, 120] } = { data := #[50, 50, 48, 32, 109, 120, 13, 10] } := by kernel_rfl
theorem mx_out : mxSe.out = [.say { data := #[50, 50, 48, 32, 109, 120, 13, 10] }] := by
  show [Ev.say (hello { data := #[109, 120] })] = _
  rw [hello_mx]
theorem mx_go : mxSe.go V9 = mxSe := go_none rfl
theorem mx_noop : (mxSe.pop.fed [78, 79, 79, 80, 13, 10]).go V9 = (mxSe.pop.say (reply 250)) := by
  have h1 : (mxSe.pop.fed [78, 79, 79, 80, 13, 10]).go V9 = (Se.line V9 { (mxSe.pop.fed [78, 79, 79, 80, 13, 10]) with wait := [] } [78, 79, 79, 80]).go V9 := go_line (l := [78, 79, 79, 80]) (r := []) (by decide) rfl (by decide)
  rw [h1]
  have h2 : Se.line V9 { (mxSe.pop.fed [78, 79, 79, 80, 13, 10]) with wait := [] } [78, 79, 79, 80] = mxSe.pop.say (reply 250) := by
    unfold Se.line Se.command
    rw [if_neg (by decide), if_neg (by decide), V9_noop, if_neg (by decide)]
    rfl
  rw [h2]
  exact go_none rfl
theorem say_is {E : Nat → Prop} {w : World} {t : ByteArray} {k : Int} {u f : ByteArray} {rx bx : Option Addr} {rn rc bn bc : Nat} (h : EvAt E w (.say t) (evCells k u f (.slice rx rn rc) (.slice bx bn bc))) : k = 1 ∧ u = t := ⟨h.parts.1, h.parts.2.1⟩

/-! ### An event that a law lays down -/
def laidE (w : World) (k : Int) (t f : ByteArray) (rx bx : Option Addr) (rn rc bn bc : Nat) : World := (w.alloc (.cells #[.int .i64 0, .string { data := #[] }, .int .i64 0, .int .i64 0, .int .i64 0, .string { data := #[] }, .slice none 0 0, .slice none 0 0] 46)).setRow w.heap.size (evA k t f rx rn rc bx bn bc)
theorem laidE_at (w : World) (k : Int) (t f : ByteArray) (rx bx : Option Addr) (rn rc bn bc : Nat) : At (laidE w k t f rx bx rn rc bn bc) w.heap.size 46 (evA k t f rx rn rc bx bn bc) := (At.new w 46 _).setRow _
theorem laidE_keep (w : World) (k : Int) (t f : ByteArray) (rx bx : Option Addr) (rn rc bn bc : Nat) : Keep (fun _ => False) w (laidE w k t f rx bx rn rc bn bc) := ((Keep.refl (fun _ => False) w).alloc _).setRow (fun h => absurd h (Nat.lt_irrefl _)) _
theorem laidE_cells (w : World) (k : Int) (t f : ByteArray) (rx bx : Option Addr) (rn rc bn bc : Nat) : (laidE w k t f rx bx rn rc bn bc).cell? ⟨w.heap.size, 0, none⟩ = some (.int .i64 k) ∧ (laidE w k t f rx bx rn rc bn bc).cell? ⟨w.heap.size, 1, none⟩ = some (.string t) := ⟨(laidE_at w k t f rx bx rn rc bn bc).cell 0, (laidE_at w k t f rx bx rn rc bn bc).cell 1⟩
theorem step_laidE {ops : Array Oper} {rest : List Oper} {o : Oper} {a : Act} {w0 : World} {Q : Exit → Act → World → Prop} (hgd : o.guard = none) (x y : Operand) (ho : o.op = .store 46 x y) (w : World) (hw0 : w0 = w.alloc (.cells #[.int .i64 0, .string { data := #[] }, .int .i64 0, .int .i64 0, .int .i64 0, .string { data := #[] }, .slice none 0 0, .slice none 0 0] 46))
    (k : Int) (t f : ByteArray) (rx bx : Option Addr) (rn rc bn bc : Nat) (W : World) (hW : W = laidE w k t f rx bx rn rc bn bc) (hx : a.eval x = .pointer (some ⟨w.heap.size, 0, none⟩)) (hy : a.eval y = .agg (evA k t f rx rn rc bx bn bc))
    (h : wpList Tryz.prog ops Q rest (a.put o.dst undef) W) : wpList Tryz.prog ops Q (o :: rest) a w0 := by
  subst hw0
  exact wpList_store_row hgd 46 x y ho w.heap.size (evA k t f rx rn rc bx bn bc) hx hy 46 _ (At.new w 46 _) infoE rfl (evs_one _ _ _ _ _ _ _ _ _) (by rw [hW] at h; exact h)
theorem laid_ev (w : World) (k : Int) (t f : ByteArray) (rx bx : Option Addr) (rn rc bn bc : Nat) : ∃ W V, Hid (W = laidE w k t f rx bx rn rc bn bc) ∧ Hid (V = Value.agg (evA k t f rx rn rc bx bn bc)) ∧ Keep (fun _ => False) w W ∧ At W w.heap.size 46 (evA k t f rx rn rc bx bn bc) :=
  ⟨_, _, Lib.hid rfl, Lib.hid rfl, laidE_keep w k t f rx bx rn rc bn bc, laidE_at w k t f rx bx rn rc bn bc⟩
end Go.Proofs.YtcjljldknekhiaaGreatDoor.Ln
