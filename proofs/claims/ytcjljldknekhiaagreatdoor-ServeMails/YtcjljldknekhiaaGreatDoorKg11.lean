/-
  Several texts in one: Qa Qb Qc Qd Ar Qe.
-/
import Derived.Test.YtcjljldknekhiaaGreatDoorKg10
import Derived.BigQuiet
import Derived.Test.YtcjljldknekhiaaGreatDoorKg4
import Derived.Lib.LaidTab
import Derived.Lib.SlBytesConst
import Derived.SevenTiedAt
import Derived.Stop.Joined
import Derived.Deep.DeepHandedRow
import Derived.Test.YtcjljldknekhiaaGreatDoorKg1
import Derived.Deep.Slices
import Derived.Deep.Fields
import Derived.SizedLaws

section
/-
  What the law's own same, and the document's Texts, return of two events that are the same; a session that is none.
-/
namespace Go.Proofs.YtcjljldknekhiaaGreatDoor.Ln
open Go.RowKit
set_option linter.unusedVariables false
set_option linter.unusedSimpArgs false

def kindOf : Ev → Int
  | .say _ => 1
  | .keep _ _ _ => 2
  | .shut => 3
def textOf : Ev → ByteArray
  | .say t => t
  | _ => nobody
def fromOf : Ev → ByteArray
  | .keep f _ _ => f
  | _ => nobody
def rcOf : Ev → List ByteArray
  | .keep _ r _ => r
  | _ => []
def bodyOf : Ev → List Nat
  | .keep _ _ b => b
  | _ => []
theorem evCells_inj {k k' : Int} {t t' f f' : ByteArray} {r r' b b' : Value} (h : evCells k t f r b = evCells k' t' f' r' b') : k = k' ∧ t = t' ∧ f = f' ∧ r = r' ∧ b = b' := by
  unfold evCells at h
  simp only [List.cons.injEq, Value.int.injEq, Value.string.injEq, true_and, and_true] at h
  exact h
theorem EvAt.parts {R : Nat → Prop} {w : World} {e : Ev} {k : Int} {t f : ByteArray} {r b : Value} (h : EvAt R w e (evCells k t f r b)) : k = kindOf e ∧ t = textOf e ∧ f = fromOf e ∧ TxtR R w r (rcOf e) ∧ ByV R w b (bodyOf e) := by
  cases e with
  | say s =>
    obtain ⟨rfl, rfl, rfl, rfl, rfl⟩ := evCells_inj (show evCells k t f r b = evCells 1 s nobody nilV nilV from h)
    exact ⟨rfl, rfl, rfl, TxtR.nil _ _, ByV.nil _ _⟩
  | keep g rr bb =>
    obtain ⟨rv, bv, he, h1, h2⟩ := h
    obtain ⟨rfl, rfl, rfl, rfl, rfl⟩ := evCells_inj he
    exact ⟨rfl, rfl, rfl, h1, h2⟩
  | shut =>
    obtain ⟨rfl, rfl, rfl, rfl, rfl⟩ := evCells_inj (show evCells k t f r b = evCells 3 nobody nobody nilV nilV from h)
    exact ⟨rfl, rfl, rfl, TxtR.nil _ _, ByV.nil _ _⟩

/-! ### Texts -/
set_option maxHeartbeats 4000000 in
set_option maxRecDepth 100000 in
theorem textsC {R R' : Nat → Prop} {w : World} {L : List ByteArray} (x x' : Option Addr) (n n' c c' : Nat) (h : TxtR R w (.slice x n c) L) (h' : TxtR R' w (.slice x' n' c') L) (hl : L.length ≤ 1000000) :
    Calls Tryz.prog 21 #[.slice x n c, .slice x' n' c'] w fun e w' => e = .returned (.bool true) ∧ Keep (fun _ => False) w w' := by
  obtain ⟨y, d, hv, hc, hx⟩ := h
  obtain ⟨y', d', hv', hc', hx'⟩ := h'
  injection hv with e1 e2 e3
  injection hv' with e4 e5 e6
  subst e1 e3 e4 e6 e2
  subst e5
  have hcell : ∀ i, i < L.length → ∃ b off b' off', x = some ⟨b, off, none⟩ ∧ x' = some ⟨b', off', none⟩ ∧ w.cell? ⟨b, off + i, none⟩ = some (.string (L.getD i nobody)) ∧ w.cell? ⟨b', off' + i, none⟩ = some (.string (L.getD i nobody)) := fun i hi => by
    rcases hx with h0 | ⟨b, off, _, hb, hcb⟩
    · subst h0; simp at hi
    · rcases hx' with h0 | ⟨b', off', _, hb', hcb'⟩
      · subst h0; simp at hi
      · exact ⟨b, off, b', off', hb, hb', hcb i hi, hcb' i hi⟩
  have HC := Lib.hid hcell
  obtain ⟨N, hN⟩ : ∃ N, N = L.length := ⟨_, rfl⟩
  rw [← hN] at HC hl hc hc'
  rw [← hN]
  clear hcell hx hx' hN
  go_enter Tryz.func21, Tryz.ntmps21
  go_wp2
  go_loopw [5] (fun i wr => ∃ k : Nat, k ≤ N ∧ i = .int .i64 (k : Int) ∧ Hid (Keep (fun _ => False) w wr)) (fun i _ => N - (intOf i).toNat)
  case atStart => exact ⟨0, Nat.zero_le _, rfl, Keep.refl _ _⟩
  case round =>
    obtain ⟨k, hk, rfl, HK⟩ := hrel
    by_cases hlt : (k : Int) < (N : Int)
    · obtain ⟨b, off, b', off', e1, e2, c1, c2⟩ := HC.out k (by omega)
      subst e1 e2
      have d1 := HK.out.cell c1 (fun h => h)
      have d2 := HK.out.cell c2 (fun h => h)
      have hkn : k < N := by omega
      have k0 : (0 : Int) ≤ (k : Int) := by omega
      have HKN := Lib.hid hkn
      generalize L.getD k nobody = X at d1 d2
      clear c1 c2
      go_wp2
      go_quiet (fail)
      go_wp2
      go_roundw
      case rel => exact ⟨k + 1, HKN.out, by go_num, HK.out.drewN _⟩
      case measure => have := HKN.out; simp [intOf]; omega
    · go_wp2
      go_ret
      exact ⟨rfl, HK.out⟩

/-! ### The same event -/
set_option maxHeartbeats 4000000 in
set_option maxRecDepth 100000 in
theorem sameC {R R' : Nat → Prop} {w : World} {K : Int} {T G : ByteArray} {L : List ByteArray} {B : List Nat} (rx bx rx' bx' : Option Addr) (rn rc bn bc rn' rc' bn' bc' : Nat) (h1 : TxtR R w (.slice rx rn rc) L) (h2 : ByV R w (.slice bx bn bc) B) (h3 : TxtR R' w (.slice rx' rn' rc') L) (h4 : ByV R' w (.slice bx' bn' bc') B) (hl : L.length ≤ 1000000) :
    Calls Tryz.prog 23 #[.agg (evA K T G rx rn rc bx bn bc), .agg (evA K T G rx' rn' rc' bx' bn' bc')] w fun e w' => e = .returned (.bool true) ∧ Keep (fun _ => False) w w' := by
  unfold evA
  have k2 : Keep (fun _ => False) w ((w.alloc (.cells (evA K T G rx rn rc bx bn bc) 46)).alloc (.cells (evA K T G rx' rn' rc' bx' bn' bc') 46)) := ((Keep.refl (fun _ => False) w).alloc _).alloc _
  have HT := Lib.hid (textsC rx rx' rn rn' rc rc' (h1.keep k2 (fun _ _ h => ⟨fun h => h, h⟩)) (h3.keep k2 (fun _ _ h => ⟨fun h => h, h⟩)) hl)
  have hA1 : At ((w.alloc (.cells (evA K T G rx rn rc bx bn bc) 46)).alloc (.cells (evA K T G rx' rn' rc' bx' bn' bc') 46)) w.heap.size 46 (evA K T G rx rn rc bx bn bc) := (At.new w _ _).alloc _
  have hA2 : At ((w.alloc (.cells (evA K T G rx rn rc bx bn bc) 46)).alloc (.cells (evA K T G rx' rn' rc' bx' bn' bc') 46)) (w.heap.size + 1) 46 (evA K T G rx' rn' rc' bx' bn' bc') := by
    have := At.new (w.alloc (.cells (evA K T G rx rn rc bx bn bc) 46)) 46 (evA K T G rx' rn' rc' bx' bn' bc')
    rw [show (w.alloc (.cells (evA K T G rx rn rc bx bn bc) 46)).heap.size = w.heap.size + 1 by simp] at this
    exact this
  obtain ⟨y, d, hv, hbc, hB⟩ := h2
  injection hv with e1 e2 e3
  subst e1 e3
  obtain ⟨y', d', hv', hbc', hB'⟩ := h4
  injection hv' with e4 e5 e6
  subst e4 e6
  have HB := Lib.hid hB
  have HB' := Lib.hid hB'
  have HA1 := Lib.hid hA1
  have HA2 := Lib.hid hA2
  have HK2 := Lib.hid k2
  have HE2 := Lib.hid e2
  have HE5 := Lib.hid e5
  unfold evA at HT
  clear h1 h3 hB hB' hA1 hA2 k2 e2 e5
  go_enter Tryz.func23, Tryz.ntmps23
  go_wp2_with fail
  refine HT.out.mono ?_
  rintro e w1 ⟨rfl, hk1⟩
  have hA3 := HA1.out.keep hk1 (fun h => h)
  have hA4 := HA2.out.keep hk1 (fun h => h)
  have c2 : w1.cell? ⟨w.heap.size, 2, none⟩ = some (.int .i64 0) := hA3.cell 2
  have c3 : w1.cell? ⟨w.heap.size, 3, none⟩ = some (.int .i64 0) := hA3.cell 3
  have c4 : w1.cell? ⟨w.heap.size, 4, none⟩ = some (.int .i64 0) := hA3.cell 4
  have c7 : w1.cell? ⟨w.heap.size, 7, none⟩ = some (.slice bx bn bc) := hA3.cell 7
  have d7 : w1.cell? ⟨w.heap.size + 1, 7, none⟩ = some (.slice bx' bn' bc') := hA4.cell 7
  have r1 := run_str ((HB.out.quiet HK2.out).quiet hk1) bn bc HE2.out.symm
  have r2 := run_str ((HB'.out.quiet HK2.out).quiet hk1) bn' bc' HE5.out.symm
  have HK := Lib.hid (HK2.out.trans hk1 (fun _ _ h => h))
  clear hA3 hA4 hk1
  go_wp2
  go_ret
  exact ⟨rfl, HK.out⟩
theorem same_ev {R R' : Nat → Prop} {w : World} {e : Ev} {k k' : Int} {t f t' f' : ByteArray} {rx bx rx' bx' : Option Addr} {rn rc bn bc rn' rc' bn' bc' : Nat} (h1 : EvAt R w e (evCells k t f (.slice rx rn rc) (.slice bx bn bc))) (h2 : EvAt R' w e (evCells k' t' f' (.slice rx' rn' rc') (.slice bx' bn' bc'))) (hl : (rcOf e).length ≤ 1000000) :
    Calls Tryz.prog 23 #[.agg (evA k t f rx rn rc bx bn bc), .agg (evA k' t' f' rx' rn' rc' bx' bn' bc')] w fun e w' => e = .returned (.bool true) ∧ Keep (fun _ => False) w w' := by
  obtain ⟨rfl, rfl, rfl, a1, a2⟩ := h1.parts
  obtain ⟨rfl, rfl, rfl, b1, b2⟩ := h2.parts
  exact sameC rx bx rx' bx' rn rc bn bc rn' rc' bn' bc' a1 a2 b1 b2 hl
/-- Nothing is nothing. -/
theorem same_none (w : World) : Calls Tryz.prog 23 #[.agg (evA 0 nobody nobody none 0 0 none 0 0), .agg (evA 0 nobody nobody none 0 0 none 0 0)] w fun e w' => e = .returned (.bool true) ∧ Keep (fun _ => False) w w' :=
  sameC none none none none 0 0 0 0 0 0 0 0 (TxtR.nil (fun _ => True) _) (ByV.nil (fun _ => True) _) (TxtR.nil (fun _ => True) _) (ByV.nil (fun _ => True) _) (by simp)

set_option maxHeartbeats 1000000 in
set_option maxRecDepth 100000 in
theorem pnext_nil (w : World) : Calls Tryz.prog 20 #[.pointer none] w fun e w' => e = .returned (.tuple #[.agg (evA 0 nobody nobody none 0 0 none 0 0), .bool false]) ∧ Keep (fun _ => False) w w' := by
  have hZ : At (w.alloc (.cells #[.int .i64 0, .string { data := #[] }, .int .i64 0, .int .i64 0, .int .i64 0, .string { data := #[] }, .slice none 0 0, .slice none 0 0] 46)) w.heap.size 46 (evA 0 nobody nobody none 0 0 none 0 0) := At.new w _ _
  have HZ := Lib.hid hZ
  clear hZ
  go_enter Tryz.func20, Tryz.ntmps20
  go_wp2_with (refine step_ev (by rfl) (.tmp 2) (.tmp 7) (by rfl) w.heap.size 0 nobody nobody none none 0 0 0 0 (by rfl) (by rfl) HZ.out ?_)
  (try simp only [Exit.inBlock, Exit.then])
  refine bodyPost_ret (ret_ev (fn := Tryz.f20) (p := 2) (u := 3) rfl _ _ w.heap.size rfl (HZ.out.setRow _)) rfl ?_
  exact ⟨rfl, ((Keep.refl (fun _ => False) w).alloc _).setRow (fun h => absurd h (Nat.lt_irrefl _)) _⟩
end Go.Proofs.YtcjljldknekhiaaGreatDoor.Ln
end

section
/-
  The library's variables as they are laid; lines one by one; what a program that does nothing does not answer.
-/
namespace Go.Proofs.YtcjljldknekhiaaGreatDoor.Ln
open Go.RowKit
set_option linter.unusedVariables false
set_option linter.unusedSimpArgs false

/-! ### The library's variables -/
theorem laid_tail {P : Program} {n : String} {d : DataW Unit} {r : List (String × DataW Unit)} {w : World} (h : laidMet P ((n, d) :: r) w) : laidMet P r w := by
  obtain ⟨ps, ⟨g, t, cs, fuel, p, q, _, _, _, _, hq, rfl⟩, hnd, hc⟩ := h
  exact ⟨q, hq, (List.nodup_append.1 hnd).2.1, fun b off hm => hc b off (List.mem_append_right _ hm)⟩
theorem laid_size {P : Program} {n : String} {d : DataW Unit} {r : List (String × DataW Unit)} {w : World} {k : Nat} (hk : P.globalNamed n = some k) (h : laidMet P ((n, d) :: r) w) : k < w.heap.size := by
  obtain ⟨ps, ⟨g, t, cs, fuel, p, q, hg, _, hv, _⟩, _⟩ := h
  obtain rfl := Option.some.inj (hk.symm.trans hg)
  unfold World.var? at hv
  rw [hg] at hv
  simp only [Option.bind_some] at hv
  rcases Nat.lt_or_ge k w.heap.size with h' | h'
  · exact h'
  · rw [Array.getElem?_eq_none h'] at hv; simp at hv
theorem env9 (W : World) (hL : laidMetH Tryz.prog Rows.serveNoneRow.laid W) (shape : W.ShapedOpen Tryz.prog) : Env W ∧ 9 ≤ W.heap.size := by
  rw [MakeChecks.laidMetH_plain _ _ _ (by kernel_rfl)] at hL
  have h0 : laidMet Tryz.prog (("math/bits.deBruijn32tab", Rows.laid_math_bits_deBruijn32tab) :: ("math/bits.deBruijn64tab", Rows.laid_math_bits_deBruijn64tab) :: ("internal/strconv.uint64pow10", Rows.laid_internal_strconv_uint64pow10) :: ("unicode/utf8.acceptRanges", Rows.laid_unicode_utf8_acceptRanges) :: ("strconv.ErrRange", Rows.laid_strconv_ErrRange) :: ("strconv.ErrSyntax", Rows.laid_strconv_ErrSyntax) :: [("unicode.CaseRanges", Rows.laid_unicode_CaseRanges), ("unicode/utf8.first", Rows.laid_unicode_utf8_first)]) W := hL
  have h2 := laid_tail (laid_tail h0)
  have h4 := laid_tail (laid_tail h2)
  have h5 := laid_tail h4
  refine ⟨⟨Ad.maxLen_some W shape, ?_⟩, ?_⟩
  · exact Lib.tabIs_of_head (k := .u64) (zs := Lib.pow10Tab) (g := 1) (t := 133) (e := 112) (n := 20) (by kernel_rfl) (by kernel_rfl) (by kernel_rfl) (by kernel_rfl) (by kernel_rfl) (by kernel_rfl) h2
  · have a : 8 < W.heap.size := by
      first
        | exact laid_size (k := 8) (by kernel_rfl) h4
        | exact laid_size (k := 8) (by kernel_rfl) h5
    exact a

/-! ### Lines one by one -/
theorem pos_line {l r : List Nat} (h : ∀ c ∈ l, c ≠ 13) : pos (l ++ [13, 10] ++ r) = some l.length := by
  refine pos_more ?_ r
  have := pos_end h
  rwa [List.append_assoc] at this
theorem go_line {V : ByteArray → VC} {s : Se} {l r : List Nat} (h5 : s.st < 5) (hw : s.wait = l ++ [13, 10] ++ r) (h : ∀ c ∈ l, c ≠ 13) : s.go V = (Se.line V { s with wait := r } l).go V := by
  have hp : pos s.wait = some l.length := by rw [hw]; exact pos_line h
  rw [go_some h5 hp]
  have e1 : s.wait.take l.length = l := by rw [hw, List.append_assoc, List.take_left]
  have e2 : s.cut l.length = { s with wait := r } := by
    unfold Se.cut
    rw [hw, show l.length + 2 = (l ++ [13, 10]).length by simp, List.drop_left]
  rw [e1, e2]

/-! ### A program that does nothing -/
theorem reply250 : reply 250 = { data := #[50, 53, 48, 32, 111, 107, 13, 10] } := by
  have : dig 250 = [50, 53, 48] := by
    rw [dig, if_neg (by decide), dig, if_neg (by decide), dig, if_pos (by decide)]
    rfl
  rw [reply, this]
  rfl
theorem hostMx : host9 { data := #[77, 120] } = { data := #[109, 120] } := by kernel_rfl
theorem V9_noop : V9 (str [78, 79, 79, 80]) = ⟨nNOOP, nobody, -1, 0⟩ := by kernel_rfl
def mxSe : Se := Se.new { data := #[109, 120] } 99
theorem hello_mx : hello { data := #[109, 120] } = { data := #[50, 50, 48, 32, 109, 120, 13, 10] } := by kernel_rfl
theorem mx_out : mxSe.out = [.say { data := #[50, 50, 48, 32, 109, 120, 13, 10] }] := by
  show [Ev.say (hello { data := #[109, 120] })] = _
  rw [hello_mx]
theorem mx_go : mxSe.go V9 = mxSe := go_none rfl
theorem mx_noop : (mxSe.pop.fed [78, 79, 79, 80, 13, 10]).go V9 = (mxSe.pop.say (reply 250)) := by
  have h1 : (mxSe.pop.fed [78, 79, 79, 80, 13, 10]).go V9 = (Se.line V9 { (mxSe.pop.fed [78, 79, 79, 80, 13, 10]) with wait := [] } [78, 79, 79, 80]).go V9 := go_line (l := [78, 79, 79, 80]) (r := []) (by decide) rfl (by decide)
  rw [h1]
  have h2 : Se.line V9 { (mxSe.pop.fed [78, 79, 79, 80, 13, 10]) with wait := [] } [78, 79, 79, 80] = mxSe.pop.say (reply 250) := by
    unfold Se.line Se.command
    rw [if_neg (by decide), if_neg (by decide), V9_noop, if_neg (by decide)]
    rfl
  rw [h2]
  exact go_none rfl
theorem say_is {E : Nat → Prop} {w : World} {t : ByteArray} {k : Int} {u f : ByteArray} {rx bx : Option Addr} {rn rc bn bc : Nat} (h : EvAt E w (.say t) (evCells k u f (.slice rx rn rc) (.slice bx bn bc))) : k = 1 ∧ u = t := ⟨h.parts.1, h.parts.2.1⟩

/-! ### An event that a law lays down -/
def laidE (w : World) (k : Int) (t f : ByteArray) (rx bx : Option Addr) (rn rc bn bc : Nat) : World := (w.alloc (.cells #[.int .i64 0, .string { data := #[] }, .int .i64 0, .int .i64 0, .int .i64 0, .string { data := #[] }, .slice none 0 0, .slice none 0 0] 46)).setRow w.heap.size (evA k t f rx rn rc bx bn bc)
theorem laidE_at (w : World) (k : Int) (t f : ByteArray) (rx bx : Option Addr) (rn rc bn bc : Nat) : At (laidE w k t f rx bx rn rc bn bc) w.heap.size 46 (evA k t f rx rn rc bx bn bc) := (At.new w 46 _).setRow _
theorem laidE_keep (w : World) (k : Int) (t f : ByteArray) (rx bx : Option Addr) (rn rc bn bc : Nat) : Keep (fun _ => False) w (laidE w k t f rx bx rn rc bn bc) := ((Keep.refl (fun _ => False) w).alloc _).setRow (fun h => absurd h (Nat.lt_irrefl _)) _
theorem laidE_cells (w : World) (k : Int) (t f : ByteArray) (rx bx : Option Addr) (rn rc bn bc : Nat) : (laidE w k t f rx bx rn rc bn bc).cell? ⟨w.heap.size, 0, none⟩ = some (.int .i64 k) ∧ (laidE w k t f rx bx rn rc bn bc).cell? ⟨w.heap.size, 1, none⟩ = some (.string t) := ⟨(laidE_at w k t f rx bx rn rc bn bc).cell 0, (laidE_at w k t f rx bx rn rc bn bc).cell 1⟩
theorem step_laidE {ops : Array Oper} {rest : List Oper} {o : Oper} {a : Act} {w0 : World} {Q : Exit → Act → World → Prop} (hgd : o.guard = none) (x y : Operand) (ho : o.op = .store 46 x y) (w : World) (hw0 : w0 = w.alloc (.cells #[.int .i64 0, .string { data := #[] }, .int .i64 0, .int .i64 0, .int .i64 0, .string { data := #[] }, .slice none 0 0, .slice none 0 0] 46))
    (k : Int) (t f : ByteArray) (rx bx : Option Addr) (rn rc bn bc : Nat) (W : World) (hW : W = laidE w k t f rx bx rn rc bn bc) (hx : a.eval x = .pointer (some ⟨w.heap.size, 0, none⟩)) (hy : a.eval y = .agg (evA k t f rx rn rc bx bn bc))
    (h : wpList Tryz.prog ops Q rest (a.put o.dst undef) W) : wpList Tryz.prog ops Q (o :: rest) a w0 := by
  subst hw0
  exact wpList_store_row hgd 46 x y ho w.heap.size (evA k t f rx rn rc bx bn bc) hx hy 46 _ (At.new w 46 _) infoE rfl (evs_one _ _ _ _ _ _ _ _ _) (by rw [hW] at h; exact h)
theorem laid_ev (w : World) (k : Int) (t f : ByteArray) (rx bx : Option Addr) (rn rc bn bc : Nat) : ∃ W V, Hid (W = laidE w k t f rx bx rn rc bn bc) ∧ Hid (V = Value.agg (evA k t f rx rn rc bx bn bc)) ∧ Keep (fun _ => False) w W ∧ At W w.heap.size 46 (evA k t f rx rn rc bx bn bc) :=
  ⟨_, _, Lib.hid rfl, Lib.hid rfl, laidE_keep w k t f rx bx rn rc bn bc, laidE_at w k t f rx bx rn rc bn bc⟩
end Go.Proofs.YtcjljldknekhiaaGreatDoor.Ln
end

section
/-
  What a program that does nothing does not answer.
-/
namespace Go.Proofs.YtcjljldknekhiaaGreatDoor.Ln
open Go.RowKit
set_option linter.unusedVariables false
set_option linter.unusedSimpArgs false

set_option maxHeartbeats 4000000 in
set_option maxRecDepth 100000 in
theorem answersC (w : World) (hE : Env w) (h9 : 9 ≤ w.heap.size) : Calls Tryz.prog 9 #[] w fun e w' => e = .returned (.bool true) ∧ Keep (fun _ => False) w w' := by
  have HN := Lib.hid (pnew { data := #[77, 120] } (by decide) 99 (by decide) w hE h9)
  have HE := Lib.hid hE
  rw [hostMx] at HN
  clear hE
  go_enter Tryz.func9, Tryz.ntmps9
  go_wp2_with fail
  refine HN.out.mono ?_
  rintro e w1 ⟨g, F1, rfl, hV1, hK1, hF1⟩
  have HV1 := Lib.hid hV1
  have HK1 := Lib.hid hK1
  have HF1 := Lib.hid hF1
  have HE1 := Lib.hid (HE.out.quiet hK1)
  clear hV1 hK1 hF1
  go_wp2_with fail
  refine (pnext_some (s := mxSe) HV1.out HE1.out (Gd.new _ _ (by decide)) (.say { data := #[50, 50, 48, 32, 109, 120, 13, 10] }) [] (by rw [mx_go]; exact mx_out)).mono ?_
  rintro e w2 ⟨k, t, f, rx, rn, rc, bx, bn, bc, s2, F2, E2, rfl, hEv2, _, _, hgo2, gd2, ho2, hwl2, _, hV2, hK2, hM2⟩
  obtain ⟨rfl, rfl⟩ := say_is hEv2
  have HG2 := Lib.hid hgo2
  have HGD2 := Lib.hid gd2
  obtain ⟨W2, V2, HW2, HVV2, hk2, hA2⟩ := laid_ev w2 1 { data := #[50, 50, 48, 32, 109, 120, 13, 10] } f rx bx rn rc bn bc
  have HV2 := Lib.hid (hV2.quiet hk2)
  have HE2 := Lib.hid ((HV1.out.env HE1.out hK2).quiet hk2)
  have HK2 := Lib.hid ((HK1.out.trans hK2 (fun i hi e => by have := HF1.out i e; omega)).trans hk2 (fun _ _ h => h))
  have HM2 : Hid (∀ k, F2 k → w.heap.size ≤ k) := Lib.hid (fun k hk => by
    rcases hM2 k hk with e | e
    · exact HF1.out k e
    · exact Nat.le_trans HK1.out.size e)
  have HA2 := Lib.hid hA2
  have HB2 : Hid (∀ k, F2 k → k < w2.heap.size) := Lib.hid (fun k hk => hV2.lt k hk)
  have HGW2 : Hid (s2.wait.length ≤ 1000000) := Lib.hid (Nat.le_trans hwl2 (by decide))
  have kc := Lib.run_convert_bytes_const (P := Tryz.prog) W2 34 5 #[.int .u8 78, .int .u8 79, .int .u8 79, .int .u8 80, .int .u8 13, .int .u8 10] 6 6 Tryz.underlying34 Tryz.underlying5
  rw [← HVV2.out]
  clear hEv2 hwl2 hgo2 gd2 ho2 hV2 hK2 hM2 hk2 hA2
  go_wp2_with (refine step_laidE (by rfl) (.tmp 2) (.tmp 10) (by rfl) w2 (by rfl) 1 { data := #[50, 50, 48, 32, 109, 120, 13, 10] } f rx bx rn rc bn bc W2 HW2.out (by rfl) HVV2.out ?_)
  have kB : Keep (fun _ => False) W2 (W2.alloc (.cells #[.int .u8 78, .int .u8 79, .int .u8 79, .int .u8 80, .int .u8 13, .int .u8 10] 5 (6, 7))) := (Keep.refl (fun _ => False) W2).alloc _
  refine (pfeed (HV2.out.quiet kB) (HE2.out.quiet kB) (some ⟨W2.heap.size, 0, none⟩) 6 6 [78, 79, 79, 80, 13, 10] rfl (bytes_mark W2 [78, 79, 79, 80, 13, 10] (by decide) (6, 7)) (by have := HGD2.out.wait; omega)).mono ?_
  rintro e w3 ⟨rfl, F3, hV3, hK3, hM3⟩
  have HE3 := Lib.hid ((HV2.out.quiet kB).env (HE2.out.quiet kB) hK3)
  have HV3 := Lib.hid (show VS F3 w3 g (s2.fed [78, 79, 79, 80, 13, 10]) from hV3)
  have HK3 := Lib.hid ((HK2.out.trans kB (fun _ _ h => h)).trans hK3 (fun i hi e => by have := HM2.out i e; omega))
  have HM3 : Hid (∀ k, F3 k → w.heap.size ≤ k ∧ k ≠ w2.heap.size) := Lib.hid (fun k hk => by
    rcases hM3 k hk with e | e
    · exact ⟨HM2.out k e, fun e2 => by
        have h1 := HB2.out k e
        omega⟩
    · have h1 := HA2.out.lt
      have h2 := kB.size
      have h3 := HK2.out.size
      exact ⟨by omega, by omega⟩)
  have HA3 := Lib.hid ((HA2.out.keep kB (fun h => h)).keep hK3 (fun e => by have := HB2.out _ e; omega))
  have hgo3 : (s2.fed [78, 79, 79, 80, 13, 10]).go V9 = mxSe.pop.say (reply 250) := by
    rw [← fed_go V9 _ _ s2 rfl, HG2.out, mx_go, mx_noop]
  have HG3 := Lib.hid hgo3
  clear hV3 hK3 hM3 kB hgo3 kc
  go_wp2_with fail
  refine (pnext_some HV3.out HE3.out (HGD2.out.fed _ (by have := HGD2.out.ok; have := HGW2.out; simp; omega)) (.say { data := #[50, 53, 48, 32, 111, 107, 13, 10] }) [] (by rw [HG3.out, ← reply250]; rfl)).mono ?_
  rintro e w4 ⟨k, t, f, rx, rn, rc, bx, bn, bc, s4, F4, E4, rfl, hEv4, _, _, _, _, _, _, _, _, hK4, hM4⟩
  obtain ⟨rfl, rfl⟩ := say_is hEv4
  obtain ⟨W4, V4, HW4, HVV4, hk4, hA4⟩ := laid_ev w4 1 { data := #[50, 53, 48, 32, 111, 107, 13, 10] } f rx bx rn rc bn bc
  have hA3' := (HA3.out.keep hK4 (fun e => (HM3.out _ e).2 rfl)).keep hk4 (fun h => h)
  have q0 : W4.cell? ⟨w2.heap.size, 0, none⟩ = some (.int .i64 1) := hA3'.cell 0
  have q1 : W4.cell? ⟨w2.heap.size, 1, none⟩ = some (.string { data := #[50, 50, 48, 32, 109, 120, 13, 10] }) := hA3'.cell 1
  have q2 : W4.cell? ⟨w4.heap.size, 1, none⟩ = some (.string { data := #[50, 53, 48, 32, 111, 107, 13, 10] }) := hA4.cell 1
  have HK4 := Lib.hid ((HK3.out.trans hK4 (fun i hi e => by have := (HM3.out i e).1; omega)).trans hk4 (fun _ _ h => h))
  rw [← HVV4.out]
  clear hEv4 hK4 hM4 hk4 hA4 hA3'
  go_wp2_with (refine step_laidE (by rfl) (.tmp 4) (.tmp 19) (by rfl) w4 (by rfl) 1 { data := #[50, 53, 48, 32, 111, 107, 13, 10] } f rx bx rn rc bn bc W4 HW4.out (by rfl) HVV4.out ?_)
  go_ret
  exact ⟨rfl, HK4.out⟩
end Go.Proofs.YtcjljldknekhiaaGreatDoor.Ln
end

section
/-
  Two sessions of the program side by side, in a law; bytes of a text; an event's cells.
-/
namespace Go.Proofs.YtcjljldknekhiaaGreatDoor.Ln
open Go.RowKit
set_option linter.unusedVariables false
set_option linter.unusedSimpArgs false

theorem conv_str (A : ByteArray) (w : World) : ∃ cap w1, (convert 9 34 (.string A)).run Tryz.prog w = .ok (.slice (some ⟨w.heap.size, 0, none⟩) A.size cap) w1 ∧ Bytes (fun b => b = w.heap.size) w1 (some ⟨w.heap.size, 0, none⟩) (ns A) ∧ Keep (fun _ => False) w w1 := by
  refine ⟨_, _, run_bytes_of_string w 9 34 5 A Tryz.underlying9 Tryz.underlying34 Tryz.underlying5, ⟨ns_lt A, .inr ⟨w.heap.size, 0, rfl, rfl, fun i hi => ?_⟩⟩, (Keep.refl _ w).drew.alloc _⟩
  have hi' : i < A.size := by rwa [ns_length] at hi
  refine (cell_of_row _ _ (0 + i) _ _ _ (heap_alloc_new w.drew _)).trans ?_
  rw [Nat.zero_add]
  have hi2 : i < A.data.size := hi'
  unfold bytesRow
  rw [Array.getElem?_append_left (by simpa using hi2)]
  simp [ns, Array.getElem?_eq_getElem hi2]
theorem At.eight {W : World} {b : Nat} {k : Int} {t f : ByteArray} {rx bx : Option Addr} {rn rc bn bc : Nat} (h : At W b 46 (evA k t f rx rn rc bx bn bc)) :
    W.cell? ⟨b, 0, none⟩ = some (.int .i64 k) ∧ W.cell? ⟨b, 1, none⟩ = some (.string t) ∧ W.cell? ⟨b, 2, none⟩ = some (.int .i64 0) ∧ W.cell? ⟨b, 3, none⟩ = some (.int .i64 0) ∧ W.cell? ⟨b, 4, none⟩ = some (.int .i64 0) ∧ W.cell? ⟨b, 5, none⟩ = some (.string f) ∧ W.cell? ⟨b, 6, none⟩ = some (.slice rx rn rc) ∧ W.cell? ⟨b, 7, none⟩ = some (.slice bx bn bc) :=
  ⟨h.cell 0, h.cell 1, h.cell 2, h.cell 3, h.cell 4, h.cell 5, h.cell 6, h.cell 7⟩

/-! ### One session in a law -/
structure One (w0 w : World) (g : Nat) (F : Nat → Prop) (s : Se) : Prop where
  a : VS F w g s
  env : Env w
  kp : Keep (fun _ => False) w0 w
  fa : ∀ k, F k → w0.heap.size ≤ k
  h9 : 9 ≤ w0.heap.size
section
variable {w0 w w' : World} {g : Nat} {F F' : Nat → Prop} {s s' : Se}
theorem One.mk' {hE : Env w0} (h9 : 9 ≤ w0.heap.size) (k : Keep (fun _ => False) w0 w) (a : VS F w g s) (m : ∀ k, F k → w0.heap.size ≤ k) : One w0 w g F s := ⟨a, hE.quiet k, k, m, h9⟩
theorem One.next (h : One w0 w g F s) (a : VS F' w' g s') (k : Keep F w w') (m : More F F' w) : One w0 w' g F' s' :=
  ⟨a, h.a.env h.env k, h.kp.trans k (fun i hi e => by have := h.fa i e; omega), fun i hi => by
    rcases m i hi with e | e
    · exact h.fa i e
    · exact Nat.le_trans h.kp.size e, h.h9⟩
theorem One.quiet (h : One w0 w g F s) (k : Keep (fun _ => False) w w') : One w0 w' g F s := ⟨h.a.quiet k, h.env.quiet k, h.kp.trans k (fun _ _ h => h), h.fa, h.h9⟩
theorem One.sz (h : One w0 w g F s) : 9 ≤ w.heap.size := Nat.le_trans h.h9 h.kp.size
end

/-! ### Two -/
structure Two (w0 w : World) (g h : Nat) (F G : Nat → Prop) (s t : Se) : Prop where
  a : VS F w g s
  b : VS G w h t
  env : Env w
  kp : Keep (fun _ => False) w0 w
  fa : ∀ k, F k → w0.heap.size ≤ k
  fb : ∀ k, G k → w0.heap.size ≤ k
  ap : ∀ k, F k → ¬ G k
  h9 : 9 ≤ w0.heap.size
section
variable {w0 w w' : World} {g h : Nat} {F G F' G' : Nat → Prop} {s t s' t' : Se}
theorem Two.left (T : Two w0 w g h F G s t) (a : VS F' w' g s') (k : Keep F w w') (m : More F F' w) : Two w0 w' g h F' G s' t :=
  ⟨a, T.b.other k (fun i hi e => T.ap i e hi), T.a.env T.env k, T.kp.trans k (fun i hi e => by have := T.fa i e; omega), fun i hi => by
    rcases m i hi with e | e
    · exact T.fa i e
    · exact Nat.le_trans T.kp.size e, T.fb, fun i hi hG => by
    rcases m i hi with e | e
    · exact T.ap i e hG
    · have := T.b.lt i hG; omega, T.h9⟩
theorem Two.right (T : Two w0 w g h F G s t) (b : VS G' w' h t') (k : Keep G w w') (m : More G G' w) : Two w0 w' g h F G' s t' :=
  ⟨T.a.other k (fun i hi e => T.ap i hi e), b, T.b.env T.env k, T.kp.trans k (fun i hi e => by have := T.fb i e; omega), T.fa, fun i hi => by
    rcases m i hi with e | e
    · exact T.fb i e
    · exact Nat.le_trans T.kp.size e, fun i hF hi => by
    rcases m i hi with e | e
    · exact T.ap i hF e
    · have := T.a.lt i hF; omega, T.h9⟩
theorem Two.quiet (T : Two w0 w g h F G s t) (k : Keep (fun _ => False) w w') : Two w0 w' g h F G s t := ⟨T.a.quiet k, T.b.quiet k, T.env.quiet k, T.kp.trans k (fun _ _ h => h), T.fa, T.fb, T.ap, T.h9⟩
theorem Two.sz (T : Two w0 w g h F G s t) : 9 ≤ w.heap.size := Nat.le_trans T.h9 T.kp.size
/-- An event of the first one, while the second one goes on. -/
theorem Two.ev (T : Two w0 w g h F G s t) {E : Nat → Prop} (m : More F E w) {W W' : World} {e : Ev} {cs : List Value} (hE : EvAt E W e cs) (k : Keep G W W') : EvAt E W' e cs := hE.keepW k (fun b _ hb => ⟨fun hG => by
  rcases m b hb with h1 | h1
  · exact T.ap b h1 hG
  · have := T.b.lt b hG; omega, hb⟩)
end
/-- Both are made. -/
theorem two_made {w0 w1 w2 : World} {g h : Nat} {F G : Nat → Prop} {s t : Se} (hE : Env w0) (h9 : 9 ≤ w0.heap.size) (a : VS F w1 g s) (k1 : Keep (fun _ => False) w0 w1) (m1 : ∀ k, F k → w0.heap.size ≤ k) (b : VS G w2 h t) (k2 : Keep (fun _ => False) w1 w2) (m2 : ∀ k, G k → w1.heap.size ≤ k) : Two w0 w2 g h F G s t :=
  ⟨a.quiet k2, b, (hE.quiet k1).quiet k2, k1.trans k2 (fun _ _ h => h), m1, fun k hk => Nat.le_trans k1.size (m2 k hk), fun k hF hG => by have := a.lt k hF; have := m2 k hG; omega, h9⟩

/-! ### A text's pieces -/
theorem ns_extract (A : ByteArray) (i j : Nat) : ns (A.extract i j) = ((ns A).drop i).take (j - i) := by
  simp only [ns, ByteArray.data_extract, Array.toList_extract, List.extract_eq_take_drop, List.map_take, List.map_drop]
theorem take_more (l : List Nat) (i n : Nat) : l.take i ++ (l.drop i).take n = l.take (i + n) := by rw [List.take_add]
theorem host_mx : host9 { data := #[109, 120] } = { data := #[109, 120] } := by kernel_rfl
end Go.Proofs.YtcjljldknekhiaaGreatDoor.Ln
end

section
/-
  Arguments opened: a slice of bytes, a slice of texts, a slice of the laws' Op (a text and a number).
-/
namespace Go.Proofs.YtcjljldknekhiaaGreatDoor.Ln
open Go.RowKit Go.ChangeShapes Go.WideShapes Go.Deep
set_option linter.unusedVariables false
set_option linter.unusedSimpArgs false

/-- One of the laws' Ops. -/
structure OpR where
  b : ByteArray
  code : Int
/-- The slice that begins at a has these Ops. -/
def Ops (W : World) (a : Option Addr) (ops : List OpR) : Prop :=
  ∀ (i : Nat) (o : OpR), ops[i]? = some o → ∃ b off, b < W.heap.size ∧ a = some ⟨b, off, none⟩ ∧ W.cell? ⟨b, off + i * 2, none⟩ = some (.string o.b) ∧ W.cell? ⟨b, off + i * 2 + 1, none⟩ = some (.int .i64 o.code) ∧ (Lit.int .i64 o.code).wf = true ∧ o.b.size ≤ 9223372036854775807
/-- The slice that begins at a has these texts. -/
def Strs (W : World) (a : Option Addr) (L : List ByteArray) : Prop :=
  ∀ (i : Nat) (t : ByteArray), L[i]? = some t → ∃ b off, b < W.heap.size ∧ a = some ⟨b, off, none⟩ ∧ W.cell? ⟨b, off + i, none⟩ = some (.string t)

section
variable {H : Type} {enc : TypeId × Value → H} {W : World}
theorem arg_bytes {fuel : Nat} {v : Value} {x : DataW H × List MemPlace} (h : DataW.trod enc Tryz.prog W 0 (fun _ => true) true fuel 34 [v] = some x) :
    ∃ a bs cap, v = .slice a bs.length cap ∧ bs.length ≤ cap ∧ cap ≤ 9223372036854775807 ∧ Bytes (fun k => k < W.heap.size) W a bs := by
  rcases open_ints Tryz.underlying34 Tryz.underlying5 (by kernel_rfl) h with ⟨hcs, _⟩ | ⟨ad, l, c, zs, hcs, _, hl, hm, hz, hx, hcell, hwz⟩
  · injection hcs with hcs _
    subst hcs
    exact ⟨none, [], 0, rfl, Nat.le_refl _, by omega, Bytes.nil _ _ _⟩
  · injection hcs with hcs _
    subst hcs
    have hz' : zs.length = c := by simpa using hz
    obtain ⟨bs, h1, h2, h3, h4⟩ := bytes_of (w := W) (a := some ad) (len := l) (cap := c) (zs := zs) (.inr ⟨ad, rfl, hl, hm, hz', hcell, hwz⟩)
    subst h1
    exact ⟨some ad, bs, c, rfl, h2, h3, h4⟩
theorem arg_strs {fuel : Nat} {v : Value} {x : DataW H × List MemPlace} (h : DataW.trod enc Tryz.prog W 0 (fun _ => true) true fuel 36 [v] = some x) :
    ∃ a L cap, v = .slice a L.length cap ∧ L.length ≤ cap ∧ cap ≤ 9223372036854775807 ∧ Strs W a L := by
  rcases Go.ChangeShapes.open_strings Tryz.underlying36 Tryz.underlying9 (by kernel_rfl) h with ⟨hcs, _⟩ | ⟨ad, l, c, ss, hcs, _, hl, hm, hlen, _, hcell, _⟩
  · injection hcs with hcs _
    subst hcs
    exact ⟨none, [], 0, rfl, Nat.le_refl _, by omega, fun i t h => by simp at h⟩
  · injection hcs with hcs _
    subst hcs
    have hlen' : ss.length = c := by simpa using hlen
    have hls : (ss.take l).length = l := by rw [List.length_take]; omega
    refine ⟨some ad, ss.take l, c, by rw [hls], by omega, hm, fun i t hi => ?_⟩
    have hi0 : i < (ss.take l).length := (List.getElem?_eq_some_iff.1 hi).1
    have hi' : i < ss.length := by rw [List.length_take] at hi0; omega
    have hc := hcell i hi'
    have hsp : ad.spot = none := by
      simpa [Addr.add] using World.cell?_spot (hcell 0 (by omega))
    obtain ⟨b, off, spot⟩ := ad
    subst hsp
    rw [show (⟨b, off, none⟩ : Addr).add i = ⟨b, off + i, none⟩ by unfold Addr.add; split <;> simp_all] at hc
    refine ⟨b, off, ?_, rfl, ?_⟩
    · exact World.block_lt_of_cell? W ⟨b, off + i, none⟩ hc
    · rw [hc]
      have : t = ss[i] := by
        rw [List.getElem?_eq_getElem hi0] at hi
        injection hi with hi
        rw [← hi, List.getElem_take]
      simp [hi', this]

set_option maxRecDepth 100000 in
theorem arg_ops {fuel : Nat} {v : Value} {x : DataW H × List MemPlace} (h : DataW.trod enc Tryz.prog W 0 (fun _ => true) true fuel 22 [v] = some x) :
    ∃ a ops cap, v = .slice a ops.length cap ∧ ops.length ≤ cap ∧ cap ≤ 9223372036854775807 ∧ Ops W a ops := by
  rcases open_slice Tryz.underlying22 h with ⟨hcs, _⟩ | ⟨ad, l, c, m, n, D, Pl, hcs, _, hl, hm, hmm, _, hi⟩
  · injection hcs with hcs _
    subst hcs
    exact ⟨none, [], 0, rfl, Nat.le_refl _, by omega, fun i o h => by simp at h⟩
  · injection hcs with hcs _
    subst hcs
    have hml : l ≤ m := by simp at hmm; omega
    have hC : Tryz.prog.cellsOf 31 = 2 := by kernel_rfl
    have hsp : 0 < l → ad.spot = none := by
      intro h0
      obtain ⟨cs, hc, _⟩ := hi 0 (by omega)
      rw [hC] at hc
      obtain ⟨_, hcl, hat⟩ := World.cells?_some hc
      have c0 := hat 0 (by omega)
      rw [List.getElem?_eq_getElem (by omega)] at c0
      simpa [Addr.add] using World.cell?_spot c0
    have key : ∀ i, ∃ o : OpR, i < l → ∃ b off, b < W.heap.size ∧ some ad = some ⟨b, off, none⟩ ∧ W.cell? ⟨b, off + i * 2, none⟩ = some (.string o.b) ∧ W.cell? ⟨b, off + i * 2 + 1, none⟩ = some (.int .i64 o.code) ∧ (Lit.int .i64 o.code).wf = true ∧ o.b.size ≤ 9223372036854775807 := by
      intro i
      by_cases hil : i < l
      · obtain ⟨cs, hc, ht⟩ := hi i (by omega)
        rw [hC] at hc
        obtain ⟨ys, k, _, _, hlen, hyl, hf⟩ := DataW.trod_struct Tryz.underlying31 ht
        obtain ⟨_, hcl, hat⟩ := World.cells?_some hc
        have c0 := hat 0 (by omega)
        have c1 := hat 1 (by omega)
        match cs, hcl with
        | [v0, v1], _ =>
          have f0 := hf 0 _ rfl
          have f1 := hf 1 _ rfl
          have o3 : Tryz.prog.cellsOf 3 = 1 := by kernel_rfl
          have o9 : Tryz.prog.cellsOf 9 = 1 := by kernel_rfl
          simp [o3, o9] at f0 f1 c0 c1
          obtain ⟨y0, h0⟩ : ∃ y, ys[0]? = some y := ⟨ys[0]'(by rw [hyl]; decide), List.getElem?_eq_getElem _⟩
          obtain ⟨y1, h1⟩ : ∃ y, ys[1]? = some y := ⟨ys[1]'(by rw [hyl]; decide), List.getElem?_eq_getElem _⟩
          rw [h0] at f0
          rw [h1] at f1
          obtain ⟨s0, e0, _, w0⟩ := DataW.trod_string Tryz.underlying9 f0
          obtain ⟨z1, e1, _, w1⟩ := DataW.trod_int Tryz.underlying3 f1
          injection e0 with e0 _
          injection e1 with e1 _
          subst e0 e1
          obtain ⟨b, off, spot⟩ := ad
          have hspot : spot = none := hsp (by omega)
          subst hspot
          simp only [Addr.add_mid] at c0 c1
          simp only [maxLen] at w0
          exact ⟨⟨s0, z1⟩, fun _ => ⟨b, off, World.block_lt_of_cell? W _ c0, rfl, c0, c1, w1, by omega⟩⟩
      · exact ⟨⟨{ data := #[] }, 0⟩, fun h => absurd h hil⟩
    obtain ⟨f, hf⟩ := Classical.skolem.1 key
    refine ⟨some ad, (List.range l).map f, c, by simp, by simpa using hl, hm, fun i o ho => ?_⟩
    have hil : i < l := by have := (List.getElem?_eq_some_iff.1 ho).1; simpa using this
    have : o = f i := by simpa [hil] using ho.symm
    subst this
    exact hf i hil
end
end Go.Proofs.YtcjljldknekhiaaGreatDoor.Ln
end

section
/-
  No event has more than eight recipients; two sessions that have the same to tell.
-/
namespace Go.Proofs.YtcjljldknekhiaaGreatDoor.Ln
open Go.RowKit Go.ChangeShapes Go.WideShapes Go.Deep
set_option linter.unusedVariables false
set_option linter.unusedSimpArgs false

/-! ### A slice of bytes that a law is given, with the card's bound -/
theorem arg_bytesZ {H : Type} {enc : TypeId × Value → H} {W : World} {fuel : Nat} {v : Value} {x : DataW H × List MemPlace} (h : DataW.trod enc Tryz.prog W 0 (fun _ => true) true fuel 34 [v] = some x) :
    ∃ a bs cap, v = .slice a bs.length cap ∧ bs.length ≤ cap ∧ cap ≤ 9223372036854775807 ∧ Bytes (fun k => k < W.heap.size) W a bs ∧ ((∀ n ∈ x.1.weights Tryz.prog 34, n ≤ reachBytes) → cap ≤ 140737488351232) := by
  rcases open_ints Tryz.underlying34 Tryz.underlying5 (by kernel_rfl) h with ⟨hcs, _⟩ | ⟨ad, l, c, zs, hcs, _, hl, hm, hz, hx, hcell, hwz⟩
  · injection hcs with hcs _
    subst hcs
    exact ⟨none, [], 0, rfl, Nat.le_refl _, by omega, Bytes.nil _ _ _, fun _ => by omega⟩
  · injection hcs with hcs _
    subst hcs
    have hz' : zs.length = c := by simpa using hz
    obtain ⟨bs, h1, h2, h3, h4⟩ := bytes_of (w := W) (a := some ad) (len := l) (cap := c) (zs := zs) (.inr ⟨ad, rfl, hl, hm, hz', hcell, hwz⟩)
    subst h1
    refine ⟨some ad, bs, c, rfl, h2, h3, h4, fun hw => ?_⟩
    have hb : Tryz.prog.bytesOf 5 = 1 := by kernel_rfl
    have := hw (((zs.take bs.length).length + (zs.drop bs.length).length) * 1) (by
      rw [hx]
      simp [DataW.weights, Tryz.underlying34, hb, lits])
    simp at this
    have e : reachBytes = 140737488351232 := by decide
    omega

def Ro (s : Se) : Prop := ∀ e, e ∈ s.out → (rcOf e).length ≤ 8
theorem Ro.ext {s s' : Se} (h : Ro s) (es : List Ev) (ho : s'.out = s.out ++ es) (he : ∀ e, e ∈ es → (rcOf e).length ≤ 8) : Ro s' := fun e hm => by
  rw [ho, List.mem_append] at hm
  exact hm.elim (h e) (he e)
theorem Ro.says {s s' : Se} (h : Ro s) (t : ByteArray) (ho : s'.out = s.out ++ [.say t]) : Ro s' := h.ext _ ho (fun e hm => by rw [List.mem_singleton] at hm; subst hm; exact Nat.zero_le _)
theorem Ro.text {s : Se} (h : Ro s) (k : Ok s) (l : List Nat) : Ro (s.text l) := by
  unfold Se.text
  split
  · split
    · exact h.says _ rfl
    · exact h.ext [.keep s.frm s.rcpts s.body] rfl (fun e hm => by rw [List.mem_singleton] at hm; subst hm; exact k.rcpts)
  · exact h
theorem Ro.verb {s : Se} (h : Ro s) (v : VC) : Ro (s.verb v) := by
  unfold Se.verb
  split; · exact h.says _ rfl
  split; · exact h.says _ rfl
  split; · exact h.says _ rfl
  split; · exact h.says _ rfl
  split; · exact h.says _ rfl
  split
  · refine h.ext [.say (reply 221), .shut] (by simp [Se.quit]) (fun e hm => ?_)
    simp at hm
    rcases hm with rfl | rfl <;> exact Nat.zero_le _
  split
  · unfold Se.mail
    split; · exact h.says _ rfl
    split; · exact h.says _ rfl
    exact h.says _ rfl
  split
  · unfold Se.rcpt
    split; · exact h.says _ rfl
    split; · exact h.says _ rfl
    exact h.says _ rfl
  split
  · unfold Se.data
    split; · exact h.says _ rfl
    exact h.says _ rfl
  exact h
theorem Ro.line {s : Se} (h : Ro s) (k : Ok s) (V : ByteArray → VC) (l : List Nat) : Ro (s.line V l) := by
  unfold Se.line
  split
  · exact h.text k l
  · unfold Se.command
    split; · exact h.says _ rfl
    split; · exact h.says _ rfl
    exact h.verb _
theorem Ro.go (V : ByteArray → VC) : ∀ (n : Nat) (s : Se), s.wait.length = n → Ok s → Ro s → Ro (s.go V) := by
  intro n
  induction n using Nat.strongRecOn with
  | _ n ih =>
    intro s hn k h
    by_cases h5 : s.st < 5
    · cases hp : pos s.wait with
      | none => rw [go_none hp]; exact h
      | some i =>
        rw [go_some h5 hp]
        refine ih _ ?_ _ rfl ((k.cut i).line V _) (Ro.line (s := s.cut i) h (k.cut i) V _)
        have := pos_lt hp
        rw [line_wait]
        simp [Se.cut]
        omega
    · rw [go_over h5]; exact h
theorem Ro.new (host : ByteArray) (size : Int) : Ro (Se.new host size) := fun e hm => by
  simp [Se.new, Se.say] at hm
  subst hm
  exact Nat.zero_le _
theorem Ro.pop {s : Se} (h : Ro s) : Ro s.pop := fun e hm => h e (List.mem_of_mem_tail hm)
theorem Ro.answer {s : Se} (h : Ro s) (code : Int) : Ro (s.answer code) := by
  unfold Se.answer
  split
  · exact h.says _ rfl
  · exact h
theorem Gd.go {s : Se} (h : Gd s) (ho : (s.go V9).out = []) : Gd (s.go V9) := by
  obtain ⟨a, b, c⟩ := go_keeps V9 _ s rfl h.ok
  exact ⟨a, by rw [b]; exact h.host, Nat.le_trans c h.wait, by rw [ho]; exact Nat.zero_le _⟩
theorem mu_go {s : Se} (h : Gd s) (ho : (s.go V9).out = []) : mu (s.go V9) ≤ mu s := by
  suffices H : ∀ (n : Nat) (s : Se), s.wait.length = n → (s.go V9).out = [] → mu (s.go V9) ≤ mu s from H _ s rfl ho
  intro n
  induction n using Nat.strongRecOn with
  | _ n ih =>
    intro s hn ho
    by_cases h5 : s.st < 5
    · cases hp : pos s.wait with
      | none => rw [go_none hp]; exact Nat.le_refl _
      | some i =>
        have hso : s.out = [] := by
          cases hx : s.out with
          | nil => rfl
          | cons e L => rw [(go_pop (V := V9) hx).1] at ho; cases ho
        have hm := mu_line V9 h5 hso (pos_lt hp) (s.wait.take i)
        rw [go_some h5 hp] at ho ⊢
        refine Nat.le_trans (ih _ ?_ _ rfl ho) (Nat.le_of_lt hm)
        have := pos_lt hp
        rw [line_wait]
        simp [Se.cut]
        omega
    · rw [go_over h5]; exact Nat.le_refl _

/-- Two sessions that have the same to tell. -/
structure Alike (w0 w : World) (g h : Nat) (F G : Nat → Prop) (s t : Se) : Prop where
  two : Two w0 w g h F G s t
  gs : Gd s
  gt : Gd t
  go : s.go V9 = t.go V9
  ro : Ro (s.go V9)
theorem Alike.mu {w0 w : World} {g h : Nat} {F G : Nat → Prop} {s t : Se} (A : Alike w0 w g h F G s t) : muW w g = Ln.mu s := by
  have h1 := PS.muW A.two.a
  rw [h1]
  rfl
/-- Both were answered. -/
theorem Alike.answered {w0 w w' : World} {g h : Nat} {F G F2 G2 : Nat → Prop} {s t : Se} (A : Alike w0 w g h F G s t) (ho : (s.go V9).out = []) (code : Int) (T : Two w0 w' g h F2 G2 ((s.go V9).answer code) ((t.go V9).answer code)) : Alike w0 w' g h F2 G2 ((s.go V9).answer code) ((t.go V9).answer code) := by
  have g1 := (A.gs.go ho).answer ho code
  refine ⟨T, g1, by rw [← A.go]; exact g1, by rw [A.go], ?_⟩
  exact Ro.go V9 _ _ rfl g1.ok (A.ro.answer code)
/-- The second one is fed a part of a text. -/
theorem feed_part {w0 wr w6 : World} {g h : Nat} {F G P : Nat → Prop} {s S : Se} {A n : Nat} {a : ByteArray} (T : Two w0 wr g h F G s (S.fed ((ns a).take A))) (x : Option Addr) (m c : Nat) (hm : m = (a.extract A (A + n)).size) (hB : Bytes P w6 x (ns (a.extract A (A + n)))) (hK : Keep (fun _ => False) wr w6) (hn : A + n ≤ a.size) (hs : a.size ≤ 2000) (hS : S.wait = []) :
    Calls Tryz.prog 15 #[.pointer (some ⟨h, 0, none⟩), .slice x m c] w6 fun e w' => e = .returned (.tuple #[]) ∧ ∃ G', Two w0 w' g h F G' s (S.fed ((ns a).take (A + n))) := by
  have T1 := T.quiet hK
  have hl : (ns (a.extract A (A + n))).length = m := by rw [ns_length, hm]
  have hm' : m ≤ a.size := by rw [hm, ByteArray.size_extract]; omega
  refine (pfeed T1.b T1.env x m c _ hl hB ?_).mono ?_
  · have : (S.fed ((ns a).take A)).wait.length ≤ a.size := by
      simp only [Se.fed, hS, List.nil_append, List.length_take, ns_length]
      omega
    omega
  · rintro e w' ⟨he, G', hV, hK', hM⟩
    refine ⟨he, G', T1.right (t' := S.fed ((ns a).take (A + n))) ?_ hK' hM⟩
    have e2 : (S.fed ((ns a).take A)).fed (ns (a.extract A (A + n))) = S.fed ((ns a).take (A + n)) := by
      rw [fed_fed, ns_extract, Nat.add_sub_cancel_left, take_more]
    rw [← e2]
    exact hV
theorem ro_ev {s : Se} (h : Ro s) {e : Ev} {L : List Ev} (ho : s.out = e :: L) : (rcOf e).length ≤ 1000000 := Nat.le_trans (h e (by rw [ho]; simp)) (by decide)
end Go.Proofs.YtcjljldknekhiaaGreatDoor.Ln
end
