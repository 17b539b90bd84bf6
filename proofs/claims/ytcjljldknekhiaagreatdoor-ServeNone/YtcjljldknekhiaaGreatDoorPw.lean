/-
  What the program's rcpt, obey and command return.
-/
import Derived.Test.YtcjljldknekhiaaGreatDoorPv
namespace Go.Proofs.YtcjljldknekhiaaGreatDoor.Ln
open Go.RowKit
set_option linter.unusedVariables false
set_option linter.unusedSimpArgs false

theorem step_append_str {w : World} {ops : Array Oper} {o : Oper} {a : Act} {K : Act → World → Prop} {Q : Exit → Act → World → Prop} {E : Prop} (hgd : o.guard = none) (s t : Operand)
    (ho : o.op = .call { callee := .builtin .append, args := #[s, t], argTypes := #[36, 36] })
    (v : Value) (q : Option Nat) (n : Nat) (xs : List Value) (hs : a.eval s = v) (hM : MidG 9 1 w v q n xs) (ad : Addr) (x : ByteArray) (hx : a.eval t = .slice (some ad) 1 1) (hc : w.cell? ad = some (.string x)) (hl : n ≤ 1000000)
    (hK : ∀ y k cap q' w', MidG 9 1 w' (.slice y k cap) q' (n + 1) (xs ++ [.string x]) → Keep (fun k => q = some k) w w' → New w q q' → K (a.put o.dst (.slice y k cap)) w') :
    if Region.wanted o (yielded ops a.tmps) = true then Oper.wp Tryz.prog o a w K Q else E := by
  have hw : Region.wanted o (yielded ops a.tmps) = true := by simp [Region.wanted, hgd]
  rw [if_pos hw]
  obtain ⟨y, k, cap, q', w', hr, h2, h3, h4⟩ := app_one hM ad x hc o.type hl
  unfold Oper.wp execOp
  simp only [ho, resolve, invoke, builtin, Sem.run_bind, Sem.run_pure, Result.andThen_ok, List.map_toArray, List.map_cons, List.map_nil, hs, hx, hr]
  exact hK y k cap q' w' h2 h3 h4
section
variable {F : Nat → Prop} {w w' : World} {g : Nat} {p p' : Se} {lv ev rv bv : Value} {o : Own} {xs : List Value}
/-- One recipient more. -/
theorem PSat.rcpted (h : PSat F w g p lv ev rv bv o xs) {a : ByteArray} {y : Option Addr} {m cap : Nat} {q' : Option Nat} (hA : At w' g 68 (pCells { p with st := 3, rcpts := p.rcpts ++ [a] } lv ev (.slice y m cap) bv)) (hM : MidG 9 1 w' (.slice y m cap) q' (p.rcpts.length + 1) (strV p.rcpts ++ [.string a])) (k : Keep (fun i => i = g ∨ o.qr = some i) w w') (hN : New w o.qr q') (h6 : p.st ≠ 6) :
    ∃ F', PS F' w' g { p with st := 3, rcpts := p.rcpts ++ [a] } ∧ Keep F w w' ∧ More F F' w := by
  have h1 := h.neg
  have h2 := h.nee
  have h3 := h.neb
  have h4 := h.nel
  have h5 := h.neL
  obtain ⟨F', H1, H2, H3⟩ := h.turn (p' := { p with st := 3, rcpts := p.rcpts ++ [a] }) (lv' := lv) (ev' := ev) (rv' := .slice y m cap) (bv' := bv) (o' := { o with qr := q' }) (xs' := xs) (R1 := PRd F g o) k (fun i _ e => e.elim .inl (fun e => .inr (.inr (.inl e)))) hA
    (h.out.keep k (fun b hb e => e.elim (h1 b (.inl hb)) (h2 b hb).1))
    (h.evs.keepW k (fun b _ hR => ⟨fun e => e.elim hR.2.1 (fun e => hR.2.2 (.inr (.inl e))), hR⟩))
    (by rw [show (p.rcpts ++ [a]).length = p.rcpts.length + 1 by simp, show strV (p.rcpts ++ [a]) = strV p.rcpts ++ [.string a] by simp [strV]]; exact hM) (h.body.keep k (fun b hb e => e.elim (h1 b (.inr (.inr (.inl hb)))) (h3 b hb).2.1))
    (by
      have hL := h.lin.keep k (fun b hb e => e.elim (h1 b (.inr (.inr (.inr (.inr hb))))) (h5 b hb).2.1) (fun b hb e => e.elim (h1 b (.inr (.inr (.inr (.inl hb))))) (h4 b hb).2.1)
      rcases hL with ⟨e6, _⟩ | ⟨_, hx⟩
      · exact absurd e6 h6
      · exact .inr ⟨by show 3 ≠ 6; omega, hx⟩)
    h.nbl (fun i hi => by
      rcases hi with hi | hi | hi
      · exact .inl (.inl hi)
      · rcases hN i hi with e | e
        · exact .inl (.inr (.inl e))
        · exact .inr e
      · exact .inl (.inr (.inr hi))) (fun i _ hR => ⟨.inl hR.1, hR.2.1, fun hi => by
      rcases hi with hi | hi | hi
      · exact hR.2.2 (.inl hi)
      · rcases hN i hi with e | e
        · exact hR.2.2 (.inr (.inl e))
        · have := h.flt i hR.1; omega
      · exact hR.2.2 (.inr (.inr hi))⟩)
  exact ⟨F', ⟨_, _, _, _, _, _, H1⟩, H2, H3⟩
end
def Se.rcptC (p : Se) : Nat := if p.st < 2 then 503 else if 8 ≤ p.rcpts.length then 452 else 250
def Se.rcptS (p : Se) (a : ByteArray) : Se := if p.st < 2 then p else if 8 ≤ p.rcpts.length then p else { p with st := 3, rcpts := p.rcpts ++ [a] }
theorem rcpt_parts (p : Se) (v : VC) : (p.rcptS v.arg).say (reply p.rcptC) = p.rcpt v := by
  unfold Se.rcptS Se.rcptC Se.rcpt
  split; · rfl
  split <;> rfl
theorem cells_rcpt (p : Se) (lv ev rv bv u : Value) (a : ByteArray) : ((pCells p lv ev rv bv).setIfInBounds 9 u).setIfInBounds 2 (.int .i64 3) = pCells { p with st := 3, rcpts := p.rcpts ++ [a] } lv ev u bv := by
  simp only [pCells, List.setIfInBounds_toArray, List.set_cons_zero, List.set_cons_succ]
  rfl

set_option maxHeartbeats 4000000 in
set_option maxRecDepth 100000 in
theorem prcpt {F : Nat → Prop} {w : World} {g : Nat} {p : Se} (h : PS F w g p) (hE : Env w) (n a : ByteArray) (z : Int) (h3 : p.st ≤ 3) :
    Calls Tryz.prog 117 #[.pointer (some ⟨g, 0, none⟩), verbV n a z] w (PCode F g (p.rcptS a) p.rcptC w) := by
  unfold verbV
  have hk1 : Keep (fun _ => False) w (w.alloc (.cells #[.string n, .string a, .int .i64 z] 58)) := (Keep.refl (fun _ => False) w).alloc _
  have N1 := Lib.hid ((PNow.start h hE).quiet hk1)
  obtain ⟨lv, ev, rv, bv, o, xs, hP0⟩ := h
  have hP := hP0.other hk1 (fun _ _ h => h)
  obtain ⟨x, cap, rfl, hcap⟩ := hP.rc.shape
  obtain ⟨_, _, c2, _, _, _, _, _, _, c9, _, _, fz⟩ := hP.cells
  have f2 := fz 2
  have f9 := fz 9
  have hA1 : At (w.alloc (.cells #[.string n, .string a, .int .i64 z] 58)) w.heap.size 58 #[.string n, .string a, .int .i64 z] := At.new _ _ _
  have v1 := hA1.cell 1
  simp at v1
  have hlt : g < w.heap.size := hP0.flt g hP0.fg
  obtain ⟨L, hL⟩ : ∃ L, L = p.rcpts.length := ⟨_, rfl⟩
  have HP := Lib.hid hP
  have HL := Lib.hid hL
  rw [← hL] at c9
  have HK1 := Lib.hid hk1
  have h3' : (p.st : Int) ≤ 3 := by omega
  clear hE fz hA1 hP hP0 hL hk1 hcap
  by_cases h1 : (p.st : Int) < 2
  · have e1 : Hid (p.rcptS a = p) := Lib.hid (by rw [Se.rcptS, if_pos (by omega)])
    have e2 : Hid (p.rcptC = 503) := Lib.hid (by rw [Se.rcptC, if_pos (by omega)])
    have b2 : ((p.st : Int) != 2) = true := by rw [bne_iff_ne]; omega
    have b3 : ((p.st : Int) != 3) = true := by rw [bne_iff_ne]; omega
    go_enter Tryz.func117, Tryz.ntmps117
    go_wp2
    go_ret
    rw [e1.out, e2.out]
    exact N1.out.coded
  · by_cases h8 : (8 : Int) ≤ (L : Int)
    · have e1 : Hid (p.rcptS a = p) := Lib.hid (by rw [Se.rcptS, if_neg (by omega), if_pos (by have := HL.out; omega)])
      have e2 : Hid (p.rcptC = 452) := Lib.hid (by rw [Se.rcptC, if_neg (by omega), if_pos (by have := HL.out; omega)])
      by_cases n2 : (p.st : Int) = 2
      · rw [n2] at c2
        go_enter Tryz.func117, Tryz.ntmps117
        go_wp2
        go_ret
        rw [e1.out, e2.out]
        exact N1.out.coded
      · have n3 : (p.st : Int) = 3 := by omega
        rw [n3] at c2
        clear n2
        go_enter Tryz.func117, Tryz.ntmps117
        go_wp2
        go_ret
        rw [e1.out, e2.out]
        exact N1.out.coded
    · have e1 : Hid (p.rcptS a = { p with st := 3, rcpts := p.rcpts ++ [a] }) := Lib.hid (by rw [Se.rcptS, if_neg (by omega), if_neg (by have := HL.out; omega)])
      have e2 : Hid (p.rcptC = 250) := Lib.hid (by rw [Se.rcptC, if_neg (by omega), if_neg (by have := HL.out; omega)])
      have hk2 : Keep (fun _ => False) (w.alloc (.cells #[.string n, .string a, .int .i64 z] 58)) (((w.alloc (.cells #[.string n, .string a, .int .i64 z] 58)).alloc (.cells #[.string a] 9)).drew) := (((Keep.refl (fun _ => False) _).alloc _)).drew
      have HP2 := Lib.hid (HP.out.other hk2 (fun _ _ h => h))
      have HM2 : Hid (MidG 9 1 (((w.alloc (.cells #[.string n, .string a, .int .i64 z] 58)).alloc (.cells #[.string a] 9)).drew) (.slice x L cap) o.qr L (strV p.rcpts)) := Lib.hid (by rw [HL.out]; exact HP2.out.rc)
      have HC2 : Hid ((((w.alloc (.cells #[.string n, .string a, .int .i64 z] 58)).alloc (.cells #[.string a] 9)).drew).cell? ⟨w.heap.size + 1, 0, none⟩ = some (.string a)) := Lib.hid (by
        have := (At.new (w.alloc (.cells #[.string n, .string a, .int .i64 z] 58)) 9 #[.string a]).cell 0
        rw [show (w.alloc (.cells #[.string n, .string a, .int .i64 z] 58)).heap.size = w.heap.size + 1 by simp] at this
        exact this)
      have HK2 := Lib.hid hk2
      have hst : (p.st : Int) = 2 ∨ (p.st : Int) = 3 := by omega
      have HST := Lib.hid hst
      clear hk2
      rcases hst with n2 | n2
      all_goals
        rw [n2] at c2
        go_enter Tryz.func117, Tryz.ntmps117
        go_wp2
        go_region_law
          ((refine step_append_str (by rfl) (.tmp 29) (.tmp 32) (by rfl) (.slice x L cap) o.qr L (strV p.rcpts) (by rfl) HM2.out ⟨w.heap.size + 1, 0, none⟩ a (by rfl) HC2.out (by omega) ?_
            ; intro y m cap2 q' w2 hM3 hK3 hN3; have hA3 := HP2.out.row.keep hK3 (fun e => HP2.out.neg g (.inr (.inl e)) rfl); have d9 := hA3.cell 9; have g9 := hA3.frozen 9; have d2 : (w2.setCell ⟨g, 9, none⟩ (.slice y m cap2)).cell? ⟨g, 2, none⟩ = some (.int .i64 (p.st : Int)) := (hA3.put 9 (.slice y m cap2)).cell 2; have g2 := (hA3.put 9 (.slice y m cap2)).frozen 2; have HA3 := Lib.hid hA3; have HM3 := Lib.hid hM3; have HK3 := Lib.hid hK3; have HN3 := Lib.hid hN3; clear hA3 hM3 hK3 hN3; simp [pCells] at d9))
        all_goals
          go_wp2
          go_ret
          rw [e1.out, e2.out]
          have hA5 := (HA3.out.put 9 (.slice y m cap2)).put 2 (.int .i64 3)
          rw [cells_rcpt p _ _ _ _ _ a] at hA5
          have kg : Keep (fun i => i = g) w2 ((w2.setCell ⟨g, 9, none⟩ (.slice y m cap2)).setCell ⟨g, 2, none⟩ (.int .i64 3)) := ((Keep.refl (fun i => i = g) w2).setCell (p := ⟨g, 9, none⟩) (fun _ => rfl) _).setCell (p := ⟨g, 2, none⟩) (fun _ => rfl) _
          obtain ⟨F', a1, a2, a3⟩ := HP.out.rcpted (a := a) (q' := q') hA5 (by rw [← HL.out]; exact HM3.out.keep kg (fun b hb e => HM3.out.ne HA3.out (by decide) (by rw [hb, e]))) (((HK2.out.mono (fun _ _ h => h.elim)).trans HK3.out (fun i _ e => .inr e)).trans kg (fun i _ e => .inl e)) (fun i hi => (HN3.out i hi).imp id (fun h1 => Nat.le_trans HK2.out.size h1)) (by omega)
          exact (N1.out.on a1 a2 a3).coded
end Go.Proofs.YtcjljldknekhiaaGreatDoor.Ln
