/-
  What the program's doer and doLine return.
-/
import Derived.Test.YtcjljldknekhiaaGreatDoorPc
import Derived.Test.YtcjljldknekhiaaGreatDoorPx
namespace Go.Proofs.YtcjljldknekhiaaGreatDoor.Ln
open Go.RowKit
set_option linter.unusedVariables false
set_option linter.unusedSimpArgs false

set_option maxHeartbeats 1000000 in
theorem pdoer4 {F : Nat → Prop} {w : World} {g : Nat} {p : Se} (h : PS F w g p) (h4 : p.st = 4) :
    Calls Tryz.prog 55 #[.pointer (some ⟨g, 0, none⟩)] w fun e w' => e = .returned (.tuple #[.func (.func 67) #[.pointer (some ⟨g, 0, none⟩)] #[], .int .i64 1000]) ∧ w' = w := by
  obtain ⟨lv, ev, rv, bv, o, xs, h⟩ := h
  obtain ⟨_, _, c2, _⟩ := h.cells
  rw [h4] at c2
  clear h
  go_enter Tryz.func55, Tryz.ntmps55
  go_wp2
  go_ret2
  exact ⟨rfl, rfl⟩
set_option maxHeartbeats 1000000 in
theorem pdoer {F : Nat → Prop} {w : World} {g : Nat} {p : Se} (h : PS F w g p) (h4 : ¬ (p.st : Int) = 4) :
    Calls Tryz.prog 55 #[.pointer (some ⟨g, 0, none⟩)] w fun e w' => e = .returned (.tuple #[.func (.func 68) #[.pointer (some ⟨g, 0, none⟩)] #[], .int .i64 512]) ∧ w' = w := by
  obtain ⟨lv, ev, rv, bv, o, xs, h⟩ := h
  obtain ⟨_, _, c2, _⟩ := h.cells
  clear h
  go_enter Tryz.func55, Tryz.ntmps55
  go_wp2
  go_ret2
  exact ⟨rfl, rfl⟩

/-! ### The stream -/
theorem PSat.lined {F S : Nat → Prop} {w w' : World} {g k : Nat} {p : Se} {lv ev rv bv : Value} {o : Own} {xs : List Value} {q' : Option Nat} {bs : List Nat} (h : PSat F w g p lv ev rv bv o xs) (h6 : p.st ≠ 6) (hk : o.gl = some k) (hv : lv = .pointer (some ⟨k, 0, none⟩)) (K : Keep S w w') (hS : ∀ i, S i → i = k ∨ o.ql = some i) (hL : Lin 0 w' k q' bs) (hN : New w o.ql q') :
    ∃ F', PS F' w' g { p with wait := bs } ∧ Keep F w w' ∧ More F F' w := by
  have h1 := h.neg
  have h2 := h.nee
  have h3 := h.ner
  have h4 := h.neb
  have hne : ∀ b, b ≠ k → o.ql ≠ some b → ¬ S b := fun b e1 e2 e3 => (hS b e3).elim e1 e2
  have hlq : ∀ i, q' = some i → o.qe ≠ some i ∧ o.qr ≠ some i ∧ o.qb ≠ some i := fun i hi => by
    rcases hN i hi with e | e
    · have := h.nel i e; exact ⟨this.1, this.2.1, this.2.2.1⟩
    · have hx : ∀ {z : Option Nat}, (z = some i → o.has i) → z ≠ some i := fun hz ez => by have := h.flt i (h.own i (hz ez)); omega
      exact ⟨hx .inl, hx (fun e => .inr (.inl e)), hx (fun e => .inr (.inr (.inl e)))⟩
  have ek : ∀ {b : Nat}, o.gl ≠ some b → b ≠ k := fun hb e => hb (by rw [hk, e])
  obtain ⟨F', H1, H2, H3⟩ := h.turn (p' := { p with wait := bs }) (lv' := lv) (ev' := ev) (rv' := rv) (bv' := bv) (o' := { o with ql := q' }) (xs' := xs) (R1 := PRd F g o) K
    (fun i _ e => (hS i e).elim (fun e => .inr (.inr (.inr (.inr (.inr (by rw [hk, e])))))) (fun e => .inr (.inr (.inr (.inr (.inl e))))))
    (h.row.keep K (hne g (fun e => h1 k (.inr (.inr (.inr (.inr hk)))) e.symm) (fun e => h1 g (.inr (.inr (.inr (.inl e)))) rfl)))
    (h.out.keep K (fun b hb => hne b (ek (h2 b hb).2.2.2) (h2 b hb).2.2.1)) (h.evs.keepW K (fun b _ hR => ⟨hne b (ek (fun e => hR.2.2 (.inr (.inr (.inr (.inr e)))))) (fun e => hR.2.2 (.inr (.inr (.inr (.inl e))))), hR⟩))
    (h.rc.keep K (fun b hb => hne b (ek (h3 b hb).2.2.2) (h3 b hb).2.2.1)) (h.body.keep K (fun b hb => hne b (ek (h4 b hb).2.2.2) (h4 b hb).2.2.1)) (.inr ⟨h6, k, hv, hk, hL⟩)
    (fun i hi e => (hlq i e).2.2 hi) (fun i hi => by
      rcases hi with hi | hi | hi | hi | hi
      · exact .inl (.inl hi)
      · exact .inl (.inr (.inl hi))
      · exact .inl (.inr (.inr (.inl hi)))
      · rcases hN i hi with e | e
        · exact .inl (.inr (.inr (.inr (.inl e))))
        · exact .inr e
      · exact .inl (.inr (.inr (.inr (.inr hi))))) (fun i _ hR => ⟨.inl hR.1, hR.2.1, fun hi => by
      rcases hi with hi | hi | hi | hi | hi
      · exact hR.2.2 (.inl hi)
      · exact hR.2.2 (.inr (.inl hi))
      · exact hR.2.2 (.inr (.inr (.inl hi)))
      · rcases hN i hi with e | e
        · exact hR.2.2 (.inr (.inr (.inr (.inl e))))
        · have := h.flt i hR.1; omega
      · exact hR.2.2 (.inr (.inr (.inr (.inr hi))))⟩)
  exact ⟨F', ⟨_, _, _, _, _, _, H1⟩, H2, H3⟩
/-- A line is asked for. -/
theorem lnextC {F : Nat → Prop} {w : World} {g : Nat} {p : Se} (h : PS F w g p) (hE : Env w) (h6 : p.st ≠ 6) (hl : p.wait.length ≤ 4294967280) (most : Int) (hm : (Lit.int .i64 most).wf = true) :
    ∃ k, w.cell? ⟨g, 3, none⟩ = some (.pointer (some ⟨k, 0, none⟩)) ∧ (∀ c ∈ p.wait, c < 256) ∧ Calls Tryz.prog 56 #[.pointer (some ⟨k, 0, none⟩), .int .i64 most] w fun e w' => e = .returned (.tuple #[.string (str (nextT p.wait most)), .bool (nextL p.wait most), .bool (nextK p.wait)]) ∧
      ∃ F', PS F' w' g { p with wait := nextS p.wait } ∧ Keep F w w' ∧ More F F' w := by
  obtain ⟨lv, ev, rv, bv, o, xs, h⟩ := h
  obtain ⟨_, _, _, c3, _⟩ := h.cells
  obtain ⟨⟨m, hc⟩, _⟩ := hE
  have hlin := h.lin
  rcases hlin with ⟨e6, _⟩ | ⟨_, k, hv, hk, hL⟩
  · exact absurd e6 h6
  · obtain ⟨v, _, hMid⟩ := hL.row
    refine ⟨k, by rw [c3, hv], hMid.1, (next hL most hm hl m hc).mono ?_⟩
    rintro e w' ⟨rfl, q', hL', hK, hN⟩
    exact ⟨rfl, h.lined h6 hk hv hK (fun i e => .inl e) hL' hN⟩

/-! ### A line is done -/
def PTried (F : Nat → Prop) (g : Nat) (b : Bool) (p : Se) (w : World) (e : Ending) (w' : World) : Prop := e = .returned (.bool b) ∧ ∃ F', PS F' w' g p ∧ Keep F w w' ∧ More F F' w
theorem PNow.tried {F F' : Nat → Prop} {w w' w'' : World} {g : Nat} {p p' : Se} {b : Bool} {e : Ending} (h : PNow F w g F' w' p) (d : PTried F' g b p' w' e w'') : e = .returned (.bool b) ∧ ∃ F'', PNow F w g F'' w'' p' := by
  obtain ⟨he, F'', h1, h2, h3⟩ := d
  exact ⟨he, F'', h.on h1 h2 h3⟩
theorem PNow.try {F F' : Nat → Prop} {w w' : World} {g : Nat} {p : Se} {b : Bool} (h : PNow F w g F' w' p) : PTried F g b p w (.returned (.bool b)) w' := ⟨rfl, F', h.rs, h.kp, h.more⟩

set_option maxHeartbeats 4000000 in
set_option maxRecDepth 100000 in
theorem pdoLine_no {F : Nat → Prop} {w : World} {g : Nat} {p : Se} (h : PS F w g p) (hE : Env w) (hl : p.wait.length ≤ 4294967280) (hs : p.st = 5 ∨ p.st = 6 ∨ (p.st < 5 ∧ pos p.wait = none)) :
    Calls Tryz.prog 40 #[.pointer (some ⟨g, 0, none⟩)] w (PTried F g false p w) := by
  have N0 := Lib.hid (PNow.start h hE)
  obtain ⟨_, _, c2, _, _, _⟩ := N0.out.cells
  rcases hs with h5 | h6 | ⟨h5, hp⟩
  · rw [h5] at c2
    clear h hE
    go_enter Tryz.func40, Tryz.ntmps40
    go_wp2
    go_ret
    exact N0.out.try
  · have HD := Lib.hid (pdoer h (by omega))
    obtain ⟨lv, ev, rv, bv, o, xs, hP⟩ := h
    obtain ⟨_, _, _, c3, _⟩ := hP.cells
    have hv : lv = .pointer none := by
      rcases hP.lin with ⟨_, hv, _⟩ | ⟨e6, _⟩
      · exact hv
      · exact absurd h6 e6
    rw [hv] at c3
    rw [h6] at c2
    clear hE hP hv
    go_enter Tryz.func40, Tryz.ntmps40
    go_wp2_with fail
    refine HD.out.mono ?_
    rintro e w1 ⟨rfl, hw⟩
    subst w1
    go_wp2_with fail
    refine (next_nil _ _).mono ?_
    rintro e w1 ⟨rfl, hw⟩
    subst w1
    go_wp2
    go_ret
    exact N0.out.try
  · obtain ⟨k, c3, _, hC⟩ := lnextC h hE (by omega) hl (if p.st = 4 then 1000 else 512) (by split <;> decide)
    rw [nextT_none hp, nextL_none hp, nextK_none hp, nextS_none hp] at hC
    have HC := Lib.hid hC
    by_cases h4 : (p.st : Int) = 4
    · have HD := Lib.hid (pdoer4 h (by omega))
      rw [if_pos (by omega)] at HC
      rw [h4] at c2
      clear h hE hC
      go_enter Tryz.func40, Tryz.ntmps40
      go_wp2_with fail
      refine HD.out.mono ?_
      rintro e w1 ⟨rfl, hw⟩
      subst w1
      go_wp2_with fail
      refine HC.out.mono ?_
      rintro e w1 ⟨rfl, F1, a1, b1, m1⟩
      have N1 := Lib.hid (N0.out.on a1 b1 m1)
      clear a1 b1 m1
      go_wp2
      go_ret
      exact N1.out.try
    · have HD := Lib.hid (pdoer h h4)
      rw [if_neg (by omega)] at HC
      have n5 : ¬ (p.st : Int) = 5 := by omega
      clear h hE hC
      go_enter Tryz.func40, Tryz.ntmps40
      go_wp2_with fail
      refine HD.out.mono ?_
      rintro e w1 ⟨rfl, hw⟩
      subst w1
      go_wp2_with fail
      refine HC.out.mono ?_
      rintro e w1 ⟨rfl, F1, a1, b1, m1⟩
      have N1 := Lib.hid (N0.out.on a1 b1 m1)
      clear a1 b1 m1
      go_wp2
      go_ret
      exact N1.out.try

set_option maxHeartbeats 4000000 in
set_option maxRecDepth 100000 in
theorem pdoLine_yes {F : Nat → Prop} {w : World} {g : Nat} {p : Se} {i : Nat} (h : PS F w g p) (hE : Env w) (hok : Ok p) (hl : p.wait.length ≤ 4294967280) (h5 : p.st < 5) (hp : pos p.wait = some i) (hh : p.host.size ≤ 100000) (ho : p.out.length + 2 ≤ 1000000) :
    Calls Tryz.prog 40 #[.pointer (some ⟨g, 0, none⟩)] w (PTried F g true ((p.cut i).pline V9 (p.wait.take i)) w) := by
  have N0 := Lib.hid (PNow.start h hE)
  obtain ⟨_, _, c2, _, _, _⟩ := N0.out.cells
  obtain ⟨k, c3, hby, hC⟩ := lnextC h hE (by omega) hl (if p.st = 4 then 1000 else 512) (by split <;> decide)
  have hb : ∀ c ∈ p.wait.take i, c < 256 := fun c hc => hby c (List.mem_of_mem_take hc)
  have hli := pos_lt hp
  have hti : (p.wait.take i).length = i := by rw [List.length_take]; omega
  rw [nextK_some hp, nextS_some hp] at hC
  have HOK : Hid (Ok (p.cut i)) := Lib.hid (hok.cut i)
  by_cases h4 : (p.st : Int) = 4
  · have HD := Lib.hid (pdoer4 h (by omega))
    rw [if_pos (by omega)] at hC
    have h4' : p.st = 4 := by omega
    rw [h4] at c2
    by_cases hlong : 1000 < i
    · rw [nextT_long hp (by omega), nextL_long hp (by omega)] at hC
      have HC := Lib.hid hC
      have HS : Hid ((p.cut i).pline V9 (p.wait.take i) = (p.cut i).ptext (p.wait.take i)) := Lib.hid (by rw [Se.pline, if_pos (show (p.cut i).st = 4 from h4')])
      have HT : Hid (1000 < (p.wait.take i).length) := Lib.hid (by omega)
      have HBY := Lib.hid hb
      clear h hE hC hok hby hb
      go_enter Tryz.func40, Tryz.ntmps40
      go_wp2_with fail
      refine HD.out.mono ?_
      rintro e w1 ⟨rfl, hw⟩
      subst w1
      go_wp2_with fail
      refine HC.out.mono ?_
      rintro e w1 ⟨rfl, F1, a1, b1, m1⟩
      have N1 := Lib.hid (N0.out.on (p' := p.cut i) a1 b1 m1)
      clear a1 b1 m1
      go_wp2_with fail
      refine (bodyC N1.out.rs N1.out.env HOK.out h4' ho (str []) (by decide) true _ HBY.out (.inr ⟨rfl, rfl, HT.out⟩)).mono ?_
      rintro e w2 hd
      obtain ⟨rfl, F2, hN2⟩ := N1.out.did hd
      have N2 := Lib.hid hN2
      clear hd hN2
      go_wp2
      go_ret
      rw [HS.out]
      exact N2.out.try
    · rw [nextT_short hp (by omega), nextL_short hp (by omega)] at hC
      have HC := Lib.hid hC
      have HS : Hid ((p.cut i).pline V9 (p.wait.take i) = (p.cut i).ptext (p.wait.take i)) := Lib.hid (by rw [Se.pline, if_pos (show (p.cut i).st = 4 from h4')])
      have HT : Hid ((str (p.wait.take i)).size ≤ 1000) := Lib.hid (by rw [str_size]; omega)
      have HBY := Lib.hid hb
      clear h hE hC hok hby hb
      go_enter Tryz.func40, Tryz.ntmps40
      go_wp2_with fail
      refine HD.out.mono ?_
      rintro e w1 ⟨rfl, hw⟩
      subst w1
      go_wp2_with fail
      refine HC.out.mono ?_
      rintro e w1 ⟨rfl, F1, a1, b1, m1⟩
      have N1 := Lib.hid (N0.out.on (p' := p.cut i) a1 b1 m1)
      clear a1 b1 m1
      go_wp2_with fail
      refine (bodyC N1.out.rs N1.out.env HOK.out h4' ho _ HT.out false _ HBY.out (.inl ⟨rfl, rfl⟩)).mono ?_
      rintro e w2 hd
      obtain ⟨rfl, F2, hN2⟩ := N1.out.did hd
      have N2 := Lib.hid hN2
      clear hd hN2
      go_wp2
      go_ret
      rw [HS.out]
      exact N2.out.try
  · have HD := Lib.hid (pdoer h h4)
    have h4' : ¬ p.st = 4 := by omega
    rw [if_neg h4'] at hC
    have n5 : ¬ (p.st : Int) = 5 := by omega
    by_cases hlong : 512 < i
    · rw [nextT_long hp (by omega), nextL_long hp (by omega)] at hC
      have HC := Lib.hid hC
      have HS : Hid ((p.cut i).pline V9 (p.wait.take i) = (p.cut i).say (reply 500)) := Lib.hid (by rw [Se.pline, if_neg (show ¬ (p.cut i).st = 4 from h4'), Se.pcommand, if_pos (by rw [str_size]; omega)])
      clear h hE hC hok hby hb
      go_enter Tryz.func40, Tryz.ntmps40
      go_wp2_with fail
      refine HD.out.mono ?_
      rintro e w1 ⟨rfl, hw⟩
      subst w1
      go_wp2_with fail
      refine HC.out.mono ?_
      rintro e w1 ⟨rfl, F1, a1, b1, m1⟩
      have N1 := Lib.hid (N0.out.on (p' := p.cut i) a1 b1 m1)
      clear a1 b1 m1
      go_wp2_with fail
      refine (pcommandLong N1.out.rs N1.out.env ho _).mono ?_
      rintro e w2 hd
      obtain ⟨rfl, F2, hN2⟩ := N1.out.did hd
      have N2 := Lib.hid hN2
      clear hd hN2
      go_wp2
      go_ret
      rw [HS.out]
      exact N2.out.try
    · rw [nextT_short hp (by omega), nextL_short hp (by omega)] at hC
      have HC := Lib.hid hC
      have HS : Hid ((p.cut i).pline V9 (p.wait.take i) = (p.cut i).pcommand V9 (str (p.wait.take i))) := Lib.hid (by rw [Se.pline, if_neg (show ¬ (p.cut i).st = 4 from h4')])
      have HT : Hid ((str (p.wait.take i)).size ≤ 512) := Lib.hid (by rw [str_size]; omega)
      have HH := Lib.hid hh
      clear h hE hC hok hby hb hh
      go_enter Tryz.func40, Tryz.ntmps40
      go_wp2_with fail
      refine HD.out.mono ?_
      rintro e w1 ⟨rfl, hw⟩
      subst w1
      go_wp2_with fail
      refine HC.out.mono ?_
      rintro e w1 ⟨rfl, F1, a1, b1, m1⟩
      have N1 := Lib.hid (N0.out.on (p' := p.cut i) a1 b1 m1)
      clear a1 b1 m1
      go_wp2_with fail
      refine (pcommandC N1.out.rs N1.out.env HOK.out (by show p.st ≤ 3; omega) HH.out ho _ HT.out).mono ?_
      rintro e w2 hd
      obtain ⟨rfl, F2, hN2⟩ := N1.out.did hd
      have N2 := Lib.hid hN2
      clear hd hN2
      go_wp2
      go_ret
      rw [HS.out]
      exact N2.out.try
end Go.Proofs.YtcjljldknekhiaaGreatDoor.Ln
