/-
  What the program's Next returns when an event is there.
-/
import Derived.Test.YtcjljldknekhiaaGreatDoorPg
namespace Go.Proofs.YtcjljldknekhiaaGreatDoor.Ln
open Go.RowKit
set_option linter.unusedVariables false
set_option linter.unusedSimpArgs false

/-- Its first event is taken away. -/
theorem PSat.popped {F : Nat → Prop} {w w' : World} {g : Nat} {p : Se} {lv ev rv bv v' : Value} {o : Own} {xs : List Value} (h : PSat F w g p lv ev rv bv o xs) (k : Keep (fun i => i = g ∨ o.qe = some i) w w') (hA : At w' g 68 (pCells p.pop lv v' rv bv)) (hM : MidG 46 8 w' v' o.qe (p.out.length - 1) (xs.drop 8)) :
    ∃ F', PS F' w' g p.pop ∧ Keep F w w' ∧ More F F' w := by
  have h1 := h.neg
  have h2 := h.ner
  have h3 := h.neb
  have h4 := h.nel
  have h5 := h.neL
  obtain ⟨F', H1, H2, H3⟩ := h.turn (p' := p.pop) (lv' := lv) (ev' := v') (rv' := rv) (bv' := bv) (o' := o) (xs' := xs.drop 8) (R1 := PRd F g o) k (fun i _ e => e.elim .inl (fun e => .inr (.inl e))) hA
    (by rw [show p.pop.out.length = p.out.length - 1 by simp [Se.pop]]; exact hM)
    ((h.evs.keepW k (fun b _ hR => ⟨fun e => e.elim hR.2.1 (fun e => hR.2.2 (.inl e)), hR⟩)).tail)
    (h.rc.keep k (fun b hb e => e.elim (h1 b (.inr (.inl hb))) (h2 b hb).1)) (h.body.keep k (fun b hb e => e.elim (h1 b (.inr (.inr (.inl hb)))) (h3 b hb).1)) (h.lin.keep k (fun b hb e => e.elim (h1 b (.inr (.inr (.inr (.inr hb))))) (h5 b hb).1) (fun b hb e => e.elim (h1 b (.inr (.inr (.inr (.inl hb))))) (h4 b hb).1))
    h.nbl (fun i hi => .inl hi) (fun i _ hR => ⟨.inl hR.1, hR.2.1, hR.2.2⟩)
  exact ⟨F', ⟨_, _, _, _, _, _, H1⟩, H2, H3⟩
/-- What is asked for when an event is there. -/
def SomeNext (F : Nat → Prop) (g : Nat) (s : Se) (ev : Ev) (w : World) (e : Ending) (w' : World) : Prop :=
  ∃ (k : Int) (t f : ByteArray) (rx : Option Addr) (rn rc : Nat) (bx : Option Addr) (bn bc : Nat) (s' : Se) (F' E : Nat → Prop), e = .returned (.tuple #[.agg (evA k t f rx rn rc bx bn bc), .bool true]) ∧ EvAt E w' ev (evCells k t f (.slice rx rn rc) (.slice bx bn bc)) ∧ More F E w ∧ (∀ k, E k → k < w'.heap.size) ∧
    s'.go V9 = (s.go V9).pop ∧ Gd s' ∧ s'.out.length ≤ 1 ∧ s'.wait.length ≤ s.wait.length ∧ mu s' < mu s ∧ VS F' w' g s' ∧ Keep F w w' ∧ More F F' w

set_option maxHeartbeats 4000000 in
set_option maxRecDepth 100000 in
theorem pnext_some {F : Nat → Prop} {w : World} {g : Nat} {s : Se} (h : VS F w g s) (hE : Env w) (gd : Gd s) (ev : Ev) (L : List Ev) (hn : (s.go V9).out = ev :: L) :
    Calls Tryz.prog 20 #[.pointer (some ⟨g, 0, none⟩)] w (SomeNext F g s ev w) := by
  have L0 := Lib.hid (loop_start h hE gd)
  have hsz : w.heap.size < (w.alloc (.cells zev.toArray 46)).heap.size := by simp
  have HSZ := Lib.hid hsz
  have HN := Lib.hid hn
  have HW : Hid (Keep (fun _ => False) w (w.alloc (.cells zev.toArray 46))) := Lib.hid ((Keep.refl (fun _ => False) w).alloc _)
  clear h hE gd hn hsz
  go_enter Tryz.func20, Tryz.ntmps20
  go_wp2
  go_loopw [] (fun wr => ∃ F' s', Hid (Loop F (w.alloc (.cells zev.toArray 46)) g w.heap.size s F' wr s')) (fun wr => waitLen wr g)
  case atStart => exact ⟨F, s, L0.out⟩
  case round =>
    obtain ⟨F', s', L1⟩ := hrel
    obtain ⟨lv, evv, rv, bv, o, xs, hP⟩ := L1.out.now.rs
    obtain ⟨x, c, rfl, hcap⟩ := hP.out.shape
    obtain ⟨_, _, _, _, c4, _⟩ := hP.cells
    cases ho : s'.out with
    | nil =>
      rw [show s'.view.out.length = 0 by show s'.out.length = 0; rw [ho]; rfl] at c4
      have HO := Lib.hid ho
      clear hP ho hcap
      rcases stuck_or s' L1.out.gd.ok.st with hst | ⟨i, h5, hp⟩
      · exfalso
        have h1 := L1.out.go
        rw [stuck_go (V := V9) hst] at h1
        have h2 := HN.out
        rw [← h1, HO.out] at h2
        cases h2
      · have HD := Lib.hid (pdoLine_yes (p := s'.view) L1.out.now.rs L1.out.now.env L1.out.gd.ok.view (by have := L1.out.gd.wait; show s'.wait.length ≤ _; omega) h5 hp (by have := L1.out.gd.host; show s'.host.size ≤ _; omega) (by show s'.out.length + 2 ≤ _; rw [HO.out]; decide))
        have hli := pos_lt hp
        have HV : Hid ((s'.view.cut i).pline V9 (s'.view.wait.take i) = ((s'.cut i).line V9 (s'.wait.take i)).view) := Lib.hid (view_line V9 (s'.cut i) (s'.wait.take i) h5).symm
        have HG := Lib.hid (go_some (V := V9) h5 hp)
        have HGD := Lib.hid (L1.out.gd.line (i := i) V9 HO.out (s'.wait.take i))
        have HM := Lib.hid L1.out.now.rs.waits
        have HMU := Lib.hid (Nat.le_of_lt (mu_line V9 h5 HO.out hli (s'.wait.take i)))
        have HWL : Hid (((s'.cut i).line V9 (s'.wait.take i)).wait.length = s'.wait.length - (i + 2)) := Lib.hid (by rw [line_wait]; simp [Se.cut])
        rw [HV.out] at HD
        have HKEY : Hid ((if ((s'.cut i).line V9 (s'.wait.take i)).view.st = 6 then 0 else ((s'.cut i).line V9 (s'.wait.take i)).view.wait.length + 1) < s'.view.wait.length + 1) := Lib.hid (by
          have h3 : ((s'.cut i).line V9 (s'.wait.take i)).view.wait.length = s'.view.wait.length - (i + 2) := HWL.out
          have h4 : i + 2 ≤ s'.view.wait.length := hli
          rw [h3]
          split
          · exact Nat.succ_pos _
          · omega)
        have n6 : s'.view.st ≠ 6 := by show s'.st ≠ 6; omega
        have HN6 := Lib.hid n6
        clear n6
        go_wp2_with fail
        refine HD.out.mono ?_
        rintro e w2 ⟨rfl, F2, a2, b2, m2⟩
        have L2 := Lib.hid (L1.out.tried HSZ.out a2 b2 m2 HG.out.symm HGD.out (by rw [HWL.out]; omega) HMU.out)
        clear a2 b2 m2
        go_wp2
        go_roundw
        case rel => exact ⟨F2, _, L2.out⟩
        case measure =>
          have h1 := HM.out
          rw [if_neg HN6.out] at h1
          have h2 := L2.out.now.rs.waits
          rw [h1, h2]
          exact HKEY.out
    | cons e' L' =>
      have hgp := go_pop (V := V9) ho
      rw [L1.out.go, HN.out] at hgp
      obtain ⟨hq1, hq2⟩ := hgp
      injection hq1 with hq1 _
      subst hq1
      have hev := hP.evs
      rw [show s'.view.out = ev :: L' from ho] at hev
      obtain ⟨cs, r, hxs, hEv, hEvs⟩ := hev
      obtain ⟨k, t, f, rx, rn, rc, bx, bn, bc, hcs, _⟩ := hEv.form
      have h2 := L1.out.gd.out
      obtain ⟨n, hnn⟩ : ∃ n, n = s'.view.out.length := ⟨_, rfl⟩
      have hn12 : n = 1 ∨ n = 2 := by
        have e1 : s'.view.out.length = L'.length + 1 := by show s'.out.length = _; rw [ho]; rfl
        have e2 : s'.out.length = L'.length + 1 := by rw [ho]; rfl
        omega
      have hMid := hP.out
      rw [← hnn] at c4 hMid hcap
      have hlen := hMid.1
      have hcl : ∀ j, j < 8 → ∃ b off, x = some ⟨b, off, none⟩ ∧ o.qe = some b ∧ wr.cell? ⟨b, off + j, none⟩ = (evCells k t f (.slice rx rn rc) (.slice bx bn bc))[j]? := fun j hj => by
        obtain ⟨b, off, e1, e2, e3⟩ := hMid.cell j (by omega)
        refine ⟨b, off, e1, e2, ?_⟩
        rw [e3, hxs, ← hcs, List.getElem?_append_left (by rw [hEv.len]; exact hj)]
      obtain ⟨b, off, rfl, hqe, _⟩ := hcl 0 (by omega)
      have dd : ∀ j, j < 8 → wr.cell? ⟨b, off + j, none⟩ = (evCells k t f (.slice rx rn rc) (.slice bx bn bc))[j]? := fun j hj => by
        obtain ⟨b', off', e1, _, e3⟩ := hcl j hj
        injection e1 with e1
        injection e1 with e4 e5
        subst e4 e5
        exact e3
      have d0 : wr.cell? ⟨b, off, none⟩ = some (.int .i64 k) := dd 0 (by omega)
      have d1 : wr.cell? ⟨b, off + 1, none⟩ = some (.string t) := dd 1 (by omega)
      have d2 : wr.cell? ⟨b, off + 2, none⟩ = some (.int .i64 0) := dd 2 (by omega)
      have d3 : wr.cell? ⟨b, off + 3, none⟩ = some (.int .i64 0) := dd 3 (by omega)
      have d4 : wr.cell? ⟨b, off + 4, none⟩ = some (.int .i64 0) := dd 4 (by omega)
      have d5 : wr.cell? ⟨b, off + 5, none⟩ = some (.string f) := dd 5 (by omega)
      have d6 : wr.cell? ⟨b, off + 6, none⟩ = some (.slice rx rn rc) := dd 6 (by omega)
      have d7 : wr.cell? ⟨b, off + 7, none⟩ = some (.slice bx bn bc) := dd 7 (by omega)
      -- the worlds ahead
      have hgl := hP.flt g hP.fg
      have k1 : Keep (fun _ => False) wr ((wr.alloc (.cells #[.int .i64 0, .string { data := #[] }, .int .i64 0, .int .i64 0, .int .i64 0, .string { data := #[] }, .slice none 0 0, .slice none 0 0] 46)).setRow wr.heap.size (evA k t f rx rn rc bx bn bc)) := ((Keep.refl (fun _ => False) wr).alloc _).setRow (fun h => absurd h (Nat.lt_irrefl _)) _
      have hZ : At (wr.alloc (.cells #[.int .i64 0, .string { data := #[] }, .int .i64 0, .int .i64 0, .int .i64 0, .string { data := #[] }, .slice none 0 0, .slice none 0 0] 46)) wr.heap.size 46 (evA 0 nobody nobody none 0 0 none 0 0) := At.new wr _ _
      have HZ := Lib.hid hZ
      have HT := Lib.hid (hZ.setRow (evA k t f rx rn rc bx bn bc))
      have hP1 := hP.other k1 (fun _ _ h => h)
      have HM1 := Lib.hid (hMid.keep k1 (fun _ _ h => h))
      have HP1 := Lib.hid hP1
      have c41 : ((wr.alloc (.cells #[.int .i64 0, .string { data := #[] }, .int .i64 0, .int .i64 0, .int .i64 0, .string { data := #[] }, .slice none 0 0, .slice none 0 0] 46)).setRow wr.heap.size (evA k t f rx rn rc bx bn bc)).cell? ⟨g, 4, none⟩ = some (.slice (some ⟨b, off, none⟩) n c) := k1.cell c4 (fun h => h)
      have HP := Lib.hid hP
      have HEV := Lib.hid hEv
      have HCS := Lib.hid hcs
      have HQ2 := Lib.hid hq2
      have HQE := Lib.hid hqe
      have HNN := Lib.hid hnn
      have HN12 := Lib.hid hn12
      have HK1 := Lib.hid k1
      have HHO := Lib.hid ho
      have n1 : (0 : Int) < (n : Int) := by omega
      have n2 : ¬ ((n : Int) = 0) := by omega
      have n3 : 0 < n := by omega
      clear hP hP1 hMid hEv hEvs hcs hq2 hxs hcl dd ho hqe hnn hlen h2 k1 hZ
      go_wp2_with (first | (refine step_ev (by rfl) (.tmp 4) (.tmp 23) (by rfl) wr.heap.size k t f rx bx rn rc bn bc (by rfl) (by rfl) HZ.out ?_))
      refine (pdelete HM1.out HN12.out).mono ?_
      rintro e w3 ⟨v', rfl, ⟨y, m, c', rfl⟩, hM3, hK3⟩
      have hA3 := HP1.out.row.keep hK3 (fun e => HP1.out.neg g (.inl e) rfl)
      have c43 : w3.cell? ⟨g, 4, none⟩ = some (.slice (some ⟨b, off, none⟩) n c) := by rw [hA3.cell, HNN.out]; rfl
      have f43 := hA3.frozen 4
      have hT3 := HT.out.keep hK3 (fun e => by have := HP.out.flt wr.heap.size (HP.out.own _ (.inl e)); omega)
      have hgne : wr.heap.size ≠ g := by omega
      have HT4 := Lib.hid (hT3.far (p := ⟨g, 4, none⟩) hgne (.slice y m c'))
      have hR3 : At (w3.setCell ⟨g, 4, none⟩ (.slice y m c')) w.heap.size 46 (evA 0 nobody nobody none 0 0 none 0 0) := by
        have h1 : At wr w.heap.size 46 (evA 0 nobody nobody none 0 0 none 0 0) := L1.out.res
        have h2 := h1.keep HK1.out (fun h => h)
        have h3 := h2.keep hK3 (fun e => L1.out.out w.heap.size (HP.out.own _ (.inl e)) rfl)
        exact h3.far (fun e => L1.out.out g HP.out.fg e.symm) _
      have HR4 := Lib.hid hR3
      have HA3 := Lib.hid hA3
      have HM3 := Lib.hid hM3
      have HK3 := Lib.hid hK3
      clear hA3 hM3 hK3 hT3 hR3
      go_wp2_with (first
        | (refine wpList_load_row (by rfl) 46 (.tmp 4) (by rfl) wr.heap.size (by rfl) 46 (evA k t f rx rn rc bx bn bc) (0, 0) _ HT4.out Tryz.underlying46 rfl infoE ?_)
        | (refine step_ev (by rfl) (.tmp 2) (.tmp 32) (by rfl) w.heap.size k t f rx bx rn rc bn bc (by rfl) (by rfl) HR4.out ?_))
      (try simp only [Exit.inBlock, Exit.then])
      refine bodyPost_ret (ret_ev (fn := Tryz.f20) (p := 2) (u := 3) rfl _ _ w.heap.size rfl (HR4.out.setRow _)) rfl ?_
      have kg : Keep (fun i => i = g) w3 (w3.setCell ⟨g, 4, none⟩ (.slice y m c')) := (Keep.refl (fun i => i = g) w3).setCell (p := ⟨g, 4, none⟩) (fun _ => rfl) _
      have k4 : Keep (fun i => i = g ∨ o.qe = some i) wr (w3.setCell ⟨g, 4, none⟩ (.slice y m c')) := ((HK1.out.mono (fun _ _ h => h.elim)).trans HK3.out (fun i _ e => .inr e)).trans kg (fun i _ e => .inl e)
      obtain ⟨F4, a4, b4, m4⟩ := HP.out.popped (v' := .slice y m c') k4 (HA3.out.put 4 _) (by rw [← HNN.out]; exact HM3.out.keep kg (fun b hb e => HM3.out.ne HA3.out (by decide) (by rw [hb, e])))
      have N4 := L1.out.now.on (p' := s'.pop.view) a4 b4 m4
      have hne4 : ∀ k, F4 k → k ≠ w.heap.size := fun k hk e => by
        rcases m4 k hk with h1 | h1
        · exact L1.out.out k h1 e
        · have h2 := L1.out.now.kp.size
          have h3 := HSZ.out
          omega
      have k5 : Keep (fun i => i = w.heap.size) (w3.setCell ⟨g, 4, none⟩ (.slice y m c')) ((w3.setCell ⟨g, 4, none⟩ (.slice y m c')).setRow w.heap.size (evA k t f rx rn rc bx bn bc)) := (Keep.refl (fun i => i = w.heap.size) _).setRow (fun _ => rfl) _
      have kw : Keep F w (w3.setCell ⟨g, 4, none⟩ (.slice y m c')) := (HW.out.mono (T := F) (fun _ _ h => h.elim)).trans N4.kp (fun i _ h => h)
      have hEv := HEV.out.keepW (R' := F') ((k4.mono (T := fun i => (i = g ∨ o.qe = some i) ∨ i = w.heap.size) (fun _ _ e => .inl e)).trans k5 (fun _ _ e => .inr e)) (fun b _ hR => ⟨fun e => by
        rcases e with (e | e) | e
        · exact hR.2.1 e
        · exact hR.2.2 (.inl e)
        · exact L1.out.out b hR.1 e, hR.1⟩)
      rw [HCS.out] at hEv
      refine ⟨k, t, f, rx, rn, rc, bx, bn, bc, s'.pop, F4, F', rfl, hEv, fun i hi => ?_, fun i hi => ?_, ?_, L1.out.gd.pop, ?_, L1.out.wl, Nat.lt_of_lt_of_le (mu_pop (by rw [HHO.out]; exact Nat.succ_pos _)) L1.out.ml, a4.other k5 (fun i hi e => hne4 i hi e), kw.trans k5 (fun i hi e => by omega), fun i hi => ?_⟩
      · rcases L1.out.now.more i hi with e | e
        · exact .inl e
        · exact .inr (Nat.le_trans HW.out.size e)
      · exact Nat.lt_of_lt_of_le (Nat.lt_of_lt_of_le (HP.out.flt i hi) k4.size) k5.size
      · exact HQ2.out.symm
      · have h1 := L1.out.gd.out
        show s'.out.tail.length ≤ 1
        rw [List.length_tail]
        omega
      · rcases N4.more i hi with e | e
        · exact .inl e
        · exact .inr (Nat.le_trans HW.out.size e)
end Go.Proofs.YtcjljldknekhiaaGreatDoor.Ln
