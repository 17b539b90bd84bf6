/-
  Several texts in one: Pg Ph Pn.
-/
import Derived.Test.YtcjljldknekhiaaGreatDoorKg9
import Derived.Laws.ResultCell
import Derived.Test.YtcjljldknekhiaaGreatDoorKg4
import Derived.Test.YtcjljldknekhiaaGreatDoorKg5
import Derived.Lib.Case

section
/-
  What the program's Next returns: the next event of all that can be done.
-/
namespace Go.Proofs.YtcjljldknekhiaaGreatDoor.Ln
open Go.RowKit
set_option linter.unusedVariables false
set_option linter.unusedSimpArgs false

/-! ### An event that is laid down, and one that is answered -/
theorem infoE : (Tryz.prog.info? 46).map (·.size) = some 8 := by kernel_rfl
theorem Keep.setRow {S : Nat → Prop} {a w : World} (h : Keep S a w) {g : Nat} (hg : g < a.heap.size → S g) (cs : Array Value) : Keep S a (w.setRow g cs) :=
  ⟨h.os, h.tape, h.output, by rw [size_setRow]; exact h.size, fun k hk hs => (setRow_other w g k cs (fun e => by subst e; exact hs (hg hk))).trans (h.block k hk hs)⟩
theorem At.setRow {w : World} {g : Nat} {cs : Array Value} (h : At w g 46 cs) (cs' : Array Value) : At (w.setRow g cs') g 46 cs' := setRow_heap w g _ _ _ _ h
theorem evs_one (k : Int) (t f : ByteArray) (rx bx : Option Addr) (rn rc bn bc : Nat) : (#[Value.int .i64 k, .string t, .int .i64 0, .int .i64 0, .int .i64 0, .string f, .slice rx rn rc, .slice bx bn bc] : Array Value).all (·.oneCell') = true := by simp [Value.oneCell']
def evA (k : Int) (t f : ByteArray) (rx : Option Addr) (rn rc : Nat) (bx : Option Addr) (bn bc : Nat) : Array Value := #[.int .i64 k, .string t, .int .i64 0, .int .i64 0, .int .i64 0, .string f, .slice rx rn rc, .slice bx bn bc]
theorem step_ev {ops : Array Oper} {rest : List Oper} {o : Oper} {a : Act} {w : World} {Q : Exit → Act → World → Prop} (hgd : o.guard = none) (x y : Operand) (ho : o.op = .store 46 x y)
    (g : Nat) (k : Int) (t f : ByteArray) (rx bx : Option Addr) (rn rc bn bc : Nat) (hx : a.eval x = .pointer (some ⟨g, 0, none⟩)) (hy : a.eval y = .agg #[.int .i64 k, .string t, .int .i64 0, .int .i64 0, .int .i64 0, .string f, .slice rx rn rc, .slice bx bn bc])
    {k' : Int} {t' f' : ByteArray} {rx' bx' : Option Addr} {rn' rc' bn' bc' : Nat} (hg : At w g 46 (evA k' t' f' rx' rn' rc' bx' bn' bc'))
    (h : wpList Tryz.prog ops Q rest (a.put o.dst undef) (w.setRow g (evA k t f rx rn rc bx bn bc))) : wpList Tryz.prog ops Q (o :: rest) a w :=
  wpList_store_row hgd 46 x y ho g (evA k t f rx rn rc bx bn bc) hx hy 46 _ hg infoE rfl (evs_one _ _ _ _ _ _ _ _ _) h
theorem ret_ev {fn : Func} {p u : Tmp} (h : fn.results = #[.cell p 46, .tmp u]) (tmps : Array Value) (w : World) (g : Nat) {k : Int} {t f : ByteArray} {rx bx : Option Addr} {rn rc bn bc : Nat} (hp : tmps.getD p undef = .pointer (some ⟨g, 0, none⟩)) (hg : At w g 46 (evA k t f rx rn rc bx bn bc)) :
    (results fn tmps).run Tryz.prog w = .ok (.tuple #[.agg (evA k t f rx rn rc bx bn bc), tmps.getD u undef]) w := by
  rw [results_cell_tmp h, hp]
  have := run_loadVar_row (P := Tryz.prog) w g 46 46 (evA k t f rx rn rc bx bn bc) (0, 0) _ hg Tryz.underlying46 rfl infoE
  simp [asAddr, this, Result.andThen]
theorem EvAt.form {R : Nat → Prop} {w : World} {e : Ev} {cs : List Value} (h : EvAt R w e cs) : ∃ k t f rx rn rc bx bn bc, cs = evCells k t f (.slice rx rn rc) (.slice bx bn bc) ∧ (k = 3 ↔ isShut e = true) := by
  cases e with
  | say t => exact ⟨1, t, nobody, none, 0, 0, none, 0, 0, h, by simp [isShut]⟩
  | keep f r b =>
    obtain ⟨rv, bv, hc, ⟨rx, rc, rfl, _⟩, ⟨bx, bc, rfl, _⟩⟩ := h
    exact ⟨2, nobody, f, rx, _, rc, bx, _, bc, hc, by simp [isShut]⟩
  | shut => exact ⟨3, nobody, nobody, none, 0, 0, none, 0, 0, h, by simp [isShut]⟩

/-! ### How much waits, by the cells -/
def waitLen (w : World) (g : Nat) : Nat :=
  match w.cell? ⟨g, 3, none⟩ with
  | some (.pointer (some a)) => (match w.cell? a with | some (.slice _ n _) => n + 1 | _ => 0)
  | _ => 0
theorem PS.waits {F : Nat → Prop} {w : World} {g : Nat} {p : Se} (h : PS F w g p) : waitLen w g = if p.st = 6 then 0 else p.wait.length + 1 := by
  obtain ⟨lv, ev, rv, bv, o, xs, h⟩ := h
  obtain ⟨_, _, _, c3, _⟩ := h.cells
  rcases h.lin with ⟨h6, hv, _⟩ | ⟨h6, k, hv, _, hL⟩
  · rw [hv] at c3
    rw [waitLen, c3, if_pos h6]
  · obtain ⟨v, hA, hM⟩ := hL.row
    obtain ⟨x, c, hvv, _⟩ := hM.shape
    rw [hv] at c3
    have c0 : w.cell? ⟨k, 0, none⟩ = some (.slice x p.wait.length c) := by rw [hA.cell]; simp [hvv]
    rw [waitLen, c3, if_neg h6]
    simp only [c0]
/-- How much is still to come, by the cells: each event that is told, and each answer, lowers it. -/
def mu (s : Se) : Nat := 6 * (if s.st = 6 then 0 else s.wait.length + 1) + 2 * s.out.length + (if s.st = 5 then 3 else 0)
def muW (w : World) (g : Nat) : Nat :=
  6 * waitLen w g + 2 * (match w.cell? ⟨g, 4, none⟩ with | some (.slice _ n _) => n | _ => 0) + (match w.cell? ⟨g, 2, none⟩ with | some (.int _ n) => (if n = 5 then 3 else 0) | _ => 0)
theorem PS.muW {F : Nat → Prop} {w : World} {g : Nat} {p : Se} (h : PS F w g p) : muW w g = mu p := by
  have h1 := h.waits
  obtain ⟨lv, ev, rv, bv, o, xs, h⟩ := h
  obtain ⟨_, _, c2, _, c4, _⟩ := h.cells
  obtain ⟨x, c, hv, _⟩ := h.out.shape
  rw [hv] at c4
  unfold Ln.muW mu
  rw [h1, c4, c2]
  simp only
  have e : ((p.st : Int) = 5) ↔ p.st = 5 := by omega
  by_cases h5 : p.st = 5
  · rw [if_pos h5, if_pos (e.2 h5)]
  · rw [if_neg h5, if_neg (fun h => h5 (e.1 h))]
theorem mu_line {s : Se} {i : Nat} (V : ByteArray → VC) (h5 : s.st < 5) (ho : s.out = []) (hi : i + 2 ≤ s.wait.length) (l : List Nat) : mu ((s.cut i).line V l) < mu s := by
  have hw : ((s.cut i).line V l).wait.length = s.wait.length - (i + 2) := by rw [line_wait]; simp [Se.cut]
  have h2 := out_line V (s.cut i) l
  rw [show (s.cut i).out = [] from ho] at h2
  simp only [List.length_nil] at h2
  unfold mu
  rw [hw, if_neg (show ¬ s.st = 6 by omega), if_neg (show ¬ s.st = 5 by omega)]
  split <;> split <;> omega
theorem mu_pop {s : Se} (h : 0 < s.out.length) : mu s.pop < mu s := by
  have e : s.pop.out.length = s.out.length - 1 := by simp [Se.pop]
  unfold mu
  rw [e]
  show 6 * (if s.st = 6 then 0 else s.wait.length + 1) + 2 * (s.out.length - 1) + (if s.st = 5 then 3 else 0) < _
  omega
theorem mu_answer {s : Se} {code : Int} (h : ansOk s code = true) : mu (s.answer code) < mu s := by
  have h' := of_decide_eq_true h
  unfold mu
  have e1 : (s.answer code).st = 1 := by rw [Se.answer, if_pos h]; show (if 1 < s.st then 1 else s.st) = 1; rw [if_pos (by omega)]
  have e2 : (s.answer code).out.length = 1 := by rw [Se.answer, if_pos h]; show (s.out ++ [_]).length = 1; rw [h'.2.1]; rfl
  have e3 : (s.answer code).wait = s.wait := by rw [Se.answer, if_pos h]; rfl
  rw [e1, e2, e3, h'.2.1, h'.1]
  simp
/-- Nothing more can be done. -/
def Stuck (s : Se) : Prop := s.st = 5 ∨ s.st = 6 ∨ (s.st < 5 ∧ pos s.wait = none)
theorem stuck_go {V : ByteArray → VC} {s : Se} (h : Stuck s) : s.go V = s := by
  rcases h with h | h | ⟨_, h⟩
  · exact go_over (by omega)
  · exact go_over (by omega)
  · exact go_none h
theorem stuck_or (s : Se) (hst : s.st ≤ 6) : Stuck s ∨ ∃ i, s.st < 5 ∧ pos s.wait = some i := by
  by_cases h5 : s.st < 5
  · cases hp : pos s.wait with
    | none => exact .inl (.inr (.inr ⟨h5, hp⟩))
    | some i => exact .inr ⟨i, h5, rfl⟩
  · exact .inl (by unfold Stuck; omega)

/-- How far Next is. -/
structure Loop (F : Nat → Prop) (w1 : World) (g : Nat) (r : Nat) (s : Se) (F' : Nat → Prop) (wr : World) (s' : Se) : Prop where
  now : PNow F w1 g F' wr s'.view
  go : s'.go V9 = s.go V9
  gd : Gd s'
  res : At wr r 46 zev.toArray
  out : ∀ k, F' k → k ≠ r
  wl : s'.wait.length ≤ s.wait.length
  ml : mu s' ≤ mu s
theorem Loop.tried {F F' F'' : Nat → Prop} {w1 wr w2 : World} {g r : Nat} {s s' s'' : Se} (h : Loop F w1 g r s F' wr s') (hr : r < w1.heap.size) (a : PS F'' w2 g s''.view) (b : Keep F' wr w2) (m : More F' F'' wr) (hg : s''.go V9 = s'.go V9) (gd : Gd s'') (hw : s''.wait.length ≤ s'.wait.length) (hmu : mu s'' ≤ mu s') : Loop F w1 g r s F'' w2 s'' :=
  ⟨h.now.on a b m, hg.trans h.go, gd, h.res.keep b (fun e => h.out r e rfl), fun k hk => by
    rcases m k hk with e | e
    · exact h.out k e
    · have := h.now.kp.size; omega, Nat.le_trans hw h.wl, Nat.le_trans hmu h.ml⟩
theorem Loop.stay {F F' : Nat → Prop} {w1 wr w2 : World} {g r : Nat} {s s' : Se} (h : Loop F w1 g r s F' wr s') (hr : r < w1.heap.size) {F'' : Nat → Prop} (a : PS F'' w2 g s'.view) (b : Keep F' wr w2) (m : More F' F'' wr) : Loop F w1 g r s F'' w2 s' := h.tried hr a b m rfl h.gd (Nat.le_refl _) (Nat.le_refl _)

theorem zev_is : zev.toArray = evA 0 nobody nobody none 0 0 none 0 0 := rfl
theorem loop_start {F : Nat → Prop} {w : World} {g : Nat} {s : Se} (h : VS F w g s) (hE : Env w) (gd : Gd s) : Loop F (w.alloc (.cells zev.toArray 46)) g w.heap.size s F (w.alloc (.cells zev.toArray 46)) s := by
  have k : Keep (fun _ => False) w (w.alloc (.cells zev.toArray 46)) := (Keep.refl (fun _ => False) w).alloc _
  exact ⟨PNow.start (h.quiet k) (hE.quiet k), rfl, gd, At.new w _ _, fun i hi e => by have := h.lt i hi; omega, Nat.le_refl _, Nat.le_refl _⟩
/-- What is asked for when nothing is told: nothing. -/
def NoNext (F : Nat → Prop) (g : Nat) (s : Se) (w : World) (e : Ending) (w' : World) : Prop :=
  e = .returned (.tuple #[.agg zev.toArray, .bool false]) ∧ ∃ F', VS F' w' g (s.go V9) ∧ Keep F w w' ∧ More F F' w

set_option maxHeartbeats 4000000 in
set_option maxRecDepth 100000 in
theorem pnext_none {F : Nat → Prop} {w : World} {g : Nat} {s : Se} (h : VS F w g s) (hE : Env w) (gd : Gd s) (hn : (s.go V9).out = []) :
    Calls Tryz.prog 20 #[.pointer (some ⟨g, 0, none⟩)] w (NoNext F g s w) := by
  have L0 := Lib.hid (loop_start h hE gd)
  have hsz : w.heap.size < (w.alloc (.cells zev.toArray 46)).heap.size := by simp
  have HSZ := Lib.hid hsz
  have HN := Lib.hid hn
  have HW : Hid (Keep (fun _ => False) w (w.alloc (.cells zev.toArray 46))) := Lib.hid ((Keep.refl (fun _ => False) w).alloc _)
  clear h hE gd hn hsz
  go_enter Tryz.func20, Tryz.ntmps20
  go_wp2
  go_loopw [] (fun wr => ∃ F' s', Hid (Loop F (w.alloc (.cells zev.toArray 46)) g w.heap.size s F' wr s')) (fun wr => waitLen wr g)
  case atStart => exact ⟨F, s, L0.out⟩
  case round =>
    obtain ⟨F', s', L1⟩ := hrel
    have hout : s'.out = [] := by
      cases ho : s'.out with
      | nil => rfl
      | cons e L =>
        have h1 := (go_pop (V := V9) ho).1
        rw [L1.out.go, HN.out] at h1
        cases h1
    obtain ⟨lv, ev, rv, bv, o, xs, hP⟩ := L1.out.now.rs
    obtain ⟨x, c, rfl, _⟩ := hP.out.shape
    obtain ⟨_, _, _, _, c4, _⟩ := hP.cells
    rw [show s'.view.out.length = 0 by show s'.out.length = 0; rw [hout]; rfl] at c4
    have HO := Lib.hid hout
    clear hP hout
    rcases stuck_or s' L1.out.gd.ok.st with hst | ⟨i, h5, hp⟩
    · have HG := Lib.hid (stuck_go (V := V9) hst)
      have HD := Lib.hid (pdoLine_no L1.out.now.rs L1.out.now.env (by have := L1.out.gd.wait; show s'.wait.length ≤ _; omega) (p := s'.view) hst)
      clear hst
      go_wp2_with fail
      refine HD.out.mono ?_
      rintro e w2 ⟨rfl, F2, a2, b2, m2⟩
      have L2 := Lib.hid (L1.out.stay HSZ.out a2 b2 m2)
      have HR2 := Lib.hid (show At w2 w.heap.size 46 (evA 0 nobody nobody none 0 0 none 0 0) from L2.out.res)
      clear a2 b2 m2
      go_wp2_with (refine step_ev (by rfl) (.tmp 2) (.tmp 17) (by rfl) w.heap.size 0 nobody nobody none none 0 0 0 0 (by rfl) (by rfl) HR2.out ?_)
      (try simp only [Exit.inBlock, Exit.then])
      refine bodyPost_ret (ret_ev (fn := Tryz.f20) (p := 2) (u := 3) rfl _ _ w.heap.size rfl (HR2.out.setRow _)) rfl ?_
      have k3 : Keep (fun i => i = w.heap.size) w2 (w2.setRow w.heap.size (evA 0 nobody nobody none 0 0 none 0 0)) := (Keep.refl (fun i => i = w.heap.size) w2).setRow (fun _ => rfl) _
      refine ⟨rfl, F2, ?_, ?_, fun k hk => ?_⟩
      · have : s.go V9 = s' := by rw [← L1.out.go, HG.out]
        rw [this]
        exact L2.out.now.rs.other k3 (fun i hi e => L2.out.out i hi e)
      · exact ((HW.out.mono (T := F) (fun _ _ h => h.elim)).trans L2.out.now.kp (fun i _ h => h)).trans k3 (fun i hi e => by omega)
      · rcases L2.out.now.more k hk with e | e
        · exact .inl e
        · exact .inr (Nat.le_trans HW.out.size e)
    · have HD := Lib.hid (pdoLine_yes (p := s'.view) L1.out.now.rs L1.out.now.env L1.out.gd.ok.view (by have := L1.out.gd.wait; show s'.wait.length ≤ _; omega) h5 hp (by have := L1.out.gd.host; show s'.host.size ≤ _; omega) (by show s'.out.length + 2 ≤ _; rw [HO.out]; decide))
      have hli := pos_lt hp
      have HV : Hid ((s'.view.cut i).pline V9 (s'.view.wait.take i) = ((s'.cut i).line V9 (s'.wait.take i)).view) := Lib.hid (view_line V9 (s'.cut i) (s'.wait.take i) h5).symm
      have HG := Lib.hid (go_some (V := V9) h5 hp)
      have HGD := Lib.hid (L1.out.gd.line (i := i) V9 HO.out (s'.wait.take i))
      have HM := Lib.hid L1.out.now.rs.waits
      have HMU := Lib.hid (Nat.le_of_lt (mu_line V9 h5 HO.out hli (s'.wait.take i)))
      have HWL : Hid (((s'.cut i).line V9 (s'.wait.take i)).wait.length = s'.wait.length - (i + 2)) := Lib.hid (by rw [line_wait]; simp [Se.cut])
      rw [HV.out] at HD
      have HKEY : Hid ((if ((s'.cut i).line V9 (s'.wait.take i)).view.st = 6 then 0 else ((s'.cut i).line V9 (s'.wait.take i)).view.wait.length + 1) < s'.view.wait.length + 1) := Lib.hid (by
        have h3 : ((s'.cut i).line V9 (s'.wait.take i)).view.wait.length = s'.view.wait.length - (i + 2) := HWL.out
        have h4 : i + 2 ≤ s'.view.wait.length := hli
        rw [h3]
        split
        · exact Nat.succ_pos _
        · omega)
      have n6 : s'.view.st ≠ 6 := by show s'.st ≠ 6; omega
      have HN6 := Lib.hid n6
      clear n6
      go_wp2_with fail
      refine HD.out.mono ?_
      rintro e w2 ⟨rfl, F2, a2, b2, m2⟩
      have L2 := Lib.hid (L1.out.tried HSZ.out a2 b2 m2 HG.out.symm HGD.out (by rw [HWL.out]; omega) HMU.out)
      clear a2 b2 m2
      go_wp2
      go_roundw
      case rel => exact ⟨F2, _, L2.out⟩
      case measure =>
        have h1 := HM.out
        rw [if_neg HN6.out] at h1
        have h2 := L2.out.now.rs.waits
        rw [h1, h2]
        exact HKEY.out
end Go.Proofs.YtcjljldknekhiaaGreatDoor.Ln
end

section
/-
  What the program's Next returns when an event is there.
-/
namespace Go.Proofs.YtcjljldknekhiaaGreatDoor.Ln
open Go.RowKit
set_option linter.unusedVariables false
set_option linter.unusedSimpArgs false

/-- Its first event is taken away. -/
theorem PSat.popped {F : Nat → Prop} {w w' : World} {g : Nat} {p : Se} {lv ev rv bv v' : Value} {o : Own} {xs : List Value} (h : PSat F w g p lv ev rv bv o xs) (k : Keep (fun i => i = g ∨ o.qe = some i) w w') (hA : At w' g 68 (pCells p.pop lv v' rv bv)) (hM : MidG 46 8 w' v' o.qe (p.out.length - 1) (xs.drop 8)) :
    ∃ F', PS F' w' g p.pop ∧ Keep F w w' ∧ More F F' w := by
  have h1 := h.neg
  have h2 := h.ner
  have h3 := h.neb
  have h4 := h.nel
  have h5 := h.neL
  obtain ⟨F', H1, H2, H3⟩ := h.turn (p' := p.pop) (lv' := lv) (ev' := v') (rv' := rv) (bv' := bv) (o' := o) (xs' := xs.drop 8) (R1 := PRd F g o) k (fun i _ e => e.elim .inl (fun e => .inr (.inl e))) hA
    (by rw [show p.pop.out.length = p.out.length - 1 by simp [Se.pop]]; exact hM)
    ((h.evs.keepW k (fun b _ hR => ⟨fun e => e.elim hR.2.1 (fun e => hR.2.2 (.inl e)), hR⟩)).tail)
    (h.rc.keep k (fun b hb e => e.elim (h1 b (.inr (.inl hb))) (h2 b hb).1)) (h.body.keep k (fun b hb e => e.elim (h1 b (.inr (.inr (.inl hb)))) (h3 b hb).1)) (h.lin.keep k (fun b hb e => e.elim (h1 b (.inr (.inr (.inr (.inr hb))))) (h5 b hb).1) (fun b hb e => e.elim (h1 b (.inr (.inr (.inr (.inl hb))))) (h4 b hb).1))
    h.nbl (fun i hi => .inl hi) (fun i _ hR => ⟨.inl hR.1, hR.2.1, hR.2.2⟩)
  exact ⟨F', ⟨_, _, _, _, _, _, H1⟩, H2, H3⟩
/-- What is asked for when an event is there. -/
def SomeNext (F : Nat → Prop) (g : Nat) (s : Se) (ev : Ev) (w : World) (e : Ending) (w' : World) : Prop :=
  ∃ (k : Int) (t f : ByteArray) (rx : Option Addr) (rn rc : Nat) (bx : Option Addr) (bn bc : Nat) (s' : Se) (F' E : Nat → Prop), e = .returned (.tuple #[.agg (evA k t f rx rn rc bx bn bc), .bool true]) ∧ EvAt E w' ev (evCells k t f (.slice rx rn rc) (.slice bx bn bc)) ∧ More F E w ∧ (∀ k, E k → k < w'.heap.size) ∧
    s'.go V9 = (s.go V9).pop ∧ Gd s' ∧ s'.out.length ≤ 1 ∧ s'.wait.length ≤ s.wait.length ∧ mu s' < mu s ∧ VS F' w' g s' ∧ Keep F w w' ∧ More F F' w

set_option maxHeartbeats 4000000 in
set_option maxRecDepth 100000 in
theorem pnext_some {F : Nat → Prop} {w : World} {g : Nat} {s : Se} (h : VS F w g s) (hE : Env w) (gd : Gd s) (ev : Ev) (L : List Ev) (hn : (s.go V9).out = ev :: L) :
    Calls Tryz.prog 20 #[.pointer (some ⟨g, 0, none⟩)] w (SomeNext F g s ev w) := by
  have L0 := Lib.hid (loop_start h hE gd)
  have hsz : w.heap.size < (w.alloc (.cells zev.toArray 46)).heap.size := by simp
  have HSZ := Lib.hid hsz
  have HN := Lib.hid hn
  have HW : Hid (Keep (fun _ => False) w (w.alloc (.cells zev.toArray 46))) := Lib.hid ((Keep.refl (fun _ => False) w).alloc _)
  clear h hE gd hn hsz
  go_enter Tryz.func20, Tryz.ntmps20
  go_wp2
  go_loopw [] (fun wr => ∃ F' s', Hid (Loop F (w.alloc (.cells zev.toArray 46)) g w.heap.size s F' wr s')) (fun wr => waitLen wr g)
  case atStart => exact ⟨F, s, L0.out⟩
  case round =>
    obtain ⟨F', s', L1⟩ := hrel
    obtain ⟨lv, evv, rv, bv, o, xs, hP⟩ := L1.out.now.rs
    obtain ⟨x, c, rfl, hcap⟩ := hP.out.shape
    obtain ⟨_, _, _, _, c4, _⟩ := hP.cells
    cases ho : s'.out with
    | nil =>
      rw [show s'.view.out.length = 0 by show s'.out.length = 0; rw [ho]; rfl] at c4
      have HO := Lib.hid ho
      clear hP ho hcap
      rcases stuck_or s' L1.out.gd.ok.st with hst | ⟨i, h5, hp⟩
      · exfalso
        have h1 := L1.out.go
        rw [stuck_go (V := V9) hst] at h1
        have h2 := HN.out
        rw [← h1, HO.out] at h2
        cases h2
      · have HD := Lib.hid (pdoLine_yes (p := s'.view) L1.out.now.rs L1.out.now.env L1.out.gd.ok.view (by have := L1.out.gd.wait; show s'.wait.length ≤ _; omega) h5 hp (by have := L1.out.gd.host; show s'.host.size ≤ _; omega) (by show s'.out.length + 2 ≤ _; rw [HO.out]; decide))
        have hli := pos_lt hp
        have HV : Hid ((s'.view.cut i).pline V9 (s'.view.wait.take i) = ((s'.cut i).line V9 (s'.wait.take i)).view) := Lib.hid (view_line V9 (s'.cut i) (s'.wait.take i) h5).symm
        have HG := Lib.hid (go_some (V := V9) h5 hp)
        have HGD := Lib.hid (L1.out.gd.line (i := i) V9 HO.out (s'.wait.take i))
        have HM := Lib.hid L1.out.now.rs.waits
        have HMU := Lib.hid (Nat.le_of_lt (mu_line V9 h5 HO.out hli (s'.wait.take i)))
        have HWL : Hid (((s'.cut i).line V9 (s'.wait.take i)).wait.length = s'.wait.length - (i + 2)) := Lib.hid (by rw [line_wait]; simp [Se.cut])
        rw [HV.out] at HD
        have HKEY : Hid ((if ((s'.cut i).line V9 (s'.wait.take i)).view.st = 6 then 0 else ((s'.cut i).line V9 (s'.wait.take i)).view.wait.length + 1) < s'.view.wait.length + 1) := Lib.hid (by
          have h3 : ((s'.cut i).line V9 (s'.wait.take i)).view.wait.length = s'.view.wait.length - (i + 2) := HWL.out
          have h4 : i + 2 ≤ s'.view.wait.length := hli
          rw [h3]
          split
          · exact Nat.succ_pos _
          · omega)
        have n6 : s'.view.st ≠ 6 := by show s'.st ≠ 6; omega
        have HN6 := Lib.hid n6
        clear n6
        go_wp2_with fail
        refine HD.out.mono ?_
        rintro e w2 ⟨rfl, F2, a2, b2, m2⟩
        have L2 := Lib.hid (L1.out.tried HSZ.out a2 b2 m2 HG.out.symm HGD.out (by rw [HWL.out]; omega) HMU.out)
        clear a2 b2 m2
        go_wp2
        go_roundw
        case rel => exact ⟨F2, _, L2.out⟩
        case measure =>
          have h1 := HM.out
          rw [if_neg HN6.out] at h1
          have h2 := L2.out.now.rs.waits
          rw [h1, h2]
          exact HKEY.out
    | cons e' L' =>
      have hgp := go_pop (V := V9) ho
      rw [L1.out.go, HN.out] at hgp
      obtain ⟨hq1, hq2⟩ := hgp
      injection hq1 with hq1 _
      subst hq1
      have hev := hP.evs
      rw [show s'.view.out = ev :: L' from ho] at hev
      obtain ⟨cs, r, hxs, hEv, hEvs⟩ := hev
      obtain ⟨k, t, f, rx, rn, rc, bx, bn, bc, hcs, _⟩ := hEv.form
      have h2 := L1.out.gd.out
      obtain ⟨n, hnn⟩ : ∃ n, n = s'.view.out.length := ⟨_, rfl⟩
      have hn12 : n = 1 ∨ n = 2 := by
        have e1 : s'.view.out.length = L'.length + 1 := by show s'.out.length = _; rw [ho]; rfl
        have e2 : s'.out.length = L'.length + 1 := by rw [ho]; rfl
        omega
      have hMid := hP.out
      rw [← hnn] at c4 hMid hcap
      have hlen := hMid.1
      have hcl : ∀ j, j < 8 → ∃ b off, x = some ⟨b, off, none⟩ ∧ o.qe = some b ∧ wr.cell? ⟨b, off + j, none⟩ = (evCells k t f (.slice rx rn rc) (.slice bx bn bc))[j]? := fun j hj => by
        obtain ⟨b, off, e1, e2, e3⟩ := hMid.cell j (by omega)
        refine ⟨b, off, e1, e2, ?_⟩
        rw [e3, hxs, ← hcs, List.getElem?_append_left (by rw [hEv.len]; exact hj)]
      obtain ⟨b, off, rfl, hqe, _⟩ := hcl 0 (by omega)
      have dd : ∀ j, j < 8 → wr.cell? ⟨b, off + j, none⟩ = (evCells k t f (.slice rx rn rc) (.slice bx bn bc))[j]? := fun j hj => by
        obtain ⟨b', off', e1, _, e3⟩ := hcl j hj
        injection e1 with e1
        injection e1 with e4 e5
        subst e4 e5
        exact e3
      have d0 : wr.cell? ⟨b, off, none⟩ = some (.int .i64 k) := dd 0 (by omega)
      have d1 : wr.cell? ⟨b, off + 1, none⟩ = some (.string t) := dd 1 (by omega)
      have d2 : wr.cell? ⟨b, off + 2, none⟩ = some (.int .i64 0) := dd 2 (by omega)
      have d3 : wr.cell? ⟨b, off + 3, none⟩ = some (.int .i64 0) := dd 3 (by omega)
      have d4 : wr.cell? ⟨b, off + 4, none⟩ = some (.int .i64 0) := dd 4 (by omega)
      have d5 : wr.cell? ⟨b, off + 5, none⟩ = some (.string f) := dd 5 (by omega)
      have d6 : wr.cell? ⟨b, off + 6, none⟩ = some (.slice rx rn rc) := dd 6 (by omega)
      have d7 : wr.cell? ⟨b, off + 7, none⟩ = some (.slice bx bn bc) := dd 7 (by omega)
      -- the worlds ahead
      have hgl := hP.flt g hP.fg
      have k1 : Keep (fun _ => False) wr ((wr.alloc (.cells #[.int .i64 0, .string { data := #[] }, .int .i64 0, .int .i64 0, .int .i64 0, .string { data := #[] }, .slice none 0 0, .slice none 0 0] 46)).setRow wr.heap.size (evA k t f rx rn rc bx bn bc)) := ((Keep.refl (fun _ => False) wr).alloc _).setRow (fun h => absurd h (Nat.lt_irrefl _)) _
      have hZ : At (wr.alloc (.cells #[.int .i64 0, .string { data := #[] }, .int .i64 0, .int .i64 0, .int .i64 0, .string { data := #[] }, .slice none 0 0, .slice none 0 0] 46)) wr.heap.size 46 (evA 0 nobody nobody none 0 0 none 0 0) := At.new wr _ _
      have HZ := Lib.hid hZ
      have HT := Lib.hid (hZ.setRow (evA k t f rx rn rc bx bn bc))
      have hP1 := hP.other k1 (fun _ _ h => h)
      have HM1 := Lib.hid (hMid.keep k1 (fun _ _ h => h))
      have HP1 := Lib.hid hP1
      have c41 : ((wr.alloc (.cells #[.int .i64 0, .string { data := #[] }, .int .i64 0, .int .i64 0, .int .i64 0, .string { data := #[] }, .slice none 0 0, .slice none 0 0] 46)).setRow wr.heap.size (evA k t f rx rn rc bx bn bc)).cell? ⟨g, 4, none⟩ = some (.slice (some ⟨b, off, none⟩) n c) := k1.cell c4 (fun h => h)
      have HP := Lib.hid hP
      have HEV := Lib.hid hEv
      have HCS := Lib.hid hcs
      have HQ2 := Lib.hid hq2
      have HQE := Lib.hid hqe
      have HNN := Lib.hid hnn
      have HN12 := Lib.hid hn12
      have HK1 := Lib.hid k1
      have HHO := Lib.hid ho
      have n1 : (0 : Int) < (n : Int) := by omega
      have n2 : ¬ ((n : Int) = 0) := by omega
      have n3 : 0 < n := by omega
      clear hP hP1 hMid hEv hEvs hcs hq2 hxs hcl dd ho hqe hnn hlen h2 k1 hZ
      go_wp2_with (first | (refine step_ev (by rfl) (.tmp 4) (.tmp 23) (by rfl) wr.heap.size k t f rx bx rn rc bn bc (by rfl) (by rfl) HZ.out ?_))
      refine (pdelete HM1.out HN12.out).mono ?_
      rintro e w3 ⟨v', rfl, ⟨y, m, c', rfl⟩, hM3, hK3⟩
      have hA3 := HP1.out.row.keep hK3 (fun e => HP1.out.neg g (.inl e) rfl)
      have c43 : w3.cell? ⟨g, 4, none⟩ = some (.slice (some ⟨b, off, none⟩) n c) := by rw [hA3.cell, HNN.out]; rfl
      have f43 := hA3.frozen 4
      have hT3 := HT.out.keep hK3 (fun e => by have := HP.out.flt wr.heap.size (HP.out.own _ (.inl e)); omega)
      have hgne : wr.heap.size ≠ g := by omega
      have HT4 := Lib.hid (hT3.far (p := ⟨g, 4, none⟩) hgne (.slice y m c'))
      have hR3 : At (w3.setCell ⟨g, 4, none⟩ (.slice y m c')) w.heap.size 46 (evA 0 nobody nobody none 0 0 none 0 0) := by
        have h1 : At wr w.heap.size 46 (evA 0 nobody nobody none 0 0 none 0 0) := L1.out.res
        have h2 := h1.keep HK1.out (fun h => h)
        have h3 := h2.keep hK3 (fun e => L1.out.out w.heap.size (HP.out.own _ (.inl e)) rfl)
        exact h3.far (fun e => L1.out.out g HP.out.fg e.symm) _
      have HR4 := Lib.hid hR3
      have HA3 := Lib.hid hA3
      have HM3 := Lib.hid hM3
      have HK3 := Lib.hid hK3
      clear hA3 hM3 hK3 hT3 hR3
      go_wp2_with (first
        | (refine wpList_load_row (by rfl) 46 (.tmp 4) (by rfl) wr.heap.size (by rfl) 46 (evA k t f rx rn rc bx bn bc) (0, 0) _ HT4.out Tryz.underlying46 rfl infoE ?_)
        | (refine step_ev (by rfl) (.tmp 2) (.tmp 32) (by rfl) w.heap.size k t f rx bx rn rc bn bc (by rfl) (by rfl) HR4.out ?_))
      (try simp only [Exit.inBlock, Exit.then])
      refine bodyPost_ret (ret_ev (fn := Tryz.f20) (p := 2) (u := 3) rfl _ _ w.heap.size rfl (HR4.out.setRow _)) rfl ?_
      have kg : Keep (fun i => i = g) w3 (w3.setCell ⟨g, 4, none⟩ (.slice y m c')) := (Keep.refl (fun i => i = g) w3).setCell (p := ⟨g, 4, none⟩) (fun _ => rfl) _
      have k4 : Keep (fun i => i = g ∨ o.qe = some i) wr (w3.setCell ⟨g, 4, none⟩ (.slice y m c')) := ((HK1.out.mono (fun _ _ h => h.elim)).trans HK3.out (fun i _ e => .inr e)).trans kg (fun i _ e => .inl e)
      obtain ⟨F4, a4, b4, m4⟩ := HP.out.popped (v' := .slice y m c') k4 (HA3.out.put 4 _) (by rw [← HNN.out]; exact HM3.out.keep kg (fun b hb e => HM3.out.ne HA3.out (by decide) (by rw [hb, e])))
      have N4 := L1.out.now.on (p' := s'.pop.view) a4 b4 m4
      have hne4 : ∀ k, F4 k → k ≠ w.heap.size := fun k hk e => by
        rcases m4 k hk with h1 | h1
        · exact L1.out.out k h1 e
        · have h2 := L1.out.now.kp.size
          have h3 := HSZ.out
          omega
      have k5 : Keep (fun i => i = w.heap.size) (w3.setCell ⟨g, 4, none⟩ (.slice y m c')) ((w3.setCell ⟨g, 4, none⟩ (.slice y m c')).setRow w.heap.size (evA k t f rx rn rc bx bn bc)) := (Keep.refl (fun i => i = w.heap.size) _).setRow (fun _ => rfl) _
      have kw : Keep F w (w3.setCell ⟨g, 4, none⟩ (.slice y m c')) := (HW.out.mono (T := F) (fun _ _ h => h.elim)).trans N4.kp (fun i _ h => h)
      have hEv := HEV.out.keepW (R' := F') ((k4.mono (T := fun i => (i = g ∨ o.qe = some i) ∨ i = w.heap.size) (fun _ _ e => .inl e)).trans k5 (fun _ _ e => .inr e)) (fun b _ hR => ⟨fun e => by
        rcases e with (e | e) | e
        · exact hR.2.1 e
        · exact hR.2.2 (.inl e)
        · exact L1.out.out b hR.1 e, hR.1⟩)
      rw [HCS.out] at hEv
      refine ⟨k, t, f, rx, rn, rc, bx, bn, bc, s'.pop, F4, F', rfl, hEv, fun i hi => ?_, fun i hi => ?_, ?_, L1.out.gd.pop, ?_, L1.out.wl, Nat.lt_of_lt_of_le (mu_pop (by rw [HHO.out]; exact Nat.succ_pos _)) L1.out.ml, a4.other k5 (fun i hi e => hne4 i hi e), kw.trans k5 (fun i hi e => by omega), fun i hi => ?_⟩
      · rcases L1.out.now.more i hi with e | e
        · exact .inl e
        · exact .inr (Nat.le_trans HW.out.size e)
      · exact Nat.lt_of_lt_of_le (Nat.lt_of_lt_of_le (HP.out.flt i hi) k4.size) k5.size
      · exact HQ2.out.symm
      · have h1 := L1.out.gd.out
        show s'.out.tail.length ≤ 1
        rw [List.length_tail]
        omega
      · rcases N4.more i hi with e | e
        · exact .inl e
        · exact .inr (Nat.le_trans HW.out.size e)
end Go.Proofs.YtcjljldknekhiaaGreatDoor.Ln
end

section
/-
  What the program's New returns; the host's name, here and in the document's own New.
-/
namespace Go.Proofs.YtcjljldknekhiaaGreatDoor.Ln
open Go.RowKit
set_option linter.unusedVariables false
set_option linter.unusedSimpArgs false

/-! ### The host's name -/
def dom9 (h : ByteArray) : Bool := Ad.domain h.data.toList
def low9 (h : ByteArray) : ByteArray := Ad.bs (h.data.toList.map Ad.lower)
def host9 (h : ByteArray) : ByteArray := low9 (if dom9 h = true then h else nX)
theorem low9_size (l : ByteArray) : (low9 l).size = l.size := by
  rw [low9, Ad.bs_size, List.length_map]
  simp
theorem lower_is (c : UInt8) : Lib.lowerB c = Ad.lower c := by
  unfold Lib.lowerB Ad.lower Lib.isUpperB Ad.greatZ
  have e : (decide (65 ≤ c) && decide (c ≤ 90)) = decide ((65 : Int) ≤ (c.toNat : Int) ∧ (c.toNat : Int) ≤ 90) := by
    rw [Bool.eq_iff_iff]
    simp only [Bool.and_eq_true, decide_eq_true_eq, UInt8.le_iff_toNat_le]
    constructor
    · rintro ⟨a, b⟩
      have a' : 65 ≤ c.toNat := a
      have b' : c.toNat ≤ 90 := b
      omega
    · rintro ⟨a, b⟩
      exact ⟨show 65 ≤ c.toNat by omega, show c.toNat ≤ 90 by omega⟩
  rw [e]
theorem lowerC (h : ByteArray) (hd : dom9 h = true) (w : World) (hs : h.size ≤ 1000) : Calls Tryz.prog 47 #[.string h] w fun e w' => e = .returned (.string (low9 h)) ∧ Below w.heap.size w w' := by
  refine (Ad.strings_ToLower_ascii h w (by omega) (fun j b hb => Ad.domain_low hd b (List.mem_of_getElem? hb))).mono ?_
  rintro e w' ⟨rfl, hb⟩
  refine ⟨?_, hb⟩
  have e1 : Lib.toLowerA h.data.toList = h.data.toList.map Ad.lower := by
    unfold Lib.toLowerA
    exact List.map_congr_left (fun c _ => lower_is c)
  rw [e1]
  rfl
set_option maxHeartbeats 1000000 in
theorem phostName (h : ByteArray) (hs : h.size ≤ 1000) (w : World) (hE : Env w) : Calls Tryz.prog 26 #[.string h] w fun e w' => e = .returned (.string (host9 h)) ∧ Keep (fun _ => False) w w' := by
  obtain ⟨⟨m, hm⟩, _⟩ := hE
  have HD := Lib.hid (Ad.domain_walk h m w hm)
  cases hd : dom9 h with
  | false =>
    rw [show Ad.domain h.data.toList = false from hd] at HD
    have HH : Hid (host9 h = nX) := Lib.hid (by rw [host9, hd]; rfl)
    clear hd hm
    go_enter Tryz.func26, Tryz.ntmps26
    go_wp2_with fail
    refine HD.out.mono ?_
    rintro e w1 ⟨rfl, hb⟩
    have HB := Lib.hid hb
    clear hb
    go_wp2
    go_ret
    exact ⟨by rw [HH.out]; rfl, Keep.of_below HB.out⟩
  | true =>
    rw [show Ad.domain h.data.toList = true from hd] at HD
    have HH : Hid (host9 h = low9 h) := Lib.hid (by rw [host9, hd]; rfl)
    have HL := Lib.hid (fun W => lowerC h hd W hs)
    have HC := Lib.hid (fun W => Ad.clone_walk (low9 h) (by rw [low9_size]; exact hs) W)
    clear hd hm
    go_enter Tryz.func26, Tryz.ntmps26
    go_wp2_with fail
    refine HD.out.mono ?_
    rintro e w1 ⟨rfl, hb⟩
    have HB := Lib.hid (Keep.of_below hb)
    clear hb
    go_wp2_with fail
    refine (HL.out _).mono ?_
    rintro e w2 ⟨rfl, hb⟩
    have HB2 := Lib.hid (HB.out.trans (Keep.of_below hb) (fun _ _ h => h))
    clear hb
    go_wp2_with fail
    refine (HC.out _).mono ?_
    rintro e w3 ⟨rfl, hb⟩
    have HB3 := Lib.hid (HB2.out.trans (Keep.of_below hb) (fun _ _ h => h))
    clear hb
    go_wp2
    go_ret
    exact ⟨by rw [HH.out]; rfl, HB3.out⟩
theorem host9_size (h : ByteArray) (hs : h.size ≤ 1000) : (host9 h).size ≤ 1000 := by
  rw [host9, low9_size]
  split
  · exact hs
  · decide

/-! ### A new one -/
def fresh9 (h : ByteArray) (z : Int) : Se := Se.mk h (clampS z) [] [] 0 nobody [] [] 0
theorem new_is (h : ByteArray) (z : Int) : Se.new h z = (fresh9 h z).say (hello h) := rfl
theorem PS.fresh {w : World} {g k : Nat} {h : ByteArray} {z : Int} (hA : At w g 68 (pCells (fresh9 h z) (.pointer (some ⟨k, 0, none⟩)) nilV nilV nilV)) (hL : At w k 65 #[.slice none 0 0]) (hg : 9 ≤ g) (hk : 9 ≤ k) : PS (fun i => i = g ∨ i = k) w g (fresh9 h z) := by
  refine ⟨.pointer (some ⟨k, 0, none⟩), nilV, nilV, nilV, ⟨none, none, none, none, some k⟩, [], ⟨hA, .inl rfl, ?_, ?_, ?_, MidG.empty _ _ _ _, rfl, MidG.empty _ _ _ _, Mid.empty _ _, ?_, fun i hi => by cases hi⟩⟩
  · rintro i (rfl | rfl)
    · exact hA.lt
    · exact hL.lt
  · rintro i (rfl | rfl) <;> assumption
  · rintro i (hi | hi | hi | hi | hi)
    · cases hi
    · cases hi
    · cases hi
    · cases hi
    · injection hi with hi; exact .inr hi.symm
  · exact .inr ⟨by show (0 : Nat) ≠ 6; decide, k, rfl, rfl, ⟨⟨_, hL, Mid.empty _ _⟩, Nat.zero_le _, fun i hi => by cases hi⟩⟩
/-- What New answers. -/
def PMade (host : ByteArray) (size : Int) (w : World) (e : Ending) (w' : World) : Prop :=
  ∃ g F, e = .returned (.pointer (some ⟨g, 0, none⟩)) ∧ VS F w' g (Se.new host size) ∧ Keep (fun _ => False) w w' ∧ (∀ k, F k → w.heap.size ≤ k)
theorem hello_parts (H : ByteArray) : ((str (dig 220) ++ ({ data := #[32] } : ByteArray)) ++ H) ++ ({ data := #[13, 10] } : ByteArray) = hello H := by
  have e1 : str (dig 220) ++ ({ data := #[32] } : ByteArray) = { data := #[50, 50, 48, 32] } := by
    have : dig 220 = [50, 50, 48] := by
      rw [dig, if_neg (by decide), dig, if_neg (by decide), dig, if_pos (by decide)]
      rfl
    rw [this]
    rfl
  rw [e1]
  rfl

set_option maxHeartbeats 4000000 in
set_option maxRecDepth 100000 in
theorem pnew (host : ByteArray) (hh : host.size ≤ 1000) (size : Int) (hz : (Lit.int .i64 size).wf = true) (w : World) (hE : Env w) (h9 : 9 ≤ w.heap.size) :
    Calls Tryz.prog 10 #[.string host, .int .i64 size] w (PMade (host9 host) size w) := by
  have b := bounds_i64 hz
  have HH := Lib.hid (phostName host hh w hE)
  have HE := Lib.hid hE
  have hsz := host9_size host hh
  have HCL : Hid (min (max size 1) 8192 = ((clampS size : Nat) : Int)) := Lib.hid clamp_cell.symm
  have HI := Lib.hid (fun W e => itoaC 220 (by decide) W e)
  have hd := dig_size 220 (by decide)
  have HP := Lib.hid (hello_parts (host9 host))
  obtain ⟨D, hD⟩ : ∃ D, D = str (dig 220) := ⟨_, rfl⟩
  rw [← hD] at HI hd HP
  obtain ⟨H, hH⟩ : ∃ H, H = host9 host := ⟨_, rfl⟩
  rw [← hH] at HH hsz HP
  have HHH := Lib.hid hH
  clear hE hD hH
  go_enter Tryz.func10, Tryz.ntmps10
  go_wp2_with fail
  refine HH.out.mono ?_
  rintro e w1 ⟨rfl, hk1⟩
  have HK1 := Lib.hid hk1
  have hs1 := hk1.size
  clear hk1
  go_wp2_with fail
  rw [HCL.out]
  generalize hW : ((w1.alloc (.cells #[.slice none 0 0] 65)).alloc (.cells #[.string H, .int .i64 ((clampS size : Nat) : Int), .int .i64 0, .pointer (some ⟨w1.heap.size, 0, none⟩), .slice none 0 0, .int .i64 0, .int .i64 0, .int .i64 0, .string { data := #[] }, .slice none 0 0, .slice none 0 0, .int .i64 0] 68)) = W
  have hA : At W (w1.heap.size + 1) 68 (pCells (fresh9 H size) (.pointer (some ⟨w1.heap.size, 0, none⟩)) nilV nilV nilV) := by
    rw [← hW]
    have h0 := At.new (w1.alloc (.cells #[.slice none 0 0] 65)) 68 (pCells (fresh9 H size) (.pointer (some ⟨w1.heap.size, 0, none⟩)) nilV nilV nilV)
    rw [show (w1.alloc (.cells #[.slice none 0 0] 65)).heap.size = w1.heap.size + 1 by simp] at h0
    exact h0
  have hL : At W w1.heap.size 65 #[.slice none 0 0] := by rw [← hW]; exact (At.new w1 _ _).alloc _
  have kW : Keep (fun _ => False) w1 W := by rw [← hW]; exact ((Keep.refl (fun _ => False) w1).alloc _).alloc _
  have N0 := Lib.hid (PNow.start (PS.fresh hA hL (by omega) (by omega)) ((HE.out.quiet HK1.out).quiet kW))
  obtain ⟨e0, _⟩ := N0.out.cells
  have HKW := Lib.hid (HK1.out.trans kW (fun _ _ h => h))
  have HSW := Lib.hid kW.size
  have e0' : W.cell? ⟨w1.heap.size + 1, 0, none⟩ = some (.string H) := e0
  have hq1 : ¬ (9223372036854775807 < D.size + 1) := by omega
  have hq2 : ¬ (9223372036854775807 < D.size + 1 + H.size) := by omega
  have hq3 : ¬ (9223372036854775807 < D.size + 1 + H.size + 2) := by omega
  clear hA hL kW hW e0
  refine wp_region_noPanic ?_
  refine wp_region_held_drew (S := fun w' => w'.cell? ⟨w1.heap.size + 1, 0, none⟩ = some (.string H)) (by kernel_rfl) e0' (fun hHeld => ?_)
  refine wpAnyH_take (i := 0) (v := ?_) rfl (by kernel_rfl) (by kernel_rfl) (by kernel_rfl) (fun _ _ _ h => h) (Or.inl ⟨by rfl, ?_⟩) (by assumption) ?_
  rotate_left
  · (intro wS hSw; (try dsimp only at hSw); (try simp only [List.getElem_toArray, List.getElem_cons_succ, List.getElem_cons_zero]); go_simp; try (with_reducible rfl))
  try simp only [Act.put, List.getElem_toArray, List.getElem_cons_succ, List.getElem_cons_zero, List.setIfInBounds_toArray, List.set_cons_zero, List.set_cons_succ]
  refine wpAnyH_take (i := 3) (v := ?_) rfl (by kernel_rfl) (by kernel_rfl) (by kernel_rfl) (fun _ _ _ h => h) (Or.inl ⟨by rfl, ?_⟩) (by assumption) ?_
  rotate_left
  · (intro wS hSw; (try dsimp only at hSw); (try simp only [List.getElem_toArray, List.getElem_cons_succ, List.getElem_cons_zero]); go_simp; try (with_reducible rfl))
  try simp only [Act.put, List.getElem_toArray, List.getElem_cons_succ, List.getElem_cons_zero, List.setIfInBounds_toArray, List.set_cons_zero, List.set_cons_succ]
  refine wpAnyH_take (i := 4) (v := ?_) rfl (by kernel_rfl) (by kernel_rfl) (by kernel_rfl) (fun _ _ _ h => h) (Or.inl ⟨by rfl, ?_⟩) (by assumption) ?_
  rotate_left
  · (intro wS hSw; (try dsimp only at hSw); (try simp only [List.getElem_toArray, List.getElem_cons_succ, List.getElem_cons_zero]); go_simp; try (with_reducible rfl))
  try simp only [Act.put, List.getElem_toArray, List.getElem_cons_succ, List.getElem_cons_zero, List.setIfInBounds_toArray, List.set_cons_zero, List.set_cons_succ]
  refine wpAnyH_take (i := 5) (v := ?_) rfl (by kernel_rfl) (by kernel_rfl) (by kernel_rfl) (fun _ _ _ h => h) (Or.inl ⟨by rfl, ?_⟩) (by assumption) ?_
  rotate_left
  · (intro wS hSw; (try dsimp only at hSw); (try simp only [List.getElem_toArray, List.getElem_cons_succ, List.getElem_cons_zero]); go_simp; try (with_reducible rfl))
  try simp only [Act.put, List.getElem_toArray, List.getElem_cons_succ, List.getElem_cons_zero, List.setIfInBounds_toArray, List.set_cons_zero, List.set_cons_succ]
  refine wpAnyH_take (i := 6) (v := ?_) rfl (by kernel_rfl) (by kernel_rfl) (by kernel_rfl) (fun _ _ _ h => h) (Or.inl ⟨by rfl, ?_⟩) (by assumption) ?_
  rotate_left
  · (intro wS hSw; (try dsimp only at hSw); (try simp only [List.getElem_toArray, List.getElem_cons_succ, List.getElem_cons_zero]); go_simp; try (with_reducible rfl))
  try simp only [Act.put, List.getElem_toArray, List.getElem_cons_succ, List.getElem_cons_zero, List.setIfInBounds_toArray, List.set_cons_zero, List.set_cons_succ]
  refine wpAnyH_ready (rs := [1]) (by kernel_rfl) (by simp) ?_
  refine AllReadyH.cons rfl (fun K hK => ?_) AllReadyH.nil
  go_simp
  refine (HI.out _ (N0.out.env.quiet ((Keep.refl (fun _ => False) W).drew))).mono ?_
  rintro e w4 ⟨rfl, hk4⟩
  have N4 := Lib.hid (N0.out.quiet (((Keep.refl (fun _ => False) W).drew).trans hk4 (fun _ _ h => h)))
  obtain ⟨e4, _⟩ := N4.out.cells
  have e4' : w4.cell? ⟨w1.heap.size + 1, 0, none⟩ = some (.string H) := e4
  clear hk4 e4
  go_wp2_with fail
  refine hK.out _ _ e4' (fun hHeld => ?_)
  clear hK K
  try simp only [Act.put, List.getElem_toArray, List.getElem_cons_succ, List.getElem_cons_zero, List.setIfInBounds_toArray, List.set_cons_zero, List.set_cons_succ]
  refine wpAnyH_take (i := 2) (v := ?_) rfl (by kernel_rfl) (by kernel_rfl) (by kernel_rfl) (fun _ _ _ h => h) (Or.inl ⟨by rfl, ?_⟩) (by assumption) ?_
  rotate_left
  · (intro wS hSw; (try dsimp only at hSw); (try simp only [List.getElem_toArray, List.getElem_cons_succ, List.getElem_cons_zero]); go_simp; try (with_reducible rfl))
  try simp only [Act.put, List.getElem_toArray, List.getElem_cons_succ, List.getElem_cons_zero, List.setIfInBounds_toArray, List.set_cons_zero, List.set_cons_succ]
  refine wpAnyH_take (i := 7) (v := ?_) rfl (by kernel_rfl) (by kernel_rfl) (by kernel_rfl) (fun _ _ _ h => h) (Or.inl ⟨by rfl, ?_⟩) (by assumption) ?_
  rotate_left
  · (intro wS hSw; (try dsimp only at hSw); (try simp only [List.getElem_toArray, List.getElem_cons_succ, List.getElem_cons_zero]); go_simp; try (with_reducible rfl))
  try simp only [Act.put, List.getElem_toArray, List.getElem_cons_succ, List.getElem_cons_zero, List.setIfInBounds_toArray, List.set_cons_zero, List.set_cons_succ]
  refine wpAnyH_take (i := 8) (v := ?_) rfl (by kernel_rfl) (by kernel_rfl) (by kernel_rfl) (fun _ _ _ h => h) (Or.inl ⟨by rfl, ?_⟩) (by assumption) ?_
  rotate_left
  · (intro wS hSw; (try dsimp only at hSw); (try simp only [List.getElem_toArray, List.getElem_cons_succ, List.getElem_cons_zero]); go_simp; try (with_reducible rfl))
  try simp only [Act.put, List.getElem_toArray, List.getElem_cons_succ, List.getElem_cons_zero, List.setIfInBounds_toArray, List.set_cons_zero, List.set_cons_succ]
  refine wpAnyH_ready (rs := [9]) (by kernel_rfl) (by simp) ?_
  refine AllReadyH.cons rfl (fun K hK => ?_) AllReadyH.nil
  go_simp
  refine (psay N4.out.rs _ (by simp [fresh9])).mono ?_
  rintro e w5 hd5
  rw [HP.out] at hd5
  obtain ⟨rfl, F5, hN5⟩ := N4.out.did hd5
  have N5 := Lib.hid hN5
  obtain ⟨e5, _⟩ := hN5.cells
  have e5' : w5.cell? ⟨w1.heap.size + 1, 0, none⟩ = some (.string H) := e5
  clear hd5 hN5 e5
  go_wp2_with fail
  refine hK.out _ _ e5' (fun hHeld => ?_)
  clear hK K
  try simp only [Act.put, List.getElem_toArray, List.getElem_cons_succ, List.getElem_cons_zero, List.setIfInBounds_toArray, List.set_cons_zero, List.set_cons_succ]
  refine wpAnyH_done (by kernel_rfl) ?_ _
  refine NoPanic.normal ?_
  go_wp2
  go_ret
  rw [← HHH.out]
  refine ⟨w1.heap.size + 1, F5, rfl, N5.out.rs, ?_, fun k hk => ?_⟩
  · refine HKW.out.trans N5.out.kp (fun i hi e => ?_)
    have := HK1.out.size
    omega
  · have h1 := HK1.out.size
    have h2 := HSW.out
    rcases N5.out.more k hk with e | e
    · omega
    · omega
end Go.Proofs.YtcjljldknekhiaaGreatDoor.Ln
end
