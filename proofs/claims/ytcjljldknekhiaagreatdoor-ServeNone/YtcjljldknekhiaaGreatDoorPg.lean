/-
  What the program's Next returns: the next event of all that can be done.
-/
import Derived.Test.YtcjljldknekhiaaGreatDoorPf
import Derived.Laws.ResultCell
namespace Go.Proofs.YtcjljldknekhiaaGreatDoor.Ln
open Go.RowKit
set_option linter.unusedVariables false
set_option linter.unusedSimpArgs false

/-! ### An event that is laid down, and one that is answered -/
theorem infoE : (Tryz.prog.info? 46).map (·.size) = some 8 := by kernel_rfl
theorem Keep.setRow {S : Nat → Prop} {a w : World} (h : Keep S a w) {g : Nat} (hg : g < a.heap.size → S g) (cs : Array Value) : Keep S a (w.setRow g cs) :=
  ⟨h.os, h.tape, h.output, by rw [size_setRow]; exact h.size, fun k hk hs => (setRow_other w g k cs (fun e => by subst e; exact hs (hg hk))).trans (h.block k hk hs)⟩
theorem At.setRow {w : World} {g : Nat} {cs : Array Value} (h : At w g 46 cs) (cs' : Array Value) : At (w.setRow g cs') g 46 cs' := setRow_heap w g _ _ _ _ h
theorem evs_one (k : Int) (t f : ByteArray) (rx bx : Option Addr) (rn rc bn bc : Nat) : (#[Value.int .i64 k, .string t, .int .i64 0, .int .i64 0, .int .i64 0, .string f, .slice rx rn rc, .slice bx bn bc] : Array Value).all (·.oneCell') = true := by simp [Value.oneCell']
def evA (k : Int) (t f : ByteArray) (rx : Option Addr) (rn rc : Nat) (bx : Option Addr) (bn bc : Nat) : Array Value := #[.int .i64 k, .string t, .int .i64 0, .int .i64 0, .int .i64 0, .string f, .slice rx rn rc, .slice bx bn bc]
theorem step_ev {ops : Array Oper} {rest : List Oper} {o : Oper} {a : Act} {w : World} {Q : Exit → Act → World → Prop} (hgd : o.guard = none) (x y : Operand) (ho : o.op = .store 46 x y)
    (g : Nat) (k : Int) (t f : ByteArray) (rx bx : Option Addr) (rn rc bn bc : Nat) (hx : a.eval x = .pointer (some ⟨g, 0, none⟩)) (hy : a.eval y = .agg #[.int .i64 k, .string t, .int .i64 0, .int .i64 0, .int .i64 0, .string f, .slice rx rn rc, .slice bx bn bc])
    {k' : Int} {t' f' : ByteArray} {rx' bx' : Option Addr} {rn' rc' bn' bc' : Nat} (hg : At w g 46 (evA k' t' f' rx' rn' rc' bx' bn' bc'))
    (h : wpList Tryz.prog ops Q rest (a.put o.dst undef) (w.setRow g (evA k t f rx rn rc bx bn bc))) : wpList Tryz.prog ops Q (o :: rest) a w :=
  wpList_store_row hgd 46 x y ho g (evA k t f rx rn rc bx bn bc) hx hy 46 _ hg infoE rfl (evs_one _ _ _ _ _ _ _ _ _) h
theorem ret_ev {fn : Func} {p u : Tmp} (h : fn.results = #[.cell p 46, .tmp u]) (tmps : Array Value) (w : World) (g : Nat) {k : Int} {t f : ByteArray} {rx bx : Option Addr} {rn rc bn bc : Nat} (hp : tmps.getD p undef = .pointer (some ⟨g, 0, none⟩)) (hg : At w g 46 (evA k t f rx rn rc bx bn bc)) :
    (results fn tmps).run Tryz.prog w = .ok (.tuple #[.agg (evA k t f rx rn rc bx bn bc), tmps.getD u undef]) w := by
  rw [results_cell_tmp h, hp]
  have := run_loadVar_row (P := Tryz.prog) w g 46 46 (evA k t f rx rn rc bx bn bc) (0, 0) _ hg Tryz.underlying46 rfl infoE
  simp [asAddr, this, Result.andThen]
theorem EvAt.form {R : Nat → Prop} {w : World} {e : Ev} {cs : List Value} (h : EvAt R w e cs) : ∃ k t f rx rn rc bx bn bc, cs = evCells k t f (.slice rx rn rc) (.slice bx bn bc) ∧ (k = 3 ↔ isShut e = true) := by
  cases e with
  | say t => exact ⟨1, t, nobody, none, 0, 0, none, 0, 0, h, by simp [isShut]⟩
  | keep f r b =>
    obtain ⟨rv, bv, hc, ⟨rx, rc, rfl, _⟩, ⟨bx, bc, rfl, _⟩⟩ := h
    exact ⟨2, nobody, f, rx, _, rc, bx, _, bc, hc, by simp [isShut]⟩
  | shut => exact ⟨3, nobody, nobody, none, 0, 0, none, 0, 0, h, by simp [isShut]⟩

/-! ### How much waits, by the cells -/
def waitLen (w : World) (g : Nat) : Nat :=
  match w.cell? ⟨g, 3, none⟩ with
  | some (.pointer (some a)) => (match w.cell? a with | some (.slice _ n _) => n + 1 | _ => 0)
  | _ => 0
theorem PS.waits {F : Nat → Prop} {w : World} {g : Nat} {p : Se} (h : PS F w g p) : waitLen w g = if p.st = 6 then 0 else p.wait.length + 1 := by
  obtain ⟨lv, ev, rv, bv, o, xs, h⟩ := h
  obtain ⟨_, _, _, c3, _⟩ := h.cells
  rcases h.lin with ⟨h6, hv, _⟩ | ⟨h6, k, hv, _, hL⟩
  · rw [hv] at c3
    rw [waitLen, c3, if_pos h6]
  · obtain ⟨v, hA, hM⟩ := hL.row
    obtain ⟨x, c, hvv, _⟩ := hM.shape
    rw [hv] at c3
    have c0 : w.cell? ⟨k, 0, none⟩ = some (.slice x p.wait.length c) := by rw [hA.cell]; simp [hvv]
    rw [waitLen, c3, if_neg h6]
    simp only [c0]
/-- How much is still to come, by the cells: each event that is told, and each answer, lowers it. -/
def mu (s : Se) : Nat := 6 * (if s.st = 6 then 0 else s.wait.length + 1) + 2 * s.out.length + (if s.st = 5 then 3 else 0)
def muW (w : World) (g : Nat) : Nat :=
  6 * waitLen w g + 2 * (match w.cell? ⟨g, 4, none⟩ with | some (.slice _ n _) => n | _ => 0) + (match w.cell? ⟨g, 2, none⟩ with | some (.int _ n) => (if n = 5 then 3 else 0) | _ => 0)
theorem PS.muW {F : Nat → Prop} {w : World} {g : Nat} {p : Se} (h : PS F w g p) : muW w g = mu p := by
  have h1 := h.waits
  obtain ⟨lv, ev, rv, bv, o, xs, h⟩ := h
  obtain ⟨_, _, c2, _, c4, _⟩ := h.cells
  obtain ⟨x, c, hv, _⟩ := h.out.shape
  rw [hv] at c4
  unfold Ln.muW mu
  rw [h1, c4, c2]
  simp only
  have e : ((p.st : Int) = 5) ↔ p.st = 5 := by omega
  by_cases h5 : p.st = 5
  · rw [if_pos h5, if_pos (e.2 h5)]
  · rw [if_neg h5, if_neg (fun h => h5 (e.1 h))]
theorem mu_line {s : Se} {i : Nat} (V : ByteArray → VC) (h5 : s.st < 5) (ho : s.out = []) (hi : i + 2 ≤ s.wait.length) (l : List Nat) : mu ((s.cut i).line V l) < mu s := by
  have hw : ((s.cut i).line V l).wait.length = s.wait.length - (i + 2) := by rw [line_wait]; simp [Se.cut]
  have h2 := out_line V (s.cut i) l
  rw [show (s.cut i).out = [] from ho] at h2
  simp only [List.length_nil] at h2
  unfold mu
  rw [hw, if_neg (show ¬ s.st = 6 by omega), if_neg (show ¬ s.st = 5 by omega)]
  split <;> split <;> omega
theorem mu_pop {s : Se} (h : 0 < s.out.length) : mu s.pop < mu s := by
  have e : s.pop.out.length = s.out.length - 1 := by simp [Se.pop]
  unfold mu
  rw [e]
  show 6 * (if s.st = 6 then 0 else s.wait.length + 1) + 2 * (s.out.length - 1) + (if s.st = 5 then 3 else 0) < _
  omega
theorem mu_answer {s : Se} {code : Int} (h : ansOk s code = true) : mu (s.answer code) < mu s := by
  have h' := of_decide_eq_true h
  unfold mu
  have e1 : (s.answer code).st = 1 := by rw [Se.answer, if_pos h]; show (if 1 < s.st then 1 else s.st) = 1; rw [if_pos (by omega)]
  have e2 : (s.answer code).out.length = 1 := by rw [Se.answer, if_pos h]; show (s.out ++ [_]).length = 1; rw [h'.2.1]; rfl
  have e3 : (s.answer code).wait = s.wait := by rw [Se.answer, if_pos h]; rfl
  rw [e1, e2, e3, h'.2.1, h'.1]
  simp
/-- Nothing more can be done. -/
def Stuck (s : Se) : Prop := s.st = 5 ∨ s.st = 6 ∨ (s.st < 5 ∧ pos s.wait = none)
theorem stuck_go {V : ByteArray → VC} {s : Se} (h : Stuck s) : s.go V = s := by
  rcases h with h | h | ⟨_, h⟩
  · exact go_over (by omega)
  · exact go_over (by omega)
  · exact go_none h
theorem stuck_or (s : Se) (hst : s.st ≤ 6) : Stuck s ∨ ∃ i, s.st < 5 ∧ pos s.wait = some i := by
  by_cases h5 : s.st < 5
  · cases hp : pos s.wait with
    | none => exact .inl (.inr (.inr ⟨h5, hp⟩))
    | some i => exact .inr ⟨i, h5, rfl⟩
  · exact .inl (by unfold Stuck; omega)

/-- How far Next is. -/
structure Loop (F : Nat → Prop) (w1 : World) (g : Nat) (r : Nat) (s : Se) (F' : Nat → Prop) (wr : World) (s' : Se) : Prop where
  now : PNow F w1 g F' wr s'.view
  go : s'.go V9 = s.go V9
  gd : Gd s'
  res : At wr r 46 zev.toArray
  out : ∀ k, F' k → k ≠ r
  wl : s'.wait.length ≤ s.wait.length
  ml : mu s' ≤ mu s
theorem Loop.tried {F F' F'' : Nat → Prop} {w1 wr w2 : World} {g r : Nat} {s s' s'' : Se} (h : Loop F w1 g r s F' wr s') (hr : r < w1.heap.size) (a : PS F'' w2 g s''.view) (b : Keep F' wr w2) (m : More F' F'' wr) (hg : s''.go V9 = s'.go V9) (gd : Gd s'') (hw : s''.wait.length ≤ s'.wait.length) (hmu : mu s'' ≤ mu s') : Loop F w1 g r s F'' w2 s'' :=
  ⟨h.now.on a b m, hg.trans h.go, gd, h.res.keep b (fun e => h.out r e rfl), fun k hk => by
    rcases m k hk with e | e
    · exact h.out k e
    · have := h.now.kp.size; omega, Nat.le_trans hw h.wl, Nat.le_trans hmu h.ml⟩
theorem Loop.stay {F F' : Nat → Prop} {w1 wr w2 : World} {g r : Nat} {s s' : Se} (h : Loop F w1 g r s F' wr s') (hr : r < w1.heap.size) {F'' : Nat → Prop} (a : PS F'' w2 g s'.view) (b : Keep F' wr w2) (m : More F' F'' wr) : Loop F w1 g r s F'' w2 s' := h.tried hr a b m rfl h.gd (Nat.le_refl _) (Nat.le_refl _)

theorem zev_is : zev.toArray = evA 0 nobody nobody none 0 0 none 0 0 := rfl
theorem loop_start {F : Nat → Prop} {w : World} {g : Nat} {s : Se} (h : VS F w g s) (hE : Env w) (gd : Gd s) : Loop F (w.alloc (.cells zev.toArray 46)) g w.heap.size s F (w.alloc (.cells zev.toArray 46)) s := by
  have k : Keep (fun _ => False) w (w.alloc (.cells zev.toArray 46)) := (Keep.refl (fun _ => False) w).alloc _
  exact ⟨PNow.start (h.quiet k) (hE.quiet k), rfl, gd, At.new w _ _, fun i hi e => by have := h.lt i hi; omega, Nat.le_refl _, Nat.le_refl _⟩
/-- What is asked for when nothing is told: nothing. -/
def NoNext (F : Nat → Prop) (g : Nat) (s : Se) (w : World) (e : Ending) (w' : World) : Prop :=
  e = .returned (.tuple #[.agg zev.toArray, .bool false]) ∧ ∃ F', VS F' w' g (s.go V9) ∧ Keep F w w' ∧ More F F' w

set_option maxHeartbeats 4000000 in
set_option maxRecDepth 100000 in
theorem pnext_none {F : Nat → Prop} {w : World} {g : Nat} {s : Se} (h : VS F w g s) (hE : Env w) (gd : Gd s) (hn : (s.go V9).out = []) :
    Calls Tryz.prog 20 #[.pointer (some ⟨g, 0, none⟩)] w (NoNext F g s w) := by
  have L0 := Lib.hid (loop_start h hE gd)
  have hsz : w.heap.size < (w.alloc (.cells zev.toArray 46)).heap.size := by simp
  have HSZ := Lib.hid hsz
  have HN := Lib.hid hn
  have HW : Hid (Keep (fun _ => False) w (w.alloc (.cells zev.toArray 46))) := Lib.hid ((Keep.refl (fun _ => False) w).alloc _)
  clear h hE gd hn hsz
  go_enter Tryz.func20, Tryz.ntmps20
  go_wp2
  go_loopw [] (fun wr => ∃ F' s', Hid (Loop F (w.alloc (.cells zev.toArray 46)) g w.heap.size s F' wr s')) (fun wr => waitLen wr g)
  case atStart => exact ⟨F, s, L0.out⟩
  case round =>
    obtain ⟨F', s', L1⟩ := hrel
    have hout : s'.out = [] := by
      cases ho : s'.out with
      | nil => rfl
      | cons e L =>
        have h1 := (go_pop (V := V9) ho).1
        rw [L1.out.go, HN.out] at h1
        cases h1
    obtain ⟨lv, ev, rv, bv, o, xs, hP⟩ := L1.out.now.rs
    obtain ⟨x, c, rfl, _⟩ := hP.out.shape
    obtain ⟨_, _, _, _, c4, _⟩ := hP.cells
    rw [show s'.view.out.length = 0 by show s'.out.length = 0; rw [hout]; rfl] at c4
    have HO := Lib.hid hout
    clear hP hout
    rcases stuck_or s' L1.out.gd.ok.st with hst | ⟨i, h5, hp⟩
    · have HG := Lib.hid (stuck_go (V := V9) hst)
      have HD := Lib.hid (pdoLine_no L1.out.now.rs L1.out.now.env (by have := L1.out.gd.wait; show s'.wait.length ≤ _; omega) (p := s'.view) hst)
      clear hst
      go_wp2_with fail
      refine HD.out.mono ?_
      rintro e w2 ⟨rfl, F2, a2, b2, m2⟩
      have L2 := Lib.hid (L1.out.stay HSZ.out a2 b2 m2)
      have HR2 := Lib.hid (show At w2 w.heap.size 46 (evA 0 nobody nobody none 0 0 none 0 0) from L2.out.res)
      clear a2 b2 m2
      go_wp2_with (refine step_ev (by rfl) (.tmp 2) (.tmp 17) (by rfl) w.heap.size 0 nobody nobody none none 0 0 0 0 (by rfl) (by rfl) HR2.out ?_)
      (try simp only [Exit.inBlock, Exit.then])
      refine bodyPost_ret (ret_ev (fn := Tryz.f20) (p := 2) (u := 3) rfl _ _ w.heap.size rfl (HR2.out.setRow _)) rfl ?_
      have k3 : Keep (fun i => i = w.heap.size) w2 (w2.setRow w.heap.size (evA 0 nobody nobody none 0 0 none 0 0)) := (Keep.refl (fun i => i = w.heap.size) w2).setRow (fun _ => rfl) _
      refine ⟨rfl, F2, ?_, ?_, fun k hk => ?_⟩
      · have : s.go V9 = s' := by rw [← L1.out.go, HG.out]
        rw [this]
        exact L2.out.now.rs.other k3 (fun i hi e => L2.out.out i hi e)
      · exact ((HW.out.mono (T := F) (fun _ _ h => h.elim)).trans L2.out.now.kp (fun i _ h => h)).trans k3 (fun i hi e => by omega)
      · rcases L2.out.now.more k hk with e | e
        · exact .inl e
        · exact .inr (Nat.le_trans HW.out.size e)
    · have HD := Lib.hid (pdoLine_yes (p := s'.view) L1.out.now.rs L1.out.now.env L1.out.gd.ok.view (by have := L1.out.gd.wait; show s'.wait.length ≤ _; omega) h5 hp (by have := L1.out.gd.host; show s'.host.size ≤ _; omega) (by show s'.out.length + 2 ≤ _; rw [HO.out]; decide))
      have hli := pos_lt hp
      have HV : Hid ((s'.view.cut i).pline V9 (s'.view.wait.take i) = ((s'.cut i).line V9 (s'.wait.take i)).view) := Lib.hid (view_line V9 (s'.cut i) (s'.wait.take i) h5).symm
      have HG := Lib.hid (go_some (V := V9) h5 hp)
      have HGD := Lib.hid (L1.out.gd.line (i := i) V9 HO.out (s'.wait.take i))
      have HM := Lib.hid L1.out.now.rs.waits
      have HMU := Lib.hid (Nat.le_of_lt (mu_line V9 h5 HO.out hli (s'.wait.take i)))
      have HWL : Hid (((s'.cut i).line V9 (s'.wait.take i)).wait.length = s'.wait.length - (i + 2)) := Lib.hid (by rw [line_wait]; simp [Se.cut])
      rw [HV.out] at HD
      have HKEY : Hid ((if ((s'.cut i).line V9 (s'.wait.take i)).view.st = 6 then 0 else ((s'.cut i).line V9 (s'.wait.take i)).view.wait.length + 1) < s'.view.wait.length + 1) := Lib.hid (by
        have h3 : ((s'.cut i).line V9 (s'.wait.take i)).view.wait.length = s'.view.wait.length - (i + 2) := HWL.out
        have h4 : i + 2 ≤ s'.view.wait.length := hli
        rw [h3]
        split
        · exact Nat.succ_pos _
        · omega)
      have n6 : s'.view.st ≠ 6 := by show s'.st ≠ 6; omega
      have HN6 := Lib.hid n6
      clear n6
      go_wp2_with fail
      refine HD.out.mono ?_
      rintro e w2 ⟨rfl, F2, a2, b2, m2⟩
      have L2 := Lib.hid (L1.out.tried HSZ.out a2 b2 m2 HG.out.symm HGD.out (by rw [HWL.out]; omega) HMU.out)
      clear a2 b2 m2
      go_wp2
      go_roundw
      case rel => exact ⟨F2, _, L2.out⟩
      case measure =>
        have h1 := HM.out
        rw [if_neg HN6.out] at h1
        have h2 := L2.out.now.rs.waits
        rw [h1, h2]
        exact HKEY.out
end Go.Proofs.YtcjljldknekhiaaGreatDoor.Ln
