/-
  What the program's Over, Answer and Feed return, in the words of the document's own session.
-/
import Derived.Test.YtcjljldknekhiaaGreatDoorPd
import Derived.Test.YtcjljldknekhiaaGreatDoorPe
import Derived.Test.YtcjljldknekhiaaGreatDoorMh
namespace Go.Proofs.YtcjljldknekhiaaGreatDoor.Ln
open Go.RowKit
set_option linter.unusedVariables false
set_option linter.unusedSimpArgs false

/-- The program's session in block g is what the document's own would be. -/
def VS (F : Nat → Prop) (w : World) (g : Nat) (s : Se) : Prop := PS F w g s.view
structure VNow (F : Nat → Prop) (w : World) (g : Nat) (F' : Nat → Prop) (w' : World) (s : Se) : Prop where
  now : PNow F w g F' w' s.view
theorem VNow.start {F : Nat → Prop} {w : World} {g : Nat} {s : Se} (h : VS F w g s) (e : Env w) : VNow F w g F w s := ⟨PNow.start h e⟩

/-! ### Bounds -/
theorem Ok.view {s : Se} (h : Ok s) : Ok s.view := by
  refine ⟨h.size, ?_, ?_, ?_, h.st⟩
  · show List.length (if 5 ≤ s.st ∨ s.bad ≠ 0 then [] else s.body) ≤ s.size
    split
    · simp
    · exact h.body
  · show List.length (if 5 ≤ s.st then [] else s.rcpts) ≤ 8
    split
    · simp
    · exact h.rcpts
  · show (if 5 ≤ s.st then 0 else s.bad) = 0 ∨ (if 5 ≤ s.st then 0 else s.bad) = 500 ∨ (if 5 ≤ s.st then 0 else s.bad) = 552
    split
    · exact .inl rfl
    · exact h.bad
structure Gd (s : Se) : Prop where
  ok : Ok s
  host : s.host.size ≤ 1000
  wait : s.wait.length ≤ 4000000000
  out : s.out.length ≤ 2
theorem Gd.line {s : Se} (h : Gd s) {i : Nat} (V : ByteArray → VC) (ho : s.out = []) (l : List Nat) : Gd ((s.cut i).line V l) := by
  refine ⟨(h.ok.cut i).line V l, by rw [line_host]; exact h.host, ?_, ?_⟩
  · rw [line_wait]
    have := h.wait
    simp [Se.cut]
    omega
  · have := out_line V (s.cut i) l
    rw [show (s.cut i).out = [] from ho] at this
    simpa using this
theorem Gd.new (host : ByteArray) (size : Int) (h : host.size ≤ 1000) : Gd (Se.new host size) := ⟨Ok.new host size, h, by simp [Se.new, Se.say], by simp [Se.new, Se.say]⟩
theorem Gd.fed {s : Se} (h : Gd s) (b : List Nat) (hb : s.wait.length + b.length ≤ 4000000000) : Gd (s.fed b) := ⟨h.ok.fed b, h.host, by simp [Se.fed]; exact hb, h.out⟩
theorem Gd.pop {s : Se} (h : Gd s) : Gd s.pop := ⟨h.ok.pop, h.host, h.wait, by have := h.out; simp [Se.pop]; omega⟩
theorem Gd.answer {s : Se} (h : Gd s) (ho : s.out = []) (code : Int) : Gd (s.answer code) := by
  refine ⟨h.ok.answer code, ?_, ?_, ?_⟩
  · unfold Se.answer; split <;> exact h.host
  · unfold Se.answer; split <;> exact h.wait
  · unfold Se.answer
    split
    · show (s.out ++ [_]).length ≤ 2
      rw [ho]; simp
    · exact h.out
theorem go_keeps (V : ByteArray → VC) : ∀ (n : Nat) (s : Se), s.wait.length = n → Ok s → Ok (s.go V) ∧ (s.go V).host = s.host ∧ (s.go V).wait.length ≤ s.wait.length := by
  intro n
  induction n using Nat.strongRecOn with
  | _ n ih =>
    intro s hn h
    by_cases h5 : s.st < 5
    · cases hp : pos s.wait with
      | none => rw [go_none hp]; exact ⟨h, rfl, Nat.le_refl _⟩
      | some i =>
        rw [go_some h5 hp]
        have hl := pos_lt hp
        have hw : ((s.cut i).line V (s.wait.take i)).wait.length = s.wait.length - (i + 2) := by rw [line_wait]; simp [Se.cut]
        obtain ⟨a, b, c⟩ := ih _ (by omega) _ rfl ((h.cut i).line V (s.wait.take i))
        exact ⟨a, by rw [b, line_host]; rfl, by omega⟩
    · rw [go_over h5]; exact ⟨h, rfl, Nat.le_refl _⟩

set_option maxHeartbeats 1000000 in
theorem pover {F : Nat → Prop} {w : World} {g : Nat} {s : Se} (h : VS F w g s) :
    Calls Tryz.prog 24 #[.pointer (some ⟨g, 0, none⟩)] w fun e w' => e = .returned (.bool (decide (s.st = 6 ∧ s.out = []))) ∧ w' = w := by
  obtain ⟨lv, ev, rv, bv, o, xs, h⟩ := h
  obtain ⟨x, c, rfl, _⟩ := h.out.shape
  obtain ⟨_, _, c2, _, c4, _⟩ := h.cells
  have e2 : (s.view.st : Int) = (s.st : Int) := rfl
  have e4 : s.view.out = s.out := rfl
  rw [e2] at c2
  rw [e4] at c4
  obtain ⟨n, hn⟩ : ∃ n, n = s.out.length := ⟨_, rfl⟩
  rw [← hn] at c4
  have HN := Lib.hid hn
  clear h e2 e4 hn
  by_cases h6 : (s.st : Int) = 6
  · rw [h6] at c2
    have HR : Hid (decide (s.st = 6 ∧ s.out = []) = decide ((n : Int) = 0)) := Lib.hid (by
      have := HN.out
      rw [decide_eq_decide]
      constructor
      · rintro ⟨_, h0⟩; rw [h0] at this; simp at this; omega
      · intro h0; exact ⟨by omega, List.eq_nil_of_length_eq_zero (by omega)⟩)
    by_cases h0 : (n : Int) = 0
    · have hb : ((n : Int) == 0) = true := by rw [beq_iff_eq]; exact h0
      go_enter Tryz.func24, Tryz.ntmps24
      go_wp2
      go_ret
      refine ⟨?_, rfl⟩
      rw [HR.out, decide_eq_true h0]
      first | rfl | (simp [h0]; done) | simp
    · have hb : ((n : Int) == 0) = false := by rw [beq_eq_false_iff_ne]; exact h0
      go_enter Tryz.func24, Tryz.ntmps24
      go_wp2
      go_ret
      refine ⟨?_, rfl⟩
      rw [HR.out, decide_eq_false h0]
      first | rfl | (simp [h0]; done) | simp
  · have HR : Hid (decide (s.st = 6 ∧ s.out = []) = false) := Lib.hid (by rw [decide_eq_false_iff_not]; intro h; omega)
    have hb : ((s.st : Int) == 6) = false := by rw [beq_eq_false_iff_ne]; exact h6
    go_enter Tryz.func24, Tryz.ntmps24
    go_wp2
    go_ret
    refine ⟨?_, rfl⟩
    rw [HR.out]
    first | rfl | simp

/-! ### Answer -/
theorem answer_view {s : Se} {code : Int} (h : ansOk s code = true) : (s.answer code).view = s.view.reset.say (reply (if code < 300 then 250 else code.toNat)) := by
  rw [Se.answer, if_pos h, view_reset, reset_view]
  rfl
theorem ansOk_iff {s : Se} (ho : s.out = []) (code : Int) : ansOk s code = decide (s.st = 5 ∧ 200 ≤ code ∧ code ≤ 599) := by
  unfold ansOk
  rw [decide_eq_decide]
  constructor
  · rintro ⟨a, _, b, c⟩; exact ⟨a, b, c⟩
  · rintro ⟨a, b, c⟩; exact ⟨a, ho, b, c⟩
set_option maxHeartbeats 4000000 in
theorem panswer {F : Nat → Prop} {w : World} {g : Nat} {s : Se} (h : VS F w g s) (hE : Env w) (ho : s.out = []) (code : Int) (hc : (Lit.int .i64 code).wf = true) :
    Calls Tryz.prog 13 #[.pointer (some ⟨g, 0, none⟩), .int .i64 code] w (PTried F g (ansOk s code) (s.answer code).view w) := by
  have b := bounds_i64 hc
  have N0 := Lib.hid (PNow.start h hE)
  obtain ⟨_, _, c2, _, _, _⟩ := N0.out.cells
  have e2 : (s.view.st : Int) = (s.st : Int) := rfl
  rw [e2] at c2
  have hol : s.view.out.length = 0 := by show s.out.length = 0; rw [ho]; rfl
  have hno : ∀ (hx : ansOk s code = false), PTried F g (ansOk s code) (s.answer code).view w (.returned (.bool false)) w := fun hx => by
    have e : s.answer code = s := by rw [Se.answer, hx]; rfl
    rw [hx, e]
    exact N0.out.try
  have HNO := Lib.hid hno
  have HI := Lib.hid (ansOk_iff ho code)
  have HV := Lib.hid (fun hx => answer_view (s := s) (code := code) hx)
  clear h hE hno e2 ho
  by_cases h5 : (s.st : Int) = 5
  · rw [h5] at c2
    by_cases h2 : code < 200
    · have HX := Lib.hid (HNO.out (by rw [HI.out, decide_eq_false_iff_not]; rintro ⟨_, h, _⟩; omega))
      go_enter Tryz.func13, Tryz.ntmps13
      go_wp2
      go_ret
      exact HX.out
    · by_cases h6 : 599 < code
      · have HX := Lib.hid (HNO.out (by rw [HI.out, decide_eq_false_iff_not]; rintro ⟨_, _, h⟩; omega))
        go_enter Tryz.func13, Tryz.ntmps13
        go_wp2
        go_ret
        exact HX.out
      · have hx : ansOk s code = true := by rw [HI.out, decide_eq_true_iff]; exact ⟨by omega, by omega, by omega⟩
        have HX := Lib.hid hx
        have HW := Lib.hid (HV.out hx)
        clear hx
        by_cases h3 : code < 300
        · go_enter Tryz.func13, Tryz.ntmps13
          go_wp2_with fail
          refine (preset N0.out.rs (by show s.st ≠ 6; omega)).mono ?_
          rintro e w1 hd
          obtain ⟨rfl, F1, hN1⟩ := N0.out.did hd
          have N1 := Lib.hid hN1
          clear hd hN1
          go_wp2_with fail
          refine (preply N1.out.rs N1.out.env 250 (by decide) (by show s.view.out.length ≤ 1000000; omega)).mono ?_
          rintro e w2 hd
          obtain ⟨rfl, F2, hN2⟩ := N1.out.did hd
          have N2 := Lib.hid hN2
          clear hd hN2
          go_wp2
          go_ret
          rw [HX.out, HW.out, if_pos h3]
          exact N2.out.try
        · obtain ⟨n, rfl⟩ : ∃ n : Nat, code = (n : Int) := ⟨code.toNat, by omega⟩
          go_enter Tryz.func13, Tryz.ntmps13
          go_wp2_with fail
          refine (preset N0.out.rs (by show s.st ≠ 6; omega)).mono ?_
          rintro e w1 hd
          obtain ⟨rfl, F1, hN1⟩ := N0.out.did hd
          have N1 := Lib.hid hN1
          clear hd hN1
          go_wp2_with fail
          refine (preply N1.out.rs N1.out.env n (by omega) (by show s.view.out.length ≤ 1000000; omega)).mono ?_
          rintro e w2 hd
          obtain ⟨rfl, F2, hN2⟩ := N1.out.did hd
          have N2 := Lib.hid hN2
          clear hd hN2
          go_wp2
          go_ret
          rw [HX.out, HW.out, if_neg (by omega), Int.toNat_natCast]
          exact N2.out.try
  · have HX := Lib.hid (HNO.out (by rw [HI.out, decide_eq_false_iff_not]; rintro ⟨h, _⟩; omega))
    have hb : ((s.st : Int) != 5) = true := by rw [bne_iff_ne]; exact h5
    go_enter Tryz.func13, Tryz.ntmps13
    go_wp2
    go_ret
    exact HX.out
set_option maxHeartbeats 1000000 in
theorem panswer_nil (w : World) (code : Int) : Calls Tryz.prog 13 #[.pointer none, .int .i64 code] w fun e w' => e = .returned (.bool false) ∧ w' = w := by
  go_enter Tryz.func13, Tryz.ntmps13
  go_wp2
  go_ret
  exact ⟨rfl, rfl⟩
set_option maxHeartbeats 1000000 in
theorem pover_nil (w : World) : Calls Tryz.prog 24 #[.pointer none] w fun e w' => e = .returned (.bool false) ∧ w' = w := by
  go_enter Tryz.func24, Tryz.ntmps24
  go_wp2
  go_ret
  exact ⟨rfl, rfl⟩
set_option maxHeartbeats 1000000 in
theorem pfeed_nil (w : World) (x : Option Addr) (m c : Nat) : Calls Tryz.prog 15 #[.pointer none, .slice x m c] w fun e w' => e = .returned (.tuple #[]) ∧ w' = w := by
  go_enter Tryz.func15, Tryz.ntmps15
  go_wp2
  (try simp only [Exit.inBlock, Exit.then]); refine bodyPost_ret (results_none rfl _ _ _) rfl ?_
  exact ⟨rfl, rfl⟩

/-! ### Feed -/
theorem fed_over {F : Nat → Prop} {w : World} {g : Nat} {s : Se} (h : VS F w g s) (h6 : s.st = 6) (b : List Nat) : VS F w g (s.fed b) := by
  obtain ⟨lv, ev, rv, bv, o, xs, h⟩ := h
  refine ⟨lv, ev, rv, bv, o, xs, ⟨h.row, h.fg, h.flt, h.lo, h.own, h.out, h.evs, h.rc, h.body, ?_, h.nbl⟩⟩
  rcases h.lin with hx | ⟨hx, _⟩
  · exact .inl hx
  · exact absurd h6 hx
set_option maxHeartbeats 1000000 in
theorem pfeed {F : Nat → Prop} {w : World} {g : Nat} {s : Se} (h : VS F w g s) (hE : Env w) {P : Nat → Prop} (x : Option Addr) (m c : Nat) (cs : List Nat) (hm : cs.length = m) (hB : Bytes P w x cs) (hl : s.wait.length + m ≤ 1099511627776) :
    Calls Tryz.prog 15 #[.pointer (some ⟨g, 0, none⟩), .slice x m c] w (PDid F g (s.fed cs).view w) := by
  by_cases h6 : s.st = 6
  · have N0 := Lib.hid (PNow.start (fed_over h h6 cs) hE)
    obtain ⟨lv, ev, rv, bv, o, xs, h⟩ := h
    obtain ⟨_, _, _, c3, _⟩ := h.cells
    have hv : lv = .pointer none := by
      rcases h.lin with ⟨_, hx, _⟩ | ⟨hx, _⟩
      · exact hx
      · exact absurd h6 hx
    rw [hv] at c3
    clear h hE hB hv
    go_enter Tryz.func15, Tryz.ntmps15
    go_wp2_with fail
    refine (feed_nil _ _ _ _).mono ?_
    rintro e w1 ⟨rfl, hw⟩
    subst w1
    go_wp2_with fail
    (try simp only [Exit.inBlock, Exit.then])
    first | go_end0 | refine bodyPost_ret (results_none rfl _ _ _) rfl ?_
    exact N0.out.done
  · obtain ⟨lv, ev, rv, bv, o, xs, h⟩ := h
    obtain ⟨_, _, _, c3, _⟩ := h.cells
    rcases h.lin with ⟨hx, _⟩ | ⟨_, k, hv, hk, hL⟩
    · exact absurd hx h6
    · rw [hv] at c3
      have H := Lib.hid h
      have HF := Lib.hid (feed hL x m c cs hm hB hl)
      have HK := Lib.hid hk
      have HV := Lib.hid hv
      clear h hE hB hL hk hv
      go_enter Tryz.func15, Tryz.ntmps15
      go_wp2_with fail
      refine HF.out.mono ?_
      rintro e w1 ⟨rfl, q', hL1, hK1, hN1⟩
      have HX := Lib.hid (H.out.lined h6 HK.out HV.out hK1 (fun i e => e) hL1 hN1)
      clear hL1 hK1 hN1
      go_wp2_with fail
      (try simp only [Exit.inBlock, Exit.then])
      first | go_end0 | refine bodyPost_ret (results_none rfl _ _ _) rfl ?_
      exact ⟨rfl, HX.out⟩
end Go.Proofs.YtcjljldknekhiaaGreatDoor.Ln
