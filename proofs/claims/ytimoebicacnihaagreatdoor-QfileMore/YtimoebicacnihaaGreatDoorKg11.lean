/-
  Several texts in one: H4 H5.
-/
import Derived.Test.YtimoebicacnihaaGreatDoorKg10

section
/-
  What the program's first and Decode return, for all bytes.
-/
namespace Go.Proofs.YtimoebicacnihaaGreatDoor.Ln
open Go.RowKit
set_option linter.unusedVariables false
set_option linter.unusedSimpArgs false

theorem infoK3 : (Tryz.prog.info? 57).map (·.size) = some 3 := by kernel_rfl
theorem ret_mk {fn : Func} {p u : Tmp} (h : fn.results = #[.cell p 57, .tmp u]) (tmps : Array Value) (w : World) (g : Nat) {cs : Array Value} (hp : tmps.getD p undef = .pointer (some ⟨g, 0, none⟩)) (hg : At w g 57 cs ∧ cs.size = 3) :
    (results fn tmps).run Tryz.prog w = .ok (.tuple #[.agg cs, tmps.getD u undef]) w := by
  rw [results_cell_tmp h, hp]
  have := run_loadVar_row (P := Tryz.prog) w g 57 57 cs (0, 0) _ hg.1 Tryz.underlying57 rfl (by rw [hg.2]; exact infoK3)
  simp [asAddr, this, Result.andThen]
def noK : Mk := ⟨0, 0, 0⟩
/-- What first answers. -/
def FirstP (bs : List Nat) (w : World) (e : Ending) (w' : World) : Prop := Keep (fun _ => False) w w' ∧ ∃ k, e = .returned (.tuple #[.agg (mkC k), .bool (firstB bs)]) ∧ (firstB bs = true → k = readK (bs.take 24))
theorem first_no {bs : List Nat} {w w' : World} (h : firstB bs = false) (k : Keep (fun _ => False) w w') : FirstP bs w (.returned (.tuple #[.agg #[.int .i64 0, .int .i64 0, .int .i64 0], .bool false])) w' := ⟨k, noK, by rw [h]; rfl, by rw [h]; exact fun h => by cases h⟩
/-! ### A reader, and an array of three, of the call's own -/
structure Rq3 (W wr : World) (p g q : Nat) (s : Option (List Nat)) (cs : Array Value) : Prop where
  rd : Rd (· = g) wr p s
  row : At wr q 90 cs
  kp : Keep (fun _ => False) W wr
  hp : W.heap.size ≤ p
  hg : W.heap.size ≤ g
  hq : W.heap.size ≤ q
  np : ¬ p = g
  nq : ¬ g = q
  ql : q < wr.heap.size
theorem Rq3.pq {W wr : World} {p g q : Nat} {s : Option (List Nat)} {cs : Array Value} (h : Rq3 W wr p g q s cs) : ¬ q = p := by
  obtain ⟨cs', hc⟩ := h.rd.at
  exact fun e => At.ne h.row hc (by decide) e
theorem Rq3.num {W wr : World} {p g q : Nat} {s : Option (List Nat)} {cs : Array Value} (h : Rq3 W wr p g q s cs) : Calls Tryz.prog 49 #[.pointer (some ⟨p, 0, none⟩)] wr fun e w' => e = .returned (.tuple #[.int .i64 ((numV s : Nat) : Int), .bool (numOk s)]) ∧ Rq3 W w' p g q (numS s) cs :=
  (Go.Proofs.YtimoebicacnihaaGreatDoor.Ln.num (· = g) p h.np s wr h.rd).mono fun e w' ⟨he, hR, k⟩ => ⟨he, hR, h.row.keep k h.pq, h.kp.trans k (fun i hi e => by have := h.hp; omega), h.hp, h.hg, h.hq, h.np, h.nq, Nat.lt_of_lt_of_le h.ql k.size⟩
theorem Rq3.put {W wr : World} {p g q : Nat} {s : Option (List Nat)} {cs : Array Value} (h : Rq3 W wr p g q s cs) (i : Nat) (u : Value) : Rq3 W (wr.setCell ⟨q, i, none⟩ u) p g q s (cs.setIfInBounds i u) := by
  have k : Keep (fun k => k = q) wr (wr.setCell ⟨q, i, none⟩ u) := (Keep.refl (fun k => k = q) wr).setCell (p := ⟨q, i, none⟩) (fun _ => rfl) _
  exact ⟨h.rd.keep k (fun e => h.pq e.symm) (fun b _ hb e => h.nq (by rw [← show b = g from hb, e])), h.row.put i u, h.kp.trans k (fun i hi e => by have := h.hq; omega), h.hp, h.hg, h.hq, h.np, h.nq, by have := h.ql; simp [World.setCell]; exact this⟩
def sJ (I : List Nat) : Nat → Option (List Nat)
  | 0 => some I
  | j + 1 => numS (sJ I j)
def cJ (I : List Nat) : Nat → Array Value
  | 0 => #[.int .i64 0, .int .i64 0, .int .i64 0]
  | 1 => #[.int .i64 ((numV (sJ I 0) : Nat) : Int), .int .i64 0, .int .i64 0]
  | 2 => #[.int .i64 ((numV (sJ I 0) : Nat) : Int), .int .i64 ((numV (sJ I 1) : Nat) : Int), .int .i64 0]
  | _ => #[.int .i64 ((numV (sJ I 0) : Nat) : Int), .int .i64 ((numV (sJ I 1) : Nat) : Int), .int .i64 ((numV (sJ I 2) : Nat) : Int)]
set_option maxHeartbeats 8000000 in
set_option maxRecDepth 100000 in
theorem firstC {P : Nat → Prop} {w : World} (x : Option Addr) (n cap : Nat) (bs : List Nat) (hn : bs.length = n) (hc : n ≤ cap) (hl : n ≤ 140737488355328) (h : Bytes P w x bs) :
    Calls Tryz.prog 43 #[.slice x n cap] w (FirstP bs w) := by
  have kA := keep_new w (.cells #[.int .i64 0, .int .i64 0, .int .i64 0] 57)
  have hA0 : At (w.alloc (.cells #[.int .i64 0, .int .i64 0, .int .i64 0] 57)) w.heap.size 57 #[.int .i64 0, .int .i64 0, .int .i64 0] := At.new w _ _
  obtain ⟨W, hW⟩ : ∃ W, W = w.alloc (.cells #[.int .i64 0, .int .i64 0, .int .i64 0] 57) := ⟨_, rfl⟩
  have HX := Lib.hid (h.quiet kA)
  rw [← hW] at hA0 kA HX
  have HWS : Hid (W.heap.size = w.heap.size + 1) := Lib.hid (by rw [hW]; simp)
  have HN := Lib.hid hn
  have HA := Lib.hid hA0
  have KA := Lib.hid kA
  have HB8 := Lib.hid h.1
  have HW := Lib.hid hW
  clear h hn kA hA0 hW
  by_cases hs : (n : Int) < 28
  · have HF : Hid (firstB bs = false) := Lib.hid (first_short (by have := HN.out; omega))
    go_enter Tryz.func43, Tryz.ntmps43
    go_wp2
    rw [← HW.out]
    refine bodyPost_ret (ret_mk (fn := Tryz.f43) (p := 2) (u := 3) rfl _ _ w.heap.size rfl ⟨HA.out, rfl⟩) rfl ?_
    exact first_no HF.out KA.out
  · have hn28 : 28 ≤ n := by omega
    have HI : Hid (Bytes P W x (bs.take 24)) := Lib.hid (HX.out.take 24)
    have HS : Hid (Bytes P W (if cap = 24 then x else x.map (fun a => a.add 24)) ((bs.drop 24).take 4)) := Lib.hid (by
      have := HX.out.mid cap 24 28 (by omega) (by have := HN.out; omega) (by have := HN.out; omega)
      rw [List.drop_take] at this
      exact this)
    have HIL : Hid ((bs.take 24).length = 24) := Lib.hid (by rw [List.length_take]; have := HN.out; omega)
    have HSL : Hid (((bs.drop 24).take 4).length = 4) := Lib.hid (by rw [List.length_take, List.length_drop]; have := HN.out; omega)
    obtain ⟨m1, m2⟩ := cut_mid x n cap 24 28 (by omega) (by omega)
    obtain ⟨p1, p2⟩ := cut_pre x n cap 24 (by omega)
    obtain ⟨xs, hxs⟩ : ∃ xs, xs = (if cap = 24 then x else x.map (fun a => a.add 24)) := ⟨_, rfl⟩
    rw [← hxs] at m1 m2 HS
    have m3 : ∀ w, (Instr.slice 23 (.slice x n cap) (some (.int .i64 24)) (some (.int .i64 28)) none).run Tryz.prog w = .ok (.slice xs 4 (cap - 24)) w := m1
    have m4 : ∀ w, (Instr.sliceAt 23 (.slice x n cap) (some (.int .i64 24)) (some (.int .i64 28)) none).run Tryz.prog w = .ok (.slice xs 4 (cap - 24)) w := m2
    have p3 : ∀ w, (Instr.slice 23 (.slice x n cap) none (some (.int .i64 24)) none).run Tryz.prog w = .ok (.slice x 24 cap) w := p1
    have p4 : ∀ w, (Instr.sliceAt 23 (.slice x n cap) none (some (.int .i64 24)) none).run Tryz.prog w = .ok (.slice x 24 cap) w := p2
    obtain ⟨I, hI⟩ : ∃ I, I = bs.take 24 := ⟨_, rfl⟩
    have HFB : Hid (firstB bs = (decide ((bs.drop 24).take 4 = sum4 I) && (doneB (s3 I) && goodK (readK I)))) := Lib.hid (by rw [firstB, hI, decide_eq_true (by have := HN.out; omega), Bool.true_and])
    rw [← hI] at HI HIL
    have HII := Lib.hid hI
    have HI8 : Hid (∀ c ∈ I, c < 256) := Lib.hid HI.out.1
    clear m1 m2 p1 p2 hxs hI
    go_enter Tryz.func43, Tryz.ntmps43
    go_wp2
    rw [← HW.out]
    go_quiet (fail)
    obtain ⟨W2, hW2⟩ : ∃ W2, W2 = W.drewN nq := ⟨_, rfl⟩
    have K2 : Hid (Keep (fun _ => False) W W2) := Lib.hid (by rw [hW2]; exact keepDrewN (Keep.refl _ W) nq)
    rw [← hW2]
    clear m3 m4 p3 p4 hW2
    go_wp2_with fail
    refine (checksumK x 24 cap I HIL.out.symm (by omega) (HI.out.quiet K2.out)).mono ?_
    rintro e w3 ⟨g3, n3, hn3, hg3, rfl, hat3, hk3⟩
    obtain rfl : n3 = 4 := hn3
    have K3 : Hid (Keep (fun _ => False) W w3) := Lib.hid (K2.out.trans hk3 (fun _ _ h => h))
    have HB3 := Lib.hid (Bytes.of_at hat3 (sum4_lt I))
    clear hg3 hat3 hk3
    go_wp2_with fail
    refine (equalC xs 4 (cap - 24) ((bs.drop 24).take 4) (some ⟨g3, 0, none⟩) 4 4 (sum4 I) HSL.out rfl (HS.out.quiet K3.out) HB3.out).mono ?_
    rintro e u ⟨he, hu⟩
    subst u
    obtain ⟨b, hb⟩ : ∃ b, b = decide ((bs.drop 24).take 4 = sum4 I) := ⟨_, rfl⟩
    rw [← hb] at he HFB
    subst he
    clear hb
    have HA3 := Lib.hid (HA.out.keep K3.out (fun h => h))
    have K3' := Lib.hid (KA.out.trans K3.out (fun _ _ h => h))
    cases b with
    | false =>
      have HF : Hid (firstB bs = false) := Lib.hid HFB.out
      go_wp2_with (refine wpList_store_row (by rfl) 57 (.tmp 2) (.tmp 23) (by rfl) w.heap.size #[.int .i64 0, .int .i64 0, .int .i64 0] (by rfl) (by rfl) 57 _ HA3.out infoK3 rfl (by simp [Value.oneCell']) ?_)
      refine bodyPost_ret (ret_mk (fn := Tryz.f43) (p := 2) (u := 3) rfl _ _ w.heap.size rfl ⟨HA3.out.setRow _, rfl⟩) rfl ?_
      exact first_no HF.out (K3'.out.setRow (fun h => by omega) _)
    | true =>
      go_wp2_with fail
      refine (read P x 24 cap I HIL.out (by omega) w3 (HI.out.quiet K3.out)).mono ?_
      rintro e w4 ⟨p, g, rfl, hp, hg, hne, hR4, hk4, hgl⟩
      obtain ⟨q, hq⟩ : ∃ q, q = w4.heap.size := ⟨_, rfl⟩
      have hpl : p < w4.heap.size := by obtain ⟨cs, hcs⟩ := hR4.at; exact hcs.lt
      have R4 : Hid (Rq3 W (w4.alloc (.cells #[.int .i64 0, .int .i64 0, .int .i64 0] 90)) p g q (some I) #[.int .i64 0, .int .i64 0, .int .i64 0]) := Lib.hid (by
        have k : Keep (fun _ => False) w4 (w4.alloc (.cells #[.int .i64 0, .int .i64 0, .int .i64 0] 90)) := keep_new w4 _
        refine ⟨hR4.keep k (fun h => h) (fun _ _ _ h => h), by rw [hq]; exact At.new w4 _ _, (K3.out.trans hk4 (fun _ _ h => h)).trans k (fun _ _ h => h), ?_, ?_, ?_, fun e => hne e.symm, ?_, ?_⟩
        · exact Nat.le_trans K3.out.size hp
        · exact Nat.le_trans K3.out.size hg
        · rw [hq]; exact Nat.le_trans K3.out.size hk4.size
        · omega
        · rw [hq]; simp)
      have HQ := Lib.hid hq
      clear hp hg hne hR4 hk4 hgl hpl hq
      go_wp2
      rw [← HQ.out]
      go_loopw [26] (fun i wr => ∃ (j : Nat), j ≤ 3 ∧ i = .int .i64 (j : Int) ∧ Hid (Rq3 W wr p g q (sJ I j) (cJ I j))) (fun i _ => 3 - (intOf i).toNat)
      case atStart => exact ⟨0, by omega, rfl, R4.out⟩
      case round =>
        obtain ⟨j, hj, rfl, R⟩ := hrel
        obtain rfl | rfl | rfl | rfl : j = 0 ∨ j = 1 ∨ j = 2 ∨ j = 3 := by omega
        · go_wp2_with fail
          refine R.out.num.mono ?_
          rintro e w5 ⟨rfl, hR5⟩
          have cq := (hR5.row.cell 0)
          have fq := hR5.row.frozen 0
          have ql := hR5.ql
          have R5 : Hid (Rq3 W (w5.setCell ⟨q, 0, none⟩ (.int .i64 ((numV (sJ I 0) : Nat) : Int))) p g q (sJ I 1) (cJ I 1)) := Lib.hid (hR5.put 0 _)
          simp [cJ] at cq
          clear hR5 R
          go_wp2
          go_roundw
          case rel => exact ⟨1, by omega, by go_num, R5.out⟩
          case measure => simp [intOf]
        · go_wp2_with fail
          refine R.out.num.mono ?_
          rintro e w5 ⟨rfl, hR5⟩
          have cq := (hR5.row.cell 1)
          have fq := hR5.row.frozen 1
          have ql := hR5.ql
          have R5 : Hid (Rq3 W (w5.setCell ⟨q, 1, none⟩ (.int .i64 ((numV (sJ I 1) : Nat) : Int))) p g q (sJ I 2) (cJ I 2)) := Lib.hid (hR5.put 1 _)
          simp [cJ] at cq
          clear hR5 R
          go_wp2
          go_roundw
          case rel => exact ⟨2, by omega, by go_num, R5.out⟩
          case measure => simp [intOf]
        · go_wp2_with fail
          refine R.out.num.mono ?_
          rintro e w5 ⟨rfl, hR5⟩
          have cq := (hR5.row.cell 2)
          have fq := hR5.row.frozen 2
          have ql := hR5.ql
          have R5 : Hid (Rq3 W (w5.setCell ⟨q, 2, none⟩ (.int .i64 ((numV (sJ I 2) : Nat) : Int))) p g q (sJ I 3) (cJ I 3)) := Lib.hid (hR5.put 2 _)
          simp [cJ] at cq
          clear hR5 R
          go_wp2
          go_roundw
          case rel => exact ⟨3, by omega, by go_num, R5.out⟩
          case measure => simp [intOf]
        · have hrow := R.out.row
          obtain ⟨c0, c1, c2⟩ : wr.cell? ⟨q, 0, none⟩ = some (.int .i64 ((numV (sJ I 0) : Nat) : Int)) ∧ wr.cell? ⟨q, 1, none⟩ = some (.int .i64 ((numV (sJ I 1) : Nat) : Int)) ∧ wr.cell? ⟨q, 2, none⟩ = some (.int .i64 ((numV (sJ I 2) : Nat) : Int)) := ⟨hrow.cell 0, hrow.cell 1, hrow.cell 2⟩
          obtain ⟨M, hM⟩ : ∃ M, M = readK I := ⟨_, rfl⟩
          have m0 : ((numV (sJ I 0) : Nat) : Int) = M.kind := by rw [hM]; rfl
          have m1 : ((numV (sJ I 1) : Nat) : Int) = M.rcpt := by rw [hM]; rfl
          have m2 : ((numV (sJ I 2) : Nat) : Int) = M.n := by rw [hM]; rfl
          have ms : sJ I 3 = s3 I := rfl
          rw [m0] at c0
          rw [m1] at c1
          rw [m2] at c2
          have HMM := Lib.hid hM
          obtain ⟨mk, mr, mn⟩ := M
          simp only at c0 c1 c2
          have hRd : Rd (· = g) wr p (s3 I) := R.out.rd
          obtain ⟨B, hB⟩ : ∃ B, B = wr.heap.size := ⟨_, rfl⟩
          have kB : Keep (fun _ => False) wr (wr.alloc (.cells #[.int .i64 mk, .int .i64 mr, .int .i64 mn] 57)) := keep_new wr _
          have hAB : At (wr.alloc (.cells #[.int .i64 mk, .int .i64 mr, .int .i64 mn] 57)) B 57 #[.int .i64 mk, .int .i64 mr, .int .i64 mn] := by rw [hB]; exact At.new wr _ _
          obtain ⟨X, hX⟩ : ∃ X, X = wr.alloc (.cells #[.int .i64 mk, .int .i64 mr, .int .i64 mn] 57) := ⟨_, rfl⟩
          rw [← hX] at kB hAB
          have HD : Hid (Rd (· = g) X p (s3 I)) := Lib.hid (hRd.keep kB (fun h => h) (fun _ _ _ h => h))
          have HAB := Lib.hid hAB
          have KX : Hid (Keep (fun _ => False) W X) := Lib.hid (R.out.kp.trans kB (fun _ _ h => h))
          have HX' := Lib.hid hX
          have HBB := Lib.hid hB
          clear hrow m0 m1 m2 ms hRd kB hAB hX hB R hM
          go_wp2_with fail
          rw [← HX'.out, ← HBB.out]
          refine (done (· = g) p (s3 I) X HD.out).mono ?_
          rintro e X1 ⟨rfl, rfl⟩
          obtain ⟨d, hd⟩ : ∃ d, d = doneB (s3 I) := ⟨_, rfl⟩
          rw [← hd] at HFB
          rw [← hd]
          have HA4 := Lib.hid (HA.out.keep KX.out (fun h => h))
          have K4' := Lib.hid (KA.out.trans KX.out (fun _ _ h => h))
          clear hd
          cases d with
          | false =>
            have HF : Hid (firstB bs = false) := Lib.hid HFB.out
            go_wp2_with (refine wpList_store_row (by rfl) 57 (.tmp 2) (.tmp 52) (by rfl) w.heap.size #[.int .i64 0, .int .i64 0, .int .i64 0] (by rfl) (by rfl) 57 _ HA4.out infoK3 rfl (by simp [Value.oneCell']) ?_)
            refine bodyPost_ret (ret_mk (fn := Tryz.f43) (p := 2) (u := 3) rfl _ _ w.heap.size rfl ⟨HA4.out.setRow _, rfl⟩) rfl ?_
            exact first_no HF.out (K4'.out.setRow (fun h => by omega) _)
          | true =>
            obtain ⟨b0, b1, b2⟩ : X.cell? ⟨B, 0, none⟩ = some (.int .i64 mk) ∧ X.cell? ⟨B, 1, none⟩ = some (.int .i64 mr) ∧ X.cell? ⟨B, 2, none⟩ = some (.int .i64 mn) := ⟨HAB.out.cell 0, HAB.out.cell 1, HAB.out.cell 2⟩
            go_wp2_with fail
            refine (goodKC ⟨mk, mr, mn⟩ X).mono ?_
            rintro e X2 ⟨rfl, hk5⟩
            rw [HMM.out]
            obtain ⟨v, hv⟩ : ∃ v, v = goodK (readK I) := ⟨_, rfl⟩
            rw [← hv] at HFB
            rw [← hv]
            have HA5 := Lib.hid (HA4.out.keep hk5 (fun h => h))
            have K5' := Lib.hid (K4'.out.trans hk5 (fun _ _ h => h))
            obtain ⟨e0, e1, e2⟩ : X2.cell? ⟨B, 0, none⟩ = some (.int .i64 mk) ∧ X2.cell? ⟨B, 1, none⟩ = some (.int .i64 mr) ∧ X2.cell? ⟨B, 2, none⟩ = some (.int .i64 mn) := by
              have h := HAB.out.keep hk5 (fun h => h)
              exact ⟨h.cell 0, h.cell 1, h.cell 2⟩
            clear hv hk5 b0 b1 b2
            cases v with
            | false =>
              have HF : Hid (firstB bs = false) := Lib.hid HFB.out
              go_wp2_with (refine wpList_store_row (by rfl) 57 (.tmp 2) (.tmp 52) (by rfl) w.heap.size #[.int .i64 0, .int .i64 0, .int .i64 0] (by rfl) (by rfl) 57 _ HA5.out infoK3 rfl (by simp [Value.oneCell']) ?_)
              refine bodyPost_ret (ret_mk (fn := Tryz.f43) (p := 2) (u := 3) rfl _ _ w.heap.size rfl ⟨HA5.out.setRow _, rfl⟩) rfl ?_
              exact first_no HF.out (K5'.out.setRow (fun h => by omega) _)
            | true =>
              have HF : Hid (firstB bs = true) := Lib.hid HFB.out
              go_wp2_with (refine wpList_store_row (by rfl) 57 (.tmp 2) (.tmp 53) (by rfl) w.heap.size #[.int .i64 mk, .int .i64 mr, .int .i64 mn] (by rfl) (by rfl) 57 _ HA5.out infoK3 rfl (by simp [Value.oneCell']) ?_)
              refine bodyPost_ret (ret_mk (fn := Tryz.f43) (p := 2) (u := 3) rfl _ _ w.heap.size rfl ⟨HA5.out.setRow _, rfl⟩) rfl ?_
              exact ⟨K5'.out.setRow (fun h => by omega) _, ⟨mk, mr, mn⟩, by rw [HF.out]; rfl, fun _ => by rw [HMM.out, HII.out]⟩
end Go.Proofs.YtimoebicacnihaaGreatDoor.Ln
end

section
/-
  What the program's Decode returns, for all bytes.
-/
namespace Go.Proofs.YtimoebicacnihaaGreatDoor.Ln
open Go.RowKit
set_option linter.unusedVariables false
set_option linter.unusedSimpArgs false

/-- What Decode answers. -/
def DecP (bs : List Nat) (w : World) (e : Ending) (w' : World) : Prop := ∃ y n c i, n = (marksM bs).length ∧ i = ((28 * n : Nat) : Int) ∧ n ≤ c ∧ e = .returned (.tuple #[.slice y n c, .int .i64 i]) ∧ MkP (fun b => w.heap.size ≤ b) w' y (marksM bs) ∧ Keep (fun _ => False) w w'
/-- Where a loop over marks stands. -/
structure Run (bs : List Nat) (w wr : World) (y : Option Addr) (l c : Nat) (q : Option Nat) (L : List Mk) : Prop where
  seen : Seen bs L
  own : MkO wr (.slice y l c) q L
  new : ∀ b, q = some b → w.heap.size ≤ b
  kp : Keep (fun _ => False) w wr
theorem Run.start {bs : List Nat} {w wr : World} (k : Keep (fun _ => False) w wr) : Run bs w wr none 0 0 none [] := ⟨seen_nil bs, StO.empty _ _ _ _ _, fun b h => by (cases h), k⟩
theorem Run.len {bs : List Nat} {w wr : World} {y : Option Addr} {l c : Nat} {q : Option Nat} {L : List Mk} (h : Run bs w wr y l c q L) : l = L.length ∧ l ≤ c := by
  obtain ⟨x, c', hv, hc⟩ := h.own.shape
  injection hv with e1 e2 e3
  omega
theorem Run.quiet {bs : List Nat} {w wr w' : World} {y : Option Addr} {l c : Nat} {q : Option Nat} {L : List Mk} (h : Run bs w wr y l c q L) (k : Keep (fun _ => False) wr w') : Run bs w w' y l c q L := ⟨h.seen, MidG.keep h.own k (fun _ _ h => h), h.new, h.kp.trans k (fun _ _ h => h)⟩
theorem Run.done {bs : List Nat} {w wr : World} {y : Option Addr} {l c : Nat} {q : Option Nat} {L : List Mk} (h : Run bs w wr y l c q L) (hm : marksM bs = L) (i : Int) (hi : i = ((28 * l : Nat) : Int)) : DecP bs w (.returned (.tuple #[.slice y l c, .int .i64 i])) wr := by
  obtain ⟨x, c', hv, hc, hp⟩ := StO.row mkL_len h.own
  injection hv with e1 e2 e3
  subst e1 e2 e3
  exact ⟨y, _, c, i, by rw [hm], hi, hc, rfl, by rw [hm]; exact StP.mono hp (fun b _ hb => h.new b hb), h.kp⟩
theorem Run.more {bs : List Nat} {w wr w' : World} {y y' : Option Addr} {l c l' c' : Nat} {q q' : Option Nat} {L : List Mk} (h : Run bs w wr y l c q L) (hl : L.length < 4096) (hf : firstB (bs.drop (28 * L.length)) = true) {k : Mk} (hk : k = readK ((bs.drop (28 * L.length)).take 24))
    (ho : MkO w' (.slice y' l' c') q' (L ++ [k])) (hn : New wr q q') (kp : Keep (fun j => q = some j) wr w') : Run bs w w' y' l' c' q' (L ++ [k]) := by
  subst hk
  refine ⟨h.seen.more hl hf, ho, fun b hb => ?_, h.kp.trans kp (fun i hi e => by have := h.new i e; omega)⟩
  rcases hn b hb with h1 | h1
  · exact h.new b h1
  · exact Nat.le_trans h.kp.size h1
set_option maxHeartbeats 8000000 in
set_option maxRecDepth 100000 in
theorem decodeK {P : Nat → Prop} {w : World} (x : Option Addr) (n cap : Nat) (bs : List Nat) (hn : bs.length = n) (hc : n ≤ cap) (hl : n ≤ 140737488355328) (h : Bytes P w x bs) :
    Calls Tryz.prog 30 #[.slice x n cap] w (DecP bs w) := by
  have HX := Lib.hid h
  have HN := Lib.hid hn
  have HD : Hid (∀ (wr : World) (y : Option Addr) (l c : Nat) (q : Option Nat) (L : List Mk), Run bs w wr y l c q L → marksM bs = L → ∀ i, i = ((28 * l : Nat) : Int) → DecP bs w (.returned (.tuple #[.slice y l c, .int .i64 i])) wr) := Lib.hid (fun wr y l c q L hR hm i hi => hR.done hm i hi)
  clear h hn
  go_enter Tryz.func30, Tryz.ntmps30
  go_wp2
  go_loopw [4, 5] (fun v i wr => ∃ (y : Option Addr) (l c a : Nat) (q : Option Nat) (L : List Mk), v = .slice y l c ∧ i = .int .i64 (a : Int) ∧ l ≤ 4096 ∧ Hid (a = 28 * l) ∧ Hid (Run bs w wr y l c q L)) (fun _ i _ => 114689 - (intOf i).toNat)
  case atStart => exact ⟨none, 0, 0, 0, none, [], rfl, rfl, by omega, rfl, Run.start (Keep.refl _ _)⟩
  case round =>
    obtain ⟨y, l, c, a, q, L, rfl, rfl, hl4, HAl, R⟩ := hrel
    have HLen := Lib.hid R.out.len
    by_cases hlt : (l : Int) < 4096
    · have han : a ≤ n := by have h1 := R.out.seen.l; have := HLen.out.1; have := HN.out; have := HAl.out; omega
      have ha0 : (0 : Int) ≤ (a : Int) := by omega
      have hab : a ≤ 114688 := by have := HAl.out; omega
      obtain ⟨r1, r2⟩ := cut_drop x n cap a han hc
      have hB := HX.out.mid cap a n han (by have := HN.out; omega) (by have := HN.out; omega)
      rw [List.take_of_length_le (by rw [HN.out]; omega)] at hB
      obtain ⟨xd, hxd⟩ : ∃ xd, xd = (if cap = a then x else x.map (fun b => b.add a)) := ⟨_, rfl⟩
      rw [← hxd] at r1 r2 hB
      have HB : Hid (Bytes P wr xd (bs.drop a)) := Lib.hid (hB.quiet R.out.kp)
      have HDL : Hid ((bs.drop a).length = n - a) := Lib.hid (by rw [List.length_drop, HN.out])
      have HLa : Hid (28 * L.length = a) := Lib.hid (by have := HLen.out.1; have := HAl.out; omega)
      clear hB hxd
      go_wp2_with fail
      refine (firstC xd (n - a) (cap - a) (bs.drop a) HDL.out (by omega) (by omega) HB.out).mono ?_
      rintro e w1 ⟨k1, M, rfl, hM⟩
      have R1 := Lib.hid (R.out.quiet k1)
      clear k1 R r1 r2
      cases hf : firstB (bs.drop a) with
      | false =>
        have HE : Hid (marksM bs = L) := Lib.hid (R1.out.seen.stop (by rw [HLa.out]; exact hf))
        clear hf hM
        unfold mkC
        obtain ⟨X, hX⟩ : ∃ X, X = w1.alloc (.cells #[.int .i64 M.kind, .int .i64 M.rcpt, .int .i64 M.n] 57) := ⟨_, rfl⟩
        have R2 : Hid (Run bs w X y l c q L) := Lib.hid (R1.out.quiet (by rw [hX]; exact keep_new w1 _))
        have HX2 := Lib.hid hX
        clear hX R1
        go_wp2
        go_ret2
        rw [← HX2.out]
        exact HD.out _ _ _ _ _ _ R2.out HE.out _ (by rw [HAl.out])
      | true =>
        have HM := Lib.hid (hM hf)
        have HF := Lib.hid hf
        clear hf hM
        unfold mkC
        obtain ⟨X, hX⟩ : ∃ X, X = w1.alloc (.cells #[.int .i64 M.kind, .int .i64 M.rcpt, .int .i64 M.n] 57) := ⟨_, rfl⟩
        have R2 : Hid (Run bs w X y l c q L) := Lib.hid (R1.out.quiet (by rw [hX]; exact keep_new w1 _))
        have h1 := mk_one X M
        rw [show X.heap.size = w1.heap.size + 1 by rw [hX]; simp] at h1
        have H1 := Lib.hid h1
        clear h1
        have R3 : Hid (Run bs w (X.alloc (.cells #[.int .i64 M.kind, .int .i64 M.rcpt, .int .i64 M.n] 57)) y l c q L) := Lib.hid (R2.out.quiet (keep_new X _))
        have HX2 := Lib.hid hX
        clear hX R1 R2
        go_wp2_with
          (at_builtin
           rw [← HX2.out]
           refine wpList_app_mk (by rfl) (.tmp 20) (.tmp 22) (by rfl) (.slice y l c) (by rfl) q L R3.out.own (some ⟨w1.heap.size + 1, 0, none⟩) 1 1 (by rfl) [M] rfl H1.out (by have := HLen.out.1; omega) ?_
           intro y4 l4 c4 q4 w4 hl4 ho4 hk4 hn4
           have hl4' : l4 = l + 1 := by rw [hl4.out, List.length_append, ← HLen.out.1]; rfl
           subst hl4'
           have R4 := Lib.hid (R3.out.more (by have := HLen.out.1; omega) (by rw [HLa.out]; exact HF.out) (by rw [HLa.out]; exact HM.out) ho4 hn4 hk4)
           clear hl4 ho4 hk4 hn4)
        go_roundw
        case rel => exact ⟨y4, l + 1, c4, a + 28, q4, L ++ [M], rfl, by go_num, by omega, by have := HAl.out; show a + 28 = 28 * (l + 1); omega, R4.out⟩
        case measure => simp [intOf]; omega
    · have HE : Hid (marksM bs = L) := Lib.hid (R.out.seen.full (by have := HLen.out.1; omega))
      go_wp2
      go_ret2
      exact HD.out _ _ _ _ _ _ R.out HE.out _ (by rw [HAl.out])
end Go.Proofs.YtimoebicacnihaaGreatDoor.Ln
end
