/-
  What the document's own text returns and does at a line of a body, nothing being wrong so far.
-/
import Derived.Test.YtcjljldknekhiaaGreatDoorKRx5
import Derived.Test.YtcjljldknekhiaaGreatDoorKg4
import Derived.BigQuiet
namespace Go.Proofs.YtcjljldknekhiaaGreatDoor.Ln
open Go.RowKit
set_option linter.unusedVariables false
set_option linter.unusedSimpArgs false

/-- The body's row has grown. -/
theorem RSat.grown {F : Nat → Prop} {w X : World} {g : Nat} {s : Se} {wv ov rv bv v : Value} {qo qb q : Option Nat} {xs : List Value} {bs : List Nat} (h : RSat F w g s wv ov rv bv qo qb xs) (k : Keep (fun k => qb = some k) w X) (hM : Mid X v q bs) (hN : New w qb q) :
    X.cell? ⟨g, 7, none⟩ = some bv ∧ X.frozen? ⟨g, 7, none⟩ = false ∧ ∃ F', RSat F' (X.setCell ⟨g, 7, none⟩ v) g { s with body := bs } wv ov rv v qo q xs ∧ Keep F w (X.setCell ⟨g, 7, none⟩ v) ∧ More F F' w := by
  obtain ⟨hw, hr⟩ := h.read k
  have hne : ∀ b, Rd F g qo qb b → q ≠ some b := fun b hb e => by
    rcases hN b e with e1 | e1
    · exact hb.2.2.2 e1
    · have := h.flt b hb.1; omega
  obtain ⟨hc, hf, F', h1, h2, h3⟩ := h.turn k (s' := { s with body := bs }) (i := 7) (u := v) (wv' := wv) (rv' := rv) (bv' := v) (qb' := q) (by rfl) rfl hM hN (R1 := Rd F g qo qb) (fun b hb => ⟨.inl hb, hne b hb⟩) hw hr
  exact ⟨hc 7, hf, F', h1, h2, h3⟩

set_option maxHeartbeats 4000000 in
set_option maxRecDepth 100000 in
theorem refBody_line {F : Nat → Prop} {w : World} {g : Nat} {s : Se} (h : RS F w g s) (hok : Ok s) (hb : s.bad = 0) (l : ByteArray) (hl : l.size ≤ 900000) (hE : unE (ns l) = false) (hshort : ¬ ((1000 : Int) < (l.size : Int))) :
    Calls Tryz.prog 37 #[.pointer (some ⟨g, 0, none⟩), .string l] w (Did F g (if odd (unT (ns l)) = true then { s with bad := 500 } else if s.size < s.body.length + (unT (ns l)).length + 1 then { s with bad := 552 } else { s with body := s.body ++ unT (ns l) ++ [10] }) w) := by
  obtain ⟨T, hT⟩ : ∃ T, T = unT (ns l) := ⟨_, rfl⟩
  rw [← hT]
  have hTl : ∀ c ∈ T, c < 256 := by
    rw [hT]
    unfold unT
    split
    · simp
    · split
      · exact fun c hc => ns_lt l c (List.mem_of_mem_drop hc)
      · exact ns_lt l
  have hTn : T.length ≤ 900000 := by
    rw [hT]
    have := ns_length l
    unfold unT
    split
    · simp
    · split
      · simp; omega
      · omega
  have hU := refUnstuff l w (by omega)
  rw [← hT, hE] at hU
  have N1 := Lib.hid (Now.start h)
  have c1 := N1.out.cells.2.1
  have c8 := N1.out.cells.2.2.2.2.1
  obtain ⟨wv, ov, rv, bv, qo, qb, xs, hR⟩ := h
  obtain ⟨bx, bc, hbv, hbc, _⟩ := hR.body.shape
  subst hbv
  have c7 := hR.cells.2.2.2.2.2.2.2.1
  have hbl := hok.body
  have hsl := hok.size
  obtain ⟨nb, hnb⟩ : ∃ n, n = s.body.length := ⟨_, rfl⟩
  obtain ⟨N, hN⟩ : ∃ n, n = T.length := ⟨_, rfl⟩
  obtain ⟨S, hS⟩ : ∃ S, S = str T := ⟨_, rfl⟩
  rw [← hnb] at c7 hbl
  rw [← hS] at hU
  rw [← hN] at hTn
  have hlen : ∀ ty w, (Builtin.len_ #[9] ty #[.string S]).run Tryz.prog w = .ok (.int .i64 (N : Int)) w := fun ty w => by rw [hS, hN, ← str_size T]; exact run_len_string w 9 ty _ Tryz.underlying9
  have HIX : Hid (∀ i, i < N → ∀ w, (Instr.index 9 (.string S) (.int .i64 (i : Int))).run Tryz.prog w = .ok (.int .u8 ((T.getD i 0 : Nat) : Int)) w) := Lib.hid (fun i hi => by rw [hS]; exact index_str hTl i (by omega))
  have HON : Hid (∀ k, k < N → odd (T.take (k + 1)) = (odd (T.take k) || (T.getD k 0 == 10 || T.getD k 0 == 13))) := Lib.hid (fun k hk => odd_next (by omega))
  have HU := Lib.hid hU
  rw [hb] at c8
  have HR := Lib.hid hR
  have HNB := Lib.hid hnb
  have HNN := Lib.hid hN
  have HSS := Lib.hid hS
  have HTL := Lib.hid hTl
  clear hR hok hU hnb hS hTl hN
  obtain ⟨R, hRR0⟩ : ∃ R, R = (if odd T = true then { s with bad := 500 } else if s.size < s.body.length + T.length + 1 then { s with bad := 552 } else { s with body := s.body ++ T ++ [10] } : Se) := ⟨_, rfl⟩
  rw [← hRR0]
  have hRR := Lib.hid hRR0
  have f8 := N1.out.cells.2.2.2.2.2 8
  clear hT hRR0
  go_enter Tryz.func37, Tryz.ntmps37
  go_wp2_with fail
  refine HU.out.mono ?_
  rintro e w1 ⟨rfl, hw⟩
  obtain rfl : w = w1 := hw.symm
  go_wp2
  go_loop [6, 7] (fun u z => ∃ (k : Nat) (b : Bool), k ≤ N ∧ z = .int .i64 (k : Int) ∧ u = .bool b ∧ Hid (b = odd (T.take k))) (fun _ z => N - (intOf z).toNat)
  case atStart => exact ⟨0, false, Nat.zero_le _, rfl, rfl, rfl⟩
  case round =>
    obtain ⟨k, b, hk, rfl, rfl, HO⟩ := hrel
    by_cases h1 : (k : Int) < (N : Int)
    · have hix := HIX.out k (by omega)
      have hon := HON.out k (by omega)
      obtain ⟨c, hc⟩ : ∃ c, c = T.getD k 0 := ⟨_, rfl⟩
      rw [← hc] at hix hon
      rw [← HO.out] at hon
      have HON2 := Lib.hid hon
      clear hon hc
      cases b with
      | true =>
        go_wp2
        go_round
        case rel => exact ⟨k + 1, true, by omega, by go_num, rfl, by rw [HON2.out]; rfl⟩
        case measure => simp [intOf]; omega
      | false =>
        by_cases h10 : c = 10
        · subst h10
          go_wp2
          go_round
          case rel => exact ⟨k + 1, true, by omega, by go_num, rfl, by rw [HON2.out]; rfl⟩
          case measure => simp [intOf]; omega
        · have h10' : ¬ ((c : Int) = 10) := by omega
          by_cases h13 : c = 13
          · subst h13
            go_wp2
            go_round
            case rel => exact ⟨k + 1, true, by omega, by go_num, rfl, by rw [HON2.out]; rfl⟩
            case measure => simp [intOf]; omega
          · have h13' : ¬ ((c : Int) = 13) := by omega
            go_wp2
            go_round
            case rel =>
              have hfin : false = odd (T.take (k + 1)) := by rw [HON2.out]; simp [h10, h13]
              have HFIN := Lib.hid hfin
              clear hfin
              have e10 : ((c : Int) == 10) = false := by rw [beq_eq_false_iff_ne]; omega
              have e13 : ((c : Int) == 13) = false := by rw [beq_eq_false_iff_ne]; omega
              first | exact ⟨k + 1, false, by omega, by go_num, rfl, HFIN.out⟩ | exact ⟨k + 1, by omega, by omega, HFIN.out.symm⟩ | exact ⟨k + 1, false, by omega, by go_num, by rw [e10, e13]; rfl, HFIN.out⟩
            case measure => simp [intOf]; omega
    · have hTk : T.take k = T := List.take_of_length_le (by have := HNN.out; omega)
      have hod := HO.out
      rw [hTk] at hod
      have HOD := Lib.hid hod
      clear hTk hod
      cases b with
      | true =>
        have N2 := Lib.hid (N1.out.put (s' := { s with bad := 500 }) 8 (.int .i64 500) (fun _ _ _ _ => rfl) rfl rfl rfl rfl)
        have e1 : (w.setCell ⟨g, 8, none⟩ (.int .i64 500)).cell? ⟨g, 1, none⟩ = some (.int .i64 (s.size : Int)) := N2.out.cells.2.1
        have e8 : (w.setCell ⟨g, 8, none⟩ (.int .i64 500)).cell? ⟨g, 8, none⟩ = some (.int .i64 500) := N2.out.cells.2.2.2.2.1
        have e7 : (w.setCell ⟨g, 8, none⟩ (.int .i64 500)).cell? ⟨g, 7, none⟩ = some (.slice bx nb bc) := (World.cell?_setCell_other (h := (by simp)) ..).trans c7
        have HRR : Hid (R = { s with bad := 500 }) := by show _ = _; rw [hRR.out, if_pos HOD.out.symm]
        by_cases hC : (s.size : Int) < (nb : Int) + (N : Int) + 1
        · have hd1 : decide ((s.size : Int) < (nb : Int) + (N : Int) + 1) = true := decide_eq_true hC
          have hd2 : decide (s.size < nb + N + 1) = true := decide_eq_true (by omega)
          go_wp2_with fail
          go_big_quiet (fail)
          go_wp2
          (try simp only [Exit.inBlock, Exit.then])
          first | go_end0 | refine bodyPost_ret (results_none rfl _ _ _) rfl ?_
          rw [HRR.out]
          exact (N2.out.quiet (keep_drewN' (Keep.refl (fun _ => False) _) _)).done
        · have hd1 : decide ((s.size : Int) < (nb : Int) + (N : Int) + 1) = false := decide_eq_false (by omega)
          have hd2 : decide (s.size < nb + N + 1) = false := decide_eq_false (by omega)
          go_wp2_with fail
          go_big_quiet (fail)
          go_wp2
          (try simp only [Exit.inBlock, Exit.then])
          first | go_end0 | refine bodyPost_ret (results_none rfl _ _ _) rfl ?_
          rw [HRR.out]
          exact (N2.out.quiet (keep_drewN' (Keep.refl (fun _ => False) _) _)).done
      | false =>
        by_cases hC : (s.size : Int) < (nb : Int) + (N : Int) + 1
        · have hd1 : decide ((s.size : Int) < (nb : Int) + (N : Int) + 1) = true := decide_eq_true hC
          have hd2 : decide (s.size < nb + N + 1) = true := decide_eq_true (by omega)
          have HRR : Hid (R = { s with bad := 552 }) := by show _ = _; rw [hRR.out, if_neg (by rw [← HOD.out]; simp), if_pos (by have := HNB.out; have := HNN.out; omega)]
          go_wp2_with fail
          go_big_quiet (fail)
          have N2 := Lib.hid ((N1.out.quiet (keep_drewN' (Keep.refl (fun _ => False) w) nq)).put (s' := { s with bad := 552 }) 8 (.int .i64 552) (fun _ _ _ _ => rfl) rfl rfl rfl rfl)
          have g8 : (w.drewN nq).cell? ⟨g, 8, none⟩ = some (.int .i64 0) := c8
          have gf8 : (w.drewN nq).frozen? ⟨g, 8, none⟩ = false := f8
          have e8 : ((w.drewN nq).setCell ⟨g, 8, none⟩ (.int .i64 552)).cell? ⟨g, 8, none⟩ = some (.int .i64 552) := N2.out.cells.2.2.2.2.1
          go_wp2
          (try simp only [Exit.inBlock, Exit.then])
          first | go_end0 | refine bodyPost_ret (results_none rfl _ _ _) rfl ?_
          rw [HRR.out]
          exact N2.out.done
        · have hd1 : decide ((s.size : Int) < (nb : Int) + (N : Int) + 1) = false := decide_eq_false (by omega)
          have hd2 : decide (s.size < nb + N + 1) = false := decide_eq_false (by omega)
          have HRR : Hid (R = { s with body := s.body ++ T ++ [10] }) := by show _ = _; rw [hRR.out, if_neg (by rw [← HOD.out]; simp), if_neg (by have := HNB.out; have := HNN.out; omega)]
          go_wp2_with fail
          go_big_quiet (fail)
          have hRW := HR.out.other (w' := w.drewN nq) (keep_drewN' (Keep.refl (fun _ => False) w) nq) (fun _ _ h => h)
          have hNW := N1.out.quiet (keep_drewN' (Keep.refl (fun _ => False) w) nq)
          generalize w.drewN nq = V at hRW hNW ⊢
          have g8 := hRW.cells.2.2.2.2.2.2.2.2
          rw [hb] at g8
          have g7 := hRW.cells.2.2.2.2.2.2.2.1
          rw [← HNB.out] at g7
          have HRW := Lib.hid hRW
          have HNW := Lib.hid hNW
          have hSs : S.size = N := by rw [HSS.out, str_size, HNN.out]
          have HSZ := Lib.hid hSs
          clear hRW hNW hSs
          go_wp2_with (first
            | (refine wpList_append_bstr (by rfl) _ _ (by rfl) (.slice bx nb bc) qb s.body (by rfl) (by have := HRW.out.body; rw [← HNB.out] at this; exact this) S (by rfl) (by have := HSZ.out; have := HNB.out; omega) ?_
               intro y1 k1 c1' q1 X1 hM1 hK1 hN1
               rw [HSS.out, ns_str HTL.out] at hM1
               have HM1 := Lib.hid hM1
               have HK1 := Lib.hid hK1
               have HN1 := Lib.hid hN1
               clear hM1 hK1 hN1)
            | (refine wpList_append_mid (by rfl) _ _ (by rfl) (.slice y1 k1 c1') q1 (s.body ++ T) (by rfl) (HM1.out.keep ((Keep.refl (fun _ => False) X1).alloc _) (fun _ _ h => h)) _ (some ⟨X1.heap.size, 0, none⟩) 1 1 [10] (by rfl) rfl (one10 X1) (by have := HNB.out; have := HNN.out; simp; omega) ?_
               intro y2 k2 c2' q2 X2 hM2 hK2 hN2
               have hKX : Keep (fun k => qb = some k) V X2 := (HK1.out.alloc (.cells #[.int .u8 10] 5)).trans hK2 (fun i hi e => by
                 rcases HN1.out i e with e1 | e1
                 · exact e1
                 · omega)
               have hNX : New V qb q2 := fun b hb => by
                 rcases hN2 b hb with e1 | e1
                 · exact HN1.out b e1
                 · exact .inr (by have := HK1.out.size; simp at e1; omega)
               obtain ⟨h7, hf7, F2, hR2, hKF, hm2⟩ := HRW.out.grown hKX hM2 hNX
               have N2 := Lib.hid (show Now F w g F2 (X2.setCell ⟨g, 7, none⟩ (.slice y2 k2 c2')) { s with body := s.body ++ T ++ [10] } from ⟨⟨_, _, _, _, _, _, _, hR2⟩, keep_more HNW.out.kp hKF HNW.out.more, HNW.out.more.trans hm2 HNW.out.kp.size⟩)
               clear hM2 hK2 hN2 hKX hNX hR2 hKF hm2))
          (try simp only [Exit.inBlock, Exit.then])
          first | go_end0 | refine bodyPost_ret (results_none rfl _ _ _) rfl ?_
          rw [HRR.out]
          exact N2.out.done

end Go.Proofs.YtcjljldknekhiaaGreatDoor.Ln
