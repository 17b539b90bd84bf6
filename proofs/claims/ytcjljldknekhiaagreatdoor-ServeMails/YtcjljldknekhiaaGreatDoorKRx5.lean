/-
  What the document's own text returns and does at a line of a body, nothing being wrong so far.
-/
import Derived.Test.YtcjljldknekhiaaGreatDoorKRx4
import Derived.BigQuiet
namespace Go.Proofs.YtcjljldknekhiaaGreatDoor.Ln
open Go.RowKit
set_option linter.unusedVariables false
set_option linter.unusedSimpArgs false

set_option maxHeartbeats 4000000 in
set_option maxRecDepth 100000 in
theorem refBody_long {F : Nat → Prop} {w : World} {g : Nat} {s : Se} (h : RS F w g s) (hok : Ok s) (hb : s.bad = 0) (l : ByteArray) (hl : l.size ≤ 900000) (hE : unE (ns l) = false) (hlong : (1000 : Int) < (l.size : Int)) :
    Calls Tryz.prog 37 #[.pointer (some ⟨g, 0, none⟩), .string l] w (Did F g { s with bad := 500 } w) := by
  obtain ⟨T, hT⟩ : ∃ T, T = unT (ns l) := ⟨_, rfl⟩
  have hTl : ∀ c ∈ T, c < 256 := by
    rw [hT]
    unfold unT
    split
    · simp
    · split
      · exact fun c hc => ns_lt l c (List.mem_of_mem_drop hc)
      · exact ns_lt l
  have hTn : T.length ≤ 900000 := by
    rw [hT]
    have := ns_length l
    unfold unT
    split
    · simp
    · split
      · simp; omega
      · omega
  have hU := refUnstuff l w (by omega)
  rw [← hT, hE] at hU
  have N1 := Lib.hid (Now.start h)
  have c1 := N1.out.cells.2.1
  have c8 := N1.out.cells.2.2.2.2.1
  obtain ⟨wv, ov, rv, bv, qo, qb, xs, hR⟩ := h
  obtain ⟨bx, bc, hbv, hbc, _⟩ := hR.body.shape
  subst hbv
  have c7 := hR.cells.2.2.2.2.2.2.2.1
  have hbl := hok.body
  have hsl := hok.size
  obtain ⟨nb, hnb⟩ : ∃ n, n = s.body.length := ⟨_, rfl⟩
  obtain ⟨N, hN⟩ : ∃ n, n = T.length := ⟨_, rfl⟩
  obtain ⟨S, hS⟩ : ∃ S, S = str T := ⟨_, rfl⟩
  rw [← hnb] at c7 hbl
  rw [← hS] at hU
  rw [← hN] at hTn
  have hlen : ∀ ty w, (Builtin.len_ #[9] ty #[.string S]).run Tryz.prog w = .ok (.int .i64 (N : Int)) w := fun ty w => by rw [hS, hN, ← str_size T]; exact run_len_string w 9 ty _ Tryz.underlying9
  have HIX : Hid (∀ i, i < N → ∀ w, (Instr.index 9 (.string S) (.int .i64 (i : Int))).run Tryz.prog w = .ok (.int .u8 ((T.getD i 0 : Nat) : Int)) w) := Lib.hid (fun i hi => by rw [hS]; exact index_str hTl i (by omega))
  have HON : Hid (∀ k, k < N → odd (T.take (k + 1)) = (odd (T.take k) || (T.getD k 0 == 10 || T.getD k 0 == 13))) := Lib.hid (fun k hk => odd_next (by omega))
  have HU := Lib.hid hU
  rw [hb] at c8
  clear hR hok hU hnb hS hTl
  have f8 := N1.out.cells.2.2.2.2.2 8
  have N2 := Lib.hid (N1.out.put (s' := { s with bad := 500 }) 8 (.int .i64 500) (fun _ _ _ _ => rfl) rfl rfl rfl rfl)
  have e1 : (w.setCell ⟨g, 8, none⟩ (.int .i64 500)).cell? ⟨g, 1, none⟩ = some (.int .i64 (s.size : Int)) := N2.out.cells.2.1
  have e8 : (w.setCell ⟨g, 8, none⟩ (.int .i64 500)).cell? ⟨g, 8, none⟩ = some (.int .i64 500) := N2.out.cells.2.2.2.2.1
  have e7 : (w.setCell ⟨g, 8, none⟩ (.int .i64 500)).cell? ⟨g, 7, none⟩ = some (.slice bx nb bc) := (World.cell?_setCell_other (h := (by simp)) ..).trans c7
  clear hT hN
  go_enter Tryz.func37, Tryz.ntmps37
  go_wp2_with fail
  refine HU.out.mono ?_
  rintro e w1 ⟨rfl, hw⟩
  obtain rfl : w = w1 := hw.symm
  go_wp2
  go_loop [6, 7] (fun u z => ∃ (k : Nat) (b : Bool), k ≤ N ∧ z = .int .i64 (k : Int) ∧ u = .bool b ∧ Hid (b = odd (T.take k))) (fun _ z => N - (intOf z).toNat)
  case atStart => exact ⟨0, false, Nat.zero_le _, rfl, rfl, rfl⟩
  case round =>
    obtain ⟨k, b, hk, rfl, rfl, HO⟩ := hrel
    by_cases h1 : (k : Int) < (N : Int)
    · have hix := HIX.out k (by omega)
      have hon := HON.out k (by omega)
      obtain ⟨c, hc⟩ : ∃ c, c = T.getD k 0 := ⟨_, rfl⟩
      rw [← hc] at hix hon
      rw [← HO.out] at hon
      have HON2 := Lib.hid hon
      clear hon hc
      cases b with
      | true =>
        go_wp2
        go_round
        case rel => exact ⟨k + 1, true, by omega, by go_num, rfl, by rw [HON2.out]; rfl⟩
        case measure => simp [intOf]; omega
      | false =>
        by_cases h10 : c = 10
        · subst h10
          go_wp2
          go_round
          case rel => exact ⟨k + 1, true, by omega, by go_num, rfl, by rw [HON2.out]; rfl⟩
          case measure => simp [intOf]; omega
        · have h10' : ¬ ((c : Int) = 10) := by omega
          by_cases h13 : c = 13
          · subst h13
            go_wp2
            go_round
            case rel => exact ⟨k + 1, true, by omega, by go_num, rfl, by rw [HON2.out]; rfl⟩
            case measure => simp [intOf]; omega
          · have h13' : ¬ ((c : Int) = 13) := by omega
            go_wp2
            go_round
            case rel =>
              have hfin : false = odd (T.take (k + 1)) := by rw [HON2.out]; simp [h10, h13]
              have HFIN := Lib.hid hfin
              clear hfin
              have e10 : ((c : Int) == 10) = false := by rw [beq_eq_false_iff_ne]; omega
              have e13 : ((c : Int) == 13) = false := by rw [beq_eq_false_iff_ne]; omega
              first | exact ⟨k + 1, false, by omega, by go_num, rfl, HFIN.out⟩ | exact ⟨k + 1, by omega, by omega, HFIN.out.symm⟩ | exact ⟨k + 1, false, by omega, by go_num, by rw [e10, e13]; rfl, HFIN.out⟩
            case measure => simp [intOf]; omega
    · cases b with
      | true =>
        by_cases hC : (s.size : Int) < (nb : Int) + (N : Int) + 1
        · have hd1 : decide ((s.size : Int) < (nb : Int) + (N : Int) + 1) = true := decide_eq_true hC
          have hd2 : decide (s.size < nb + N + 1) = true := decide_eq_true (by omega)
          go_wp2_with fail
          go_big_quiet (fail)
          go_wp2
          (try simp only [Exit.inBlock, Exit.then])
          first | go_end0 | refine bodyPost_ret (results_none rfl _ _ _) rfl ?_
          exact (N2.out.quiet (keep_drewN' (Keep.refl (fun _ => False) _) _)).done
        · have hd1 : decide ((s.size : Int) < (nb : Int) + (N : Int) + 1) = false := decide_eq_false (by omega)
          have hd2 : decide (s.size < nb + N + 1) = false := decide_eq_false (by omega)
          go_wp2_with fail
          go_big_quiet (fail)
          go_wp2
          (try simp only [Exit.inBlock, Exit.then])
          first | go_end0 | refine bodyPost_ret (results_none rfl _ _ _) rfl ?_
          exact (N2.out.quiet (keep_drewN' (Keep.refl (fun _ => False) _) _)).done
      | false =>
        by_cases hC : (s.size : Int) < (nb : Int) + (N : Int) + 1
        · have hd1 : decide ((s.size : Int) < (nb : Int) + (N : Int) + 1) = true := decide_eq_true hC
          have hd2 : decide (s.size < nb + N + 1) = true := decide_eq_true (by omega)
          go_wp2_with fail
          go_big_quiet (fail)
          go_wp2
          (try simp only [Exit.inBlock, Exit.then])
          first | go_end0 | refine bodyPost_ret (results_none rfl _ _ _) rfl ?_
          exact (N2.out.quiet (keep_drewN' (Keep.refl (fun _ => False) _) _)).done
        · have hd1 : decide ((s.size : Int) < (nb : Int) + (N : Int) + 1) = false := decide_eq_false (by omega)
          have hd2 : decide (s.size < nb + N + 1) = false := decide_eq_false (by omega)
          go_wp2_with fail
          go_big_quiet (fail)
          go_wp2
          (try simp only [Exit.inBlock, Exit.then])
          first | go_end0 | refine bodyPost_ret (results_none rfl _ _ _) rfl ?_
          exact (N2.out.quiet (keep_drewN' (Keep.refl (fun _ => False) _) _)).done

end Go.Proofs.YtcjljldknekhiaaGreatDoor.Ln
