/-
  What the document's own text returns and does at a line of a body.
-/
import Derived.Test.YtcjljldknekhiaaGreatDoorKRx1
import Derived.BigQuiet
namespace Go.Proofs.YtcjljldknekhiaaGreatDoor.Ln
open Go.RowKit
set_option linter.unusedVariables false
set_option linter.unusedSimpArgs false

theorem index_str {T : List Nat} (hT : ∀ c ∈ T, c < 256) (i : Nat) (hi : i < T.length) : ∀ w, (Instr.index 9 (.string (str T)) (.int .i64 (i : Int))).run Tryz.prog w = .ok (.int .u8 ((T.getD i 0 : Nat) : Int)) w := by
  intro w
  have hsz : i < (str T).size := by rw [str_size]; exact hi
  have h1 : (0 : Int) ≤ (i : Int) ∧ (i : Int) < ((str T).size : Int) := by omega
  have e : (((str T)[i]'hsz).toNat : Nat) = T.getD i 0 := by
    have hd : i < (str T).data.size := hsz
    have hn := ns_str hT
    have : (ns (str T)).getD i 0 = T.getD i 0 := by rw [hn]
    rw [← this]
    simp [ns, ByteArray.getElem_eq_getElem_data, Array.getElem?_eq_getElem hd]
  rw [run_index_string w 9 (str T) .i64 (i : Int) Tryz.underlying9, dif_pos h1, ← e]
  simp
theorem keep_drewN' {S : Nat → Prop} {a w : World} (h : Keep S a w) (n : Nat) : Keep S a (w.drewN n) := ⟨h.os, h.tape, h.output, h.size, h.block⟩
theorem odd_next {T : List Nat} {k : Nat} (hk : k < T.length) : odd (T.take (k + 1)) = (odd (T.take k) || (T.getD k 0 == 10 || T.getD k 0 == 13)) := by
  have e : T.getD k 0 = T[k] := by simp [hk]
  rw [odd, List.take_succ_eq_append_getElem hk, List.any_append, e]
  simp [odd]

set_option maxHeartbeats 4000000 in
set_option maxRecDepth 100000 in
/-- Something is wrong already. -/
theorem refBody_off {F : Nat → Prop} {w : World} {g : Nat} {s : Se} (h : RS F w g s) (hok : Ok s) (hb : 0 < s.bad) (l : ByteArray) (hl : l.size ≤ 900000) (hE : unE (ns l) = false) :
    Calls Tryz.prog 37 #[.pointer (some ⟨g, 0, none⟩), .string l] w (Did F g s w) := by
  obtain ⟨T, hT⟩ : ∃ T, T = unT (ns l) := ⟨_, rfl⟩
  have hTl : ∀ c ∈ T, c < 256 := by
    rw [hT]
    unfold unT
    split
    · simp
    · split
      · exact fun c hc => ns_lt l c (List.mem_of_mem_drop hc)
      · exact ns_lt l
  have hTn : T.length ≤ 900000 := by
    rw [hT]
    have := ns_length l
    unfold unT
    split
    · simp
    · split
      · simp; omega
      · omega
  have hU := refUnstuff l w (by omega)
  rw [← hT, hE] at hU
  have N1 := Lib.hid (Now.start h)
  have c1 := N1.out.cells.2.1
  have c8 := N1.out.cells.2.2.2.2.1
  obtain ⟨wv, ov, rv, bv, qo, qb, xs, hR⟩ := h
  obtain ⟨bx, bc, hbv, hbc, _⟩ := hR.body.shape
  subst hbv
  have c7 := hR.cells.2.2.2.2.2.2.2.1
  have hbl := hok.body
  have hsl := hok.size
  obtain ⟨nb, hnb⟩ : ∃ n, n = s.body.length := ⟨_, rfl⟩
  obtain ⟨N, hN⟩ : ∃ n, n = T.length := ⟨_, rfl⟩
  obtain ⟨S, hS⟩ : ∃ S, S = str T := ⟨_, rfl⟩
  rw [← hnb] at c7 hbl
  rw [← hS] at hU
  rw [← hN] at hTn
  have hlen : ∀ ty w, (Builtin.len_ #[9] ty #[.string S]).run Tryz.prog w = .ok (.int .i64 (N : Int)) w := fun ty w => by rw [hS, hN, ← str_size T]; exact run_len_string w 9 ty _ Tryz.underlying9
  have HIX : Hid (∀ i, i < N → ∀ w, (Instr.index 9 (.string S) (.int .i64 (i : Int))).run Tryz.prog w = .ok (.int .u8 ((T.getD i 0 : Nat) : Int)) w) := Lib.hid (fun i hi => by rw [hS]; exact index_str hTl i (by omega))
  have HON : Hid (∀ k, k < N → odd (T.take (k + 1)) = (odd (T.take k) || (T.getD k 0 == 10 || T.getD k 0 == 13))) := Lib.hid (fun k hk => odd_next (by omega))
  have HU := Lib.hid hU
  obtain ⟨m, hm⟩ : ∃ m, m = s.bad := ⟨_, rfl⟩
  rw [← hm] at c8 hb
  have hm' : ¬ ((m : Int) = 0) := by omega
  clear hR hok hU hT hnb hN hS hm hTl
  by_cases hlong : (1000 : Int) < (l.size : Int)
  · go_enter Tryz.func37, Tryz.ntmps37
    go_wp2_with fail
    refine HU.out.mono ?_
    rintro e w1 ⟨rfl, hw⟩
    obtain rfl : w = w1 := hw.symm
    go_wp2
    go_loop [6, 7] (fun u z => ∃ (k : Nat) (b : Bool), k ≤ N ∧ z = .int .i64 (k : Int) ∧ u = .bool b ∧ Hid (b = odd (T.take k))) (fun _ z => N - (intOf z).toNat)
    case atStart => exact ⟨0, false, Nat.zero_le _, rfl, rfl, rfl⟩
    case round =>
      obtain ⟨k, b, hk, rfl, rfl, HO⟩ := hrel
      by_cases h1 : (k : Int) < (N : Int)
      · have hix := HIX.out k (by omega)
        have hon := HON.out k (by omega)
        obtain ⟨c, hc⟩ : ∃ c, c = T.getD k 0 := ⟨_, rfl⟩
        rw [← hc] at hix hon
        rw [← HO.out] at hon
        have HON2 := Lib.hid hon
        clear hon hc
        cases b with
        | true =>
          go_wp2
          go_round
          case rel => exact ⟨k + 1, true, by omega, by go_num, rfl, by rw [HON2.out]; rfl⟩
          case measure => simp [intOf]; omega
        | false =>
          by_cases h10 : c = 10
          · subst h10
            go_wp2
            go_round
            case rel => exact ⟨k + 1, true, by omega, by go_num, rfl, by rw [HON2.out]; rfl⟩
            case measure => simp [intOf]; omega
          · have h10' : ¬ ((c : Int) = 10) := by omega
            by_cases h13 : c = 13
            · subst h13
              go_wp2
              go_round
              case rel => exact ⟨k + 1, true, by omega, by go_num, rfl, by rw [HON2.out]; rfl⟩
              case measure => simp [intOf]; omega
            · have h13' : ¬ ((c : Int) = 13) := by omega
              go_wp2
              go_round
              case rel =>
                have hfin : false = odd (T.take (k + 1)) := by rw [HON2.out]; simp [h10, h13]
                have HFIN := Lib.hid hfin
                clear hfin
                have e10 : ((c : Int) == 10) = false := by rw [beq_eq_false_iff_ne]; omega
                have e13 : ((c : Int) == 13) = false := by rw [beq_eq_false_iff_ne]; omega
                first | exact ⟨k + 1, false, by omega, by go_num, rfl, HFIN.out⟩ | exact ⟨k + 1, by omega, by omega, HFIN.out.symm⟩ | exact ⟨k + 1, false, by omega, by go_num, by rw [e10, e13]; rfl, HFIN.out⟩
              case measure => simp [intOf]; omega
      · cases b with
        | true =>
          by_cases hC : (s.size : Int) < (nb : Int) + (N : Int) + 1
          · have hd1 : decide ((s.size : Int) < (nb : Int) + (N : Int) + 1) = true := decide_eq_true hC
            have hd2 : decide (s.size < nb + N + 1) = true := decide_eq_true (by omega)
            go_wp2_with fail
            go_big_quiet (fail)
            go_wp2
            (try simp only [Exit.inBlock, Exit.then])
            first | go_end0 | refine bodyPost_ret (results_none rfl _ _ _) rfl ?_
            exact (N1.out.quiet (keep_drewN' (Keep.refl (fun _ => False) _) _)).done
          · have hd1 : decide ((s.size : Int) < (nb : Int) + (N : Int) + 1) = false := decide_eq_false (by omega)
            have hd2 : decide (s.size < nb + N + 1) = false := decide_eq_false (by omega)
            go_wp2_with fail
            go_big_quiet (fail)
            go_wp2
            (try simp only [Exit.inBlock, Exit.then])
            first | go_end0 | refine bodyPost_ret (results_none rfl _ _ _) rfl ?_
            exact (N1.out.quiet (keep_drewN' (Keep.refl (fun _ => False) _) _)).done
        | false =>
          by_cases hC : (s.size : Int) < (nb : Int) + (N : Int) + 1
          · have hd1 : decide ((s.size : Int) < (nb : Int) + (N : Int) + 1) = true := decide_eq_true hC
            have hd2 : decide (s.size < nb + N + 1) = true := decide_eq_true (by omega)
            go_wp2_with fail
            go_big_quiet (fail)
            go_wp2
            (try simp only [Exit.inBlock, Exit.then])
            first | go_end0 | refine bodyPost_ret (results_none rfl _ _ _) rfl ?_
            exact (N1.out.quiet (keep_drewN' (Keep.refl (fun _ => False) _) _)).done
          · have hd1 : decide ((s.size : Int) < (nb : Int) + (N : Int) + 1) = false := decide_eq_false (by omega)
            have hd2 : decide (s.size < nb + N + 1) = false := decide_eq_false (by omega)
            go_wp2_with fail
            go_big_quiet (fail)
            go_wp2
            (try simp only [Exit.inBlock, Exit.then])
            first | go_end0 | refine bodyPost_ret (results_none rfl _ _ _) rfl ?_
            exact (N1.out.quiet (keep_drewN' (Keep.refl (fun _ => False) _) _)).done
  · go_enter Tryz.func37, Tryz.ntmps37
    go_wp2_with fail
    refine HU.out.mono ?_
    rintro e w1 ⟨rfl, hw⟩
    obtain rfl : w = w1 := hw.symm
    go_wp2
    go_loop [6, 7] (fun u z => ∃ (k : Nat) (b : Bool), k ≤ N ∧ z = .int .i64 (k : Int) ∧ u = .bool b ∧ Hid (b = odd (T.take k))) (fun _ z => N - (intOf z).toNat)
    case atStart => exact ⟨0, false, Nat.zero_le _, rfl, rfl, rfl⟩
    case round =>
      obtain ⟨k, b, hk, rfl, rfl, HO⟩ := hrel
      by_cases h1 : (k : Int) < (N : Int)
      · have hix := HIX.out k (by omega)
        have hon := HON.out k (by omega)
        obtain ⟨c, hc⟩ : ∃ c, c = T.getD k 0 := ⟨_, rfl⟩
        rw [← hc] at hix hon
        rw [← HO.out] at hon
        have HON2 := Lib.hid hon
        clear hon hc
        cases b with
        | true =>
          go_wp2
          go_round
          case rel => exact ⟨k + 1, true, by omega, by go_num, rfl, by rw [HON2.out]; rfl⟩
          case measure => simp [intOf]; omega
        | false =>
          by_cases h10 : c = 10
          · subst h10
            go_wp2
            go_round
            case rel => exact ⟨k + 1, true, by omega, by go_num, rfl, by rw [HON2.out]; rfl⟩
            case measure => simp [intOf]; omega
          · have h10' : ¬ ((c : Int) = 10) := by omega
            by_cases h13 : c = 13
            · subst h13
              go_wp2
              go_round
              case rel => exact ⟨k + 1, true, by omega, by go_num, rfl, by rw [HON2.out]; rfl⟩
              case measure => simp [intOf]; omega
            · have h13' : ¬ ((c : Int) = 13) := by omega
              go_wp2
              go_round
              case rel =>
                have hfin : false = odd (T.take (k + 1)) := by rw [HON2.out]; simp [h10, h13]
                have HFIN := Lib.hid hfin
                clear hfin
                have e10 : ((c : Int) == 10) = false := by rw [beq_eq_false_iff_ne]; omega
                have e13 : ((c : Int) == 13) = false := by rw [beq_eq_false_iff_ne]; omega
                first | exact ⟨k + 1, false, by omega, by go_num, rfl, HFIN.out⟩ | exact ⟨k + 1, by omega, by omega, HFIN.out.symm⟩ | exact ⟨k + 1, false, by omega, by go_num, by rw [e10, e13]; rfl, HFIN.out⟩
              case measure => simp [intOf]; omega
      · cases b with
        | true =>
          by_cases hC : (s.size : Int) < (nb : Int) + (N : Int) + 1
          · have hd1 : decide ((s.size : Int) < (nb : Int) + (N : Int) + 1) = true := decide_eq_true hC
            have hd2 : decide (s.size < nb + N + 1) = true := decide_eq_true (by omega)
            go_wp2_with fail
            go_big_quiet (fail)
            go_wp2
            (try simp only [Exit.inBlock, Exit.then])
            first | go_end0 | refine bodyPost_ret (results_none rfl _ _ _) rfl ?_
            exact (N1.out.quiet (keep_drewN' (Keep.refl (fun _ => False) _) _)).done
          · have hd1 : decide ((s.size : Int) < (nb : Int) + (N : Int) + 1) = false := decide_eq_false (by omega)
            have hd2 : decide (s.size < nb + N + 1) = false := decide_eq_false (by omega)
            go_wp2_with fail
            go_big_quiet (fail)
            go_wp2
            (try simp only [Exit.inBlock, Exit.then])
            first | go_end0 | refine bodyPost_ret (results_none rfl _ _ _) rfl ?_
            exact (N1.out.quiet (keep_drewN' (Keep.refl (fun _ => False) _) _)).done
        | false =>
          by_cases hC : (s.size : Int) < (nb : Int) + (N : Int) + 1
          · have hd1 : decide ((s.size : Int) < (nb : Int) + (N : Int) + 1) = true := decide_eq_true hC
            have hd2 : decide (s.size < nb + N + 1) = true := decide_eq_true (by omega)
            go_wp2_with fail
            go_big_quiet (fail)
            go_wp2
            (try simp only [Exit.inBlock, Exit.then])
            first | go_end0 | refine bodyPost_ret (results_none rfl _ _ _) rfl ?_
            exact (N1.out.quiet (keep_drewN' (Keep.refl (fun _ => False) _) _)).done
          · have hd1 : decide ((s.size : Int) < (nb : Int) + (N : Int) + 1) = false := decide_eq_false (by omega)
            have hd2 : decide (s.size < nb + N + 1) = false := decide_eq_false (by omega)
            go_wp2_with fail
            go_big_quiet (fail)
            go_wp2
            (try simp only [Exit.inBlock, Exit.then])
            first | go_end0 | refine bodyPost_ret (results_none rfl _ _ _) rfl ?_
            exact (N1.out.quiet (keep_drewN' (Keep.refl (fun _ => False) _) _)).done
end Go.Proofs.YtcjljldknekhiaaGreatDoor.Ln
