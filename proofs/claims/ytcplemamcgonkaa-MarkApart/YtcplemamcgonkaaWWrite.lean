/-
  What the program's '(*Writer).Num', 'Bytes' and 'Out' return and leave behind, for every writer, every number and all bytes.
-/
import Derived.Test.YtcplemamcgonkaaWTake
import Derived.Deep.RegionHeld3
import Derived.Deep.RegionLaw
import Derived.IntWalk
namespace Go.Proofs.Ytcplemamcgonkaa.Ln
open Go.RowKit

/-- The writer in block p has put that (none: a number was amiss); its row lies in block q. -/
def Wr (w : World) (p : Nat) (q : Option Nat) : Option (List Nat) → Prop
  | none => q = none ∧ At w p 46 #[.slice none 0 0, .bool true]
  | some bs => ∃ x n cap, n = bs.length ∧ (Value.slice x n cap).ownBlock = q ∧ At w p 46 #[.slice x n cap, .bool false] ∧ Own w (.slice x n cap) bs
theorem Wr.keep {S : Nat → Prop} {w w' : World} {p : Nat} {q : Option Nat} {s : Option (List Nat)} (h : Wr w p q s) (k : Keep S w w') (hp : ¬ S p) (hs : ∀ b, q = some b → ¬ S b) : Wr w' p q s := by
  rcases s with _ | bs
  · exact ⟨h.1, h.2.keep k hp⟩
  · obtain ⟨x, n, cap, h1, h2, h3, h4⟩ := h
    exact ⟨x, n, cap, h1, h2, h3.keep k hp, h4.keep k (fun b hb => hs b (h2 ▸ hb))⟩
theorem Wr.at {w : World} {p : Nat} {q : Option Nat} {s : Option (List Nat)} (h : Wr w p q s) : ∃ cs, At w p 46 cs := by
  rcases s with _ | bs
  · exact ⟨_, h.2⟩
  · obtain ⟨x, n, cap, _, _, h, _⟩ := h
    exact ⟨_, h⟩
theorem Wr.lt {w : World} {p : Nat} {q : Option Nat} {s : Option (List Nat)} (h : Wr w p q s) : ∀ b, q = some b → b < w.heap.size := by
  intro b hb
  rcases s with _ | bs
  · rw [h.1] at hb; cases hb
  · obtain ⟨x, n, cap, _, h2, _, h4⟩ := h
    exact h4.lt b (h2.trans hb)
/-- What a call that puts leaves behind. -/
def WrP (p : Nat) (q : Option Nat) (s : Option (List Nat)) (w : World) (e : Ending) (w' : World) : Prop :=
  ∃ q', e = .returned (.tuple #[]) ∧ Wr w' p q' s ∧ Keep (fun k => k = p ∨ q = some k) w w' ∧ New w q q'

/-- What a number makes of what was put. -/
def putNum (s : Option (List Nat)) (n : Int) : Option (List Nat) := if 0 ≤ n ∧ n ≤ 4611686018427387904 then s.map (· ++ num8 n.toNat) else none
def putBytes (s : Option (List Nat)) (bs : List Nat) : Option (List Nat) := s.map (· ++ enc bs)

/-- The byte that round k puts: how the shift is reckoned. -/
theorem shr_dig (n k : Nat) (hk : k < 8) : ∃ S M d : Nat, S ≤ 64 ∧ IntKind.i64.wrap (8 * IntKind.i64.wrap (7 - (k : Int))) = (S : Int) ∧ (n : Int) / 2 ^ S = (M : Int) ∧ IntKind.u8.wrap (M : Int) = (d : Int) ∧ (M : Int) % 256 = (d : Int) ∧ d = dig n k := by
  refine ⟨8 * (7 - k), n / 2 ^ (8 * (7 - k)), dig n k, by omega, ?_, rfl, ?_, rfl, rfl⟩
  · rw [IntWalk.i64_in (7 - (k : Int)) (by omega), IntWalk.i64_in _ (by omega)]
    omega
  · simp only [IntKind.wrap, IntKind.bits, IntKind.signed, dig]
    simp

set_option maxHeartbeats 1000000 in
theorem wNum_loop (p : Nat) (q : Option Nat) (bs : List Nat) (n : Nat) (hn : n ≤ 4611686018427387904) (hl : bs.length + 8 ≤ 1099511627776) (w : World) (h : Wr w p q (some bs)) :
    Calls Try.prog 21 #[.pointer (some ⟨p, 0, none⟩), .int .i64 (n : Int)] w (WrP p q (some (bs ++ num8 n)) w) := by
  obtain ⟨x0, n0, cap0, hn0, hq0, hA, hO⟩ := h
  have c0 := hA.cell 0
  have c1 := hA.cell 1
  simp at c0 c1
  have H : Hid (Wr w p q (some bs)) := ⟨x0, n0, cap0, hn0, hq0, hA, hO⟩
  clear hn0 hq0 hA hO
  have b0 : ¬ ((n : Int) < 0) := by omega
  have b1 : ¬ ((4611686018427387904 : Int) < (n : Int)) := by omega
  go_enter Try.func21, Try.ntmps21
  go_wp2
  go_loopw [25] (fun i wr => ∃ (k : Nat) (q' : Option Nat), k ≤ 8 ∧ i = .int .i64 (k : Int) ∧ Hid (Wr wr p q' (some (bs ++ (num8 n).take k))) ∧ Keep (fun k => k = p ∨ q = some k) w wr ∧ New w q q') (fun i _ => 8 - (intOf i).toNat)
  case atStart => exact ⟨0, q, by omega, rfl, by simpa using H, Keep.refl _ _, New.refl _ _⟩
  case round =>
    obtain ⟨k, q', hk8, rfl, HW, hk, hnew⟩ := hrel
    by_cases hlt : (k : Int) < 8
    · obtain ⟨x, m, cap, hm, hq, hA, hO⟩ := HW.out
      have d0 := hA.cell 0
      have f0 := hA.frozen 0
      simp at d0
      have HA := Lib.hid hA
      have HO := Lib.hid hO
      have HM := Lib.hid hm
      have HQ := Lib.hid hq
      have hplt := hA.lt
      have hne := hO.ne hA (by decide)
      have HNE := Lib.hid hne
      clear hA hO hm hq hne HW c0 c1
      have k0 : (0 : Int) ≤ (k : Int) := by omega
      obtain ⟨S, M, d, hS, e8, eM, eu, em, hd⟩ := shr_dig n k (by omega)
      have HD := Lib.hid hd
      clear hd
      have s0 : (0 : Int) ≤ (S : Int) := by omega
      have s1 : (S : Int) ≤ 64 := by omega
      go_wp2
      go_region_law
        ((refine step_append_bytes (by rfl) (.tmp 32) (.tmp 39) (by rfl) (.slice x m cap) (bs ++ (num8 n).take k) (by rfl) (HO.out.keep (w' := (wr.alloc (.cells #[.int .u8 (d : Int)] 5)).drew) (((Keep.refl (fun _ => False) wr).alloc _).drew) (fun _ _ h => h))
              (fun b => b = wr.heap.size) (some ⟨wr.heap.size, 0, none⟩) 1 1 [d] (by rfl) rfl (Bytes.of_at (At.new wr 5 _).drew (by simp; rw [HD.out]; exact dig_lt _ _)) (by simp; omega) ?_
          ; intro y n1 cap1 w1 hn1 hown hkeep hnw; have hA1 := ((HA.out.alloc _).drew).keep hkeep HNE.out; have d1 := hA1.cell 0; have f1 := hA1.frozen 0; simp at d1; have HA1 := Lib.hid hA1; clear hA1; have HK1 := Lib.hid hkeep; have HO1 := Lib.hid hown; have HW1 := Lib.hid hnw; clear hkeep hown hnw))
      all_goals
        go_wp2
        go_roundw
        case rel =>
          refine ⟨k + 1, (Value.slice y n1 cap1).ownBlock, by omega, by go_num, ?_, ?_, ?_⟩
          · have e : bs ++ (num8 n).take (k + 1) = bs ++ (num8 n).take k ++ [d] := by rw [take_num8_succ n k (by omega), HD.out, List.append_assoc]
            have hO2 := HO1.out.keep ((Keep.refl (fun b => b = p) w1).setCell (p := ⟨p, 0, none⟩) (fun _ => rfl) (Value.slice y n1 cap1)) (fun b hb e => HO1.out.ne HA1.out (by decide) (e ▸ hb))
            show Wr _ p _ (some _)
            rw [e]
            exact ⟨y, n1, cap1, hn1.out, rfl, HA1.out.put 0 _, hO2⟩
          · have hk1 : Keep (fun b => b = p ∨ q' = some b) wr w1 := (((Keep.refl (fun b => b = p ∨ q' = some b) wr).alloc _).drew).trans HK1.out (fun b _ hb => .inr (HQ.out ▸ hb))
            refine (hk.trans hk1 ?_).setCell (p := ⟨p, 0, none⟩) (fun _ => .inl rfl) _
            intro b hb h
            rcases h with h | h
            · exact .inl h
            · rcases hnew b h with h | h
              · exact .inr h
              · omega
          · refine hnew.trans (b := (wr.alloc (.cells #[.int .u8 (d : Int)] 5)).drew) (HQ.out ▸ HW1.out) ?_
            have := hk.size
            simp
            omega
        case measure => simp [intOf]; omega
    · have hk8' : k = 8 := by omega
      subst hk8'
      go_wp2
      go_end0
      refine ⟨q', rfl, ?_, hk, hnew⟩
      have := HW.out
      rw [take_num8_all] at this
      exact this

set_option maxHeartbeats 1000000 in
theorem wNum (p : Nat) (q : Option Nat) (s : Option (List Nat)) (n : Int) (hl : (s.getD []).length + 8 ≤ 1099511627776) (w : World) (h : Wr w p q s) :
    Calls Try.prog 21 #[.pointer (some ⟨p, 0, none⟩), .int .i64 n] w (WrP p q (putNum s n) w) := by
  rcases s with _ | bs
  · have hA : At w p 46 #[.slice none 0 0, .bool true] := h.2
    have c0 := hA.cell 0
    have c1 := hA.cell 1
    simp at c0 c1
    have H := Lib.hid h
    clear h hA
    go_enter Try.func21, Try.ntmps21
    go_wp2
    refine bodyPost_ret (results_none rfl _ _ _) rfl ?_
    refine ⟨q, rfl, ?_, Keep.refl _ _, New.refl _ _⟩
    have e : putNum none n = none := by simp [putNum]
    rw [e]
    exact H.out
  · by_cases hn : 0 ≤ n ∧ n ≤ 4611686018427387904
    · obtain ⟨N, rfl⟩ := Int.eq_ofNat_of_zero_le hn.1
      have e : putNum (some bs) (N : Int) = some (bs ++ num8 N) := by simp only [putNum, if_pos hn]; rfl
      rw [e]
      exact wNum_loop p q bs N (by omega) hl w h
    · have e : putNum (some bs) n = none := by simp only [putNum, if_neg hn]
      obtain ⟨x, m, cap, hm, hq, hA, hO⟩ := h
      have c0 := hA.cell 0
      have c1 := hA.cell 1
      have f0 := hA.frozen 0
      have f1 := hA.frozen 1
      simp at c0 c1
      have HA := Lib.hid hA
      have HE := Lib.hid e
      clear hA hO hm hq e
      have fin : WrP p q (putNum (some bs) n) w (.returned (.tuple #[])) ((w.setCell ⟨p, 0, none⟩ (.slice none 0 0)).setCell ⟨p, 1, none⟩ (.bool true)) := by
        refine ⟨none, rfl, ?_, ((Keep.refl _ w).setCell (p := ⟨p, 0, none⟩) (fun _ => .inl rfl) _).setCell (p := ⟨p, 1, none⟩) (fun _ => .inl rfl) _, New.none _ _⟩
        rw [HE.out]
        exact ⟨rfl, (HA.out.put 0 (.slice none 0 0)).put 1 (.bool true)⟩
      have FIN := Lib.hid fin
      clear fin
      by_cases h0 : n < 0
      · go_enter Try.func21, Try.ntmps21
        go_wp2
        refine bodyPost_ret (results_none rfl _ _ _) rfl ?_
        exact FIN.out
      · have h1 : (4611686018427387904 : Int) < n := by omega
        go_enter Try.func21, Try.ntmps21
        go_wp2
        refine bodyPost_ret (results_none rfl _ _ _) rfl ?_
        exact FIN.out
set_option maxHeartbeats 400000 in
theorem wNumNil (n : Int) (w : World) : Calls Try.prog 21 #[.pointer none, .int .i64 n] w fun e w' => e = .returned (.tuple #[]) ∧ w = w' := by
  go_enter Try.func21, Try.ntmps21
  go_wp2
  refine bodyPost_ret (results_none rfl _ _ _) rfl ?_
  exact ⟨rfl, rfl⟩

end Go.Proofs.Ytcplemamcgonkaa.Ln
