/-
  What the program's 'Read', '(*Reader).Num' and '(*Reader).Bytes' return, for every reader and all bytes.
-/
import Derived.Test.YtcplemamcgonkaaWTake
namespace Go.Proofs.Ytcplemamcgonkaa.Ln
open Go.RowKit

/-- What 'Read' answers: a reader of its own, with a copy of its own. -/
def ReadP (bs : List Nat) (w : World) (e : Ending) (w' : World) : Prop :=
  ∃ p g, e = .returned (.pointer (some ⟨p, 0, none⟩)) ∧ w.heap.size ≤ p ∧ w.heap.size ≤ g ∧ g ≠ p ∧ Rd (· = g) w' p (some bs) ∧ Keep (fun _ => False) w w' ∧ g < w'.heap.size

set_option maxHeartbeats 1000000 in
theorem read (P : Nat → Prop) (x : Option Addr) (n cap : Nat) (bs : List Nat) (hn : bs.length = n) (hl : n ≤ 1099511627776) (w : World) (h : Bytes P w x bs) :
    Calls Try.prog 34 #[.slice x n cap] w (ReadP bs w) := by
  have HB := Lib.hid h
  have HN := Lib.hid hn
  clear h hn
  go_enter Try.func34, Try.ntmps34
  go_wp2_with (go_at_call 30; refine (copied P x n cap bs HN.out hl w HB.out).mono ?_; rintro e w1 ⟨g, m, hm, hg, rfl, hat, hk⟩; have HM := Lib.hid hm; clear hm)
  go_ret
  have hlt := hat.lt
  refine ⟨w1.heap.size, g, rfl, hk.size, hg, by omega, ⟨some ⟨g, 0, none⟩, ?_, (Bytes.of_at (hat.alloc _) HB.out.1)⟩, hk.alloc _, by simp; omega⟩
  rw [← HM.out]
  exact At.new w1 72 _

theorem shl8 (X : Nat) (h : X < 72057594037927936) : IntKind.u64.wrap ((X : Int) * 256) = ((X * 256 : Nat) : Int) := by
  simp only [IntKind.wrap, IntKind.bits, IntKind.signed]
  simp
  omega
theorem or8 (X c : Nat) (h : X < 72057594037927936) (hc : c < 256) : bits .or .u64 ((X : Int) * 256) (c : Int) = ((X * 256 + c : Nat) : Int) := by
  have := u64_or_nat (X * 256) c (by omega) (by omega)
  rw [or_low X c hc] at this
  rw [← this]
  rfl

/-- What 'Num' answers. -/
def NumP (P : Nat → Prop) (p : Nat) (s : Option (List Nat)) (w : World) (e : Ending) (w' : World) : Prop :=
  e = .returned (.tuple #[.int .i64 ((numV s : Nat) : Int), .bool (numOk s)]) ∧ Rd P w' p (numS s) ∧ Keep (· = p) w w'

set_option maxHeartbeats 1000000 in
theorem num (P : Nat → Prop) (p : Nat) (hP : ¬ P p) (s : Option (List Nat)) (w : World) (h : Rd P w p s) :
    Calls Try.prog 35 #[.pointer (some ⟨p, 0, none⟩)] w (NumP P p s w) := by
  have H := Lib.hid h
  clear h
  cases hok : takeOk 8 s with
  | false =>
    have HN : Hid (numOk s = false) := by show _ = _; simp [numOk, hok]
    go_enter Try.func35, Try.ntmps35
    go_wp2_with (go_at_call 38; refine (take P p hP 8 s w H.out).mono ?_; rintro e w1 ⟨x, m, hm, rfl, hB, hR, hk⟩; have HM := Lib.hid hm; clear hm)
    go_ret2
    refine ⟨?_, ?_, hk⟩
    · rw [numV_no HN.out, HN.out]; rfl
    · rw [numS_no HN.out, ← takeS_no hok]; exact hR
  | true =>
    obtain ⟨bs, rfl, h8⟩ : ∃ bs, s = some bs ∧ 8 ≤ bs.length := by
      rcases s with _ | bs
      · cases hok
      · exact ⟨bs, rfl, by simpa [takeOk] using hok⟩
    have HV : Hid (takeV 8 (some bs) = bs.take 8) := takeV_ok h8
    have HS : Hid (takeS 8 (some bs) = some (bs.drop 8)) := takeS_ok h8
    have H8 := Lib.hid h8
    clear h8
    go_enter Try.func35, Try.ntmps35
    go_wp2_with (go_at_call 38; refine (take P p hP 8 (some bs) w H.out).mono ?_; rintro e w1 ⟨x, m, hm, rfl, hB, hR, hk⟩; obtain rfl : m = 8 := (by rw [hm, HV.out]; have := H8.out; simp; omega); clear hm; have HB := Lib.hid hB; have HR := Lib.hid hR; clear hB hR)
    obtain ⟨V, hV⟩ : ∃ V, V = bs.take 8 := ⟨_, rfl⟩
    have HVb : Hid (∀ c ∈ V, c < 256) := by show ∀ c ∈ V, c < 256; have := HB.out.1; rw [HV.out, ← hV] at this; exact this
    have HVl : Hid (V.length = 8) := by show V.length = 8; have := H8.out; rw [hV]; simp; omega
    have HBV : Hid (Bytes P w1 x V) := by show Bytes P w1 x V; have := HB.out; rw [HV.out, ← hV] at this; exact this
    have HVd := Lib.hid hV
    clear hV
    go_loop [6, 15] (fun t i => ∃ k X : Nat, k ≤ 8 ∧ X < 18446744073709551616 ∧ i = .int .i64 (k : Int) ∧ t = .int .u64 (X : Int) ∧ Hid (X = val (V.take k))) (fun _ i => 8 - (intOf i).toNat)
    case atStart => exact ⟨0, 0, by omega, by omega, rfl, rfl, rfl⟩
    case round =>
      obtain ⟨k, X, hk8, hX, rfl, rfl, HX⟩ := hrel
      by_cases hlt : (k : Int) < 8
      · have hXs : X < 72057594037927936 := by rw [HX.out]; exact val_take_small V HVb.out k (by omega)
        obtain ⟨b, off, _, rfl, hcell⟩ := HBV.out.at k (by rw [HVl.out]; omega)
        obtain ⟨c, hc⟩ : ∃ c, c = V.getD k 0 := ⟨_, rfl⟩
        rw [← hc] at hcell
        have hcl : c < 256 := by rw [hc]; exact getD_lt HVb.out k (by rw [HVl.out]; omega)
        have e1 := shl8 X hXs
        have E2 := Lib.hid (or8 X c hXs hcl)
        have HC := Lib.hid hc
        clear hc
        have k0 : (0 : Int) ≤ (k : Int) := by omega
        go_wp2
        go_round
        case rel =>
          refine ⟨k + 1, X * 256 + c, by omega, by omega, by go_num, congrArg (Value.int .u64) E2.out, ?_⟩
          show X * 256 + c = val (V.take (k + 1))
          rw [val_take_succ V k (by rw [HVl.out]; omega), ← HX.out, ← HC.out]
        case measure => simp [intOf]; omega
      · have hk8' : k = 8 := by omega
        have HXX : Hid (X = val (bs.take 8)) := by show X = _; rw [HX.out, hk8', List.take_of_length_le (by rw [HVl.out]; omega), HVd.out]
        clear hk8'
        by_cases hle : (X : Int) ≤ 4611686018427387904
        · have hn : numOk (some bs) = true := numOk_of H8.out (by rw [← HXX.out]; unfold top; omega)
          have HN := Lib.hid hn
          clear hn
          have hgt : ¬ ((4611686018427387904 : Int) < (X : Int)) := by omega
          go_wp2
          go_ret2
          obtain ⟨bs', h1, _, _, h2, h3⟩ := numOk_some HN.out
          injection h1 with h1
          subst h1
          refine ⟨?_, ?_, hk⟩
          · rw [HN.out, h2, ← HXX.out]; rfl
          · rw [h3, ← HS.out]; exact HR.out
        · have hn : numOk (some bs) = false := numOk_great H8.out (by rw [← HXX.out]; unfold top; omega)
          have HN := Lib.hid hn
          clear hn
          have hgt : (4611686018427387904 : Int) < (X : Int) := by omega
          obtain ⟨y, hA, _⟩ : ∃ y, At w1 p 72 #[.slice y (bs.drop 8).length (bs.drop 8).length, .bool false] ∧ Bytes P w1 y (bs.drop 8) := by
            have := HR.out; rw [HS.out] at this; exact this
          have HA := Lib.hid hA
          clear hA
          go_wp2_with (go_at_call 39; refine (fail p _ _ w1 HA.out).mono ?_; rintro e w2 ⟨rfl, hat, hk2⟩)
          go_ret2
          refine ⟨?_, ?_, hk.trans hk2 (fun _ _ h => h)⟩
          · rw [HN.out, numV_no HN.out]; rfl
          · rw [numS_no HN.out]; exact hat

set_option maxHeartbeats 400000 in
theorem numNil (w : World) : Calls Try.prog 35 #[.pointer none] w fun e w' => e = .returned (.tuple #[.int .i64 0, .bool false]) ∧ w = w' := by
  go_enter Try.func35, Try.ntmps35
  go_wp2_with (go_at_call 38; refine (takeNil 8 w).mono ?_; rintro e w1 ⟨rfl, rfl⟩)
  go_ret2
  exact ⟨rfl, rfl⟩

end Go.Proofs.Ytcplemamcgonkaa.Ln
