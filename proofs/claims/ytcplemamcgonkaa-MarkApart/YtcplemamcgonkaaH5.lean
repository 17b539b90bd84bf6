/-
  What the program's Decode returns, for all bytes.
-/
import Derived.Test.YtcplemamcgonkaaH4
namespace Go.Proofs.Ytcplemamcgonkaa.Ln
open Go.RowKit
set_option linter.unusedVariables false
set_option linter.unusedSimpArgs false

/-- What Decode answers. -/
def DecP (bs : List Nat) (w : World) (e : Ending) (w' : World) : Prop := ∃ y n c i, n = (marksM bs).length ∧ i = ((28 * n : Nat) : Int) ∧ n ≤ c ∧ e = .returned (.tuple #[.slice y n c, .int .i64 i]) ∧ MkP (fun b => w.heap.size ≤ b) w' y (marksM bs) ∧ Keep (fun _ => False) w w'
/-- Where a loop over marks stands. -/
structure Run (bs : List Nat) (w wr : World) (y : Option Addr) (l c : Nat) (q : Option Nat) (L : List Mk) : Prop where
  seen : Seen bs L
  own : MkO wr (.slice y l c) q L
  new : ∀ b, q = some b → w.heap.size ≤ b
  kp : Keep (fun _ => False) w wr
theorem Run.start {bs : List Nat} {w wr : World} (k : Keep (fun _ => False) w wr) : Run bs w wr none 0 0 none [] := ⟨seen_nil bs, StO.empty _ _ _ _ _, fun b h => by (cases h), k⟩
theorem Run.len {bs : List Nat} {w wr : World} {y : Option Addr} {l c : Nat} {q : Option Nat} {L : List Mk} (h : Run bs w wr y l c q L) : l = L.length ∧ l ≤ c := by
  obtain ⟨x, c', hv, hc⟩ := h.own.shape
  injection hv with e1 e2 e3
  omega
theorem Run.quiet {bs : List Nat} {w wr w' : World} {y : Option Addr} {l c : Nat} {q : Option Nat} {L : List Mk} (h : Run bs w wr y l c q L) (k : Keep (fun _ => False) wr w') : Run bs w w' y l c q L := ⟨h.seen, MidG.keep h.own k (fun _ _ h => h), h.new, h.kp.trans k (fun _ _ h => h)⟩
theorem Run.done {bs : List Nat} {w wr : World} {y : Option Addr} {l c : Nat} {q : Option Nat} {L : List Mk} (h : Run bs w wr y l c q L) (hm : marksM bs = L) (i : Int) (hi : i = ((28 * l : Nat) : Int)) : DecP bs w (.returned (.tuple #[.slice y l c, .int .i64 i])) wr := by
  obtain ⟨x, c', hv, hc, hp⟩ := StO.row mkL_len h.own
  injection hv with e1 e2 e3
  subst e1 e2 e3
  exact ⟨y, _, c, i, by rw [hm], hi, hc, rfl, by rw [hm]; exact StP.mono hp (fun b _ hb => h.new b hb), h.kp⟩
theorem Run.more {bs : List Nat} {w wr w' : World} {y y' : Option Addr} {l c l' c' : Nat} {q q' : Option Nat} {L : List Mk} (h : Run bs w wr y l c q L) (hl : L.length < 4096) (hf : firstB (bs.drop (28 * L.length)) = true) {k : Mk} (hk : k = readK ((bs.drop (28 * L.length)).take 24))
    (ho : MkO w' (.slice y' l' c') q' (L ++ [k])) (hn : New wr q q') (kp : Keep (fun j => q = some j) wr w') : Run bs w w' y' l' c' q' (L ++ [k]) := by
  subst hk
  refine ⟨h.seen.more hl hf, ho, fun b hb => ?_, h.kp.trans kp (fun i hi e => by have := h.new i e; omega)⟩
  rcases hn b hb with h1 | h1
  · exact h.new b h1
  · exact Nat.le_trans h.kp.size h1
set_option maxHeartbeats 8000000 in
set_option maxRecDepth 100000 in
theorem decodeK {P : Nat → Prop} {w : World} (x : Option Addr) (n cap : Nat) (bs : List Nat) (hn : bs.length = n) (hc : n ≤ cap) (hl : n ≤ 140737488355328) (h : Bytes P w x bs) :
    Calls Try.prog 14 #[.slice x n cap] w (DecP bs w) := by
  have HX := Lib.hid h
  have HN := Lib.hid hn
  have HD : Hid (∀ (wr : World) (y : Option Addr) (l c : Nat) (q : Option Nat) (L : List Mk), Run bs w wr y l c q L → marksM bs = L → ∀ i, i = ((28 * l : Nat) : Int) → DecP bs w (.returned (.tuple #[.slice y l c, .int .i64 i])) wr) := Lib.hid (fun wr y l c q L hR hm i hi => hR.done hm i hi)
  clear h hn
  go_enter Try.func14, Try.ntmps14
  go_wp2
  go_loopw [4, 5] (fun v i wr => ∃ (y : Option Addr) (l c a : Nat) (q : Option Nat) (L : List Mk), v = .slice y l c ∧ i = .int .i64 (a : Int) ∧ l ≤ 4096 ∧ Hid (a = 28 * l) ∧ Hid (Run bs w wr y l c q L)) (fun _ i _ => 114689 - (intOf i).toNat)
  case atStart => exact ⟨none, 0, 0, 0, none, [], rfl, rfl, by omega, rfl, Run.start (Keep.refl _ _)⟩
  case round =>
    obtain ⟨y, l, c, a, q, L, rfl, rfl, hl4, HAl, R⟩ := hrel
    have HLen := Lib.hid R.out.len
    by_cases hlt : (l : Int) < 4096
    · have han : a ≤ n := by have h1 := R.out.seen.l; have := HLen.out.1; have := HN.out; have := HAl.out; omega
      have ha0 : (0 : Int) ≤ (a : Int) := by omega
      have hab : a ≤ 114688 := by have := HAl.out; omega
      obtain ⟨r1, r2⟩ := cut_drop x n cap a han hc
      have hB := HX.out.mid cap a n han (by have := HN.out; omega) (by have := HN.out; omega)
      rw [List.take_of_length_le (by rw [HN.out]; omega)] at hB
      obtain ⟨xd, hxd⟩ : ∃ xd, xd = (if cap = a then x else x.map (fun b => b.add a)) := ⟨_, rfl⟩
      rw [← hxd] at r1 r2 hB
      have HB : Hid (Bytes P wr xd (bs.drop a)) := Lib.hid (hB.quiet R.out.kp)
      have HDL : Hid ((bs.drop a).length = n - a) := Lib.hid (by rw [List.length_drop, HN.out])
      have HLa : Hid (28 * L.length = a) := Lib.hid (by have := HLen.out.1; have := HAl.out; omega)
      clear hB hxd
      go_wp2_with fail
      refine (firstC xd (n - a) (cap - a) (bs.drop a) HDL.out (by omega) (by omega) HB.out).mono ?_
      rintro e w1 ⟨k1, M, rfl, hM⟩
      have R1 := Lib.hid (R.out.quiet k1)
      clear k1 R r1 r2
      cases hf : firstB (bs.drop a) with
      | false =>
        have HE : Hid (marksM bs = L) := Lib.hid (R1.out.seen.stop (by rw [HLa.out]; exact hf))
        clear hf hM
        unfold mkC
        obtain ⟨X, hX⟩ : ∃ X, X = w1.alloc (.cells #[.int .i64 M.kind, .int .i64 M.rcpt, .int .i64 M.n] 23) := ⟨_, rfl⟩
        have R2 : Hid (Run bs w X y l c q L) := Lib.hid (R1.out.quiet (by rw [hX]; exact keep_new w1 _))
        have HX2 := Lib.hid hX
        clear hX R1
        go_wp2
        go_ret2
        rw [← HX2.out]
        exact HD.out _ _ _ _ _ _ R2.out HE.out _ (by rw [HAl.out])
      | true =>
        have HM := Lib.hid (hM hf)
        have HF := Lib.hid hf
        clear hf hM
        unfold mkC
        obtain ⟨X, hX⟩ : ∃ X, X = w1.alloc (.cells #[.int .i64 M.kind, .int .i64 M.rcpt, .int .i64 M.n] 23) := ⟨_, rfl⟩
        have R2 : Hid (Run bs w X y l c q L) := Lib.hid (R1.out.quiet (by rw [hX]; exact keep_new w1 _))
        have h1 := mk_one X M
        rw [show X.heap.size = w1.heap.size + 1 by rw [hX]; simp] at h1
        have H1 := Lib.hid h1
        clear h1
        have R3 : Hid (Run bs w (X.alloc (.cells #[.int .i64 M.kind, .int .i64 M.rcpt, .int .i64 M.n] 23)) y l c q L) := Lib.hid (R2.out.quiet (keep_new X _))
        have HX2 := Lib.hid hX
        clear hX R1 R2
        go_wp2_with
          (at_builtin
           rw [← HX2.out]
           refine wpList_app_mk (by rfl) (.tmp 20) (.tmp 22) (by rfl) (.slice y l c) (by rfl) q L R3.out.own (some ⟨w1.heap.size + 1, 0, none⟩) 1 1 (by rfl) [M] rfl H1.out (by have := HLen.out.1; omega) ?_
           intro y4 l4 c4 q4 w4 hl4 ho4 hk4 hn4
           have hl4' : l4 = l + 1 := by rw [hl4.out, List.length_append, ← HLen.out.1]; rfl
           subst hl4'
           have R4 := Lib.hid (R3.out.more (by have := HLen.out.1; omega) (by rw [HLa.out]; exact HF.out) (by rw [HLa.out]; exact HM.out) ho4 hn4 hk4)
           clear hl4 ho4 hk4 hn4)
        go_roundw
        case rel => exact ⟨y4, l + 1, c4, a + 28, q4, L ++ [M], rfl, by go_num, by omega, by have := HAl.out; show a + 28 = 28 * (l + 1); omega, R4.out⟩
        case measure => simp [intOf]; omega
    · have HE : Hid (marksM bs = L) := Lib.hid (R.out.seen.full (by have := HLen.out.1; omega))
      go_wp2
      go_ret2
      exact HD.out _ _ _ _ _ _ R.out HE.out _ (by rw [HAl.out])
end Go.Proofs.Ytcplemamcgonkaa.Ln
