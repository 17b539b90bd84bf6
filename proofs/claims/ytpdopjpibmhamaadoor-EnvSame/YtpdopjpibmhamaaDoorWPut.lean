/-
  What the program's '(*Writer).Bytes' and 'Out' return and leave behind, for every writer and all bytes.
-/
import Derived.Test.YtpdopjpibmhamaaDoorWWrite
namespace Go.Proofs.YtpdopjpibmhamaaDoor.Ln
open Go.RowKit

set_option maxHeartbeats 1000000 in
theorem wBytes (P : Nat → Prop) (p : Nat) (q : Option Nat) (s : Option (List Nat)) (x : Option Addr) (m cap : Nat) (b : List Nat) (hm : b.length = m) (hl : (s.getD []).length + 8 + m ≤ 1099511627776) (w : World)
    (h : Wr w p q s) (hB : Bytes P w x b) (hP : ∀ k, P k → k ≠ p ∧ q ≠ some k) :
    Calls Tryd.prog 17 #[.pointer (some ⟨p, 0, none⟩), .slice x m cap] w (WrP p q (putBytes s b) w) := by
  have H := Lib.hid h
  have HB := Lib.hid hB
  have HM := Lib.hid hm
  have HP := Lib.hid hP
  clear hB hm hP
  rcases s with _ | bs
  · have hA : At w p 39 #[.slice none 0 0, .bool true] := h.2
    have c0 := hA.cell 0
    have c1 := hA.cell 1
    simp at c0 c1
    clear h hA
    go_enter Tryd.func17, Tryd.ntmps17
    go_wp2
    refine bodyPost_ret (results_none rfl _ _ _) rfl ?_
    exact ⟨q, rfl, H.out, Keep.refl _ _, New.refl _ _⟩
  · obtain ⟨x0, n0, cap0, _, _, hA, _⟩ := h
    have c0 := hA.cell 0
    have c1 := hA.cell 1
    simp at c0 c1
    clear hA
    have hl' : bs.length + 8 + m ≤ 1099511627776 := hl
    clear hl
    go_enter Tryd.func17, Tryd.ntmps17
    go_wp2_with (first
      | (go_at_call 26; refine (wNum_loop p q bs m (by omega) (by omega) w H.out).mono ?_; rintro e w1 ⟨q1, rfl, hW1, hk1, hnew1⟩; obtain ⟨y1, n1, cap1, hn1, hq1, hA1, hO1⟩ := hW1; have d0 := hA1.cell 0; have g0 := hA1.frozen 0; simp at d0; have HA1 := Lib.hid hA1; have HO1 := Lib.hid hO1; have HQ1 := Lib.hid hq1; have HN1 := Lib.hid hn1; clear hA1 hO1 hq1 hn1)
      | (at_builtin
         refine wpList_append_bytes (by rfl) (.tmp 20) (.tmp 21) (by rfl) (.slice y1 n1 cap1) (bs ++ num8 m) (by rfl) HO1.out P x m cap b (by rfl) HM.out
           (HB.out.keep hk1 (fun k _ hp h => by rcases h with h | h; exact (HP.out k hp).1 h; exact (HP.out k hp).2 h)) (by rw [List.length_append, num8_length]; omega) ?_
         intro y2 n2 cap2 w2 hn2 hO2 hk2 hnew2
         have hA2 := HA1.out.keep hk2 (HO1.out.ne HA1.out (by decide))
         have d2 := hA2.cell 0
         have g2 := hA2.frozen 0
         simp at d2
         have HA2 := Lib.hid hA2
         have HO2 := Lib.hid hO2
         have HK2 := Lib.hid hk2
         have HW2 := Lib.hid hnew2
         clear hA2 hO2 hk2 hnew2))
    go_end0
    refine ⟨(Value.slice y2 n2 cap2).ownBlock, rfl, ?_, ?_, ?_⟩
    · have e : putBytes (some bs) b = some (bs ++ num8 m ++ b) := by simp [putBytes, enc, HM.out]
      rw [e]
      exact ⟨y2, n2, cap2, hn2.out, rfl, HA2.out.put 0 _, HO2.out.keep ((Keep.refl (fun k => k = p) w2).setCell (p := ⟨p, 0, none⟩) (fun _ => rfl) _) (fun k hk e => HO2.out.ne HA2.out (by decide) (e ▸ hk))⟩
    · refine (hk1.trans HK2.out ?_).setCell (p := ⟨p, 0, none⟩) (fun _ => .inl rfl) _
      intro k hk h
      rw [HQ1.out] at h
      rcases hnew1 k h with h | h
      · exact .inr h
      · omega
    · exact hnew1.trans (HQ1.out ▸ HW2.out) hk1.size
set_option maxHeartbeats 400000 in
theorem wBytesNil (x : Option Addr) (m cap : Nat) (w : World) : Calls Tryd.prog 17 #[.pointer none, .slice x m cap] w fun e w' => e = .returned (.tuple #[]) ∧ w = w' := by
  go_enter Tryd.func17, Tryd.ntmps17
  go_wp2
  refine bodyPost_ret (results_none rfl _ _ _) rfl ?_
  exact ⟨rfl, rfl⟩

/-- What 'Out' answers. -/
def OutP (s : Option (List Nat)) (w : World) (e : Ending) (w' : World) : Prop :=
  match s with
  | none => e = .returned (.tuple #[.slice none 0 0, .bool false]) ∧ w = w'
  | some bs => ∃ g m, m = bs.length ∧ w.heap.size ≤ g ∧ e = .returned (.tuple #[.slice (some ⟨g, 0, none⟩) m m, .bool true]) ∧ At w' g 5 (cellsOf bs).toArray ∧ Keep (fun _ => False) w w'

set_option maxHeartbeats 1000000 in
theorem out (p : Nat) (q : Option Nat) (s : Option (List Nat)) (hl : (s.getD []).length ≤ 1099511627776) (w : World) (h : Wr w p q s) : Calls Tryd.prog 18 #[.pointer (some ⟨p, 0, none⟩)] w (OutP s w) := by
  rcases s with _ | bs
  · have hA : At w p 39 #[.slice none 0 0, .bool true] := h.2
    have c0 := hA.cell 0
    have c1 := hA.cell 1
    simp at c0 c1
    clear h hA
    go_enter Tryd.func18, Tryd.ntmps18
    go_wp2
    go_ret2
    exact ⟨rfl, rfl⟩
  · obtain ⟨x0, n0, cap0, hn, _, hA, hO⟩ := h
    have c0 := hA.cell 0
    have c1 := hA.cell 1
    simp at c0 c1
    obtain ⟨x1, cap1, e1, hB⟩ := hO.shape
    injection e1 with e1 e2 e3
    subst e1 e3
    have HB := Lib.hid hB
    have HN := Lib.hid hn
    have hl' : n0 ≤ 1099511627776 := by rw [hn]; exact hl
    clear hA hO hB hn e2 hl
    go_enter Tryd.func18, Tryd.ntmps18
    go_wp2_with (go_at_call 27; refine (copied _ x0 n0 cap0 bs HN.out.symm hl' w HB.out).mono ?_; rintro e w1 ⟨g, m, hm, hg, rfl, hat, hk⟩; have HM := Lib.hid hm; clear hm)
    go_ret2
    exact ⟨g, m, HM.out, hg, rfl, hat, hk⟩
set_option maxHeartbeats 400000 in
theorem outNil (w : World) : Calls Tryd.prog 18 #[.pointer none] w fun e w' => e = .returned (.tuple #[.slice none 0 0, .bool false]) ∧ w = w' := by
  go_enter Tryd.func18, Tryd.ntmps18
  go_wp2
  go_ret2
  exact ⟨rfl, rfl⟩

/-- A new writer. -/
theorem Wr.new (w : World) : Wr (w.alloc (.cells #[.slice none 0 0, .bool false] 39)) w.heap.size none (some []) := ⟨none, 0, 0, rfl, rfl, At.new w 39 _, Own.empty _⟩

end Go.Proofs.YtpdopjpibmhamaaDoor.Ln
