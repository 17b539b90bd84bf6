/-
  Is an end of a line in a text, whatever its bytes? What the library's ContainsAny answers of 13 and 10.
-/
import Derived.Test.YtcjljldknekhiaaGreatDoorPs
import Derived.Test.YtcjljldknekhiaaGreatDoorARunes
import Derived.Laws.RangeAny
import Derived.Test.YtcjljldknekhiaaGreatDoorAShelf2
namespace Go.Proofs.YtcjljldknekhiaaGreatDoor.Ln
open Go.RowKit
set_option linter.unusedVariables false
set_option linter.unusedSimpArgs false

theorem below_more {B C : Nat} {a b : World} (h : Below C a b) (hB : B ≤ C) : Below B a b := ⟨h.os, h.tape, h.output, h.size, fun k hk => h.block k (Nat.lt_of_lt_of_le hk hB)⟩
def crlf : ByteArray := { data := #[13, 10] }

set_option maxHeartbeats 4000000 in
set_option maxRecDepth 100000 in
/-- A rune that is not ASCII's is none of the two. -/
theorem indexRune_two (r : Int) (w : World) (h0 : 128 ≤ r) (h1 : r ≠ 65533) :
    Calls Tryz.prog 130 #[.string { data := #[13, 10] }, .int .i32 r] w fun e w' => e = .returned (.int .i64 (-1)) ∧ Below w.heap.size w w' := by
  cases hv : Lib.validRune r with
  | false =>
    go_enter Tryz.func130, Tryz.ntmps130
    go_wp2_with (go_at_call 151; refine (Ad.utf8_ValidRune r _).mono ?_; rintro e w' ⟨rfl, rfl⟩; rw [hv])
    go_ret
    exact ⟨rfl, Below.refl _ _⟩
  | true =>
    rcases Ad.encode_ends r h0 with ⟨a, d, hE, hd⟩ | ⟨a, b, d, hE, hd⟩ | ⟨a, b, c, d, hE, hd⟩
    · have n2 : ¬ (((({ data := #[13, 10] } : ByteArray)[1]'(show 1 < 2 by decide)).toNat : Int) = ((({ data := #[a, d] } : ByteArray)[1]'(show 1 < 2 by decide)).toNat : Int)) := by
        show ¬ ((10 : Int) = (d.toNat : Int))
        omega
      have hw2 : IntKind.i64.wrap 2 = 2 := by decide
      have hc : ∀ W, Calls Tryz.prog 150 #[.string ByteArray.empty, .int .u8 ((({ data := #[a, d] } : ByteArray)[1]'(show 1 < 2 by decide)).toNat : Int)] W fun e w' => e = .returned (.int .i64 (-1)) ∧ w' = W := fun W => by
        have := Ad.strings_IndexByte ByteArray.empty (d.toNat : Int) W
        rw [show ((d.toNat : Int).toNat.toUInt8) = d by simp, Ad.indexByte_high d hd _ (by decide)] at this
        exact this
      go_enter Tryz.func130, Tryz.ntmps130
      go_wp2_with (go_at_call 151; refine (Ad.utf8_ValidRune r _).mono ?_; rintro e w' ⟨rfl, rfl⟩; rw [hv])
      go_step3
      go_wp2
      refine wp_loop_rounds 1 ?_
      rw [rounds_succ]
      go_wp2_with fail
      go_step3
      go_wp2
      go_region
      go_wp2
      · go_region_held3 (fun _ => True) (exact trivial) (first | (go_at_call 150; refine (hc _).mono ?_; rintro e w1 ⟨rfl, rfl⟩))
        go_wp2
        rw [Exit.noGoto_ret]
        go_wp2
        rw [Exit.noGoto_ret]
        go_ret
        exact ⟨rfl, ((Below.refl _ _).drew).drew⟩
    · go_enter Tryz.func130, Tryz.ntmps130
      go_wp2_with (go_at_call 151; refine (Ad.utf8_ValidRune r _).mono ?_; rintro e w' ⟨rfl, rfl⟩; rw [hv])
      go_step3
      go_wp2
      go_rounds 1
      rw [Exit.noGoto_ret]
      go_ret
      exact ⟨rfl, Below.refl _ _⟩
    · go_enter Tryz.func130, Tryz.ntmps130
      go_wp2_with (go_at_call 151; refine (Ad.utf8_ValidRune r _).mono ?_; rintro e w' ⟨rfl, rfl⟩; rw [hv])
      go_step3
      go_wp2
      go_rounds 1
      rw [Exit.noGoto_ret]
      go_ret
      exact ⟨rfl, Below.refl _ _⟩
/-- A rune of a text: is it one of the two? -/
theorem indexRune_any (r : Int) (w : World) (h0 : 0 ≤ r) :
    Calls Tryz.prog 130 #[.string { data := #[13, 10] }, .int .i32 r] w fun e w' => ∃ k : Int, e = .returned (.int .i64 k) ∧ (0 ≤ k ↔ r = 13 ∨ r = 10) ∧ Below w.heap.size w w' := by
  by_cases h : r < 128
  · refine (Ad.strings_IndexRune_ascii { data := #[13, 10] } r w h0 h).mono ?_
    rintro e w' ⟨rfl, rfl⟩
    refine ⟨_, rfl, ?_, Below.refl _ _⟩
    obtain ⟨n, rfl⟩ : ∃ n : Nat, r = (n : Int) := ⟨r.toNat, by omega⟩
    have hn : n < 128 := by omega
    rw [Int.toNat_natCast]
    show 0 ≤ Lib.indexByte [13, 10] n.toUInt8 ↔ _
    by_cases h13 : n = 13
    · subst h13; decide
    · by_cases h10 : n = 10
      · subst h10; decide
      · have e1 : ((13 : UInt8) == n.toUInt8) = false := by
          rw [beq_eq_false_iff_ne]
          intro e
          have := congrArg UInt8.toNat e
          simp at this
          omega
        have e2 : ((10 : UInt8) == n.toUInt8) = false := by
          rw [beq_eq_false_iff_ne]
          intro e
          have := congrArg UInt8.toNat e
          simp at this
          omega
        have e3 : Lib.indexByte [13, 10] n.toUInt8 = -1 := by
          simp [Lib.indexByte, e1, e2]
        rw [e3]
        constructor
        · intro hx; omega
        · intro hx; omega
  · by_cases h1 : r = 65533
    · subst h1
      refine (Ad.indexRune_error { data := #[13, 10] } w (by
        intro k hk
        have hk2 : k < 2 := hk
        match k, hk2 with
        | 0, _ => show (13 : UInt8).toNat < 128; decide
        | 1, _ => show (10 : UInt8).toNat < 128; decide)).mono ?_
      rintro e w' ⟨rfl, hb⟩
      exact ⟨-1, rfl, by omega, hb⟩
    · refine (indexRune_two r w (by omega) h1).mono ?_
      rintro e w' ⟨rfl, hb⟩
      exact ⟨-1, rfl, by omega, hb⟩

/-! ### Runes and bytes -/
theorem decode_conts (s : ByteArray) (pos k : Nat) (hk : 1 ≤ k) (hd : k < (Utf8.decode s pos).2) : pos + k < s.size ∧ 128 ≤ (s.get! (pos + k)).toNat := by
  unfold Utf8.decode at hd
  simp only at hd
  split at hd
  · simp only at hd; omega
  split at hd
  · rename_i h
    simp only [Bool.and_eq_true, decide_eq_true_eq, beq_iff_eq] at h
    split at hd
    · simp only at hd
      obtain rfl : k = 1 := by omega
      exact ⟨h.2.1, by have := h.2.2; omega⟩
    · simp only at hd; omega
  split at hd
  · rename_i h
    simp only [Bool.and_eq_true, decide_eq_true_eq, beq_iff_eq] at h
    split at hd
    · simp only at hd
      rcases (by omega : k = 1 ∨ k = 2) with rfl | rfl
      · exact ⟨h.1.2.1, by have := h.1.2.2; omega⟩
      · exact ⟨h.2.1, by have := h.2.2; omega⟩
    · simp only at hd; omega
  split at hd
  · rename_i h
    simp only [Bool.and_eq_true, decide_eq_true_eq, beq_iff_eq] at h
    split at hd
    · simp only at hd
      rcases (by omega : k = 1 ∨ k = 2 ∨ k = 3) with rfl | rfl | rfl
      · exact ⟨h.1.1.2.1, by have := h.1.1.2.2; omega⟩
      · exact ⟨h.1.2.1, by have := h.1.2.2; omega⟩
      · exact ⟨h.2.1, by have := h.2.2; omega⟩
    · simp only at hd; omega
  · simp only at hd; omega
/-- Up to there no byte is one of the two. -/
def Clean (s : ByteArray) (n : Nat) : Prop := ∀ j, j < n → j < s.size → (s.get! j).toNat ≠ 10 ∧ (s.get! j).toNat ≠ 13
theorem ns_at (s : ByteArray) (j : Nat) (h : j < s.size) : (ns s)[j]? = some (s.get! j).toNat := by
  have hd : j < s.data.size := h
  simp [ns, ByteArray.get!, Array.getElem?_eq_getElem hd, getElem!_pos s.data j hd]
theorem odd_clean {s : ByteArray} (h : Clean s s.size) : odd (ns s) = false := by
  rw [odd, List.any_eq_false]
  intro c hc
  obtain ⟨j, hj, e⟩ := List.getElem_of_mem hc
  have hj' : j < s.size := by rw [ns_length] at hj; exact hj
  have h1 := ns_at s j hj'
  rw [List.getElem?_eq_getElem hj, e] at h1
  injection h1 with h1
  have := h j hj' hj'
  simp
  omega
theorem odd_hit {s : ByteArray} (j : Nat) (h : j < s.size) (hc : (s.get! j).toNat = 10 ∨ (s.get! j).toNat = 13) : odd (ns s) = true := by
  rw [odd, List.any_eq_true]
  refine ⟨(s.get! j).toNat, ?_, ?_⟩
  · exact List.mem_of_getElem? (ns_at s j h)
  · rcases hc with e | e <;> simp [e]
theorem get_is (s : ByteArray) (j : Nat) (h : j < s.size) : s.get! j = s[j]'h := by
  simp [ByteArray.get!, getElem!_pos, h]
  rfl

set_option maxHeartbeats 4000000 in
set_option maxRecDepth 100000 in
theorem indexAny_short (s : ByteArray) (w : World) (h8 : s.size ≤ 8) :
    Calls Tryz.prog 137 #[.string s, .string { data := #[13, 10] }] w fun e w' => ∃ k : Int, e = .returned (.int .i64 k) ∧ decide (0 ≤ k) = odd (ns s) ∧ Below w.heap.size w w' := by
  have hl : (s.size : Int) ≤ 8 := by omega
  have hn : ¬ ((8 : Int) < (s.size : Int)) := by omega
  have hdc : decide ((8 : Int) < (s.size : Int)) = false := by rw [decide_eq_false_iff_not]; exact hn
  go_enter Tryz.func137, Tryz.ntmps137
  go_wp2_with (go_at_call 152; refine (Ad.strings_shouldUseASCIISet _ _).mono ?_; rintro e w' ⟨rfl, hw⟩; subst w'; rw [hdc])
  go_loopw [] (fun wr => ∃ pos, wr.heap[w.heap.size]? = some (.stringIter s pos) ∧ Below w.heap.size w wr ∧ Hid (Clean s pos)) (fun wr => s.size - wr.iterPos w.heap.size)
  case atStart =>
    refine ⟨0, ?_, (Below.refl _ w).alloc (Nat.le_refl _) _, fun j hj => by omega⟩
    have := World.iter_heap w s 0
    simpa using this
  case round =>
    obtain ⟨pos, hit, hbw, HC⟩ := hrel
    by_cases hp : pos < s.size
    · have hnx : ∀ ty, (Instr.next (.pointer (some ⟨w.heap.size, 0, none⟩)) true ty).run Tryz.prog wr = _ := fun ty => Lib.run_next_any_at wr w.heap.size s pos ty hit hp
      obtain ⟨R, D, hRD, hR0, hD1, hgood, hbad⟩ : ∃ R D : Nat, Utf8.decode s pos = (R, D) ∧ 0 ≤ (R : Int) ∧ 1 ≤ D ∧ (¬ ((R : Int) = 13 ∨ (R : Int) = 10) → Clean s (pos + D)) ∧ (((R : Int) = 13 ∨ (R : Int) = 10) → odd (ns s) = true) := by
        refine ⟨(Utf8.decode s pos).1, (Utf8.decode s pos).2, rfl, by omega, ?_, ?_, ?_⟩
        · exact Ad.width_pos s pos hp
        · intro hne j hj hjs
          by_cases hjp : j < pos
          · exact HC.out j hjp hjs
          · by_cases hj0 : j = pos
            · subst hj0
              by_cases ha : (s[j]'hp).toNat < 128
              · rw [decode_ascii s j hp ha] at hne
                rw [get_is s j hp]
                simp only at hne
                omega
              · rw [get_is s j hp]
                omega
            · obtain ⟨k, rfl⟩ : ∃ k, j = pos + k := ⟨j - pos, by omega⟩
              have := (decode_conts s pos k (by omega) (by omega)).2
              omega
        · intro hx
          by_cases ha : (s[pos]'hp).toNat < 128
          · rw [decode_ascii s pos hp ha] at hx
            refine odd_hit pos hp ?_
            rw [get_is s pos hp]
            simp only at hx
            omega
          · have := (decode_high s pos hp (by omega)).1
            omega
      rw [hRD] at hnx
      have hit2 := Lib.iterAt_heap wr w.heap.size s pos (pos + D) hit
      have hbw2 := Lib.below_iterAt hbw (k := w.heap.size) (by omega) s (pos + D)
      have HG := Lib.hid hgood
      have HB := Lib.hid hbad
      have HX := Lib.hid (fun W => indexRune_any (R : Int) W hR0)
      have HIT2 := Lib.hid hit2
      have HBW2 := Lib.hid hbw2
      clear hgood hbad hRD hit2 hbw2
      go_wp2_with fail
      refine (HX.out _).mono ?_
      rintro e w2 ⟨k, rfl, hk, hb2⟩
      have HK := Lib.hid hk
      have HB2 := Lib.hid hb2
      have HIT3 : Hid (w2.heap[w.heap.size]? = some (.stringIter s (pos + D))) := Lib.hid ((hb2.block w.heap.size (by
        rcases Nat.lt_or_ge w.heap.size (wr.iterAt w.heap.size s (pos + D)).heap.size with h' | h'
        · exact h'
        · have := HIT2.out; rw [Array.getElem?_eq_none h'] at this; cases this)).trans HIT2.out)
      clear hk hb2
      by_cases hk0 : 0 ≤ k
      · have HO := Lib.hid (HB.out (HK.out.1 hk0))
        go_wp2
        go_ret
        refine ⟨(pos : Int), rfl, ?_, ?_⟩
        · rw [HO.out]; simp
        · exact HBW2.out.trans (below_more HB2.out HBW2.out.size)
      · have HG2 := Lib.hid (HG.out (fun hx => hk0 (HK.out.2 hx)))
        go_wp2
        go_roundw
        case rel => exact ⟨pos + D, HIT3.out, HBW2.out.trans (below_more HB2.out HBW2.out.size), HG2.out⟩
        case measure =>
          simp only [World.iterPos, HIT3.out, hit]
          omega
    · have hnx : ∀ ty, (Instr.next (.pointer (some ⟨w.heap.size, 0, none⟩)) true ty).run Tryz.prog wr = _ := fun ty => Lib.run_next_end_at wr w.heap.size s pos ty hit hp
      have HO := Lib.hid (odd_clean (s := s) (fun j hj hjs => HC.out j (by omega) hjs))
      go_wp2
      go_ret
      exact ⟨-1, rfl, by rw [HO.out]; rfl, hbw⟩

/-! ### ContainsAny -/
theorem indexAny_odd : ∀ l : List UInt8, decide (0 ≤ Lib.indexAny l [13, 10]) = odd (l.map UInt8.toNat)
  | [] => rfl
  | c :: l => by
    have ih := indexAny_odd l
    have hge := Lib.indexAny_ge [13, 10] l
    unfold Lib.indexAny
    by_cases hc : ([13, 10] : List UInt8).contains c = true
    · rw [if_pos hc]
      have : c = 13 ∨ c = 10 := by simpa using hc
      rcases this with rfl | rfl <;> simp [odd]
    · rw [if_neg hc]
      have hn : c ≠ 13 ∧ c ≠ 10 := by
        simp only [List.contains_cons, List.contains_nil, Bool.or_false, Bool.or_eq_true, beq_iff_eq, not_or] at hc
        exact hc
      have h1 : c.toNat ≠ 13 := fun e => hn.1 (UInt8.toNat_inj.1 e)
      have h2 : c.toNat ≠ 10 := fun e => hn.2 (UInt8.toNat_inj.1 e)
      have e1 : odd ((c :: l).map UInt8.toNat) = odd (l.map UInt8.toNat) := by
        simp [odd, h1, h2]
      rw [e1, ← ih]
      by_cases hm : (Lib.indexAny l [13, 10] == -1) = true
      · rw [if_pos hm]
        have : Lib.indexAny l [13, 10] = -1 := by simpa using hm
        rw [this]
      · rw [if_neg hm]
        have : Lib.indexAny l [13, 10] ≠ -1 := by simpa using hm
        rw [decide_eq_true (by omega), decide_eq_true (by omega)]
theorem zero169 : ∀ w, (zeroValue 169).run Tryz.prog w = .ok (.agg (Array.replicate 256 (.bool false))) w := fun w => by
  go_simp
  kernel_rfl
set_option maxHeartbeats 1000000 in
theorem containsC (s : ByteArray) (w : World) (hs : s.size ≤ 100000) :
    Calls Tryz.prog 109 #[.string s, .string { data := #[13, 10] }] w fun e w' => e = .returned (.bool (odd (ns s))) ∧ Keep (fun _ => False) w w' := by
  have hc : Calls Tryz.prog 137 #[.string s, .string { data := #[13, 10] }] w fun e w' => ∃ k : Int, e = .returned (.int .i64 k) ∧ decide (0 ≤ k) = odd (ns s) ∧ Below w.heap.size w w' := by
    by_cases h8 : s.size ≤ 8
    · exact indexAny_short s w h8
    · refine (Ad.strings_IndexAny_long zero169 s { data := #[13, 10] } w (by decide) (by omega) (by omega) (by decide) (by
        intro j b hb
        match j, hb with
        | 0, hb => have : (13 : UInt8) = b := by simpa using hb
                   subst this; decide
        | 1, hb => have : (10 : UInt8) = b := by simpa using hb
                   subst this; decide
        | (j + 2), hb => simp at hb)).mono ?_
      rintro e w' ⟨rfl, rfl⟩
      exact ⟨_, rfl, indexAny_odd _, ((Below.refl _ w).alloc (Nat.le_refl _) _).alloc (by simp) _⟩
  have HC := Lib.hid hc
  clear hc
  go_enter Tryz.func109, Tryz.ntmps109
  go_wp2_with fail
  refine HC.out.mono ?_
  rintro e w1 ⟨k, rfl, hk, hb⟩
  have HK := Lib.hid hk
  have HB := Lib.hid hb
  clear hk hb
  go_wp2
  go_ret
  refine ⟨?_, Keep.of_below HB.out⟩
  rw [← HK.out]
  rfl
end Go.Proofs.YtcjljldknekhiaaGreatDoor.Ln
