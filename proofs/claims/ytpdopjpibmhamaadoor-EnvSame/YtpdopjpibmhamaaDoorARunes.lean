/-
  Runes: what is a letter or a digit; texts of some signs alone.
-/
import Derived.Test.YtpdopjpibmhamaaDoorAFrame
import Derived.Test.YtpdopjpibmhamaaDoorAMath
import Derived.WalkKit
import Derived.WalkLawsBesides
import Derived.BigCall
import Derived.WalkMore
import Derived.RegionTactic
import Derived.ChangeAlike
import Derived.Deep.QuietTactic
import Derived.BigQuiet
import Derived.Deep.RegionHeld3
import Derived.Laws.Runes
import Derived.Handy
import Derived.Lib.OthersKept
import Derived.Lib.RuneBytes
namespace Go.Proofs.YtpdopjpibmhamaaDoor.Ad
open Go.RowKit
set_option linter.unusedVariables false

set_option maxHeartbeats 4000000 in
set_option maxRecDepth 100000 in
theorem isGreat_walk (r : Int) (w : World) : Calls Tryd.prog 57 #[.int .i32 r] w fun e w' => e = .returned (.bool (greatZ r)) ∧ w' = w := by
  by_cases h1 : 65 ≤ r
  · go_enter Tryd.func57, Tryd.ntmps57
    go_wp2
    go_ret
    refine ⟨?_, rfl⟩
    first | (simp [greatZ]; done) | (simp [greatZ]; omega)
  · go_enter Tryd.func57, Tryd.ntmps57
    go_wp2
    go_ret
    refine ⟨?_, rfl⟩
    first | (simp [greatZ]; done) | (simp [greatZ]; omega)

set_option maxHeartbeats 4000000 in
set_option maxRecDepth 100000 in
theorem isPlain_walk (r : Int) (w : World) : Calls Tryd.prog 67 #[.int .i32 r] w fun e w' => e = .returned (.bool (plainZ r)) ∧ w' = w := by
  by_cases h1 : 97 ≤ r ∧ r ≤ 122
  · have hv : plainZ r = true := by simp [plainZ]; omega
    rw [hv]
    go_enter Tryd.func67, Tryd.ntmps67
    go_wp2_with (go_at_call 57; refine (isGreat_walk r _).mono ?_; rintro e w' ⟨rfl, rfl⟩)
    go_ret
    exact ⟨rfl, rfl⟩
  · cases h3 : greatZ r with
    | true =>
      have hv : plainZ r = true := by simp [greatZ] at h3; simp [plainZ]; omega
      rw [hv]
      by_cases h2 : 97 ≤ r
      · exact absurd h3 (by simp [greatZ]; omega)
      · go_enter Tryd.func67, Tryd.ntmps67
        go_wp2_with (go_at_call 57; refine (isGreat_walk r _).mono ?_; rintro e w' ⟨rfl, rfl⟩; rw [h3])
        go_ret
        exact ⟨rfl, rfl⟩
    | false =>
      have hv : plainZ r = decide (48 ≤ r ∧ r ≤ 57) := by
        have e1 : decide (97 ≤ r ∧ r ≤ 122) = false := decide_eq_false h1
        unfold greatZ at h3
        rw [plainZ, e1, h3]; rfl
      rw [hv]
      by_cases h2 : 97 ≤ r <;> by_cases h4 : 48 ≤ r
      · have h5 : 122 < r := by omega
        go_enter Tryd.func67, Tryd.ntmps67
        go_wp2_with (go_at_call 57; refine (isGreat_walk r _).mono ?_; rintro e w' ⟨rfl, rfl⟩; rw [h3])
        go_ret
        exact ⟨by simp [h4]; omega, rfl⟩
      · omega
      · go_enter Tryd.func67, Tryd.ntmps67
        go_wp2_with (go_at_call 57; refine (isGreat_walk r _).mono ?_; rintro e w' ⟨rfl, rfl⟩; rw [h3])
        go_ret
        exact ⟨by simp [h4], rfl⟩
      · go_enter Tryd.func67, Tryd.ntmps67
        go_wp2_with (go_at_call 57; refine (isGreat_walk r _).mono ?_; rintro e w' ⟨rfl, rfl⟩; rw [h3])
        go_ret
        exact ⟨by simp; omega, rfl⟩

/-! ### A rune that is not ASCII's, in a text that is -/
theorem width_pos (s : ByteArray) (pos : Nat) (h : pos < s.size) : 1 ≤ (Utf8.decode s pos).2 := by
  by_cases ha : (s[pos]'h).toNat < 128
  · rw [decode_ascii s pos h ha]
    exact Nat.le_refl _
  · exact (decode_high s pos h (by omega)).2

set_option maxHeartbeats 4000000 in
set_option maxRecDepth 100000 in
theorem indexRune_error (s : ByteArray) (w : World) (ha : ∀ k (h : k < s.size), (s[k]'h).toNat < 128) :
    Calls Tryd.prog 78 #[.string s, .int .i32 65533] w fun e w' => e = .returned (.int .i64 (-1)) ∧ Below w.heap.size w w' := by
  go_enter Tryd.func78, Tryd.ntmps78
  go_wp2
  go_loopw [] (fun wr => ∃ pos, wr.heap[w.heap.size]? = some (.stringIter s pos) ∧ Below w.heap.size w wr) (fun wr => s.size - wr.iterPos w.heap.size)
  case atStart =>
    refine ⟨0, ?_, (Below.refl _ w).alloc (Nat.le_refl _) _⟩
    have := World.iter_heap w s 0
    simpa using this
  case round =>
    obtain ⟨pos, hit, hbw⟩ := hrel
    by_cases hp : pos < s.size
    · have hnx : ∀ ty, (Instr.next (.pointer (some ⟨w.heap.size, 0, none⟩)) true ty).run Tryd.prog wr = _ := fun ty => Lib.run_next_any_at wr w.heap.size s pos ty hit hp
      have ea := decode_ascii s pos hp (ha pos hp)
      have hl := ha pos hp
      have hwd := width_pos s pos hp
      have hit2 := Lib.iterAt_heap wr w.heap.size s pos (pos + 1) hit
      have hbw2 := Lib.below_iterAt hbw (k := w.heap.size) (by omega) s (pos + 1)
      go_wp2
      go_roundw
      case rel => exact ⟨_, hit2, hbw2⟩
      case measure =>
        simp only [World.iterPos, hit2, hit]
        omega
    · have hnx : ∀ ty, (Instr.next (.pointer (some ⟨w.heap.size, 0, none⟩)) true ty).run Tryd.prog wr = _ := fun ty => Lib.run_next_end_at wr w.heap.size s pos ty hit hp
      go_wp2
      go_ret
      exact ⟨rfl, hbw⟩

/-- The bytes of a rune that is not ASCII's: two to four, the last one above 127. -/
def HighEnd (E : ByteArray) : Prop := 2 ≤ E.size ∧ E.size ≤ 4 ∧ ∀ h : E.size - 1 < E.size, 128 ≤ (E[E.size - 1]'h).toNat
theorem encode_high (r : Int) (h0 : 128 ≤ r) : HighEnd (Utf8.encode r) := by
  have hc : 128 ≤ (if Utf8.valid r then r.toNat else Utf8.runeError) := by
    split
    · omega
    · decide
  unfold Utf8.encode
  generalize (if Utf8.valid r then r.toNat else Utf8.runeError) = c at hc
  have hlast : ∀ c : Nat, 128 ≤ (UInt8.ofNat (128 + c % 64)).toNat := fun c => by
    rw [UInt8.toNat_ofNat']
    omega
  simp only
  rw [if_neg (by omega)]
  split
  · exact ⟨(by show 2 ≤ 2; decide), (by show 2 ≤ 4; decide), fun h => hlast c⟩
  · split
    · exact ⟨(by show 2 ≤ 3; decide), (by show 3 ≤ 4; decide), fun h => hlast c⟩
    · exact ⟨(by show 2 ≤ 4; decide), (by show 4 ≤ 4; decide), fun h => hlast c⟩

set_option maxHeartbeats 4000000 in
set_option maxRecDepth 100000 in
/-- A rune that is not ASCII's is not in a text of one byte. -/
theorem indexRune_one (r : Int) (w : World) (h0 : 128 ≤ r) (h1 : r ≠ 65533) :
    Calls Tryd.prog 78 #[.string { data := #[45] }, .int .i32 r] w fun e w' => e = .returned (.int .i64 (-1)) ∧ Below w.heap.size w w' := by
  obtain ⟨l2, l4, hl⟩ := encode_high r h0
  have l3 : ¬ ((Utf8.encode r).size : Int) - 1 < 1 := by omega
  cases hv : Lib.validRune r with
  | false =>
    go_enter Tryd.func78, Tryd.ntmps78
    go_wp2_with (go_at_call 86; refine (utf8_ValidRune r _).mono ?_; rintro e w' ⟨rfl, rfl⟩; rw [hv])
    go_ret
    exact ⟨rfl, Below.refl _ _⟩
  | true =>
    go_enter Tryd.func78, Tryd.ntmps78
    go_wp2_with (go_at_call 86; refine (utf8_ValidRune r _).mono ?_; rintro e w' ⟨rfl, rfl⟩; rw [hv])
    go_step3
    go_wp2
    go_rounds 1
    rw [Exit.noGoto_ret]
    go_ret
    exact ⟨rfl, Below.refl _ _⟩

/-- .. nor in the signs of a local part. -/
def HighEnds (E : ByteArray) : Prop := (∃ a d : UInt8, E = { data := #[a, d] } ∧ 128 ≤ d.toNat) ∨ (∃ a b d : UInt8, E = { data := #[a, b, d] } ∧ 128 ≤ d.toNat) ∨ (∃ a b c d : UInt8, E = { data := #[a, b, c, d] } ∧ 128 ≤ d.toNat)
theorem encode_ends (r : Int) (h0 : 128 ≤ r) : HighEnds (Utf8.encode r) := by
  have hc : 128 ≤ (if Utf8.valid r then r.toNat else Utf8.runeError) := by
    split
    · omega
    · decide
  unfold Utf8.encode
  generalize (if Utf8.valid r then r.toNat else Utf8.runeError) = c at hc
  have hlast : ∀ c : Nat, 128 ≤ (UInt8.ofNat (128 + c % 64)).toNat := fun c => by
    rw [UInt8.toNat_ofNat']
    omega
  simp only
  rw [if_neg (by omega)]
  split
  · exact .inl ⟨_, _, rfl, hlast c⟩
  · split
    · exact .inr (.inl ⟨_, _, _, rfl, hlast c⟩)
    · exact .inr (.inr ⟨_, _, _, _, rfl, hlast c⟩)
theorem indexByte_high (d : UInt8) (hd : 128 ≤ d.toNat) : ∀ l : List UInt8, (∀ x ∈ l, x.toNat < 128) → Lib.indexByte l d = -1
  | [], _ => rfl
  | x :: l, h => by
    have hx := h x (List.mem_cons_self ..)
    have hne : (x == d) = false := by
      rw [beq_eq_false_iff_ne]
      rintro rfl
      omega
    unfold Lib.indexByte
    rw [hne, indexByte_high d hd l (fun y hy => h y (List.mem_cons_of_mem _ hy))]
    rfl

set_option maxHeartbeats 4000000 in
set_option maxRecDepth 100000 in
theorem indexRune_four (r : Int) (w : World) (h0 : 128 ≤ r) (h1 : r ≠ 65533) :
    Calls Tryd.prog 78 #[.string { data := #[46, 95, 43, 45] }, .int .i32 r] w fun e w' => e = .returned (.int .i64 (-1)) ∧ Below w.heap.size w w' := by
  cases hv : Lib.validRune r with
  | false =>
    go_enter Tryd.func78, Tryd.ntmps78
    go_wp2_with (go_at_call 86; refine (utf8_ValidRune r _).mono ?_; rintro e w' ⟨rfl, rfl⟩; rw [hv])
    go_ret
    exact ⟨rfl, Below.refl _ _⟩
  | true =>
    rcases encode_ends r h0 with ⟨a, d, hE, hd⟩ | ⟨a, b, d, hE, hd⟩ | ⟨a, b, c, d, hE, hd⟩
    · have n2 : ¬ (((({ data := #[46, 95, 43, 45] } : ByteArray)[1]'(show 1 < 4 by decide)).toNat : Int) = ((({ data := #[a, d] } : ByteArray)[1]'(show 1 < 2 by decide)).toNat : Int)) := by
        show ¬ ((95 : Int) = (d.toNat : Int))
        omega
      have hw2 : IntKind.i64.wrap 2 = 2 := by decide
      have hc : ∀ W, Calls Tryd.prog 85 #[.string (({ data := #[46, 95, 43, 45] } : ByteArray).extract 2 4), .int .u8 ((({ data := #[a, d] } : ByteArray)[1]'(show 1 < 2 by decide)).toNat : Int)] W fun e w' => e = .returned (.int .i64 (-1)) ∧ w' = W := fun W => by
        have := strings_IndexByte (({ data := #[46, 95, 43, 45] } : ByteArray).extract 2 4) (d.toNat : Int) W
        rw [show ((d.toNat : Int).toNat.toUInt8) = d by simp, indexByte_high d hd _ (by decide)] at this
        exact this
      go_enter Tryd.func78, Tryd.ntmps78
      go_wp2_with (go_at_call 86; refine (utf8_ValidRune r _).mono ?_; rintro e w' ⟨rfl, rfl⟩; rw [hv])
      go_step3
      go_wp2
      refine wp_loop_rounds 1 ?_
      rw [rounds_succ]
      go_wp2_with fail
      go_step3
      go_wp2
      go_region
      go_wp2
      · go_region_held3 (fun _ => True) (exact trivial) (first | (go_at_call 85; refine (hc _).mono ?_; rintro e w1 ⟨rfl, rfl⟩))
        go_wp2
        rw [Exit.noGoto_ret]
        go_wp2
        rw [Exit.noGoto_ret]
        go_ret
        exact ⟨rfl, ((Below.refl _ _).drew).drew⟩
    · have n2 : ¬ (((({ data := #[46, 95, 43, 45] } : ByteArray)[2]'(show 2 < 4 by decide)).toNat : Int) = ((({ data := #[a, b, d] } : ByteArray)[2]'(show 2 < 3 by decide)).toNat : Int)) := by
        show ¬ ((43 : Int) = (d.toNat : Int))
        omega
      have hw2 : IntKind.i64.wrap 3 = 3 := by decide
      have hc : ∀ W, Calls Tryd.prog 85 #[.string (({ data := #[46, 95, 43, 45] } : ByteArray).extract 3 4), .int .u8 ((({ data := #[a, b, d] } : ByteArray)[2]'(show 2 < 3 by decide)).toNat : Int)] W fun e w' => e = .returned (.int .i64 (-1)) ∧ w' = W := fun W => by
        have := strings_IndexByte (({ data := #[46, 95, 43, 45] } : ByteArray).extract 3 4) (d.toNat : Int) W
        rw [show ((d.toNat : Int).toNat.toUInt8) = d by simp, indexByte_high d hd _ (by decide)] at this
        exact this
      go_enter Tryd.func78, Tryd.ntmps78
      go_wp2_with (go_at_call 86; refine (utf8_ValidRune r _).mono ?_; rintro e w' ⟨rfl, rfl⟩; rw [hv])
      go_step3
      go_wp2
      refine wp_loop_rounds 1 ?_
      rw [rounds_succ]
      go_wp2_with fail
      go_step3
      go_wp2
      go_region
      go_wp2
      · go_region_held3 (fun _ => True) (exact trivial) (first | (go_at_call 85; refine (hc _).mono ?_; rintro e w1 ⟨rfl, rfl⟩))
        go_wp2
        rw [Exit.noGoto_ret]
        go_wp2
        rw [Exit.noGoto_ret]
        go_ret
        exact ⟨rfl, ((Below.refl _ _).drew).drew⟩
    · have n2 : ¬ (((({ data := #[46, 95, 43, 45] } : ByteArray)[3]'(show 3 < 4 by decide)).toNat : Int) = ((({ data := #[a, b, c, d] } : ByteArray)[3]'(show 3 < 4 by decide)).toNat : Int)) := by
        show ¬ ((45 : Int) = (d.toNat : Int))
        omega
      have hw2 : IntKind.i64.wrap 4 = 4 := by decide
      have hc : ∀ W, Calls Tryd.prog 85 #[.string ByteArray.empty, .int .u8 ((({ data := #[a, b, c, d] } : ByteArray)[3]'(show 3 < 4 by decide)).toNat : Int)] W fun e w' => e = .returned (.int .i64 (-1)) ∧ w' = W := fun W => by
        have := strings_IndexByte ByteArray.empty (d.toNat : Int) W
        rw [show ((d.toNat : Int).toNat.toUInt8) = d by simp, indexByte_high d hd _ (by decide)] at this
        exact this
      go_enter Tryd.func78, Tryd.ntmps78
      go_wp2_with (go_at_call 86; refine (utf8_ValidRune r _).mono ?_; rintro e w' ⟨rfl, rfl⟩; rw [hv])
      go_step3
      go_wp2
      refine wp_loop_rounds 1 ?_
      rw [rounds_succ]
      go_wp2_with fail
      go_step3
      go_wp2
      go_region
      go_wp2
      · go_region_held3 (fun _ => True) (exact trivial) (first | (go_at_call 85; refine (hc _).mono ?_; rintro e w1 ⟨rfl, rfl⟩))
        go_wp2
        rw [Exit.noGoto_ret]
        go_wp2
        rw [Exit.noGoto_ret]
        go_ret
        exact ⟨rfl, ((Below.refl _ _).drew).drew⟩
end Go.Proofs.YtpdopjpibmhamaaDoor.Ad
