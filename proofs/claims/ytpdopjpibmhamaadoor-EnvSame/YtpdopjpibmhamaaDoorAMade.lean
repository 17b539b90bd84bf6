/-
  Texts of letters, digits and some signs alone.
-/
import Derived.Test.YtpdopjpibmhamaaDoorARunes
namespace Go.Proofs.YtpdopjpibmhamaaDoor.Ad
open Go.RowKit
set_option linter.unusedVariables false
set_option linter.unusedSimpArgs false

/-- The two lists of signs that are asked for. -/
def Signs (g : ByteArray) : Prop := g = { data := #[45] } ∨ g = { data := #[46, 95, 43, 45] }
def signB (g : ByteArray) (r : Int) : Bool := decide (r < 128) && g.data.toList.contains r.toNat.toUInt8
theorem indexByte_contains (c : UInt8) : ∀ l : List UInt8, decide (0 ≤ Lib.indexByte l c) = l.contains c
  | [] => rfl
  | x :: l => by
    have ih := indexByte_contains c l
    have hg := Lib.indexByte_ge l c
    unfold Lib.indexByte
    rw [List.contains_cons, Bool.beq_comm, ← ih]
    cases hx : (c == x) with
    | true =>
      rw [Bool.beq_comm] at hx
      simp [hx]
    | false =>
      rw [Bool.beq_comm] at hx
      simp only [hx, Bool.false_eq_true, if_false, Bool.false_or]
      split
      · rename_i h
        rw [beq_iff_eq] at h
        rw [h]
      · rename_i h
        have hne : Lib.indexByte l c ≠ -1 := fun e => h (by rw [e]; rfl)
        rw [decide_eq_decide]
        omega

set_option maxHeartbeats 4000000 in
set_option maxRecDepth 100000 in
theorem containsRune_walk (g : ByteArray) (hg : Signs g) (r : Int) (h0 : 0 ≤ r) (w : World) :
    Calls Tryd.prog 68 #[.string g, .int .i32 r] w fun e w' => e = .returned (.bool (signB g r)) ∧ Below w.heap.size w w' := by
  by_cases h1 : r < 128
  · refine (strings_ContainsRune_ascii g r w h0 h1).mono ?_
    rintro e w' ⟨rfl, rfl⟩
    refine ⟨?_, Below.refl _ _⟩
    rw [indexByte_contains, signB, decide_eq_true h1, Bool.true_and]
  · have hc : Calls Tryd.prog 78 #[.string g, .int .i32 r] w fun e w' => e = .returned (.int .i64 (-1)) ∧ Below w.heap.size w w' := by
      by_cases h2 : r = 65533
      · subst h2
        refine indexRune_error g w ?_
        rcases hg with rfl | rfl
        · decide
        · decide
      · rcases hg with rfl | rfl
        · exact indexRune_one r w (by omega) h2
        · exact indexRune_four r w (by omega) h2
    rw [signB, decide_eq_false h1, Bool.false_and]
    go_enter Tryd.func68, Tryd.ntmps68
    go_wp2_with (go_at_call 78; refine hc.mono ?_; rintro e w1 ⟨rfl, hb⟩)
    go_ret
    exact ⟨rfl, hb⟩

/-! ### isMadeOf -/
def okB (g : ByteArray) (c : UInt8) : Bool := plain c || g.data.toList.contains c
theorem madeOf_take {g : ByteArray} {l : List UInt8} {k : Nat} (h : k < l.length) (ht : madeOf g.data.toList (l.take k) = true) (hk : okB g l[k] = true) : madeOf g.data.toList (l.take (k + 1)) = true := by
  unfold madeOf at *
  rw [List.take_succ_eq_append_getElem h, List.all_append, ht]
  simp only [List.all_cons, List.all_nil, Bool.and_true, Bool.true_and]
  exact hk
theorem madeOf_false {g : ByteArray} {l : List UInt8} {k : Nat} (h : k < l.length) (hk : okB g l[k] = false) : madeOf g.data.toList l = false := by
  unfold madeOf
  rw [List.all_eq_false]
  exact ⟨l[k], List.getElem_mem h, by unfold okB at hk; rw [hk]; decide⟩
theorem okB_low (g : ByteArray) (c : UInt8) (h : c.toNat < 128) : okB g c = (plainZ (c.toNat : Int) || signB g (c.toNat : Int)) := by
  have e : (c.toNat : Int).toNat.toUInt8 = c := by simp
  rw [okB, signB, e, decide_eq_true (by omega), Bool.true_and]
  rfl
theorem okB_high (g : ByteArray) (hg : Signs g) (c : UInt8) (h : 128 ≤ c.toNat) : okB g c = false := by
  have h1 : plain c = false := by
    simp [plain, plainZ]
    omega
  have h2 : ∀ x ∈ g.data.toList, x.toNat < 128 := by rcases hg with rfl | rfl <;> decide
  rw [okB, h1, Bool.false_or]
  cases hc : g.data.toList.contains c with
  | false => rfl
  | true =>
    rw [List.contains_iff_mem] at hc
    have := h2 c hc
    omega

theorem plainZ_high (r : Int) (h : 128 ≤ r) : plainZ r = false := by
  simp [plainZ]
  omega

set_option maxHeartbeats 4000000 in
set_option maxRecDepth 100000 in
theorem isMadeOf_walk (s g : ByteArray) (hg : Signs g) (w : World) :
    Calls Tryd.prog 53 #[.string s, .string g] w fun e w' => e = .returned (.bool (madeOf g.data.toList s.data.toList)) ∧ Below w.heap.size w w' := by
  have hsz : s.data.toList.length = s.size := Array.length_toList
  go_enter Tryd.func53, Tryd.ntmps53
  go_wp2
  go_loopw [] (fun wr => ∃ pos, wr.heap[w.heap.size]? = some (.stringIter s pos) ∧ Below w.heap.size w wr ∧ pos ≤ s.size ∧ madeOf g.data.toList (s.data.toList.take pos) = true) (fun wr => s.size - wr.iterPos w.heap.size)
  case atStart =>
    refine ⟨0, ?_, (Below.refl _ w).alloc (Nat.le_refl _) _, by omega, rfl⟩
    have := World.iter_heap w s 0
    simpa using this
  case round =>
    obtain ⟨pos, hit, hbw, hle, hall⟩ := hrel
    by_cases hp : pos < s.size
    · have hnx : ∀ ty, (Instr.next (.pointer (some ⟨w.heap.size, 0, none⟩)) true ty).run Tryd.prog wr = _ := fun ty => Lib.run_next_any_at wr w.heap.size s pos ty hit hp
      have hgt : s.data.toList[pos]'(by omega) = s[pos]'hp := by simp [ByteArray.getElem_eq_getElem_data]
      have hlt : w.heap.size < wr.heap.size := (Array.getElem?_eq_some_iff.1 hit).1
      by_cases hl : (s[pos]'hp).toNat < 128
      · have ea := decode_ascii s pos hp hl
        have hit2 := Lib.iterAt_heap wr w.heap.size s pos (pos + 1) hit
        have hbw2 := Lib.below_iterAt hbw (k := w.heap.size) (by omega) s (pos + 1)
        have hsi := Lib.iterAt_size wr w.heap.size s (pos + 1)
        have hok := okB_low g (s[pos]'hp) hl
        cases hpl : plainZ ((s[pos]'hp).toNat : Int) with
        | true =>
          rw [hpl, Bool.true_or] at hok
          go_wp2_with (go_at_call 67; refine (isPlain_walk _ _).mono ?_; rintro e w1 ⟨rfl, rfl⟩; rw [hpl])
          go_roundw
          case rel => exact ⟨pos + 1, hit2, hbw2, by omega, madeOf_take (by omega) hall (by rw [hgt]; exact hok)⟩
          case measure =>
            simp only [World.iterPos, hit2, hit]
            omega
        | false =>
          rw [hpl, Bool.false_or] at hok
          cases hsg : signB g ((s[pos]'hp).toNat : Int) with
          | true =>
            rw [hsg] at hok
            go_wp2_with (first | (go_at_call 67; refine (isPlain_walk _ _).mono ?_; rintro e w1 ⟨rfl, rfl⟩; rw [hpl]) | (go_at_call 68; refine (containsRune_walk g hg _ (by omega) _).mono ?_; rintro e w1 ⟨rfl, hb1⟩; rw [hsg]))
            go_roundw
            case rel => exact ⟨pos + 1, (hb1.block _ (by omega)).trans hit2, hbw2.trans (hb1.mono (by omega)), by omega, madeOf_take (by omega) hall (by rw [hgt]; exact hok)⟩
            case measure =>
              simp only [World.iterPos, (hb1.block _ (by omega)).trans hit2, hit]
              omega
          | false =>
            rw [hsg] at hok
            go_wp2_with (first | (go_at_call 67; refine (isPlain_walk _ _).mono ?_; rintro e w1 ⟨rfl, rfl⟩; rw [hpl]) | (go_at_call 68; refine (containsRune_walk g hg _ (by omega) _).mono ?_; rintro e w1 ⟨rfl, hb1⟩; rw [hsg]))
            go_ret
            refine ⟨?_, hbw2.trans (hb1.mono (by omega))⟩
            rw [madeOf_false (g := g) (k := pos) (by omega) (by rw [hgt]; exact hok)]
            rfl
      · have hd := decode_high s pos hp (by omega)
        have hpl : plainZ ((Utf8.decode s pos).1 : Int) = false := plainZ_high _ (by omega)
        have hsg : signB g ((Utf8.decode s pos).1 : Int) = false := by rw [signB, decide_eq_false (by omega), Bool.false_and]
        have hbw2 := Lib.below_iterAt hbw (k := w.heap.size) (by omega) s (pos + (Utf8.decode s pos).2)
        have hsi := Lib.iterAt_size wr w.heap.size s (pos + (Utf8.decode s pos).2)
        have hok := okB_high g hg (s[pos]'hp) (by omega)
        go_wp2_with (first | (go_at_call 67; refine (isPlain_walk _ _).mono ?_; rintro e w1 ⟨rfl, rfl⟩; rw [hpl]) | (go_at_call 68; refine (containsRune_walk g hg _ (by omega) _).mono ?_; rintro e w1 ⟨rfl, hb1⟩; rw [hsg]))
        go_ret
        refine ⟨?_, hbw2.trans (hb1.mono (by omega))⟩
        rw [madeOf_false (g := g) (k := pos) (by omega) (by rw [hgt]; exact hok)]
        rfl
    · have hnx : ∀ ty, (Instr.next (.pointer (some ⟨w.heap.size, 0, none⟩)) true ty).run Tryd.prog wr = _ := fun ty => Lib.run_next_end_at wr w.heap.size s pos ty hit hp
      go_wp2
      go_ret
      rw [List.take_of_length_le (by omega)] at hall
      rw [hall]
      exact ⟨rfl, hbw⟩
end Go.Proofs.YtpdopjpibmhamaaDoor.Ad
