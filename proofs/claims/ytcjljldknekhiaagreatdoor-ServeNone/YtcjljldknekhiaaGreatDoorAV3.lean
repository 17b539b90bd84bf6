/-
  The program's cutKey, isNumber, hello.
-/
import Derived.Test.YtcjljldknekhiaaGreatDoorAV1
import Derived.Test.YtcjljldknekhiaaGreatDoorAV2
import Derived.Laws.DeepStrings4
namespace Go.Proofs.YtcjljldknekhiaaGreatDoor.Ad
open Go.RowKit
set_option linter.unusedVariables false
set_option linter.unusedSimpArgs false

theorem extract_list (s : ByteArray) (a b : Nat) : s.extract a b = bs ((s.data.toList.drop a).take (b - a)) := by
  apply ByteArray.ext
  rw [ByteArray.data_extract]
  apply Array.ext'
  simp [bs, List.extract_eq_take_drop, Array.toList_extract]
theorem take_list (s : ByteArray) (k : Nat) : s.extract 0 k = bs (s.data.toList.take k) := by rw [extract_list, List.drop_zero, Nat.sub_zero]
theorem drop_list (s : ByteArray) (k : Nat) : s.extract k s.size = bs (s.data.toList.drop k) := by
  rw [extract_list, List.take_of_length_le]
  rw [List.length_drop, len_size]
  exact Nat.le_refl _

def cutKeyV (key l : List UInt8) : Value := .tuple #[.string (bs (if keyed key l then l.drop key.length else [])), .bool (keyed key l)]

set_option maxHeartbeats 4000000 in
set_option maxRecDepth 100000 in
theorem cutKey_walk (s key : ByteArray) (hs : s.size ≤ 9223372036854775807) (hk : key.size ≤ 5) (w : World) : Calls Tryz.prog 160 #[.string s, .string key] w fun e w' => e = .returned (cutKeyV key.data.toList s.data.toList) ∧ Below w.heap.size w w' := by
  have hl := len_size s
  have hkl := len_size key
  by_cases h : (s.size : Int) < (key.size : Int)
  · have hf : keyed key.data.toList s.data.toList = false := by rw [keyed, decide_eq_false (by omega), Bool.false_and]
    rw [cutKeyV, hf]
    go_enter Tryz.func160, Tryz.ntmps160
    go_wp2
    go_ret2
    exact ⟨rfl, Below.refl _ _⟩
  · have ht2 : s.extract 0 key.size = bs (s.data.toList.take key.size) := take_list s key.size
    have hd2 : s.extract key.size s.size = bs (s.data.toList.drop key.size) := drop_list s key.size
    have c1 := vgreat_walk (s.extract 0 key.size) (by rw [ht2, bs_size, List.length_take]; omega) w
    obtain ⟨g, hg⟩ : ∃ g, g = bs ((s.extract 0 key.size).data.toList.map upper) := ⟨_, rfl⟩
    rw [← hg] at c1
    have hkd : keyed key.data.toList s.data.toList = (g.toList == key.toList) := by
      rw [keyed, decide_eq_true (by omega), Bool.true_and, hkl, ByteArray.toList_eq, ByteArray.toList_eq, hg, bs_data, ht2, bs_data]
      rfl
    have hv : cutKeyV key.data.toList s.data.toList = .tuple #[.string (if (g.toList == key.toList) then s.extract key.size s.size else { data := #[] }), .bool (g.toList == key.toList)] := by
      rw [cutKeyV, hkd, hkl, hd2]
      cases (g.toList == key.toList) <;> rfl
    rw [hv]
    clear hkd hv hg ht2 hd2 hl hkl
    cases hq : (g.toList == key.toList) with
    | false =>
      go_enter Tryz.func160, Tryz.ntmps160
      go_wp2_with fail
      refine c1.mono ?_
      rintro e w1 ⟨rfl, hb1⟩
      go_wp2
      go_ret2
      exact ⟨rfl, hb1⟩
    | true =>
      go_enter Tryz.func160, Tryz.ntmps160
      go_wp2_with fail
      refine c1.mono ?_
      rintro e w1 ⟨rfl, hb1⟩
      go_wp2
      go_ret2
      exact ⟨rfl, hb1⟩

/-! ### Digits -/
theorem isNum_take {l : List UInt8} {k : Nat} (h : k < l.length) (ht : (l.take k).all isDig = true) (hk : isDig l[k] = true) : (l.take (k + 1)).all isDig = true := by
  rw [List.take_add_one, List.getElem?_eq_getElem h, List.all_append, ht]
  simpa using hk
theorem isNum_bad {l : List UInt8} {k : Nat} (h : k < l.length) (hk : isDig l[k] = false) : isNum l = false := by
  have : l.all isDig = false := List.all_eq_false.2 ⟨_, List.getElem_mem h, by rw [hk]; decide⟩
  rw [isNum, this, Bool.and_false, Bool.and_false]

set_option maxHeartbeats 4000000 in
set_option maxRecDepth 100000 in
theorem isNumber_walk (s : ByteArray) (w : World) : Calls Tryz.prog 162 #[.string s] w fun e w' => e = .returned (.bool (isNum s.data.toList)) ∧ Below w.heap.size w w' := by
  have hsz := len_size s
  by_cases h1 : (s.size : Int) < 1
  · have hf : isNum s.data.toList = false := by rw [isNum, decide_eq_false (by omega), Bool.false_and]
    rw [hf]
    go_enter Tryz.func162, Tryz.ntmps162
    go_wp2
    go_ret
    exact ⟨rfl, Below.refl _ _⟩
  by_cases h2 : (9 : Int) < (s.size : Int)
  · have hf : isNum s.data.toList = false := by rw [isNum, decide_eq_false (show ¬ s.data.toList.length ≤ 9 by omega), Bool.false_and, Bool.and_false]
    rw [hf]
    go_enter Tryz.func162, Tryz.ntmps162
    go_wp2
    go_ret
    exact ⟨rfl, Below.refl _ _⟩
  go_enter Tryz.func162, Tryz.ntmps162
  go_wp2
  go_loopw [] (fun wr => ∃ pos, wr.heap[w.heap.size]? = some (.stringIter s pos) ∧ Below w.heap.size w wr ∧ pos ≤ s.size ∧ (s.data.toList.take pos).all isDig = true) (fun wr => s.size - wr.iterPos w.heap.size)
  case atStart =>
    refine ⟨0, ?_, (Below.refl _ w).alloc (Nat.le_refl _) _, by omega, rfl⟩
    have := World.iter_heap w s 0
    simpa using this
  case round =>
    obtain ⟨pos, hit, hbw, hle, hall⟩ := hrel
    by_cases hp : pos < s.size
    · have hnx : ∀ ty, (Instr.next (.pointer (some ⟨w.heap.size, 0, none⟩)) true ty).run Tryz.prog wr = _ := fun ty => Lib.run_next_any_at wr w.heap.size s pos ty hit hp
      have hgt : s.data.toList[pos]'(by omega) = s[pos]'hp := by simp [ByteArray.getElem_eq_getElem_data]
      have hlt : w.heap.size < wr.heap.size := (Array.getElem?_eq_some_iff.1 hit).1
      by_cases hl : (s[pos]'hp).toNat < 128
      · have ea := decode_ascii s pos hp hl
        have hit2 := Lib.iterAt_heap wr w.heap.size s pos (pos + 1) hit
        have hbw2 := Lib.below_iterAt hbw (k := w.heap.size) (by omega) s (pos + 1)
        by_cases d1 : ((s[pos]'hp).toNat : Int) < 48
        · have hb : isNum s.data.toList = false := isNum_bad (k := pos) (by omega) (by rw [hgt, isDig]; simp; omega)
          go_wp2
          go_ret
          exact ⟨by first | (rw [hb]; rfl) | rfl, hbw2⟩
        by_cases d2 : 57 < ((s[pos]'hp).toNat : Int)
        · have hb : isNum s.data.toList = false := isNum_bad (k := pos) (by omega) (by rw [hgt, isDig]; simp; omega)
          go_wp2
          go_ret
          exact ⟨by first | (rw [hb]; rfl) | rfl, hbw2⟩
        have hok : isDig s.data.toList[pos] = true := by rw [hgt, isDig]; simp; omega
        have hall2 := isNum_take (by omega) hall hok
        go_wp2
        go_roundw
        case rel => exact ⟨pos + 1, hit2, hbw2, by omega, hall2⟩
        case measure =>
          simp only [World.iterPos, hit2, hit]
          omega
      · have hd := decode_high s pos hp (by omega)
        have hbw2 := Lib.below_iterAt hbw (k := w.heap.size) (by omega) s (pos + (Utf8.decode s pos).2)
        have hb : isNum s.data.toList = false := isNum_bad (k := pos) (by omega) (by rw [hgt, isDig]; simp; omega)
        generalize (Utf8.decode s pos).2 = wd at hnx hbw2
        have d1 : ¬ (((Utf8.decode s pos).1 : Int) < 48) := by omega
        have d2 : 57 < ((Utf8.decode s pos).1 : Int) := by omega
        go_wp2
        go_ret
        exact ⟨by first | (rw [hb]; rfl) | rfl, hbw2⟩
    · have hnx : ∀ ty, (Instr.next (.pointer (some ⟨w.heap.size, 0, none⟩)) true ty).run Tryz.prog wr = _ := fun ty => Lib.run_next_end_at wr w.heap.size s pos ty hit hp
      have hn : isNum s.data.toList = true := by
        rw [List.take_of_length_le (by omega)] at hall
        rw [isNum, hall, decide_eq_true (by omega), decide_eq_true (by omega)]
        rfl
      go_wp2
      go_ret
      exact ⟨by first | (rw [hn]; rfl) | rfl, hbw⟩

set_option maxHeartbeats 4000000 in
set_option maxRecDepth 100000 in
theorem hello_walk (s : ByteArray) (hs : s.size ≤ 9223372036854775807) (b : Bool) (m : Int) (w : World) (hm : w.cell? ⟨2, 0, none⟩ = some (.int .i64 m)) : Calls Tryz.prog 139 #[.string s, .bool b] w fun e w' => e = .returned (outV (helloM s.data.toList)) ∧ Below w.heap.size w w' := by
  have c1 := domain_walk s m w hm
  have c2 := vsmall_walk s hs
  rw [helloM]
  cases hd : domain s.data.toList with
  | false =>
    rw [hd] at c1
    go_enter Tryz.func139, Tryz.ntmps139
    go_wp2_with fail
    refine c1.mono ?_
    rintro e w1 ⟨rfl, hb1⟩
    go_wp2
    go_ret3
    exact ⟨rfl, hb1⟩
  | true =>
    rw [hd] at c1
    show Calls _ _ _ _ (fun e w' => e = .returned (.tuple #[.string (bs (s.data.toList.map lower)), .int .i64 (-1), .int .i64 0]) ∧ _)
    generalize bs (s.data.toList.map lower) = X at c2 ⊢
    go_enter Tryz.func139, Tryz.ntmps139
    go_wp2_with fail
    refine c1.mono ?_
    rintro e w1 ⟨rfl, hb1⟩
    go_wp2_with fail
    refine (c2 _).mono ?_
    rintro e w2 ⟨rfl, hb2⟩
    go_wp2
    go_ret3
    exact ⟨rfl, hb1.trans (hb2.mono hb1.size)⟩
end Go.Proofs.YtcjljldknekhiaaGreatDoor.Ad
