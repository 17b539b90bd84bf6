/-
  The document's Num and Dec.
-/
import Derived.Test.YtcjljldknekhiaaGreatDoorKg12
import Derived.Test.YtcjljldknekhiaaGreatDoorKg8
namespace Go.Proofs.YtcjljldknekhiaaGreatDoor.Ad
open Go.RowKit
set_option linter.unusedVariables false
set_option linter.unusedSimpArgs false

def numV (l : List UInt8) : Value := .tuple #[.int .i64 (if isNum l then (num l : Int) else 0), .bool (isNum l)]
theorem num_take {l : List UInt8} {k : Nat} (h : k < l.length) : num (l.take (k + 1)) = num (l.take k) * 10 + (l[k].toNat - 48) := by
  rw [List.take_add_one, List.getElem?_eq_getElem h, num, numFrom_append]
  rfl
theorem num_small {l : List UInt8} {k : Nat} (hk : k ≤ 9) (h : (l.take k).all isDig = true) : num (l.take k) < 1000000000 := by
  have h1 := numFrom_le (l.take k) 0 h
  have h2 : 10 ^ (l.take k).length ≤ 1000000000 := Nat.le_trans (Nat.pow_le_pow_right (by decide) (show (l.take k).length ≤ 9 by rw [List.length_take]; omega)) (by decide)
  rw [num]
  omega

set_option maxHeartbeats 4000000 in
set_option maxRecDepth 100000 in
theorem refNum_walk (s : ByteArray) (hs : s.size ≤ 100000) (w : World) : Calls Tryz.prog 44 #[.string s] w fun e w' => e = .returned (numV s.data.toList) ∧ w' = w := by
  have hsz := len_size s
  by_cases h9 : (s.size : Int) ≤ 9
  · go_enter Tryz.func44, Tryz.ntmps44
    go_wp2
    go_loopw [4, 5] (fun z4 z5 wr => ∃ k n : Nat, k ≤ s.size ∧ z4 = .int .i64 (n : Int) ∧ z5 = .int .i64 (k : Int) ∧ RowKit.Hid (num (s.data.toList.take k) = n) ∧ n < 1000000000 ∧ RowKit.Hid ((s.data.toList.take k).all isDig = true) ∧ wr = w) (fun _ z _ => s.size - (Lib.intOf z).toNat)
    case atStart => exact ⟨0, 0, by omega, rfl, rfl, Lib.hid rfl, by omega, Lib.hid rfl, rfl⟩
    case round =>
      obtain ⟨k, n, hk, rfl, rfl, hn, hnb, hall, hw⟩ := hrel
      obtain rfl : w = wr := hw.symm
      clear hw
      by_cases hlt : (k : Int) < (s.size : Int)
      · have hp : k < s.size := by omega
        have hgt : s.data.toList[k]'(by omega) = s[k]'hp := get_list s k hp
        have hc8 := (s[k]'hp).toNat_lt
        by_cases d1 : ((s[k]'hp).toNat : Int) < 48
        · have hb := Lib.hid (isNum_bad (l := s.data.toList) (k := k) (by omega) (by rw [hgt, isDig]; simp; omega))
          go_wp2
          go_ret2
          exact ⟨by rw [numV, hb.out]; rfl, rfl⟩
        by_cases d2 : 57 < ((s[k]'hp).toNat : Int)
        · have hb := Lib.hid (isNum_bad (l := s.data.toList) (k := k) (by omega) (by rw [hgt, isDig]; simp; omega))
          go_wp2
          go_ret2
          exact ⟨by rw [numV, hb.out]; rfl, rfl⟩
        have hall2 := Lib.hid (isNum_take (l := s.data.toList) (k := k) (by omega) hall.out (by rw [hgt, isDig]; simp; omega))
        have hn2 := num_take (l := s.data.toList) (k := k) (by omega)
        rw [hn.out, hgt] at hn2
        have hsm := num_small (l := s.data.toList) (k := k + 1) (by omega) hall2.out
        have hv : ((n * 10 + ((s[k]'hp).toNat - 48) : Nat) : Int) = (n : Int) * 10 + (((s[k]'hp).toNat : Int) - 48) := by omega
        rw [hn2] at hsm
        have HV := Lib.hid hv
        have HN := Lib.hid hn2
        have HS := Lib.hid hsm
        clear hv hn2 hsm hgt hn hall
        go_wp2
        go_roundw
        case rel => exact ⟨k + 1, n * 10 + ((s[k]'hp).toNat - 48), by omega, by rw [HV.out], by simp, HN, HS.out, hall2, trivial⟩
        case measure =>
          simp [Lib.intOf]
          omega
      · have hno := hn.out
        have hao := hall.out
        rw [List.take_of_length_le (by omega)] at hno hao
        by_cases h1 : (1 : Int) ≤ (s.size : Int)
        · have hI : isNum s.data.toList = true := by
            rw [isNum, hao, decide_eq_true (by omega), decide_eq_true (by omega)]
            rfl
          have HI := Lib.hid hI
          have HO := Lib.hid hno
          clear hno hao hI hn hall
          go_wp2
          go_ret2
          exact ⟨by rw [numV, HI.out, HO.out]; rfl, rfl⟩
        · have hI : isNum s.data.toList = false := by
            rw [isNum, decide_eq_false (show ¬ 1 ≤ s.data.toList.length by omega)]
            rfl
          have hn0 : n = 0 := by
            have : s.data.toList = [] := List.eq_nil_of_length_eq_zero (by omega)
            rw [this] at hno
            exact hno.symm
          subst hn0
          have HI := Lib.hid hI
          clear hno hao hI hn hall
          go_wp2
          go_ret2
          exact ⟨by rw [numV, HI.out]; rfl, rfl⟩
  · have hI : isNum s.data.toList = false := by
      rw [isNum, decide_eq_false (show ¬ s.data.toList.length ≤ 9 by omega), Bool.false_and, Bool.and_false]
    have HI := Lib.hid hI
    clear hI
    go_enter Tryz.func44, Tryz.ntmps44
    go_wp2
    go_loopw [4, 5] (fun z4 z5 wr => ∃ k : Nat, k ≤ s.size ∧ z4 = .int .i64 0 ∧ z5 = .int .i64 (k : Int) ∧ wr = w) (fun _ z _ => s.size - (Lib.intOf z).toNat)
    case atStart => exact ⟨0, by omega, rfl, rfl, rfl⟩
    case round =>
      obtain ⟨k, hk, rfl, rfl, hw⟩ := hrel
      obtain rfl : w = wr := hw.symm
      clear hw
      by_cases hlt : (k : Int) < (s.size : Int)
      · have hp : k < s.size := by omega
        by_cases d1 : ((s[k]'hp).toNat : Int) < 48
        · go_wp2
          go_ret2
          exact ⟨by rw [numV, HI.out]; rfl, rfl⟩
        by_cases d2 : 57 < ((s[k]'hp).toNat : Int)
        · go_wp2
          go_ret2
          exact ⟨by rw [numV, HI.out]; rfl, rfl⟩
        go_wp2
        go_roundw
        case rel => exact ⟨k + 1, by omega, rfl, by simp, trivial⟩
        case measure =>
          simp [Lib.intOf]
          omega
      · have h1 : (1 : Int) ≤ (s.size : Int) := by omega
        go_wp2
        go_ret2
        refine ⟨?_, rfl⟩
        have hd : decide ((s.size : Int) ≤ 9) = false := decide_eq_false (by omega)
        rw [numV, HI.out]
        show Ending.returned (.tuple #[.int .i64 0, .bool (decide ((s.size : Int) ≤ 9))]) = _
        rw [hd]
        rfl

/-! ### Dec -/
def dec (n : Nat) : List UInt8 := if n < 10 then [UInt8.ofNat (48 + n)] else dec (n / 10) ++ [UInt8.ofNat (48 + n % 10)]
theorem dig_of (d : Nat) (h : d < 10) : isDig (UInt8.ofNat (48 + d)) = true ∧ (UInt8.ofNat (48 + d)).toNat - 48 = d := by
  have : (UInt8.ofNat (48 + d)).toNat = 48 + d := by rw [UInt8.toNat_ofNat']; omega
  rw [isDig, this]
  simp
  omega
theorem dec_spec : ∀ (c n : Nat), n < 10 ^ (c + 1) → (dec n).all isDig = true ∧ num (dec n) = n ∧ 1 ≤ (dec n).length ∧ (dec n).length ≤ c + 1
  | c, n, h => by
    unfold dec
    by_cases h10 : n < 10
    · rw [if_pos h10]
      obtain ⟨h1, h2⟩ := dig_of n h10
      refine ⟨by rw [List.all_cons, h1]; rfl, ?_, by simp, by simp⟩
      show 0 * 10 + ((UInt8.ofNat (48 + n)).toNat - 48) = n
      omega
    · rw [if_neg h10]
      match c, h with
      | 0, h => simp at h; omega
      | c + 1, h =>
        have hlt : n / 10 < 10 ^ (c + 1) := by
          rw [Nat.pow_succ] at h
          omega
        obtain ⟨i1, i2, i3, i4⟩ := dec_spec c (n / 10) hlt
        obtain ⟨h1, h2⟩ := dig_of (n % 10) (by omega)
        refine ⟨by rw [List.all_append, i1, List.all_cons, h1]; rfl, ?_, by simp, by simp; omega⟩
        rw [num, numFrom_append, show numFrom 0 (dec (n / 10)) = n / 10 from i2]
        show n / 10 * 10 + ((UInt8.ofNat (48 + n % 10)).toNat - 48) = n
        rw [h2]
        omega
theorem dec_num {n : Nat} (h : n < 1000000000) : isNum (dec n) = true ∧ num (dec n) = n ∧ (dec n).length ≤ 9 := by
  obtain ⟨h1, h2, h3, h4⟩ := dec_spec 8 n (by simpa using h)
  refine ⟨?_, h2, h4⟩
  rw [isNum, h1, decide_eq_true h3, decide_eq_true h4]
  rfl
theorem one_back (w : World) (d : Nat) (hd : d < 256) : (convert 34 9 (.slice (some ⟨w.heap.size, 0, none⟩) 1 1)).run Tryz.prog (w.alloc (.cells #[.int .u8 (d : Int)] 5)) = .ok (.string (bs [UInt8.ofNat d])) (w.alloc (.cells #[.int .u8 (d : Int)] 5)) := by
  refine bytes_back (w.alloc (.cells #[.int .u8 (d : Int)] 5)) w.heap.size 1 [UInt8.ofNat d] ?_
  intro j hj
  obtain rfl : j = 0 := by simpa using hj
  have e : ([UInt8.ofNat d][0]'hj).toNat = d := by
    show (UInt8.ofNat d).toNat = d
    rw [UInt8.toNat_ofNat']
    omega
  rw [e]
  have hrow := heap_alloc_new w (.cells #[.int .u8 (d : Int)] 5)
  exact ⟨cell_of_row _ _ 0 _ 5 (0, 0) hrow, frozen_of_row _ _ 0 _ 5 hrow⟩
theorem dec_step {c : Nat} (h : 10 ≤ c) : dec c = dec (c / 10) ++ [UInt8.ofNat (48 + c % 10)] := by
  rw [dec, if_neg (by omega)]
theorem dec_last {c : Nat} (h : c < 10) : dec c = [UInt8.ofNat (48 + c % 10)] := by
  rw [dec, if_pos h, Nat.mod_eq_of_lt h]

set_option maxHeartbeats 4000000 in
set_option maxRecDepth 100000 in
theorem refDec_walk (n : Nat) (hn : n < 1000000000) (w : World) : Calls Tryz.prog 53 #[.int .i64 (n : Int)] w fun e w' => e = .returned (.string (bs (dec n))) ∧ Below w.heap.size w w' := by
  by_cases h0 : n = 0
  · subst h0
    go_enter Tryz.func53, Tryz.ntmps53
    go_wp2
    go_ret
    exact ⟨by rw [dec, if_pos (by decide)]; rfl, Below.refl _ _⟩
  · have h0' : ((n : Int) == 0) = false := by rw [beq_eq_false_iff_ne]; omega
    go_enter Tryz.func53, Tryz.ntmps53
    go_wp2
    go_loopw [0, 3] (fun z0 z3 wr => ∃ (c : Nat) (t : List UInt8), c ≤ n ∧ z0 = .int .i64 (c : Int) ∧ z3 = .string (bs t) ∧ t.length ≤ 9 ∧ RowKit.Hid ((0 < c ∧ dec n = dec c ++ t) ∨ (c = 0 ∧ dec n = t)) ∧ Below w.heap.size w wr) (fun z _ _ => (Lib.intOf z).toNat)
    case atStart => exact ⟨n, [], by omega, rfl, rfl, by simp, Lib.hid (.inl ⟨by omega, by simp⟩), Below.refl _ _⟩
    case round =>
      obtain ⟨c, t, hc, rfl, rfl, hl, hd, hb⟩ := hrel
      by_cases hp : (0 : Int) < (c : Int)
      · have hp2 : 0 < c := by omega
        have hb2 := hb.alloc (o := .cells #[.int .u8 ((48 + c % 10 : Nat) : Int)] 5) hb.size
        have hv := one_back wr (48 + c % 10) (by omega)
        have he : ((48 + c % 10 : Nat) : Int) = 48 + (c : Int) % 10 := by omega
        rw [he] at hv hb2
        obtain ⟨t', ht'⟩ : ∃ t', UInt8.ofNat (48 + c % 10) :: t = t' := ⟨_, rfl⟩
        have happ : bs [UInt8.ofNat (48 + c % 10)] ++ bs t = bs t' := by rw [bs_append, ← ht']; rfl
        have hd2 : RowKit.Hid ((0 < c / 10 ∧ dec n = dec (c / 10) ++ t') ∨ (c / 10 = 0 ∧ dec n = t')) := Lib.hid (by
          rcases hd.out with ⟨_, e⟩ | ⟨e, _⟩
          · by_cases h10 : 10 ≤ c
            · exact .inl ⟨by omega, by rw [e, dec_step h10, ← ht', List.append_assoc]; rfl⟩
            · exact .inr ⟨by omega, by rw [e, dec_last (by omega), ← ht']; rfl⟩
          · omega)
        have hl2 : t'.length ≤ 9 := by
          have h9 := (dec_num hn).2.2
          rcases hd2.out with ⟨_, e⟩ | ⟨_, e⟩
          · rw [e, List.length_append] at h9
            omega
          · rw [e] at h9
            exact h9
        have hdiv : ((c / 10 : Nat) : Int) = (c : Int) / 10 := by omega
        have HDIV := Lib.hid hdiv
        have HT := Lib.hid ht'
        have hX : (bs [UInt8.ofNat (48 + c % 10)]).size = 1 := rfl
        have hbt : (bs t).size ≤ 9 := by rw [bs_size]; exact hl
        generalize bs [UInt8.ofNat (48 + c % 10)] = X at hv happ hX
        clear he hd hdiv ht'
        go_wp2
        go_roundw
        case rel => exact ⟨c / 10, t', by omega, by rw [HDIV.out], rfl, hl2, hd2, hb2⟩
        case measure =>
          simp [Lib.intOf]
          omega
      · have hc0 : c = 0 := by omega
        subst hc0
        have he : dec n = t := by
          rcases hd.out with ⟨e, _⟩ | ⟨_, e⟩
          · omega
          · exact e
        have HE := Lib.hid he
        clear he
        go_wp2
        go_ret
        exact ⟨by rw [HE.out]; rfl, hb⟩
end Go.Proofs.YtcjljldknekhiaaGreatDoor.Ad
