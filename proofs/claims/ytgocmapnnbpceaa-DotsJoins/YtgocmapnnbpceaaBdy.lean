/-
  What the laws' own helper 'body' returns, for all bytes; what the document's own Stuff returns, of a body.
-/
import Derived.Test.YtgocmapnnbpceaaBld
namespace Go.Proofs.Ytgocmapnnbpceaa.Ln
open Go.RowKit
set_option linter.unusedVariables false
set_option linter.unusedSimpArgs false

theorem mem_getD {bs : List Nat} {k : Nat} (h : k < bs.length) : bs.getD k 0 ∈ bs := by
  have e : bs.getD k 0 = bs[k] := by simp [h]
  rw [e]
  exact List.getElem_mem _
theorem all_getD {bs : List Nat} {v : Nat} (h : ∀ j, j < bs.length → bs.getD j 0 ≠ v) : ∀ c ∈ bs, c ≠ v := fun c hc => by
  obtain ⟨j, hj, rfl⟩ := List.mem_iff_getElem.1 hc
  have := h j hj
  simpa [hj] using this
theorem bodyB_13 {bs : List Nat} {k : Nat} (hk : k < bs.length) (h : bs.getD k 0 = 13) : bodyB bs = false := by
  cases hb : bodyB bs with
  | false => rfl
  | true =>
    simp only [bodyB, Bool.and_eq_true, List.all_eq_true, bne_iff_ne] at hb
    exact absurd h (hb.1 _ (mem_getD hk))
theorem bodyB_nil : bodyB [] = true := rfl
theorem bodyB_last {bs : List Nat} (h : ∀ j, j < bs.length → bs.getD j 0 ≠ 13) (h0 : 0 < bs.length) : bodyB bs = (bs.getD (bs.length - 1) 0 == 10) := by
  have h1 := all_getD h
  have e : bs.getLast? = some (bs.getD (bs.length - 1) 0) := by
    rw [List.getLast?_eq_getElem?, List.getElem?_eq_getElem (by omega)]
    simp [show bs.length - 1 < bs.length by omega]
  have ha : bs.all (fun c => c != 13) = true := by
    rw [List.all_eq_true]
    intro c hc
    simpa using h1 c hc
  rw [bodyB, ha, e]
  simp

set_option maxHeartbeats 4000000 in
set_option maxRecDepth 100000 in
theorem body {P : Nat → Prop} {w : World} {x : Option Addr} {n cap : Nat} {bs : List Nat} (hn : n = bs.length) (hcap : n ≤ cap) (hB : Bytes P w x bs) (hl : n ≤ 1099511627776) :
    Calls Try.prog 10 #[.slice x n cap] w fun e w' => e = .returned (.bool (bodyB bs)) ∧ w' = w := by
  have HB := Lib.hid hB
  have HN := Lib.hid hn
  clear hB hn
  go_enter Try.func10, Try.ntmps10
  go_wp2
  go_loop [3] (fun z => ∃ k : Nat, k ≤ n ∧ z = .int .i64 (k : Int) ∧ Hid (∀ j, j < k → bs.getD j 0 ≠ 13)) (fun z => n - (intOf z).toNat)
  case atStart => exact ⟨0, Nat.zero_le _, rfl, fun j hj => absurd hj (Nat.not_lt_zero _)⟩
  case round =>
    obtain ⟨k, hk, rfl, HR⟩ := hrel
    by_cases h1 : (k : Int) < (n : Int)
    · obtain ⟨b, off, _, rfl, c0⟩ := HB.out.at k (by have := HN.out; omega)
      obtain ⟨c, hc⟩ : ∃ c, c = bs.getD k 0 := ⟨_, rfl⟩
      rw [← hc] at c0
      have HC := Lib.hid hc
      have hcl : c < 256 := by rw [hc]; exact getD_lt HB.out.1 k (by have := HN.out; omega)
      clear hc
      by_cases hc13 : c = 13
      · subst hc13
        have HX := Lib.hid (bodyB_13 (bs := bs) (k := k) (by have := HN.out; omega) HC.out.symm)
        go_wp2
        go_ret
        exact ⟨by rw [HX.out]; rfl, rfl⟩
      · have hc' : ¬ ((c : Int) = 13) := by omega
        go_wp2
        go_round
        case rel => exact ⟨k + 1, by omega, by go_num, fun j hj => by
          rcases Nat.lt_or_eq_of_le (Nat.le_of_lt_succ hj) with h | h
          · exact HR.out j h
          · subst h; rw [← HC.out]; exact hc13⟩
        case measure => simp [intOf]; omega
    · by_cases h0 : (n : Int) = 0
      · obtain rfl : n = 0 := by omega
        have e0 : bs = [] := List.eq_nil_of_length_eq_zero HN.out.symm
        have HX : Hid (bodyB bs = true) := by show _ = _; rw [e0]; rfl
        clear e0
        go_wp2
        go_ret
        exact ⟨by rw [HX.out]; rfl, rfl⟩
      · obtain ⟨p, hp⟩ : ∃ p : Nat, n = p + 1 := ⟨n - 1, by omega⟩
        subst hp
        obtain ⟨b, off, _, rfl, c0⟩ := HB.out.at p (by have := HN.out; omega)
        obtain ⟨c, hc⟩ : ∃ c, c = bs.getD p 0 := ⟨_, rfl⟩
        have hX := bodyB_last (bs := bs) (fun j hj => HR.out j (by have := HN.out; omega)) (by have := HN.out; omega)
        have hp' : bs.length - 1 = p := by have := HN.out; omega
        rw [hp', ← hc] at hX
        rw [← hc] at c0
        have HX := Lib.hid hX
        have hcl : c < 256 := by rw [hc]; exact getD_lt HB.out.1 p (by have := HN.out; omega)
        clear hX hc hp'
        have ep : ((p + 1 : Nat) : Int) - 1 = (p : Int) := by omega
        by_cases hc10 : c = 10
        · subst hc10
          go_wp2
          go_ret
          exact ⟨by rw [HX.out]; rfl, rfl⟩
        · have hc' : ¬ ((c : Int) = 10) := by omega
          go_wp2
          go_ret
          have e1 : (((p : Int) + 1) == 0) = false := by rw [beq_eq_false_iff_ne]; omega
          have e2 : ((c : Int) == 10) = false := by rw [beq_eq_false_iff_ne]; omega
          exact ⟨by rw [HX.out]; simp [hc10, e1, e2], rfl⟩

/-! ### The document's own Stuff -/
/-- How far it is: D are the texts up to place a; from there to k there is no 10. -/
structure StAt (bs : List Nat) (D : List (List Nat)) (a k : Nat) : Prop where
  le : a ≤ k
  no10 : ∀ l ∈ D, ∀ c ∈ l, c ≠ 10
  front : bs.take a = joinL D
  more : ∀ j, a ≤ j → j < k → bs.getD j 0 ≠ 10
theorem StAt.start (bs : List Nat) : StAt bs [] 0 0 := ⟨Nat.le_refl _, by simp, rfl, fun j _ h => absurd h (Nat.not_lt_zero _)⟩
theorem mid_mem {bs : List Nat} {a k : Nat} (hk : k ≤ bs.length) (h : ∀ j, a ≤ j → j < k → bs.getD j 0 ≠ 10) : ∀ c ∈ (bs.take k).drop a, c ≠ 10 := by
  refine all_getD fun j hj => ?_
  have hj' : a + j < k := by simp at hj; omega
  have := h (a + j) (by omega) hj'
  have e : ((bs.take k).drop a).getD j 0 = bs.getD (a + j) 0 := by simp [hj']
  rw [e]
  exact this
theorem StAt.hit {bs : List Nat} {D : List (List Nat)} {a k : Nat} (h : StAt bs D a k) (hk : k < bs.length) (e : bs.getD k 0 = 10) : StAt bs (D ++ [(bs.take k).drop a]) (k + 1) (k + 1) := by
  refine ⟨Nat.le_refl _, fun l hl => ?_, ?_, fun j h1 h2 => by omega⟩
  · rcases List.mem_append.1 hl with hl | hl
    · exact h.no10 l hl
    · obtain rfl : l = (bs.take k).drop a := by simpa using hl
      exact mid_mem (by omega) h.more
  · have e' : bs[k] = 10 := by simpa [hk] using e
    rw [joinL_snoc, ← h.front, List.take_succ_eq_append_getElem hk, e']
    have : bs.take a = (bs.take k).take a := by rw [List.take_take, Nat.min_eq_left h.le]
    rw [this, List.take_append_drop]
theorem StAt.miss {bs : List Nat} {D : List (List Nat)} {a k : Nat} (h : StAt bs D a k) (e : bs.getD k 0 ≠ 10) : StAt bs D a (k + 1) :=
  ⟨Nat.le_succ_of_le h.le, h.no10, h.front, fun j h1 h2 => by
    rcases Nat.lt_or_eq_of_le (Nat.le_of_lt_succ h2) with h3 | h3
    · exact h.more j h1 h3
    · subst h3; exact e⟩
theorem StAt.done {bs : List Nat} {D : List (List Nat)} {a : Nat} (h : StAt bs D a bs.length) (hb : bodyB bs = true) : linesOf bs = D := by
  have hL := bodyB_body hb
  simp only [bodyB, Bool.and_eq_true, Bool.or_eq_true, beq_iff_eq, List.all_eq_true, bne_iff_ne] at hb
  have ha : bs.length ≤ a := by
    rcases Nat.lt_or_ge a bs.length with hlt | hge
    · exfalso
      have hne : bs ≠ [] := by rintro rfl; simp at hlt
      rcases hb.2 with h2 | h2
      · exact hne (List.getLast?_eq_none_iff.1 h2)
      · have := h.more (bs.length - 1) (by omega) (by omega)
        rw [List.getLast?_eq_getElem?] at h2
        simp [h2] at this
    · exact hge
  have hf := h.front
  rw [List.take_of_length_le ha] at hf
  refine body_lines ⟨fun l hl c hc => ⟨h.no10 l hl c hc, hb.1 c ?_⟩, hf⟩
  rw [hf]
  clear hf hL hb h ha
  induction D with
  | nil => simp at hl
  | cons d D ih =>
    rcases List.mem_cons.1 hl with rfl | hl
    · simp [joinL, hc]
    · simp [joinL, ih hl]
theorem StAt.size {bs : List Nat} {D : List (List Nat)} {a k n : Nat} (h : StAt bs D a k) (hn : n = bs.length) (hl : n ≤ 100000) : (str (stuffs D)).size ≤ 300000 := by
  rw [str_size]
  have h1 := stuffs_count D
  have h2 := congrArg List.length h.front
  rw [List.length_take] at h2
  omega
theorem head_mid {bs : List Nat} {a k : Nat} (h : a < k) (hk : k ≤ bs.length) : ((bs.take k).drop a).head? = some (bs.getD a 0) := by
  rw [List.head?_eq_getElem?]
  simp [h, show a < bs.length by omega]
theorem str_46 (X : List Nat) : str X ++ { data := #[46] } = str (X ++ [46]) := str_append X [46]
theorem str_1310 (X : List Nat) : str X ++ { data := #[13, 10] } = str (X ++ [13, 10]) := str_append X [13, 10]
theorem str_10 (X : List Nat) : str X ++ { data := #[10] } = str (X ++ [10]) := str_append X [10]
theorem str_end (X : List Nat) : str X ++ { data := #[46, 13, 10] } = str (X ++ [46, 13, 10]) := str_append X [46, 13, 10]

set_option maxHeartbeats 4000000 in
set_option maxRecDepth 100000 in
theorem refStuff {P : Nat → Prop} {w : World} {x : Option Addr} {n cap : Nat} {bs : List Nat} (hn : n = bs.length) (hcap : n ≤ cap) (hB : Bytes P w x bs) (hl : n ≤ 100000) (hb : bodyB bs = true) :
    Calls Try.prog 11 #[.slice x n cap] w fun e w' => e = .returned (.string (str (stuffM (linesOf bs)))) ∧ w' = w := by
  have HB := Lib.hid hB
  have HN := Lib.hid hn
  have HBB := Lib.hid hb
  clear hB hn hb
  go_enter Try.func11, Try.ntmps11
  go_wp2
  go_loop [3, 4, 5] (fun s y z => ∃ (k a : Nat) (D : List (List Nat)), k ≤ n ∧ a ≤ k ∧ z = .int .i64 (k : Int) ∧ y = .int .i64 (a : Int) ∧ s = .string (str (stuffs D)) ∧ Hid (StAt bs D a k)) (fun _ _ z => n - (intOf z).toNat)
  case atStart => exact ⟨0, 0, [], Nat.zero_le _, Nat.le_refl _, rfl, rfl, rfl, StAt.start bs⟩
  case round =>
    obtain ⟨k, a, D, hk, hak, rfl, rfl, rfl, HS⟩ := hrel
    have hz1 := HS.out.size HN.out hl
    by_cases h1 : (k : Int) < (n : Int)
    · obtain ⟨b, off, _, rfl, c0⟩ := HB.out.at k (by have := HN.out; omega)
      obtain ⟨c, hc⟩ : ∃ c, c = bs.getD k 0 := ⟨_, rfl⟩
      rw [← hc] at c0
      have HC := Lib.hid hc
      have hcl : c < 256 := by rw [hc]; exact getD_lt HB.out.1 k (by have := HN.out; omega)
      clear hc
      by_cases hc10 : c = 10
      · subst hc10
        obtain ⟨s1, s2⟩ := cut_mid (some ⟨b, off, none⟩) n cap a k hak (by omega)
        have hs := run_str (HB.out.mid cap a k hak (by have := HN.out; omega) (by have := HN.out; omega)) (k - a) (cap - a) (by have := HN.out; simp; omega)
        rw [if_neg (by omega)] at hs s1 s2
        simp only [Option.map, Addr.add_mid] at hs s1 s2
        have HS2 := Lib.hid (HS.out.hit (by have := HN.out; omega) HC.out.symm)
        obtain ⟨t, ht⟩ : ∃ t, t = (bs.take k).drop a := ⟨_, rfl⟩
        rw [← ht] at hs HS2
        have hz2 : (str t).size ≤ 100000 := by rw [str_size, ht]; simp; omega
        by_cases h2 : (a : Int) < (k : Int)
        · obtain ⟨b', off', _, e', c1⟩ := HB.out.at a (by have := HN.out; omega)
          injection e' with e'
          injection e' with e1 e2
          subst e1 e2
          have hh : t.head? = some (bs.getD a 0) := by rw [ht]; exact head_mid (by omega) (by have := HN.out; omega)
          obtain ⟨d, hd⟩ : ∃ d, d = bs.getD a 0 := ⟨_, rfl⟩
          rw [← hd] at c1 hh
          by_cases hd46 : d = 46
          · subst hd46
            have HT : Hid (stuffT t = 46 :: t) := by show _ = _; rw [stuffT, if_pos hh]
            clear hh hd ht
            go_wp2
            go_round
            case rel => exact ⟨k + 1, k + 1, D ++ [t], by omega, by omega, by go_num, by go_num, by
              rw [stuffs_snoc, HT.out]
              simp only [str_46, str_append, str_1310]
              simp, HS2.out⟩
            case measure => simp [intOf]; omega
          · have hd' : ¬ ((d : Int) = 46) := by omega
            have HT : Hid (stuffT t = t) := by show _ = _; rw [stuffT, if_neg (by rw [hh]; simpa using hd46)]
            clear hh hd ht
            go_wp2
            go_round
            case rel => exact ⟨k + 1, k + 1, D ++ [t], by omega, by omega, by go_num, by go_num, by
              rw [stuffs_snoc, HT.out]
              simp only [str_46, str_append, str_1310], HS2.out⟩
            case measure => simp [intOf]; omega
        · have h0 : t = [] := by rw [ht, List.drop_eq_nil_iff]; simp; omega
          have HT : Hid (stuffT t = t) := by show _ = _; rw [h0]; rfl
          clear ht h0
          go_wp2
          go_round
          case rel => exact ⟨k + 1, k + 1, D ++ [t], by omega, by omega, by go_num, by go_num, by
            rw [stuffs_snoc, HT.out]
            simp only [str_46, str_append, str_1310], HS2.out⟩
          case measure => simp [intOf]; omega
      · have hc' : ¬ ((c : Int) = 10) := by omega
        have HS2 := Lib.hid (HS.out.miss (by rw [← HC.out]; exact hc10))
        go_wp2
        go_round
        case rel => exact ⟨k + 1, a, D, by omega, by omega, by go_num, rfl, rfl, HS2.out⟩
        case measure => simp [intOf]; omega
    · have HX : Hid (linesOf bs = D) := by
        have e : k = bs.length := by have := HN.out; omega
        have hS := HS.out
        rw [e] at hS
        exact hS.done HBB.out
      go_wp2
      go_ret
      refine ⟨?_, rfl⟩
      rw [HX.out, str_end]
      rfl
end Go.Proofs.Ytgocmapnnbpceaa.Ln
