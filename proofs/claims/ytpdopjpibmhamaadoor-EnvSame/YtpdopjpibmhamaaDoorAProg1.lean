/-
  The program's labels, local parts and domains.
-/
import Derived.Test.YtpdopjpibmhamaaDoorABuild
import Derived.Lib.Hide
namespace Go.Proofs.YtpdopjpibmhamaaDoor.Ad
open Go.RowKit
set_option linter.unusedVariables false
set_option linter.unusedSimpArgs false

theorem len_size (s : ByteArray) : s.data.toList.length = s.size := Array.length_toList

set_option maxHeartbeats 4000000 in
set_option maxRecDepth 100000 in
theorem fits_walk (s : ByteArray) (w : World) : Calls Tryd.prog 50 #[.string s] w fun e w' => e = .returned (.bool (fits s.data.toList)) ∧ w' = w := by
  rw [fits, len_size]
  by_cases h : (1 : Int) ≤ (s.size : Int)
  · go_enter Tryd.func50, Tryd.ntmps50
    go_wp2
    go_ret
    refine ⟨?_, rfl⟩
    rw [decide_eq_true (show 1 ≤ s.size by omega), Bool.true_and]
    simp
    omega
  · go_enter Tryd.func50, Tryd.ntmps50
    go_wp2
    go_ret
    refine ⟨?_, rfl⟩
    rw [decide_eq_false (show ¬ 1 ≤ s.size by omega), Bool.false_and]
    rfl

set_option maxHeartbeats 4000000 in
set_option maxRecDepth 100000 in
theorem hasEnd_walk (s g : ByteArray) (hs : s.size ≤ 9223372036854775807) (w : World) : Calls Tryd.prog 51 #[.string s, .string g] w fun e w' => e = .returned (.bool (hasEnd s.data.toList g.data.toList)) ∧ w' = w := by
  rw [hasEnd]
  cases h : Lib.hasPrefix s.data.toList g.data.toList with
  | true =>
    go_enter Tryd.func51, Tryd.ntmps51
    go_wp2_with (go_at_call 64; refine (strings_HasPrefix _ _ _).mono ?_; rintro e w' ⟨rfl, rfl⟩; rw [h])
    go_ret
    exact ⟨rfl, rfl⟩
  | false =>
    go_enter Tryd.func51, Tryd.ntmps51
    go_wp2_with (first | (go_at_call 64; refine (strings_HasPrefix _ _ _).mono ?_; rintro e w' ⟨rfl, rfl⟩; rw [h]) | (go_at_call 65; refine (strings_HasSuffix _ _ _ hs).mono ?_; rintro e w' ⟨rfl, rfl⟩))
    go_ret
    exact ⟨rfl, rfl⟩

set_option maxHeartbeats 4000000 in
set_option maxRecDepth 100000 in
theorem isLabel_walk (s : ByteArray) (hs : s.size ≤ 9223372036854775807) (w : World) : Calls Tryd.prog 55 #[.string s] w fun e w' => e = .returned (.bool (label s.data.toList)) ∧ Below w.heap.size w w' := by
  rw [label]
  cases h1 : fits s.data.toList with
  | false =>
    go_enter Tryd.func55, Tryd.ntmps55
    go_wp2_with (go_at_call 50; refine (fits_walk _ _).mono ?_; rintro e w' ⟨rfl, rfl⟩; rw [h1])
    go_ret
    exact ⟨rfl, Below.refl _ _⟩
  | true =>
    cases h2 : hasEnd s.data.toList [45] with
    | true =>
      go_enter Tryd.func55, Tryd.ntmps55
      go_wp2_with (first | (go_at_call 50; refine (fits_walk _ _).mono ?_; rintro e w' ⟨rfl, rfl⟩; rw [h1]) | (go_at_call 51; refine (hasEnd_walk _ _ hs _).mono ?_; rintro e w' ⟨rfl, rfl⟩; rw [show hasEnd s.data.toList ({ data := #[45] } : ByteArray).data.toList = true from h2]))
      go_ret
      exact ⟨rfl, Below.refl _ _⟩
    | false =>
      go_enter Tryd.func55, Tryd.ntmps55
      go_wp2_with (first | (go_at_call 50; refine (fits_walk _ _).mono ?_; rintro e w' ⟨rfl, rfl⟩; rw [h1]) | (go_at_call 51; refine (hasEnd_walk _ _ hs _).mono ?_; rintro e w' ⟨rfl, rfl⟩; rw [show hasEnd s.data.toList ({ data := #[45] } : ByteArray).data.toList = false from h2]) | (go_at_call 53; refine (isMadeOf_walk _ _ (.inl rfl) _).mono ?_; rintro e w1 ⟨rfl, hb⟩))
      go_ret
      exact ⟨rfl, hb⟩

set_option maxHeartbeats 4000000 in
set_option maxRecDepth 100000 in
theorem isLocal_walk (s : ByteArray) (hs : s.size ≤ 1000) (m : Int) (w : World) (hm : w.cell? ⟨0, 0, none⟩ = some (.int .i64 m)) : Calls Tryd.prog 43 #[.string s] w fun e w' => e = .returned (.bool (loc s.data.toList)) ∧ Below w.heap.size w w' := by
  rw [loc]
  have c2 : ∀ W, Calls Tryd.prog 51 #[.string s, .string { data := #[46] }] W fun e w' => e = .returned (.bool (hasEnd s.data.toList [46])) ∧ w' = W := fun W => hasEnd_walk s { data := #[46] } (by omega) W
  have c3 : ∀ W, W.cell? ⟨0, 0, none⟩ = some (.int .i64 m) → Calls Tryd.prog 52 #[.string s, .string { data := #[46, 46] }] W fun e w' => e = .returned (.bool (Lib.contains s.data.toList [46, 46])) ∧ w' = W := fun W h => strings_Contains s { data := #[46, 46] } m W (by omega) h
  cases h1 : fits s.data.toList with
  | false =>
    go_enter Tryd.func43, Tryd.ntmps43
    go_wp2_with (go_at_call 50; refine (fits_walk _ _).mono ?_; rintro e w' ⟨rfl, rfl⟩; rw [h1])
    go_ret
    exact ⟨rfl, Below.refl _ _⟩
  | true =>
    cases h2 : hasEnd s.data.toList [46] with
    | true =>
      go_enter Tryd.func43, Tryd.ntmps43
      go_wp2_with (first | (go_at_call 50; refine (fits_walk _ _).mono ?_; rintro e w' ⟨rfl, rfl⟩; rw [h1]) | (go_at_call 51; refine (c2 _).mono ?_; rintro e w' ⟨rfl, rfl⟩; rw [h2]))
      go_ret
      exact ⟨rfl, Below.refl _ _⟩
    | false =>
      cases h3 : Lib.contains s.data.toList [46, 46] with
      | true =>
        go_enter Tryd.func43, Tryd.ntmps43
        go_wp2_with (first | (go_at_call 50; refine (fits_walk _ _).mono ?_; rintro e w' ⟨rfl, rfl⟩; rw [h1]) | (go_at_call 51; refine (c2 _).mono ?_; rintro e w' ⟨rfl, rfl⟩; rw [h2]) | (go_at_call 52; refine (c3 _ hm).mono ?_; rintro e w' ⟨rfl, rfl⟩; rw [h3]))
        go_ret
        exact ⟨rfl, Below.refl _ _⟩
      | false =>
        go_enter Tryd.func43, Tryd.ntmps43
        go_wp2_with (first | (go_at_call 50; refine (fits_walk _ _).mono ?_; rintro e w' ⟨rfl, rfl⟩; rw [h1]) | (go_at_call 51; refine (c2 _).mono ?_; rintro e w' ⟨rfl, rfl⟩; rw [h2]) | (go_at_call 52; refine (c3 _ hm).mono ?_; rintro e w' ⟨rfl, rfl⟩; rw [h3]) | (go_at_call 53; refine (isMadeOf_walk _ _ (.inr rfl) _).mono ?_; rintro e w1 ⟨rfl, hb⟩))
        go_ret
        exact ⟨rfl, hb⟩

/-! ### Domain -/
/-- What Split answers, at a point. -/
def dots (s : ByteArray) : List ByteArray := Lib.splitB { data := #[46] } 0 (Lib.countB s { data := #[46] }) s
theorem dots_data (s : ByteArray) : (dots s).map (·.data.toList) = cuts 46 s.data.toList := by
  unfold dots
  rw [Lib.splitB_data]
  exact (split_cuts 46 _ s.data.toList (Nat.le_refl _)).1
theorem dots_length (s : ByteArray) : (dots s).length = Lib.countB s { data := #[46] } + 1 := by
  have h := congrArg List.length (dots_data s)
  rw [List.length_map] at h
  rw [h, ← (split_cuts 46 _ s.data.toList (Nat.le_refl _)).1]
  exact (split_cuts 46 _ s.data.toList (Nat.le_refl _)).2
theorem dots_label (s : ByteArray) : (dots s).all (fun p => label p.data.toList) = (cuts 46 s.data.toList).all label := by
  rw [← dots_data, List.all_map]
  rfl
theorem cuts_short (c : UInt8) : ∀ (l : List UInt8), (cuts c l).length ≤ l.length + 1 ∧ ∀ p ∈ cuts c l, p.length ≤ l.length
  | [] => by simp [cuts]
  | x :: r => by
    obtain ⟨h1, h2⟩ := cuts_short c r
    obtain ⟨q, t, e⟩ := List.exists_cons_of_ne_nil (cuts_ne c r)
    unfold cuts
    split
    · refine ⟨by simp; omega, fun p hp => ?_⟩
      rcases List.mem_cons.1 hp with rfl | hp
      · simp
      · have := h2 p hp
        simp
        omega
    · rw [e] at h1 h2 ⊢
      refine ⟨by simp at h1 ⊢; omega, fun p hp => ?_⟩
      rcases List.mem_cons.1 hp with rfl | hp
      · have := h2 q (List.mem_cons_self ..)
        simp
        omega
      · have := h2 p (List.mem_cons_of_mem _ hp)
        simp
        omega

set_option maxHeartbeats 4000000 in
set_option maxRecDepth 100000 in
theorem domain_walk (s : ByteArray) (m : Int) (w : World) (hm : w.cell? ⟨0, 0, none⟩ = some (.int .i64 m)) : Calls Tryd.prog 44 #[.string s] w fun e w' => e = .returned (.bool (domain s.data.toList)) ∧ Below w.heap.size w w' := by
  rw [domain, len_size]
  by_cases h : (64 : Int) < (s.size : Int)
  · rw [decide_eq_false (show ¬ s.size ≤ 64 by omega), Bool.false_and]
    go_enter Tryd.func44, Tryd.ntmps44
    go_wp2
    go_ret
    exact ⟨rfl, Below.refl _ _⟩
  · rw [decide_eq_true (show s.size ≤ 64 by omega), Bool.true_and, ← dots_label]
    have hn := dots_length s
    have hcs := cuts_short 46 s.data.toList
    rw [← dots_data, List.length_map, len_size] at hcs
    obtain ⟨N, hN⟩ : ∃ N, N = Lib.countB s { data := #[46] } + 1 := ⟨_, rfl⟩
    have hNs : N ≤ 65 := by omega
    have hNd : (dots s).length = N := by omega
    clear hn
    obtain ⟨D, hD⟩ : ∃ D, (dots s).all (fun p => label p.data.toList) = D := ⟨_, rfl⟩
    rw [hD]
    have HD := Lib.hid hD
    clear hD
    have c1 : ∀ W, W.cell? ⟨0, 0, none⟩ = some (.int .i64 m) → Calls Tryd.prog 54 #[.string s, .string { data := #[46] }] W fun e w' => e = .returned (.slice (some ⟨W.heap.size, 0, none⟩) N N) ∧ w' = W.alloc (.cells ((dots s).map Value.string).toArray 9) := fun W hW => by
      rw [hN]
      exact strings_Split s { data := #[46] } m W (by omega) hW (by decide)
    clear hN
    go_enter Tryd.func44, Tryd.ntmps44
    go_wp2_with fail
    refine (c1 _ hm).mono ?_
    rintro e w1 ⟨rfl, hw1⟩
    have hcell : ∀ k (hk : k < (dots s).length), w1.cell? ⟨w.heap.size, k, none⟩ = some (.string ((dots s)[k]'hk)) := fun k hk => by
      rw [hw1, World.cell?_alloc_new]
      simp [hk]
    have hb0 : Below w.heap.size w w1 := by rw [hw1]; exact (Below.refl _ w).alloc (Nat.le_refl _) _
    have hs1 : w.heap.size < w1.heap.size := by rw [hw1]; simp
    clear hw1
    go_wp2
    go_loopw [11] (fun z wr => ∃ k : Nat, k ≤ N ∧ z = .int .i64 (k : Int) ∧ ((dots s).take k).all (fun p => label p.data.toList) = true ∧ Below w1.heap.size w1 wr) (fun z _ => N - (Lib.intOf z).toNat)
    case atStart => exact ⟨0, by omega, rfl, rfl, Below.refl _ _⟩
    case round =>
      obtain ⟨k, hk, rfl, hall, hbr⟩ := hrel
      by_cases hlt : (k : Int) < (N : Int)
      · have hkl : k < (dots s).length := by omega
        have hc := (hbr.cell (p := ⟨w.heap.size, k, none⟩) hs1).trans (hcell k hkl)
        have hps : ((dots s)[k]'hkl).size ≤ 64 := by
          have := hcs.2 _ (List.mem_map_of_mem (f := fun p : ByteArray => p.data.toList) (List.getElem_mem hkl))
          rw [len_size] at this
          omega
        cases hl : label ((dots s)[k]'hkl).data.toList with
        | true =>
          go_wp2_with (go_at_call 55; refine (isLabel_walk _ (by omega) _).mono ?_; rintro e w2 ⟨rfl, hb2⟩; rw [hl])
          go_roundw
          case rel =>
            refine ⟨k + 1, by omega, by simp, ?_, hbr.trans (hb2.mono hbr.size)⟩
            rw [List.take_succ_eq_append_getElem hkl, List.all_append, hall]
            simp [hl]
          case measure =>
            simp [Lib.intOf]
            omega
        | false =>
          go_wp2_with (go_at_call 55; refine (isLabel_walk _ (by omega) _).mono ?_; rintro e w2 ⟨rfl, hb2⟩; rw [hl])
          go_ret
          refine ⟨?_, hb0.trans ((hbr.trans (hb2.mono hbr.size)).mono (by omega))⟩
          rw [← HD.out, show (dots s).all (fun p => label p.data.toList) = false from List.all_eq_false.2 ⟨_, List.getElem_mem hkl, by rw [hl]; decide⟩]
          rfl
      · have hkN : k = N := by omega
        rw [List.take_of_length_le (by omega)] at hall
        have hDt : D = true := HD.out.symm.trans hall
        subst hDt
        go_wp2
        go_ret
        exact ⟨rfl, hb0.trans (hbr.mono (by omega))⟩
end Go.Proofs.YtpdopjpibmhamaaDoor.Ad
