/-
  The document's Local.
-/
import Derived.Test.YtpdopjpibmhamaaGreatDoorARefA
import Derived.Test.YtpdopjpibmhamaaGreatDoorALaw
namespace Go.Proofs.YtpdopjpibmhamaaGreatDoor.Ad
open Go.RowKit
set_option linter.unusedVariables false
set_option linter.unusedSimpArgs false

theorem good_point {l : List UInt8} {k : Nat} (hk : k < l.length) (e : l[k] = 46) : goodAt l k = !edge l k := by
  unfold goodAt
  rw [at0_lt hk, e]
  simp
  intro
  decide
theorem good_other {l : List UInt8} {k : Nat} (hk : k < l.length) (e : l[k] ≠ 46) : goodAt l k = (plain l[k] || sgn.contains l[k]) := by
  unfold goodAt
  rw [at0_lt hk, beq_eq_false_iff_ne.2 e]
  simp
theorem get_list (s : ByteArray) (k : Nat) (h : k < s.size) : s.data.toList[k]'(by rw [len_size]; exact h) = s[k]'h := by simp [ByteArray.getElem_eq_getElem_data]
theorem byte_ne {c : UInt8} {n : Nat} (hn : n < 256) (h : ¬ ((c.toNat : Int) = (n : Int))) : c ≠ UInt8.ofNat n := by
  rintro rfl
  apply h
  rw [UInt8.toNat_ofNat']
  omega
theorem byte_eq {c : UInt8} {n : Nat} (hn : n < 256) (h : (c.toNat : Int) = (n : Int)) : c = UInt8.ofNat n := by
  apply UInt8.toNat_inj.1
  rw [UInt8.toNat_ofNat']
  omega

set_option maxHeartbeats 1000000 in
set_option maxRecDepth 100000 in
theorem refLocal_walk (s : ByteArray) (hs : s.size ≤ 100000) (w : World) : Calls Tryz.prog 58 #[.string s] w fun e w' => e = .returned (.bool (loc s.data.toList)) ∧ w' = w := by
  have hlen := len_size s
  obtain ⟨D, hD⟩ : ∃ D, loc s.data.toList = D := ⟨_, rfl⟩
  rw [hD]
  have HD := Lib.hid hD
  clear hD
  obtain ⟨n, hn⟩ : ∃ n, s.size = n := ⟨_, rfl⟩
  go_enter Tryz.func58, Tryz.ntmps58
  go_wp2
  go_loopw [3] (fun z wr => ∃ k : Nat, k ≤ n ∧ z = .int .i64 (k : Int) ∧ wr = w ∧ Hid (∀ j, j < k → goodAt s.data.toList j = true)) (fun z _ => n - (Lib.intOf z).toNat)
  case atStart => exact ⟨0, by omega, rfl, rfl, fun j hj => absurd hj (Nat.not_lt_zero _)⟩
  case round =>
    obtain ⟨k, hk, rfl, rfl, HG⟩ := hrel
    by_cases hlt : (k : Int) < (n : Int)
    · have hp : k < s.size := by omega
      have hkl : k < s.data.toList.length := by omega
      have hg := get_list s k hp
      have hstep : goodAt s.data.toList k = true → Hid (∀ j, j < k + 1 → goodAt s.data.toList j = true) := fun h j hj => by
        rcases Nat.lt_or_ge j k with h1 | h1
        · exact HG j h1
        · rw [show j = k by omega]; exact h
      have hfail : goodAt s.data.toList k = false → D = false := fun h => HD.out.symm.trans (loc_false hkl h)
      have hpt := good_point hkl
      have hot := good_other hkl
      rw [hg] at hpt hot
      have hprev : 0 < k → at0 s.data.toList (k - 1) = s[k - 1]'(by omega) := fun h => by
        rw [at0_lt (by omega)]
        exact get_list s (k - 1) (by omega)
      by_cases h46 : ((s[k]'hp).toNat : Int) = 46
      · have hG := hpt (byte_eq (n := 46) (by decide) h46)
        clear hpt hot
        by_cases h0 : (k : Int) = 0
        · have hDf : D = false := hfail (by rw [hG, edge, decide_eq_true (by omega)]; rfl)
          subst hDf
          clear hstep hfail hprev HG HD
          obtain rfl : k = 0 := by omega
          go_wp2
          go_ret
          exact ⟨rfl, rfl⟩
        · by_cases h1 : (k : Int) = (n : Int) - 1
          · have hDf : D = false := hfail (by rw [hG, edge, decide_eq_true (show k + 1 = s.data.toList.length by omega)]; simp)
            subst hDf
            clear hstep hfail hprev HG HD
            obtain rfl : n = k + 1 := by omega
            clear h1
            go_wp2
            go_ret
            exact ⟨rfl, rfl⟩
          · have hpv := hprev (by omega)
            have hp1 : k - 1 < s.size := by omega
            by_cases h2 : ((s[k - 1]'hp1).toNat : Int) = 46
            · have hDf : D = false := hfail (by rw [hG, edge, hpv, byte_eq (n := 46) (by decide) h2]; simp)
              subst hDf
              clear hstep hfail hprev HG HD
              have hkk : ((k - 1 : Nat) : Int) = (k : Int) - 1 := by omega
              go_wp2
              go_ret
              exact ⟨rfl, rfl⟩
            · have hGt := hstep (by
                rw [hG, edge, hpv, decide_eq_false (by omega), decide_eq_false (by omega), show (s[k - 1]'hp1 == 46) = false from beq_eq_false_iff_ne.2 (byte_ne (n := 46) (by decide) h2)]
                rfl)
              clear hstep hfail hprev
              have hkk : ((k - 1 : Nat) : Int) = (k : Int) - 1 := by omega
              have b0 : ((k : Int) == 0) = false := beq_eq_false_iff_ne.2 h0
              have b1 : ((k : Int) == (n : Int) - 1) = false := beq_eq_false_iff_ne.2 h1
              have b2 : (((s[k - 1]'hp1).toNat : Int) == 46) = false := beq_eq_false_iff_ne.2 h2
              go_wp2_with (go_at_call 68; refine (plain_walk _ _).mono ?_; rintro e w1 ⟨rfl, rfl⟩)
              go_roundw
              case rel => exact ⟨k + 1, by omega, by simp, trivial, hGt⟩
              case measure =>
                simp [Lib.intOf]
                omega
      · have hG := hot (byte_ne (n := 46) (by decide) h46)
        clear hpt hot
        have b46 : (((s[k]'hp).toNat : Int) == 46) = false := beq_eq_false_iff_ne.2 h46
        have q46 : (((s[k]'hp).toNat : Int) != 46) = true := bne_iff_ne.2 h46
        cases hpl : plainZ ((s[k]'hp).toNat : Int) with
        | true =>
          have hGt := hstep (by rw [hG, show plain (s[k]'hp) = true from hpl, Bool.true_or])
          clear hstep hfail hprev
          go_wp2_with (go_at_call 68; refine (plain_walk _ _).mono ?_; rintro e w1 ⟨rfl, rfl⟩; rw [hpl])
          go_roundw
          case rel => exact ⟨k + 1, by omega, by simp, trivial, hGt⟩
          case measure =>
            simp [Lib.intOf]
            omega
        | false =>
          by_cases hsg : ((s[k]'hp).toNat : Int) = 95 ∨ ((s[k]'hp).toNat : Int) = 43 ∨ ((s[k]'hp).toNat : Int) = 45
          · have hGt := hstep (by
              rw [hG]
              rcases hsg with h | h | h
              · rw [byte_eq (n := 95) (by decide) h]; decide
              · rw [byte_eq (n := 43) (by decide) h]; decide
              · rw [byte_eq (n := 45) (by decide) h]; decide)
            clear hstep hfail hprev
            rcases hsg with h | h | h
            · go_wp2_with (go_at_call 68; refine (plain_walk _ _).mono ?_; rintro e w1 ⟨rfl, rfl⟩; rw [show plainZ 95 = false by decide])
              go_roundw
              case rel => exact ⟨k + 1, by omega, by simp, trivial, hGt⟩
              case measure =>
                simp [Lib.intOf]
                omega
            · go_wp2_with (go_at_call 68; refine (plain_walk _ _).mono ?_; rintro e w1 ⟨rfl, rfl⟩; rw [show plainZ 43 = false by decide])
              go_roundw
              case rel => exact ⟨k + 1, by omega, by simp, trivial, hGt⟩
              case measure =>
                simp [Lib.intOf]
                omega
            · go_wp2_with (go_at_call 68; refine (plain_walk _ _).mono ?_; rintro e w1 ⟨rfl, rfl⟩; rw [show plainZ 45 = false by decide])
              go_roundw
              case rel => exact ⟨k + 1, by omega, by simp, trivial, hGt⟩
              case measure =>
                simp [Lib.intOf]
                omega
          · have n1 : ¬ ((s[k]'hp).toNat : Int) = 95 := fun h => hsg (.inl h)
            have n2 : ¬ ((s[k]'hp).toNat : Int) = 43 := fun h => hsg (.inr (.inl h))
            have n3 : ¬ ((s[k]'hp).toNat : Int) = 45 := fun h => hsg (.inr (.inr h))
            clear hsg
            have q1 : (((s[k]'hp).toNat : Int) != 95) = true := bne_iff_ne.2 n1
            have q2 : (((s[k]'hp).toNat : Int) != 43) = true := bne_iff_ne.2 n2
            have q3 : (((s[k]'hp).toNat : Int) != 45) = true := bne_iff_ne.2 n3
            have hDf : D = false := hfail (by
              rw [hG, show plain (s[k]'hp) = false from hpl, Bool.false_or]
              have e0 := byte_ne (n := 46) (by decide) h46
              have e1 := byte_ne (n := 95) (by decide) n1
              have e2 := byte_ne (n := 43) (by decide) n2
              have e3 := byte_ne (n := 45) (by decide) n3
              simp only [sgn, List.contains_cons, List.contains_nil, Bool.or_false, Bool.or_eq_false_iff, beq_eq_false_iff_ne]
              exact ⟨e0, e1, e2, e3⟩)
            subst hDf
            clear hstep hfail hprev HG HD
            go_wp2_with (go_at_call 68; refine (plain_walk _ _).mono ?_; rintro e w1 ⟨rfl, rfl⟩; rw [hpl])
            go_ret
            exact ⟨rfl, rfl⟩
    · have hkn : k = n := by omega
      have hDf : D = fits s.data.toList := HD.out.symm.trans (loc_all (fun j hj => HG j (by omega)))
      have hfl : fits s.data.toList = (decide (1 ≤ n) && decide (n ≤ 32)) := by rw [fits, hlen, hn]
      rw [hfl] at hDf
      subst hDf
      clear HG HD
      by_cases h1 : (1 : Int) ≤ (n : Int)
      · go_wp2
        go_ret
        refine ⟨?_, rfl⟩
        rw [decide_eq_true (show 1 ≤ n by omega), Bool.true_and]
        simp
        omega
      · go_wp2
        go_ret
        refine ⟨?_, rfl⟩
        rw [decide_eq_false (show ¬ 1 ≤ n by omega), Bool.false_and]
        simp
end Go.Proofs.YtpdopjpibmhamaaGreatDoor.Ad
