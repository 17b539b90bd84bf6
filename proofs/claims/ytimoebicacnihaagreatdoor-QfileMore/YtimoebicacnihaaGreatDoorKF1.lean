/-
  What the document's own Texts and Same return.
-/
import Derived.Test.YtimoebicacnihaaGreatDoorKg13
import Derived.Test.YtimoebicacnihaaGreatDoorKE0
namespace Go.Proofs.YtimoebicacnihaaGreatDoor.Ln
open Go.RowKit
set_option linter.unusedVariables false
set_option linter.unusedSimpArgs false
set_option maxHeartbeats 2000000 in
theorem textsC {P Q : Nat → Prop} {w : World} (x : Option Addr) (n c : Nat) (L : List ByteArray) (y : Option Addr) (m d : Nat) (M : List ByteArray) (hn : n = L.length) (hm : m = M.length) (hl : n ≤ 1000000) (hL : TxP P w x L) (hM : TxP Q w y M) :
    Calls Tryz.prog 31 #[.slice x n c, .slice y m d] w (Quiet (.bool (decide (L = M))) w) := by
  have HN := Lib.hid hn
  have HM := Lib.hid hm
  have HX := Lib.hid hL
  have HY := Lib.hid hM
  clear hn hm hL hM
  by_cases hnm : ¬ ((n : Int) = (m : Int))
  · have HV : Hid (decide (L = M) = false) := Lib.hid (decide_eq_false (fun e => hnm (by rw [HN.out, HM.out, e])))
    have hne : ((n : Int) != (m : Int)) = true := by simpa using hnm
    clear hnm
    go_enter Tryz.func31, Tryz.ntmps31
    go_wp2
    go_ret
    exact ⟨by rw [HV.out]; rfl, Keep.refl _ _⟩
  obtain rfl : n = m := by omega
  clear hnm
  go_enter Tryz.func31, Tryz.ntmps31
  go_wp2
  go_loopw [5] (fun i wr => ∃ k : Nat, k ≤ n ∧ i = .int .i64 (k : Int) ∧ Hid (Keep (fun _ => False) w wr ∧ L.take k = M.take k)) (fun i _ => n - (intOf i).toNat)
  case atStart => exact ⟨0, by omega, rfl, Keep.refl _ _, rfl⟩
  case round =>
    obtain ⟨k, hk, rfl, HR⟩ := hrel
    by_cases hlt : (k : Int) < (n : Int)
    · have hkl : k < L.length := by have := HN.out; omega
      have hkm : k < M.length := by have := HM.out; omega
      obtain ⟨b, off, _, _, hx, hc⟩ := HX.out.at k hkl
      obtain ⟨b', off', _, _, hy, hc'⟩ := HY.out.at k hkm
      subst hx hy
      have c1 := HR.out.1.cell hc (fun h => h)
      have c2 := HR.out.1.cell hc' (fun h => h)
      obtain ⟨s, hs⟩ : ∃ s, s = L[k] := ⟨_, rfl⟩
      obtain ⟨t, ht⟩ : ∃ t, t = M[k] := ⟨_, rfl⟩
      rw [← hs] at c1
      rw [← ht] at c2
      have HS : Hid (∃ h1 h2, s = L[k]'h1 ∧ t = M[k]'h2) := Lib.hid ⟨hkl, hkm, hs, ht⟩
      have k0 : (0 : Int) ≤ (k : Int) := by omega
      clear hc hc' hs ht hkl hkm
      by_cases hst : s = t
      · subst hst
        go_wp2
        go_quiet (fail)
        go_wp2
        go_roundw
        case rel => exact ⟨k + 1, by omega, by go_num, keepDrewN HR.out.1 nq, by
          obtain ⟨h1, h2, h3, h4⟩ := HS.out
          rw [List.take_succ_eq_append_getElem h1, List.take_succ_eq_append_getElem h2, HR.out.2, ← h3, ← h4]⟩
        case measure => simp [intOf]; omega
      · have hne := list_beq hst
        have hne2 := list_bne hst
        go_wp2
        go_quiet (fail)
        go_wp2
        go_ret
        have hv : decide (L = M) = false := decide_eq_false (fun e => by
          obtain ⟨h1, h2, h3, h4⟩ := HS.out
          apply hst
          subst e
          rw [h3, h4])
        exact ⟨by rw [hv]; rfl, keepDrewN HR.out.1 nq⟩
    · have hkn : k = n := by omega
      go_wp2
      go_ret
      have hv : decide (L = M) = true := decide_eq_true (by
        have := HR.out.2
        rw [hkn, List.take_of_length_le (by rw [HN.out]; exact Nat.le_refl _), List.take_of_length_le (by rw [HM.out]; exact Nat.le_refl _)] at this
        exact this)
      exact ⟨by rw [hv]; rfl, HR.out.1⟩


set_option maxHeartbeats 4000000 in
set_option maxRecDepth 100000 in
theorem refSameC {P Q : Nat → Prop} {w : World} {a c : Ml} {rx : Option Addr} {rn rc : Nat} {bx : Option Addr} {bn bc : Nat} {rx' : Option Addr} {rn' rc' : Nat} {bx' : Option Addr} {bn' bc' : Nat} (h : MlIt P w a rx rn bx bn) (h' : MlIt Q w c rx' rn' bx' bn') (hl : rn ≤ 1000000) :
    Calls Tryz.prog 12 #[.agg (mlC a rx rn rc bx bn bc), .agg (mlC c rx' rn' rc' bx' bn' bc')] w (Quiet (.bool (sameB a c)) w) := by
  have kA := (keep_new w (.cells (mlC a rx rn rc bx bn bc) 25)).alloc (.cells (mlC c rx' rn' rc' bx' bn' bc') 25)
  have HA := Lib.hid (h.quiet kA)
  have HB := Lib.hid (h'.quiet kA)
  have K0 := Lib.hid kA
  have HLN := Lib.hid hl
  have q5 : ((w.alloc (.cells (mlC a rx rn rc bx bn bc) 25)).alloc (.cells (mlC c rx' rn' rc' bx' bn' bc') 25)).cell? ⟨w.heap.size, 5, none⟩ = some (.slice bx bn bc) := ((At.new w 25 (mlC a rx rn rc bx bn bc)).alloc _).cell 5
  have p5 : ((w.alloc (.cells (mlC a rx rn rc bx bn bc) 25)).alloc (.cells (mlC c rx' rn' rc' bx' bn' bc') 25)).cell? ⟨w.heap.size + 1, 5, none⟩ = some (.slice bx' bn' bc') := by
    simp [mlC]
  clear h h' kA hl
  obtain ⟨i, p, b, f, L, B⟩ := a
  obtain ⟨i', p', b', f', L', B'⟩ := c
  unfold mlC at *
  simp only at *
  by_cases h0 : i = i'
  · subst h0
    by_cases h1 : p = p'
    · subst h1
      by_cases h2 : b = b'
      · subst h2
        by_cases h3 : f = f'
        · subst h3
          go_enter Tryz.func12, Tryz.ntmps12
          go_wp2_with fail
          refine (textsC rx rn rc L rx' rn' rc' L' HA.out.hrn HB.out.hrn HLN.out HA.out.rs HB.out.rs).mono ?_
          rintro e w1 ⟨rfl, hk1⟩
          have K1 := Lib.hid (K0.out.trans hk1 (fun _ _ h => h))
          have HA1 := Lib.hid (HA.out.quiet hk1)
          have HB1 := Lib.hid (HB.out.quiet hk1)
          have c5 := hk1.cell q5 (fun h => h)
          have d5 := hk1.cell p5 (fun h => h)
          clear hk1 q5 p5
          by_cases h4 : L = L'
          · rw [decide_eq_true h4]
            subst h4
            have sa := run_str HA1.out.bs bn bc HA1.out.hbn.symm
            have sb := run_str HB1.out.bs bn' bc' HB1.out.hbn.symm
            have HI := Lib.hid (fun h : str B = str B' => str_inj HA1.out.bs.1 HB1.out.bs.1 h)
            by_cases h5 : str B = str B'
            · have h6 := HI.out h5
              subst h6
              go_wp2
              go_ret
              exact ⟨by rw [sameB_self]; rfl, K1.out⟩
            · have HV : Hid (sameB ⟨i, p, b, f, L, B⟩ ⟨i, p, b, f, L, B'⟩ = false) := Lib.hid (by
                have : B ≠ B' := fun e => h5 (by rw [e])
                simp [sameB, this])
              have he5 := list_beq h5
              go_wp2
              go_ret
              exact ⟨by rw [HV.out]; rfl, K1.out⟩

          · rw [decide_eq_false h4]
            have HV : Hid (sameB ⟨i, p, b, f, L, B⟩ ⟨i, p, b, f, L', B'⟩ = false) := Lib.hid (by simp [sameB, h4])
            go_wp2
            go_ret
            exact ⟨by rw [HV.out]; rfl, K1.out⟩

        · have he3 := list_beq h3
          have HV : Hid (sameB ⟨i, p, b, f, L, B⟩ ⟨i, p, b, f', L', B'⟩ = false) := Lib.hid (by simp [sameB, h3])
          go_enter Tryz.func12, Tryz.ntmps12
          go_wp2
          go_ret
          exact ⟨by rw [HV.out]; rfl, K0.out⟩

      · have hd2 : decide (b = b') = false := decide_eq_false h2
        have he2 : (b == b') = false := by rw [beq_eq_false_iff_ne]; exact h2
        have HV : Hid (sameB ⟨i, p, b, f, L, B⟩ ⟨i, p, b', f', L', B'⟩ = false) := Lib.hid (by simp [sameB, h2])
        go_enter Tryz.func12, Tryz.ntmps12
        go_wp2
        go_ret
        exact ⟨by rw [HV.out]; rfl, K0.out⟩

    · have hd1 : decide (p = p') = false := decide_eq_false h1
      have he1 : (p == p') = false := by rw [beq_eq_false_iff_ne]; exact h1
      have HV : Hid (sameB ⟨i, p, b, f, L, B⟩ ⟨i, p', b', f', L', B'⟩ = false) := Lib.hid (by simp [sameB, h1])
      go_enter Tryz.func12, Tryz.ntmps12
      go_wp2
      go_ret
      exact ⟨by rw [HV.out]; rfl, K0.out⟩

  · have hd0 : decide (i = i') = false := decide_eq_false h0
    have he0 : (i == i') = false := by rw [beq_eq_false_iff_ne]; exact h0
    have HV : Hid (sameB ⟨i, p, b, f, L, B⟩ ⟨i', p', b', f', L', B'⟩ = false) := Lib.hid (by simp [sameB, h0])
    go_enter Tryz.func12, Tryz.ntmps12
    go_wp2
    go_ret
    exact ⟨by rw [HV.out]; rfl, K0.out⟩

end Go.Proofs.YtimoebicacnihaaGreatDoor.Ln
