/-
  What the program's Same returns, for any two mails.
-/
import Derived.Test.YtpdopjpibmhamaaDoorE5
namespace Go.Proofs.YtpdopjpibmhamaaDoor.Ln
open Go.RowKit
set_option linter.unusedVariables false
set_option linter.unusedSimpArgs false

set_option maxHeartbeats 4000000 in
set_option maxRecDepth 100000 in
theorem sameC {P Q : Nat → Prop} {w : World} {a c : Ml} {rx : Option Addr} {rn rc : Nat} {bx : Option Addr} {bn bc : Nat} {rx' : Option Addr} {rn' rc' : Nat} {bx' : Option Addr} {bn' bc' : Nat} (h : MlAt P w a rx rn rc bx bn bc) (h' : MlAt Q w c rx' rn' rc' bx' bn' bc') (hl : rn ≤ 1000000) :
    Calls Tryd.prog 6 #[.agg (mlC a rx rn rc bx bn bc), .agg (mlC c rx' rn' rc' bx' bn' bc')] w (Quiet (.bool (sameB a c)) w) := by
  have kA := (keep_new w (.cells (mlC a rx rn rc bx bn bc) 25)).alloc (.cells (mlC c rx' rn' rc' bx' bn' bc') 25)
  have HA := Lib.hid (h.quiet kA)
  have HB := Lib.hid (h'.quiet kA)
  have K0 := Lib.hid kA
  have HLN := Lib.hid hl
  have q5 : ((w.alloc (.cells (mlC a rx rn rc bx bn bc) 25)).alloc (.cells (mlC c rx' rn' rc' bx' bn' bc') 25)).cell? ⟨w.heap.size, 5, none⟩ = some (.slice bx bn bc) := ((At.new w 25 (mlC a rx rn rc bx bn bc)).alloc _).cell 5
  have p5 : ((w.alloc (.cells (mlC a rx rn rc bx bn bc) 25)).alloc (.cells (mlC c rx' rn' rc' bx' bn' bc') 25)).cell? ⟨w.heap.size + 1, 5, none⟩ = some (.slice bx' bn' bc') := by
    simp [mlC]
  clear h h' kA hl
  obtain ⟨i, p, b, f, L, B⟩ := a
  obtain ⟨i', p', b', f', L', B'⟩ := c
  unfold mlC at *
  simp only at *
  by_cases h0 : i = i'
  · subst h0
    by_cases h1 : p = p'
    · subst h1
      by_cases h2 : b = b'
      · subst h2
        by_cases h3 : f = f'
        · subst h3
          go_enter Tryd.func6, Tryd.ntmps6
          go_wp2_with fail
          refine (equalTextsC rx rn rc L rx' rn' rc' L' HA.out.hrn HB.out.hrn HLN.out HA.out.rs HB.out.rs).mono ?_
          rintro e w1 ⟨rfl, hk1⟩
          have K1 := Lib.hid (K0.out.trans hk1 (fun _ _ h => h))
          have HA1 := Lib.hid (HA.out.quiet hk1)
          have HB1 := Lib.hid (HB.out.quiet hk1)
          have c5 := hk1.cell q5 (fun h => h)
          have d5 := hk1.cell p5 (fun h => h)
          clear hk1 q5 p5
          by_cases h4 : L = L'
          · rw [decide_eq_true h4]
            subst h4
            go_wp2_with fail
            refine (equalC bx bn bc B bx' bn' bc' B' HA1.out.hbn.symm HB1.out.hbn.symm HA1.out.bs HB1.out.bs).mono ?_
            rintro e u ⟨rfl, hu⟩
            subst u
            go_wp2
            go_ret
            exact ⟨by simp [sameB], K1.out⟩

          · rw [decide_eq_false h4]
            have HV : Hid (sameB ⟨i, p, b, f, L, B⟩ ⟨i, p, b, f, L', B'⟩ = false) := Lib.hid (by simp [sameB, h4])
            go_wp2
            go_ret
            exact ⟨by rw [HV.out]; rfl, K1.out⟩

        · have he3 := list_beq h3
          have HV : Hid (sameB ⟨i, p, b, f, L, B⟩ ⟨i, p, b, f', L', B'⟩ = false) := Lib.hid (by simp [sameB, h3])
          go_enter Tryd.func6, Tryd.ntmps6
          go_wp2
          go_ret
          exact ⟨by rw [HV.out]; rfl, K0.out⟩

      · have hd2 : decide (b = b') = false := decide_eq_false h2
        have he2 : (b == b') = false := by rw [beq_eq_false_iff_ne]; exact h2
        have HV : Hid (sameB ⟨i, p, b, f, L, B⟩ ⟨i, p, b', f', L', B'⟩ = false) := Lib.hid (by simp [sameB, h2])
        go_enter Tryd.func6, Tryd.ntmps6
        go_wp2
        go_ret
        exact ⟨by rw [HV.out]; rfl, K0.out⟩

    · have hd1 : decide (p = p') = false := decide_eq_false h1
      have he1 : (p == p') = false := by rw [beq_eq_false_iff_ne]; exact h1
      have HV : Hid (sameB ⟨i, p, b, f, L, B⟩ ⟨i, p', b', f', L', B'⟩ = false) := Lib.hid (by simp [sameB, h1])
      go_enter Tryd.func6, Tryd.ntmps6
      go_wp2
      go_ret
      exact ⟨by rw [HV.out]; rfl, K0.out⟩

  · have hd0 : decide (i = i') = false := decide_eq_false h0
    have he0 : (i == i') = false := by rw [beq_eq_false_iff_ne]; exact h0
    have HV : Hid (sameB ⟨i, p, b, f, L, B⟩ ⟨i', p', b', f', L', B'⟩ = false) := Lib.hid (by simp [sameB, h0])
    go_enter Tryd.func6, Tryd.ntmps6
    go_wp2
    go_ret
    exact ⟨by rw [HV.out]; rfl, K0.out⟩

end Go.Proofs.YtpdopjpibmhamaaDoor.Ln
