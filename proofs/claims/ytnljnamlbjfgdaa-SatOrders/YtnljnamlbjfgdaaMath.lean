/-
  Plain arithmetic of counts from 0 to 2^40: what clamping, adding, taking away and multiplying come to, over the integers. No condition; nothing of the program is used here.
-/
namespace Go.Proofs.Ytnljnamlbjfgdaa.Sat

/-- The nearest number from 0 to 2^40. -/
def cl (n : Int) : Int := if n < 0 then 0 else if 1099511627776 < n then 1099511627776 else n

theorem cl_lo (n : Int) : 0 ≤ cl n := by unfold cl; split <;> (try split) <;> omega
theorem cl_hi (n : Int) : cl n ≤ 1099511627776 := by unfold cl; split <;> (try split) <;> omega
theorem cl_neg {n : Int} (h : n < 0) : cl n = 0 := by unfold cl; rw [if_pos h]
theorem cl_big {n : Int} (h : 1099511627776 < n) : cl n = 1099511627776 := by
  unfold cl; rw [if_neg (by omega), if_pos h]
theorem cl_top {n : Int} (h : 1099511627776 ≤ n) : cl n = 1099511627776 := by
  unfold cl; rw [if_neg (by omega)]; split <;> omega
theorem cl_in {n : Int} (h : 0 ≤ n) (k : n ≤ 1099511627776) : cl n = n := by
  unfold cl; rw [if_neg (by omega), if_neg (by omega)]
theorem cl_cl (n : Int) : cl (cl n) = cl n := cl_in (cl_lo n) (cl_hi n)
theorem cl_mono {a b : Int} (h : a ≤ b) : cl a ≤ cl b := by
  have a0 := cl_lo a; have a1 := cl_hi a
  have b0 := cl_lo b; have b1 := cl_hi b
  by_cases ha : a < 0
  · rw [cl_neg ha]; exact b0
  · by_cases hb : 1099511627776 < b
    · rw [cl_big hb]; exact a1
    · rw [cl_in (n := a) (by omega) (by omega), cl_in (n := b) (by omega) (by omega)]; exact h

/-- The sum, the difference and the product of what is clamped, clamped. -/
def ad (a b : Int) : Int := cl (cl a + cl b)
def su (a b : Int) : Int := cl (cl a - cl b)
def mu (a b : Int) : Int := cl (cl a * cl b)

theorem ad_lo (a b : Int) : 0 ≤ ad a b := cl_lo _
theorem ad_hi (a b : Int) : ad a b ≤ 1099511627776 := cl_hi _
theorem su_lo (a b : Int) : 0 ≤ su a b := cl_lo _
theorem su_hi (a b : Int) : su a b ≤ 1099511627776 := cl_hi _
theorem mu_lo (a b : Int) : 0 ≤ mu a b := cl_lo _
theorem mu_hi (a b : Int) : mu a b ≤ 1099511627776 := cl_hi _

theorem ad_comm (a b : Int) : ad a b = ad b a := by unfold ad; rw [Int.add_comm]
theorem mu_comm (a b : Int) : mu a b = mu b a := by unfold mu; rw [Int.mul_comm]
theorem ad_assoc (a b c : Int) : ad (ad a b) c = ad a (ad b c) := by
  have a0 := cl_lo a; have a1 := cl_hi a
  have b0 := cl_lo b; have b1 := cl_hi b
  have c0 := cl_lo c; have c1 := cl_hi c
  unfold ad
  rw [cl_cl (cl a + cl b), cl_cl (cl b + cl c)]
  generalize cl a = x at *
  generalize cl b = y at *
  generalize cl c = z at *
  unfold cl
  split <;> (try split) <;> (try split) <;> (try split) <;> (try split) <;> (try split) <;> (try split) <;> (try split) <;> omega
theorem su_su (a b c : Int) : su (su a b) c = su a (ad b c) := by
  have a0 := cl_lo a; have a1 := cl_hi a
  have b0 := cl_lo b; have b1 := cl_hi b
  have c0 := cl_lo c; have c1 := cl_hi c
  unfold su ad
  rw [cl_cl (cl a - cl b), cl_cl (cl b + cl c)]
  generalize cl a = x at *
  generalize cl b = y at *
  generalize cl c = z at *
  unfold cl
  split <;> (try split) <;> (try split) <;> (try split) <;> (try split) <;> (try split) <;> (try split) <;> (try split) <;> omega

theorem ad_mono {a b : Int} (h : a ≤ b) (c : Int) : ad a c ≤ ad b c := by
  have := cl_mono h
  exact cl_mono (by omega)
theorem su_mono {a b : Int} (h : a ≤ b) (c : Int) : su a c ≤ su b c := by
  have := cl_mono h
  exact cl_mono (by omega)
theorem su_anti {a b : Int} (h : a ≤ b) (c : Int) : su c b ≤ su c a := by
  have := cl_mono h
  exact cl_mono (by omega)
theorem mu_mono {a b : Int} (h : a ≤ b) (c : Int) : mu a c ≤ mu b c :=
  cl_mono (Int.mul_le_mul_of_nonneg_right (cl_mono h) (cl_lo c))

/-- Where nothing is out of bounds it is just counted. -/
theorem ad_in {x y : Int} (hx : 0 ≤ x) (hy : 0 ≤ y) (h : x + y ≤ 1099511627776) : ad x y = x + y := by
  unfold ad; rw [cl_in hx (by omega), cl_in hy (by omega), cl_in (by omega) h]
theorem su_in {x y : Int} (hx : 0 ≤ x) (hy : 0 ≤ y) (h : x ≤ 1099511627776) (k : y ≤ 1099511627776) (hle : y ≤ x) : su x y = x - y := by
  unfold su; rw [cl_in hx h, cl_in hy k, cl_in (by omega) (by omega)]
theorem su_none {x y : Int} (hx : 0 ≤ x) (hy : 0 ≤ y) (h : x ≤ 1099511627776) (k : y ≤ 1099511627776) (hle : x ≤ y) : su x y = 0 := by
  unfold su; rw [cl_in hx h, cl_in hy k]; unfold cl; split <;> (try split) <;> omega
theorem su_ad {x y : Int} (hx : 0 ≤ x) (hy : 0 ≤ y) (h : x + y ≤ 1099511627776) : su (ad x y) y = x := by
  rw [ad_in hx hy h, su_in (by omega) hy h (by omega) (by omega)]; omega
theorem mu_in {x y : Int} (hx : 0 ≤ x) (hy : 0 ≤ y) (h : x ≤ 1099511627776) (k : y ≤ 1099511627776) (hle : x * y ≤ 1099511627776) : mu x y = x * y := by
  unfold mu; rw [cl_in hx h, cl_in hy k]; exact cl_in (Int.mul_nonneg hx hy) hle
theorem mu_top {x y : Int} (hx : 0 ≤ x) (hy : 0 ≤ y) (h : x ≤ 1099511627776) (k : y ≤ 1099511627776) (hle : 1099511627776 ≤ x * y) : mu x y = 1099511627776 := by
  unfold mu; rw [cl_in hx h, cl_in hy k]; exact cl_top hle

/-- Whether a product is too great, as a division tells it. -/
theorem mul_small {x y : Int} (h : x ≤ 1099511627776 / y) (hx : 0 ≤ x) (hy : 0 < y) : 0 ≤ x * y ∧ x * y ≤ 1099511627776 := by
  refine ⟨Int.mul_nonneg hx (by omega), ?_⟩
  exact (Int.le_ediv_iff_mul_le hy).1 h
theorem mul_great {x y : Int} (h : 1099511627776 / y < x) (hy : 0 < y) : 1099511627776 < x * y :=
  (Int.ediv_lt_iff_lt_mul hy).1 h

/-- One round of 'adding doubles' leaves the clamped sum of what is gathered and the product that is left. -/
theorem cl_left (s t : Int) (hs : 0 ≤ s) (ht : 0 ≤ t) : cl (cl s + t) = cl (s + t) := by
  unfold cl
  split <;> (try split) <;> (try split) <;> (try split) <;> (try split) <;> (try split) <;> omega
theorem round_odd (o a b : Int) (ho : 0 ≤ o) (ha : 0 ≤ a) (hb : 0 < b) (h1 : b % 2 = 1) :
    cl (cl (o + a) + cl (a + a) * (b / 2)) = cl (o + a * b) := by
  have hq : 0 ≤ b / 2 := by omega
  have hp : 0 ≤ cl (a + a) * (b / 2) := Int.mul_nonneg (cl_lo _) hq
  rw [cl_left _ _ (by omega) hp]
  have eb : b = 2 * (b / 2) + 1 := by omega
  have em : a * b = a + (a + a) * (b / 2) := by
    conv => lhs; rw [eb]
    rw [Int.mul_add, Int.mul_one, ← Int.mul_assoc, Int.mul_comm a 2, Int.two_mul, Int.add_comm]
  rw [em]
  by_cases hs : a + a ≤ 1099511627776
  · rw [cl_in (n := a + a) (by omega) hs, Int.add_assoc]
  · rw [cl_big (n := a + a) (by omega)]
    by_cases hz : b / 2 = 0
    · rw [hz]; simp
    · have k1 : 1099511627776 ≤ 1099511627776 * (b / 2) := by omega
      have k2 : (a + a) * 1 ≤ (a + a) * (b / 2) := Int.mul_le_mul_of_nonneg_left (by omega) (by omega)
      exact (cl_top (by omega)).trans (cl_top (by omega)).symm
theorem round_even (o a b : Int) (ho : 0 ≤ o) (ha : 0 ≤ a) (hb : 0 < b) (h1 : b % 2 = 0) :
    cl (o + cl (a + a) * (b / 2)) = cl (o + a * b) := by
  have eb : b = 2 * (b / 2) := by omega
  have em : a * b = (a + a) * (b / 2) := by
    conv => lhs; rw [eb]
    rw [← Int.mul_assoc, Int.mul_comm a 2, Int.two_mul]
  rw [em]
  by_cases hs : a + a ≤ 1099511627776
  · rw [cl_in (n := a + a) (by omega) hs]
  · rw [cl_big (n := a + a) (by omega)]
    have k1 : 1099511627776 ≤ 1099511627776 * (b / 2) := by omega
    have k2 : (a + a) * 1 ≤ (a + a) * (b / 2) := Int.mul_le_mul_of_nonneg_left (by omega) (by omega)
    exact (cl_top (by omega)).trans (cl_top (by omega)).symm

end Go.Proofs.Ytnljnamlbjfgdaa.Sat
