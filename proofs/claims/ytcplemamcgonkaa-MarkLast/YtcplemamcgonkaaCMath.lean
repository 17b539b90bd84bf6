/-
  The checksum's plain mathematics on natural numbers: one step, eight steps, a byte by the table and a byte bit by bit are the same; the state is linear under exclusive or; a nonzero number of 32 bits stays nonzero under steps. No condition beyond those written at each theorem.
-/
namespace Go.Proofs.Ytcplemamcgonkaa.Crc

/-- One step without a byte's bit. -/
def st (n : Nat) : Nat := (n / 2) ^^^ (if n % 2 = 1 then 3988292384 else 0)
/-- k steps. -/
def sts : Nat → Nat → Nat
  | 0, n => n
  | k + 1, n => sts k (st n)
/-- A byte laid against the state, by the table's look. -/
def by1 (s c : Nat) : Nat := (s / 256) ^^^ sts 8 ((s % 256) ^^^ c)
/-- The state behind the bytes. -/
def run (s : Nat) (bs : List Nat) : Nat := bs.foldl by1 s
/-- The sum: all bits turned. -/
def sum (bs : List Nat) : Nat := 4294967295 - run 4294967295 bs
/-- Of a byte's bits the first k, bit by bit. -/
def bits1 (c : Nat) : Nat → Nat → Nat
  | 0, s => s
  | k + 1, s => st (bits1 c k s ^^^ (c / 2 ^ k % 2))

theorem st_zero : st 0 = 0 := by decide
theorem sts_zero : ∀ k, sts k 0 = 0
  | 0 => rfl
  | k + 1 => by rw [sts, st_zero, sts_zero k]
theorem sts_add (a : Nat) : ∀ b n, sts (b + a) n = sts a (sts b n)
  | 0, n => by simp [sts]
  | b + 1, n => by rw [Nat.succ_add, sts, sts_add a b, sts]
theorem sts_succ (k n : Nat) : sts (k + 1) n = st (sts k n) := by
  rw [sts_add 1 k n]; rfl

theorem st_xor (a b : Nat) : st (a ^^^ b) = st a ^^^ st b := by
  unfold st
  rw [Nat.xor_div_two]
  have hm : (a ^^^ b) % 2 = (a + b) % 2 := by
    have h := @Nat.xor_mod_two_pow a b 1
    simp only [Nat.pow_one] at h
    rw [h]
    rcases Nat.mod_two_eq_zero_or_one a with ha | ha <;> rcases Nat.mod_two_eq_zero_or_one b with hb | hb <;> rw [ha, hb] <;> simp <;> omega
  rw [hm]
  rcases Nat.mod_two_eq_zero_or_one a with ha | ha <;> rcases Nat.mod_two_eq_zero_or_one b with hb | hb
  · have : (a + b) % 2 = 0 := by omega
    simp [ha, hb, this]
  · have : (a + b) % 2 = 1 := by omega
    simp [ha, hb, this, Nat.xor_assoc]
  · have : (a + b) % 2 = 1 := by omega
    simp only [ha, hb, this]
    simp
    rw [Nat.xor_assoc, Nat.xor_comm (b / 2), ← Nat.xor_assoc]
  · have : (a + b) % 2 = 0 := by omega
    simp only [ha, hb, this]
    simp
    rw [Nat.xor_assoc (a / 2), Nat.xor_comm 3988292384, Nat.xor_assoc (b / 2), Nat.xor_self, Nat.xor_zero]
theorem sts_xor : ∀ k a b, sts k (a ^^^ b) = sts k a ^^^ sts k b
  | 0, _, _ => rfl
  | k + 1, a, b => by rw [sts, st_xor, sts_xor k, sts, sts]

theorem st_dbl (n : Nat) : st (n * 2) = n := by
  unfold st
  have h1 : n * 2 / 2 = n := by omega
  have h2 : n * 2 % 2 = 0 := by omega
  simp [h1, h2]
theorem sts_shl : ∀ k n, sts k (n * 2 ^ k) = n
  | 0, n => by simp [sts]
  | k + 1, n => by rw [sts, show n * 2 ^ (k + 1) = (n * 2 ^ k) * 2 by rw [Nat.pow_succ, Nat.mul_assoc], st_dbl, sts_shl k]

theorem xor_lt32 {a b : Nat} (ha : a < 4294967296) (hb : b < 4294967296) : a ^^^ b < 4294967296 := Nat.xor_lt_two_pow (n := 32) ha hb
theorem xor_lt8 {a b : Nat} (ha : a < 256) (hb : b < 256) : a ^^^ b < 256 := Nat.xor_lt_two_pow (n := 8) ha hb
theorem st_lt {n : Nat} (h : n < 4294967296) : st n < 4294967296 := by
  unfold st
  refine xor_lt32 (by omega) ?_
  split <;> omega
theorem sts_lt : ∀ k n, n < 4294967296 → sts k n < 4294967296
  | 0, _, h => h
  | k + 1, _, h => sts_lt k _ (st_lt h)
theorem st_ne {n : Nat} (h : n < 4294967296) (hn : n ≠ 0) : st n ≠ 0 := by
  unfold st
  by_cases h2 : n % 2 = 1
  · rw [if_pos h2]
    intro e
    have : n / 2 = 3988292384 := by
      have := congrArg (· ^^^ 3988292384) e
      simpa [Nat.xor_assoc] using this
    omega
  · rw [if_neg h2, Nat.xor_zero]
    omega
theorem sts_ne : ∀ k n, n < 4294967296 → n ≠ 0 → sts k n ≠ 0
  | 0, _, _, h => h
  | k + 1, _, h, hn => sts_ne k _ (st_lt h) (st_ne h hn)

/-- A number is its upper part and its lower bits, laid over one another. -/
theorem xor_parts (k n : Nat) : (n / 2 ^ k * 2 ^ k) ^^^ (n % 2 ^ k) = n := by
  have h : n % 2 ^ k < 2 ^ k := Nat.mod_lt _ (Nat.two_pow_pos k)
  have e : 2 ^ k * (n / 2 ^ k) + n % 2 ^ k = n := Nat.div_add_mod n (2 ^ k)
  apply Nat.eq_of_testBit_eq
  intro i
  rw [Nat.testBit_xor, Nat.mul_comm, Nat.testBit_two_pow_mul, Nat.testBit_mod_two_pow, Nat.testBit_div_two_pow]
  by_cases hi : i < k
  · have : ¬ (k ≤ i) := by omega
    simp [hi, this]
  · have h2 : k ≤ i := by omega
    simp [hi, h2]

theorem by1_eq (s c : Nat) : by1 s c = sts 8 (s ^^^ c) := by
  have e : s ^^^ c = (s / 256 * 256) ^^^ ((s % 256) ^^^ c) := by
    rw [← Nat.xor_assoc, xor_parts 8 s]
  rw [e, sts_xor, show (256 : Nat) = 2 ^ 8 from rfl, sts_shl]
  rfl
theorem by1_lt {s c : Nat} (hs : s < 4294967296) (hc : c < 256) : by1 s c < 4294967296 := by
  unfold by1
  refine xor_lt32 (by omega) (sts_lt _ _ ?_)
  have := xor_lt8 (a := s % 256) (b := c) (by omega) hc
  omega
theorem bits1_eq (c s : Nat) : ∀ k, bits1 c k s = sts k (s ^^^ (c % 2 ^ k))
  | 0 => by simp [bits1, sts, Nat.mod_one]
  | k + 1 => by
    have e : c % 2 ^ (k + 1) = (c / 2 ^ k % 2 * 2 ^ k) ^^^ (c % 2 ^ k) := by
      have h := (xor_parts k (c % 2 ^ (k + 1))).symm
      have h1 : c % 2 ^ (k + 1) % 2 ^ k = c % 2 ^ k := Nat.mod_mod_of_dvd _ ⟨2, by rw [Nat.pow_succ]⟩
      have h2 : c % 2 ^ (k + 1) / 2 ^ k = c / 2 ^ k % 2 := by rw [Nat.pow_succ, Nat.mod_mul_right_div_self]
      rw [h1, h2] at h
      exact h
    rw [bits1, bits1_eq c s k, st_xor, ← sts_succ, e, Nat.xor_comm (c / 2 ^ k % 2 * 2 ^ k), ← Nat.xor_assoc, sts_xor (k + 1) _ (c / 2 ^ k % 2 * 2 ^ k), sts_succ k (c / 2 ^ k % 2 * 2 ^ k), sts_shl]
theorem bits1_lt {c s : Nat} (hs : s < 4294967296) : ∀ k, bits1 c k s < 4294967296
  | 0 => hs
  | k + 1 => by
    rw [bits1]
    exact st_lt (xor_lt32 (bits1_lt hs k) (by omega))
/-- A byte bit by bit is a byte by the table. -/
theorem bits1_by1 (c s : Nat) (hc : c < 256) : bits1 c 8 s = by1 s c := by
  rw [bits1_eq, by1_eq s c, Nat.mod_eq_of_lt (by simpa using hc)]

theorem run_lt : ∀ (bs : List Nat) (s : Nat), s < 4294967296 → (∀ c ∈ bs, c < 256) → run s bs < 4294967296
  | [], _, h, _ => h
  | c :: r, s, h, hb => run_lt r _ (by1_lt h (hb c (by simp))) (fun d hd => hb d (by simp [hd]))
theorem run_append (s : Nat) (a b : List Nat) : run s (a ++ b) = run (run s a) b := by simp [run, List.foldl_append]
theorem run_take_succ (s : Nat) (bs : List Nat) (i : Nat) (h : i < bs.length) : run s (bs.take (i + 1)) = by1 (run s (bs.take i)) (bs.getD i 0) := by
  rw [List.take_add_one, run_append, List.getElem?_eq_getElem h]
  simp [run, h]

/-- Two rows of one length, laid over one another. -/
theorem run_xor : ∀ (bs cs : List Nat) (s t : Nat), bs.length = cs.length → (∀ c ∈ bs, c < 256) → (∀ c ∈ cs, c < 256) →
    run (s ^^^ t) (List.zipWith (· ^^^ ·) bs cs) = run s bs ^^^ run t cs
  | [], [], _, _, _, _, _ => rfl
  | [], _ :: _, _, _, h, _, _ => by simp at h
  | _ :: _, [], _, _, h, _, _ => by simp at h
  | b :: bs, c :: cs, s, t, h, hb, hc => by
    have hb1 := hb b (by simp)
    have hc1 := hc c (by simp)
    show run (by1 (s ^^^ t) (b ^^^ c)) (List.zipWith (· ^^^ ·) bs cs) = run (by1 s b) bs ^^^ run (by1 t c) cs
    rw [← run_xor bs cs _ _ (by simpa using h) (fun d hd => hb d (by simp [hd])) (fun d hd => hc d (by simp [hd]))]
    rw [by1_eq, by1_eq, by1_eq, ← sts_xor]
    congr 2
    rw [Nat.xor_assoc, Nat.xor_assoc]
    congr 1
    rw [← Nat.xor_assoc, ← Nat.xor_assoc, Nat.xor_comm t b]

theorem not_eq (x : Nat) (h : x < 4294967296) : 4294967295 - x = x ^^^ 4294967295 := by
  have := Nat.xor_comm x (2 ^ 32 - 1)
  apply Nat.eq_of_testBit_eq
  intro i
  have e : (4294967295 : Nat) - x = 2 ^ 32 - (x + 1) := by omega
  rw [e, Nat.testBit_two_pow_sub_succ (by simpa using h), show (4294967295 : Nat) = 2 ^ 32 - 1 from rfl, Nat.testBit_xor, Nat.testBit_two_pow_sub_one]
  by_cases hi : i < 32
  · simp [hi]
  · have : x.testBit i = false := Nat.testBit_lt_two_pow (Nat.lt_of_lt_of_le h (Nat.pow_le_pow_right (n := 2) (by omega) (by omega : 32 ≤ i)))
    simp [hi, this]
theorem sum_lt (bs : List Nat) : sum bs < 4294967296 := by unfold sum; omega

/-- Three rows of one length. -/
theorem sum_three (a b c : List Nat) (hab : a.length = b.length) (hbc : b.length = c.length) (ha : ∀ x ∈ a, x < 256) (hb : ∀ x ∈ b, x < 256) (hc : ∀ x ∈ c, x < 256) :
    sum (List.zipWith (· ^^^ ·) (List.zipWith (· ^^^ ·) a b) c) = sum a ^^^ sum b ^^^ sum c := by
  have hz : ∀ x ∈ List.zipWith (· ^^^ ·) a b, x < 256 := by
    intro x hx
    obtain ⟨i, hi, rfl⟩ := List.getElem_of_mem hx
    simp only [List.getElem_zipWith]
    exact xor_lt8 (ha _ (List.getElem_mem _)) (hb _ (List.getElem_mem _))
  have hl : (List.zipWith (· ^^^ ·) a b).length = c.length := by simp; omega
  have r1 := run_xor (List.zipWith (· ^^^ ·) a b) c (4294967295 ^^^ 4294967295) 4294967295 hl hz hc
  rw [run_xor a b _ _ hab ha hb] at r1
  have e : (4294967295 ^^^ 4294967295 ^^^ 4294967295 : Nat) = 4294967295 := by decide
  rw [e] at r1
  have la := run_lt a 4294967295 (by omega) ha
  have lb := run_lt b 4294967295 (by omega) hb
  have lc := run_lt c 4294967295 (by omega) hc
  unfold sum
  rw [r1, not_eq _ (xor_lt32 (xor_lt32 la lb) lc), not_eq _ la, not_eq _ lb, not_eq _ lc]
  generalize run 4294967295 a = A
  generalize run 4294967295 b = B
  generalize run 4294967295 c = C
  rw [← Nat.xor_assoc (A ^^^ 4294967295) B, ← Nat.xor_assoc _ C, Nat.xor_assoc A 4294967295 B, Nat.xor_comm 4294967295 B, ← Nat.xor_assoc A B, Nat.xor_assoc (A ^^^ B) 4294967295 4294967295, Nat.xor_self, Nat.xor_zero]

/-- A row that is 0 leaves the state 0. -/
theorem run_zeros : ∀ n, run 0 (List.replicate n 0) = 0
  | 0 => rfl
  | n + 1 => by
    rw [List.replicate_succ]
    show run (by1 0 0) (List.replicate n 0) = 0
    rw [by1_eq 0 0, Nat.xor_self, sts_zero, run_zeros n]
/-- A state of 32 bits that is not 0 stays so under bytes that are 0. -/
theorem run_ne : ∀ n s, s < 4294967296 → s ≠ 0 → run s (List.replicate n 0) ≠ 0
  | 0, _, _, h => h
  | n + 1, s, hs, h => by
    rw [List.replicate_succ]
    show run (by1 s 0) (List.replicate n 0) ≠ 0
    refine run_ne n _ (by1_lt hs (by omega)) ?_
    rw [by1_eq s 0, Nat.xor_zero]
    exact sts_ne 8 s hs h
/-- Five bytes of a number, the lowest first, laid against the state 0. -/
theorem run_five (x : Nat) (hx : x < 1099511627776) : run 0 [x % 256, x / 256 % 256, x / 65536 % 256, x / 16777216 % 256, x / 4294967296 % 256] = sts 40 x := by
  have step : ∀ s y : Nat, sts 8 (s ^^^ y) = by1 s (y % 256) ^^^ (y / 256) := by
    intro s y
    rw [by1_eq]
    have h := xor_parts 8 y
    have h' : y = (y / 256 * 256) ^^^ (y % 256) := h.symm
    have e : s ^^^ y = (s ^^^ (y % 256)) ^^^ (y / 256 * 256) := by
      rw [Nat.xor_assoc, Nat.xor_comm (y % 256), ← h']
    rw [e, sts_xor, show y / 256 * 256 = y / 256 * 2 ^ 8 from rfl, sts_shl]
  show by1 (by1 (by1 (by1 (by1 0 (x % 256)) (x / 256 % 256)) (x / 65536 % 256)) (x / 16777216 % 256)) (x / 4294967296 % 256) = sts 40 x
  have e1 : sts 40 x = sts 8 (sts 8 (sts 8 (sts 8 (sts 8 (0 ^^^ x))))) := by
    rw [Nat.zero_xor, ← sts_add, ← sts_add, ← sts_add, ← sts_add]
  have d1 : x / 256 / 256 = x / 65536 := by omega
  have d2 : x / 65536 / 256 = x / 16777216 := by omega
  have d3 : x / 16777216 / 256 = x / 4294967296 := by omega
  have d4 : x / 4294967296 / 256 = 0 := by omega
  rw [e1, step, step, d1, step, d2, step, d3, step, d4, Nat.xor_zero]

/-- Some bits within 32 beside each other are turned: another sum. -/
theorem sum_tells (bs cs : List Nat) (k turn sh m : Nat) (hl : bs.length = cs.length) (hb : ∀ x ∈ bs, x < 256) (hc : ∀ x ∈ cs, x < 256)
    (ht : turn < 4294967296) (ht0 : turn ≠ 0) (hs : sh < 8)
    (hd : List.zipWith (· ^^^ ·) bs cs = List.replicate k 0 ++ [turn * 2 ^ sh % 256, turn * 2 ^ sh / 256 % 256, turn * 2 ^ sh / 65536 % 256, turn * 2 ^ sh / 16777216 % 256, turn * 2 ^ sh / 4294967296 % 256] ++ List.replicate m 0) :
    sum bs ≠ sum cs := by
  intro e
  have lb := run_lt bs 4294967295 (by omega) hb
  have lc := run_lt cs 4294967295 (by omega) hc
  have e' : run 4294967295 bs = run 4294967295 cs := by unfold sum at e; omega
  have hx := run_xor bs cs 4294967295 4294967295 hl hb hc
  rw [e', Nat.xor_self, Nat.xor_self, hd, run_append, run_append, run_zeros] at hx
  have hp : 2 ^ sh ≤ 2 ^ 7 := Nat.pow_le_pow_right (by omega) (by omega)
  have hlt : turn * 2 ^ sh < 1099511627776 := by
    have : turn * 2 ^ sh ≤ turn * 2 ^ 7 := Nat.mul_le_mul_left _ hp
    omega
  rw [run_five _ hlt, show (40 : Nat) = sh + (40 - sh) by omega, sts_add, sts_shl] at hx
  exact run_ne m _ (sts_lt _ _ ht) (sts_ne _ _ ht ht0) hx

end Go.Proofs.Ytcplemamcgonkaa.Crc
