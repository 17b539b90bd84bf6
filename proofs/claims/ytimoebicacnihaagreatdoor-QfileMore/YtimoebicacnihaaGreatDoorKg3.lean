/-
  Several texts in one: CMath CSteps CTable CSum CRef.
-/
import Derived.Test.YtimoebicacnihaaGreatDoorRows
import Derived.WalkKit
import Derived.LoopTactic
import Derived.Lib.Hide
import Derived.Laws.BitsAllLaws
import Derived.Deep.WholeRow
import Derived.Deep.MidRow
import Derived.Below

section
/-
  The checksum's plain mathematics on natural numbers: one step, eight steps, a byte by the table and a byte bit by bit are the same; the state is linear under exclusive or; a nonzero number of 32 bits stays nonzero under steps. No condition beyond those written at each theorem.
-/
namespace Go.Proofs.YtimoebicacnihaaGreatDoor.Crc

/-- One step without a byte's bit. -/
def st (n : Nat) : Nat := (n / 2) ^^^ (if n % 2 = 1 then 3988292384 else 0)
/-- k steps. -/
def sts : Nat → Nat → Nat
  | 0, n => n
  | k + 1, n => sts k (st n)
/-- A byte laid against the state, by the table's look. -/
def by1 (s c : Nat) : Nat := (s / 256) ^^^ sts 8 ((s % 256) ^^^ c)
/-- The state behind the bytes. -/
def run (s : Nat) (bs : List Nat) : Nat := bs.foldl by1 s
/-- The sum: all bits turned. -/
def sum (bs : List Nat) : Nat := 4294967295 - run 4294967295 bs
/-- Of a byte's bits the first k, bit by bit. -/
def bits1 (c : Nat) : Nat → Nat → Nat
  | 0, s => s
  | k + 1, s => st (bits1 c k s ^^^ (c / 2 ^ k % 2))

theorem st_zero : st 0 = 0 := by decide
theorem sts_zero : ∀ k, sts k 0 = 0
  | 0 => rfl
  | k + 1 => by rw [sts, st_zero, sts_zero k]
theorem sts_add (a : Nat) : ∀ b n, sts (b + a) n = sts a (sts b n)
  | 0, n => by simp [sts]
  | b + 1, n => by rw [Nat.succ_add, sts, sts_add a b, sts]
theorem sts_succ (k n : Nat) : sts (k + 1) n = st (sts k n) := by
  rw [sts_add 1 k n]; rfl

theorem st_xor (a b : Nat) : st (a ^^^ b) = st a ^^^ st b := by
  unfold st
  rw [Nat.xor_div_two]
  have hm : (a ^^^ b) % 2 = (a + b) % 2 := by
    have h := @Nat.xor_mod_two_pow a b 1
    simp only [Nat.pow_one] at h
    rw [h]
    rcases Nat.mod_two_eq_zero_or_one a with ha | ha <;> rcases Nat.mod_two_eq_zero_or_one b with hb | hb <;> rw [ha, hb] <;> simp <;> omega
  rw [hm]
  rcases Nat.mod_two_eq_zero_or_one a with ha | ha <;> rcases Nat.mod_two_eq_zero_or_one b with hb | hb
  · have : (a + b) % 2 = 0 := by omega
    simp [ha, hb, this]
  · have : (a + b) % 2 = 1 := by omega
    simp [ha, hb, this, Nat.xor_assoc]
  · have : (a + b) % 2 = 1 := by omega
    simp only [ha, hb, this]
    simp
    rw [Nat.xor_assoc, Nat.xor_comm (b / 2), ← Nat.xor_assoc]
  · have : (a + b) % 2 = 0 := by omega
    simp only [ha, hb, this]
    simp
    rw [Nat.xor_assoc (a / 2), Nat.xor_comm 3988292384, Nat.xor_assoc (b / 2), Nat.xor_self, Nat.xor_zero]
theorem sts_xor : ∀ k a b, sts k (a ^^^ b) = sts k a ^^^ sts k b
  | 0, _, _ => rfl
  | k + 1, a, b => by rw [sts, st_xor, sts_xor k, sts, sts]

theorem st_dbl (n : Nat) : st (n * 2) = n := by
  unfold st
  have h1 : n * 2 / 2 = n := by omega
  have h2 : n * 2 % 2 = 0 := by omega
  simp [h1, h2]
theorem sts_shl : ∀ k n, sts k (n * 2 ^ k) = n
  | 0, n => by simp [sts]
  | k + 1, n => by rw [sts, show n * 2 ^ (k + 1) = (n * 2 ^ k) * 2 by rw [Nat.pow_succ, Nat.mul_assoc], st_dbl, sts_shl k]

theorem xor_lt32 {a b : Nat} (ha : a < 4294967296) (hb : b < 4294967296) : a ^^^ b < 4294967296 := Nat.xor_lt_two_pow (n := 32) ha hb
theorem xor_lt8 {a b : Nat} (ha : a < 256) (hb : b < 256) : a ^^^ b < 256 := Nat.xor_lt_two_pow (n := 8) ha hb
theorem st_lt {n : Nat} (h : n < 4294967296) : st n < 4294967296 := by
  unfold st
  refine xor_lt32 (by omega) ?_
  split <;> omega
theorem sts_lt : ∀ k n, n < 4294967296 → sts k n < 4294967296
  | 0, _, h => h
  | k + 1, _, h => sts_lt k _ (st_lt h)
theorem st_ne {n : Nat} (h : n < 4294967296) (hn : n ≠ 0) : st n ≠ 0 := by
  unfold st
  by_cases h2 : n % 2 = 1
  · rw [if_pos h2]
    intro e
    have : n / 2 = 3988292384 := by
      have := congrArg (· ^^^ 3988292384) e
      simpa [Nat.xor_assoc] using this
    omega
  · rw [if_neg h2, Nat.xor_zero]
    omega
theorem sts_ne : ∀ k n, n < 4294967296 → n ≠ 0 → sts k n ≠ 0
  | 0, _, _, h => h
  | k + 1, _, h, hn => sts_ne k _ (st_lt h) (st_ne h hn)

/-- A number is its upper part and its lower bits, laid over one another. -/
theorem xor_parts (k n : Nat) : (n / 2 ^ k * 2 ^ k) ^^^ (n % 2 ^ k) = n := by
  have h : n % 2 ^ k < 2 ^ k := Nat.mod_lt _ (Nat.two_pow_pos k)
  have e : 2 ^ k * (n / 2 ^ k) + n % 2 ^ k = n := Nat.div_add_mod n (2 ^ k)
  apply Nat.eq_of_testBit_eq
  intro i
  rw [Nat.testBit_xor, Nat.mul_comm, Nat.testBit_two_pow_mul, Nat.testBit_mod_two_pow, Nat.testBit_div_two_pow]
  by_cases hi : i < k
  · have : ¬ (k ≤ i) := by omega
    simp [hi, this]
  · have h2 : k ≤ i := by omega
    simp [hi, h2]

theorem by1_eq (s c : Nat) : by1 s c = sts 8 (s ^^^ c) := by
  have e : s ^^^ c = (s / 256 * 256) ^^^ ((s % 256) ^^^ c) := by
    rw [← Nat.xor_assoc, xor_parts 8 s]
  rw [e, sts_xor, show (256 : Nat) = 2 ^ 8 from rfl, sts_shl]
  rfl
theorem by1_lt {s c : Nat} (hs : s < 4294967296) (hc : c < 256) : by1 s c < 4294967296 := by
  unfold by1
  refine xor_lt32 (by omega) (sts_lt _ _ ?_)
  have := xor_lt8 (a := s % 256) (b := c) (by omega) hc
  omega
theorem bits1_eq (c s : Nat) : ∀ k, bits1 c k s = sts k (s ^^^ (c % 2 ^ k))
  | 0 => by simp [bits1, sts, Nat.mod_one]
  | k + 1 => by
    have e : c % 2 ^ (k + 1) = (c / 2 ^ k % 2 * 2 ^ k) ^^^ (c % 2 ^ k) := by
      have h := (xor_parts k (c % 2 ^ (k + 1))).symm
      have h1 : c % 2 ^ (k + 1) % 2 ^ k = c % 2 ^ k := Nat.mod_mod_of_dvd _ ⟨2, by rw [Nat.pow_succ]⟩
      have h2 : c % 2 ^ (k + 1) / 2 ^ k = c / 2 ^ k % 2 := by rw [Nat.pow_succ, Nat.mod_mul_right_div_self]
      rw [h1, h2] at h
      exact h
    rw [bits1, bits1_eq c s k, st_xor, ← sts_succ, e, Nat.xor_comm (c / 2 ^ k % 2 * 2 ^ k), ← Nat.xor_assoc, sts_xor (k + 1) _ (c / 2 ^ k % 2 * 2 ^ k), sts_succ k (c / 2 ^ k % 2 * 2 ^ k), sts_shl]
theorem bits1_lt {c s : Nat} (hs : s < 4294967296) : ∀ k, bits1 c k s < 4294967296
  | 0 => hs
  | k + 1 => by
    rw [bits1]
    exact st_lt (xor_lt32 (bits1_lt hs k) (by omega))
/-- A byte bit by bit is a byte by the table. -/
theorem bits1_by1 (c s : Nat) (hc : c < 256) : bits1 c 8 s = by1 s c := by
  rw [bits1_eq, by1_eq s c, Nat.mod_eq_of_lt (by simpa using hc)]

theorem run_lt : ∀ (bs : List Nat) (s : Nat), s < 4294967296 → (∀ c ∈ bs, c < 256) → run s bs < 4294967296
  | [], _, h, _ => h
  | c :: r, s, h, hb => run_lt r _ (by1_lt h (hb c (by simp))) (fun d hd => hb d (by simp [hd]))
theorem run_append (s : Nat) (a b : List Nat) : run s (a ++ b) = run (run s a) b := by simp [run, List.foldl_append]
theorem run_take_succ (s : Nat) (bs : List Nat) (i : Nat) (h : i < bs.length) : run s (bs.take (i + 1)) = by1 (run s (bs.take i)) (bs.getD i 0) := by
  rw [List.take_add_one, run_append, List.getElem?_eq_getElem h]
  simp [run, h]

/-- Two rows of one length, laid over one another. -/
theorem run_xor : ∀ (bs cs : List Nat) (s t : Nat), bs.length = cs.length → (∀ c ∈ bs, c < 256) → (∀ c ∈ cs, c < 256) →
    run (s ^^^ t) (List.zipWith (· ^^^ ·) bs cs) = run s bs ^^^ run t cs
  | [], [], _, _, _, _, _ => rfl
  | [], _ :: _, _, _, h, _, _ => by simp at h
  | _ :: _, [], _, _, h, _, _ => by simp at h
  | b :: bs, c :: cs, s, t, h, hb, hc => by
    have hb1 := hb b (by simp)
    have hc1 := hc c (by simp)
    show run (by1 (s ^^^ t) (b ^^^ c)) (List.zipWith (· ^^^ ·) bs cs) = run (by1 s b) bs ^^^ run (by1 t c) cs
    rw [← run_xor bs cs _ _ (by simpa using h) (fun d hd => hb d (by simp [hd])) (fun d hd => hc d (by simp [hd]))]
    rw [by1_eq, by1_eq, by1_eq, ← sts_xor]
    congr 2
    rw [Nat.xor_assoc, Nat.xor_assoc]
    congr 1
    rw [← Nat.xor_assoc, ← Nat.xor_assoc, Nat.xor_comm t b]

theorem not_eq (x : Nat) (h : x < 4294967296) : 4294967295 - x = x ^^^ 4294967295 := by
  have := Nat.xor_comm x (2 ^ 32 - 1)
  apply Nat.eq_of_testBit_eq
  intro i
  have e : (4294967295 : Nat) - x = 2 ^ 32 - (x + 1) := by omega
  rw [e, Nat.testBit_two_pow_sub_succ (by simpa using h), show (4294967295 : Nat) = 2 ^ 32 - 1 from rfl, Nat.testBit_xor, Nat.testBit_two_pow_sub_one]
  by_cases hi : i < 32
  · simp [hi]
  · have : x.testBit i = false := Nat.testBit_lt_two_pow (Nat.lt_of_lt_of_le h (Nat.pow_le_pow_right (n := 2) (by omega) (by omega : 32 ≤ i)))
    simp [hi, this]
theorem sum_lt (bs : List Nat) : sum bs < 4294967296 := by unfold sum; omega

/-- Three rows of one length. -/
theorem sum_three (a b c : List Nat) (hab : a.length = b.length) (hbc : b.length = c.length) (ha : ∀ x ∈ a, x < 256) (hb : ∀ x ∈ b, x < 256) (hc : ∀ x ∈ c, x < 256) :
    sum (List.zipWith (· ^^^ ·) (List.zipWith (· ^^^ ·) a b) c) = sum a ^^^ sum b ^^^ sum c := by
  have hz : ∀ x ∈ List.zipWith (· ^^^ ·) a b, x < 256 := by
    intro x hx
    obtain ⟨i, hi, rfl⟩ := List.getElem_of_mem hx
    simp only [List.getElem_zipWith]
    exact xor_lt8 (ha _ (List.getElem_mem _)) (hb _ (List.getElem_mem _))
  have hl : (List.zipWith (· ^^^ ·) a b).length = c.length := by simp; omega
  have r1 := run_xor (List.zipWith (· ^^^ ·) a b) c (4294967295 ^^^ 4294967295) 4294967295 hl hz hc
  rw [run_xor a b _ _ hab ha hb] at r1
  have e : (4294967295 ^^^ 4294967295 ^^^ 4294967295 : Nat) = 4294967295 := by decide
  rw [e] at r1
  have la := run_lt a 4294967295 (by omega) ha
  have lb := run_lt b 4294967295 (by omega) hb
  have lc := run_lt c 4294967295 (by omega) hc
  unfold sum
  rw [r1, not_eq _ (xor_lt32 (xor_lt32 la lb) lc), not_eq _ la, not_eq _ lb, not_eq _ lc]
  generalize run 4294967295 a = A
  generalize run 4294967295 b = B
  generalize run 4294967295 c = C
  rw [← Nat.xor_assoc (A ^^^ 4294967295) B, ← Nat.xor_assoc _ C, Nat.xor_assoc A 4294967295 B, Nat.xor_comm 4294967295 B, ← Nat.xor_assoc A B, Nat.xor_assoc (A ^^^ B) 4294967295 4294967295, Nat.xor_self, Nat.xor_zero]

/-- A row that is 0 leaves the state 0. -/
theorem run_zeros : ∀ n, run 0 (List.replicate n 0) = 0
  | 0 => rfl
  | n + 1 => by
    rw [List.replicate_succ]
    show run (by1 0 0) (List.replicate n 0) = 0
    rw [by1_eq 0 0, Nat.xor_self, sts_zero, run_zeros n]
/-- A state of 32 bits that is not 0 stays so under bytes that are 0. -/
theorem run_ne : ∀ n s, s < 4294967296 → s ≠ 0 → run s (List.replicate n 0) ≠ 0
  | 0, _, _, h => h
  | n + 1, s, hs, h => by
    rw [List.replicate_succ]
    show run (by1 s 0) (List.replicate n 0) ≠ 0
    refine run_ne n _ (by1_lt hs (by omega)) ?_
    rw [by1_eq s 0, Nat.xor_zero]
    exact sts_ne 8 s hs h
/-- Five bytes of a number, the lowest first, laid against the state 0. -/
theorem run_five (x : Nat) (hx : x < 1099511627776) : run 0 [x % 256, x / 256 % 256, x / 65536 % 256, x / 16777216 % 256, x / 4294967296 % 256] = sts 40 x := by
  have step : ∀ s y : Nat, sts 8 (s ^^^ y) = by1 s (y % 256) ^^^ (y / 256) := by
    intro s y
    rw [by1_eq]
    have h := xor_parts 8 y
    have h' : y = (y / 256 * 256) ^^^ (y % 256) := h.symm
    have e : s ^^^ y = (s ^^^ (y % 256)) ^^^ (y / 256 * 256) := by
      rw [Nat.xor_assoc, Nat.xor_comm (y % 256), ← h']
    rw [e, sts_xor, show y / 256 * 256 = y / 256 * 2 ^ 8 from rfl, sts_shl]
  show by1 (by1 (by1 (by1 (by1 0 (x % 256)) (x / 256 % 256)) (x / 65536 % 256)) (x / 16777216 % 256)) (x / 4294967296 % 256) = sts 40 x
  have e1 : sts 40 x = sts 8 (sts 8 (sts 8 (sts 8 (sts 8 (0 ^^^ x))))) := by
    rw [Nat.zero_xor, ← sts_add, ← sts_add, ← sts_add, ← sts_add]
  have d1 : x / 256 / 256 = x / 65536 := by omega
  have d2 : x / 65536 / 256 = x / 16777216 := by omega
  have d3 : x / 16777216 / 256 = x / 4294967296 := by omega
  have d4 : x / 4294967296 / 256 = 0 := by omega
  rw [e1, step, step, d1, step, d2, step, d3, step, d4, Nat.xor_zero]

/-- Some bits within 32 beside each other are turned: another sum. -/
theorem sum_tells (bs cs : List Nat) (k turn sh m : Nat) (hl : bs.length = cs.length) (hb : ∀ x ∈ bs, x < 256) (hc : ∀ x ∈ cs, x < 256)
    (ht : turn < 4294967296) (ht0 : turn ≠ 0) (hs : sh < 8)
    (hd : List.zipWith (· ^^^ ·) bs cs = List.replicate k 0 ++ [turn * 2 ^ sh % 256, turn * 2 ^ sh / 256 % 256, turn * 2 ^ sh / 65536 % 256, turn * 2 ^ sh / 16777216 % 256, turn * 2 ^ sh / 4294967296 % 256] ++ List.replicate m 0) :
    sum bs ≠ sum cs := by
  intro e
  have lb := run_lt bs 4294967295 (by omega) hb
  have lc := run_lt cs 4294967295 (by omega) hc
  have e' : run 4294967295 bs = run 4294967295 cs := by unfold sum at e; omega
  have hx := run_xor bs cs 4294967295 4294967295 hl hb hc
  rw [e', Nat.xor_self, Nat.xor_self, hd, run_append, run_append, run_zeros] at hx
  have hp : 2 ^ sh ≤ 2 ^ 7 := Nat.pow_le_pow_right (by omega) (by omega)
  have hlt : turn * 2 ^ sh < 1099511627776 := by
    have : turn * 2 ^ sh ≤ turn * 2 ^ 7 := Nat.mul_le_mul_left _ hp
    omega
  rw [run_five _ hlt, show (40 : Nat) = sh + (40 - sh) by omega, sts_add, sts_shl] at hx
  exact run_ne m _ (sts_lt _ _ ht) (sts_ne _ _ ht ht0) hx

end Go.Proofs.YtimoebicacnihaaGreatDoor.Crc
end

section
/-
  What the program's 'eightSteps' returns: eight steps of the number, for every number of 32 bits; the world is as it was.
-/
namespace Go.Proofs.YtimoebicacnihaaGreatDoor.Crc
open Go.RowKit

theorem and_one (m : Nat) (h : m < 4294967296) : bits .and .u32 (m : Int) 1 = ((m % 2 : Nat) : Int) := by
  have := u32_and_nat m 1 h (by omega)
  rw [Nat.and_one_is_mod] at this
  exact this
theorem xor_poly (m : Nat) (h : m < 4294967296) : bits .xor .u32 ((m : Int) / 2) 3988292384 = ((m / 2 ^^^ 3988292384 : Nat) : Int) := by
  have := u32_xor_nat (m / 2) 3988292384 (by omega) (by omega)
  rw [← this]
  rfl
theorem st_odd {m : Nat} (h : m % 2 = 1) : m / 2 ^^^ 3988292384 = st m := by simp [st, h]
theorem st_even {m : Nat} (h : m % 2 = 0) : m / 2 = st m := by simp [st, h]

theorem ret_int {k : IntKind} {a b : Int} (h : a = b) : Ending.returned (.int k a) = .returned (.int k b) := by rw [h]
theorem sts_next {k m n : Nat} (hk : k < 8) (h : sts (8 - k) m = n) : sts (8 - (k + 1)) (st m) = n := by
  rw [← h, show 8 - k = 8 - (k + 1) + 1 by omega]
  rfl

set_option maxHeartbeats 400000 in
theorem eightSteps (n : Nat) (hn : n < 4294967296) (w : World) :
    Calls Tryz.prog 76 #[.int .u32 (n : Int)] w fun e w' => e = .returned (.int .u32 ((sts 8 n : Nat) : Int)) ∧ w = w' := by
  go_enter Tryz.func76, Tryz.ntmps76
  go_wp2
  go_loop [0, 4] (fun x i => ∃ k m : Nat, k ≤ 8 ∧ m < 4294967296 ∧ x = .int .u32 (m : Int) ∧ i = .int .i64 (k : Int) ∧ Hid (sts (8 - k) m = sts 8 n)) (fun _ i => 8 - (intOf i).toNat)
  case atStart => exact ⟨0, n, by omega, hn, rfl, rfl, rfl⟩
  case round =>
    obtain ⟨k, m, hk, hm, rfl, rfl, HR⟩ := hrel
    have h0 : (0 : Int) ≤ (m : Int) := by omega
    have h1 : (m : Int) ≤ 4294967295 := by omega
    by_cases h8 : (k : Int) < 8
    · rcases Nat.mod_two_eq_zero_or_one m with hp | hp
      · have ha : bits .and .u32 (m : Int) 1 = 0 := by rw [and_one m hm, hp]; rfl
        have HP := Lib.hid hp
        clear hp
        go_wp2
        go_round
        case rel =>
          refine ⟨k + 1, m / 2, by omega, by omega, rfl, by go_num, ?_⟩
          show sts (8 - (k + 1)) (m / 2) = sts 8 n
          rw [st_even HP.out]
          exact sts_next (by omega) HR.out
        case measure => simp [intOf]; omega
      · have ha : bits .and .u32 (m : Int) 1 = 1 := by rw [and_one m hm, hp]; rfl
        have hx := xor_poly m hm
        have HP := Lib.hid hp
        clear hp
        go_wp2
        go_round
        case rel =>
          refine ⟨k + 1, m / 2 ^^^ 3988292384, by omega, xor_lt32 (by omega) (by omega), rfl, by go_num, ?_⟩
          show sts (8 - (k + 1)) (m / 2 ^^^ 3988292384) = sts 8 n
          rw [st_odd HP.out]
          exact sts_next (by omega) HR.out
        case measure => simp [intOf]; omega
    · have hk8 : k = 8 := by omega
      have HK := Lib.hid hk8
      clear hk8
      go_wp2
      go_ret
      have hfin : m = sts 8 n := by
        have := HR.out
        rw [HK.out] at this
        exact this
      exact ⟨ret_int (congrArg Int.ofNat hfin), rfl⟩

end Go.Proofs.YtimoebicacnihaaGreatDoor.Crc
end

section
/-
  What the program's 'Table' returns: an array of 256 numbers, eight steps of each index; it makes memory of its own and turns none that was there. No condition.
-/
namespace Go.Proofs.YtimoebicacnihaaGreatDoor.Crc
open Go.RowKit

/-- The table as it is filled up to index k: the rest is 0. -/
def tabU (k : Nat) : Array Value := (Array.range 256).map fun j => .int .u32 ((if j < k then sts 8 j else 0 : Nat) : Int)
/-- The table. -/
def tab : Array Value := (Array.range 256).map fun j => .int .u32 ((sts 8 j : Nat) : Int)

theorem tabU_size (k : Nat) : (tabU k).size = 256 := by simp [tabU]
theorem tab_size : tab.size = 256 := by simp [tab]
theorem tabU_all : tabU 256 = tab := by
  apply Array.ext
  · simp [tabU_size, tab_size]
  · intro i h1 h2
    have hi : i < 256 := by rw [tab_size] at h2; exact h2
    simp [tabU, tab, hi]
theorem tabU_zero : tabU 0 = Array.replicate 256 (.int .u32 0) := by
  apply Array.ext
  · simp [tabU_size]
  · intro i h1 h2
    simp [tabU]
theorem tabU_next (k : Nat) : (tabU k).setIfInBounds k (.int .u32 ((sts 8 k : Nat) : Int)) = tabU (k + 1) := by
  apply Array.ext
  · simp [tabU_size]
  · intro i h1 h2
    have hi : i < 256 := by rw [tabU_size] at h2; exact h2
    rw [Array.getElem_setIfInBounds (by simpa [tabU_size] using hi)]
    by_cases e : k = i
    · subst e; simp [tabU]
    · have h : (i < k + 1) ↔ (i < k) := by omega
      simp [tabU, e, h]
theorem tab_one : tab.all (·.oneCell') = true := by
  rw [Array.all_eq_true_iff_forall_mem]
  intro v hv
  obtain ⟨j, _, rfl⟩ := Array.mem_map.1 hv
  rfl
theorem tab_at (j : Nat) (hj : j < 256) : tab[j]? = some (.int .u32 ((sts 8 j : Nat) : Int)) := by
  simp [tab, hj]

theorem tabU_at (k : Nat) (hk : k < 256) : (tabU k)[k]? = some (.int .u32 0) := by
  simp [tabU, hk]
theorem below_setRow {B g : Nat} {a w : World} (h : Below B a w) (cs : Array Value) (hg : B ≤ g) : Below B a (w.setRow g cs) :=
  h.trans ⟨rfl, rfl, rfl, by simp [World.setRow], fun k hk => setRow_other w g k cs (by omega)⟩

theorem info27 : (Tryz.prog.info? 100).map (fun i => (i.zero, i.size)) = some (some (.agg (Array.replicate 256 (.int .u32 0))), 256) := by kernel_rfl

set_option maxHeartbeats 1000000 in
set_option maxRecDepth 100000 in
theorem table (w : World) :
    Calls Tryz.prog 70 #[] w fun e w' => e = .returned (.agg tab) ∧ Below w.heap.size w w' := by
  have hz := (zero_of_info info27).1
  go_enter Tryz.func70, Tryz.ntmps70
  go_wp2
  go_loopw [3] (fun i wr => ∃ k : Nat, k ≤ 256 ∧ i = .int .i64 (k : Int) ∧ wr = (w.alloc (.cells (Array.replicate 256 (.int .u32 0)) 100)).alloc (.cells (tabU k) 100)) (fun i _ => 256 - (intOf i).toNat)
  case atStart => exact ⟨0, by omega, rfl, by rw [tabU_zero]⟩
  case round =>
    obtain ⟨k, hk, rfl, rfl⟩ := hrel
    by_cases h8 : (k : Int) < 256
    · have h0 : (0 : Int) ≤ (k : Int) := by omega
      have hc : (tabU k)[k]? = some (.int .u32 0) := tabU_at k (by omega)
      go_wp2_with (go_at_call 76; refine (eightSteps k (by omega) _).mono ?_; rintro e w' ⟨rfl, rfl⟩)
      go_roundw
      case rel => exact ⟨k + 1, by omega, by go_num, by rw [tabU_next]⟩
      case measure => simp [intOf]; omega
    · have hk8 : k = 256 := by omega
      subst hk8
      rw [tabU_all]
      have hi := (zero_of_info info27).2
      have hI := Lib.hid hi
      clear hi
      go_wp2_with (first
        | (refine wpList_load_row (by rfl) 100 (.tmp 1) (by rfl) (w.heap.size + 1) (by rfl) 100 tab (0, 0) _ (heap_alloc2_new _ _ _) Tryz.underlying100 (by rfl) (by rw [tab_size]; exact hI.out) ?_)
        | (refine wpList_store_row (by rfl) 100 (.tmp 0) (.tmp 12) (by rfl) w.heap.size tab (by rfl) (by rfl) 100 _ (heap_alloc2_old _ _ _) (by rw [tab_size]; exact hI.out) (by rw [tab_size, Array.size_replicate]) tab_one ?_))
      refine bodyPost_ret (v := .agg tab) (results_cell_row rfl _ _ w.heap.size 100 tab (0, 0) _ rfl (setRow_heap _ _ _ _ _ _ (heap_alloc2_old _ _ _)) Tryz.underlying100 rfl (by rw [tab_size]; exact (zero_of_info info27).2)) rfl ⟨rfl, ?_⟩
      exact below_setRow (((Below.refl _ w).alloc (Nat.le_refl _) _).alloc (by simp) _) _ (Nat.le_refl _)

end Go.Proofs.YtimoebicacnihaaGreatDoor.Crc
end

section
/-
  What the program's 'Sum' returns: the sum of the bytes, for every row of bytes; it makes memory of its own and turns none that was there.
-/
namespace Go.Proofs.YtimoebicacnihaaGreatDoor.Crc
open Go.RowKit

/-- The slice that begins at 'x' has 'bs' as its bytes. -/
def Bytes (w : World) (x : Option Addr) (bs : List Nat) : Prop :=
  (∀ c ∈ bs, c < 256) ∧ (bs = [] ∨ ∃ b off, x = some ⟨b, off, none⟩ ∧ ∀ i, i < bs.length → w.cell? ⟨b, off + i, none⟩ = some (.int .u8 ((bs.getD i 0 : Nat) : Int)))

theorem Bytes.below {w w' : World} {x : Option Addr} {bs : List Nat} {B : Nat} (h : Bytes w x bs) (hb : Below B w w') (hB : ∀ b off, x = some ⟨b, off, none⟩ → bs ≠ [] → b < B) : Bytes w' x bs := by
  refine ⟨h.1, ?_⟩
  rcases h.2 with h0 | ⟨b, off, rfl, hc⟩
  · exact .inl h0
  · by_cases h0 : bs = []
    · exact .inl h0
    · exact .inr ⟨b, off, rfl, fun i hi => (hb.cell (p := ⟨b, off + i, none⟩) (hB b off rfl h0)).trans (hc i hi)⟩
theorem Bytes.lt {w : World} {x : Option Addr} {bs : List Nat} (h : Bytes w x bs) : ∀ b off, x = some ⟨b, off, none⟩ → bs ≠ [] → b < w.heap.size := by
  intro b off hx hn
  rcases h.2 with h0 | ⟨b', off', hx', hc⟩
  · exact absurd h0 hn
  · rw [hx] at hx'
    injection hx' with hx'
    injection hx' with e1 e2
    subst e1
    have h0 : 0 < bs.length := List.length_pos_iff.2 hn
    exact block_lt_of_cell (hc 0 h0)
/-- The bytes are there behind a call that turned nothing that was there. -/
theorem Bytes.behind {w w' : World} {x : Option Addr} {bs : List Nat} (h : Bytes w x bs) (hb : Below w.heap.size w w') : Bytes w' x bs := h.below hb h.lt

theorem shr8 (s : Nat) : (s : Int) / 256 = ((s / 256 : Nat) : Int) := rfl
theorem xor8 (s c : Nat) (hc : c < 256) : bits .xor .u8 ((s : Int) % 256) (c : Int) = (((s % 256) ^^^ c : Nat) : Int) := by
  have := u8_xor_nat (s % 256) c (by omega) hc
  rw [← this]
  rfl
theorem xor32 (s t : Nat) (hs : s < 4294967296) (ht : t < 4294967296) : bits .xor .u32 ((s : Int) / 256) (t : Int) = ((s / 256 ^^^ t : Nat) : Int) := by
  have := u32_xor_nat (s / 256) t (by omega) ht
  rw [← this]
  rfl

theorem not32 (s : Nat) (hs : s < 4294967296) : bits .xor .u32 IntKind.u32.max (s : Int) = ((4294967295 - s : Nat) : Int) := by
  have := u32_xor_nat 4294967295 s (by omega) hs
  rw [Nat.xor_comm, ← not_eq s hs] at this
  exact this
theorem getD_lt {bs : List Nat} (h : ∀ c ∈ bs, c < 256) (k : Nat) (hk : k < bs.length) : bs.getD k 0 < 256 := by
  have e : bs.getD k 0 = bs[k] := by simp [hk]
  rw [e]
  exact h _ (List.getElem_mem _)

set_option maxHeartbeats 1000000 in
set_option maxRecDepth 100000 in
theorem sumNone (x : Option Addr) (cap : Nat) (w : World) :
    Calls Tryz.prog 64 #[.slice x 0 cap] w fun e w' => e = .returned (.int .u32 ((sum [] : Nat) : Int)) ∧ Below w.heap.size w w' := by
  have hz := (zero_of_info info27).1
  have HI := Lib.hid (zero_of_info info27).2
  have hn := not32 4294967295 (by omega)
  go_enter Tryz.func64, Tryz.ntmps64
  go_wp2_with (first
    | (go_at_call 70; refine (table _).mono ?_; rintro e w1 ⟨rfl, hb1⟩)
    | (refine wpList_store_row (by rfl) 100 (.tmp 3) (.tmp 6) (by rfl) w1.heap.size tab (by rfl) (by rfl) 100 _ (heap_alloc_new _ _) (by rw [tab_size]; exact HI.out) (by rw [tab_size, Array.size_replicate]) tab_one ?_; rw [World.setRow_alloc_new]))
  go_loop [4, 9] (fun x i => x = .int .u32 4294967295 ∧ i = .int .i64 0) (fun _ _ => 0)
  case atStart => exact ⟨rfl, rfl⟩
  case round =>
    obtain ⟨rfl, rfl⟩ := hrel
    go_wp2
    go_ret
    exact ⟨rfl, hb1.alloc hb1.size _⟩

set_option maxHeartbeats 1000000 in
set_option maxRecDepth 100000 in
theorem sumSome (b off cap : Nat) (bs : List Nat) (hl : bs.length ≤ 4611686018427387904) (w : World) (hbs : ∀ c ∈ bs, c < 256) (hc : ∀ i, i < bs.length → w.cell? ⟨b, off + i, none⟩ = some (.int .u8 ((bs.getD i 0 : Nat) : Int))) :
    Calls Tryz.prog 64 #[.slice (some ⟨b, off, none⟩) bs.length cap] w fun e w' => e = .returned (.int .u32 ((sum bs : Nat) : Int)) ∧ Below w.heap.size w w' := by
  have hz := (zero_of_info info27).1
  have HI := Lib.hid (zero_of_info info27).2
  have HB := Lib.hid hbs
  have HC := Lib.hid hc
  clear hbs hc
  go_enter Tryz.func64, Tryz.ntmps64
  go_wp2_with (first
    | (go_at_call 70; refine (table _).mono ?_; rintro e w1 ⟨rfl, hb1⟩)
    | (refine wpList_store_row (by rfl) 100 (.tmp 3) (.tmp 6) (by rfl) w1.heap.size tab (by rfl) (by rfl) 100 _ (heap_alloc_new _ _) (by rw [tab_size]; exact HI.out) (by rw [tab_size, Array.size_replicate]) tab_one ?_; rw [World.setRow_alloc_new]))
  go_loop [4, 9] (fun x i => ∃ k s : Nat, k ≤ bs.length ∧ s < 4294967296 ∧ x = .int .u32 (s : Int) ∧ i = .int .i64 (k : Int) ∧ Hid (s = run 4294967295 (bs.take k))) (fun _ i => bs.length - (intOf i).toNat)
  case atStart => exact ⟨0, 4294967295, by omega, by omega, rfl, rfl, rfl⟩
  case round =>
    obtain ⟨k, s, hk, hs, rfl, rfl, HR⟩ := hrel
    have s0 : (0 : Int) ≤ (s : Int) := by omega
    have s1 : (s : Int) ≤ 4294967295 := by omega
    by_cases h8 : (k : Int) < (bs.length : Int)
    · have hkl : k < bs.length := by omega
      have hcell := HC.out k hkl
      obtain ⟨c, hcd⟩ : ∃ c, c = bs.getD k 0 := ⟨_, rfl⟩
      rw [← hcd] at hcell
      have hcm : c < 256 := by rw [hcd]; exact getD_lt HB.out k hkl
      have hlt : b < w.heap.size := block_lt_of_cell hcell
      have hcell2 : (w1.alloc (.cells tab 100)).cell? ⟨b, off + k, none⟩ = some (.int .u8 (c : Int)) := by
        rw [World.cell?_alloc_past _ b (off + k) (by have := hb1.size; omega)]
        exact (hb1.cell (p := ⟨b, off + k, none⟩) hlt).trans hcell
      have hx8 := xor8 s c hcm
      obtain ⟨j, hj⟩ : ∃ j, j = (s % 256) ^^^ c := ⟨_, rfl⟩
      rw [← hj] at hx8
      have hjl : j < 256 := by rw [hj]; exact xor_lt8 (by omega) hcm
      have hj0 : (0 : Int) ≤ (j : Int) := by omega
      have hj1 : (j : Int) < 256 := by omega
      have htj := tab_at j hjl
      have hx32 := xor32 s (sts 8 j) hs (sts_lt _ _ (by omega))
      have HD := Lib.hid hcd
      have HJ := Lib.hid hj
      clear hcd hj hcell
      go_wp2
      go_round
      case rel =>
        refine ⟨k + 1, s / 256 ^^^ sts 8 j, by omega, xor_lt32 (by omega) (sts_lt _ _ (by omega)), rfl, by go_num, ?_⟩
        show s / 256 ^^^ sts 8 j = run 4294967295 (bs.take (k + 1))
        rw [run_take_succ _ _ _ hkl, ← HR.out, HJ.out, HD.out]
        rfl
      case measure => simp [intOf]; omega
    · have hkk : k = bs.length := by omega
      have HK := Lib.hid hkk
      clear hkk
      have hn := not32 s hs
      go_wp2
      go_ret
      refine ⟨ret_int (congrArg Int.ofNat ?_), (hb1.alloc hb1.size _)⟩
      rw [HR.out, HK.out, List.take_length]
      rfl

/-- For every slice of bytes. -/
theorem sumOf (x : Option Addr) (cap : Nat) (bs : List Nat) (hl : bs.length ≤ 4611686018427387904) (w : World) (h : Bytes w x bs) :
    Calls Tryz.prog 64 #[.slice x bs.length cap] w fun e w' => e = .returned (.int .u32 ((sum bs : Nat) : Int)) ∧ Below w.heap.size w w' := by
  rcases h.2 with h0 | ⟨b, off, rfl, hc⟩
  · subst h0
    exact sumNone x cap w
  · exact sumSome b off cap bs hl w h.1 hc

end Go.Proofs.YtimoebicacnihaaGreatDoor.Crc
end

section
/-
  What the document's own sum, bit by bit, returns: the same sum as by the table, for every row of bytes; the world is as it was.
-/
namespace Go.Proofs.YtimoebicacnihaaGreatDoor.Crc
open Go.RowKit

theorem bit8 (c m : Nat) (hc : c < 256) : bits .and .u8 ((c : Int) / 2 ^ m) 1 = ((c / 2 ^ m % 2 : Nat) : Int) := by
  have hd : c / 2 ^ m < 256 := Nat.lt_of_le_of_lt (Nat.div_le_self _ _) hc
  have := u8_and_nat (c / 2 ^ m) 1 hd (by omega)
  rw [Nat.and_one_is_mod] at this
  rw [← this]
  congr 1
theorem bits1_same {c m s t : Nat} (ht : t = bits1 c m s) (h : c / 2 ^ m % 2 = t % 2) : t / 2 = bits1 c (m + 1) s := by
  rw [bits1, ← ht, st_xor, h]
  rcases Nat.mod_two_eq_zero_or_one t with hp | hp
  · rw [hp, st_zero, Nat.xor_zero, ← st_even hp]
  · rw [hp, ← st_odd hp, show st 1 = 3988292384 by decide, Nat.xor_assoc, Nat.xor_self, Nat.xor_zero]
theorem bits1_other {c m s t : Nat} (ht : t = bits1 c m s) (h : c / 2 ^ m % 2 ≠ t % 2) : t / 2 ^^^ 3988292384 = bits1 c (m + 1) s := by
  rw [bits1, ← ht, st_xor]
  rcases Nat.mod_two_eq_zero_or_one t with hp | hp
  · have hq : c / 2 ^ m % 2 = 1 := by omega
    rw [hq, ← st_even hp, show st 1 = 3988292384 by decide]
  · have hq : c / 2 ^ m % 2 = 0 := by omega
    rw [hq, ← st_odd hp, st_zero, Nat.xor_zero]

set_option maxHeartbeats 1000000 in
set_option maxRecDepth 100000 in
theorem refSome (b off cap : Nat) (bs : List Nat) (hl : bs.length ≤ 4611686018427387904) (w : World) (hbs : ∀ c ∈ bs, c < 256) (hc : ∀ i, i < bs.length → w.cell? ⟨b, off + i, none⟩ = some (.int .u8 ((bs.getD i 0 : Nat) : Int))) :
    Calls Tryz.prog 44 #[.slice (some ⟨b, off, none⟩) bs.length cap] w fun e w' => e = .returned (.int .u32 ((sum bs : Nat) : Int)) ∧ w = w' := by
  have HB := Lib.hid hbs
  have HC := Lib.hid hc
  clear hbs hc
  go_enter Tryz.func44, Tryz.ntmps44
  go_wp2
  go_loop [3, 4] (fun x i => ∃ k s : Nat, k ≤ bs.length ∧ s < 4294967296 ∧ x = .int .u32 (s : Int) ∧ i = .int .i64 (k : Int) ∧ Hid (s = run 4294967295 (bs.take k))) (fun _ i => bs.length - (intOf i).toNat)
  case atStart => exact ⟨0, 4294967295, by omega, by omega, rfl, rfl, rfl⟩
  case round =>
    obtain ⟨k, s, hk, hs, rfl, rfl, HR⟩ := hrel
    have s0 : (0 : Int) ≤ (s : Int) := by omega
    have s1 : (s : Int) ≤ 4294967295 := by omega
    by_cases h8 : (k : Int) < (bs.length : Int)
    · have hkl : k < bs.length := by omega
      have hcell := HC.out k hkl
      obtain ⟨c, hcd⟩ : ∃ c, c = bs.getD k 0 := ⟨_, rfl⟩
      rw [← hcd] at hcell
      have hcm : c < 256 := by rw [hcd]; exact getD_lt HB.out k hkl
      have c0 : (0 : Int) ≤ (c : Int) := by omega
      have c1 : (c : Int) ≤ 255 := by omega
      have HD := Lib.hid hcd
      clear hcd
      go_wp2
      go_loop [3, 5] (fun x i => ∃ m t : Nat, m ≤ 8 ∧ t < 4294967296 ∧ x = .int .u32 (t : Int) ∧ i = .int .i64 (m : Int) ∧ Hid (t = bits1 c m s)) (fun _ i => 8 - (intOf i).toNat)
      case atStart => exact ⟨0, s, by omega, hs, rfl, rfl, rfl⟩
      case round =>
        obtain ⟨m, t, hm, ht, rfl, rfl, HT⟩ := hrel
        have t0 : (0 : Int) ≤ (t : Int) := by omega
        have t1 : (t : Int) ≤ 4294967295 := by omega
        by_cases h9 : (m : Int) < 8
        · have m0 : (0 : Int) ≤ (m : Int) := by omega
          have hbit := bit8 c m hcm
          have hx := xor_poly t ht
          have hlx : t / 2 ^^^ 3988292384 < 4294967296 := xor_lt32 (by omega) (by omega)
          rcases Nat.mod_two_eq_zero_or_one t with hp | hp <;> rcases Nat.mod_two_eq_zero_or_one (c / 2 ^ m) with hq | hq
          · have ha : bits .and .u32 (t : Int) 1 = 0 := by rw [and_one t ht, hp]; rfl
            have hb : bits .and .u8 ((c : Int) / 2 ^ m) 1 = 0 := by rw [hbit, hq]; rfl
            have HN := Lib.hid (bits1_same HT.out (hq.trans hp.symm))
            clear hp hq hbit
            go_wp2
            go_round
            case rel => exact ⟨m + 1, t / 2, by omega, by omega, rfl, by go_num, HN.out⟩
            case measure => simp [intOf]; omega
          · have ha : bits .and .u32 (t : Int) 1 = 0 := by rw [and_one t ht, hp]; rfl
            have hb : bits .and .u8 ((c : Int) / 2 ^ m) 1 = 1 := by rw [hbit, hq]; rfl
            have HN := Lib.hid (bits1_other HT.out (by omega))
            clear hp hq hbit
            go_wp2
            go_round
            case rel => exact ⟨m + 1, t / 2 ^^^ 3988292384, by omega, hlx, rfl, by go_num, HN.out⟩
            case measure => simp [intOf]; omega
          · have ha : bits .and .u32 (t : Int) 1 = 1 := by rw [and_one t ht, hp]; rfl
            have hb : bits .and .u8 ((c : Int) / 2 ^ m) 1 = 0 := by rw [hbit, hq]; rfl
            have HN := Lib.hid (bits1_other HT.out (by omega))
            clear hp hq hbit
            go_wp2
            go_round
            case rel => exact ⟨m + 1, t / 2 ^^^ 3988292384, by omega, hlx, rfl, by go_num, HN.out⟩
            case measure => simp [intOf]; omega
          · have ha : bits .and .u32 (t : Int) 1 = 1 := by rw [and_one t ht, hp]; rfl
            have hb : bits .and .u8 ((c : Int) / 2 ^ m) 1 = 1 := by rw [hbit, hq]; rfl
            have HN := Lib.hid (bits1_same HT.out (hq.trans hp.symm))
            clear hp hq hbit
            go_wp2
            go_round
            case rel => exact ⟨m + 1, t / 2, by omega, by omega, rfl, by go_num, HN.out⟩
            case measure => simp [intOf]; omega
        · have hm8 : m = 8 := by omega
          have HM := Lib.hid hm8
          clear hm8
          go_wp2
          go_round
          case rel =>
            refine ⟨k + 1, t, by omega, ht, rfl, by go_num, ?_⟩
            show t = run 4294967295 (bs.take (k + 1))
            rw [run_take_succ _ _ _ hkl, ← HR.out, HT.out, HM.out, ← HD.out]
            exact bits1_by1 c s hcm
          case measure => simp [intOf]; omega
    · have hkk : k = bs.length := by omega
      have HK := Lib.hid hkk
      clear hkk
      have hn := not32 s hs
      go_wp2
      go_ret
      refine ⟨ret_int (congrArg Int.ofNat ?_), rfl⟩
      rw [HR.out, HK.out, List.take_length]
      rfl

set_option maxHeartbeats 1000000 in
theorem refNone (x : Option Addr) (cap : Nat) (w : World) :
    Calls Tryz.prog 44 #[.slice x 0 cap] w fun e w' => e = .returned (.int .u32 ((sum [] : Nat) : Int)) ∧ w = w' := by
  have hn := not32 4294967295 (by omega)
  go_enter Tryz.func44, Tryz.ntmps44
  go_wp2
  go_loop [3, 4] (fun x i => x = .int .u32 4294967295 ∧ i = .int .i64 0) (fun _ _ => 0)
  case atStart => exact ⟨rfl, rfl⟩
  case round =>
    obtain ⟨rfl, rfl⟩ := hrel
    go_wp2
    go_ret
    exact ⟨rfl, rfl⟩

/-- For every slice of bytes. -/
theorem refOf (x : Option Addr) (cap : Nat) (bs : List Nat) (hl : bs.length ≤ 4611686018427387904) (w : World) (h : Bytes w x bs) :
    Calls Tryz.prog 44 #[.slice x bs.length cap] w fun e w' => e = .returned (.int .u32 ((sum bs : Nat) : Int)) ∧ w = w' := by
  rcases h.2 with h0 | ⟨b, off, rfl, hc⟩
  · subst h0
    exact refNone x cap w
  · exact refSome b off cap bs hl w h.1 hc

end Go.Proofs.YtimoebicacnihaaGreatDoor.Crc
end
