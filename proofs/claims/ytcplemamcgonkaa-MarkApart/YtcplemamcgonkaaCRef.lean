/-
  What the document's own sum, bit by bit, returns: the same sum as by the table, for every row of bytes; the world is as it was.
-/
import Derived.Test.YtcplemamcgonkaaCSum
namespace Go.Proofs.Ytcplemamcgonkaa.Crc
open Go.RowKit

theorem bit8 (c m : Nat) (hc : c < 256) : bits .and .u8 ((c : Int) / 2 ^ m) 1 = ((c / 2 ^ m % 2 : Nat) : Int) := by
  have hd : c / 2 ^ m < 256 := Nat.lt_of_le_of_lt (Nat.div_le_self _ _) hc
  have := u8_and_nat (c / 2 ^ m) 1 hd (by omega)
  rw [Nat.and_one_is_mod] at this
  rw [← this]
  congr 1
theorem bits1_same {c m s t : Nat} (ht : t = bits1 c m s) (h : c / 2 ^ m % 2 = t % 2) : t / 2 = bits1 c (m + 1) s := by
  rw [bits1, ← ht, st_xor, h]
  rcases Nat.mod_two_eq_zero_or_one t with hp | hp
  · rw [hp, st_zero, Nat.xor_zero, ← st_even hp]
  · rw [hp, ← st_odd hp, show st 1 = 3988292384 by decide, Nat.xor_assoc, Nat.xor_self, Nat.xor_zero]
theorem bits1_other {c m s t : Nat} (ht : t = bits1 c m s) (h : c / 2 ^ m % 2 ≠ t % 2) : t / 2 ^^^ 3988292384 = bits1 c (m + 1) s := by
  rw [bits1, ← ht, st_xor]
  rcases Nat.mod_two_eq_zero_or_one t with hp | hp
  · have hq : c / 2 ^ m % 2 = 1 := by omega
    rw [hq, ← st_even hp, show st 1 = 3988292384 by decide]
  · have hq : c / 2 ^ m % 2 = 0 := by omega
    rw [hq, ← st_odd hp, st_zero, Nat.xor_zero]

set_option maxHeartbeats 1000000 in
set_option maxRecDepth 100000 in
theorem refSome (b off cap : Nat) (bs : List Nat) (hl : bs.length ≤ 4611686018427387904) (w : World) (hbs : ∀ c ∈ bs, c < 256) (hc : ∀ i, i < bs.length → w.cell? ⟨b, off + i, none⟩ = some (.int .u8 ((bs.getD i 0 : Nat) : Int))) :
    Calls Try.prog 32 #[.slice (some ⟨b, off, none⟩) bs.length cap] w fun e w' => e = .returned (.int .u32 ((sum bs : Nat) : Int)) ∧ w = w' := by
  have HB := Lib.hid hbs
  have HC := Lib.hid hc
  clear hbs hc
  go_enter Try.func32, Try.ntmps32
  go_wp2
  go_loop [3, 4] (fun x i => ∃ k s : Nat, k ≤ bs.length ∧ s < 4294967296 ∧ x = .int .u32 (s : Int) ∧ i = .int .i64 (k : Int) ∧ Hid (s = run 4294967295 (bs.take k))) (fun _ i => bs.length - (intOf i).toNat)
  case atStart => exact ⟨0, 4294967295, by omega, by omega, rfl, rfl, rfl⟩
  case round =>
    obtain ⟨k, s, hk, hs, rfl, rfl, HR⟩ := hrel
    have s0 : (0 : Int) ≤ (s : Int) := by omega
    have s1 : (s : Int) ≤ 4294967295 := by omega
    by_cases h8 : (k : Int) < (bs.length : Int)
    · have hkl : k < bs.length := by omega
      have hcell := HC.out k hkl
      obtain ⟨c, hcd⟩ : ∃ c, c = bs.getD k 0 := ⟨_, rfl⟩
      rw [← hcd] at hcell
      have hcm : c < 256 := by rw [hcd]; exact getD_lt HB.out k hkl
      have c0 : (0 : Int) ≤ (c : Int) := by omega
      have c1 : (c : Int) ≤ 255 := by omega
      have HD := Lib.hid hcd
      clear hcd
      go_wp2
      go_loop [3, 5] (fun x i => ∃ m t : Nat, m ≤ 8 ∧ t < 4294967296 ∧ x = .int .u32 (t : Int) ∧ i = .int .i64 (m : Int) ∧ Hid (t = bits1 c m s)) (fun _ i => 8 - (intOf i).toNat)
      case atStart => exact ⟨0, s, by omega, hs, rfl, rfl, rfl⟩
      case round =>
        obtain ⟨m, t, hm, ht, rfl, rfl, HT⟩ := hrel
        have t0 : (0 : Int) ≤ (t : Int) := by omega
        have t1 : (t : Int) ≤ 4294967295 := by omega
        by_cases h9 : (m : Int) < 8
        · have m0 : (0 : Int) ≤ (m : Int) := by omega
          have hbit := bit8 c m hcm
          have hx := xor_poly t ht
          have hlx : t / 2 ^^^ 3988292384 < 4294967296 := xor_lt32 (by omega) (by omega)
          rcases Nat.mod_two_eq_zero_or_one t with hp | hp <;> rcases Nat.mod_two_eq_zero_or_one (c / 2 ^ m) with hq | hq
          · have ha : bits .and .u32 (t : Int) 1 = 0 := by rw [and_one t ht, hp]; rfl
            have hb : bits .and .u8 ((c : Int) / 2 ^ m) 1 = 0 := by rw [hbit, hq]; rfl
            have HN := Lib.hid (bits1_same HT.out (hq.trans hp.symm))
            clear hp hq hbit
            go_wp2
            go_round
            case rel => exact ⟨m + 1, t / 2, by omega, by omega, rfl, by go_num, HN.out⟩
            case measure => simp [intOf]; omega
          · have ha : bits .and .u32 (t : Int) 1 = 0 := by rw [and_one t ht, hp]; rfl
            have hb : bits .and .u8 ((c : Int) / 2 ^ m) 1 = 1 := by rw [hbit, hq]; rfl
            have HN := Lib.hid (bits1_other HT.out (by omega))
            clear hp hq hbit
            go_wp2
            go_round
            case rel => exact ⟨m + 1, t / 2 ^^^ 3988292384, by omega, hlx, rfl, by go_num, HN.out⟩
            case measure => simp [intOf]; omega
          · have ha : bits .and .u32 (t : Int) 1 = 1 := by rw [and_one t ht, hp]; rfl
            have hb : bits .and .u8 ((c : Int) / 2 ^ m) 1 = 0 := by rw [hbit, hq]; rfl
            have HN := Lib.hid (bits1_other HT.out (by omega))
            clear hp hq hbit
            go_wp2
            go_round
            case rel => exact ⟨m + 1, t / 2 ^^^ 3988292384, by omega, hlx, rfl, by go_num, HN.out⟩
            case measure => simp [intOf]; omega
          · have ha : bits .and .u32 (t : Int) 1 = 1 := by rw [and_one t ht, hp]; rfl
            have hb : bits .and .u8 ((c : Int) / 2 ^ m) 1 = 1 := by rw [hbit, hq]; rfl
            have HN := Lib.hid (bits1_same HT.out (hq.trans hp.symm))
            clear hp hq hbit
            go_wp2
            go_round
            case rel => exact ⟨m + 1, t / 2, by omega, by omega, rfl, by go_num, HN.out⟩
            case measure => simp [intOf]; omega
        · have hm8 : m = 8 := by omega
          have HM := Lib.hid hm8
          clear hm8
          go_wp2
          go_round
          case rel =>
            refine ⟨k + 1, t, by omega, ht, rfl, by go_num, ?_⟩
            show t = run 4294967295 (bs.take (k + 1))
            rw [run_take_succ _ _ _ hkl, ← HR.out, HT.out, HM.out, ← HD.out]
            exact bits1_by1 c s hcm
          case measure => simp [intOf]; omega
    · have hkk : k = bs.length := by omega
      have HK := Lib.hid hkk
      clear hkk
      have hn := not32 s hs
      go_wp2
      go_ret
      refine ⟨ret_int (congrArg Int.ofNat ?_), rfl⟩
      rw [HR.out, HK.out, List.take_length]
      rfl

set_option maxHeartbeats 1000000 in
theorem refNone (x : Option Addr) (cap : Nat) (w : World) :
    Calls Try.prog 32 #[.slice x 0 cap] w fun e w' => e = .returned (.int .u32 ((sum [] : Nat) : Int)) ∧ w = w' := by
  have hn := not32 4294967295 (by omega)
  go_enter Try.func32, Try.ntmps32
  go_wp2
  go_loop [3, 4] (fun x i => x = .int .u32 4294967295 ∧ i = .int .i64 0) (fun _ _ => 0)
  case atStart => exact ⟨rfl, rfl⟩
  case round =>
    obtain ⟨rfl, rfl⟩ := hrel
    go_wp2
    go_ret
    exact ⟨rfl, rfl⟩

/-- For every slice of bytes. -/
theorem refOf (x : Option Addr) (cap : Nat) (bs : List Nat) (hl : bs.length ≤ 4611686018427387904) (w : World) (h : Bytes w x bs) :
    Calls Try.prog 32 #[.slice x bs.length cap] w fun e w' => e = .returned (.int .u32 ((sum bs : Nat) : Int)) ∧ w = w' := by
  rcases h.2 with h0 | ⟨b, off, rfl, hc⟩
  · subst h0
    exact refNone x cap w
  · exact refSome b off cap bs hl w h.1 hc

end Go.Proofs.Ytcplemamcgonkaa.Crc
