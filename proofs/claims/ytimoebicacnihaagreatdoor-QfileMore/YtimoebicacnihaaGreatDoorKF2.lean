/-
  What the document's own box, Body, Good and sum return.
-/
import Derived.Test.YtimoebicacnihaaGreatDoorKE4
import Derived.Test.YtimoebicacnihaaGreatDoorKE0
import Derived.Test.YtimoebicacnihaaGreatDoorKg7
namespace Go.Proofs.YtimoebicacnihaaGreatDoor.Ln
open Go.RowKit
set_option linter.unusedVariables false
set_option linter.unusedSimpArgs false

set_option maxHeartbeats 1000000 in
theorem refBoxC (s : ByteArray) (hs : s.size ≤ 9223372036854775807) (w : World) : Calls Tryz.prog 39 #[.string s] w (Quiet (.bool (boxB s)) w) := by
  have HC := Lib.hid (Ad.refParse_walk s hs w)
  cases hb : Ad.isBox s.data.toList with
  | false =>
    have hv : boxB s = false := by rw [boxB, hb]; rfl
    rw [Ad.parseV_none hb] at HC
    have HV := Lib.hid hv
    clear hv hb
    go_enter Tryz.func39, Tryz.ntmps39
    go_wp2_with fail
    refine HC.out.mono ?_
    rintro e w1 ⟨rfl, hb1⟩
    go_wp2
    go_ret
    exact ⟨by rw [HV.out]; rfl, Keep.of_below hb1⟩
  | true =>
    have e1 : Ad.parseV s.data.toList = .tuple #[.string (Ad.bs (Ad.parseM s.data.toList)), .bool true] := by rw [Ad.parseV, hb]
    rw [e1] at HC
    obtain ⟨t, ht⟩ : ∃ t, t = Ad.bs (Ad.parseM s.data.toList) := ⟨_, rfl⟩
    rw [← ht] at HC
    have hv : boxB s = decide (t = s) := by
      rw [boxB, hb, ht, Bool.true_and]
      simp only [bs_inj]
    have HV := Lib.hid hv
    clear hv hb e1 ht
    by_cases hts : t = s
    · subst hts
      go_enter Tryz.func39, Tryz.ntmps39
      go_wp2_with fail
      refine HC.out.mono ?_
      rintro e w1 ⟨rfl, hb1⟩
      go_wp2
      go_ret
      exact ⟨by rw [HV.out]; simp, Keep.of_below hb1⟩
    · have hne := list_beq (s := s) (t := t) (fun e => hts e.symm)
      have HD : Hid (decide (t = s) = false) := Lib.hid (decide_eq_false hts)
      go_enter Tryz.func39, Tryz.ntmps39
      go_wp2_with fail
      refine HC.out.mono ?_
      rintro e w1 ⟨rfl, hb1⟩
      go_wp2
      go_ret
      exact ⟨by rw [HV.out, HD.out]; rfl, Keep.of_below hb1⟩

theorem bodyB_at {B : List Nat} : bodyB B = true ↔ (∀ c ∈ B, c ≠ 13) ∧ (B = [] ∨ ∃ h : B.length - 1 < B.length, B[B.length - 1] = 10) := by
  simp only [bodyB, Bool.and_eq_true, List.all_eq_true, bne_iff_ne, Bool.or_eq_true, beq_iff_eq]
  refine and_congr Iff.rfl ?_
  rcases B with _ | ⟨c, t⟩
  · simp
  · rw [List.getLast?_eq_getElem?]
    constructor
    · rintro (h | h)
      · rw [List.getElem?_eq_getElem (by simp)] at h; cases h
      · right
        refine ⟨by simp, ?_⟩
        rw [List.getElem?_eq_getElem (by simp)] at h
        exact Option.some.inj h
    · rintro (h | ⟨h1, h2⟩)
      · cases h
      · right
        rw [List.getElem?_eq_getElem h1, h2]
set_option maxHeartbeats 2000000 in
theorem bodyC {P : Nat → Prop} {w : World} (x : Option Addr) (n c : Nat) (B : List Nat) (hn : n = B.length) (hl : n ≤ 1000000) (h : Bytes P w x B) :
    Calls Tryz.prog 38 #[.slice x n c] w fun e w' => e = .returned (.bool (bodyB B)) ∧ w' = w := by
  have HN := Lib.hid hn
  have HX := Lib.hid h
  clear hn h
  go_enter Tryz.func38, Tryz.ntmps38
  go_wp2
  go_loop [3] (fun i => ∃ k : Nat, k ≤ n ∧ i = .int .i64 (k : Int) ∧ Hid (∀ j (hj : j < B.length), j < k → B[j] ≠ 13)) (fun i => n - (intOf i).toNat)
  case atStart => exact ⟨0, by omega, rfl, fun j _ h => absurd h (Nat.not_lt_zero _)⟩
  case round =>
    obtain ⟨k, hk, rfl, HR⟩ := hrel
    by_cases hlt : (k : Int) < (n : Int)
    · have hkl : k < B.length := by have := HN.out; omega
      obtain ⟨b, off, _, hx, hc⟩ := HX.out.at k hkl
      subst hx
      obtain ⟨d, hd⟩ : ∃ d, d = B.getD k 0 := ⟨_, rfl⟩
      rw [← hd] at hc
      have HD : Hid (∀ h : k < B.length, d = B[k]) := Lib.hid (fun h => by rw [hd]; simp [h])
      have HKL := Lib.hid hkl
      have k0 : (0 : Int) ≤ (k : Int) := by omega
      clear hd
      clear hkl
      by_cases h13 : d = 13
      · subst h13
        go_wp2
        go_ret
        have hv : bodyB B = false := by
          cases hb : bodyB B with
          | false => rfl
          | true => exact absurd (HD.out HKL.out).symm ((bodyB_at.1 hb).1 _ (List.getElem_mem HKL.out))
        exact ⟨by rw [hv]; rfl, rfl⟩
      · have hne : ((d : Int) == 13) = false := by rw [beq_eq_false_iff_ne]; omega
        have hnd : ¬ (d : Int) = 13 := by omega
        have H13 := Lib.hid h13
        clear h13
        go_wp2
        go_round
        case rel => exact ⟨k + 1, by omega, by go_num, fun j hj h => by
          rcases Nat.lt_or_ge j k with h2 | h2
          · exact HR.out j hj h2
          · obtain rfl : j = k := by omega
            rw [← HD.out hj]; exact H13.out⟩
        case measure => simp [intOf]; omega
    · have HALL : Hid (∀ c ∈ B, c ≠ 13) := Lib.hid (fun c hc => by
        obtain ⟨j, hj, rfl⟩ := List.getElem_of_mem hc
        exact HR.out j hj (by have := HN.out; omega))
      by_cases h0 : n = 0
      · have hv : Hid (bodyB B = true) := Lib.hid (bodyB_at.2 ⟨HALL.out, .inl (List.eq_nil_of_length_eq_zero (by have := HN.out; omega))⟩)
        subst h0
        go_wp2
        go_ret
        exact ⟨by rw [hv.out]; rfl, rfl⟩
      · obtain ⟨m, hm⟩ : ∃ m, n = m + 1 := ⟨n - 1, by omega⟩
        have hml : m < B.length := by have := HN.out; omega
        obtain ⟨b, off, _, hx, hc⟩ := HX.out.at m hml
        subst hx
        obtain ⟨d, hd⟩ : ∃ d, d = B.getD m 0 := ⟨_, rfl⟩
        rw [← hd] at hc
        have HV : Hid (bodyB B = decide (d = 10)) := Lib.hid (by
          have e : B.length - 1 = m := by have := HN.out; omega
          rw [Bool.eq_iff_iff, decide_eq_true_iff, bodyB_at]
          have hdm : B[m] = d := by rw [hd]; simp [hml]
          constructor
          · rintro ⟨_, h | ⟨_, h2⟩⟩
            · rw [h] at hml; simp at hml
            · simp only [e] at h2; rw [← hdm]; exact h2
          · intro h
            exact ⟨HALL.out, .inr ⟨by omega, by simp only [e]; rw [hdm, h]⟩⟩)
        have hnm : (n : Int) - 1 = (m : Int) := by omega
        have hne0 : ((n : Int) == 0) = false := by rw [beq_eq_false_iff_ne]; omega
        have hne1 : ¬ (n : Int) = 0 := by omega
        have hm0 : (0 : Int) ≤ (m : Int) := by omega
        have hm1 : (m : Int) < (n : Int) := by omega
        clear hm hml hd h0
        by_cases h10 : d = 10
        · subst h10
          go_wp2
          go_ret
          exact ⟨by rw [HV.out]; rfl, rfl⟩
        · have hne : ((d : Int) == 10) = false := by rw [beq_eq_false_iff_ne]; omega
          have hnd : ¬ (d : Int) = 10 := by omega
          have HD : Hid (decide (d = 10) = false) := Lib.hid (decide_eq_false h10)
          clear h10
          go_wp2
          go_ret
          exact ⟨by rw [HV.out, HD.out]; rfl, rfl⟩

theorem and255 (n : Nat) (h : n < 4294967296) : bits .and .u32 (n : Int) 255 = (n : Int) % 256 := by
  have := u32_and_nat n 255 h (by omega)
  rw [show n &&& 255 = n % 256 from Nat.and_two_pow_sub_one_eq_mod n 8] at this
  simpa using this
set_option maxHeartbeats 2000000 in
theorem refSumC {P : Nat → Prop} {w : World} (x : Option Addr) (n cap : Nat) (bs : List Nat) (hn : n = bs.length) (hl : n ≤ 1000000) (h : Bytes P w x bs) :
    Calls Tryz.prog 33 #[.slice x n cap] w (Copy (sum4 bs) w) := by
  have HC : Hid (Calls Tryz.prog 44 #[.slice x n cap] w fun e w' => e = .returned (.int .u32 ((Crc.sum bs : Nat) : Int)) ∧ w = w') := Lib.hid (by subst hn; exact Crc.refOf x cap bs (by omega) w h.crc)
  have hs := Crc.sum_lt bs
  have HS4 : Hid (sum4 bs = [Crc.sum bs / 16777216, Crc.sum bs / 65536 % 256, Crc.sum bs / 256 % 256, Crc.sum bs % 256]) := Lib.hid rfl
  obtain ⟨s, hse⟩ : ∃ s, s = Crc.sum bs := ⟨_, rfl⟩
  rw [← hse] at HC hs HS4
  have s0 : (0 : Int) ≤ (s : Int) := by omega
  have s1 : (s : Int) ≤ 4294967295 := by omega
  have b1 : bits .and .u32 ((s : Int) / 65536) 255 = (s : Int) / 65536 % 256 := by
    have := and255 (s / 65536) (by omega)
    simpa using this
  have b2 : bits .and .u32 ((s : Int) / 256) 255 = (s : Int) / 256 % 256 := by
    have := and255 (s / 256) (by omega)
    simpa using this
  have b3 : bits .and .u32 (s : Int) 255 = (s : Int) % 256 := and255 s hs
  clear h hn hse
  go_enter Tryz.func33, Tryz.ntmps33
  go_wp2_with fail
  refine HC.out.mono ?_
  rintro e w1 ⟨rfl, hw⟩
  subst hw
  go_wp2
  go_ret
  refine ⟨w.heap.size, 4, rfl, Nat.le_refl _, rfl, ?_, keep_new w _⟩
  have e4 : (cellsOf (sum4 bs)).toArray = #[.int .u8 ((s : Int) / 16777216), .int .u8 ((s : Int) / 65536 % 256), .int .u8 ((s : Int) / 256 % 256), .int .u8 ((s : Int) % 256)] := by
    rw [HS4.out]
    simp [cellsOf]
  rw [e4]
  exact At.new w 5 _

set_option maxHeartbeats 8000000 in
set_option maxRecDepth 100000 in
theorem refGoodC {P : Nat → Prop} {w : World} {m : Ml} {rx : Option Addr} {rn rc : Nat} {bx : Option Addr} {bn bc : Nat} (h : MlIt P w m rx rn bx bn) (hlf : m.frm.size ≤ 9223372036854775807) (hlr : ∀ s ∈ m.rcpts, s.size ≤ 9223372036854775807) :
    Calls Tryz.prog 28 #[.agg (mlC m rx rn rc bx bn bc)] w (Quiet (.bool (goodM m)) w) := by
  have k0 := keep_new w (.cells (mlC m rx rn rc bx bn bc) 25)
  have HA := Lib.hid (h.quiet k0)
  have K0 := Lib.hid k0
  have HLf := Lib.hid hlf
  have HLr := Lib.hid hlr
  clear h k0 hlf hlr
  obtain ⟨i, p, b, f, L, B⟩ := m
  unfold mlC at *
  simp only at *
  by_cases h0 : i < 1
  · have HV : Hid (goodM ⟨i, p, b, f, L, B⟩ = false) := Lib.hid (by
      cases hg : goodM ⟨i, p, b, f, L, B⟩ with
      | false => rfl
      | true =>
        exfalso
        have hf := goodM_fine hg
        have a1 := hf.id
        have a2 := hf.parent
        have a3 := hf.born
        have a4 := hf.n
        have a5 := hf.body
        have a6 := HA.out.hrn
        have a7 := HA.out.hbn
        simp only at a1 a2 a3 a4 a5 a6 a7
        omega)
    go_enter Tryz.func28, Tryz.ntmps28
    go_wp2
    go_ret
    exact ⟨by rw [HV.out]; rfl, K0.out⟩

  have d0 : decide (i < 1) = false := decide_eq_false h0
  by_cases h1 : 999999999 < i
  · have HV : Hid (goodM ⟨i, p, b, f, L, B⟩ = false) := Lib.hid (by
      cases hg : goodM ⟨i, p, b, f, L, B⟩ with
      | false => rfl
      | true =>
        exfalso
        have hf := goodM_fine hg
        have a1 := hf.id
        have a2 := hf.parent
        have a3 := hf.born
        have a4 := hf.n
        have a5 := hf.body
        have a6 := HA.out.hrn
        have a7 := HA.out.hbn
        simp only at a1 a2 a3 a4 a5 a6 a7
        omega)
    go_enter Tryz.func28, Tryz.ntmps28
    go_wp2
    go_ret
    exact ⟨by rw [HV.out]; rfl, K0.out⟩

  have d1 : decide (999999999 < i) = false := decide_eq_false h1
  by_cases h2 : p < 0
  · have HV : Hid (goodM ⟨i, p, b, f, L, B⟩ = false) := Lib.hid (by
      cases hg : goodM ⟨i, p, b, f, L, B⟩ with
      | false => rfl
      | true =>
        exfalso
        have hf := goodM_fine hg
        have a1 := hf.id
        have a2 := hf.parent
        have a3 := hf.born
        have a4 := hf.n
        have a5 := hf.body
        have a6 := HA.out.hrn
        have a7 := HA.out.hbn
        simp only at a1 a2 a3 a4 a5 a6 a7
        omega)
    go_enter Tryz.func28, Tryz.ntmps28
    go_wp2
    go_ret
    exact ⟨by rw [HV.out]; rfl, K0.out⟩

  have d2 : decide (p < 0) = false := decide_eq_false h2
  by_cases h3 : i ≤ p
  · have HV : Hid (goodM ⟨i, p, b, f, L, B⟩ = false) := Lib.hid (by
      cases hg : goodM ⟨i, p, b, f, L, B⟩ with
      | false => rfl
      | true =>
        exfalso
        have hf := goodM_fine hg
        have a1 := hf.id
        have a2 := hf.parent
        have a3 := hf.born
        have a4 := hf.n
        have a5 := hf.body
        have a6 := HA.out.hrn
        have a7 := HA.out.hbn
        simp only at a1 a2 a3 a4 a5 a6 a7
        omega)
    go_enter Tryz.func28, Tryz.ntmps28
    go_wp2
    go_ret
    exact ⟨by rw [HV.out]; rfl, K0.out⟩

  have d3 : decide (i ≤ p) = false := decide_eq_false h3
  by_cases h4 : b < 0
  · have HV : Hid (goodM ⟨i, p, b, f, L, B⟩ = false) := Lib.hid (by
      cases hg : goodM ⟨i, p, b, f, L, B⟩ with
      | false => rfl
      | true =>
        exfalso
        have hf := goodM_fine hg
        have a1 := hf.id
        have a2 := hf.parent
        have a3 := hf.born
        have a4 := hf.n
        have a5 := hf.body
        have a6 := HA.out.hrn
        have a7 := HA.out.hbn
        simp only at a1 a2 a3 a4 a5 a6 a7
        omega)
    go_enter Tryz.func28, Tryz.ntmps28
    go_wp2
    go_ret
    exact ⟨by rw [HV.out]; rfl, K0.out⟩

  have d4 : decide (b < 0) = false := decide_eq_false h4
  by_cases h5 : 1099511627776 < b
  · have HV : Hid (goodM ⟨i, p, b, f, L, B⟩ = false) := Lib.hid (by
      cases hg : goodM ⟨i, p, b, f, L, B⟩ with
      | false => rfl
      | true =>
        exfalso
        have hf := goodM_fine hg
        have a1 := hf.id
        have a2 := hf.parent
        have a3 := hf.born
        have a4 := hf.n
        have a5 := hf.body
        have a6 := HA.out.hrn
        have a7 := HA.out.hbn
        simp only at a1 a2 a3 a4 a5 a6 a7
        omega)
    go_enter Tryz.func28, Tryz.ntmps28
    go_wp2
    go_ret
    exact ⟨by rw [HV.out]; rfl, K0.out⟩

  have d5 : decide (1099511627776 < b) = false := decide_eq_false h5
  by_cases h6 : (rn : Int) < 1
  · have HV : Hid (goodM ⟨i, p, b, f, L, B⟩ = false) := Lib.hid (by
      cases hg : goodM ⟨i, p, b, f, L, B⟩ with
      | false => rfl
      | true =>
        exfalso
        have hf := goodM_fine hg
        have a1 := hf.id
        have a2 := hf.parent
        have a3 := hf.born
        have a4 := hf.n
        have a5 := hf.body
        have a6 := HA.out.hrn
        have a7 := HA.out.hbn
        simp only at a1 a2 a3 a4 a5 a6 a7
        omega)
    go_enter Tryz.func28, Tryz.ntmps28
    go_wp2
    go_ret
    exact ⟨by rw [HV.out]; rfl, K0.out⟩

  have d6 : decide ((rn : Int) < 1) = false := decide_eq_false h6
  by_cases h7 : 8 < (rn : Int)
  · have HV : Hid (goodM ⟨i, p, b, f, L, B⟩ = false) := Lib.hid (by
      cases hg : goodM ⟨i, p, b, f, L, B⟩ with
      | false => rfl
      | true =>
        exfalso
        have hf := goodM_fine hg
        have a1 := hf.id
        have a2 := hf.parent
        have a3 := hf.born
        have a4 := hf.n
        have a5 := hf.body
        have a6 := HA.out.hrn
        have a7 := HA.out.hbn
        simp only at a1 a2 a3 a4 a5 a6 a7
        omega)
    go_enter Tryz.func28, Tryz.ntmps28
    go_wp2
    go_ret
    exact ⟨by rw [HV.out]; rfl, K0.out⟩

  have d7 : decide (8 < (rn : Int)) = false := decide_eq_false h7
  by_cases h8 : 8192 < (bn : Int)
  · have HV : Hid (goodM ⟨i, p, b, f, L, B⟩ = false) := Lib.hid (by
      cases hg : goodM ⟨i, p, b, f, L, B⟩ with
      | false => rfl
      | true =>
        exfalso
        have hf := goodM_fine hg
        have a1 := hf.id
        have a2 := hf.parent
        have a3 := hf.born
        have a4 := hf.n
        have a5 := hf.body
        have a6 := HA.out.hrn
        have a7 := HA.out.hbn
        simp only at a1 a2 a3 a4 a5 a6 a7
        omega)
    go_enter Tryz.func28, Tryz.ntmps28
    go_wp2
    go_ret
    exact ⟨by rw [HV.out]; rfl, K0.out⟩

  have d8 : decide (8192 < (bn : Int)) = false := decide_eq_false h8
  have HN : Hid (1 ≤ i ∧ i ≤ 999999999 ∧ 0 ≤ p ∧ p < i ∧ 0 ≤ b ∧ b ≤ 1099511627776 ∧ 1 ≤ rn ∧ rn ≤ 8 ∧ bn ≤ 8192) := Lib.hid (by omega)
  have hrn8 : rn ≤ 8 := HN.out.2.2.2.2.2.2.2.1
  have HBY := Lib.hid (fun W (k : Keep (fun _ => False) (w.alloc (.cells #[.int .i64 i, .int .i64 p, .int .i64 b, .string f, .slice rx rn rc, .slice bx bn bc] 25)) W) => bodyC bx bn bc B HA.out.hbn (by have := HN.out.2.2.2.2.2.2.2.2; omega) (HA.out.bs.quiet k))
  clear h0 h1 h2 h3 h4 h5 h6 h7 h8
  go_enter Tryz.func28, Tryz.ntmps28
  go_wp2_with fail
  refine (HBY.out _ (Keep.refl _ _)).mono ?_
  rintro e u ⟨he, hu⟩
  subst u
  cases hb : bodyB B with
  | false =>
    rw [hb] at he
    subst he
    have HV : Hid (goodM ⟨i, p, b, f, L, B⟩ = false) := Lib.hid (by simp [goodM, textB, hb])
    clear hb
    go_wp2
    go_ret
    exact ⟨by rw [HV.out]; rfl, K0.out⟩
  | true =>
    rw [hb] at he
    subst he
    have HBB := Lib.hid hb
    have q4 : (w.alloc (.cells #[.int .i64 i, .int .i64 p, .int .i64 b, .string f, .slice rx rn rc, .slice bx bn bc] 25)).cell? ⟨w.heap.size, 4, none⟩ = some (.slice rx rn rc) := (At.new w 25 #[.int .i64 i, .int .i64 p, .int .i64 b, .string f, .slice rx rn rc, .slice bx bn bc]).cell 4
    have q3 : (w.alloc (.cells #[.int .i64 i, .int .i64 p, .int .i64 b, .string f, .slice rx rn rc, .slice bx bn bc] 25)).cell? ⟨w.heap.size, 3, none⟩ = some (.string f) := (At.new w 25 #[.int .i64 i, .int .i64 p, .int .i64 b, .string f, .slice rx rn rc, .slice bx bn bc]).cell 3
    obtain ⟨W0, hW0⟩ : ∃ W0, W0 = w.alloc (.cells #[.int .i64 i, .int .i64 p, .int .i64 b, .string f, .slice rx rn rc, .slice bx bn bc] 25) := ⟨_, rfl⟩
    have HW0 := Lib.hid hW0
    rw [← hW0] at HA K0 q3 q4
    have Q3 := Lib.hid q3
    have Q4 := Lib.hid q4
    clear hb HBY hW0 q3 q4
    go_wp2
    go_loopw [3] (fun i wr => ∃ k : Nat, k ≤ rn ∧ i = .int .i64 (k : Int) ∧ Hid (Keep (fun _ => False) W0 wr ∧ ∀ j (hj : j < L.length), j < k → boxB L[j] = true)) (fun i _ => rn - (intOf i).toNat)
    case atStart => exact ⟨0, by omega, rfl, by rw [HW0.out]; exact Keep.refl _ _, fun j _ h => absurd h (Nat.not_lt_zero _)⟩
    case round =>
      obtain ⟨k, hk, rfl, HR⟩ := hrel
      have r4 := HR.out.1.cell Q4.out (fun h => h)
      by_cases hlt : (k : Int) < (rn : Int)
      · have hkl : k < L.length := by have := HA.out.hrn; simp only at this; omega
        obtain ⟨b0, off, _, _, hx, hc⟩ := HA.out.rs.at k hkl
        (try simp only at hx)
        subst hx
        have c1 := HR.out.1.cell hc (fun h => h)
        (try simp only at c1)
        obtain ⟨s, hs⟩ : ∃ s, s = L[k] := ⟨_, rfl⟩
        rw [← hs] at c1
        have HS : Hid (∀ h : k < L.length, s = L[k]) := Lib.hid (fun _ => hs)
        have HSZ : Hid (s.size ≤ 9223372036854775807) := Lib.hid (by rw [hs]; exact HLr.out _ (List.getElem_mem _))
        have HKL := Lib.hid hkl
        have k0 : (0 : Int) ≤ (k : Int) := by omega
        clear hc hs
        clear hkl
        go_wp2_with fail
        refine (refBoxC s HSZ.out wr).mono ?_
        rintro e w1 ⟨rfl, hk1⟩
        have HK1 := Lib.hid hk1
        clear hk1 r4
        cases hb : boxB s with
        | true =>
          have HBX := Lib.hid hb
          clear hb
          go_wp2
          go_roundw
          case rel => exact ⟨k + 1, by omega, by go_num, HR.out.1.trans HK1.out (fun _ _ h => h), fun j hj h => by
            rcases Nat.lt_or_ge j k with h2 | h2
            · exact HR.out.2 j hj h2
            · obtain rfl : j = k := by omega
              rw [← HS.out hj]; exact HBX.out⟩
          case measure => simp [intOf]; omega
        | false =>
          have HBX := Lib.hid hb
          clear hb
          go_wp2
          go_ret
          have hv : goodM ⟨i, p, b, f, L, B⟩ = false := by
            have hm : (L.all boxB) = false := by
              rw [List.all_eq_false]
              exact ⟨L[k]'HKL.out, List.getElem_mem _, by rw [← HS.out HKL.out, HBX.out]; simp⟩
            simp [goodM, rcptsB, hm]
          exact ⟨by rw [hv]; rfl, (K0.out.trans HR.out.1 (fun _ _ h => h)).trans HK1.out (fun _ _ h => h)⟩
      · have HEQ : Hid (k = rn) := Lib.hid (by omega)
        have r3 := HR.out.1.cell Q3.out (fun h => h)
        have HRB : Hid (goodM ⟨i, p, b, f, L, B⟩ = frmB f) := Lib.hid (by
          have hm : (L.all boxB) = true := by
            rw [List.all_eq_true]
            intro s hs
            obtain ⟨j, hj, rfl⟩ := List.getElem_of_mem hs
            exact HR.out.2 j hj (by have := HEQ.out; have := HA.out.hrn; simp only at this; omega)
          obtain ⟨a1, a2, a3, a4, a5, a6, a7, a8, a9⟩ := HN.out
          have b1 := HA.out.hrn
          have b2 := HA.out.hbn
          simp only at b1 b2
          rw [b1] at a7 a8
          rw [b2] at a9
          simp [goodM, numsB, rcptsB, textB, hm, HBB.out, a1, a2, a3, a4, a5, a6, a7, a8, a9])
        by_cases hf : f.size = 0
        · obtain rfl : f = { data := #[] } := by
            apply ByteArray.ext
            apply Array.eq_empty_of_size_eq_zero
            exact hf
          go_wp2
          go_ret
          exact ⟨by rw [HRB.out]; rfl, K0.out.trans HR.out.1 (fun _ _ h => h)⟩
        · have hne := list_beq (s := f) (t := { data := #[] }) (fun h => hf (by rw [h]; rfl))
          have hne1 : (f.toList == []) = false := by
            rw [beq_eq_false_iff_ne]
            intro h
            apply hf
            rw [Lib.toList_data] at h
            have := congrArg List.length h
            simpa using this
          have HFB : Hid (frmB f = boxB f) := Lib.hid (by simp [frmB, hf])
          clear hf
          go_wp2_with fail
          refine (refBoxC f HLf.out wr).mono ?_
          rintro e w1 ⟨rfl, hk1⟩
          go_wp2
          go_ret
          exact ⟨by rw [HRB.out, HFB.out]; rfl, (K0.out.trans HR.out.1 (fun _ _ h => h)).trans hk1 (fun _ _ h => h)⟩

end Go.Proofs.YtimoebicacnihaaGreatDoor.Ln
