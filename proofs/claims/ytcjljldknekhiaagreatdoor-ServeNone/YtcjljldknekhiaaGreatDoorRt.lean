/-
  What the document's own Text and Dec return.
-/
import Derived.Test.YtcjljldknekhiaaGreatDoorRb
namespace Go.Proofs.YtcjljldknekhiaaGreatDoor.Ln
open Go.RowKit
set_option linter.unusedVariables false
set_option linter.unusedSimpArgs false

theorem dig_lt : ∀ (n : Nat) (c : Nat), c ∈ dig n → 48 ≤ c ∧ c ≤ 57 := by
  intro n
  induction n using Nat.strongRecOn with
  | _ n ih =>
    intro c hc
    rw [dig] at hc
    split at hc
    · obtain rfl : c = 48 + n := by simpa using hc
      omega
    · rcases List.mem_append.1 hc with h | h
      · exact ih (n / 10) (by omega) c h
      · obtain rfl : c = 48 + n % 10 := by simpa using h
        omega
/-- The digits that are told, ahead of those of n. -/
def front (n : Nat) : List Nat := if n = 0 then [] else dig n
theorem front_step {n : Nat} (h : 0 < n) : front n = front (n / 10) ++ [48 + n % 10] := by
  rw [front, if_neg (by omega), dig]
  by_cases h10 : n < 10
  · rw [if_pos h10, show n / 10 = 0 by omega, show n % 10 = n by omega]
    rfl
  · rw [if_neg h10, front, if_neg (by omega)]
theorem front_pos {n : Nat} (h : 0 < n) : front n = dig n := by rw [front, if_neg (by omega)]
theorem dig_len : ∀ (k n : Nat), n < 10 ^ k → (front n).length ≤ k
  | 0, n, h => by
    have : n = 0 := by simpa using h
    subst this
    simp [front]
  | k + 1, n, h => by
    rcases Nat.eq_zero_or_pos n with h0 | h0
    · subst h0; simp [front]
    · rw [front_step h0, List.length_append]
      have := dig_len k (n / 10) (by rw [Nat.pow_succ] at h; omega)
      simp
      omega
theorem one_byte (w : World) (d : Nat) (hd : d < 256) : (convert 34 9 (.slice (some ⟨w.heap.size, 0, none⟩) 1 1)).run Tryz.prog (w.alloc (.cells #[.int .u8 (d : Int)] 5)) = .ok (.string (str [d])) (w.alloc (.cells #[.int .u8 (d : Int)] 5)) := by
  have hB : Bytes (fun _ => True) (w.alloc (.cells #[.int .u8 (d : Int)] 5)) (some ⟨w.heap.size, 0, none⟩) [d] := by
    refine ⟨by simpa using hd, .inr ⟨w.heap.size, 0, trivial, rfl, fun i hi => ?_⟩⟩
    have : i = 0 := by simpa using hi
    subst this
    exact cell_of_row _ _ 0 _ _ (0, 0) (heap_alloc_new w _)
  exact run_str hB 1 1 rfl

set_option maxHeartbeats 4000000 in
set_option maxRecDepth 100000 in
theorem refText (n : Nat) (h0 : 0 < n) (hn : n < 1000000000) (w : World) : Calls Tryz.prog 22 #[.int .i64 (n : Int)] w fun e w' => e = .returned (.string (reply n)) ∧ Keep (fun _ => False) w w' := by
  have hlen : ∀ m, m ≤ n → (str (front m)).size ≤ 9 := fun m hm => by rw [str_size]; exact dig_len 9 m (by omega)
  go_enter Tryz.func22, Tryz.ntmps22
  go_wp2
  go_loopw [3, 4] (fun u z wr => ∃ (m : Nat) (T : List Nat), m ≤ n ∧ z = .int .i64 (m : Int) ∧ u = .string (str T) ∧ T.length ≤ 9 ∧ Hid (front n = front m ++ T) ∧ Hid (Keep (fun _ => False) w wr)) (fun _ z _ => (intOf z).toNat)
  case atStart => exact ⟨n, [], Nat.le_refl _, rfl, rfl, by simp, by show _ = _; simp, Keep.refl _ _⟩
  case round =>
    obtain ⟨m, T, hm, rfl, rfl, hT, HF, HK⟩ := hrel
    by_cases hpos : (0 : Int) < (m : Int)
    · have hst := front_step (n := m) (by omega)
      have hF2 : front n = front (m / 10) ++ ([48 + m % 10] ++ T) := by rw [HF.out, hst]; simp
      have hT2 : ([48 + m % 10] ++ T).length ≤ 9 := by
        have h1 := congrArg List.length hF2
        have h2 : (front n).length ≤ 9 := dig_len 9 n (by omega)
        rw [List.length_append] at h1
        omega
      have HF2 := Lib.hid hF2
      have hz : (str T).size ≤ 9 := by rw [str_size]; exact hT
      have he : ((48 + m % 10 : Nat) : Int) = 48 + (m : Int) % 10 := by omega
      have hob := one_byte wr (48 + m % 10) (by omega)
      rw [he] at hob
      have HK2 : Hid (Keep (fun _ => False) w (wr.alloc (.cells #[.int .u8 (48 + (m : Int) % 10)] 5))) := Lib.hid (HK.out.alloc _)
      obtain ⟨T', hT'⟩ : ∃ T', T' = [48 + m % 10] ++ T := ⟨_, rfl⟩
      rw [← hT'] at HF2 hT2
      have hsa : str [48 + m % 10] ++ str T = str T' := by rw [hT']; exact str_append _ _
      have hX : (str [48 + m % 10]).size = 1 := by rw [str_size]; rfl
      have HDIV : Hid (((m / 10 : Nat) : Int) = (m : Int) / 10) := Lib.hid (by omega)
      generalize str [48 + m % 10] = X at hob hsa hX
      clear hst hF2 he hT'
      go_wp2
      go_roundw
      case rel => exact ⟨m / 10, T', by omega, by rw [HDIV.out], rfl, hT2, HF2.out, HK2.out⟩
      case measure => simp [intOf]; omega
    · have hm0 : m = 0 := by omega
      have hF : dig n = T := by
        have := HF.out
        rw [hm0, front_pos h0] at this
        simpa [front] using this
      have HF' := Lib.hid hF
      have hz : (str T).size ≤ 9 := by rw [str_size]; exact hT
      clear hF
      by_cases h250 : (n : Int) = 250
      · go_wp2
        go_ret
        refine ⟨?_, HK.out⟩
        rw [reply, HF'.out, tailOf, if_pos (by omega)]
        exact congrArg (fun b => Ending.returned (Value.string b)) (str_append T [32, 111, 107, 13, 10])
      · by_cases h221 : (n : Int) = 221
        · go_wp2
          go_ret
          refine ⟨?_, HK.out⟩
          rw [reply, HF'.out, tailOf, if_neg (by omega), if_pos (by omega)]
          exact congrArg (fun b => Ending.returned (Value.string b)) (str_append T [32, 98, 121, 101, 13, 10])
        · by_cases h354 : (n : Int) = 354
          · go_wp2
            go_ret
            refine ⟨?_, HK.out⟩
            rw [reply, HF'.out, tailOf, if_neg (by omega), if_neg (by omega), if_pos (by omega)]
            exact congrArg (fun b => Ending.returned (Value.string b)) (str_append T [32, 103, 111, 32, 111, 110, 13, 10])
          · go_wp2
            go_ret
            refine ⟨?_, HK.out⟩
            rw [reply, HF'.out, tailOf, if_neg (by omega), if_neg (by omega), if_neg (by omega)]
            exact congrArg (fun b => Ending.returned (Value.string b)) (str_append T [32, 110, 111, 13, 10])

set_option maxHeartbeats 4000000 in
set_option maxRecDepth 100000 in
theorem refDec (n : Nat) (h0 : 0 < n) (hn : n < 1000000000) (w : World) : Calls Tryz.prog 53 #[.int .i64 (n : Int)] w fun e w' => e = .returned (.string (str (dig n))) ∧ Keep (fun _ => False) w w' := by
  have hne : ¬ ((n : Int) = 0) := by omega
  go_enter Tryz.func53, Tryz.ntmps53
  go_wp2
  go_loopw [0, 3] (fun z u wr => ∃ (m : Nat) (T : List Nat), m ≤ n ∧ z = .int .i64 (m : Int) ∧ u = .string (str T) ∧ T.length ≤ 9 ∧ Hid (front n = front m ++ T) ∧ Hid (Keep (fun _ => False) w wr)) (fun z _ _ => (intOf z).toNat)
  case atStart => exact ⟨n, [], Nat.le_refl _, rfl, rfl, by simp, by show _ = _; simp, Keep.refl _ _⟩
  case round =>
    obtain ⟨m, T, hm, rfl, rfl, hT, HF, HK⟩ := hrel
    by_cases hpos : (0 : Int) < (m : Int)
    · have hst := front_step (n := m) (by omega)
      have hF2 : front n = front (m / 10) ++ ([48 + m % 10] ++ T) := by rw [HF.out, hst]; simp
      have hT2 : ([48 + m % 10] ++ T).length ≤ 9 := by
        have h1 := congrArg List.length hF2
        have h2 : (front n).length ≤ 9 := dig_len 9 n (by omega)
        rw [List.length_append] at h1
        omega
      have HF2 := Lib.hid hF2
      have hz : (str T).size ≤ 9 := by rw [str_size]; exact hT
      have he : ((48 + m % 10 : Nat) : Int) = 48 + (m : Int) % 10 := by omega
      have hob := one_byte wr (48 + m % 10) (by omega)
      rw [he] at hob
      have HK2 : Hid (Keep (fun _ => False) w (wr.alloc (.cells #[.int .u8 (48 + (m : Int) % 10)] 5))) := Lib.hid (HK.out.alloc _)
      obtain ⟨T', hT'⟩ : ∃ T', T' = [48 + m % 10] ++ T := ⟨_, rfl⟩
      rw [← hT'] at HF2 hT2
      have hsa : str [48 + m % 10] ++ str T = str T' := by rw [hT']; exact str_append _ _
      have hX : (str [48 + m % 10]).size = 1 := by rw [str_size]; rfl
      have HDIV : Hid (((m / 10 : Nat) : Int) = (m : Int) / 10) := Lib.hid (by omega)
      generalize str [48 + m % 10] = X at hob hsa hX
      clear hst hF2 he hT'
      go_wp2
      go_roundw
      case rel => exact ⟨m / 10, T', by omega, by rw [HDIV.out], rfl, hT2, HF2.out, HK2.out⟩
      case measure => simp [intOf]; omega
    · have hm0 : m = 0 := by omega
      have hF : dig n = T := by
        have := HF.out
        rw [hm0, front_pos h0] at this
        simpa [front] using this
      have HF' := Lib.hid hF
      clear hF
      go_wp2
      go_ret
      exact ⟨by rw [HF'.out]; rfl, HK.out⟩
end Go.Proofs.YtcjljldknekhiaaGreatDoor.Ln
