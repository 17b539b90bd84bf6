/-
  The document's plain, Small.
-/
import Derived.Test.YtkncojmalldifaaGreatDoorRefG
namespace Go.Proofs.YtkncojmalldifaaGreatDoor.Ad
open Go.RowKit
set_option linter.unusedVariables false
set_option linter.unusedSimpArgs false

set_option maxHeartbeats 4000000 in
set_option maxRecDepth 100000 in
theorem plain_walk (c : Int) (w : World) : Calls Tryz.prog 25 #[.int .u8 c] w fun e w' => e = .returned (.bool (plainZ c)) ∧ w' = w := by
  rcases (by omega : c < 48 ∨ 48 ≤ c ∧ c ≤ 57 ∨ 57 < c ∧ c < 65 ∨ 65 ≤ c ∧ c ≤ 90 ∨ 90 < c ∧ c < 97 ∨ 97 ≤ c ∧ c ≤ 122 ∨ 122 < c) with h | h | h | h | h | h | h
  · have hv : plainZ c = false := by simp [plainZ]; omega
    rw [hv]
    have f0 : c < 97 := by omega
    have f1 : c < 65 := by omega
    have f2 : c < 48 := by omega
    have f3 : c ≤ 122 := by omega
    have f4 : c ≤ 90 := by omega
    have f5 : c ≤ 57 := by omega
    clear h
    go_enter Tryz.func25, Tryz.ntmps25
    go_wp2
    go_ret
    first | exact ⟨rfl, rfl⟩ | exact ⟨by simp; omega, rfl⟩
  · have hv : plainZ c = true := by simp [plainZ]; omega
    rw [hv]
    have f0 : c < 97 := by omega
    have f1 : c < 65 := by omega
    have f2 : 48 ≤ c := by omega
    have f3 : c ≤ 122 := by omega
    have f4 : c ≤ 90 := by omega
    have f5 : c ≤ 57 := by omega
    clear h
    go_enter Tryz.func25, Tryz.ntmps25
    go_wp2
    go_ret
    first | exact ⟨rfl, rfl⟩ | exact ⟨by simp; omega, rfl⟩
  · have hv : plainZ c = false := by simp [plainZ]; omega
    rw [hv]
    have f0 : c < 97 := by omega
    have f1 : c < 65 := by omega
    have f2 : 48 ≤ c := by omega
    have f3 : c ≤ 122 := by omega
    have f4 : c ≤ 90 := by omega
    have f5 : 57 < c := by omega
    clear h
    go_enter Tryz.func25, Tryz.ntmps25
    go_wp2
    go_ret
    first | exact ⟨rfl, rfl⟩ | exact ⟨by simp; omega, rfl⟩
  · have hv : plainZ c = true := by simp [plainZ]; omega
    rw [hv]
    have f0 : c < 97 := by omega
    have f1 : 65 ≤ c := by omega
    have f2 : 48 ≤ c := by omega
    have f3 : c ≤ 122 := by omega
    have f4 : c ≤ 90 := by omega
    have f5 : 57 < c := by omega
    clear h
    go_enter Tryz.func25, Tryz.ntmps25
    go_wp2
    go_ret
    first | exact ⟨rfl, rfl⟩ | exact ⟨by simp; omega, rfl⟩
  · have hv : plainZ c = false := by simp [plainZ]; omega
    rw [hv]
    have f0 : c < 97 := by omega
    have f1 : 65 ≤ c := by omega
    have f2 : 48 ≤ c := by omega
    have f3 : c ≤ 122 := by omega
    have f4 : 90 < c := by omega
    have f5 : 57 < c := by omega
    clear h
    go_enter Tryz.func25, Tryz.ntmps25
    go_wp2
    go_ret
    first | exact ⟨rfl, rfl⟩ | exact ⟨by simp; omega, rfl⟩
  · have hv : plainZ c = true := by simp [plainZ]; omega
    rw [hv]
    have f0 : 97 ≤ c := by omega
    have f1 : 65 ≤ c := by omega
    have f2 : 48 ≤ c := by omega
    have f3 : c ≤ 122 := by omega
    have f4 : 90 < c := by omega
    have f5 : 57 < c := by omega
    clear h
    go_enter Tryz.func25, Tryz.ntmps25
    go_wp2
    go_ret
    first | exact ⟨rfl, rfl⟩ | exact ⟨by simp; omega, rfl⟩
  · have hv : plainZ c = false := by simp [plainZ]; omega
    rw [hv]
    have f0 : 97 ≤ c := by omega
    have f1 : 65 ≤ c := by omega
    have f2 : 48 ≤ c := by omega
    have f3 : 122 < c := by omega
    have f4 : 90 < c := by omega
    have f5 : 57 < c := by omega
    clear h
    go_enter Tryz.func25, Tryz.ntmps25
    go_wp2
    go_ret
    first | exact ⟨rfl, rfl⟩ | exact ⟨by simp; omega, rfl⟩

set_option maxHeartbeats 4000000 in
set_option maxRecDepth 100000 in
theorem refSmall_walk (s : ByteArray) (hs : s.size ≤ 9223372036854775807) (w : World) : Calls Tryz.prog 14 #[.string s] w fun e w' => e = .returned (.string (bs (s.data.toList.map lower))) ∧ Below w.heap.size w w' := by
  obtain ⟨cap, w1, hconv, hrow, hb1⟩ := bytes_some s w
  have hlen := len_size s
  obtain ⟨l, hl⟩ : ∃ l, s.data.toList = l := ⟨_, rfl⟩
  rw [hl] at hrow hlen ⊢
  clear hl
  obtain ⟨n, hn⟩ : ∃ n, s.size = n := ⟨_, rfl⟩
  rw [hn] at hconv hlen hs
  obtain ⟨B, hB⟩ : ∃ B, w.heap.size = B := ⟨_, rfl⟩
  have hBw : B ≤ w.heap.size := by omega
  rw [hB] at hconv hrow hb1 ⊢
  go_enter Tryz.func14, Tryz.ntmps14
  go_wp2
  go_loopw [4] (fun z wr => ∃ k : Nat, k ≤ n ∧ z = .int .i64 (k : Int) ∧ URow wr B (mix lower k l) ∧ Below B w wr) (fun z _ => n - (Lib.intOf z).toNat)
  case atStart => exact ⟨0, by omega, rfl, by simpa [mix] using hrow, hb1⟩
  case round =>
    obtain ⟨k, hk, rfl, hR, hbr⟩ := hrel
    have hml := mix_length lower k l
    by_cases hlt : (k : Int) < (n : Int)
    · have hkl : k < l.length := by omega
      obtain ⟨hc, hf⟩ := hR k (by omega)
      rw [mix_at lower hkl] at hc
      have hput := fun c => hR.put k (by omega) c
      have hnext := mix_next lower hkl
      have hsame := mix_same lower hkl
      have hlt8 := l[k].toNat_lt
      obtain ⟨c, hcq⟩ : ∃ c, l[k] = c := ⟨_, rfl⟩
      rw [hcq] at hc hnext hsame hlt8
      clear hcq
      by_cases h1 : 65 ≤ (c.toNat : Int)
      · by_cases h2 : (c.toNat : Int) ≤ 90
        · have hfc : (lower c).toNat = c.toNat + 32 := lower_in c (by omega) (by omega)
          have hput1 := hput (lower c)
          rw [← hnext] at hput1
          have hv : ((lower c).toNat : Int) = (c.toNat : Int) + 32 := by omega
          rw [hv] at hput1
          have hbr2 := hbr.setCell (p := ⟨B, k, none⟩) (Nat.le_refl _) (.int .u8 ((c.toNat : Int) + 32))
          clear hput hnext hsame hR hv hfc
          go_wp2
          go_roundw
          case rel => exact ⟨k + 1, by omega, by simp, hput1, hbr2⟩
          case measure =>
            simp [Lib.intOf]
            omega
        · have hfc : lower c = c := lower_out c (by omega)
          rw [← hsame hfc] at hR
          clear hput hnext hsame
          go_wp2
          go_roundw
          case rel => exact ⟨k + 1, by omega, by simp, hR, hbr⟩
          case measure =>
            simp [Lib.intOf]
            omega
      · have hfc : lower c = c := lower_out c (by omega)
        rw [← hsame hfc] at hR
        clear hput hnext hsame
        go_wp2
        go_roundw
        case rel => exact ⟨k + 1, by omega, by simp, hR, hbr⟩
        case measure =>
          simp [Lib.intOf]
          omega
    · have hkn : k = n := by omega
      have hmx : mix lower k l = l.map lower := by
        unfold mix
        rw [List.take_of_length_le (by omega), List.drop_of_length_le (by omega), List.append_nil]
      rw [hmx] at hR
      have hback := bytes_back wr B cap (l.map lower) hR
      rw [List.length_map, hlen] at hback
      go_wp2
      go_ret
      exact ⟨rfl, hbr⟩

end Go.Proofs.YtkncojmalldifaaGreatDoor.Ad
