/-
  The program's great and small.
-/
import Derived.Test.YtcjljldknekhiaaGreatDoorACell
import Derived.Test.YtcjljldknekhiaaGreatDoorAVm
namespace Go.Proofs.YtcjljldknekhiaaGreatDoor.Ad
open Go.RowKit
set_option linter.unusedVariables false
set_option linter.unusedSimpArgs false

set_option maxHeartbeats 4000000 in
set_option maxRecDepth 100000 in
theorem vgreat_walk (s : ByteArray) (hs : s.size ≤ 9223372036854775807) (w : World) : Calls Tryz.prog 111 #[.string s] w fun e w' => e = .returned (.string (bs (s.data.toList.map upper))) ∧ Below w.heap.size w w' := by
  obtain ⟨cap, w1, hconv, hrow, hb1⟩ := bytes_some s w
  have hlen := len_size s
  obtain ⟨l, hl⟩ : ∃ l, s.data.toList = l := ⟨_, rfl⟩
  rw [hl] at hrow hlen ⊢
  clear hl
  obtain ⟨n, hn⟩ : ∃ n, s.size = n := ⟨_, rfl⟩
  rw [hn] at hconv hlen hs
  obtain ⟨B, hB⟩ : ∃ B, w.heap.size = B := ⟨_, rfl⟩
  have hBw : B ≤ w.heap.size := by omega
  rw [hB] at hconv hrow hb1 ⊢
  go_enter Tryz.func111, Tryz.ntmps111
  go_wp2
  go_loopw [10] (fun z wr => ∃ k : Nat, k ≤ n ∧ z = .int .i64 (k : Int) ∧ URow wr B (mix upper k l) ∧ Below B w wr) (fun z _ => n - (Lib.intOf z).toNat)
  case atStart => exact ⟨0, by omega, rfl, by simpa [mix] using hrow, hb1⟩
  case round =>
    obtain ⟨k, hk, rfl, hR, hbr⟩ := hrel
    have hml := mix_length upper k l
    by_cases hlt : (k : Int) < (n : Int)
    · have hkl : k < l.length := by omega
      obtain ⟨hc, hf⟩ := hR k (by omega)
      rw [mix_at upper hkl] at hc
      have hput := fun c => hR.put k (by omega) c
      have hnext := mix_next upper hkl
      have hsame := mix_same upper hkl
      have hlt8 := l[k].toNat_lt
      obtain ⟨c, hcq⟩ : ∃ c, l[k] = c := ⟨_, rfl⟩
      rw [hcq] at hc hnext hsame hlt8
      clear hcq
      by_cases h1 : 97 ≤ (c.toNat : Int)
      · by_cases h2 : (c.toNat : Int) ≤ 122
        · have hfc : (upper c).toNat = c.toNat - 32 := upper_in c (by omega) (by omega)
          have hput1 := hput (upper c)
          rw [← hnext] at hput1
          have hv : ((upper c).toNat : Int) = (c.toNat : Int) - 97 + 65 := by omega
          rw [hv] at hput1
          have hbr2 := hbr.setCell (p := ⟨B, k, none⟩) (Nat.le_refl _) (.int .u8 ((c.toNat : Int) - 97 + 65))
          clear hput hnext hsame hR hv hfc
          go_wp2
          go_roundw
          case rel => exact ⟨k + 1, by omega, by simp, hput1, hbr2⟩
          case measure =>
            simp [Lib.intOf]
            omega
        · have hfc : upper c = c := upper_out c (by omega)
          rw [← hsame hfc] at hR
          clear hput hnext hsame
          go_wp2
          go_roundw
          case rel => exact ⟨k + 1, by omega, by simp, hR, hbr⟩
          case measure =>
            simp [Lib.intOf]
            omega
      · have hfc : upper c = c := upper_out c (by omega)
        rw [← hsame hfc] at hR
        clear hput hnext hsame
        go_wp2
        go_roundw
        case rel => exact ⟨k + 1, by omega, by simp, hR, hbr⟩
        case measure =>
          simp [Lib.intOf]
          omega
    · have hkn : k = n := by omega
      have hmx : mix upper k l = l.map upper := by
        unfold mix
        rw [List.take_of_length_le (by omega), List.drop_of_length_le (by omega), List.append_nil]
      rw [hmx] at hR
      have hback := bytes_back wr B cap (l.map upper) hR
      rw [List.length_map, hlen] at hback
      go_wp2
      go_ret
      exact ⟨rfl, hbr⟩

set_option maxHeartbeats 4000000 in
set_option maxRecDepth 100000 in
theorem vsmall_walk (s : ByteArray) (hs : s.size ≤ 9223372036854775807) (w : World) : Calls Tryz.prog 155 #[.string s] w fun e w' => e = .returned (.string (bs (s.data.toList.map lower))) ∧ Below w.heap.size w w' := by
  obtain ⟨cap, w1, hconv, hrow, hb1⟩ := bytes_some s w
  have hlen := len_size s
  obtain ⟨l, hl⟩ : ∃ l, s.data.toList = l := ⟨_, rfl⟩
  rw [hl] at hrow hlen ⊢
  clear hl
  obtain ⟨n, hn⟩ : ∃ n, s.size = n := ⟨_, rfl⟩
  rw [hn] at hconv hlen hs
  obtain ⟨B, hB⟩ : ∃ B, w.heap.size = B := ⟨_, rfl⟩
  have hBw : B ≤ w.heap.size := by omega
  rw [hB] at hconv hrow hb1 ⊢
  go_enter Tryz.func155, Tryz.ntmps155
  go_wp2
  go_loopw [10] (fun z wr => ∃ k : Nat, k ≤ n ∧ z = .int .i64 (k : Int) ∧ URow wr B (mix lower k l) ∧ Below B w wr) (fun z _ => n - (Lib.intOf z).toNat)
  case atStart => exact ⟨0, by omega, rfl, by simpa [mix] using hrow, hb1⟩
  case round =>
    obtain ⟨k, hk, rfl, hR, hbr⟩ := hrel
    have hml := mix_length lower k l
    by_cases hlt : (k : Int) < (n : Int)
    · have hkl : k < l.length := by omega
      obtain ⟨hc, hf⟩ := hR k (by omega)
      rw [mix_at lower hkl] at hc
      have hput := fun c => hR.put k (by omega) c
      have hnext := mix_next lower hkl
      have hsame := mix_same lower hkl
      have hlt8 := l[k].toNat_lt
      obtain ⟨c, hcq⟩ : ∃ c, l[k] = c := ⟨_, rfl⟩
      rw [hcq] at hc hnext hsame hlt8
      clear hcq
      by_cases h1 : 65 ≤ (c.toNat : Int)
      · by_cases h2 : (c.toNat : Int) ≤ 90
        · have hfc : (lower c).toNat = c.toNat + 32 := lower_in c (by omega) (by omega)
          have hput1 := hput (lower c)
          rw [← hnext] at hput1
          have hv : ((lower c).toNat : Int) = (c.toNat : Int) - 65 + 97 := by omega
          rw [hv] at hput1
          have hbr2 := hbr.setCell (p := ⟨B, k, none⟩) (Nat.le_refl _) (.int .u8 ((c.toNat : Int) - 65 + 97))
          clear hput hnext hsame hR hv hfc
          go_wp2
          go_roundw
          case rel => exact ⟨k + 1, by omega, by simp, hput1, hbr2⟩
          case measure =>
            simp [Lib.intOf]
            omega
        · have hfc : lower c = c := lower_out c (by omega)
          rw [← hsame hfc] at hR
          clear hput hnext hsame
          go_wp2
          go_roundw
          case rel => exact ⟨k + 1, by omega, by simp, hR, hbr⟩
          case measure =>
            simp [Lib.intOf]
            omega
      · have hfc : lower c = c := lower_out c (by omega)
        rw [← hsame hfc] at hR
        clear hput hnext hsame
        go_wp2
        go_roundw
        case rel => exact ⟨k + 1, by omega, by simp, hR, hbr⟩
        case measure =>
          simp [Lib.intOf]
          omega
    · have hkn : k = n := by omega
      have hmx : mix lower k l = l.map lower := by
        unfold mix
        rw [List.take_of_length_le (by omega), List.drop_of_length_le (by omega), List.append_nil]
      rw [hmx] at hR
      have hback := bytes_back wr B cap (l.map lower) hR
      rw [List.length_map, hlen] at hback
      go_wp2
      go_ret
      exact ⟨rfl, hbr⟩
end Go.Proofs.YtcjljldknekhiaaGreatDoor.Ad
