/-
  The document's letters: plain, Small, Great.
-/
import Derived.Test.YtpdopjpibmhamaaGreatDoorAProg2
import Derived.Laws.IdiomStrings
namespace Go.Proofs.YtpdopjpibmhamaaGreatDoor.Ad
open Go.RowKit
set_option linter.unusedVariables false
set_option linter.unusedSimpArgs false

set_option maxHeartbeats 4000000 in
set_option maxRecDepth 100000 in
theorem plain_walk (c : Int) (w : World) : Calls Tryz.prog 68 #[.int .u8 c] w fun e w' => e = .returned (.bool (plainZ c)) ∧ w' = w := by
  rcases (by omega : c < 48 ∨ 48 ≤ c ∧ c ≤ 57 ∨ 57 < c ∧ c < 65 ∨ 65 ≤ c ∧ c ≤ 90 ∨ 90 < c ∧ c < 97 ∨ 97 ≤ c ∧ c ≤ 122 ∨ 122 < c) with h | h | h | h | h | h | h
  · have hv : plainZ c = false := by simp [plainZ]; omega
    rw [hv]
    have f0 : c < 97 := by omega
    have f1 : c < 65 := by omega
    have f2 : c < 48 := by omega
    have f3 : c ≤ 122 := by omega
    have f4 : c ≤ 90 := by omega
    have f5 : c ≤ 57 := by omega
    clear h
    go_enter Tryz.func68, Tryz.ntmps68
    go_wp2
    go_ret
    first | exact ⟨rfl, rfl⟩ | exact ⟨by simp; omega, rfl⟩
  · have hv : plainZ c = true := by simp [plainZ]; omega
    rw [hv]
    have f0 : c < 97 := by omega
    have f1 : c < 65 := by omega
    have f2 : 48 ≤ c := by omega
    have f3 : c ≤ 122 := by omega
    have f4 : c ≤ 90 := by omega
    have f5 : c ≤ 57 := by omega
    clear h
    go_enter Tryz.func68, Tryz.ntmps68
    go_wp2
    go_ret
    first | exact ⟨rfl, rfl⟩ | exact ⟨by simp; omega, rfl⟩
  · have hv : plainZ c = false := by simp [plainZ]; omega
    rw [hv]
    have f0 : c < 97 := by omega
    have f1 : c < 65 := by omega
    have f2 : 48 ≤ c := by omega
    have f3 : c ≤ 122 := by omega
    have f4 : c ≤ 90 := by omega
    have f5 : 57 < c := by omega
    clear h
    go_enter Tryz.func68, Tryz.ntmps68
    go_wp2
    go_ret
    first | exact ⟨rfl, rfl⟩ | exact ⟨by simp; omega, rfl⟩
  · have hv : plainZ c = true := by simp [plainZ]; omega
    rw [hv]
    have f0 : c < 97 := by omega
    have f1 : 65 ≤ c := by omega
    have f2 : 48 ≤ c := by omega
    have f3 : c ≤ 122 := by omega
    have f4 : c ≤ 90 := by omega
    have f5 : 57 < c := by omega
    clear h
    go_enter Tryz.func68, Tryz.ntmps68
    go_wp2
    go_ret
    first | exact ⟨rfl, rfl⟩ | exact ⟨by simp; omega, rfl⟩
  · have hv : plainZ c = false := by simp [plainZ]; omega
    rw [hv]
    have f0 : c < 97 := by omega
    have f1 : 65 ≤ c := by omega
    have f2 : 48 ≤ c := by omega
    have f3 : c ≤ 122 := by omega
    have f4 : 90 < c := by omega
    have f5 : 57 < c := by omega
    clear h
    go_enter Tryz.func68, Tryz.ntmps68
    go_wp2
    go_ret
    first | exact ⟨rfl, rfl⟩ | exact ⟨by simp; omega, rfl⟩
  · have hv : plainZ c = true := by simp [plainZ]; omega
    rw [hv]
    have f0 : 97 ≤ c := by omega
    have f1 : 65 ≤ c := by omega
    have f2 : 48 ≤ c := by omega
    have f3 : c ≤ 122 := by omega
    have f4 : 90 < c := by omega
    have f5 : 57 < c := by omega
    clear h
    go_enter Tryz.func68, Tryz.ntmps68
    go_wp2
    go_ret
    first | exact ⟨rfl, rfl⟩ | exact ⟨by simp; omega, rfl⟩
  · have hv : plainZ c = false := by simp [plainZ]; omega
    rw [hv]
    have f0 : 97 ≤ c := by omega
    have f1 : 65 ≤ c := by omega
    have f2 : 48 ≤ c := by omega
    have f3 : 122 < c := by omega
    have f4 : 90 < c := by omega
    have f5 : 57 < c := by omega
    clear h
    go_enter Tryz.func68, Tryz.ntmps68
    go_wp2
    go_ret
    first | exact ⟨rfl, rfl⟩ | exact ⟨by simp; omega, rfl⟩

/-! ### A row of bytes that is written into -/
def URow (w : World) (B : Nat) (l : List UInt8) : Prop := ∀ j (hj : j < l.length), w.cell? ⟨B, j, none⟩ = some (.int .u8 ((l[j]'hj).toNat : Int)) ∧ w.frozen? ⟨B, j, none⟩ = false
theorem URow.put {w : World} {B : Nat} {l : List UInt8} (h : URow w B l) (k : Nat) (hk : k < l.length) (c : UInt8) : URow (w.setCell ⟨B, k, none⟩ (.int .u8 (c.toNat : Int))) B (l.set k c) := by
  intro j hj
  rw [List.length_set] at hj
  have hf : (w.setCell ⟨B, k, none⟩ (.int .u8 (c.toNat : Int))).frozen? ⟨B, j, none⟩ = w.frozen? ⟨B, j, none⟩ := World.frozen?_setCell ..
  refine ⟨?_, hf.trans (h j hj).2⟩
  by_cases e : k = j
  · subst e
    rw [World.cell?_setCell_same _ _ _ (h k hk).1]
    simp
  · rw [World.cell?_setCell_other _ _ _ _ (by intro e2; injection e2 with _ e3; exact e e3), (h j hj).1]
    simp [e]
theorem bytes_some (s : ByteArray) (w : World) : ∃ cap w1, (convert 9 23 (.string s)).run Tryz.prog w = .ok (.slice (some ⟨w.heap.size, 0, none⟩) s.size cap) w1 ∧ URow w1 w.heap.size s.data.toList ∧ Below w.heap.size w w1 := by
  refine ⟨_, _, run_bytes_of_string w 9 23 5 s Tryz.underlying9 Tryz.underlying23 Tryz.underlying5, ?_, ?_⟩
  · intro j hj
    generalize grownCap w s.size 0 5 = cap
    have hj' : j < s.size := by rw [len_size] at hj; exact hj
    have hsz : s.size ≤ (bytesRow s cap).size := by
      simp [bytesRow]
    have e0 : (bytesRow s cap)[j]? = some (.int .u8 ((s.data.toList[j]'hj).toNat : Int)) := by
      unfold bytesRow
      rw [Array.getElem?_append_left (by simpa using hj')]
      have hj2 : j < s.data.size := hj'
      simp only [Array.getElem?_map, Array.getElem?_eq_getElem hj2, Option.map_some]
      rfl
    have eh : (w.drew.alloc (.cells (bytesRow s cap) 5 ((bytesRow s cap).size, (bytesRow s cap).size + 1))).heap[w.heap.size]? = some (.cells (bytesRow s cap) 5 ((bytesRow s cap).size, (bytesRow s cap).size + 1)) := by
      show (w.heap.push _)[w.heap.size]? = _
      simp
    constructor
    · unfold World.cell?
      simp only [eh]
      simpa using e0
    · unfold World.frozen?
      simp only [eh]
      simp
      omega
  · exact (Below.refl _ w).drew.alloc (Nat.le_refl _) _
theorem bytes_back (w : World) (B cap : Nat) (l : List UInt8) (h : URow w B l) : (convert 23 9 (.slice (some ⟨B, 0, none⟩) l.length cap)).run Tryz.prog w = .ok (.string (bs l)) w :=
  run_convert_bytes_back w 23 9 5 ⟨B, 0, none⟩ cap l Tryz.underlying23 Tryz.underlying5 Tryz.underlying9 (fun j hj => by
    rw [show (⟨B, 0, none⟩ : Addr).add j = ⟨B, j, none⟩ by unfold Addr.add; split <;> simp_all]
    exact (h j hj).1)

/-! ### Small, Great -/
def mix (f : UInt8 → UInt8) (k : Nat) (l : List UInt8) : List UInt8 := (l.take k).map f ++ l.drop k
theorem mix_length (f : UInt8 → UInt8) (k : Nat) (l : List UInt8) : (mix f k l).length = l.length := by
  simp [mix]
  omega
theorem mix_at (f : UInt8 → UInt8) {k : Nat} {l : List UInt8} (h : k < l.length) : (mix f k l)[k]'(by rw [mix_length]; exact h) = l[k] := by
  unfold mix
  rw [List.getElem_append_right (by rw [List.length_map, List.length_take]; omega)]
  simp [Nat.min_eq_left (Nat.le_of_lt h)]
theorem mix_next (f : UInt8 → UInt8) {k : Nat} {l : List UInt8} (h : k < l.length) : mix f (k + 1) l = (mix f k l).set k (f l[k]) := by
  unfold mix
  rw [List.take_succ_eq_append_getElem h, List.map_append, List.set_append_right _ _ (by rw [List.length_map, List.length_take]; omega), List.drop_eq_getElem_cons h, show k - ((l.take k).map f).length = 0 by rw [List.length_map, List.length_take]; omega, List.append_assoc]
  rfl
theorem mix_same (f : UInt8 → UInt8) {k : Nat} {l : List UInt8} (h : k < l.length) (e : f l[k] = l[k]) : mix f (k + 1) l = mix f k l := by
  unfold mix
  rw [List.take_succ_eq_append_getElem h, List.map_append, List.drop_eq_getElem_cons h, List.append_assoc]
  show _ ++ f l[k] :: _ = _
  rw [e]
  rfl

theorem lower_in (c : UInt8) (h1 : 65 ≤ c.toNat) (h2 : c.toNat ≤ 90) : (lower c).toNat = c.toNat + 32 := by
  have h := lower_nat c (by omega)
  rw [show greatZ c.toNat = true by simp [greatZ]; omega] at h
  simp only [if_true] at h
  omega
theorem lower_out (c : UInt8) (h : ¬ (65 ≤ c.toNat ∧ c.toNat ≤ 90)) : lower c = c := by
  unfold lower
  rw [if_neg (by simp [greatZ]; omega)]
theorem upper_in (c : UInt8) (h1 : 97 ≤ c.toNat) (h2 : c.toNat ≤ 122) : (upper c).toNat = c.toNat - 32 := by
  unfold upper
  rw [if_pos (by simp; omega), UInt8.toNat_sub]
  simp
  omega
theorem upper_out (c : UInt8) (h : ¬ (97 ≤ c.toNat ∧ c.toNat ≤ 122)) : upper c = c := by
  unfold upper
  rw [if_neg (by simp; omega)]

set_option maxHeartbeats 4000000 in
set_option maxRecDepth 100000 in
theorem refSmall_walk (s : ByteArray) (hs : s.size ≤ 9223372036854775807) (w : World) : Calls Tryz.prog 60 #[.string s] w fun e w' => e = .returned (.string (bs (s.data.toList.map lower))) ∧ Below w.heap.size w w' := by
  obtain ⟨cap, w1, hconv, hrow, hb1⟩ := bytes_some s w
  have hlen := len_size s
  obtain ⟨l, hl⟩ : ∃ l, s.data.toList = l := ⟨_, rfl⟩
  rw [hl] at hrow hlen ⊢
  clear hl
  obtain ⟨n, hn⟩ : ∃ n, s.size = n := ⟨_, rfl⟩
  rw [hn] at hconv hlen hs
  obtain ⟨B, hB⟩ : ∃ B, w.heap.size = B := ⟨_, rfl⟩
  have hBw : B ≤ w.heap.size := by omega
  rw [hB] at hconv hrow hb1 ⊢
  go_enter Tryz.func60, Tryz.ntmps60
  go_wp2
  go_loopw [4] (fun z wr => ∃ k : Nat, k ≤ n ∧ z = .int .i64 (k : Int) ∧ URow wr B (mix lower k l) ∧ Below B w wr) (fun z _ => n - (Lib.intOf z).toNat)
  case atStart => exact ⟨0, by omega, rfl, by simpa [mix] using hrow, hb1⟩
  case round =>
    obtain ⟨k, hk, rfl, hR, hbr⟩ := hrel
    have hml := mix_length lower k l
    by_cases hlt : (k : Int) < (n : Int)
    · have hkl : k < l.length := by omega
      obtain ⟨hc, hf⟩ := hR k (by omega)
      rw [mix_at lower hkl] at hc
      have hput := fun c => hR.put k (by omega) c
      have hnext := mix_next lower hkl
      have hsame := mix_same lower hkl
      have hlt8 := l[k].toNat_lt
      obtain ⟨c, hcq⟩ : ∃ c, l[k] = c := ⟨_, rfl⟩
      rw [hcq] at hc hnext hsame hlt8
      clear hcq
      by_cases h1 : 65 ≤ (c.toNat : Int)
      · by_cases h2 : (c.toNat : Int) ≤ 90
        · have hfc : (lower c).toNat = c.toNat + 32 := lower_in c (by omega) (by omega)
          have hput1 := hput (lower c)
          rw [← hnext] at hput1
          have hv : ((lower c).toNat : Int) = (c.toNat : Int) + 32 := by omega
          rw [hv] at hput1
          have hbr2 := hbr.setCell (p := ⟨B, k, none⟩) (Nat.le_refl _) (.int .u8 ((c.toNat : Int) + 32))
          clear hput hnext hsame hR hv hfc
          go_wp2
          go_roundw
          case rel => exact ⟨k + 1, by omega, by simp, hput1, hbr2⟩
          case measure =>
            simp [Lib.intOf]
            omega
        · have hfc : lower c = c := lower_out c (by omega)
          rw [← hsame hfc] at hR
          clear hput hnext hsame
          go_wp2
          go_roundw
          case rel => exact ⟨k + 1, by omega, by simp, hR, hbr⟩
          case measure =>
            simp [Lib.intOf]
            omega
      · have hfc : lower c = c := lower_out c (by omega)
        rw [← hsame hfc] at hR
        clear hput hnext hsame
        go_wp2
        go_roundw
        case rel => exact ⟨k + 1, by omega, by simp, hR, hbr⟩
        case measure =>
          simp [Lib.intOf]
          omega
    · have hkn : k = n := by omega
      have hmx : mix lower k l = l.map lower := by
        unfold mix
        rw [List.take_of_length_le (by omega), List.drop_of_length_le (by omega), List.append_nil]
      rw [hmx] at hR
      have hback := bytes_back wr B cap (l.map lower) hR
      rw [List.length_map, hlen] at hback
      go_wp2
      go_ret
      exact ⟨rfl, hbr⟩

end Go.Proofs.YtpdopjpibmhamaaGreatDoor.Ad
