/-
  Slices of bytes that came in, as the laws' frames hand them over; and what is read of bytes that are cut.
-/
import Derived.Test.YtnaodcldnjkklaaAns
import Derived.Test.YtnaodcldnjkklaaEye
import Derived.ProofKit
import Derived.OpenShut
namespace Go.Proofs.Ytnaodcldnjkklaa.Wd
open Go.RowKit Go.ChangeShapes Go.WideShapes

theorem bytes_of {w : World} {a : Option Addr} {len cap : Nat} {zs : List Int}
    (h : (a = none ∧ len = 0 ∧ cap = 0 ∧ zs = []) ∨
      ∃ x, a = some x ∧ len ≤ cap ∧ cap ≤ maxLen ∧ zs.length = cap ∧ (∀ i, i < zs.length → w.cell? (x.add i) = some (.int .u8 (zs.getD i 0))) ∧ ∀ n ∈ zs, (Lit.int .u8 n).wf = true) :
    ∃ bs : List Nat, bs.length = len ∧ len ≤ cap ∧ cap ≤ maxLen ∧ Bytes (fun b => b < w.heap.size) w a bs := by
  rcases h with ⟨rfl, rfl, rfl, rfl⟩ | ⟨x, rfl, hl, hm, hz, hcell, hwz⟩
  · exact ⟨[], rfl, Nat.le_refl _, Nat.zero_le _, Bytes.nil _ _ _⟩
  · refine ⟨(zs.take len).map Int.toNat, by simp; omega, hl, hm, ?_, ?_⟩
    · intro c hc
      obtain ⟨z, hz1, rfl⟩ := List.mem_map.1 hc
      have := bounds_u8 (hwz z (List.mem_of_mem_take hz1))
      omega
    · by_cases h0 : len = 0
      · left; simp [h0]
      · right
        obtain ⟨b, off, spot⟩ := x
        have hc0 := hcell 0 (by omega)
        have hspot : spot = none := by simpa [Addr.add] using World.cell?_spot hc0
        subst hspot
        refine ⟨b, off, ?_, rfl, fun i hi => ?_⟩
        · have := World.block_lt_of_cell? w _ hc0
          simpa [Addr.add] using this
        · have hi' : i < len := by simpa [hz, Nat.min_eq_left hl] using hi
          have hc := hcell i (by omega)
          rw [Addr.add_mid] at hc
          rw [hc]
          have hiz : i < zs.length := by omega
          have hw := bounds_u8 (hwz zs[i] (List.getElem_mem _))
          have e1 : zs.getD i 0 = zs[i] := by simp [hiz]
          have e2 : ((zs.take len).map Int.toNat).getD i 0 = zs[i].toNat := by simp [hiz, hi']
          rw [e1, e2]
          congr 2
          omega
theorem Own.cap_le {w : World} {x : Option Addr} {n cap : Nat} {bs : List Nat} (h : Own w (.slice x n cap) bs) : n ≤ cap := by
  rcases h.1.2 with ⟨e, _⟩ | ⟨g, cap', cur, e, _, _, hnc, _⟩
  · injection e with e1 e2 e3
    omega
  · injection e with e1 e2 e3
    omega
theorem Own.bytes {w : World} {x : Option Addr} {n cap : Nat} {bs : List Nat} (h : Own w (.slice x n cap) bs) : Bytes (fun b => (Value.slice x n cap).ownBlock = some b) w x bs := by
  obtain ⟨y, c, e, hB⟩ := h.shape
  injection e with e1 e2 e3
  subst e1
  exact hB

/-- Of bytes that are cut ahead of their end nothing is read. -/
theorem byt_cut (a r : List Nat) (ha : a.length ≤ top) (n : Nat) (h : ¬ 8 + a.length ≤ n) : bytOk (some ((enc a ++ r).take n)) = false := by
  by_cases h8 : 8 ≤ n
  · have e : (enc a ++ r).take n = num8 a.length ++ (a ++ r).take (n - 8) := by
      rw [enc, List.append_assoc, List.take_append, num8_length, List.take_of_length_le (by rw [num8_length]; exact h8)]
    obtain ⟨_, h2, h3⟩ := num_back a.length ha ((a ++ r).take (n - 8))
    rw [e, bytOk, h2, h3]
    exact takeOk_no (by simp; omega)
  · exact bytOk_no (numOk_short (by simp; omega))
theorem byt_whole (a r : List Nat) (ha : a.length ≤ top) (n : Nat) (h : 8 + a.length ≤ n) :
    bytOk (some ((enc a ++ r).take n)) = true ∧ bytV (some ((enc a ++ r).take n)) = a ∧ bytS (some ((enc a ++ r).take n)) = some (r.take (n - (8 + a.length))) := by
  have e : (enc a ++ r).take n = enc a ++ r.take (n - (8 + a.length)) := by
    rw [List.take_append, enc_length, List.take_of_length_le (by rw [enc_length]; exact h)]
  rw [e]
  exact byt_back a ha _
theorem num_short (bs : List Nat) (h : bs.length < 8) : numOk (some bs) = false := numOk_short (by omega)

/-- Two rows of bytes, one behind the other, cut at n: what is read of them. -/
theorem cut_math (a b : List Nat) (n : Nat) (ha : a.length ≤ top) (hb : b.length ≤ top) (hn : n ≤ 16 + a.length + b.length) :
    (bytOk (some ((enc a ++ enc b).take n)) = decide (8 + a.length ≤ n)) ∧ (8 + a.length ≤ n → bytV (some ((enc a ++ enc b).take n)) = a) ∧
    (bytOk (bytS (some ((enc a ++ enc b).take n))) = decide (n = 16 + a.length + b.length)) ∧ (n = 16 + a.length + b.length → bytV (bytS (some ((enc a ++ enc b).take n))) = b) ∧
    numOk (bytS (bytS (some ((enc a ++ enc b).take n)))) = false := by
  by_cases h1 : 8 + a.length ≤ n
  · obtain ⟨e1, e2, e3⟩ := byt_whole a (enc b) ha n h1
    have eb : enc b = enc b ++ [] := by simp
    rw [e1, e2, e3, eb]
    by_cases h2 : n = 16 + a.length + b.length
    · obtain ⟨f1, f2, f3⟩ := byt_whole b [] hb (n - (8 + a.length)) (by omega)
      rw [f1, f2, f3]
      exact ⟨by simp [h1], fun _ => rfl, by simp [h2], fun _ => rfl, by simp; exact num_short [] (by simp)⟩
    · have f1 := byt_cut b [] hb (n - (8 + a.length)) (by omega)
      rw [f1, bytS_no f1]
      exact ⟨by simp [h1], fun _ => rfl, by simp [h2], fun h => absurd h h2, rfl⟩
  · have f1 := byt_cut a (enc b) ha n h1
    have h2 : ¬ n = 16 + a.length + b.length := by omega
    rw [f1, bytS_no f1]
    exact ⟨by simp [h1], fun h => absurd h h1, by simp [h2]; rfl, fun h => absurd h h2, rfl⟩

end Go.Proofs.Ytnaodcldnjkklaa.Wd
