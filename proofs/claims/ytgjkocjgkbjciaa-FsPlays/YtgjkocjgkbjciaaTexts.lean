/-
  What the document's 'Texts' answers of two rows of one list of names.
-/
import Derived.Test.YtgjkocjgkbjciaaList
namespace Go.Proofs.Ytgjkocjgkbjciaa.Fs
open Go.RowKit Go.Maps
set_option linter.unusedVariables false

/-- A row of names of its own. -/
def Names (w : World) (v : Value) (d : List Nm) : Prop := ∃ base, w.ownsRow base 9 1 v d.length (d.map encStr)
theorem Names.shape {w : World} {v : Value} {d : List Nm} (h : Names w v d) : ∃ x cap, v = .slice x d.length cap ∧ ∀ i a, d[i]? = some a → ∃ g, x = some ⟨g, 0, none⟩ ∧ w.cell? ⟨g, i, none⟩ = some (encStr a) := by
  obtain ⟨base, h⟩ := h
  rcases h.2 with ⟨rfl, h0⟩ | ⟨g, cap, cur, rfl, _, hg, hnc, hm, hs, ht⟩
  · refine ⟨_, _, by rw [h0], fun i a hi => ?_⟩
    have := (List.getElem?_eq_some_iff.1 hi).1
    omega
  · refine ⟨_, _, rfl, fun i a hi => ⟨g, rfl, ?_⟩⟩
    rw [cell_of_row w g i cur 9 (0, 0) hg]
    have h1 : (d.map encStr)[i]? = some (encStr a) := by simp [hi]
    rw [← ht, Nat.mul_one, List.getElem?_take] at h1
    split at h1
    · simpa using h1
    · cases h1
theorem Names.keep {T : Nat → Prop} {w w' : World} {v : Value} {d : List Nm} (h : Names w v d) (k : Keep T w w') (hT : ∀ b, v.ownBlock = some b → ¬ T b) : Names w' v d := by
  obtain ⟨base, h⟩ := h
  refine ⟨base, h.1, ?_⟩
  rcases h.2 with h0 | ⟨g, cap, cur, rfl, hb, hg, r⟩
  · exact .inl h0
  · exact .inr ⟨g, cap, cur, rfl, hb, (k.block g (At.lt (t := 9) hg) (hT g rfl)).trans hg, r⟩

set_option maxHeartbeats 2000000 in
set_option maxRecDepth 100000 in
theorem texts (d : List Nm) (hd : d.length ≤ 1000000) (u v : Value) (w : World) (hu : Names w u d) (hv : Names w v d) : Calls Try.prog 32 #[u, v] w fun e w' => e = .returned (.bool true) ∧ Keep (fun _ => False) w w' := by
  obtain ⟨x, cx, rfl, hx⟩ := hu.shape
  obtain ⟨y, cy, rfl, hy⟩ := hv.shape
  obtain ⟨N, hN⟩ : ∃ N, N = d.length := ⟨_, rfl⟩
  rw [← hN]
  have HN := Lib.hid hN
  have HX := Lib.hid hx
  have HY := Lib.hid hy
  have hNl : N ≤ 1000000 := by omega
  clear hu hv hx hy hN hd
  go_enter Try.func32, Try.ntmps32
  go_wp2
  go_loopw [5] (fun z wr => ∃ i : Nat, i ≤ N ∧ z = .int .i64 (i : Int) ∧ Hid (Keep (fun _ => False) w wr)) (fun z _ => N - (intOf z).toNat)
  case atStart => exact ⟨0, by omega, rfl, Keep.refl _ _⟩
  case round =>
    obtain ⟨i, hi, rfl, HK⟩ := hrel
    by_cases h8 : (i : Int) < (N : Int)
    · have hil : i < d.length := by have := HN.out; omega
      obtain ⟨a, ha⟩ := getElem?_some_lt hil
      obtain ⟨g, rfl, c1⟩ := HX.out i a ha
      obtain ⟨g', rfl, c2⟩ := HY.out i a ha
      have d1 := HK.out.cell c1 (fun h => h)
      have d2 := HK.out.cell c2 (fun h => h)
      clear hil ha HX HY c1 c2
      go_wp2
      go_region
      go_wp2
      go_roundw
      case rel => exact ⟨i + 1, by omega, by go_num, HK.out.drew⟩
      case measure => simp [intOf]; omega
    · go_wp2
      go_ret
      exact ⟨rfl, HK.out⟩

end Go.Proofs.Ytgjkocjgkbjciaa.Fs
