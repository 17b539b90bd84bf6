/-
  What the document's MayMark, sum and Mark return.
-/
import Derived.Test.YtcplemamcgonkaaHBase
namespace Go.Proofs.Ytcplemamcgonkaa.Ln
open Go.RowKit
set_option linter.unusedVariables false
set_option linter.unusedSimpArgs false
set_option maxHeartbeats 2000000 in
theorem mayMarkC (k : Mk) (w : World) : Calls Try.prog 10 #[.agg (mkC k)] w (Quiet (.bool (goodK k)) w) := by
  obtain ⟨x, y, z⟩ := k
  have HG : Hid (∀ (q : Bool), (q = true ↔ 1 ≤ x ∧ x ≤ 5 ∧ 0 ≤ y ∧ y ≤ 7 ∧ 0 ≤ z ∧ z ≤ 1099511627776) → ∀ w', Keep (fun _ => False) w w' → Quiet (.bool (goodK ⟨x, y, z⟩)) w (.returned (.bool q)) w') := Lib.hid (fun q hq w' kw => quiet_of (by rw [Bool.eq_iff_iff.2 (hq.trans (goodK_iff (k := ⟨x, y, z⟩)).symm)]) kw)
  have K0 := Lib.hid (keep_new w (.cells #[Value.int .i64 x, Value.int .i64 y, Value.int .i64 z] 23))
  unfold mkC
  simp only
  by_cases h0 : (1 : Int) ≤ x
  · skip
    by_cases h1 : x ≤ 5
    · skip
      by_cases h2 : (0 : Int) ≤ y
      · skip
        by_cases h3 : y < 8
        · skip
          by_cases h4 : (0 : Int) ≤ z
          · skip
            by_cases h5 : z ≤ 1099511627776
            · skip
              go_enter Try.func10, Try.ntmps10
              go_wp2
              go_ret
              exact HG.out _ (by simp; omega) _ K0.out
            · have d5 : decide (z ≤ 1099511627776) = false := decide_eq_false h5
              have H5 := Lib.hid h5
              clear h5
              go_enter Try.func10, Try.ntmps10
              go_wp2
              go_ret
              exact HG.out _ (by have := H5.out; simp; omega) _ K0.out
          · have d4 : decide ((0 : Int) ≤ z) = false := decide_eq_false h4
            have H4 := Lib.hid h4
            clear h4
            go_enter Try.func10, Try.ntmps10
            go_wp2
            go_ret
            exact HG.out _ (by have := H4.out; simp; omega) _ K0.out
        · have d3 : decide (y < 8) = false := decide_eq_false h3
          have H3 := Lib.hid h3
          clear h3
          go_enter Try.func10, Try.ntmps10
          go_wp2
          go_ret
          exact HG.out _ (by have := H3.out; simp; omega) _ K0.out
      · have d2 : decide ((0 : Int) ≤ y) = false := decide_eq_false h2
        have H2 := Lib.hid h2
        clear h2
        go_enter Try.func10, Try.ntmps10
        go_wp2
        go_ret
        exact HG.out _ (by have := H2.out; simp; omega) _ K0.out
    · have d1 : decide (x ≤ 5) = false := decide_eq_false h1
      have H1 := Lib.hid h1
      clear h1
      go_enter Try.func10, Try.ntmps10
      go_wp2
      go_ret
      exact HG.out _ (by have := H1.out; simp; omega) _ K0.out
  · have d0 : decide ((1 : Int) ≤ x) = false := decide_eq_false h0
    have H0 := Lib.hid h0
    clear h0
    go_enter Try.func10, Try.ntmps10
    go_wp2
    go_ret
    exact HG.out _ (by have := H0.out; simp; omega) _ K0.out
set_option maxHeartbeats 2000000 in
theorem refSumC {P : Nat → Prop} {w : World} (x : Option Addr) (n cap : Nat) (bs : List Nat) (hn : n = bs.length) (hl : n ≤ 1000000) (h : Bytes P w x bs) :
    Calls Try.prog 25 #[.slice x n cap] w (Copy (sum4 bs) w) := by
  have HC : Hid (Calls Try.prog 32 #[.slice x n cap] w fun e w' => e = .returned (.int .u32 ((Crc.sum bs : Nat) : Int)) ∧ w = w') := Lib.hid (by subst hn; exact Crc.refOf x cap bs (by omega) w h.crc)
  have hs := Crc.sum_lt bs
  have HS4 : Hid (sum4 bs = [Crc.sum bs / 16777216, Crc.sum bs / 65536 % 256, Crc.sum bs / 256 % 256, Crc.sum bs % 256]) := Lib.hid rfl
  obtain ⟨s, hse⟩ : ∃ s, s = Crc.sum bs := ⟨_, rfl⟩
  rw [← hse] at HC hs HS4
  have s0 : (0 : Int) ≤ (s : Int) := by omega
  have s1 : (s : Int) ≤ 4294967295 := by omega
  have b1 : bits .and .u32 ((s : Int) / 65536) 255 = (s : Int) / 65536 % 256 := by
    have := and255 (s / 65536) (by omega)
    simpa using this
  have b2 : bits .and .u32 ((s : Int) / 256) 255 = (s : Int) / 256 % 256 := by
    have := and255 (s / 256) (by omega)
    simpa using this
  have b3 : bits .and .u32 (s : Int) 255 = (s : Int) % 256 := and255 s hs
  clear h hn hse
  go_enter Try.func25, Try.ntmps25
  go_wp2_with fail
  refine HC.out.mono ?_
  rintro e w1 ⟨rfl, hw⟩
  subst hw
  go_wp2
  go_ret
  refine ⟨w.heap.size, 4, rfl, Nat.le_refl _, rfl, ?_, keep_new w _⟩
  have e4 : (cellsOf (sum4 bs)).toArray = #[.int .u8 ((s : Int) / 16777216), .int .u8 ((s : Int) / 65536 % 256), .int .u8 ((s : Int) / 256 % 256), .int .u8 ((s : Int) % 256)] := by
    rw [HS4.out]
    simp [cellsOf]
  rw [e4]
  exact At.new w 5 _

end Go.Proofs.Ytcplemamcgonkaa.Ln
