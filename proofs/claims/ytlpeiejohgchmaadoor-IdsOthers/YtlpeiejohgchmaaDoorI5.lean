/-
  Stage 13: IdsNames and IdsNone, over what is asked of the program.
-/
import Derived.Test.YtlpeiejohgchmaaDoorI4
namespace Go.Proofs.YtlpeiejohgchmaaDoor.Fs
open Go.RowKit Go.Shelf Go.Maps
set_option linter.unusedVariables false
set_option linter.unusedSimpArgs false

theorem pre_digits (N : Nat) : ({ data := #[110, 101, 120, 116, 45] } : ByteArray) ++ ({ data := (dig9 N).toArray } : ByteArray) = sN N := by
  apply ByteArray.ext
  rw [ByteArray.data_append]
  rfl
set_option maxRecDepth 100000 in
set_option maxHeartbeats 4000000 in
theorem idsNamesL (H : IdsC) (a : Int) (h1 : -9223372036854775808 ≤ a) (h2 : a ≤ 9223372036854775807) (w : World) (hG : Glob w) :
    Calls Tryd.prog 3 #[.int .i64 a] w fun e w' => e = .returned (.bool true) ∧ Below w.heap.size w w' := by
  have HN : Hid (∀ W, Glob W → Calls Tryd.prog 9 #[.int .i64 a] W fun e w' => e = .returned (.string (nameT a)) ∧ Keep (fun _ => False) W w') := Lib.hid (fun W hg => H.name a W hg h1 h2)
  have HA : Hid (∀ W, Glob W → Calls Tryd.prog 8 #[] W fun e w' => e = .returned (.bool true) ∧ Keep (fun _ => False) W w') := Lib.hid (answersC H)
  have HG := Lib.hid hG
  by_cases hr : a < 0 ∨ 999999999 < a
  · have hn := nameT_none hr
    rw [hn] at HN
    have HR := Lib.hid hr
    by_cases h0 : a < 0
    · clear hr hn h1 h2 hG
      go_enter Tryd.func3, Tryd.ntmps3
      go_wp2_with fail
      refine (HA.out _ HG.out).mono ?_
      rintro e w1 ⟨rfl, k1⟩
      go_wp2_with fail
      refine (HN.out _ (HG.out.quiet k1)).mono ?_
      rintro e w2 ⟨rfl, k2⟩
      go_wp2
      go_ret
      exact ⟨rfl, (k1.trans k2 (fun _ _ h => h)).below (Nat.le_refl _) (fun _ h => h.elim)⟩
    · have h9 : 999999999 < a := by omega
      clear hr hn h1 h2 hG
      go_enter Tryd.func3, Tryd.ntmps3
      go_wp2_with fail
      refine (HA.out _ HG.out).mono ?_
      rintro e w1 ⟨rfl, k1⟩
      go_wp2_with fail
      refine (HN.out _ (HG.out.quiet k1)).mono ?_
      rintro e w2 ⟨rfl, k2⟩
      go_wp2
      go_ret
      exact ⟨rfl, (k1.trans k2 (fun _ _ h => h)).below (Nat.le_refl _) (fun _ h => h.elim)⟩
  · obtain ⟨N, rfl⟩ : ∃ N : Nat, a = (N : Int) := ⟨a.toNat, by omega⟩
    have hN9 : N ≤ 999999999 := by omega
    rw [nameT_nat hN9] at HN
    have HD : Hid (∀ W, Calls Tryd.prog 10 #[.int .i64 (N : Int)] W fun e w' => e = .returned (.string ⟨(dig9 N).toArray⟩) ∧ Keep (fun _ => False) W w') := Lib.hid (fun W => H.digits N W hN9)
    clear hr h1 h2 hG
    have h0 : ¬ ((N : Int) < 0) := by omega
    have h9 : ¬ (999999999 < (N : Int)) := by omega
    go_enter Tryd.func3, Tryd.ntmps3
    go_wp2_with fail
    refine (HA.out _ HG.out).mono ?_
    rintro e w1 ⟨rfl, k1⟩
    go_wp2_with fail
    refine (HN.out _ (HG.out.quiet k1)).mono ?_
    rintro e w2 ⟨rfl, k2⟩
    go_wp2_with fail
    refine (HD.out _).mono ?_
    rintro e w3 ⟨rfl, k3⟩
    have hp := pre_digits N
    go_wp2
    go_ret
    exact ⟨by first | rfl | simp [hp], ((k1.trans k2 (fun _ _ h => h)).trans k3 (fun _ _ h => h)).below (Nat.le_refl _) (fun _ h => h.elim)⟩
/-- A Next on a new disk whose power goes at the first or the second write. -/
theorem next_dies (n : Int) (k : Nat) (hk : k < 2) : nextE (fuseS (newS n) k) x0 = 2 ∧ nextN (fuseS (newS n) k) x0 = 0 ∧ (nextS (fuseS (newS n) k) x0).down = true := by
  generalize hr : (min (max n 0) 16777216).toNat = r
  have e : newS n = ⟨r, [], [], [], none, false⟩ := by rw [← hr]; rfl
  rw [e]
  match k, hk with
  | 0, _ => exact ⟨rfl, rfl, rfl⟩
  | 1, _ => exact ⟨rfl, rfl, rfl⟩
set_option maxRecDepth 100000 in
set_option maxHeartbeats 4000000 in
theorem idsNoneL (H : IdsC) (F : Nat) (hF : F ≤ 255) (w : World) (hG : Glob w) :
    Calls Tryd.prog 7 #[.int .u8 (F : Int)] w fun e w' => e = .returned (.bool true) ∧ Below w.heap.size w w' := by
  have HA : Hid (∀ W, Glob W → Calls Tryd.prog 8 #[] W fun e w' => e = .returned (.bool true) ∧ Keep (fun _ => False) W w') := Lib.hid (answersC H)
  have HG := Lib.hid hG
  clear hG
  go_enter Tryd.func7, Tryd.ntmps7
  go_wp2_with fail
  refine (H.openNone _).mono ?_
  rintro e w1 ⟨rfl, k1⟩
  have HK1 := Lib.hid k1
  clear k1
  go_wp2_with fail
  refine (H.nextNone _).mono ?_
  rintro e w2 ⟨rfl, k2⟩
  have HK2 : Hid (Keep (fun _ => False) w w2) := Lib.hid (HK1.out.trans k2 (fun _ _ h => h))
  clear k2
  go_wp2_with fail
  have HG2 := Lib.hid (HG.out.quiet HK2.out)
  refine (gNew HG2.out 100).mono ?_
  rintro e w3 ⟨rfl, hd3, k3⟩
  have HB3 : Hid (Below w2.heap.size w2 w3) := Lib.hid (quiet_below k3 (Nat.le_refl _))
  have cO := H.opens _ _ _ _ hd3 rfl (short_new _)
  clear k3 hd3
  go_wp2_with fail
  refine cO.mono ?_
  rintro e w4 ⟨X, rfl, hs4, b4⟩
  rw [open_new] at hs4
  have HB4 : Hid (Below w2.heap.size w2 w4) := Lib.hid (HB3.out.trans b4)
  have HS4 := Lib.hid hs4
  clear cO b4 hs4
  go_wp2_with fail
  obtain ⟨k, hk, hke⟩ : ∃ k : Nat, k < 2 ∧ (F : Int) % 2 = (k : Int) := ⟨F % 2, by omega, by omega⟩
  rw [hke]
  obtain ⟨d1, d2, d3⟩ := next_dies 100 k hk
  refine (sFuse (k : Int) (by omega) HS4.out).mono ?_
  rintro e w5 ⟨rfl, hs5, b5⟩
  have HB5 : Hid (Below w2.heap.size w2 w5) := Lib.hid (HB4.out.trans b5)
  have cN := H.next _ _ _ _ _ _ hs5 (by
    show (newS 100).bulk + 4 ≤ 1000000
    decide)
  rw [d1, d2] at cN
  have HD3 := Lib.hid d3
  clear hs5 b5 d1 d2 d3 hke hk HB4 HS4 HB3
  go_wp2_with fail
  refine cN.mono ?_
  rintro e w6 ⟨rfl, hs6, b6⟩
  have HB6 : Hid (Below w2.heap.size w2 w6) := Lib.hid (HB5.out.trans b6)
  have cO := H.openDown _ _ _ _ hs6.disk HD3.out
  clear cN b6 hs6 HB5
  go_wp2_with fail
  refine cO.mono ?_
  rintro e w7 ⟨rfl, k7⟩
  clear cO
  go_wp2_with fail
  refine (HA.out _ ((HG2.out.below HB6.out HG2.out.1).quiet k7)).mono ?_
  rintro e w8 ⟨rfl, k8⟩
  have cL := H.lastNone w8
  go_wp2_with fail
  refine cL.mono ?_
  rintro e w9 ⟨rfl, rfl⟩
  go_wp2
  go_ret
  have b8 := HB6.out.trans (quiet_below (k7.trans k8 (fun _ _ h => h)) HB6.out.size)
  exact ⟨rfl, (HK2.out.trans (Keep.of_below b8) (fun _ _ h => h)).below (Nat.le_refl _) (fun _ h => h.elim)⟩
end Go.Proofs.YtlpeiejohgchmaaDoor.Fs
