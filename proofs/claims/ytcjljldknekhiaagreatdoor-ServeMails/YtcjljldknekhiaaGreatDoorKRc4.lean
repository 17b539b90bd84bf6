/-
  What the document's own command returns and does.
-/
import Derived.Test.YtcjljldknekhiaaGreatDoorKg2
import Derived.Deep.RegionHeld3
namespace Go.Proofs.YtcjljldknekhiaaGreatDoor.Ln
open Go.RowKit
set_option linter.unusedVariables false
set_option linter.unusedSimpArgs false

set_option maxHeartbeats 4000000 in
set_option maxRecDepth 100000 in
theorem cmd_ehlo1 {F : Nat → Prop} {w : World} {g : Nat} {s : Se} (h : RS F w g s) (hok : Ok s) (ho : s.out.length + 2 ≤ 1000000) (l : ByteArray) (hl : l.size ≤ 512) (A : ByteArray) (z : Int) (h1 : (1 : Int) ≤ (s.st : Int)) (hh : s.host.size ≤ 100000)
    (hv : ∀ w, Calls Tryz.prog 25 #[.string l] w fun e w' => e = .returned (.tuple #[.agg #[.string { data := #[69, 72, 76, 79] }, .string A, .int .i64 z], .int .i64 0]) ∧ Keep (fun _ => False) w w') :
    Calls Tryz.prog 38 #[.pointer (some ⟨g, 0, none⟩), .string l] w (Did F g (((s.to (max s.st 1)).reset).say (ehlo s.host s.size)) w) := by
  have N0 := Lib.hid (Now.start h)
  have HV := Lib.hid hv
  have HOK := Lib.hid hok
  have hst := hok.st
  have hsz := hok.size
  have hl' : (l.size : Int) ≤ 512 := by omega
  clear h hv hok
  go_enter Tryz.func38, Tryz.ntmps38
  go_wp2_with fail
  refine (HV.out _).mono ?_
  rintro e w1 ⟨rfl, hk1⟩
  have N1 := Lib.hid (N0.out.quiet (hk1.trans (laidV_keep w1 { data := #[69, 72, 76, 79] } A z) (fun _ _ h => h)))
  obtain ⟨v0, v1, v2⟩ := laidV_cells w1 { data := #[69, 72, 76, 79] } A z
  obtain ⟨c0, c1, c4, c5, c8, fz⟩ := N1.out.cells
  have f4 := fz 4
  have N2 : Hid (Now F w g F ((laidV w1 { data := #[69, 72, 76, 79] } A z).setCell ⟨g, 4, none⟩ (.int .i64 (s.st : Int))) (s.to (max s.st 1))) := Lib.hid (N1.out.put (s' := s.to (max s.st 1)) 4 (.int .i64 (s.st : Int)) (fun _ _ _ _ => by rw [show max s.st 1 = s.st by omega]; rfl) rfl rfl rfl rfl)
  clear hk1 fz
  go_wp2_with (refine step_laidV (by rfl) (.tmp 4) (.tmp 15) (by rfl) { data := #[69, 72, 76, 79] } A z (by rfl) (by rfl) ?_)
  refine (refReset N2.out.rs (by first | omega | (simp [Se.to]; omega))).mono ?_
  rintro e w3 hd
  obtain ⟨rfl, F3, hN3⟩ := N2.out.did hd
  have N3 := Lib.hid hN3
  clear hd hN3
  go_wp2_with fail
  obtain ⟨e0, e1, _, _, _, fz3⟩ := N3.out.cells
  have eh : ((s.to (max s.st 1)).reset).host = s.host := rfl
  have es : ((s.to (max s.st 1)).reset).size = s.size := rfl
  rw [eh] at e0
  rw [es] at e1
  have cD := refDec s.size (by omega) (by omega)
  have HD := Lib.hid cD
  have hdl : (str (dig s.size)).size ≤ 9 := by rw [str_size, ← front_pos (by omega)]; exact dig_len 9 s.size (by omega)
  obtain ⟨D, hD⟩ : ∃ D, D = str (dig s.size) := ⟨_, rfl⟩
  rw [← hD] at hdl
  rw [← hD] at HD
  have HDD := Lib.hid hD
  have hq1 : ¬ (9223372036854775807 < 4 + s.host.size) := by omega
  have hq2 : ¬ (9223372036854775807 < 4 + s.host.size + 11) := by omega
  have hq3 : ¬ (9223372036854775807 < 4 + s.host.size + 11 + D.size) := by omega
  have hq4 : ¬ (9223372036854775807 < 4 + s.host.size + 11 + D.size + 18) := by omega
  clear cD fz3 eh es hD
  refine wp_region_noPanic ?_
  refine wp_region_held_drew (S := fun w' => w'.cell? ⟨g, 0, none⟩ = some (.string s.host) ∧ w'.cell? ⟨g, 1, none⟩ = some (.int .i64 (s.size : Int))) (by kernel_rfl) ⟨e0, e1⟩ (fun hHeld => ?_)
  refine wpAnyH_take (i := 0) (v := ?_) rfl (by kernel_rfl) (by kernel_rfl) (by kernel_rfl) (fun _ _ _ h => h) (Or.inl ⟨by rfl, ?_⟩) (by assumption) ?_
  rotate_left
  · (intro wS hSw; (try dsimp only at hSw); obtain ⟨hS1, hS2⟩ := hSw; (try simp only [List.getElem_toArray, List.getElem_cons_succ, List.getElem_cons_zero]); go_simp; try (with_reducible rfl))
  try simp only [Act.put, List.getElem_toArray, List.getElem_cons_succ, List.getElem_cons_zero, List.setIfInBounds_toArray, List.set_cons_zero, List.set_cons_succ]
  refine wpAnyH_take (i := 1) (v := ?_) rfl (by kernel_rfl) (by kernel_rfl) (by kernel_rfl) (fun _ _ _ h => h) (Or.inl ⟨by rfl, ?_⟩) (by assumption) ?_
  rotate_left
  · (intro wS hSw; (try dsimp only at hSw); obtain ⟨hS1, hS2⟩ := hSw; (try simp only [List.getElem_toArray, List.getElem_cons_succ, List.getElem_cons_zero]); go_simp; try (with_reducible rfl))
  try simp only [Act.put, List.getElem_toArray, List.getElem_cons_succ, List.getElem_cons_zero, List.setIfInBounds_toArray, List.set_cons_zero, List.set_cons_succ]
  refine wpAnyH_take (i := 2) (v := ?_) rfl (by kernel_rfl) (by kernel_rfl) (by kernel_rfl) (fun _ _ _ h => h) (Or.inl ⟨by rfl, ?_⟩) (by assumption) ?_
  rotate_left
  · (intro wS hSw; (try dsimp only at hSw); obtain ⟨hS1, hS2⟩ := hSw; (try simp only [List.getElem_toArray, List.getElem_cons_succ, List.getElem_cons_zero]); go_simp; try (with_reducible rfl))
  try simp only [Act.put, List.getElem_toArray, List.getElem_cons_succ, List.getElem_cons_zero, List.setIfInBounds_toArray, List.set_cons_zero, List.set_cons_succ]
  refine wpAnyH_take (i := 3) (v := ?_) rfl (by kernel_rfl) (by kernel_rfl) (by kernel_rfl) (fun _ _ _ h => h) (Or.inl ⟨by rfl, ?_⟩) (by assumption) ?_
  rotate_left
  · (intro wS hSw; (try dsimp only at hSw); obtain ⟨hS1, hS2⟩ := hSw; (try simp only [List.getElem_toArray, List.getElem_cons_succ, List.getElem_cons_zero]); go_simp; try (with_reducible rfl))
  try simp only [Act.put, List.getElem_toArray, List.getElem_cons_succ, List.getElem_cons_zero, List.setIfInBounds_toArray, List.set_cons_zero, List.set_cons_succ]
  refine wpAnyH_take (i := 4) (v := ?_) rfl (by kernel_rfl) (by kernel_rfl) (by kernel_rfl) (fun _ _ _ h => h) (Or.inl ⟨by rfl, ?_⟩) (by assumption) ?_
  rotate_left
  · (intro wS hSw; (try dsimp only at hSw); obtain ⟨hS1, hS2⟩ := hSw; (try simp only [List.getElem_toArray, List.getElem_cons_succ, List.getElem_cons_zero]); go_simp; try (with_reducible rfl))
  try simp only [Act.put, List.getElem_toArray, List.getElem_cons_succ, List.getElem_cons_zero, List.setIfInBounds_toArray, List.set_cons_zero, List.set_cons_succ]
  refine wpAnyH_take (i := 5) (v := ?_) rfl (by kernel_rfl) (by kernel_rfl) (by kernel_rfl) (fun _ _ _ h => h) (Or.inl ⟨by rfl, ?_⟩) (by assumption) ?_
  rotate_left
  · (intro wS hSw; (try dsimp only at hSw); obtain ⟨hS1, hS2⟩ := hSw; (try simp only [List.getElem_toArray, List.getElem_cons_succ, List.getElem_cons_zero]); go_simp; try (with_reducible rfl))
  try simp only [Act.put, List.getElem_toArray, List.getElem_cons_succ, List.getElem_cons_zero, List.setIfInBounds_toArray, List.set_cons_zero, List.set_cons_succ]
  refine wpAnyH_take (i := 6) (v := ?_) rfl (by kernel_rfl) (by kernel_rfl) (by kernel_rfl) (fun _ _ _ h => h) (Or.inl ⟨by rfl, ?_⟩) (by assumption) ?_
  rotate_left
  · (intro wS hSw; (try dsimp only at hSw); obtain ⟨hS1, hS2⟩ := hSw; (try simp only [List.getElem_toArray, List.getElem_cons_succ, List.getElem_cons_zero]); go_simp; try (with_reducible rfl))
  try simp only [Act.put, List.getElem_toArray, List.getElem_cons_succ, List.getElem_cons_zero, List.setIfInBounds_toArray, List.set_cons_zero, List.set_cons_succ]
  refine wpAnyH_take (i := 7) (v := ?_) rfl (by kernel_rfl) (by kernel_rfl) (by kernel_rfl) (fun _ _ _ h => h) (Or.inl ⟨by rfl, ?_⟩) (by assumption) ?_
  rotate_left
  · (intro wS hSw; (try dsimp only at hSw); obtain ⟨hS1, hS2⟩ := hSw; (try simp only [List.getElem_toArray, List.getElem_cons_succ, List.getElem_cons_zero]); go_simp; try (with_reducible rfl))
  try simp only [Act.put, List.getElem_toArray, List.getElem_cons_succ, List.getElem_cons_zero, List.setIfInBounds_toArray, List.set_cons_zero, List.set_cons_succ]
  refine wpAnyH_take (i := 8) (v := ?_) rfl (by kernel_rfl) (by kernel_rfl) (by kernel_rfl) (fun _ _ _ h => h) (Or.inl ⟨by rfl, ?_⟩) (by assumption) ?_
  rotate_left
  · (intro wS hSw; (try dsimp only at hSw); obtain ⟨hS1, hS2⟩ := hSw; (try simp only [List.getElem_toArray, List.getElem_cons_succ, List.getElem_cons_zero]); go_simp; try (with_reducible rfl))
  try simp only [Act.put, List.getElem_toArray, List.getElem_cons_succ, List.getElem_cons_zero, List.setIfInBounds_toArray, List.set_cons_zero, List.set_cons_succ]
  refine wpAnyH_take (i := 9) (v := ?_) rfl (by kernel_rfl) (by kernel_rfl) (by kernel_rfl) (fun _ _ _ h => h) (Or.inl ⟨by rfl, ?_⟩) (by assumption) ?_
  rotate_left
  · (intro wS hSw; (try dsimp only at hSw); obtain ⟨hS1, hS2⟩ := hSw; (try simp only [List.getElem_toArray, List.getElem_cons_succ, List.getElem_cons_zero]); go_simp; try (with_reducible rfl))
  try simp only [Act.put, List.getElem_toArray, List.getElem_cons_succ, List.getElem_cons_zero, List.setIfInBounds_toArray, List.set_cons_zero, List.set_cons_succ]
  refine wpAnyH_take (i := 10) (v := ?_) rfl (by kernel_rfl) (by kernel_rfl) (by kernel_rfl) (fun _ _ _ h => h) (Or.inl ⟨by rfl, ?_⟩) (by assumption) ?_
  rotate_left
  · (intro wS hSw; (try dsimp only at hSw); obtain ⟨hS1, hS2⟩ := hSw; (try simp only [List.getElem_toArray, List.getElem_cons_succ, List.getElem_cons_zero]); go_simp; try (with_reducible rfl))
  try simp only [Act.put, List.getElem_toArray, List.getElem_cons_succ, List.getElem_cons_zero, List.setIfInBounds_toArray, List.set_cons_zero, List.set_cons_succ]
  refine wpAnyH_ready (rs := [11]) (by kernel_rfl) (by simp) ?_
  refine AllReadyH.cons rfl (fun K hK => ?_) AllReadyH.nil
  go_simp
  refine (HD.out _).mono ?_
  rintro e w4 ⟨rfl, hk4⟩
  have N4 := Lib.hid (N3.out.quiet (((Keep.refl (fun _ => False) w3).drew).trans hk4 (fun _ _ h => h)))
  obtain ⟨e04, e14, _, _, _, _⟩ := N4.out.cells
  have e04' : w4.cell? ⟨g, 0, none⟩ = some (.string s.host) := e04
  have e14' : w4.cell? ⟨g, 1, none⟩ = some (.int .i64 (s.size : Int)) := e14
  clear hk4 e04 e14
  go_wp2_with fail
  refine hK.out _ _ ⟨e04', e14'⟩ (fun hHeld => ?_)
  clear hK K
  try simp only [Act.put, List.getElem_toArray, List.getElem_cons_succ, List.getElem_cons_zero, List.setIfInBounds_toArray, List.set_cons_zero, List.set_cons_succ]
  refine wpAnyH_take (i := 12) (v := ?_) rfl (by kernel_rfl) (by kernel_rfl) (by kernel_rfl) (fun _ _ _ h => h) (Or.inl ⟨by rfl, ?_⟩) (by assumption) ?_
  rotate_left
  · (intro wS hSw; (try dsimp only at hSw); obtain ⟨hS1, hS2⟩ := hSw; (try simp only [List.getElem_toArray, List.getElem_cons_succ, List.getElem_cons_zero]); go_simp; try (with_reducible rfl))
  try simp only [Act.put, List.getElem_toArray, List.getElem_cons_succ, List.getElem_cons_zero, List.setIfInBounds_toArray, List.set_cons_zero, List.set_cons_succ]
  refine wpAnyH_take (i := 13) (v := ?_) rfl (by kernel_rfl) (by kernel_rfl) (by kernel_rfl) (fun _ _ _ h => h) (Or.inl ⟨by rfl, ?_⟩) (by assumption) ?_
  rotate_left
  · (intro wS hSw; (try dsimp only at hSw); obtain ⟨hS1, hS2⟩ := hSw; (try simp only [List.getElem_toArray, List.getElem_cons_succ, List.getElem_cons_zero]); go_simp; try (with_reducible rfl))
  try simp only [Act.put, List.getElem_toArray, List.getElem_cons_succ, List.getElem_cons_zero, List.setIfInBounds_toArray, List.set_cons_zero, List.set_cons_succ]
  refine wpAnyH_ready (rs := [14]) (by kernel_rfl) (by simp) ?_
  refine AllReadyH.cons rfl (fun K hK => ?_) AllReadyH.nil
  go_simp
  refine (refSay N4.out.rs _ (by have : s.out.length + 2 ≤ 1000000 := ho; simp only [Se.to, Se.reset]; omega)).mono ?_
  rintro e w5 hd
  obtain ⟨rfl, F5, hN5⟩ := N4.out.did hd
  have N5 := Lib.hid hN5
  obtain ⟨e05, e15, _, _, _, _⟩ := N5.out.cells
  have e05' : w5.cell? ⟨g, 0, none⟩ = some (.string s.host) := e05
  have e15' : w5.cell? ⟨g, 1, none⟩ = some (.int .i64 (s.size : Int)) := e15
  clear hd hN5 e05 e15
  go_wp2_with fail
  refine hK.out _ _ ⟨e05', e15'⟩ (fun hHeld => ?_)
  clear hK K
  try simp only [Act.put, List.getElem_toArray, List.getElem_cons_succ, List.getElem_cons_zero, List.setIfInBounds_toArray, List.set_cons_zero, List.set_cons_succ]
  refine wpAnyH_done (by kernel_rfl) ?_ _
  refine NoPanic.normal ?_
  go_wp2
  (try simp only [Exit.inBlock, Exit.then])
  first | go_end0 | refine bodyPost_ret (results_none rfl _ _ _) rfl ?_
  have hfin := N5.out
  rw [HDD.out] at hfin
  exact hfin.done

end Go.Proofs.YtcjljldknekhiaaGreatDoor.Ln
