/-
  What the program's reset, greet, offer, quit, sender, rcpt and data return.
-/
import Derived.Test.YtcjljldknekhiaaGreatDoorPu
import Derived.BigQuiet
import Derived.Deep.RegionHeld3
namespace Go.Proofs.YtcjljldknekhiaaGreatDoor.Ln
open Go.RowKit
set_option linter.unusedVariables false
set_option linter.unusedSimpArgs false

/-- One cell of the session is set. -/
theorem PNow.put {F F' : Nat → Prop} {w w' : World} {g : Nat} {p p' : Se} (h : PNow F w g F' w' p) (i : Nat) (u : Value) (he : ∀ lv ev rv bv, (pCells p lv ev rv bv).setIfInBounds i u = pCells p' lv ev rv bv) (ho : p'.out = p.out) (hb : p'.body = p.body) (hw : p'.wait = p.wait) (hr : p'.rcpts = p.rcpts) (h6 : p'.st = 6 ↔ p.st = 6) :
    ∃ F'', PNow F w g F'' (w'.setCell ⟨g, i, none⟩ u) p' := by
  obtain ⟨lv, ev, rv, bv, o, xs, h1⟩ := h.rs
  have hA := h1.row.put i u
  rw [he] at hA
  obtain ⟨F'', a, b, c⟩ := h1.put (p' := p') ((Keep.refl (fun k => k = g) w').setCell (p := ⟨g, i, none⟩) (fun _ => rfl) u) hA ho (.inl ⟨rfl, hr⟩) (.inl ⟨rfl, hb⟩) (.inl ⟨rfl, hw, h6⟩)
  exact ⟨F'', h.on a b c⟩

theorem cells_reset (p : Se) (lv ev rv bv : Value) : ((((((((pCells p lv ev rv bv).setIfInBounds 2 (.int .i64 (p.reset.st : Int))).setIfInBounds 5 (.int .i64 0)).setIfInBounds 6 (.int .i64 0)).setIfInBounds 7 (.int .i64 0)).setIfInBounds 8 (.string { data := #[] })).setIfInBounds 9 (.slice none 0 0)).setIfInBounds 10 (.slice none 0 0)).setIfInBounds 11 (.int .i64 0) = pCells p.reset lv ev nilV nilV := by
  simp only [pCells, List.setIfInBounds_toArray, List.set_cons_zero, List.set_cons_succ]
  rfl
set_option maxHeartbeats 1000000 in
theorem preset {F : Nat → Prop} {w : World} {g : Nat} {p : Se} (h : PS F w g p) (h6 : p.st ≠ 6) :
    Calls Tryz.prog 32 #[.pointer (some ⟨g, 0, none⟩)] w (PDid F g p.reset w) := by
  obtain ⟨lv, ev, rv, bv, o, xs, h⟩ := h
  obtain ⟨c0, c1, c2, c3, c4, c5, c6, c7, c8, c9, c10, c11, fz⟩ := h.cells
  have H := Lib.hid h
  have H6 := Lib.hid h6
  have HE : Hid (min (p.st : Int) 1 = ((p.reset.st : Nat) : Int)) := Lib.hid (by simp only [Se.reset]; split <;> omega)
  clear h h6
  go_enter Tryz.func32, Tryz.ntmps32
  go_wp2
  go_end0
  rw [HE.out]
  have hA := (((((((H.out.row.put 2 (.int .i64 (p.reset.st : Int))).put 5 (.int .i64 0)).put 6 (.int .i64 0)).put 7 (.int .i64 0)).put 8 (.string { data := #[] })).put 9 (.slice none 0 0)).put 10 (.slice none 0 0)).put 11 (.int .i64 0)
  rw [cells_reset] at hA
  refine ⟨rfl, H.out.put (p' := p.reset) (lv' := lv) (rv' := nilV) (bv' := nilV) ?_ hA rfl (.inr ⟨rfl, rfl⟩) (.inr ⟨rfl, rfl⟩) (.inl ⟨rfl, rfl, ?_⟩)⟩
  · exact (((((((((Keep.refl (fun k => k = g) w).setCell (p := ⟨g, 2, none⟩) (fun _ => rfl) _).setCell (p := ⟨g, 5, none⟩) (fun _ => rfl) _).setCell (p := ⟨g, 6, none⟩) (fun _ => rfl) _).setCell (p := ⟨g, 7, none⟩) (fun _ => rfl) _).setCell (p := ⟨g, 8, none⟩) (fun _ => rfl) _).setCell (p := ⟨g, 9, none⟩) (fun _ => rfl) _).setCell (p := ⟨g, 10, none⟩) (fun _ => rfl) _).setCell (p := ⟨g, 11, none⟩) (fun _ => rfl) _)
  · have := H6.out
    simp only [Se.reset]
    split <;> omega

set_option maxHeartbeats 1000000 in
theorem pgreet {F : Nat → Prop} {w : World} {g : Nat} {p : Se} (h : PS F w g p) (hE : Env w) (h6 : p.st ≠ 6) :
    Calls Tryz.prog 113 #[.pointer (some ⟨g, 0, none⟩)] w (PDid F g (p.reset.to 1) w) := by
  have N0 := Lib.hid (PNow.start h hE)
  have H6 := Lib.hid h6
  clear h hE h6
  go_enter Tryz.func113, Tryz.ntmps113
  go_wp2_with fail
  refine (preset N0.out.rs H6.out).mono ?_
  rintro e w1 hd
  obtain ⟨rfl, F1, hN1⟩ := N0.out.did hd
  have N1 := Lib.hid hN1
  obtain ⟨_, _, c2, _, _, fz⟩ := hN1.cells
  have f2 := fz 2
  clear hd hN1 fz
  go_wp2
  go_end0
  obtain ⟨F2, hN2⟩ := N1.out.put (p' := p.reset.to 1) 2 (.int .i64 1) (fun _ _ _ _ => rfl) rfl rfl rfl rfl (by
    have := H6.out
    simp only [Se.reset, Se.to]
    split <;> omega)
  exact hN2.done

/-- A call that answers a code. -/
def PCode (F : Nat → Prop) (g : Nat) (p : Se) (c : Nat) (w : World) (e : Ending) (w' : World) : Prop :=
  e = .returned (.int .i64 (c : Int)) ∧ ∃ F', PS F' w' g p ∧ Keep F w w' ∧ More F F' w
theorem PNow.code {F F' : Nat → Prop} {w w' w'' : World} {g : Nat} {p p' : Se} {c : Nat} {e : Ending} (h : PNow F w g F' w' p) (d : PCode F' g p' c w' e w'') : e = .returned (.int .i64 (c : Int)) ∧ ∃ F'', PNow F w g F'' w'' p' := by
  obtain ⟨he, F'', h1, h2, h3⟩ := d
  exact ⟨he, F'', h.on h1 h2 h3⟩
theorem PNow.coded {F F' : Nat → Prop} {w w' : World} {g : Nat} {p : Se} {c : Nat} (h : PNow F w g F' w' p) : PCode F g p c w (.returned (.int .i64 (c : Int))) w' := ⟨rfl, F', h.rs, h.kp, h.more⟩
def Se.dataC (p : Se) : Nat := if p.st ≠ 3 then 503 else 354
def Se.dataS (p : Se) : Se := if p.st ≠ 3 then p else p.to 4
theorem data_parts (p : Se) : p.dataS.say (reply p.dataC) = p.data := by
  unfold Se.dataS Se.dataC Se.data
  split <;> rfl
set_option maxHeartbeats 1000000 in
theorem pdata {F : Nat → Prop} {w : World} {g : Nat} {p : Se} (h : PS F w g p) (hE : Env w) :
    Calls Tryz.prog 118 #[.pointer (some ⟨g, 0, none⟩)] w (PCode F g p.dataS p.dataC w) := by
  have N0 := Lib.hid (PNow.start h hE)
  obtain ⟨_, _, c2, _, _, fz⟩ := (PNow.start h hE).cells
  have f2 := fz 2
  clear h hE fz
  by_cases h3 : (p.st : Int) = 3
  · have e1 : Hid (p.dataS = p.to 4) := Lib.hid (by rw [Se.dataS, if_neg (by omega)])
    have e2 : Hid (p.dataC = 354) := Lib.hid (by rw [Se.dataC, if_neg (by omega)])
    go_enter Tryz.func118, Tryz.ntmps118
    go_wp2
    go_ret
    obtain ⟨F2, hN2⟩ := N0.out.put (p' := p.to 4) 2 (.int .i64 4) (fun _ _ _ _ => rfl) rfl rfl rfl rfl (by simp only [Se.to]; omega)
    rw [e1.out, e2.out]
    exact hN2.coded
  · have e1 : Hid (p.dataS = p) := Lib.hid (by rw [Se.dataS, if_pos (by omega)])
    have e2 : Hid (p.dataC = 503) := Lib.hid (by rw [Se.dataC, if_pos (by omega)])
    go_enter Tryz.func118, Tryz.ntmps118
    go_wp2
    go_ret
    rw [e1.out, e2.out]
    exact N0.out.coded

set_option maxHeartbeats 1000000 in
theorem pquit {F : Nat → Prop} {w : World} {g : Nat} {p : Se} (h : PS F w g p) (hE : Env w) (h6 : p.st ≠ 6) (hl : p.out.length + 2 ≤ 1000000) :
    Calls Tryz.prog 115 #[.pointer (some ⟨g, 0, none⟩)] w (PDid F g p.reset.quit w) := by
  have N0 := Lib.hid (PNow.start h hE)
  have H6 := Lib.hid h6
  clear h hE h6
  go_enter Tryz.func115, Tryz.ntmps115
  go_wp2_with fail
  refine (preset N0.out.rs H6.out).mono ?_
  rintro e w1 hd
  obtain ⟨rfl, F1, hN1⟩ := N0.out.did hd
  obtain ⟨lv, ev, rv, bv, o, xs, h1⟩ := hN1.rs
  obtain ⟨_, _, c2, c3, _, _, _, _, _, _, _, _, fz⟩ := h1.cells
  have f2 := fz 2
  have f3 := fz 3
  obtain ⟨F2, a2, b2, m2⟩ := h1.put (p' := p.reset.to 6) (lv' := .pointer none) (rv' := rv) (bv' := bv) (((Keep.refl (fun k => k = g) w1).setCell (p := ⟨g, 2, none⟩) (fun _ => rfl) (.int .i64 6)).setCell (p := ⟨g, 3, none⟩) (fun _ => rfl) (.pointer none)) ((h1.row.put 2 _).put 3 _) rfl (.inl ⟨rfl, rfl⟩) (.inl ⟨rfl, rfl⟩) (.inr ⟨rfl, rfl⟩)
  have N2 := Lib.hid (hN1.on a2 b2 m2)
  clear hd hN1 fz h1 a2 b2 m2
  go_wp2_with fail
  refine (preply N2.out.rs N2.out.env 221 (by decide) (by show p.out.length ≤ 1000000; omega)).mono ?_
  rintro e w3 hd
  obtain ⟨rfl, F3, hN3⟩ := N2.out.did hd
  have N3 := Lib.hid hN3
  clear hd hN3
  go_wp2_with fail
  refine (ptellShut N3.out.rs (by show (p.out ++ [_]).length ≤ 1000000; simp; omega)).mono ?_
  rintro e w4 hd
  obtain ⟨rfl, F4, hN4⟩ := N3.out.did hd
  have N4 := Lib.hid hN4
  clear hd hN4
  go_wp2_with fail
  go_end0
  exact N4.out.done

theorem ehlo_parts (H : ByteArray) (D : ByteArray) : (((((({ data := #[50, 53, 48, 45] } : ByteArray) ++ H) ++ ({ data := #[13, 10] } : ByteArray)) ++ ({ data := #[50, 53, 48, 45, 83, 73, 90, 69, 32] } : ByteArray)) ++ D) ++ ({ data := #[13, 10] } : ByteArray)) ++ ({ data := #[50, 53, 48, 32, 80, 73, 80, 69, 76, 73, 78, 73, 78, 71] } : ByteArray) ++ ({ data := #[13, 10] } : ByteArray) =
    { data := #[50, 53, 48, 45] } ++ H ++ { data := #[13, 10, 50, 53, 48, 45, 83, 73, 90, 69, 32] } ++ D ++ { data := #[13, 10, 50, 53, 48, 32, 80, 73, 80, 69, 76, 73, 78, 73, 78, 71, 13, 10] } := by
  apply ByteArray.ext
  apply Array.ext'
  simp
set_option maxHeartbeats 4000000 in
set_option maxRecDepth 100000 in
theorem poffer {F : Nat → Prop} {w : World} {g : Nat} {p : Se} (h : PS F w g p) (hE : Env w) (hz : p.size ≤ 8192) (hh : p.host.size ≤ 100000) :
    Calls Tryz.prog 114 #[.pointer (some ⟨g, 0, none⟩)] w fun e w' => e = .returned (.string (ehlo p.host p.size)) ∧ Keep (fun _ => False) w w' := by
  have N0 := Lib.hid (PNow.start h hE)
  obtain ⟨e0, e1, _, _, _, _⟩ := (PNow.start h hE).cells
  have HI := Lib.hid (fun W e => itoaC p.size (by omega) W e)
  have hd := dig_size p.size (by omega)
  have HP := Lib.hid (ehlo_parts p.host (str (dig p.size)))
  obtain ⟨D, hD⟩ : ∃ D, D = str (dig p.size) := ⟨_, rfl⟩
  rw [← hD] at HI hd HP
  have HD := Lib.hid hD
  clear h hE hD
  have hq1 : ¬ (9223372036854775807 < 4 + p.host.size) := by omega
  have hq2 : ¬ (9223372036854775807 < 4 + p.host.size + 2) := by omega
  have hq3 : ¬ (9223372036854775807 < 4 + p.host.size + 2 + 9) := by omega
  have hq4 : ¬ (9223372036854775807 < 4 + p.host.size + 2 + 9 + D.size) := by omega
  have hq5 : ¬ (9223372036854775807 < 4 + p.host.size + 2 + 9 + D.size + 2) := by omega
  have hq6 : ¬ (9223372036854775807 < 4 + p.host.size + 2 + 9 + D.size + 2 + 14) := by omega
  have hq7 : ¬ (9223372036854775807 < 4 + p.host.size + 2 + 9 + D.size + 2 + 14 + 2) := by omega
  go_enter Tryz.func114, Tryz.ntmps114
  go_wp2_with fail
  refine wp_region_noPanic ?_
  refine wp_region_held_drew (S := fun w' => w'.cell? ⟨g, 0, none⟩ = some (.string p.host) ∧ w'.cell? ⟨g, 1, none⟩ = some (.int .i64 (p.size : Int))) (by kernel_rfl) ⟨e0, e1⟩ (fun hHeld => ?_)
  refine wpAnyH_take (i := 0) (v := ?_) rfl (by kernel_rfl) (by kernel_rfl) (by kernel_rfl) (fun _ _ _ h => h) (Or.inl ⟨by rfl, ?_⟩) (by assumption) ?_
  rotate_left
  · (intro wS hSw; (try dsimp only at hSw); obtain ⟨hS1, hS2⟩ := hSw; (try simp only [List.getElem_toArray, List.getElem_cons_succ, List.getElem_cons_zero]); go_simp; try (with_reducible rfl))
  try simp only [Act.put, List.getElem_toArray, List.getElem_cons_succ, List.getElem_cons_zero, List.setIfInBounds_toArray, List.set_cons_zero, List.set_cons_succ]
  refine wpAnyH_take (i := 1) (v := ?_) rfl (by kernel_rfl) (by kernel_rfl) (by kernel_rfl) (fun _ _ _ h => h) (Or.inl ⟨by rfl, ?_⟩) (by assumption) ?_
  rotate_left
  · (intro wS hSw; (try dsimp only at hSw); obtain ⟨hS1, hS2⟩ := hSw; (try simp only [List.getElem_toArray, List.getElem_cons_succ, List.getElem_cons_zero]); go_simp; try (with_reducible rfl))
  try simp only [Act.put, List.getElem_toArray, List.getElem_cons_succ, List.getElem_cons_zero, List.setIfInBounds_toArray, List.set_cons_zero, List.set_cons_succ]
  refine wpAnyH_take (i := 2) (v := ?_) rfl (by kernel_rfl) (by kernel_rfl) (by kernel_rfl) (fun _ _ _ h => h) (Or.inl ⟨by rfl, ?_⟩) (by assumption) ?_
  rotate_left
  · (intro wS hSw; (try dsimp only at hSw); obtain ⟨hS1, hS2⟩ := hSw; (try simp only [List.getElem_toArray, List.getElem_cons_succ, List.getElem_cons_zero]); go_simp; try (with_reducible rfl))
  try simp only [Act.put, List.getElem_toArray, List.getElem_cons_succ, List.getElem_cons_zero, List.setIfInBounds_toArray, List.set_cons_zero, List.set_cons_succ]
  refine wpAnyH_take (i := 3) (v := ?_) rfl (by kernel_rfl) (by kernel_rfl) (by kernel_rfl) (fun _ _ _ h => h) (Or.inl ⟨by rfl, ?_⟩) (by assumption) ?_
  rotate_left
  · (intro wS hSw; (try dsimp only at hSw); obtain ⟨hS1, hS2⟩ := hSw; (try simp only [List.getElem_toArray, List.getElem_cons_succ, List.getElem_cons_zero]); go_simp; try (with_reducible rfl))
  try simp only [Act.put, List.getElem_toArray, List.getElem_cons_succ, List.getElem_cons_zero, List.setIfInBounds_toArray, List.set_cons_zero, List.set_cons_succ]
  refine wpAnyH_take (i := 4) (v := ?_) rfl (by kernel_rfl) (by kernel_rfl) (by kernel_rfl) (fun _ _ _ h => h) (Or.inl ⟨by rfl, ?_⟩) (by assumption) ?_
  rotate_left
  · (intro wS hSw; (try dsimp only at hSw); obtain ⟨hS1, hS2⟩ := hSw; (try simp only [List.getElem_toArray, List.getElem_cons_succ, List.getElem_cons_zero]); go_simp; try (with_reducible rfl))
  try simp only [Act.put, List.getElem_toArray, List.getElem_cons_succ, List.getElem_cons_zero, List.setIfInBounds_toArray, List.set_cons_zero, List.set_cons_succ]
  refine wpAnyH_take (i := 5) (v := ?_) rfl (by kernel_rfl) (by kernel_rfl) (by kernel_rfl) (fun _ _ _ h => h) (Or.inl ⟨by rfl, ?_⟩) (by assumption) ?_
  rotate_left
  · (intro wS hSw; (try dsimp only at hSw); obtain ⟨hS1, hS2⟩ := hSw; (try simp only [List.getElem_toArray, List.getElem_cons_succ, List.getElem_cons_zero]); go_simp; try (with_reducible rfl))
  try simp only [Act.put, List.getElem_toArray, List.getElem_cons_succ, List.getElem_cons_zero, List.setIfInBounds_toArray, List.set_cons_zero, List.set_cons_succ]
  refine wpAnyH_take (i := 6) (v := ?_) rfl (by kernel_rfl) (by kernel_rfl) (by kernel_rfl) (fun _ _ _ h => h) (Or.inl ⟨by rfl, ?_⟩) (by assumption) ?_
  rotate_left
  · (intro wS hSw; (try dsimp only at hSw); obtain ⟨hS1, hS2⟩ := hSw; (try simp only [List.getElem_toArray, List.getElem_cons_succ, List.getElem_cons_zero]); go_simp; try (with_reducible rfl))
  try simp only [Act.put, List.getElem_toArray, List.getElem_cons_succ, List.getElem_cons_zero, List.setIfInBounds_toArray, List.set_cons_zero, List.set_cons_succ]
  refine wpAnyH_take (i := 7) (v := ?_) rfl (by kernel_rfl) (by kernel_rfl) (by kernel_rfl) (fun _ _ _ h => h) (Or.inl ⟨by rfl, ?_⟩) (by assumption) ?_
  rotate_left
  · (intro wS hSw; (try dsimp only at hSw); obtain ⟨hS1, hS2⟩ := hSw; (try simp only [List.getElem_toArray, List.getElem_cons_succ, List.getElem_cons_zero]); go_simp; try (with_reducible rfl))
  try simp only [Act.put, List.getElem_toArray, List.getElem_cons_succ, List.getElem_cons_zero, List.setIfInBounds_toArray, List.set_cons_zero, List.set_cons_succ]
  refine wpAnyH_take (i := 8) (v := ?_) rfl (by kernel_rfl) (by kernel_rfl) (by kernel_rfl) (fun _ _ _ h => h) (Or.inl ⟨by rfl, ?_⟩) (by assumption) ?_
  rotate_left
  · (intro wS hSw; (try dsimp only at hSw); obtain ⟨hS1, hS2⟩ := hSw; (try simp only [List.getElem_toArray, List.getElem_cons_succ, List.getElem_cons_zero]); go_simp; try (with_reducible rfl))
  try simp only [Act.put, List.getElem_toArray, List.getElem_cons_succ, List.getElem_cons_zero, List.setIfInBounds_toArray, List.set_cons_zero, List.set_cons_succ]
  refine wpAnyH_take (i := 9) (v := ?_) rfl (by kernel_rfl) (by kernel_rfl) (by kernel_rfl) (fun _ _ _ h => h) (Or.inl ⟨by rfl, ?_⟩) (by assumption) ?_
  rotate_left
  · (intro wS hSw; (try dsimp only at hSw); obtain ⟨hS1, hS2⟩ := hSw; (try simp only [List.getElem_toArray, List.getElem_cons_succ, List.getElem_cons_zero]); go_simp; try (with_reducible rfl))
  try simp only [Act.put, List.getElem_toArray, List.getElem_cons_succ, List.getElem_cons_zero, List.setIfInBounds_toArray, List.set_cons_zero, List.set_cons_succ]
  refine wpAnyH_take (i := 10) (v := ?_) rfl (by kernel_rfl) (by kernel_rfl) (by kernel_rfl) (fun _ _ _ h => h) (Or.inl ⟨by rfl, ?_⟩) (by assumption) ?_
  rotate_left
  · (intro wS hSw; (try dsimp only at hSw); obtain ⟨hS1, hS2⟩ := hSw; (try simp only [List.getElem_toArray, List.getElem_cons_succ, List.getElem_cons_zero]); go_simp; try (with_reducible rfl))
  try simp only [Act.put, List.getElem_toArray, List.getElem_cons_succ, List.getElem_cons_zero, List.setIfInBounds_toArray, List.set_cons_zero, List.set_cons_succ]
  refine wpAnyH_ready (rs := [11]) (by kernel_rfl) (by simp) ?_
  refine AllReadyH.cons rfl (fun K hK => ?_) AllReadyH.nil
  go_simp
  refine (HI.out _ (N0.out.env.quiet ((Keep.refl (fun _ => False) w).drew))).mono ?_
  rintro e w4 ⟨rfl, hk4⟩
  have HK4 := Lib.hid (((Keep.refl (fun _ => False) w).drew).trans hk4 (fun _ _ h => h))
  have e04 := HK4.out.cell e0 (fun h => h)
  have e14 := HK4.out.cell e1 (fun h => h)
  clear hk4
  go_wp2_with fail
  refine hK.out _ _ ⟨e04, e14⟩ (fun hHeld => ?_)
  clear hK K
  try simp only [Act.put, List.getElem_toArray, List.getElem_cons_succ, List.getElem_cons_zero, List.setIfInBounds_toArray, List.set_cons_zero, List.set_cons_succ]
  refine wpAnyH_take (i := 12) (v := ?_) rfl (by kernel_rfl) (by kernel_rfl) (by kernel_rfl) (fun _ _ _ h => h) (Or.inl ⟨by rfl, ?_⟩) (by assumption) ?_
  rotate_left
  · (intro wS hSw; (try dsimp only at hSw); obtain ⟨hS1, hS2⟩ := hSw; (try simp only [List.getElem_toArray, List.getElem_cons_succ, List.getElem_cons_zero]); go_simp; try (with_reducible rfl))
  try simp only [Act.put, List.getElem_toArray, List.getElem_cons_succ, List.getElem_cons_zero, List.setIfInBounds_toArray, List.set_cons_zero, List.set_cons_succ]
  refine wpAnyH_take (i := 13) (v := ?_) rfl (by kernel_rfl) (by kernel_rfl) (by kernel_rfl) (fun _ _ _ h => h) (Or.inl ⟨by rfl, ?_⟩) (by assumption) ?_
  rotate_left
  · (intro wS hSw; (try dsimp only at hSw); obtain ⟨hS1, hS2⟩ := hSw; (try simp only [List.getElem_toArray, List.getElem_cons_succ, List.getElem_cons_zero]); go_simp; try (with_reducible rfl))
  try simp only [Act.put, List.getElem_toArray, List.getElem_cons_succ, List.getElem_cons_zero, List.setIfInBounds_toArray, List.set_cons_zero, List.set_cons_succ]
  refine wpAnyH_take (i := 14) (v := ?_) rfl (by kernel_rfl) (by kernel_rfl) (by kernel_rfl) (fun _ _ _ h => h) (Or.inl ⟨by rfl, ?_⟩) (by assumption) ?_
  rotate_left
  · (intro wS hSw; (try dsimp only at hSw); obtain ⟨hS1, hS2⟩ := hSw; (try simp only [List.getElem_toArray, List.getElem_cons_succ, List.getElem_cons_zero]); go_simp; try (with_reducible rfl))
  try simp only [Act.put, List.getElem_toArray, List.getElem_cons_succ, List.getElem_cons_zero, List.setIfInBounds_toArray, List.set_cons_zero, List.set_cons_succ]
  refine wpAnyH_take (i := 15) (v := ?_) rfl (by kernel_rfl) (by kernel_rfl) (by kernel_rfl) (fun _ _ _ h => h) (Or.inl ⟨by rfl, ?_⟩) (by assumption) ?_
  rotate_left
  · (intro wS hSw; (try dsimp only at hSw); obtain ⟨hS1, hS2⟩ := hSw; (try simp only [List.getElem_toArray, List.getElem_cons_succ, List.getElem_cons_zero]); go_simp; try (with_reducible rfl))
  try simp only [Act.put, List.getElem_toArray, List.getElem_cons_succ, List.getElem_cons_zero, List.setIfInBounds_toArray, List.set_cons_zero, List.set_cons_succ]
  refine wpAnyH_take (i := 16) (v := ?_) rfl (by kernel_rfl) (by kernel_rfl) (by kernel_rfl) (fun _ _ _ h => h) (Or.inl ⟨by rfl, ?_⟩) (by assumption) ?_
  rotate_left
  · (intro wS hSw; (try dsimp only at hSw); obtain ⟨hS1, hS2⟩ := hSw; (try simp only [List.getElem_toArray, List.getElem_cons_succ, List.getElem_cons_zero]); go_simp; try (with_reducible rfl))
  try simp only [Act.put, List.getElem_toArray, List.getElem_cons_succ, List.getElem_cons_zero, List.setIfInBounds_toArray, List.set_cons_zero, List.set_cons_succ]
  refine wpAnyH_done (by kernel_rfl) ?_ _
  refine NoPanic.normal ?_
  go_wp2
  go_ret
  refine ⟨?_, HK4.out⟩
  rw [ehlo, ← HD.out, ← HP.out]
  rfl

/-! ### MAIL and RCPT -/
def Se.mailC (p : Se) (z : Int) : Nat := if p.st ≠ 1 then 503 else if (p.size : Int) < z then 552 else 250
def Se.mailS (p : Se) (a : ByteArray) (z : Int) : Se := if p.st ≠ 1 then p else if (p.size : Int) < z then p else { p with st := 2, frm := a }
theorem mail_parts (p : Se) (v : VC) : (p.mailS v.arg v.size).say (reply (p.mailC v.size)) = p.mail v := by
  unfold Se.mailS Se.mailC Se.mail
  split; · rfl
  split <;> rfl
def verbV (n a : ByteArray) (z : Int) : Value := .agg #[.string n, .string a, .int .i64 z]
set_option maxHeartbeats 4000000 in
theorem psender {F : Nat → Prop} {w : World} {g : Nat} {p : Se} (h : PS F w g p) (hE : Env w) (n a : ByteArray) (z : Int) :
    Calls Tryz.prog 116 #[.pointer (some ⟨g, 0, none⟩), verbV n a z] w (PCode F g (p.mailS a z) (p.mailC z) w) := by
  unfold verbV
  have hk1 : Keep (fun _ => False) w (w.alloc (.cells #[.string n, .string a, .int .i64 z] 58)) := (Keep.refl (fun _ => False) w).alloc _
  have N1 := Lib.hid ((PNow.start h hE).quiet hk1)
  obtain ⟨_, c1, c2, c8, _, fz⟩ := N1.out.cells
  have f2 := fz 2
  have f8 := fz 8
  have hA1 : At (w.alloc (.cells #[.string n, .string a, .int .i64 z] 58)) w.heap.size 58 #[.string n, .string a, .int .i64 z] := At.new _ _ _
  have v1 := hA1.cell 1
  have v2 := hA1.cell 2
  simp at v1 v2
  clear h hE fz hk1 hA1
  by_cases h1 : (p.st : Int) = 1
  · by_cases h2 : (p.size : Int) < z
    · have e1 : Hid (p.mailS a z = p) := Lib.hid (by rw [Se.mailS, if_neg (by omega), if_pos h2])
      have e2 : Hid (p.mailC z = 552) := Lib.hid (by rw [Se.mailC, if_neg (by omega), if_pos h2])
      go_enter Tryz.func116, Tryz.ntmps116
      go_wp2
      go_quiet (fail)
      go_wp2
      go_ret
      rw [e1.out, e2.out]
      exact (N1.out.quiet ((Keep.refl (fun _ => False) _).drewN _)).coded
    · have e1 : Hid (p.mailS a z = { p with st := 2, frm := a }) := Lib.hid (by rw [Se.mailS, if_neg (by omega), if_neg h2])
      have e2 : Hid (p.mailC z = 250) := Lib.hid (by rw [Se.mailC, if_neg (by omega), if_neg h2])
      have HST := Lib.hid h1
      go_enter Tryz.func116, Tryz.ntmps116
      go_wp2
      go_quiet (fail)
      go_wp2
      go_ret
      obtain ⟨F2, hN2⟩ := (N1.out.quiet ((Keep.refl (fun _ => False) _).drewN _)).put (p' := { p with frm := a }) 8 (.string a) (fun _ _ _ _ => rfl) rfl rfl rfl rfl Iff.rfl
      obtain ⟨F3, hN3⟩ := hN2.put (p' := { p with frm := a, st := 2 }) 2 (.int .i64 2) (fun _ _ _ _ => rfl) rfl rfl rfl rfl (by have := HST.out; simp only; omega)
      rw [e1.out, e2.out]
      exact hN3.coded
  · have e1 : Hid (p.mailS a z = p) := Lib.hid (by rw [Se.mailS, if_pos (by omega)])
    have e2 : Hid (p.mailC z = 503) := Lib.hid (by rw [Se.mailC, if_pos (by omega)])
    go_enter Tryz.func116, Tryz.ntmps116
    go_wp2
    go_ret
    rw [e1.out, e2.out]
    exact N1.out.coded
end Go.Proofs.YtcjljldknekhiaaGreatDoor.Ln
