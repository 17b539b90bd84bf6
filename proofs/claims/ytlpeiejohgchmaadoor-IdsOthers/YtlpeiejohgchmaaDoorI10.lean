/-
  Stage 13: Last, none of an Ids, and the raising.
-/
import Derived.Test.YtlpeiejohgchmaaDoorI4
import Derived.Laws.Strings
import Derived.Deep.Cut
import Derived.Laws.Runes
namespace Go.Proofs.YtlpeiejohgchmaaDoor.Fs
open Go.RowKit Go.Shelf Go.Maps
set_option linter.unusedVariables false
set_option linter.unusedSimpArgs false

def hasT (x : Ix) : ByteArray := if x.has then sN x.most else { data := #[] }
theorem lastNoneC : LastNoneC := fun w => by
  go_enter Tryd.func15, Tryd.ntmps15
  go_wp2
  go_ret
  exact ⟨rfl, rfl⟩
theorem nextNoneC : NextNoneC := fun w => by
  go_enter Tryd.func14, Tryd.ntmps14
  go_wp2
  go_ret2
  exact ⟨rfl, Keep.refl _ _⟩
theorem lastC : LastC := fun base w f X s x h => by
  obtain ⟨S, h1, h2, h3, h4, ⟨h5, _⟩, _⟩ := h
  have x1 := At.cell h5 1
  simp [idsC] at x1
  clear h1 h3 h4 h5
  go_enter Tryd.func15, Tryd.ntmps15
  go_wp2
  go_ret
  exact ⟨rfl, rfl⟩
section
variable {base f X : Nat} {w w' : World} {s t : St} {x y : Ix}
/-- The Ids' own cells turn, its disk stands. -/
theorem Sys.cells (h : Sys base w f X s x) (k : Keep (fun b => b = X) w w') (hx : XA w' f X y) : Sys base w' f X s y ∧ Below base w w' := by
  obtain ⟨S, h1, h2, h3, h4, h5, h6⟩ := h
  exact ⟨⟨S, fun b hb => ⟨(h1 b hb).1, Nat.lt_of_lt_of_le (h1 b hb).2 k.size⟩, h2, h3, h4.keep k (fun b hb e => h3 (e ▸ hb)), hx, h6.keep k (fun b e => by rw [e]; exact h2)⟩, k.below (by have := h5.lt; omega) fun b e => by rw [e]; exact h2⟩
theorem sCreate (A : ByteArray) (hA : A.size ≤ 9223372036854775807) (h : Sys base w f X s x) (hb : s.bulk + 2 ≤ 1000000) : Calls Tryd.prog 18 #[.pointer (some ⟨f, 0, none⟩), .string A] w fun e w' => e = .returned (.int .i64 (createE s (nm A) : Nat)) ∧ Sys base w' f X (createS s (nm A)) x ∧ Below base w w' := by
  obtain ⟨S, h1, h2, h3, h4, h5, h6⟩ := h
  exact (create f S s A hA hb w h4).mono fun e w' ⟨e1, d1, k1⟩ => ⟨e1, Sys.turned h1 h2 h3 h5 h6 d1 k1⟩
theorem sUnlink (A : ByteArray) (hA : A.size ≤ 9223372036854775807) (h : Sys base w f X s x) (hb : s.bulk + 2 ≤ 1000000) : Calls Tryd.prog 36 #[.pointer (some ⟨f, 0, none⟩), .string A] w fun e w' => e = .returned (.int .i64 (unlinkE s (nm A) : Nat)) ∧ Sys base w' f X (unlinkS s (nm A)) x ∧ Below base w w' := by
  obtain ⟨S, h1, h2, h3, h4, h5, h6⟩ := h
  exact (unlink f S s A hA hb w h4).mono fun e w' ⟨e1, d1, k1⟩ => ⟨e1, Sys.turned h1 h2 h3 h5 h6 d1 k1⟩
theorem sDirSync (h : Sys base w f X s x) : Calls Tryd.prog 35 #[.pointer (some ⟨f, 0, none⟩)] w fun e w' => e = .returned (.int .i64 (dirSyncE s : Nat)) ∧ Sys base w' f X (dirSyncS s) x ∧ Below base w w' := by
  obtain ⟨S, h1, h2, h3, h4, h5, h6⟩ := h
  exact (dirSync f S s w h4).mono fun e w' ⟨e1, d1, k1⟩ => ⟨e1, Sys.turned h1 h2 h3 h5 h6 d1 k1⟩
theorem sDown (h : Sys base w f X s x) : Calls Tryd.prog 21 #[.pointer (some ⟨f, 0, none⟩)] w fun e w' => e = .returned (.bool s.down) ∧ w = w' := by
  obtain ⟨S, h1, h2, h3, h4, h5, h6⟩ := h
  exact down f S s w h4
theorem Sys.xa (h : Sys base w f X s x) : At w X 50 (idsC f x.last x.most (hasT x)) := by
  obtain ⟨S, h1, h2, h3, h4, h5, h6⟩ := h
  exact h5.1
theorem Sys.top (h : Sys base w f X s x) : x.last ≤ 999999999 := by
  obtain ⟨S, h1, h2, h3, h4, h5, h6⟩ := h
  exact h5.2
end
/-- The greatest file has turned. -/
theorem sys_set {base f X m : Nat} {w w' : World} {s : St} {x : Ix} (h : Sys base w' f X s x) (hb : Below base w w') :
    Sys base ((w'.setCell ⟨X, 2, none⟩ (.int .i64 (m : Int))).setCell ⟨X, 3, none⟩ (.string (sN m))) f X s ⟨x.last, m, true⟩ ∧ Below base w ((w'.setCell ⟨X, 2, none⟩ (.int .i64 (m : Int))).setCell ⟨X, 3, none⟩ (.string (sN m))) := by
  have k : Keep (fun b => b = X) w' ((w'.setCell ⟨X, 2, none⟩ (.int .i64 (m : Int))).setCell ⟨X, 3, none⟩ (.string (sN m))) := ((Keep.refl (fun b => b = X) w').setCell (p := ⟨X, 2, none⟩) (fun _ => rfl) _).setCell (p := ⟨X, 3, none⟩) (fun _ => rfl) _
  obtain ⟨h1, h2⟩ := h.cells k (y := ⟨x.last, m, true⟩) ⟨(At.put h.xa 2 (.int .i64 (m : Int))).put 3 (.string (sN m)), h.top⟩
  exact ⟨h1, hb.trans h2⟩
theorem bulk_create (s : St) (a : Nm) : (createS s a).bulk ≤ s.bulk + 2 := by
  by_cases he : createE s a = 0
  · obtain ⟨h0, h1, h2, h3⟩ := create_ok he
    rw [createS_ok he]
    have e1 := chg_files (s := { s with files := s.files ++ [⟨[], 0⟩] }) (c := .mk a s.files.length)
    have e2 := chg_loose (s := { s with files := s.files ++ [⟨[], 0⟩] }) (c := .mk a s.files.length) h3
    have e3 : (chgS { s with files := s.files ++ [⟨[], 0⟩] } (.mk a s.files.length)).sure = s.sure := by
      unfold chgS
      rw [if_pos (by exact h3)]
      show (burnS _).sure = s.sure
      rw [burn_sure]
    unfold St.bulk
    rw [e1, e2, e3]
    simp
    omega
  · rcases createS_no he with e | ⟨e, _⟩ <;> rw [e]
    · omega
    · unfold St.bulk
      rw [burn_files', burn_sure, burn_loose]
      omega
theorem bulk_sync (s : St) : (dirSyncS s).bulk ≤ s.bulk := by
  unfold dirSyncS
  split
  · exact Nat.le_refl _
  · split
    · have h1 := length_apps_le (burnS s).loose (burnS s).sure
      show (burnS s).files.length + (((burnS s).loose.take s.loose.length).foldl app (burnS s).sure).length + 0 ≤ s.bulk
      rw [burn_loose, List.take_length, burn_files', burn_sure]
      rw [burn_loose, burn_sure] at h1
      unfold St.bulk
      omega
    · unfold St.bulk
      rw [burn_files', burn_sure, burn_loose]
      exact Nat.le_refl _
set_option maxRecDepth 100000 in
set_option maxHeartbeats 8000000 in
/-- The raising: what it makes of the disk; the Ids' two cells where the new file is sure. -/
theorem raiseC (base : Nat) (w : World) (f X : Nat) (s : St) (x : Ix) (h : Sys base w f X s x) (hb : s.bulk + 4 ≤ 1000000) :
    Calls Tryd.prog 23 #[.pointer (some ⟨X, 0, none⟩)] w fun e w' => e = .returned (.int .i64 (raiseE s x : Nat)) ∧ Sys base w' f X (raiseS s x) (upX s x) ∧ Below base w w' := by
  have hu : upN x ≤ 999999999 := Nat.min_le_right _ _
  have hx0 := At.cell h.xa 0
  have hx1 := At.cell h.xa 1
  have hx3 := At.cell h.xa 3
  simp [idsC] at hx0 hx1 hx3
  have hnm : nm (sN (upN x)) = nameN (upN x) := nm_sN _
  have hnm2 : nm (sN x.most) = nameN x.most := nm_sN _
  have hmin : min ((x.last : Int) + 16) 999999999 = ((upN x : Nat) : Int) := by unfold upN topN; omega
  obtain ⟨m, hm⟩ : ∃ m, m = upN x := ⟨_, rfl⟩
  rw [← hm] at hu hnm hmin
  obtain ⟨y, hy⟩ : ∃ y, y = upX s x := ⟨_, rfl⟩
  rw [← hy]
  obtain ⟨RE, hRE⟩ : ∃ r, r = raiseE s x := ⟨_, rfl⟩
  obtain ⟨RS, hRS⟩ : ∃ r, r = raiseS s x := ⟨_, rfl⟩
  rw [← hRE, ← hRS]
  obtain ⟨l, hl⟩ : ∃ l : Int, l = (x.last : Int) := ⟨_, rfl⟩
  rw [← hl] at hx1 hmin
  have hl0 : 0 ≤ l := by omega
  have hl9 : l ≤ 999999999 := by have := h.top; omega
  obtain ⟨T, hT⟩ : ∃ T, T = hasT x := ⟨_, rfl⟩
  rw [← hT] at hx3
  have HY := Lib.hid hy
  have HRE := Lib.hid hRE
  have HRS := Lib.hid hRS
  have HS := Lib.hid h
  have HM := Lib.hid hm
  have HNM := Lib.hid hnm
  have HNM2 := Lib.hid hnm2
  have HMIN := Lib.hid hmin
  have HT := Lib.hid hT
  have HLl := Lib.hid hl
  have HBU := Lib.hid hb
  have HSZ := Lib.hid h.size
  have hm9 : (m : Int) ≤ 999999999 := by omega
  clear h hm hnm hnm2 hy hRE hRS hmin hT hl hu hb
  go_enter Tryd.func23, Tryd.ntmps23
  go_wp2_with fail
  have kD : Keep (fun _ => False) w w.drew := (Keep.refl _ w).drew
  have HKD := Lib.hid kD
  refine wp_region_noPanic ?_
  refine wp_region_held_drew (S := fun Z => Z.cell? ⟨X, 1, none⟩ = some (.int .i64 l) ∧ Z.cell? ⟨X, 3, none⟩ = some (.string T)) (by kernel_rfl) ⟨kD.cell hx1 (fun h => h), kD.cell hx3 (fun h => h)⟩ (fun hHeld => ?_)
  refine wpAnyH_take (i := 0) (v := ?_) rfl (by kernel_rfl) (by kernel_rfl) (by kernel_rfl) (fun _ _ _ h => h) (Or.inl ⟨by rfl, ?_⟩) (by assumption) ?_
  rotate_left
  · (intro wS hSw; (try dsimp only at hSw); obtain ⟨hS1, hS2⟩ := hSw; (try simp only [List.getElem_toArray, List.getElem_cons_succ, List.getElem_cons_zero]); go_simp; try (with_reducible rfl))
  try simp only [Act.put, List.getElem_toArray, List.getElem_cons_succ, List.getElem_cons_zero, List.setIfInBounds_toArray, List.set_cons_zero, List.set_cons_succ]
  refine wpAnyH_take (i := 1) (v := ?_) rfl (by kernel_rfl) (by kernel_rfl) (by kernel_rfl) (fun _ _ _ h => h) (Or.inl ⟨by rfl, ?_⟩) (by assumption) ?_
  rotate_left
  · (intro wS hSw; (try dsimp only at hSw); obtain ⟨hS1, hS2⟩ := hSw; (try simp only [List.getElem_toArray, List.getElem_cons_succ, List.getElem_cons_zero]); go_simp; try (with_reducible rfl))
  try simp only [Act.put, List.getElem_toArray, List.getElem_cons_succ, List.getElem_cons_zero, List.setIfInBounds_toArray, List.set_cons_zero, List.set_cons_succ]
  refine wpAnyH_take (i := 2) (v := ?_) rfl (by kernel_rfl) (by kernel_rfl) (by kernel_rfl) (fun _ _ _ h => h) (Or.inl ⟨by rfl, ?_⟩) (by assumption) ?_
  rotate_left
  · (intro wS hSw; (try dsimp only at hSw); obtain ⟨hS1, hS2⟩ := hSw; (try simp only [List.getElem_toArray, List.getElem_cons_succ, List.getElem_cons_zero]); go_simp; try (with_reducible rfl))
  try simp only [Act.put, List.getElem_toArray, List.getElem_cons_succ, List.getElem_cons_zero, List.setIfInBounds_toArray, List.set_cons_zero, List.set_cons_succ]
  refine wpAnyH_take (i := 3) (v := ?_) rfl (by kernel_rfl) (by kernel_rfl) (by kernel_rfl) (fun _ _ _ h => h) (Or.inl ⟨by rfl, ?_⟩) (by assumption) ?_
  rotate_left
  · (intro wS hSw; (try dsimp only at hSw); obtain ⟨hS1, hS2⟩ := hSw; (try simp only [List.getElem_toArray, List.getElem_cons_succ, List.getElem_cons_zero]); go_simp; try (with_reducible rfl))
  try simp only [Act.put, List.getElem_toArray, List.getElem_cons_succ, List.getElem_cons_zero, List.setIfInBounds_toArray, List.set_cons_zero, List.set_cons_succ]
  refine wpAnyH_take (i := 4) (v := ?_) rfl (by kernel_rfl) (by kernel_rfl) (by kernel_rfl) (fun _ _ _ h => h) (Or.inl ⟨by rfl, ?_⟩) (by assumption) ?_
  rotate_left
  · (intro wS hSw; (try dsimp only at hSw); obtain ⟨hS1, hS2⟩ := hSw; (try simp only [List.getElem_toArray, List.getElem_cons_succ, List.getElem_cons_zero]); go_simp; try (with_reducible rfl))
  try simp only [Act.put, List.getElem_toArray, List.getElem_cons_succ, List.getElem_cons_zero, List.setIfInBounds_toArray, List.set_cons_zero, List.set_cons_succ]
  refine wpAnyH_take (i := 5) (v := ?_) rfl (by kernel_rfl) (by kernel_rfl) (by kernel_rfl) (fun _ _ _ h => h) (Or.inl ⟨by rfl, ?_⟩) (by assumption) ?_
  rotate_left
  · (intro wS hSw; (try dsimp only at hSw); obtain ⟨hS1, hS2⟩ := hSw; (try simp only [List.getElem_toArray, List.getElem_cons_succ, List.getElem_cons_zero]); go_simp; try (with_reducible rfl))
  try simp only [Act.put, List.getElem_toArray, List.getElem_cons_succ, List.getElem_cons_zero, List.setIfInBounds_toArray, List.set_cons_zero, List.set_cons_succ]
  refine wpAnyH_take (i := 6) (v := ?_) rfl (by kernel_rfl) (by kernel_rfl) (by kernel_rfl) (fun _ _ _ h => h) (Or.inl ⟨by rfl, ?_⟩) (by assumption) ?_
  rotate_left
  · (intro wS hSw; (try dsimp only at hSw); obtain ⟨hS1, hS2⟩ := hSw; (try simp only [List.getElem_toArray, List.getElem_cons_succ, List.getElem_cons_zero]); go_simp; try (with_reducible rfl))
  try simp only [Act.put, List.getElem_toArray, List.getElem_cons_succ, List.getElem_cons_zero, List.setIfInBounds_toArray, List.set_cons_zero, List.set_cons_succ]
  refine wpAnyH_take (i := 7) (v := ?_) rfl (by kernel_rfl) (by kernel_rfl) (by kernel_rfl) (fun _ _ _ h => h) (Or.inl ⟨by rfl, ?_⟩) (by assumption) ?_
  rotate_left
  · (intro wS hSw; (try dsimp only at hSw); obtain ⟨hS1, hS2⟩ := hSw; (try simp only [List.getElem_toArray, List.getElem_cons_succ, List.getElem_cons_zero]); go_simp; try (with_reducible rfl))
  try simp only [Act.put, List.getElem_toArray, List.getElem_cons_succ, List.getElem_cons_zero, List.setIfInBounds_toArray, List.set_cons_zero, List.set_cons_succ]
  refine wpAnyH_take (i := 8) (v := ?_) rfl (by kernel_rfl) (by kernel_rfl) (by kernel_rfl) (fun _ _ _ h => h) (Or.inl ⟨by rfl, ?_⟩) (by assumption) ?_
  rotate_left
  · (intro wS hSw; (try dsimp only at hSw); obtain ⟨hS1, hS2⟩ := hSw; (try simp only [List.getElem_toArray, List.getElem_cons_succ, List.getElem_cons_zero]); go_simp; try (with_reducible rfl))
  try simp only [Act.put, List.getElem_toArray, List.getElem_cons_succ, List.getElem_cons_zero, List.setIfInBounds_toArray, List.set_cons_zero, List.set_cons_succ]
  have hw16 : min (IntKind.i64.wrap (l + 16)) 999999999 = (m : Int) := by
    have e : IntKind.i64.wrap (l + 16) = l + 16 := wrap_small _ (by omega) (by omega)
    rw [e]
    exact HMIN.out
  refine wpAnyH_take (i := 9) (v := ?_) rfl (by kernel_rfl) (by kernel_rfl) (by kernel_rfl) (fun _ _ _ h => h) (Or.inl ⟨by rfl, ?_⟩) (by assumption) ?_
  rotate_left
  · (intro wS hSw; (try dsimp only at hSw); obtain ⟨hS1, hS2⟩ := hSw; (try simp only [List.getElem_toArray, List.getElem_cons_succ, List.getElem_cons_zero]); go_simp; try (with_reducible rfl))
  try simp only [Act.put, List.getElem_toArray, List.getElem_cons_succ, List.getElem_cons_zero, List.setIfInBounds_toArray, List.set_cons_zero, List.set_cons_succ]
  (try rw [hw16])
  refine wpAnyH_take (i := 10) (v := ?_) rfl (by kernel_rfl) (by kernel_rfl) (by kernel_rfl) (fun _ _ _ h => h) (Or.inl ⟨by rfl, ?_⟩) (by assumption) ?_
  rotate_left
  · (intro wS hSw; (try dsimp only at hSw); obtain ⟨hS1, hS2⟩ := hSw; (try simp only [List.getElem_toArray, List.getElem_cons_succ, List.getElem_cons_zero]); go_simp; try (with_reducible rfl))
  try simp only [Act.put, List.getElem_toArray, List.getElem_cons_succ, List.getElem_cons_zero, List.setIfInBounds_toArray, List.set_cons_zero, List.set_cons_succ]
  refine wpAnyH_take (i := 11) (v := ?_) rfl (by kernel_rfl) (by kernel_rfl) (by kernel_rfl) (fun _ _ _ h => h) (Or.inl ⟨by rfl, ?_⟩) (by assumption) ?_
  rotate_left
  · (intro wS hSw; (try dsimp only at hSw); obtain ⟨hS1, hS2⟩ := hSw; (try simp only [List.getElem_toArray, List.getElem_cons_succ, List.getElem_cons_zero]); go_simp; try (with_reducible rfl))
  try simp only [Act.put, List.getElem_toArray, List.getElem_cons_succ, List.getElem_cons_zero, List.setIfInBounds_toArray, List.set_cons_zero, List.set_cons_succ]
  refine wpAnyH_done (by kernel_rfl) ?_ _
  refine NoPanic.normal ?_
  have hy0 : w.drew.cell? ⟨X, 0, none⟩ = some (.pointer (some ⟨f, 0, none⟩)) := kD.cell hx0 (fun h => h)
  clear hHeld kD hx1 hx3 hw16 hx0
  have cN := nameC (m : Int) w.drew (HS.out.quiet HKD.out).gb.2 (by omega) (by omega)
  rw [nameT_nat (by omega)] at cN
  go_wp2_with fail
  refine wp_region_noPanic ?_
  refine wp_region_held_drew (S := fun Z => Z.cell? ⟨X, 0, none⟩ = some (.pointer (some ⟨f, 0, none⟩))) (by kernel_rfl) (by exact hy0) (fun hHeld => ?_)
  refine wpAnyH_take (i := 0) (v := ?_) rfl (by kernel_rfl) (by kernel_rfl) (by kernel_rfl) (fun _ _ _ h => h) (Or.inl ⟨by rfl, ?_⟩) (by assumption) ?_
  rotate_left
  · (intro wS hSw; (try dsimp only at hSw); (try simp only [List.getElem_toArray, List.getElem_cons_succ, List.getElem_cons_zero]); go_simp; try (with_reducible rfl))
  try simp only [Act.put, List.getElem_toArray, List.getElem_cons_succ, List.getElem_cons_zero, List.setIfInBounds_toArray, List.set_cons_zero, List.set_cons_succ]
  refine wpAnyH_take (i := 1) (v := ?_) rfl (by kernel_rfl) (by kernel_rfl) (by kernel_rfl) (fun _ _ _ h => h) (Or.inl ⟨by rfl, ?_⟩) (by assumption) ?_
  rotate_left
  · (intro wS hSw; (try dsimp only at hSw); (try simp only [List.getElem_toArray, List.getElem_cons_succ, List.getElem_cons_zero]); go_simp; try (with_reducible rfl))
  try simp only [Act.put, List.getElem_toArray, List.getElem_cons_succ, List.getElem_cons_zero, List.setIfInBounds_toArray, List.set_cons_zero, List.set_cons_succ]
  refine wpAnyH_take (i := 2) (v := ?_) rfl (by kernel_rfl) (by kernel_rfl) (by kernel_rfl) (fun _ _ _ h => h) (Or.inl ⟨by rfl, ?_⟩) (by assumption) ?_
  rotate_left
  · (intro wS hSw; (try dsimp only at hSw); (try simp only [List.getElem_toArray, List.getElem_cons_succ, List.getElem_cons_zero]); go_simp; try (with_reducible rfl))
  try simp only [Act.put, List.getElem_toArray, List.getElem_cons_succ, List.getElem_cons_zero, List.setIfInBounds_toArray, List.set_cons_zero, List.set_cons_succ]
  refine wpAnyH_take (i := 3) (v := ?_) rfl (by kernel_rfl) (by kernel_rfl) (by kernel_rfl) (fun _ _ _ h => h) (Or.inl ⟨by rfl, ?_⟩) (by assumption) ?_
  rotate_left
  · (intro wS hSw; (try dsimp only at hSw); (try simp only [List.getElem_toArray, List.getElem_cons_succ, List.getElem_cons_zero]); go_simp; try (with_reducible rfl))
  try simp only [Act.put, List.getElem_toArray, List.getElem_cons_succ, List.getElem_cons_zero, List.setIfInBounds_toArray, List.set_cons_zero, List.set_cons_succ]
  refine wpAnyH_take (i := 4) (v := ?_) rfl (by kernel_rfl) (by kernel_rfl) (by kernel_rfl) (fun _ _ _ h => h) (Or.inl ⟨by rfl, ?_⟩) (by assumption) ?_
  rotate_left
  · (intro wS hSw; (try dsimp only at hSw); (try simp only [List.getElem_toArray, List.getElem_cons_succ, List.getElem_cons_zero]); go_simp; try (with_reducible rfl))
  try simp only [Act.put, List.getElem_toArray, List.getElem_cons_succ, List.getElem_cons_zero, List.setIfInBounds_toArray, List.set_cons_zero, List.set_cons_succ]
  refine wpAnyH_ready (rs := [5]) (by kernel_rfl) (by simp) ?_
  refine AllReadyH.cons rfl (fun K hK => ?_) AllReadyH.nil
  go_simp
  have HKDD : Hid (Keep (fun _ => False) w w.drew.drew) := Lib.hid HKD.out.drew
  refine (nameC (m : Int) _ (HS.out.quiet HKDD.out).gb.2 (by omega) (by omega)).mono ?_
  rintro e w1 ⟨rfl, k1⟩
  rw [nameT_nat (by omega)]
  have HK1 : Hid (Keep (fun _ => False) w w1) := Lib.hid (HKDD.out.trans k1 (fun _ _ h => h))
  have hx0 := Keep.cell k1 (p := ⟨X, 0, none⟩) hy0 (fun h => h)
  have cC := sCreate (sN m) (by show 14 ≤ _; omega) (HS.out.quiet HK1.out) (by have := HBU.out; omega)
  rw [HNM.out] at cC
  clear k1 cN
  go_wp2_with fail
  refine hK.out _ _ hx0 (fun hHeld => ?_)
  clear hK K
  try simp only [Act.put, List.getElem_toArray, List.getElem_cons_succ, List.getElem_cons_zero, List.setIfInBounds_toArray, List.set_cons_zero, List.set_cons_succ]
  refine wpAnyH_ready (rs := [6]) (by kernel_rfl) (by simp) ?_
  refine AllReadyH.cons rfl (fun K hK => ?_) AllReadyH.nil
  go_simp
  refine cC.mono ?_
  rintro e w2 ⟨rfl, hs2, b2⟩
  have hx2 := At.cell hs2.xa 0
  simp [idsC] at hx2
  go_wp2_with fail
  refine hK.out _ _ hx2 (fun hHeld => ?_)
  clear hK K
  try simp only [Act.put, List.getElem_toArray, List.getElem_cons_succ, List.getElem_cons_zero, List.setIfInBounds_toArray, List.set_cons_zero, List.set_cons_succ]
  refine wpAnyH_take (i := 7) (v := ?_) rfl (by kernel_rfl) (by kernel_rfl) (by kernel_rfl) (fun _ _ _ h => h) (Or.inl ⟨by rfl, ?_⟩) (by assumption) ?_
  rotate_left
  · (intro wS hSw; (try dsimp only at hSw); (try simp only [List.getElem_toArray, List.getElem_cons_succ, List.getElem_cons_zero]); go_simp; try (with_reducible rfl))
  try simp only [Act.put, List.getElem_toArray, List.getElem_cons_succ, List.getElem_cons_zero, List.setIfInBounds_toArray, List.set_cons_zero, List.set_cons_succ]
  refine wpAnyH_done (by kernel_rfl) ?_ _
  refine NoPanic.normal ?_
  have HS2 := Lib.hid hs2
  have HB2 : Hid (Below base w w2) := Lib.hid ((quiet_below HK1.out HSZ.out).trans b2)
  clear hs2 b2 cC hHeld hx0 hy0
  by_cases h1 : createE s (nameN m) = 0
  · have h1' : ¬ createE s (nameN m) ≠ 0 := by simp [h1]
    have hr1 : createS s (nameN m) = r1 s x := by rw [r1, ← HM.out]
    rw [hr1] at HS2
    have cD := sDirSync HS2.out
    have hbk : (r1 s x).bulk ≤ s.bulk + 2 := by rw [← hr1]; exact bulk_create s _
    have HBK := Lib.hid hbk
    have HE1 : Hid (RE = if dirSyncE (r1 s x) ≠ 0 then dirSyncE (r1 s x) else if x.has then unlinkE (r2 s x) (nameN x.most) else 0) := Lib.hid (by
      rw [HRE.out, raiseE, ← HM.out, if_neg h1'])
    have HS1 : Hid (RS = if dirSyncE (r1 s x) ≠ 0 then r2 s x else if x.has then unlinkS (r2 s x) (nameN x.most) else r2 s x) := Lib.hid (by
      rw [HRS.out, raiseS, ← HM.out, if_neg h1'])
    have HY1 : Hid (y = if dirSyncE (r1 s x) ≠ 0 then x else (⟨x.last, m, true⟩ : Ix)) := Lib.hid (by
      rw [HY.out, upX, ← HM.out, if_neg h1'])
    rw [h1]
    clear h1 h1' hr1 hbk HRE HRS HY
    go_wp2_with fail
    refine cD.mono ?_
    rintro e w3 ⟨rfl, hs3, b3⟩
    have HB3 : Hid (Below base w w3) := Lib.hid (HB2.out.trans b3)
    have hr2 : dirSyncS (r1 s x) = r2 s x := rfl
    rw [hr2] at hs3
    have HS3 := Lib.hid hs3
    clear hs3 b3 cD hx2 HB2 HS2 hr2
    by_cases h2 : dirSyncE (r1 s x) = 0
    · have h2' : ¬ dirSyncE (r1 s x) ≠ 0 := by simp [h2]
      have HE2 : Hid (RE = if x.has then unlinkE (r2 s x) (nameN x.most) else 0) := Lib.hid (by rw [HE1.out, if_neg h2'])
      have HS2 : Hid (RS = if x.has then unlinkS (r2 s x) (nameN x.most) else r2 s x) := Lib.hid (by rw [HS1.out, if_neg h2'])
      have HY2 : Hid (y = ⟨x.last, m, true⟩) := Lib.hid (by rw [HY1.out, if_neg h2'])
      have hb2 : (r2 s x).bulk + 2 ≤ 1000000 := by
        have h3 := bulk_sync (r1 s x)
        have h4 : (r2 s x).bulk ≤ (r1 s x).bulk := h3
        have := HBK.out
        have := HBU.out
        omega
      rw [h2]
      clear h2 h2' HE1 HS1 HY1
      have cN3 := nameC (m : Int) w3 HS3.out.gb.2 (by omega) (by omega)
      rw [nameT_nat (by omega)] at cN3
      go_wp2_with fail
      refine cN3.mono ?_
      rintro e w4 ⟨rfl, k4⟩
      have hs4 := HS3.out.quiet k4
      have HB4 : Hid (Below base w w4) := Lib.hid (HB3.out.trans (quiet_below k4 HS3.out.size))
      have hz2 := At.frozen hs4.xa 2
      have hz3 := At.frozen hs4.xa 3
      have hw2 := At.cell hs4.xa 2
      have hw3 := At.cell hs4.xa 3
      simp [idsC] at hw2 hw3
      have h5 := sys_set (m := m) hs4 HB4.out
      obtain ⟨w5, hw5⟩ : ∃ w5, w5 = (w4.setCell ⟨X, 2, none⟩ (.int .i64 (m : Int))).setCell ⟨X, 3, none⟩ (.string (sN m)) := ⟨_, rfl⟩
      rw [← hw5] at h5
      have HS5 := Lib.hid h5.1
      have HB5 := Lib.hid h5.2
      have HW5 := Lib.hid hw5
      have hx5 := At.cell h5.1.xa 0
      simp [idsC] at hx5
      clear k4 cN3 hs4 HB4 HB3 HS3 h5 hw5
      cases hh : x.has with
      | false =>
        have hT0 : T = { data := #[] } := by rw [HT.out, hasT, hh]; rfl
        have HH := Lib.hid hh
        subst hT0
        clear hh hb2
        go_wp2
        go_ret
        have e1 : RE = 0 := by rw [HE2.out, HH.out]; rfl
        have e3 : RS = r2 s x := by rw [HS2.out, HH.out]; rfl
        rw [← HW5.out, e1, e3, HY2.out]
        exact ⟨rfl, HS5.out, HB5.out⟩
      | true =>
        have hT1 : T = sN x.most := by rw [HT.out, hasT, hh]; rfl
        have HH := Lib.hid hh
        have hne : ((sN x.most).toList == []) = false := by rw [ByteArray.toList_eq]; rfl
        rw [← hT1] at hne HNM2
        have hTs : T.size ≤ 9223372036854775807 := by rw [hT1]; show 14 ≤ _; omega
        have cU := sUnlink T hTs HS5.out hb2
        rw [HNM2.out, HW5.out] at cU
        rw [HW5.out] at hx5
        clear hh hT1 hTs hb2
        go_wp2_with fail
        refine cU.mono ?_
        rintro e w6 ⟨rfl, hs6, b6⟩
        have HS6 := Lib.hid hs6
        rw [← HW5.out] at b6
        have HB6 : Hid (Below base w w6) := Lib.hid (HB5.out.trans b6)
        clear hs6 b6 cU
        go_wp2
        go_ret
        have e1 : RE = unlinkE (r2 s x) (nameN x.most) := by rw [HE2.out, HH.out, if_pos rfl]
        have e3 : RS = unlinkS (r2 s x) (nameN x.most) := by rw [HS2.out, HH.out, if_pos rfl]
        rw [e1, e3, HY2.out]
        exact ⟨rfl, HS6.out, HB6.out⟩
    · have HE2 : Hid (RE = dirSyncE (r1 s x)) := Lib.hid (by rw [HE1.out, if_pos h2])
      have HS2 : Hid (RS = r2 s x) := Lib.hid (by rw [HS1.out, if_pos h2])
      have HY2 : Hid (y = x) := Lib.hid (by rw [HY1.out, if_pos h2])
      obtain ⟨E, hEe⟩ : ∃ E, E = dirSyncE (r1 s x) := ⟨_, rfl⟩
      rw [← hEe] at h2 HE2 ⊢
      have c4 : ((E : Int) == 0) = false := by simp; omega
      have c5 : ((E : Int) != 0) = true := by simp; omega
      have c6 : ¬ ((E : Int) = 0) := by omega
      clear h2 hEe HE1 HS1 HY1
      go_wp2
      go_ret
      rw [HE2.out, HY2.out, HS2.out]
      exact ⟨rfl, HS3.out, HB3.out⟩
  · have HE : Hid (RE = createE s (nameN m)) := Lib.hid (by rw [HRE.out, raiseE, ← HM.out, if_pos h1])
    have HS' : Hid (RS = createS s (nameN m)) := Lib.hid (by rw [HRS.out, raiseS, ← HM.out, if_pos h1, r1, ← HM.out])
    have HY' : Hid (y = x) := Lib.hid (by rw [HY.out, upX, ← HM.out, if_pos h1])
    obtain ⟨E, hEe⟩ : ∃ E, E = createE s (nameN m) := ⟨_, rfl⟩
    rw [← hEe] at h1 HE ⊢
    have c4 : ((E : Int) == 0) = false := by simp; omega
    have c5 : ((E : Int) != 0) = true := by simp; omega
    have c6 : ¬ ((E : Int) = 0) := by omega
    clear h1 hEe
    go_wp2
    go_ret
    rw [HE.out, HS'.out, HY'.out]
    exact ⟨rfl, HS2.out, HB2.out⟩
end Go.Proofs.YtlpeiejohgchmaaDoor.Fs
