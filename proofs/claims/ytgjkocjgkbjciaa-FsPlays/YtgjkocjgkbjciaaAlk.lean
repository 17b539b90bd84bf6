/-
  What the law's 'alike' returns: the program's disk is as the document has it.
-/
import Derived.Test.YtgjkocjgkbjciaaTwo
namespace Go.Proofs.Ytgjkocjgkbjciaa.Fs
open Go.RowKit Go.Maps
set_option linter.unusedVariables false
set_option linter.unusedSimpArgs false

theorem info9 : (Try.prog.info? 9).map (fun i => (i.zero, i.size, i.bytes)) = some (some (.string ⟨#[]⟩), 1, 16) := by kernel_rfl
/-- The names that 'List' answers. -/
def allN (s : St) : List Nm := if s.down then [] else s.now.map (·.1)
theorem listAny (f : Nat) (S : Nat → Prop) (s : St) (w : World) (h : Disk w S f s) : Calls Try.prog 28 #[.pointer (some ⟨f, 0, none⟩)] w fun e w' => ∃ v, e = .returned v ∧ Names w' v (allN s) ∧ Keep (fun _ => False) w w' := by
  cases hd : s.down
  · refine (listUp f S s w h hd).mono ?_
    rintro e w2 ⟨nv, rfl, hrow, hb2⟩
    refine ⟨nv, rfl, ⟨w.heap.size, ?_⟩, Keep.of_below hb2⟩
    have e : allN s = s.now.map (·.1) := by unfold allN; rw [hd]; rfl
    rw [e, List.length_map, List.map_map]
    exact hrow
  · refine (listDown f S s w h hd).mono ?_
    rintro e w2 ⟨rfl, rfl⟩
    refine ⟨_, rfl, ⟨0, ?_⟩, Keep.refl _ _⟩
    have e : allN s = [] := by unfold allN; rw [hd]; rfl
    rw [e]
    exact World.ownsRow_nil _ _ _ _
theorem read_at {s : St} (hG : Good s) (hN : Nmd s) {i : Nat} {p : Nm × Nat} (h : s.now[i]? = some p) :
    (s.down = true → findE s p.1 = 2 ∧ readV s p.1 = []) ∧ (s.down = false → findE s p.1 = 0 ∧ readV s p.1 = (s.file p.2).bytes) := by
  have hm := List.mem_of_getElem? h
  have hn := hN.now p hm
  have hg : get s.now p.1 = some p.2 := get_of_mem hG.now.names hm
  refine ⟨fun hd => ?_, fun hd => ?_⟩
  · have hr : readyE s [p.1] = 2 := by unfold readyE; simp [hn, hd]
    have hf : findE s p.1 = 2 := by unfold findE; simp [hr]
    exact ⟨hf, by unfold readV; simp [hf]⟩
  · have hr : readyE s [p.1] = 0 := by unfold readyE; simp [hn, hd]
    have hf : findE s p.1 = 0 := by unfold findE; simp [hr, hg]
    exact ⟨hf, by unfold readV; simp [hf, hg]⟩
theorem sm_size (a : Nm) : (sm a).size = a.length := by rw [← nm_length, nm_sm]

set_option maxHeartbeats 8000000 in
set_option maxRecDepth 100000 in
theorem alike (base f q : Nat) (s : St) (w : World) (h : Two w base f q s) :
    Calls Try.prog 16 #[.pointer (some ⟨f, 0, none⟩), .pointer (some ⟨q, 0, none⟩)] w fun e w' => e = .returned (.bool true) ∧ Keep (fun _ => False) w w' := by
  obtain ⟨r, S, T, hTw, hSim, hNm⟩ := h
  have cD := refDir q T r w hTw.ref
  rw [hSim.now] at cD
  have hG := hTw.disk.good
  have hlen := now_length s
  have hbk := hG.bulk
  obtain ⟨N, hN⟩ : ∃ N, N = s.now.length := ⟨_, rfl⟩
  have hNl : N ≤ 1000000 := by omega
  obtain ⟨U, hU⟩ : ∃ U, U = s.used := ⟨_, rfl⟩
  obtain ⟨Z, hZ⟩ : ∃ Z, Z = s.loose.length := ⟨_, rfl⟩
  obtain ⟨D, hD⟩ : ∃ D, D = s.down := ⟨_, rfl⟩
  have CL : Hid (∀ W, Keep (fun _ => False) w W → Calls Try.prog 28 #[.pointer (some ⟨f, 0, none⟩)] W fun e w' => ∃ v, e = .returned v ∧ Names w' v (allN s) ∧ Keep (fun _ => False) W w') := fun W k => listAny f S s W (hTw.disk.keep k (fun _ _ h => h))
  have CU : Hid (∀ W, Keep (fun _ => False) w W → Calls Try.prog 30 #[.pointer (some ⟨f, 0, none⟩)] W fun e w' => e = .returned (.int .i64 (U : Int)) ∧ Keep (fun _ => False) W w') := fun W k => by
    obtain ⟨⟨La, hp⟩, hG⟩ := hTw.disk.keep k (fun _ _ h => h)
    rw [hU]
    exact usedP f S s La W hp hG
  have CR : Hid (∀ W, Keep (fun _ => False) w W → Calls Try.prog 36 #[.pointer (some ⟨q, 0, none⟩)] W fun e w' => e = .returned (.int .i64 (U : Int)) ∧ Keep (fun _ => False) W w') := fun W k => by
    have := refUsed q T r W (hTw.ref.keep k (fun _ _ h => h))
    rw [hSim.used hG, ← hU] at this
    exact this
  have CZ : Hid (∀ W, Keep (fun _ => False) w W → Calls Try.prog 31 #[.pointer (some ⟨f, 0, none⟩)] W fun e w' => e = .returned (.int .i64 (Z : Int)) ∧ W = w') := fun W k => by
    rw [hZ]
    exact loose f S s W (hTw.disk.keep k (fun _ _ h => h))
  have CD : Hid (∀ W, Keep (fun _ => False) w W → Calls Try.prog 27 #[.pointer (some ⟨f, 0, none⟩)] W fun e w' => e = .returned (.bool D) ∧ W = w') := fun W k => by
    rw [hD]
    exact down f S s W (hTw.disk.keep k (fun _ _ h => h))
  have CG : Hid (∀ (W : World) (A : ByteArray), A.size ≤ 80 → Keep (fun _ => False) w W → Calls Try.prog 24 #[.pointer (some ⟨f, 0, none⟩), .string A] W (Got W S f s (nm A))) := fun W A hA k => read f S s A (by omega) W (hTw.disk.keep k (fun _ _ h => h))
  have HRA : Hid (∀ (i : Nat) (p : Nm × Nat), s.now[i]? = some p → (D = true → findE s p.1 = 2 ∧ readV s p.1 = []) ∧ (D = false → findE s p.1 = 0 ∧ readV s p.1 = (s.file p.2).bytes)) := fun i p h => by
    rw [hD]
    exact read_at hG hNm h
  have HSZ : Hid (∀ (i : Nat) (p : Nm × Nat), s.now[i]? = some p → (sm p.1).size ≤ 80) := fun i p h => by
    rw [sm_size]
    exact isNm_length (hNm.now p (List.mem_of_getElem? h))
  obtain ⟨⟨vs, vl, vf, fl, hp⟩, hGr, hRi⟩ := hTw.ref
  have HFA : Hid (∀ (i : Nat) (p : Nm × Nat), s.now[i]? = some p → p.2 < r.files.length ∧ ∃ v, fl[p.2]? = some (v, s.file p.2) ∧ Own w v (s.file p.2).bytes) := fun i p h => by
    have hm := List.mem_of_getElem? h
    have hl : p.2 < r.files.length := hGr.now.lt p (by rw [hSim.now]; exact hm)
    obtain ⟨v, h1, h2⟩ := hp.fat hl
    rw [hSim.file (now_live hG hm)] at h1 h2
    exact ⟨hl, v, h1, h2⟩
  have HRF := Lib.hid hp.files
  obtain ⟨xl, cl, hvl, hcl, _⟩ := ownsRow_shape hp.loose.1
  obtain ⟨xf, cf, hvf, hcf, _⟩ := ownsRow_shape hp.files.1
  have c1 := hp.fs.cell 1
  have c2 := hp.fs.cell 2
  have c5 := hp.fs.cell 5
  simp at c1 c2 c5
  rw [hSim.down, ← hD] at c5
  rw [hvl, hSim.loose, ← hZ] at c1
  rw [hvf] at c2 HRF
  obtain ⟨M, hM⟩ : ∃ M, M = r.files.length := ⟨_, rfl⟩
  rw [← hM] at c2 HRF HFA
  have hMl : M ≤ 1000000 := by have := hGr.bulk; unfold St.bulk at this; omega
  have hZl : Z ≤ 1000000 := by unfold St.bulk at hbk; omega
  have HN := Lib.hid hN
  have HD := Lib.hid hD
  clear hTw hSim hNm hG hlen hbk hN hU hZ hD hp hGr hRi hvl hvf hcl hcf hM
  go_enter Try.func16, Try.ntmps16
  go_wp2_with fail
  refine cD.mono ?_
  rintro e w1 ⟨u, rfl, hR, k1⟩
  obtain ⟨x, cx, rfl, _, hx⟩ := hR.shape
  rw [ents_length, ← HN.out]
  have HX := Lib.hid hx
  have HK1 := Lib.hid k1
  have d1 := k1.cell c1 (fun h => h)
  have d2 := k1.cell c2 (fun h => h)
  have d5 := k1.cell c5 (fun h => h)
  clear hR hx k1 cD c1 c2 c5
  go_wp2
  go_loopw [6, 7] (fun o z wr => ∃ i : Nat, i ≤ N ∧ z = .int .i64 (i : Int) ∧ (D = true → i = 0) ∧ Hid (Row wr (Up (fun _ => False) w1 wr) 9 1 o i ((s.now.take i).map fun p => encStr p.1)) ∧ Hid (Keep (fun _ => False) w1 wr)) (fun _ z _ => N - (intOf z).toNat)
  case atStart => exact ⟨0, by omega, rfl, fun _ => rfl, by rw [List.take_zero]; exact Row.nil _ _ _ _, Keep.refl _ _⟩
  case round =>
    obtain ⟨i, hi, rfl, hDi, HR, HK⟩ := hrel
    have e1 := HK.out.cell d1 (fun h => h)
    have e2 := HK.out.cell d2 (fun h => h)
    have e5 := HK.out.cell d5 (fun h => h)
    by_cases h8 : (i : Int) < (N : Int)
    · cases D with
      | false =>
        have hil : i < s.now.length := by have := HN.out; omega
        obtain ⟨p, hp⟩ := getElem?_some_lt hil
        obtain ⟨g, hg, _, _, c1, _⟩ := HX.out i _ (ents_at hp)
        subst hg
        have a1 := HK.out.cell c1 (fun h => h)
        simp only at a1
        obtain ⟨A, hA⟩ : ∃ A, A = sm p.1 := ⟨_, rfl⟩
        rw [← hA] at a1
        have HA := Lib.hid hA
        have HP := Lib.hid hp
        clear hil hp c1 hA hDi
        have HR2 : Hid (Row (wr.alloc (.cells #[.string A] 9)) (Up (fun _ => False) w1 (wr.alloc (.cells #[.string A] 9))) 9 1 u6 i ((s.now.take i).map fun p => encStr p.1)) := HR.out.on ((Keep.refl (fun _ => False) wr).alloc _) (fun _ _ _ h => h)
        go_wp2_with (refine wpList_append_row (by rfl) (.tmp 26) (.tmp 32) 53 9 (by rfl) _ 1 16 Try.underlying53 info9 rfl (by omega) u6 _ _ rfl HR2.out ⟨wr.heap.size, 0, none⟩ 1 1 [.string A] rfl rfl (new_cells [.string A]) (by simp; rfl) (by omega) (by omega) ?_
                     intro y5 n5 cap5 w5 HN5 hR5 k5 hN5
                     have HR5 := Lib.hid hR5
                     have HK5 := Lib.hid k5
                     clear hR5 k5 hN5)
        go_roundw
        case rel =>
          have kk : Keep (fun _ => False) w1 w5 := (HK.out.alloc _).trans HK5.out (fun b hb e => by
            rcases HR.out.2 b e with h | ⟨h, _⟩
            · exact h
            · omega)
          refine ⟨i + 1, by omega, by go_num, (fun h => by cases h), ?_, kk⟩
          have hq := HR5.out.mono (S' := Up (fun _ => False) w1 w5) (fun b _ h => by
            rcases h with h | ⟨h1, h2⟩
            · exact Up.more HK5.out.size h
            · exact .inr ⟨by have := HK.out.size; simp at h1; omega, h2⟩)
          rw [take_snoc HP.out, List.map_append]
          rw [show ([p].map fun p => encStr p.1) = [.string A] by rw [HA.out]; rfl]
          exact hq
        case measure => simp [intOf]; omega
      | true =>
        have hi0 := hDi rfl
        subst hi0
        have HNm : Hid (Names wr u6 (allN s) ∧ (allN s).length ≤ 1000000) := by
          have e : allN s = [] := by unfold allN; rw [← HD.out]; rfl
          rw [e]
          exact ⟨⟨0, HR.out.1⟩, by simp⟩
        clear hDi
        clear e2
        go_wp2_with fail
        refine wp_region_noPanic ?_
        refine wp_region_held_drew (S := fun w' => w'.cell? ⟨q, 1, none⟩ = some (.slice xl Z cl) ∧ w'.cell? ⟨q, 5, none⟩ = some (.bool true)) (by kernel_rfl) ⟨e1, e5⟩ (fun hHeld => ?_)
        refine wpAnyH_take (i := 0) (v := ?_) rfl (by kernel_rfl) (by kernel_rfl) (by kernel_rfl) (fun _ _ _ h => h) (Or.inl ⟨by rfl, ?_⟩) (by assumption) ?_
        rotate_left
        · (intro wS hSw; obtain ⟨hSa, hSb⟩ := hSw; (try simp only [List.getElem_toArray, List.getElem_cons_succ, List.getElem_cons_zero]); go_simp; try (with_reducible rfl))
        try simp only [Act.put, List.getElem_toArray, List.getElem_cons_succ, List.getElem_cons_zero, List.setIfInBounds_toArray, List.set_cons_zero, List.set_cons_succ]
        refine wpAnyH_take (i := 2) (v := ?_) rfl (by kernel_rfl) (by kernel_rfl) (by kernel_rfl) (fun _ _ _ h => h) (Or.inl ⟨by rfl, ?_⟩) (by assumption) ?_
        rotate_left
        · (intro wS hSw; obtain ⟨hSa, hSb⟩ := hSw; (try simp only [List.getElem_toArray, List.getElem_cons_succ, List.getElem_cons_zero]); go_simp; try (with_reducible rfl))
        try simp only [Act.put, List.getElem_toArray, List.getElem_cons_succ, List.getElem_cons_zero, List.setIfInBounds_toArray, List.set_cons_zero, List.set_cons_succ]
        refine wpAnyH_ready (rs := [1]) (by kernel_rfl) (by simp) ?_
        refine AllReadyH.cons rfl (fun K hK => ?_) AllReadyH.nil
        go_simp
        refine (CL.out _ (HK1.out.trans HK.out.drew (fun _ _ h => h))).mono ?_
        rintro e v1 ⟨nv, rfl, hnv, k1⟩
        have HK2 : Hid (Keep (fun _ => False) w1 v1) := HK.out.drew.trans k1 (fun _ _ h => h)
        have HNa := Lib.hid hnv
        have HNb : Hid (Names v1 u6 (allN s)) := HNm.out.1.keep (((Keep.refl (fun _ => False) wr).drew).trans k1 (fun _ _ h => h)) (fun _ _ h => h)
        clear hnv k1
        go_wp2_with fail
        refine hK.out _ _ ⟨HK2.out.cell d1 (fun h => h), HK2.out.cell d5 (fun h => h)⟩ (fun hHeld => ?_)
        clear hK K
        try simp only [Act.put, List.getElem_toArray, List.getElem_cons_succ, List.getElem_cons_zero, List.setIfInBounds_toArray, List.set_cons_zero, List.set_cons_succ]
        refine wpAnyH_ready (rs := [3]) (by kernel_rfl) (by simp) ?_
        refine AllReadyH.cons rfl (fun K hK => ?_) AllReadyH.nil
        go_simp
        refine (texts (allN s) HNm.out.2 nv u6 v1 HNa.out HNb.out).mono ?_
        rintro e v2 ⟨rfl, k2⟩
        have HK3 : Hid (Keep (fun _ => False) w1 v2) := HK2.out.trans k2 (fun _ _ h => h)
        clear k2 HNa HNb
        go_wp2_with fail
        refine hK.out _ _ ⟨HK3.out.cell d1 (fun h => h), HK3.out.cell d5 (fun h => h)⟩ (fun hHeld => ?_)
        clear hK K
        try simp only [Act.put, List.getElem_toArray, List.getElem_cons_succ, List.getElem_cons_zero, List.setIfInBounds_toArray, List.set_cons_zero, List.set_cons_succ]
        refine wpAnyH_take (i := 4) (v := ?_) rfl (by kernel_rfl) (by kernel_rfl) (by kernel_rfl) (fun _ _ _ h => h) (Or.inl ⟨by rfl, ?_⟩) (by assumption) ?_
        rotate_left
        · (intro wS hSw; obtain ⟨hSa, hSb⟩ := hSw; (try simp only [List.getElem_toArray, List.getElem_cons_succ, List.getElem_cons_zero]); go_simp; try (with_reducible rfl))
        try simp only [Act.put, List.getElem_toArray, List.getElem_cons_succ, List.getElem_cons_zero, List.setIfInBounds_toArray, List.set_cons_zero, List.set_cons_succ]
        refine wpAnyH_take (i := 5) (v := ?_) rfl (by kernel_rfl) (by kernel_rfl) (by kernel_rfl) (fun _ _ _ h => h) (Or.inl ⟨by rfl, ?_⟩) (by assumption) ?_
        rotate_left
        · (intro wS hSw; obtain ⟨hSa, hSb⟩ := hSw; (try simp only [List.getElem_toArray, List.getElem_cons_succ, List.getElem_cons_zero]); go_simp; try (with_reducible rfl))
        try simp only [Act.put, List.getElem_toArray, List.getElem_cons_succ, List.getElem_cons_zero, List.setIfInBounds_toArray, List.set_cons_zero, List.set_cons_succ]
        refine wpAnyH_take (i := 6) (v := ?_) rfl (by kernel_rfl) (by kernel_rfl) (by kernel_rfl) (fun _ _ _ h => h) (Or.inl ⟨by rfl, ?_⟩) (by assumption) ?_
        rotate_left
        · (intro wS hSw; obtain ⟨hSa, hSb⟩ := hSw; (try simp only [List.getElem_toArray, List.getElem_cons_succ, List.getElem_cons_zero]); go_simp; try (with_reducible rfl))
        try simp only [Act.put, List.getElem_toArray, List.getElem_cons_succ, List.getElem_cons_zero, List.setIfInBounds_toArray, List.set_cons_zero, List.set_cons_succ]
        refine wpAnyH_take (i := 8) (v := ?_) rfl (by kernel_rfl) (by kernel_rfl) (by kernel_rfl) (fun _ _ _ h => h) (Or.inl ⟨by rfl, ?_⟩) (by assumption) ?_
        rotate_left
        · (intro wS hSw; obtain ⟨hSa, hSb⟩ := hSw; (try simp only [List.getElem_toArray, List.getElem_cons_succ, List.getElem_cons_zero]); go_simp; try (with_reducible rfl))
        try simp only [Act.put, List.getElem_toArray, List.getElem_cons_succ, List.getElem_cons_zero, List.setIfInBounds_toArray, List.set_cons_zero, List.set_cons_succ]
        refine wpAnyH_ready (rs := [7]) (by kernel_rfl) (by simp) ?_
        refine AllReadyH.cons rfl (fun K hK => ?_) AllReadyH.nil
        go_simp
        refine (CU.out _ (HK1.out.trans HK3.out (fun _ _ h => h))).mono ?_
        rintro e v3 ⟨rfl, k3⟩
        have HK4 : Hid (Keep (fun _ => False) w1 v3) := HK3.out.trans k3 (fun _ _ h => h)
        clear k3
        go_wp2_with fail
        refine hK.out _ _ ⟨HK4.out.cell d1 (fun h => h), HK4.out.cell d5 (fun h => h)⟩ (fun hHeld => ?_)
        clear hK K
        try simp only [Act.put, List.getElem_toArray, List.getElem_cons_succ, List.getElem_cons_zero, List.setIfInBounds_toArray, List.set_cons_zero, List.set_cons_succ]
        refine wpAnyH_ready (rs := [9]) (by kernel_rfl) (by simp) ?_
        refine AllReadyH.cons rfl (fun K hK => ?_) AllReadyH.nil
        go_simp
        refine (CR.out _ (HK1.out.trans HK4.out (fun _ _ h => h))).mono ?_
        rintro e v4 ⟨rfl, k4⟩
        have HK5 : Hid (Keep (fun _ => False) w1 v4) := HK4.out.trans k4 (fun _ _ h => h)
        clear k4
        go_wp2_with fail
        refine hK.out _ _ ⟨HK5.out.cell d1 (fun h => h), HK5.out.cell d5 (fun h => h)⟩ (fun hHeld => ?_)
        clear hK K
        try simp only [Act.put, List.getElem_toArray, List.getElem_cons_succ, List.getElem_cons_zero, List.setIfInBounds_toArray, List.set_cons_zero, List.set_cons_succ]
        refine wpAnyH_take (i := 10) (v := ?_) rfl (by kernel_rfl) (by kernel_rfl) (by kernel_rfl) (fun _ _ _ h => h) (Or.inl ⟨by rfl, ?_⟩) (by assumption) ?_
        rotate_left
        · (intro wS hSw; obtain ⟨hSa, hSb⟩ := hSw; (try simp only [List.getElem_toArray, List.getElem_cons_succ, List.getElem_cons_zero]); go_simp; try (with_reducible rfl))
        try simp only [Act.put, List.getElem_toArray, List.getElem_cons_succ, List.getElem_cons_zero, List.setIfInBounds_toArray, List.set_cons_zero, List.set_cons_succ]
        refine wpAnyH_take (i := 11) (v := ?_) rfl (by kernel_rfl) (by kernel_rfl) (by kernel_rfl) (fun _ _ _ h => h) (Or.inl ⟨by rfl, ?_⟩) (by assumption) ?_
        rotate_left
        · (intro wS hSw; obtain ⟨hSa, hSb⟩ := hSw; (try simp only [List.getElem_toArray, List.getElem_cons_succ, List.getElem_cons_zero]); go_simp; try (with_reducible rfl))
        try simp only [Act.put, List.getElem_toArray, List.getElem_cons_succ, List.getElem_cons_zero, List.setIfInBounds_toArray, List.set_cons_zero, List.set_cons_succ]
        refine wpAnyH_take (i := 12) (v := ?_) rfl (by kernel_rfl) (by kernel_rfl) (by kernel_rfl) (fun _ _ _ h => h) (Or.inl ⟨by rfl, ?_⟩) (by assumption) ?_
        rotate_left
        · (intro wS hSw; obtain ⟨hSa, hSb⟩ := hSw; (try simp only [List.getElem_toArray, List.getElem_cons_succ, List.getElem_cons_zero]); go_simp; try (with_reducible rfl))
        try simp only [Act.put, List.getElem_toArray, List.getElem_cons_succ, List.getElem_cons_zero, List.setIfInBounds_toArray, List.set_cons_zero, List.set_cons_succ]
        refine wpAnyH_take (i := 13) (v := ?_) rfl (by kernel_rfl) (by kernel_rfl) (by kernel_rfl) (fun _ _ _ h => h) (Or.inl ⟨by rfl, ?_⟩) (by assumption) ?_
        rotate_left
        · (intro wS hSw; obtain ⟨hSa, hSb⟩ := hSw; (try simp only [List.getElem_toArray, List.getElem_cons_succ, List.getElem_cons_zero]); go_simp; try (with_reducible rfl))
        try simp only [Act.put, List.getElem_toArray, List.getElem_cons_succ, List.getElem_cons_zero, List.setIfInBounds_toArray, List.set_cons_zero, List.set_cons_succ]
        refine wpAnyH_take (i := 15) (v := ?_) rfl (by kernel_rfl) (by kernel_rfl) (by kernel_rfl) (fun _ _ _ h => h) (Or.inl ⟨by rfl, ?_⟩) (by assumption) ?_
        rotate_left
        · (intro wS hSw; obtain ⟨hSa, hSb⟩ := hSw; (try simp only [List.getElem_toArray, List.getElem_cons_succ, List.getElem_cons_zero]); go_simp; try (with_reducible rfl))
        try simp only [Act.put, List.getElem_toArray, List.getElem_cons_succ, List.getElem_cons_zero, List.setIfInBounds_toArray, List.set_cons_zero, List.set_cons_succ]
        refine wpAnyH_take (i := 16) (v := ?_) rfl (by kernel_rfl) (by kernel_rfl) (by kernel_rfl) (fun _ _ _ h => h) (Or.inl ⟨by rfl, ?_⟩) (by assumption) ?_
        rotate_left
        · (intro wS hSw; obtain ⟨hSa, hSb⟩ := hSw; (try simp only [List.getElem_toArray, List.getElem_cons_succ, List.getElem_cons_zero]); go_simp; try (with_reducible rfl))
        try simp only [Act.put, List.getElem_toArray, List.getElem_cons_succ, List.getElem_cons_zero, List.setIfInBounds_toArray, List.set_cons_zero, List.set_cons_succ]
        refine wpAnyH_take (i := 17) (v := ?_) rfl (by kernel_rfl) (by kernel_rfl) (by kernel_rfl) (fun _ _ _ h => h) (Or.inl ⟨by rfl, ?_⟩) (by assumption) ?_
        rotate_left
        · (intro wS hSw; obtain ⟨hSa, hSb⟩ := hSw; (try simp only [List.getElem_toArray, List.getElem_cons_succ, List.getElem_cons_zero]); go_simp; try (with_reducible rfl))
        try simp only [Act.put, List.getElem_toArray, List.getElem_cons_succ, List.getElem_cons_zero, List.setIfInBounds_toArray, List.set_cons_zero, List.set_cons_succ]
        refine wpAnyH_take (i := 18) (v := ?_) rfl (by kernel_rfl) (by kernel_rfl) (by kernel_rfl) (fun _ _ _ h => h) (Or.inl ⟨by rfl, ?_⟩) (by assumption) ?_
        rotate_left
        · (intro wS hSw; obtain ⟨hSa, hSb⟩ := hSw; (try simp only [List.getElem_toArray, List.getElem_cons_succ, List.getElem_cons_zero]); go_simp; try (with_reducible rfl))
        try simp only [Act.put, List.getElem_toArray, List.getElem_cons_succ, List.getElem_cons_zero, List.setIfInBounds_toArray, List.set_cons_zero, List.set_cons_succ]
        refine wpAnyH_take (i := 19) (v := ?_) rfl (by kernel_rfl) (by kernel_rfl) (by kernel_rfl) (fun _ _ _ h => h) (Or.inl ⟨by rfl, ?_⟩) (by assumption) ?_
        rotate_left
        · (intro wS hSw; obtain ⟨hSa, hSb⟩ := hSw; (try simp only [List.getElem_toArray, List.getElem_cons_succ, List.getElem_cons_zero]); go_simp; try (with_reducible rfl))
        try simp only [Act.put, List.getElem_toArray, List.getElem_cons_succ, List.getElem_cons_zero, List.setIfInBounds_toArray, List.set_cons_zero, List.set_cons_succ]
        refine wpAnyH_ready (rs := [14]) (by kernel_rfl) (by simp) ?_
        refine AllReadyH.cons rfl (fun K hK => ?_) AllReadyH.nil
        go_simp
        refine (CZ.out _ (HK1.out.trans HK5.out (fun _ _ h => h))).mono ?_
        rintro e v5 ⟨rfl, rfl⟩
        go_wp2_with fail
        refine hK.out _ _ ⟨HK5.out.cell d1 (fun h => h), HK5.out.cell d5 (fun h => h)⟩ (fun hHeld => ?_)
        clear hK K
        try simp only [Act.put, List.getElem_toArray, List.getElem_cons_succ, List.getElem_cons_zero, List.setIfInBounds_toArray, List.set_cons_zero, List.set_cons_succ]
        refine wpAnyH_take (i := 20) (v := ?_) rfl (by kernel_rfl) (by kernel_rfl) (by kernel_rfl) (fun _ _ _ h => h) (Or.inl ⟨by rfl, ?_⟩) (by assumption) ?_
        rotate_left
        · (intro wS hSw; obtain ⟨hSa, hSb⟩ := hSw; (try simp only [List.getElem_toArray, List.getElem_cons_succ, List.getElem_cons_zero]); go_simp; try (with_reducible rfl))
        try simp only [Act.put, List.getElem_toArray, List.getElem_cons_succ, List.getElem_cons_zero, List.setIfInBounds_toArray, List.set_cons_zero, List.set_cons_succ]
        refine wpAnyH_take (i := 21) (v := ?_) rfl (by kernel_rfl) (by kernel_rfl) (by kernel_rfl) (fun _ _ _ h => h) (Or.inl ⟨by rfl, ?_⟩) (by assumption) ?_
        rotate_left
        · (intro wS hSw; obtain ⟨hSa, hSb⟩ := hSw; (try simp only [List.getElem_toArray, List.getElem_cons_succ, List.getElem_cons_zero]); go_simp; try (with_reducible rfl))
        try simp only [Act.put, List.getElem_toArray, List.getElem_cons_succ, List.getElem_cons_zero, List.setIfInBounds_toArray, List.set_cons_zero, List.set_cons_succ]
        refine wpAnyH_take (i := 22) (v := ?_) rfl (by kernel_rfl) (by kernel_rfl) (by kernel_rfl) (fun _ _ _ h => h) (Or.inl ⟨by rfl, ?_⟩) (by assumption) ?_
        rotate_left
        · (intro wS hSw; obtain ⟨hSa, hSb⟩ := hSw; (try simp only [List.getElem_toArray, List.getElem_cons_succ, List.getElem_cons_zero]); go_simp; try (with_reducible rfl))
        try simp only [Act.put, List.getElem_toArray, List.getElem_cons_succ, List.getElem_cons_zero, List.setIfInBounds_toArray, List.set_cons_zero, List.set_cons_succ]
        refine wpAnyH_take (i := 23) (v := ?_) rfl (by kernel_rfl) (by kernel_rfl) (by kernel_rfl) (fun _ _ _ h => h) (Or.inl ⟨by rfl, ?_⟩) (by assumption) ?_
        rotate_left
        · (intro wS hSw; obtain ⟨hSa, hSb⟩ := hSw; (try simp only [List.getElem_toArray, List.getElem_cons_succ, List.getElem_cons_zero]); go_simp; try (with_reducible rfl))
        try simp only [Act.put, List.getElem_toArray, List.getElem_cons_succ, List.getElem_cons_zero, List.setIfInBounds_toArray, List.set_cons_zero, List.set_cons_succ]
        refine wpAnyH_take (i := 25) (v := ?_) rfl (by kernel_rfl) (by kernel_rfl) (by kernel_rfl) (fun _ _ _ h => h) (Or.inl ⟨by rfl, ?_⟩) (by assumption) ?_
        rotate_left
        · (intro wS hSw; obtain ⟨hSa, hSb⟩ := hSw; (try simp only [List.getElem_toArray, List.getElem_cons_succ, List.getElem_cons_zero]); go_simp; try (with_reducible rfl))
        try simp only [Act.put, List.getElem_toArray, List.getElem_cons_succ, List.getElem_cons_zero, List.setIfInBounds_toArray, List.set_cons_zero, List.set_cons_succ]
        refine wpAnyH_take (i := 26) (v := ?_) rfl (by kernel_rfl) (by kernel_rfl) (by kernel_rfl) (fun _ _ _ h => h) (Or.inl ⟨by rfl, ?_⟩) (by assumption) ?_
        rotate_left
        · (intro wS hSw; obtain ⟨hSa, hSb⟩ := hSw; (try simp only [List.getElem_toArray, List.getElem_cons_succ, List.getElem_cons_zero]); go_simp; try (with_reducible rfl))
        try simp only [Act.put, List.getElem_toArray, List.getElem_cons_succ, List.getElem_cons_zero, List.setIfInBounds_toArray, List.set_cons_zero, List.set_cons_succ]
        refine wpAnyH_take (i := 27) (v := ?_) rfl (by kernel_rfl) (by kernel_rfl) (by kernel_rfl) (fun _ _ _ h => h) (Or.inl ⟨by rfl, ?_⟩) (by assumption) ?_
        rotate_left
        · (intro wS hSw; obtain ⟨hSa, hSb⟩ := hSw; (try simp only [List.getElem_toArray, List.getElem_cons_succ, List.getElem_cons_zero]); go_simp; try (with_reducible rfl))
        try simp only [Act.put, List.getElem_toArray, List.getElem_cons_succ, List.getElem_cons_zero, List.setIfInBounds_toArray, List.set_cons_zero, List.set_cons_succ]
        refine wpAnyH_take (i := 28) (v := ?_) rfl (by kernel_rfl) (by kernel_rfl) (by kernel_rfl) (fun _ _ _ h => h) (Or.inl ⟨by rfl, ?_⟩) (by assumption) ?_
        rotate_left
        · (intro wS hSw; obtain ⟨hSa, hSb⟩ := hSw; (try simp only [List.getElem_toArray, List.getElem_cons_succ, List.getElem_cons_zero]); go_simp; try (with_reducible rfl))
        try simp only [Act.put, List.getElem_toArray, List.getElem_cons_succ, List.getElem_cons_zero, List.setIfInBounds_toArray, List.set_cons_zero, List.set_cons_succ]
        refine wpAnyH_ready (rs := [24]) (by kernel_rfl) (by simp) ?_
        refine AllReadyH.cons rfl (fun K hK => ?_) AllReadyH.nil
        go_simp
        refine (CD.out _ (HK1.out.trans HK5.out (fun _ _ h => h))).mono ?_
        rintro e v5 ⟨rfl, rfl⟩
        go_wp2_with fail
        refine hK.out _ _ ⟨HK5.out.cell d1 (fun h => h), HK5.out.cell d5 (fun h => h)⟩ (fun hHeld => ?_)
        clear hK K
        try simp only [Act.put, List.getElem_toArray, List.getElem_cons_succ, List.getElem_cons_zero, List.setIfInBounds_toArray, List.set_cons_zero, List.set_cons_succ]
        refine wpAnyH_take (i := 29) (v := ?_) rfl (by kernel_rfl) (by kernel_rfl) (by kernel_rfl) (fun _ _ _ h => h) (Or.inl ⟨by rfl, ?_⟩) (by assumption) ?_
        rotate_left
        · (intro wS hSw; obtain ⟨hSa, hSb⟩ := hSw; (try simp only [List.getElem_toArray, List.getElem_cons_succ, List.getElem_cons_zero]); go_simp; try (with_reducible rfl))
        try simp only [Act.put, List.getElem_toArray, List.getElem_cons_succ, List.getElem_cons_zero, List.setIfInBounds_toArray, List.set_cons_zero, List.set_cons_succ]
        refine wpAnyH_take (i := 30) (v := ?_) rfl (by kernel_rfl) (by kernel_rfl) (by kernel_rfl) (fun _ _ _ h => h) (Or.inl ⟨by rfl, ?_⟩) (by assumption) ?_
        rotate_left
        · (intro wS hSw; obtain ⟨hSa, hSb⟩ := hSw; (try simp only [List.getElem_toArray, List.getElem_cons_succ, List.getElem_cons_zero]); go_simp; try (with_reducible rfl))
        try simp only [Act.put, List.getElem_toArray, List.getElem_cons_succ, List.getElem_cons_zero, List.setIfInBounds_toArray, List.set_cons_zero, List.set_cons_succ]
        refine wpAnyH_done (by kernel_rfl) ?_ _
        refine NoPanic.normal ?_
        clear hHeld HR HK HNm CL CU CR CZ CD e1 e5
        go_wp2
        go_loopw [8] (fun z wr => ∃ j : Nat, j ≤ N ∧ z = .int .i64 (j : Int) ∧ Hid (Keep (fun _ => False) w1 wr)) (fun z _ => N - (intOf z).toNat)
        case atStart => exact ⟨0, by omega, rfl, HK5.out⟩
        case round =>
          obtain ⟨j, hj, rfl, HKr⟩ := hrel
          by_cases h9 : (j : Int) < (N : Int)
          · have hjl : j < s.now.length := by have := HN.out; omega
            obtain ⟨p, hp⟩ := getElem?_some_lt hjl
            obtain ⟨g, hg, _, _, c1, c2⟩ := HX.out j _ (ents_at hp)
            subst hg
            have a1 := HKr.out.cell c1 (fun h => h)
            have a2 := HKr.out.cell c2 (fun h => h)
            simp only at a1 a2
            obtain ⟨hfl, v, hv, hO⟩ := HFA.out j p hp
            obtain ⟨gf, cap, hvf, _, _, _, hcell⟩ := row_cells HRF.out (by omega)
            injection hvf with hxf _ hcap
            subst hxf
            obtain ⟨y, cy, hvy, _⟩ := hO.shape
            have b1 := (HK1.out.trans HKr.out (fun _ _ h => h)).cell (hcell _ _ (fileCells_at hv).1) (fun h => h)
            simp only [hvy] at b1
            rw [hvy] at hO
            have b2 := HKr.out.cell d2 (fun h => h)
            have b5 := HKr.out.cell d5 (fun h => h)
            have hAs := HSZ.out j p hp
            have hra := HRA.out j p hp
            have hnA := nm_sm p.1
            obtain ⟨A, hA⟩ : ∃ A, A = sm p.1 := ⟨_, rfl⟩
            obtain ⟨J, hJ⟩ : ∃ J, J = p.2 := ⟨_, rfl⟩
            rw [← hA] at a1 hAs hnA
            rw [← hJ] at a2 hfl b1 hO hra
            have cG := CG.out wr A hAs (HK1.out.trans HKr.out (fun _ _ h => h))
            rw [hnA] at cG
            obtain ⟨bs, hbs⟩ : ∃ bs, bs = (s.file J).bytes := ⟨_, rfl⟩
            rw [← hbs] at b1 hO hra
            obtain ⟨B, hB⟩ : ∃ B, B = bs.length := ⟨_, rfl⟩
            rw [← hB] at b1 hO
            have HO := Lib.hid hO
            have HB := Lib.hid hB
            have hJM : (J : Int) < (M : Int) := by omega
            clear hjl hp c1 c2 hv hcell hvy hA hJ hbs hB hO hnA hAs
            obtain ⟨hf1, hf2⟩ := hra.1 (by trivial)
            go_wp2_with fail
            refine cG.mono ?_
            rintro e v7 ⟨y7, n7, c7, hn7, rfl, _, _, _, k7⟩
            rw [hf2] at hn7
            simp only [List.length_nil] at hn7
            subst hn7
            rw [hf1]
            have HK7 : Hid (Keep (fun _ => False) w1 v7) := HKr.out.trans k7 (fun _ _ h => h)
            have g5 := HK7.out.cell d5 (fun h => h)
            clear k7 cG hra hf1 hf2
            go_wp2
            go_roundw
            case rel => exact ⟨j + 1, by omega, by go_num, HK7.out⟩
            case measure => simp [intOf]; omega
          · go_wp2
            go_ret
            exact ⟨rfl, (HK1.out.trans HKr.out (fun _ _ h => h))⟩
    · have HNm : Hid (Names wr u6 (allN s) ∧ (allN s).length ≤ 1000000) := by
        cases D with
        | true =>
          have e : allN s = [] := by unfold allN; rw [← HD.out]; rfl
          have hi0 := hDi rfl
          subst hi0
          rw [e]
          exact ⟨⟨0, HR.out.1⟩, by simp⟩
        | false =>
          have e : allN s = s.now.map (·.1) := by unfold allN; rw [← HD.out]; rfl
          have hiN : i = s.now.length := by have := HN.out; omega
          have := HR.out.1
          rw [hiN, List.take_length] at this
          rw [e]
          refine ⟨⟨0, ?_⟩, by rw [List.length_map]; have := HN.out; omega⟩
          rw [List.length_map, List.map_map]
          exact this
      clear hDi
      clear e2
      go_wp2_with fail
      refine wp_region_noPanic ?_
      refine wp_region_held_drew (S := fun w' => w'.cell? ⟨q, 1, none⟩ = some (.slice xl Z cl) ∧ w'.cell? ⟨q, 5, none⟩ = some (.bool D)) (by kernel_rfl) ⟨e1, e5⟩ (fun hHeld => ?_)
      refine wpAnyH_take (i := 0) (v := ?_) rfl (by kernel_rfl) (by kernel_rfl) (by kernel_rfl) (fun _ _ _ h => h) (Or.inl ⟨by rfl, ?_⟩) (by assumption) ?_
      rotate_left
      · (intro wS hSw; obtain ⟨hSa, hSb⟩ := hSw; (try simp only [List.getElem_toArray, List.getElem_cons_succ, List.getElem_cons_zero]); go_simp; try (with_reducible rfl))
      try simp only [Act.put, List.getElem_toArray, List.getElem_cons_succ, List.getElem_cons_zero, List.setIfInBounds_toArray, List.set_cons_zero, List.set_cons_succ]
      refine wpAnyH_take (i := 2) (v := ?_) rfl (by kernel_rfl) (by kernel_rfl) (by kernel_rfl) (fun _ _ _ h => h) (Or.inl ⟨by rfl, ?_⟩) (by assumption) ?_
      rotate_left
      · (intro wS hSw; obtain ⟨hSa, hSb⟩ := hSw; (try simp only [List.getElem_toArray, List.getElem_cons_succ, List.getElem_cons_zero]); go_simp; try (with_reducible rfl))
      try simp only [Act.put, List.getElem_toArray, List.getElem_cons_succ, List.getElem_cons_zero, List.setIfInBounds_toArray, List.set_cons_zero, List.set_cons_succ]
      refine wpAnyH_ready (rs := [1]) (by kernel_rfl) (by simp) ?_
      refine AllReadyH.cons rfl (fun K hK => ?_) AllReadyH.nil
      go_simp
      refine (CL.out _ (HK1.out.trans HK.out.drew (fun _ _ h => h))).mono ?_
      rintro e v1 ⟨nv, rfl, hnv, k1⟩
      have HK2 : Hid (Keep (fun _ => False) w1 v1) := HK.out.drew.trans k1 (fun _ _ h => h)
      have HNa := Lib.hid hnv
      have HNb : Hid (Names v1 u6 (allN s)) := HNm.out.1.keep (((Keep.refl (fun _ => False) wr).drew).trans k1 (fun _ _ h => h)) (fun _ _ h => h)
      clear hnv k1
      go_wp2_with fail
      refine hK.out _ _ ⟨HK2.out.cell d1 (fun h => h), HK2.out.cell d5 (fun h => h)⟩ (fun hHeld => ?_)
      clear hK K
      try simp only [Act.put, List.getElem_toArray, List.getElem_cons_succ, List.getElem_cons_zero, List.setIfInBounds_toArray, List.set_cons_zero, List.set_cons_succ]
      refine wpAnyH_ready (rs := [3]) (by kernel_rfl) (by simp) ?_
      refine AllReadyH.cons rfl (fun K hK => ?_) AllReadyH.nil
      go_simp
      refine (texts (allN s) HNm.out.2 nv u6 v1 HNa.out HNb.out).mono ?_
      rintro e v2 ⟨rfl, k2⟩
      have HK3 : Hid (Keep (fun _ => False) w1 v2) := HK2.out.trans k2 (fun _ _ h => h)
      clear k2 HNa HNb
      go_wp2_with fail
      refine hK.out _ _ ⟨HK3.out.cell d1 (fun h => h), HK3.out.cell d5 (fun h => h)⟩ (fun hHeld => ?_)
      clear hK K
      try simp only [Act.put, List.getElem_toArray, List.getElem_cons_succ, List.getElem_cons_zero, List.setIfInBounds_toArray, List.set_cons_zero, List.set_cons_succ]
      refine wpAnyH_take (i := 4) (v := ?_) rfl (by kernel_rfl) (by kernel_rfl) (by kernel_rfl) (fun _ _ _ h => h) (Or.inl ⟨by rfl, ?_⟩) (by assumption) ?_
      rotate_left
      · (intro wS hSw; obtain ⟨hSa, hSb⟩ := hSw; (try simp only [List.getElem_toArray, List.getElem_cons_succ, List.getElem_cons_zero]); go_simp; try (with_reducible rfl))
      try simp only [Act.put, List.getElem_toArray, List.getElem_cons_succ, List.getElem_cons_zero, List.setIfInBounds_toArray, List.set_cons_zero, List.set_cons_succ]
      refine wpAnyH_take (i := 5) (v := ?_) rfl (by kernel_rfl) (by kernel_rfl) (by kernel_rfl) (fun _ _ _ h => h) (Or.inl ⟨by rfl, ?_⟩) (by assumption) ?_
      rotate_left
      · (intro wS hSw; obtain ⟨hSa, hSb⟩ := hSw; (try simp only [List.getElem_toArray, List.getElem_cons_succ, List.getElem_cons_zero]); go_simp; try (with_reducible rfl))
      try simp only [Act.put, List.getElem_toArray, List.getElem_cons_succ, List.getElem_cons_zero, List.setIfInBounds_toArray, List.set_cons_zero, List.set_cons_succ]
      refine wpAnyH_take (i := 6) (v := ?_) rfl (by kernel_rfl) (by kernel_rfl) (by kernel_rfl) (fun _ _ _ h => h) (Or.inl ⟨by rfl, ?_⟩) (by assumption) ?_
      rotate_left
      · (intro wS hSw; obtain ⟨hSa, hSb⟩ := hSw; (try simp only [List.getElem_toArray, List.getElem_cons_succ, List.getElem_cons_zero]); go_simp; try (with_reducible rfl))
      try simp only [Act.put, List.getElem_toArray, List.getElem_cons_succ, List.getElem_cons_zero, List.setIfInBounds_toArray, List.set_cons_zero, List.set_cons_succ]
      refine wpAnyH_take (i := 8) (v := ?_) rfl (by kernel_rfl) (by kernel_rfl) (by kernel_rfl) (fun _ _ _ h => h) (Or.inl ⟨by rfl, ?_⟩) (by assumption) ?_
      rotate_left
      · (intro wS hSw; obtain ⟨hSa, hSb⟩ := hSw; (try simp only [List.getElem_toArray, List.getElem_cons_succ, List.getElem_cons_zero]); go_simp; try (with_reducible rfl))
      try simp only [Act.put, List.getElem_toArray, List.getElem_cons_succ, List.getElem_cons_zero, List.setIfInBounds_toArray, List.set_cons_zero, List.set_cons_succ]
      refine wpAnyH_ready (rs := [7]) (by kernel_rfl) (by simp) ?_
      refine AllReadyH.cons rfl (fun K hK => ?_) AllReadyH.nil
      go_simp
      refine (CU.out _ (HK1.out.trans HK3.out (fun _ _ h => h))).mono ?_
      rintro e v3 ⟨rfl, k3⟩
      have HK4 : Hid (Keep (fun _ => False) w1 v3) := HK3.out.trans k3 (fun _ _ h => h)
      clear k3
      go_wp2_with fail
      refine hK.out _ _ ⟨HK4.out.cell d1 (fun h => h), HK4.out.cell d5 (fun h => h)⟩ (fun hHeld => ?_)
      clear hK K
      try simp only [Act.put, List.getElem_toArray, List.getElem_cons_succ, List.getElem_cons_zero, List.setIfInBounds_toArray, List.set_cons_zero, List.set_cons_succ]
      refine wpAnyH_ready (rs := [9]) (by kernel_rfl) (by simp) ?_
      refine AllReadyH.cons rfl (fun K hK => ?_) AllReadyH.nil
      go_simp
      refine (CR.out _ (HK1.out.trans HK4.out (fun _ _ h => h))).mono ?_
      rintro e v4 ⟨rfl, k4⟩
      have HK5 : Hid (Keep (fun _ => False) w1 v4) := HK4.out.trans k4 (fun _ _ h => h)
      clear k4
      go_wp2_with fail
      refine hK.out _ _ ⟨HK5.out.cell d1 (fun h => h), HK5.out.cell d5 (fun h => h)⟩ (fun hHeld => ?_)
      clear hK K
      try simp only [Act.put, List.getElem_toArray, List.getElem_cons_succ, List.getElem_cons_zero, List.setIfInBounds_toArray, List.set_cons_zero, List.set_cons_succ]
      refine wpAnyH_take (i := 10) (v := ?_) rfl (by kernel_rfl) (by kernel_rfl) (by kernel_rfl) (fun _ _ _ h => h) (Or.inl ⟨by rfl, ?_⟩) (by assumption) ?_
      rotate_left
      · (intro wS hSw; obtain ⟨hSa, hSb⟩ := hSw; (try simp only [List.getElem_toArray, List.getElem_cons_succ, List.getElem_cons_zero]); go_simp; try (with_reducible rfl))
      try simp only [Act.put, List.getElem_toArray, List.getElem_cons_succ, List.getElem_cons_zero, List.setIfInBounds_toArray, List.set_cons_zero, List.set_cons_succ]
      refine wpAnyH_take (i := 11) (v := ?_) rfl (by kernel_rfl) (by kernel_rfl) (by kernel_rfl) (fun _ _ _ h => h) (Or.inl ⟨by rfl, ?_⟩) (by assumption) ?_
      rotate_left
      · (intro wS hSw; obtain ⟨hSa, hSb⟩ := hSw; (try simp only [List.getElem_toArray, List.getElem_cons_succ, List.getElem_cons_zero]); go_simp; try (with_reducible rfl))
      try simp only [Act.put, List.getElem_toArray, List.getElem_cons_succ, List.getElem_cons_zero, List.setIfInBounds_toArray, List.set_cons_zero, List.set_cons_succ]
      refine wpAnyH_take (i := 12) (v := ?_) rfl (by kernel_rfl) (by kernel_rfl) (by kernel_rfl) (fun _ _ _ h => h) (Or.inl ⟨by rfl, ?_⟩) (by assumption) ?_
      rotate_left
      · (intro wS hSw; obtain ⟨hSa, hSb⟩ := hSw; (try simp only [List.getElem_toArray, List.getElem_cons_succ, List.getElem_cons_zero]); go_simp; try (with_reducible rfl))
      try simp only [Act.put, List.getElem_toArray, List.getElem_cons_succ, List.getElem_cons_zero, List.setIfInBounds_toArray, List.set_cons_zero, List.set_cons_succ]
      refine wpAnyH_take (i := 13) (v := ?_) rfl (by kernel_rfl) (by kernel_rfl) (by kernel_rfl) (fun _ _ _ h => h) (Or.inl ⟨by rfl, ?_⟩) (by assumption) ?_
      rotate_left
      · (intro wS hSw; obtain ⟨hSa, hSb⟩ := hSw; (try simp only [List.getElem_toArray, List.getElem_cons_succ, List.getElem_cons_zero]); go_simp; try (with_reducible rfl))
      try simp only [Act.put, List.getElem_toArray, List.getElem_cons_succ, List.getElem_cons_zero, List.setIfInBounds_toArray, List.set_cons_zero, List.set_cons_succ]
      refine wpAnyH_take (i := 15) (v := ?_) rfl (by kernel_rfl) (by kernel_rfl) (by kernel_rfl) (fun _ _ _ h => h) (Or.inl ⟨by rfl, ?_⟩) (by assumption) ?_
      rotate_left
      · (intro wS hSw; obtain ⟨hSa, hSb⟩ := hSw; (try simp only [List.getElem_toArray, List.getElem_cons_succ, List.getElem_cons_zero]); go_simp; try (with_reducible rfl))
      try simp only [Act.put, List.getElem_toArray, List.getElem_cons_succ, List.getElem_cons_zero, List.setIfInBounds_toArray, List.set_cons_zero, List.set_cons_succ]
      refine wpAnyH_take (i := 16) (v := ?_) rfl (by kernel_rfl) (by kernel_rfl) (by kernel_rfl) (fun _ _ _ h => h) (Or.inl ⟨by rfl, ?_⟩) (by assumption) ?_
      rotate_left
      · (intro wS hSw; obtain ⟨hSa, hSb⟩ := hSw; (try simp only [List.getElem_toArray, List.getElem_cons_succ, List.getElem_cons_zero]); go_simp; try (with_reducible rfl))
      try simp only [Act.put, List.getElem_toArray, List.getElem_cons_succ, List.getElem_cons_zero, List.setIfInBounds_toArray, List.set_cons_zero, List.set_cons_succ]
      refine wpAnyH_take (i := 17) (v := ?_) rfl (by kernel_rfl) (by kernel_rfl) (by kernel_rfl) (fun _ _ _ h => h) (Or.inl ⟨by rfl, ?_⟩) (by assumption) ?_
      rotate_left
      · (intro wS hSw; obtain ⟨hSa, hSb⟩ := hSw; (try simp only [List.getElem_toArray, List.getElem_cons_succ, List.getElem_cons_zero]); go_simp; try (with_reducible rfl))
      try simp only [Act.put, List.getElem_toArray, List.getElem_cons_succ, List.getElem_cons_zero, List.setIfInBounds_toArray, List.set_cons_zero, List.set_cons_succ]
      refine wpAnyH_take (i := 18) (v := ?_) rfl (by kernel_rfl) (by kernel_rfl) (by kernel_rfl) (fun _ _ _ h => h) (Or.inl ⟨by rfl, ?_⟩) (by assumption) ?_
      rotate_left
      · (intro wS hSw; obtain ⟨hSa, hSb⟩ := hSw; (try simp only [List.getElem_toArray, List.getElem_cons_succ, List.getElem_cons_zero]); go_simp; try (with_reducible rfl))
      try simp only [Act.put, List.getElem_toArray, List.getElem_cons_succ, List.getElem_cons_zero, List.setIfInBounds_toArray, List.set_cons_zero, List.set_cons_succ]
      refine wpAnyH_take (i := 19) (v := ?_) rfl (by kernel_rfl) (by kernel_rfl) (by kernel_rfl) (fun _ _ _ h => h) (Or.inl ⟨by rfl, ?_⟩) (by assumption) ?_
      rotate_left
      · (intro wS hSw; obtain ⟨hSa, hSb⟩ := hSw; (try simp only [List.getElem_toArray, List.getElem_cons_succ, List.getElem_cons_zero]); go_simp; try (with_reducible rfl))
      try simp only [Act.put, List.getElem_toArray, List.getElem_cons_succ, List.getElem_cons_zero, List.setIfInBounds_toArray, List.set_cons_zero, List.set_cons_succ]
      refine wpAnyH_ready (rs := [14]) (by kernel_rfl) (by simp) ?_
      refine AllReadyH.cons rfl (fun K hK => ?_) AllReadyH.nil
      go_simp
      refine (CZ.out _ (HK1.out.trans HK5.out (fun _ _ h => h))).mono ?_
      rintro e v5 ⟨rfl, rfl⟩
      go_wp2_with fail
      refine hK.out _ _ ⟨HK5.out.cell d1 (fun h => h), HK5.out.cell d5 (fun h => h)⟩ (fun hHeld => ?_)
      clear hK K
      try simp only [Act.put, List.getElem_toArray, List.getElem_cons_succ, List.getElem_cons_zero, List.setIfInBounds_toArray, List.set_cons_zero, List.set_cons_succ]
      refine wpAnyH_take (i := 20) (v := ?_) rfl (by kernel_rfl) (by kernel_rfl) (by kernel_rfl) (fun _ _ _ h => h) (Or.inl ⟨by rfl, ?_⟩) (by assumption) ?_
      rotate_left
      · (intro wS hSw; obtain ⟨hSa, hSb⟩ := hSw; (try simp only [List.getElem_toArray, List.getElem_cons_succ, List.getElem_cons_zero]); go_simp; try (with_reducible rfl))
      try simp only [Act.put, List.getElem_toArray, List.getElem_cons_succ, List.getElem_cons_zero, List.setIfInBounds_toArray, List.set_cons_zero, List.set_cons_succ]
      refine wpAnyH_take (i := 21) (v := ?_) rfl (by kernel_rfl) (by kernel_rfl) (by kernel_rfl) (fun _ _ _ h => h) (Or.inl ⟨by rfl, ?_⟩) (by assumption) ?_
      rotate_left
      · (intro wS hSw; obtain ⟨hSa, hSb⟩ := hSw; (try simp only [List.getElem_toArray, List.getElem_cons_succ, List.getElem_cons_zero]); go_simp; try (with_reducible rfl))
      try simp only [Act.put, List.getElem_toArray, List.getElem_cons_succ, List.getElem_cons_zero, List.setIfInBounds_toArray, List.set_cons_zero, List.set_cons_succ]
      refine wpAnyH_take (i := 22) (v := ?_) rfl (by kernel_rfl) (by kernel_rfl) (by kernel_rfl) (fun _ _ _ h => h) (Or.inl ⟨by rfl, ?_⟩) (by assumption) ?_
      rotate_left
      · (intro wS hSw; obtain ⟨hSa, hSb⟩ := hSw; (try simp only [List.getElem_toArray, List.getElem_cons_succ, List.getElem_cons_zero]); go_simp; try (with_reducible rfl))
      try simp only [Act.put, List.getElem_toArray, List.getElem_cons_succ, List.getElem_cons_zero, List.setIfInBounds_toArray, List.set_cons_zero, List.set_cons_succ]
      refine wpAnyH_take (i := 23) (v := ?_) rfl (by kernel_rfl) (by kernel_rfl) (by kernel_rfl) (fun _ _ _ h => h) (Or.inl ⟨by rfl, ?_⟩) (by assumption) ?_
      rotate_left
      · (intro wS hSw; obtain ⟨hSa, hSb⟩ := hSw; (try simp only [List.getElem_toArray, List.getElem_cons_succ, List.getElem_cons_zero]); go_simp; try (with_reducible rfl))
      try simp only [Act.put, List.getElem_toArray, List.getElem_cons_succ, List.getElem_cons_zero, List.setIfInBounds_toArray, List.set_cons_zero, List.set_cons_succ]
      refine wpAnyH_take (i := 25) (v := ?_) rfl (by kernel_rfl) (by kernel_rfl) (by kernel_rfl) (fun _ _ _ h => h) (Or.inl ⟨by rfl, ?_⟩) (by assumption) ?_
      rotate_left
      · (intro wS hSw; obtain ⟨hSa, hSb⟩ := hSw; (try simp only [List.getElem_toArray, List.getElem_cons_succ, List.getElem_cons_zero]); go_simp; try (with_reducible rfl))
      try simp only [Act.put, List.getElem_toArray, List.getElem_cons_succ, List.getElem_cons_zero, List.setIfInBounds_toArray, List.set_cons_zero, List.set_cons_succ]
      refine wpAnyH_take (i := 26) (v := ?_) rfl (by kernel_rfl) (by kernel_rfl) (by kernel_rfl) (fun _ _ _ h => h) (Or.inl ⟨by rfl, ?_⟩) (by assumption) ?_
      rotate_left
      · (intro wS hSw; obtain ⟨hSa, hSb⟩ := hSw; (try simp only [List.getElem_toArray, List.getElem_cons_succ, List.getElem_cons_zero]); go_simp; try (with_reducible rfl))
      try simp only [Act.put, List.getElem_toArray, List.getElem_cons_succ, List.getElem_cons_zero, List.setIfInBounds_toArray, List.set_cons_zero, List.set_cons_succ]
      refine wpAnyH_take (i := 27) (v := ?_) rfl (by kernel_rfl) (by kernel_rfl) (by kernel_rfl) (fun _ _ _ h => h) (Or.inl ⟨by rfl, ?_⟩) (by assumption) ?_
      rotate_left
      · (intro wS hSw; obtain ⟨hSa, hSb⟩ := hSw; (try simp only [List.getElem_toArray, List.getElem_cons_succ, List.getElem_cons_zero]); go_simp; try (with_reducible rfl))
      try simp only [Act.put, List.getElem_toArray, List.getElem_cons_succ, List.getElem_cons_zero, List.setIfInBounds_toArray, List.set_cons_zero, List.set_cons_succ]
      refine wpAnyH_take (i := 28) (v := ?_) rfl (by kernel_rfl) (by kernel_rfl) (by kernel_rfl) (fun _ _ _ h => h) (Or.inl ⟨by rfl, ?_⟩) (by assumption) ?_
      rotate_left
      · (intro wS hSw; obtain ⟨hSa, hSb⟩ := hSw; (try simp only [List.getElem_toArray, List.getElem_cons_succ, List.getElem_cons_zero]); go_simp; try (with_reducible rfl))
      try simp only [Act.put, List.getElem_toArray, List.getElem_cons_succ, List.getElem_cons_zero, List.setIfInBounds_toArray, List.set_cons_zero, List.set_cons_succ]
      refine wpAnyH_ready (rs := [24]) (by kernel_rfl) (by simp) ?_
      refine AllReadyH.cons rfl (fun K hK => ?_) AllReadyH.nil
      go_simp
      refine (CD.out _ (HK1.out.trans HK5.out (fun _ _ h => h))).mono ?_
      rintro e v5 ⟨rfl, rfl⟩
      go_wp2_with fail
      refine hK.out _ _ ⟨HK5.out.cell d1 (fun h => h), HK5.out.cell d5 (fun h => h)⟩ (fun hHeld => ?_)
      clear hK K
      try simp only [Act.put, List.getElem_toArray, List.getElem_cons_succ, List.getElem_cons_zero, List.setIfInBounds_toArray, List.set_cons_zero, List.set_cons_succ]
      refine wpAnyH_take (i := 29) (v := ?_) rfl (by kernel_rfl) (by kernel_rfl) (by kernel_rfl) (fun _ _ _ h => h) (Or.inl ⟨by rfl, ?_⟩) (by assumption) ?_
      rotate_left
      · (intro wS hSw; obtain ⟨hSa, hSb⟩ := hSw; (try simp only [List.getElem_toArray, List.getElem_cons_succ, List.getElem_cons_zero]); go_simp; try (with_reducible rfl))
      try simp only [Act.put, List.getElem_toArray, List.getElem_cons_succ, List.getElem_cons_zero, List.setIfInBounds_toArray, List.set_cons_zero, List.set_cons_succ]
      refine wpAnyH_take (i := 30) (v := ?_) rfl (by kernel_rfl) (by kernel_rfl) (by kernel_rfl) (fun _ _ _ h => h) (Or.inl ⟨by rfl, ?_⟩) (by assumption) ?_
      rotate_left
      · (intro wS hSw; obtain ⟨hSa, hSb⟩ := hSw; (try simp only [List.getElem_toArray, List.getElem_cons_succ, List.getElem_cons_zero]); go_simp; try (with_reducible rfl))
      try simp only [Act.put, List.getElem_toArray, List.getElem_cons_succ, List.getElem_cons_zero, List.setIfInBounds_toArray, List.set_cons_zero, List.set_cons_succ]
      refine wpAnyH_done (by kernel_rfl) ?_ _
      refine NoPanic.normal ?_
      clear hHeld HR HK HNm CL CU CR CZ CD e1 e5
      go_wp2
      go_loopw [8] (fun z wr => ∃ j : Nat, j ≤ N ∧ z = .int .i64 (j : Int) ∧ Hid (Keep (fun _ => False) w1 wr)) (fun z _ => N - (intOf z).toNat)
      case atStart => exact ⟨0, by omega, rfl, HK5.out⟩
      case round =>
        obtain ⟨j, hj, rfl, HKr⟩ := hrel
        by_cases h9 : (j : Int) < (N : Int)
        · have hjl : j < s.now.length := by have := HN.out; omega
          obtain ⟨p, hp⟩ := getElem?_some_lt hjl
          obtain ⟨g, hg, _, _, c1, c2⟩ := HX.out j _ (ents_at hp)
          subst hg
          have a1 := HKr.out.cell c1 (fun h => h)
          have a2 := HKr.out.cell c2 (fun h => h)
          simp only at a1 a2
          obtain ⟨hfl, v, hv, hO⟩ := HFA.out j p hp
          obtain ⟨gf, cap, hvf, _, _, _, hcell⟩ := row_cells HRF.out (by omega)
          injection hvf with hxf _ hcap
          subst hxf
          obtain ⟨y, cy, hvy, _⟩ := hO.shape
          have b1 := (HK1.out.trans HKr.out (fun _ _ h => h)).cell (hcell _ _ (fileCells_at hv).1) (fun h => h)
          simp only [hvy] at b1
          rw [hvy] at hO
          have b2 := HKr.out.cell d2 (fun h => h)
          have b5 := HKr.out.cell d5 (fun h => h)
          have hAs := HSZ.out j p hp
          have hra := HRA.out j p hp
          have hnA := nm_sm p.1
          obtain ⟨A, hA⟩ : ∃ A, A = sm p.1 := ⟨_, rfl⟩
          obtain ⟨J, hJ⟩ : ∃ J, J = p.2 := ⟨_, rfl⟩
          rw [← hA] at a1 hAs hnA
          rw [← hJ] at a2 hfl b1 hO hra
          have cG := CG.out wr A hAs (HK1.out.trans HKr.out (fun _ _ h => h))
          rw [hnA] at cG
          obtain ⟨bs, hbs⟩ : ∃ bs, bs = (s.file J).bytes := ⟨_, rfl⟩
          rw [← hbs] at b1 hO hra
          obtain ⟨B, hB⟩ : ∃ B, B = bs.length := ⟨_, rfl⟩
          rw [← hB] at b1 hO
          have HO := Lib.hid hO
          have HB := Lib.hid hB
          have hJM : (J : Int) < (M : Int) := by omega
          clear hjl hp c1 c2 hv hcell hvy hA hJ hbs hB hO hnA hAs
          cases D with
          | true =>
            obtain ⟨hf1, hf2⟩ := hra.1 (by trivial)
            go_wp2_with fail
            refine cG.mono ?_
            rintro e v7 ⟨y7, n7, c7, hn7, rfl, _, _, _, k7⟩
            rw [hf2] at hn7
            simp only [List.length_nil] at hn7
            subst hn7
            rw [hf1]
            have HK7 : Hid (Keep (fun _ => False) w1 v7) := HKr.out.trans k7 (fun _ _ h => h)
            have g5 := HK7.out.cell d5 (fun h => h)
            clear k7 cG hra hf1 hf2
            go_wp2
            go_roundw
            case rel => exact ⟨j + 1, by omega, by go_num, HK7.out⟩
            case measure => simp [intOf]; omega
          | false =>
            obtain ⟨hf1, hf2⟩ := hra.2 (by trivial)
            go_wp2_with fail
            refine cG.mono ?_
            rintro e v7 ⟨y7, n7, c7, hn7, rfl, hO7, _, _, k7⟩
            rw [hf2] at hn7 hO7
            rw [hf1]
            have HK7 : Hid (Keep (fun _ => False) w1 v7) := HKr.out.trans k7 (fun _ _ h => h)
            have g5 := HK7.out.cell d5 (fun h => h)
            have g2 : v7.drew.cell? _ = _ := HK7.out.drew.cell d2 (fun h => h)
            have ga : v7.drew.cell? _ = _ := (k7.drew).cell a2 (fun h => h)
            have gb : v7.drew.cell? _ = _ := (k7.drew).cell b1 (fun h => h)
            have q1 := conv_own hO7 ((Keep.refl (fun _ => False) v7).drew)
            have q2 := conv_own HO.out (HK1.out.trans HK7.out.drew (fun _ _ h => h))
            obtain ⟨X, hX⟩ : ∃ X, X = str bs := ⟨_, rfl⟩
            rw [← hX] at q1 q2
            have hXX : (X.toList == X.toList) = true := by simp
            clear k7 cG hra hf1 hf2 hX hO7 a1 a2 b1 b2 b5 hn7
            go_wp2
            refine wp_region_noPanic ?_
            refine wp_region_held_drew (S := fun w' => w' = v7.drew) (by kernel_rfl) rfl (fun hHeld => ?_)
            refine wpAnyH_take (i := 0) (v := ?_) rfl (by kernel_rfl) (by kernel_rfl) (by kernel_rfl) (fun _ _ _ h => h) (Or.inl ⟨by rfl, ?_⟩) (by assumption) ?_
            rotate_left
            · (intro wS hSw; (try dsimp only at hSw); subst hSw; (try simp only [List.getElem_toArray, List.getElem_cons_succ, List.getElem_cons_zero]); go_simp; try (with_reducible rfl))
            try simp only [Act.put, List.getElem_toArray, List.getElem_cons_succ, List.getElem_cons_zero, List.setIfInBounds_toArray, List.set_cons_zero, List.set_cons_succ]
            refine wpAnyH_take (i := 1) (v := ?_) rfl (by kernel_rfl) (by kernel_rfl) (by kernel_rfl) (fun _ _ _ h => h) (Or.inl ⟨by rfl, ?_⟩) (by assumption) ?_
            rotate_left
            · (intro wS hSw; (try dsimp only at hSw); subst hSw; (try simp only [List.getElem_toArray, List.getElem_cons_succ, List.getElem_cons_zero]); go_simp; try (with_reducible rfl))
            try simp only [Act.put, List.getElem_toArray, List.getElem_cons_succ, List.getElem_cons_zero, List.setIfInBounds_toArray, List.set_cons_zero, List.set_cons_succ]
            refine wpAnyH_take (i := 2) (v := ?_) rfl (by kernel_rfl) (by kernel_rfl) (by kernel_rfl) (fun _ _ _ h => h) (Or.inl ⟨by rfl, ?_⟩) (by assumption) ?_
            rotate_left
            · (intro wS hSw; (try dsimp only at hSw); subst hSw; (try simp only [List.getElem_toArray, List.getElem_cons_succ, List.getElem_cons_zero]); go_simp; try (with_reducible rfl))
            try simp only [Act.put, List.getElem_toArray, List.getElem_cons_succ, List.getElem_cons_zero, List.setIfInBounds_toArray, List.set_cons_zero, List.set_cons_succ]
            refine wpAnyH_take (i := 3) (v := ?_) rfl (by kernel_rfl) (by kernel_rfl) (by kernel_rfl) (fun _ _ _ h => h) (Or.inl ⟨by rfl, ?_⟩) (by assumption) ?_
            rotate_left
            · (intro wS hSw; (try dsimp only at hSw); subst hSw; (try simp only [List.getElem_toArray, List.getElem_cons_succ, List.getElem_cons_zero]); go_simp; try (with_reducible rfl))
            try simp only [Act.put, List.getElem_toArray, List.getElem_cons_succ, List.getElem_cons_zero, List.setIfInBounds_toArray, List.set_cons_zero, List.set_cons_succ]
            refine wpAnyH_take (i := 4) (v := ?_) rfl (by kernel_rfl) (by kernel_rfl) (by kernel_rfl) (fun _ _ _ h => h) (Or.inl ⟨by rfl, ?_⟩) (by assumption) ?_
            rotate_left
            · (intro wS hSw; (try dsimp only at hSw); subst hSw; (try simp only [List.getElem_toArray, List.getElem_cons_succ, List.getElem_cons_zero]); go_simp; try (with_reducible rfl))
            try simp only [Act.put, List.getElem_toArray, List.getElem_cons_succ, List.getElem_cons_zero, List.setIfInBounds_toArray, List.set_cons_zero, List.set_cons_succ]
            refine wpAnyH_take (i := 5) (v := ?_) rfl (by kernel_rfl) (by kernel_rfl) (by kernel_rfl) (fun _ _ _ h => h) (Or.inl ⟨by rfl, ?_⟩) (by assumption) ?_
            rotate_left
            · (intro wS hSw; (try dsimp only at hSw); subst hSw; (try simp only [List.getElem_toArray, List.getElem_cons_succ, List.getElem_cons_zero]); go_simp; try (with_reducible rfl))
            try simp only [Act.put, List.getElem_toArray, List.getElem_cons_succ, List.getElem_cons_zero, List.setIfInBounds_toArray, List.set_cons_zero, List.set_cons_succ]
            refine wpAnyH_take (i := 6) (v := ?_) rfl (by kernel_rfl) (by kernel_rfl) (by kernel_rfl) (fun _ _ _ h => h) (Or.inl ⟨by rfl, ?_⟩) (by assumption) ?_
            rotate_left
            · (intro wS hSw; (try dsimp only at hSw); subst hSw; (try simp only [List.getElem_toArray, List.getElem_cons_succ, List.getElem_cons_zero]); go_simp; try (with_reducible rfl))
            try simp only [Act.put, List.getElem_toArray, List.getElem_cons_succ, List.getElem_cons_zero, List.setIfInBounds_toArray, List.set_cons_zero, List.set_cons_succ]
            refine wpAnyH_take (i := 7) (v := ?_) rfl (by kernel_rfl) (by kernel_rfl) (by kernel_rfl) (fun _ _ _ h => h) (Or.inl ⟨by rfl, ?_⟩) (by assumption) ?_
            rotate_left
            · (intro wS hSw; (try dsimp only at hSw); subst hSw; (try simp only [List.getElem_toArray, List.getElem_cons_succ, List.getElem_cons_zero]); go_simp; try (with_reducible rfl))
            try simp only [Act.put, List.getElem_toArray, List.getElem_cons_succ, List.getElem_cons_zero, List.setIfInBounds_toArray, List.set_cons_zero, List.set_cons_succ]
            refine wpAnyH_take (i := 8) (v := ?_) rfl (by kernel_rfl) (by kernel_rfl) (by kernel_rfl) (fun _ _ _ h => h) (Or.inl ⟨by rfl, ?_⟩) (by assumption) ?_
            rotate_left
            · (intro wS hSw; (try dsimp only at hSw); subst hSw; (try simp only [List.getElem_toArray, List.getElem_cons_succ, List.getElem_cons_zero]); go_simp; try (with_reducible rfl))
            try simp only [Act.put, List.getElem_toArray, List.getElem_cons_succ, List.getElem_cons_zero, List.setIfInBounds_toArray, List.set_cons_zero, List.set_cons_succ]
            refine wpAnyH_take (i := 9) (v := ?_) rfl (by kernel_rfl) (by kernel_rfl) (by kernel_rfl) (fun _ _ _ h => h) (Or.inl ⟨by rfl, ?_⟩) (by assumption) ?_
            rotate_left
            · (intro wS hSw; (try dsimp only at hSw); subst hSw; (try simp only [List.getElem_toArray, List.getElem_cons_succ, List.getElem_cons_zero]); go_simp; try (with_reducible rfl))
            try simp only [Act.put, List.getElem_toArray, List.getElem_cons_succ, List.getElem_cons_zero, List.setIfInBounds_toArray, List.set_cons_zero, List.set_cons_succ]
            refine wpAnyH_take (i := 10) (v := ?_) rfl (by kernel_rfl) (by kernel_rfl) (by kernel_rfl) (fun _ _ _ h => h) (Or.inl ⟨by rfl, ?_⟩) (by assumption) ?_
            rotate_left
            · (intro wS hSw; (try dsimp only at hSw); subst hSw; (try simp only [List.getElem_toArray, List.getElem_cons_succ, List.getElem_cons_zero]); go_simp; try (with_reducible rfl))
            try simp only [Act.put, List.getElem_toArray, List.getElem_cons_succ, List.getElem_cons_zero, List.setIfInBounds_toArray, List.set_cons_zero, List.set_cons_succ]
            refine wpAnyH_take (i := 11) (v := ?_) rfl (by kernel_rfl) (by kernel_rfl) (by kernel_rfl) (fun _ _ _ h => h) (Or.inl ⟨by rfl, ?_⟩) (by assumption) ?_
            rotate_left
            · (intro wS hSw; (try dsimp only at hSw); subst hSw; (try simp only [List.getElem_toArray, List.getElem_cons_succ, List.getElem_cons_zero]); go_simp; try (with_reducible rfl))
            try simp only [Act.put, List.getElem_toArray, List.getElem_cons_succ, List.getElem_cons_zero, List.setIfInBounds_toArray, List.set_cons_zero, List.set_cons_succ]
            refine wpAnyH_take (i := 12) (v := ?_) rfl (by kernel_rfl) (by kernel_rfl) (by kernel_rfl) (fun _ _ _ h => h) (Or.inl ⟨by rfl, ?_⟩) (by assumption) ?_
            rotate_left
            · (intro wS hSw; (try dsimp only at hSw); subst hSw; (try simp only [List.getElem_toArray, List.getElem_cons_succ, List.getElem_cons_zero]); go_simp; try (with_reducible rfl))
            try simp only [Act.put, List.getElem_toArray, List.getElem_cons_succ, List.getElem_cons_zero, List.setIfInBounds_toArray, List.set_cons_zero, List.set_cons_succ]
            refine wpAnyH_take (i := 13) (v := ?_) rfl (by kernel_rfl) (by kernel_rfl) (by kernel_rfl) (fun _ _ _ h => h) (Or.inl ⟨by rfl, ?_⟩) (by assumption) ?_
            rotate_left
            · (intro wS hSw; (try dsimp only at hSw); subst hSw; (try simp only [List.getElem_toArray, List.getElem_cons_succ, List.getElem_cons_zero]); go_simp; try (with_reducible rfl))
            try simp only [Act.put, List.getElem_toArray, List.getElem_cons_succ, List.getElem_cons_zero, List.setIfInBounds_toArray, List.set_cons_zero, List.set_cons_succ]
            refine wpAnyH_take (i := 14) (v := ?_) rfl (by kernel_rfl) (by kernel_rfl) (by kernel_rfl) (fun _ _ _ h => h) (Or.inl ⟨by rfl, ?_⟩) (by assumption) ?_
            rotate_left
            · (intro wS hSw; (try dsimp only at hSw); subst hSw; (try simp only [List.getElem_toArray, List.getElem_cons_succ, List.getElem_cons_zero]); go_simp; try (with_reducible rfl))
            try simp only [Act.put, List.getElem_toArray, List.getElem_cons_succ, List.getElem_cons_zero, List.setIfInBounds_toArray, List.set_cons_zero, List.set_cons_succ]
            refine wpAnyH_take (i := 15) (v := ?_) rfl (by kernel_rfl) (by kernel_rfl) (by kernel_rfl) (fun _ _ _ h => h) (Or.inl ⟨by rfl, ?_⟩) (by assumption) ?_
            rotate_left
            · (intro wS hSw; (try dsimp only at hSw); subst hSw; (try simp only [List.getElem_toArray, List.getElem_cons_succ, List.getElem_cons_zero]); go_simp; try (with_reducible rfl))
            try simp only [Act.put, List.getElem_toArray, List.getElem_cons_succ, List.getElem_cons_zero, List.setIfInBounds_toArray, List.set_cons_zero, List.set_cons_succ]
            refine wpAnyH_take (i := 16) (v := ?_) rfl (by kernel_rfl) (by kernel_rfl) (by kernel_rfl) (fun _ _ _ h => h) (Or.inl ⟨by rfl, ?_⟩) (by assumption) ?_
            rotate_left
            · (intro wS hSw; (try dsimp only at hSw); subst hSw; (try simp only [List.getElem_toArray, List.getElem_cons_succ, List.getElem_cons_zero]); go_simp; try (with_reducible rfl))
            try simp only [Act.put, List.getElem_toArray, List.getElem_cons_succ, List.getElem_cons_zero, List.setIfInBounds_toArray, List.set_cons_zero, List.set_cons_succ]
            refine wpAnyH_take (i := 17) (v := ?_) rfl (by kernel_rfl) (by kernel_rfl) (by kernel_rfl) (fun _ _ _ h => h) (Or.inl ⟨by rfl, ?_⟩) (by assumption) ?_
            rotate_left
            · (intro wS hSw; (try dsimp only at hSw); subst hSw; (try simp only [List.getElem_toArray, List.getElem_cons_succ, List.getElem_cons_zero]); go_simp; try (with_reducible rfl))
            try simp only [Act.put, List.getElem_toArray, List.getElem_cons_succ, List.getElem_cons_zero, List.setIfInBounds_toArray, List.set_cons_zero, List.set_cons_succ]
            refine wpAnyH_take (i := 18) (v := ?_) rfl (by kernel_rfl) (by kernel_rfl) (by kernel_rfl) (fun _ _ _ h => h) (Or.inl ⟨by rfl, ?_⟩) (by assumption) ?_
            rotate_left
            · (intro wS hSw; (try dsimp only at hSw); subst hSw; (try simp only [List.getElem_toArray, List.getElem_cons_succ, List.getElem_cons_zero]); go_simp; try (with_reducible rfl))
            try simp only [Act.put, List.getElem_toArray, List.getElem_cons_succ, List.getElem_cons_zero, List.setIfInBounds_toArray, List.set_cons_zero, List.set_cons_succ]
            refine wpAnyH_take (i := 19) (v := ?_) rfl (by kernel_rfl) (by kernel_rfl) (by kernel_rfl) (fun _ _ _ h => h) (Or.inl ⟨by rfl, ?_⟩) (by assumption) ?_
            rotate_left
            · (intro wS hSw; (try dsimp only at hSw); subst hSw; (try simp only [List.getElem_toArray, List.getElem_cons_succ, List.getElem_cons_zero]); go_simp; try (with_reducible rfl))
            try simp only [Act.put, List.getElem_toArray, List.getElem_cons_succ, List.getElem_cons_zero, List.setIfInBounds_toArray, List.set_cons_zero, List.set_cons_succ]
            refine wpAnyH_done (by kernel_rfl) ?_ _
            refine NoPanic.normal ?_
            go_wp2
            go_roundw
            case rel => exact ⟨j + 1, by omega, by go_num, HK7.out.drew⟩
            case measure => simp [intOf]; omega
        · go_wp2
          go_ret
          exact ⟨rfl, (HK1.out.trans HKr.out (fun _ _ h => h))⟩

end Go.Proofs.Ytgjkocjgkbjciaa.Fs
