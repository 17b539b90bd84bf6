/-
  What the document's 'Do' returns and does: create.
-/
import Derived.Test.YtgjkocjgkbjciaaRefE
namespace Go.Proofs.Ytgjkocjgkbjciaa.Fs
open Go.RowKit Go.Maps
set_option linter.unusedVariables false
set_option linter.unusedSimpArgs false

/-- One file more. -/
theorem RP.more {w2 w5 : World} {T : Nat → Prop} {r k cap : Nat} {y : Option Addr} {s : St} {vs vl vf : Value} {fl : FL} {cs : Array Value} (h : RP w2 T r s vs vl vf fl) (hR5 : Row w5 (Up T (w2.alloc (.cells cs 69)) w5) 69 2 (.slice y k cap) (s.files.length + 1) (fileCells fl ++ [.slice none 0 0, .int .i64 0])) (k5 : Keep (fun b => vf.ownBlock = some b) (w2.alloc (.cells cs 69)) w5) :
    RP (w5.setCell ⟨r, 2, none⟩ (.slice y k cap)) (Up T w2 (w5.setCell ⟨r, 2, none⟩ (.slice y k cap))) r (moreS s) vs vl (.slice y k cap) (fl ++ [(.slice none 0 0, ⟨[], 0⟩)]) ∧ Keep (fun b => vf.ownBlock = some b ∨ b = r) w2 (w5.setCell ⟨r, 2, none⟩ (.slice y k cap)) := by
  have hA4 : At (w2.alloc (.cells cs 69)) r 31 _ := h.fs.alloc _
  have hA5 := hA4.keep k5 (fun e => by
    obtain ⟨cs', h'⟩ := owns_at h.files.1 e
    exact At.ne h.fs h' (by decide) rfl)
  have kk : Keep (fun b => vf.ownBlock = some b ∨ b = r) w2 (w5.setCell ⟨r, 2, none⟩ (.slice y k cap)) :=
    (((Keep.refl _ w2).alloc _).trans (k5.mono (T := fun b => vf.ownBlock = some b ∨ b = r) (fun _ _ h => .inl h)) (fun _ _ h => h)).setCell (p := ⟨r, 2, none⟩) (fun _ => .inr rfl) _
  have hsz : w2.heap.size ≤ (w2.alloc (.cells cs 69)).heap.size := by simp
  have hs5 : (w5.setCell ⟨r, 2, none⟩ (.slice y k cap)).heap.size = w5.heap.size := by simp [World.setCell]
  have hm := h.mono (T' := Up T w2 (w5.setCell ⟨r, 2, none⟩ (.slice y k cap))) (fun b _ h => .inl h)
  have hne : ∀ {t : TypeId} {b : Nat} {cs : Array Value}, t ≠ 69 → t ≠ 31 → At w2 b t cs → ¬ (vf.ownBlock = some b ∨ b = r) := fun h1 h2 hb e => by
    rcases e with e | e
    · obtain ⟨cs', h'⟩ := owns_at h.files.1 e
      exact At.ne hb h' h1 rfl
    · subst e
      exact At.ne hb h.fs h2 rfl
  refine ⟨⟨hA5.put 2 _, hm.inT, hm.sure.keep kk (fun b cs _ hb => hne (by decide) (by decide) hb), hm.loose.keep kk (fun b cs _ hb => hne (by decide) (by decide) hb), ?_, ?_, fun p hp => ?_⟩, kk⟩
  · have hR6 := hR5.keep ((Keep.refl (· = r) w5).setCell (p := ⟨r, 2, none⟩) (fun _ => rfl) (.slice y k cap)) (fun b cs' _ hb e => At.ne hb hA5 (by decide) e)
    show Row _ _ 69 2 _ (s.files ++ [File.mk [] 0]).length _
    rw [List.length_append, fileCells_append]
    refine hR6.mono (fun b _ hb => ?_)
    rcases hb with hb | ⟨h1, h2⟩
    · exact .inl hb
    · exact .inr ⟨by omega, by omega⟩
  · show (fl ++ [(Value.slice none 0 0, File.mk [] 0)]).map (·.2) = s.files ++ [File.mk [] 0]
    rw [List.map_append, h.same]
    rfl
  · rcases List.mem_append.1 hp with hp | hp
    · refine ⟨(hm.own p hp).1.keep kk (fun b hb => ?_), (hm.own p hp).2⟩
      obtain ⟨cs, h5⟩ := owns_at (hm.own p hp).1.1 hb
      exact hne (by decide) (by decide) h5
    · simp at hp
      rw [hp]
      exact ⟨Own.empty _, fun b hb => by simp [Value.ownBlock] at hb⟩
theorem create_eq (s : St) (a : Nm) (hB : burnE s = 0) : ({ moreS (burnS s) with loose := (moreS (burnS s)).loose ++ [.mk a s.files.length] } : St) = chgS { s with files := s.files ++ [⟨[], 0⟩] } (.mk a s.files.length) := by
  obtain ⟨room, sure, loose, files, fuse, down⟩ := s
  cases fuse with
  | none => rfl
  | some n =>
    cases n with
    | zero => simp [burnE] at hB
    | succ n => rfl
theorem Keep.undrew {S : Nat → Prop} {w w' : World} (k : Keep S w.drew w') : Keep S w w' := ⟨k.os, k.tape, k.output, k.size, k.block⟩

set_option maxHeartbeats 4000000 in
set_option maxRecDepth 100000 in
theorem refCreate (r : Nat) (T : Nat → Prop) (s : St) (hb : s.bulk + 2 ≤ 1000000) (A B : ByteArray) (hA : A.size ≤ 9223372036854775807) (v5 : Value) (w : World) (h : Ref w T r s) :
    Calls Try.prog 15 #[.pointer (some ⟨r, 0, none⟩), .int .i64 1, .string A, .string B, v5] w (RW w T r (createS s (nm A)) (createE s (nm A))) := by
  have HGd := Lib.hid (show Good (createS s (nm A)) from by have := do_good h.2.1 ⟨1, 0, 0, A, B, []⟩ hb (by simp); simpa [doS] using this)
  have HRd := Lib.hid (show Rising (createS s (nm A)).sure from by have := do_rising h.2.2 ⟨1, 0, 0, A, B, []⟩; simpa [doS] using this)
  have cN := refName A hA w
  have cH := refHas r T s A w h
  have HRf := Lib.hid h
  obtain ⟨⟨vs, vl, vf, fl, hp⟩, hG, hRi⟩ := h
  have c5 := hp.fs.cell 5
  simp at c5
  obtain ⟨V, hV⟩ : ∃ V, V = isNm (nm A) := ⟨_, rfl⟩
  rw [← hV] at cN
  obtain ⟨D, hD⟩ : ∃ D, D = s.down := ⟨_, rfl⟩
  rw [← hD] at c5
  have HV := Lib.hid hV
  have HD := Lib.hid hD
  have HP := Lib.hid hp
  have HG := Lib.hid hG
  have HRi := Lib.hid hRi
  clear hV hD hp hG hRi
  cases V
  · have RD : Hid (readyE s [nm A] = 1) := by show _ = _; simp [readyE, ← HV.out]
    go_enter Try.func15, Try.ntmps15
    go_wp2_with (first | (go_at_call 17; refine cN.mono ?_; rintro e w' ⟨rfl, rfl⟩))
    go_ret
    have e1 : createE s (nm A) = 1 := by simp [createE, RD.out]
    have e2 : createS s (nm A) = s := by simp [createS, RD.out]
    rw [e1, e2]
    exact RW.same HRf.out (Keep.refl _ _)
  · cases D
    · have RD : Hid (readyE s [nm A] = 0) := by show _ = _; simp [readyE, ← HV.out, ← HD.out]
      rcases hget : get s.now (nm A) with _ | i
      · rw [hget] at cH
        simp only [hasI] at cH
        have HGe := Lib.hid hget
        clear hget
        obtain ⟨M, hM⟩ : ∃ M, M = s.now.length := ⟨_, rfl⟩
        have HM := Lib.hid hM
        have hMl : M ≤ 1000000 := by have h1 := now_length s; have h2 := HG.out.bulk; omega
        clear hM
        have dirC : Hid (∀ v, Keep (fun _ => False) w v → Calls Try.prog 35 #[.pointer (some ⟨r, 0, none⟩)] v fun e w' => ∃ u, e = .returned u ∧ ERow w' (Up T v w') u (ents s.now) ∧ Keep (fun _ => False) v w') := fun v k => refDir r T s v (HRf.out.keep k (fun _ _ h => h))
        by_cases h256 : 256 ≤ M
        · have hd : decide ((256 : Int) ≤ (M : Int)) = true := by simp; omega
          have H256 := Lib.hid h256
          clear h256
          go_enter Try.func15, Try.ntmps15
          go_wp2_with (first | (go_at_call 17; refine cN.mono ?_; rintro e w' ⟨rfl, rfl⟩))
          refine cH.mono ?_
          rintro e w1 ⟨rfl, k1⟩
          have HK1 := Lib.hid k1
          clear k1 cH cN
          go_wp2
          have cD := dirC.out w1.drew HK1.out.drew
          refine wp_region_noPanic ?_
          refine wp_region_held_drew (S := fun _ => True) (by kernel_rfl) trivial (fun hHeld => ?_)
          refine wpAnyH_take (i := 0) (v := ?_) rfl (by kernel_rfl) (by kernel_rfl) (by kernel_rfl) (fun _ _ _ h => h) (Or.inl ⟨by rfl, ?_⟩) (by assumption) ?_
          rotate_left
          · (intro wS hSw; (try dsimp only at hSw); (try simp only [List.getElem_toArray, List.getElem_cons_succ, List.getElem_cons_zero]); go_simp; try (with_reducible rfl))
          try simp only [Act.put, List.getElem_toArray, List.getElem_cons_succ, List.getElem_cons_zero, List.setIfInBounds_toArray, List.set_cons_zero, List.set_cons_succ]
          refine wpAnyH_take (i := 1) (v := ?_) rfl (by kernel_rfl) (by kernel_rfl) (by kernel_rfl) (fun _ _ _ h => h) (Or.inl ⟨by rfl, ?_⟩) (by assumption) ?_
          rotate_left
          · (intro wS hSw; (try dsimp only at hSw); (try simp only [List.getElem_toArray, List.getElem_cons_succ, List.getElem_cons_zero]); go_simp; try (with_reducible rfl))
          try simp only [Act.put, List.getElem_toArray, List.getElem_cons_succ, List.getElem_cons_zero, List.setIfInBounds_toArray, List.set_cons_zero, List.set_cons_succ]
          refine wpAnyH_take (i := 2) (v := ?_) rfl (by kernel_rfl) (by kernel_rfl) (by kernel_rfl) (fun _ _ _ h => h) (Or.inl ⟨by rfl, ?_⟩) (by assumption) ?_
          rotate_left
          · (intro wS hSw; (try dsimp only at hSw); (try simp only [List.getElem_toArray, List.getElem_cons_succ, List.getElem_cons_zero]); go_simp; try (with_reducible rfl))
          try simp only [Act.put, List.getElem_toArray, List.getElem_cons_succ, List.getElem_cons_zero, List.setIfInBounds_toArray, List.set_cons_zero, List.set_cons_succ]
          refine wpAnyH_take (i := 3) (v := ?_) rfl (by kernel_rfl) (by kernel_rfl) (by kernel_rfl) (fun _ _ _ h => h) (Or.inl ⟨by rfl, ?_⟩) (by assumption) ?_
          rotate_left
          · (intro wS hSw; (try dsimp only at hSw); (try simp only [List.getElem_toArray, List.getElem_cons_succ, List.getElem_cons_zero]); go_simp; try (with_reducible rfl))
          try simp only [Act.put, List.getElem_toArray, List.getElem_cons_succ, List.getElem_cons_zero, List.setIfInBounds_toArray, List.set_cons_zero, List.set_cons_succ]
          refine wpAnyH_ready (rs := [4]) (by kernel_rfl) (by simp) ?_
          refine AllReadyH.cons rfl (fun K hK => ?_) AllReadyH.nil
          go_simp
          refine cD.mono ?_
          rintro e w3 ⟨u, rfl, hR3, k3⟩
          obtain ⟨xu, cu, hu, _⟩ := ownsRow_shape hR3.1
          rw [ents_length, ← HM.out] at hu
          subst hu
          have HK3 : Hid (Keep (fun _ => False) w w3) := (HK1.out.drew).trans k3 (fun _ _ h => h)
          clear hR3 k3 cD
          go_wp2_with fail
          refine hK.out _ _ trivial (fun hHeld => ?_)
          clear hK K
          try simp only [Act.put, List.getElem_toArray, List.getElem_cons_succ, List.getElem_cons_zero, List.setIfInBounds_toArray, List.set_cons_zero, List.set_cons_succ]
          refine wpAnyH_take (i := 5) (v := ?_) rfl (by kernel_rfl) (by kernel_rfl) (by kernel_rfl) (fun _ _ _ h => h) (Or.inl ⟨by rfl, ?_⟩) (by assumption) ?_
          rotate_left
          · (intro wS hSw; (try dsimp only at hSw); (try simp only [List.getElem_toArray, List.getElem_cons_succ, List.getElem_cons_zero]); go_simp; try (with_reducible rfl))
          try simp only [Act.put, List.getElem_toArray, List.getElem_cons_succ, List.getElem_cons_zero, List.setIfInBounds_toArray, List.set_cons_zero, List.set_cons_succ]
          refine wpAnyH_take (i := 6) (v := ?_) rfl (by kernel_rfl) (by kernel_rfl) (by kernel_rfl) (fun _ _ _ h => h) (Or.inl ⟨by rfl, ?_⟩) (by assumption) ?_
          rotate_left
          · (intro wS hSw; (try dsimp only at hSw); (try simp only [List.getElem_toArray, List.getElem_cons_succ, List.getElem_cons_zero]); go_simp; try (with_reducible rfl))
          try simp only [Act.put, List.getElem_toArray, List.getElem_cons_succ, List.getElem_cons_zero, List.setIfInBounds_toArray, List.set_cons_zero, List.set_cons_succ]
          refine wpAnyH_take (i := 7) (v := ?_) rfl (by kernel_rfl) (by kernel_rfl) (by kernel_rfl) (fun _ _ _ h => h) (Or.inl ⟨by rfl, ?_⟩) (by assumption) ?_
          rotate_left
          · (intro wS hSw; (try dsimp only at hSw); (try simp only [List.getElem_toArray, List.getElem_cons_succ, List.getElem_cons_zero]); go_simp; try (with_reducible rfl))
          try simp only [Act.put, List.getElem_toArray, List.getElem_cons_succ, List.getElem_cons_zero, List.setIfInBounds_toArray, List.set_cons_zero, List.set_cons_succ]
          refine wpAnyH_take (i := 8) (v := ?_) rfl (by kernel_rfl) (by kernel_rfl) (by kernel_rfl) (fun _ _ _ h => h) (Or.inl ⟨by rfl, ?_⟩) (by assumption) ?_
          rotate_left
          · (intro wS hSw; (try dsimp only at hSw); (try simp only [List.getElem_toArray, List.getElem_cons_succ, List.getElem_cons_zero]); go_simp; try (with_reducible rfl))
          try simp only [Act.put, List.getElem_toArray, List.getElem_cons_succ, List.getElem_cons_zero, List.setIfInBounds_toArray, List.set_cons_zero, List.set_cons_succ]
          refine wpAnyH_take (i := 9) (v := undef) rfl (by kernel_rfl) (by kernel_rfl) (by kernel_rfl) (fun _ _ _ h => h) (Or.inr ⟨by rfl, rfl⟩) (by assumption) ?_
          try simp only [Act.put, List.getElem_toArray, List.getElem_cons_succ, List.getElem_cons_zero, List.setIfInBounds_toArray, List.set_cons_zero, List.set_cons_succ]
          refine wpAnyH_take (i := 10) (v := undef) rfl (by kernel_rfl) (by kernel_rfl) (by kernel_rfl) (fun _ _ _ h => h) (Or.inr ⟨by rfl, rfl⟩) (by assumption) ?_
          try simp only [Act.put, List.getElem_toArray, List.getElem_cons_succ, List.getElem_cons_zero, List.setIfInBounds_toArray, List.set_cons_zero, List.set_cons_succ]
          refine wpAnyH_take (i := 11) (v := undef) rfl (by kernel_rfl) (by kernel_rfl) (by kernel_rfl) (fun _ _ _ h => h) (Or.inr ⟨by rfl, rfl⟩) (by assumption) ?_
          try simp only [Act.put, List.getElem_toArray, List.getElem_cons_succ, List.getElem_cons_zero, List.setIfInBounds_toArray, List.set_cons_zero, List.set_cons_succ]
          refine wpAnyH_take (i := 12) (v := undef) rfl (by kernel_rfl) (by kernel_rfl) (by kernel_rfl) (fun _ _ _ h => h) (Or.inr ⟨by rfl, rfl⟩) (by assumption) ?_
          try simp only [Act.put, List.getElem_toArray, List.getElem_cons_succ, List.getElem_cons_zero, List.setIfInBounds_toArray, List.set_cons_zero, List.set_cons_succ]
          refine wpAnyH_take (i := 13) (v := undef) rfl (by kernel_rfl) (by kernel_rfl) (by kernel_rfl) (fun _ _ _ h => h) (Or.inr ⟨by rfl, rfl⟩) (by assumption) ?_
          try simp only [Act.put, List.getElem_toArray, List.getElem_cons_succ, List.getElem_cons_zero, List.setIfInBounds_toArray, List.set_cons_zero, List.set_cons_succ]
          refine wpAnyH_take (i := 14) (v := undef) rfl (by kernel_rfl) (by kernel_rfl) (by kernel_rfl) (fun _ _ _ h => h) (Or.inr ⟨by rfl, rfl⟩) (by assumption) ?_
          try simp only [Act.put, List.getElem_toArray, List.getElem_cons_succ, List.getElem_cons_zero, List.setIfInBounds_toArray, List.set_cons_zero, List.set_cons_succ]
          refine wpAnyH_take (i := 15) (v := undef) rfl (by kernel_rfl) (by kernel_rfl) (by kernel_rfl) (fun _ _ _ h => h) (Or.inr ⟨by rfl, rfl⟩) (by assumption) ?_
          try simp only [Act.put, List.getElem_toArray, List.getElem_cons_succ, List.getElem_cons_zero, List.setIfInBounds_toArray, List.set_cons_zero, List.set_cons_succ]
          refine wpAnyH_take (i := 16) (v := undef) rfl (by kernel_rfl) (by kernel_rfl) (by kernel_rfl) (fun _ _ _ h => h) (Or.inr ⟨by rfl, rfl⟩) (by assumption) ?_
          try simp only [Act.put, List.getElem_toArray, List.getElem_cons_succ, List.getElem_cons_zero, List.setIfInBounds_toArray, List.set_cons_zero, List.set_cons_succ]
          refine wpAnyH_take (i := 17) (v := undef) rfl (by kernel_rfl) (by kernel_rfl) (by kernel_rfl) (fun _ _ _ h => h) (Or.inr ⟨by rfl, rfl⟩) (by assumption) ?_
          try simp only [Act.put, List.getElem_toArray, List.getElem_cons_succ, List.getElem_cons_zero, List.setIfInBounds_toArray, List.set_cons_zero, List.set_cons_succ]
          refine wpAnyH_take (i := 18) (v := undef) rfl (by kernel_rfl) (by kernel_rfl) (by kernel_rfl) (fun _ _ _ h => h) (Or.inr ⟨by rfl, rfl⟩) (by assumption) ?_
          try simp only [Act.put, List.getElem_toArray, List.getElem_cons_succ, List.getElem_cons_zero, List.setIfInBounds_toArray, List.set_cons_zero, List.set_cons_succ]
          refine wpAnyH_take (i := 19) (v := undef) rfl (by kernel_rfl) (by kernel_rfl) (by kernel_rfl) (fun _ _ _ h => h) (Or.inr ⟨by rfl, rfl⟩) (by assumption) ?_
          try simp only [Act.put, List.getElem_toArray, List.getElem_cons_succ, List.getElem_cons_zero, List.setIfInBounds_toArray, List.set_cons_zero, List.set_cons_succ]
          refine wpAnyH_take (i := 20) (v := undef) rfl (by kernel_rfl) (by kernel_rfl) (by kernel_rfl) (fun _ _ _ h => h) (Or.inr ⟨by rfl, rfl⟩) (by assumption) ?_
          try simp only [Act.put, List.getElem_toArray, List.getElem_cons_succ, List.getElem_cons_zero, List.setIfInBounds_toArray, List.set_cons_zero, List.set_cons_succ]
          refine wpAnyH_take (i := 21) (v := undef) rfl (by kernel_rfl) (by kernel_rfl) (by kernel_rfl) (fun _ _ _ h => h) (Or.inr ⟨by rfl, rfl⟩) (by assumption) ?_
          try simp only [Act.put, List.getElem_toArray, List.getElem_cons_succ, List.getElem_cons_zero, List.setIfInBounds_toArray, List.set_cons_zero, List.set_cons_succ]
          refine wpAnyH_take (i := 22) (v := undef) rfl (by kernel_rfl) (by kernel_rfl) (by kernel_rfl) (fun _ _ _ h => h) (Or.inr ⟨by rfl, rfl⟩) (by assumption) ?_
          try simp only [Act.put, List.getElem_toArray, List.getElem_cons_succ, List.getElem_cons_zero, List.setIfInBounds_toArray, List.set_cons_zero, List.set_cons_succ]
          refine wpAnyH_take (i := 23) (v := ?_) rfl (by kernel_rfl) (by kernel_rfl) (by kernel_rfl) (fun _ _ _ h => h) (Or.inl ⟨by rfl, ?_⟩) (by assumption) ?_
          rotate_left
          · (intro wS hSw; (try dsimp only at hSw); (try simp only [List.getElem_toArray, List.getElem_cons_succ, List.getElem_cons_zero]); go_simp; try (with_reducible rfl))
          try simp only [Act.put, List.getElem_toArray, List.getElem_cons_succ, List.getElem_cons_zero, List.setIfInBounds_toArray, List.set_cons_zero, List.set_cons_succ]
          refine wpAnyH_done (by kernel_rfl) ?_ _
          refine NoPanic.normal ?_
          go_wp2
          go_ret
          have h256 := H256.out
          rw [HM.out] at h256
          have e1 : createE s (nm A) = 3 := by simp [createE, RD.out, HGe.out, h256]
          have e2 : createS s (nm A) = s := by simp [createS, RD.out, HGe.out, h256]
          rw [e1, e2]
          exact RW.same HRf.out HK3.out
        · have hd : decide ((256 : Int) ≤ (M : Int)) = false := by simp; omega
          have H256 := Lib.hid h256
          clear h256
          have hE : Hid (createE s (nm A) = burnE s) := by
            show _ = _
            have h256 := H256.out
            rw [HM.out] at h256
            simp [createE, RD.out, HGe.out, h256]
          rcases burnE_cases s with hB | hB
          · have hS : Hid (createS s (nm A) = chgS { s with files := s.files ++ [⟨[], 0⟩] } (.mk (nm A) s.files.length)) := by
              show _ = _
              have h256 := H256.out
              rw [HM.out] at h256
              simp [createS, RD.out, HGe.out, h256, hB]
            go_enter Try.func15, Try.ntmps15
            go_wp2_with (first | (go_at_call 17; refine cN.mono ?_; rintro e w' ⟨rfl, rfl⟩))
            refine cH.mono ?_
            rintro e w1 ⟨rfl, k1⟩
            have HK1 := Lib.hid k1
            clear k1 cH cN
            go_wp2
            have cD := dirC.out w1.drew HK1.out.drew
            refine wp_region_noPanic ?_
            refine wp_region_held_drew (S := fun _ => True) (by kernel_rfl) trivial (fun hHeld => ?_)
            refine wpAnyH_take (i := 0) (v := ?_) rfl (by kernel_rfl) (by kernel_rfl) (by kernel_rfl) (fun _ _ _ h => h) (Or.inl ⟨by rfl, ?_⟩) (by assumption) ?_
            rotate_left
            · (intro wS hSw; (try dsimp only at hSw); (try simp only [List.getElem_toArray, List.getElem_cons_succ, List.getElem_cons_zero]); go_simp; try (with_reducible rfl))
            try simp only [Act.put, List.getElem_toArray, List.getElem_cons_succ, List.getElem_cons_zero, List.setIfInBounds_toArray, List.set_cons_zero, List.set_cons_succ]
            refine wpAnyH_take (i := 1) (v := ?_) rfl (by kernel_rfl) (by kernel_rfl) (by kernel_rfl) (fun _ _ _ h => h) (Or.inl ⟨by rfl, ?_⟩) (by assumption) ?_
            rotate_left
            · (intro wS hSw; (try dsimp only at hSw); (try simp only [List.getElem_toArray, List.getElem_cons_succ, List.getElem_cons_zero]); go_simp; try (with_reducible rfl))
            try simp only [Act.put, List.getElem_toArray, List.getElem_cons_succ, List.getElem_cons_zero, List.setIfInBounds_toArray, List.set_cons_zero, List.set_cons_succ]
            refine wpAnyH_take (i := 2) (v := ?_) rfl (by kernel_rfl) (by kernel_rfl) (by kernel_rfl) (fun _ _ _ h => h) (Or.inl ⟨by rfl, ?_⟩) (by assumption) ?_
            rotate_left
            · (intro wS hSw; (try dsimp only at hSw); (try simp only [List.getElem_toArray, List.getElem_cons_succ, List.getElem_cons_zero]); go_simp; try (with_reducible rfl))
            try simp only [Act.put, List.getElem_toArray, List.getElem_cons_succ, List.getElem_cons_zero, List.setIfInBounds_toArray, List.set_cons_zero, List.set_cons_succ]
            refine wpAnyH_take (i := 3) (v := ?_) rfl (by kernel_rfl) (by kernel_rfl) (by kernel_rfl) (fun _ _ _ h => h) (Or.inl ⟨by rfl, ?_⟩) (by assumption) ?_
            rotate_left
            · (intro wS hSw; (try dsimp only at hSw); (try simp only [List.getElem_toArray, List.getElem_cons_succ, List.getElem_cons_zero]); go_simp; try (with_reducible rfl))
            try simp only [Act.put, List.getElem_toArray, List.getElem_cons_succ, List.getElem_cons_zero, List.setIfInBounds_toArray, List.set_cons_zero, List.set_cons_succ]
            refine wpAnyH_ready (rs := [4]) (by kernel_rfl) (by simp) ?_
            refine AllReadyH.cons rfl (fun K hK => ?_) AllReadyH.nil
            go_simp
            refine cD.mono ?_
            rintro e w3 ⟨u, rfl, hR3, k3⟩
            obtain ⟨xu, cu, hu, _⟩ := ownsRow_shape hR3.1
            rw [ents_length, ← HM.out] at hu
            subst hu
            have HK3 : Hid (Keep (fun _ => False) w w3) := (HK1.out.drew).trans k3 (fun _ _ h => h)
            clear hR3 k3 cD
            go_wp2_with fail
            refine hK.out _ _ trivial (fun hHeld => ?_)
            clear hK K
            try simp only [Act.put, List.getElem_toArray, List.getElem_cons_succ, List.getElem_cons_zero, List.setIfInBounds_toArray, List.set_cons_zero, List.set_cons_succ]
            refine wpAnyH_take (i := 5) (v := ?_) rfl (by kernel_rfl) (by kernel_rfl) (by kernel_rfl) (fun _ _ _ h => h) (Or.inl ⟨by rfl, ?_⟩) (by assumption) ?_
            rotate_left
            · (intro wS hSw; (try dsimp only at hSw); (try simp only [List.getElem_toArray, List.getElem_cons_succ, List.getElem_cons_zero]); go_simp; try (with_reducible rfl))
            try simp only [Act.put, List.getElem_toArray, List.getElem_cons_succ, List.getElem_cons_zero, List.setIfInBounds_toArray, List.set_cons_zero, List.set_cons_succ]
            refine wpAnyH_take (i := 6) (v := ?_) rfl (by kernel_rfl) (by kernel_rfl) (by kernel_rfl) (fun _ _ _ h => h) (Or.inl ⟨by rfl, ?_⟩) (by assumption) ?_
            rotate_left
            · (intro wS hSw; (try dsimp only at hSw); (try simp only [List.getElem_toArray, List.getElem_cons_succ, List.getElem_cons_zero]); go_simp; try (with_reducible rfl))
            try simp only [Act.put, List.getElem_toArray, List.getElem_cons_succ, List.getElem_cons_zero, List.setIfInBounds_toArray, List.set_cons_zero, List.set_cons_succ]
            refine wpAnyH_take (i := 7) (v := ?_) rfl (by kernel_rfl) (by kernel_rfl) (by kernel_rfl) (fun _ _ _ h => h) (Or.inl ⟨by rfl, ?_⟩) (by assumption) ?_
            rotate_left
            · (intro wS hSw; (try dsimp only at hSw); (try simp only [List.getElem_toArray, List.getElem_cons_succ, List.getElem_cons_zero]); go_simp; try (with_reducible rfl))
            try simp only [Act.put, List.getElem_toArray, List.getElem_cons_succ, List.getElem_cons_zero, List.setIfInBounds_toArray, List.set_cons_zero, List.set_cons_succ]
            refine wpAnyH_take (i := 8) (v := ?_) rfl (by kernel_rfl) (by kernel_rfl) (by kernel_rfl) (fun _ _ _ h => h) (Or.inl ⟨by rfl, ?_⟩) (by assumption) ?_
            rotate_left
            · (intro wS hSw; (try dsimp only at hSw); (try simp only [List.getElem_toArray, List.getElem_cons_succ, List.getElem_cons_zero]); go_simp; try (with_reducible rfl))
            try simp only [Act.put, List.getElem_toArray, List.getElem_cons_succ, List.getElem_cons_zero, List.setIfInBounds_toArray, List.set_cons_zero, List.set_cons_succ]
            refine wpAnyH_take (i := 9) (v := ?_) rfl (by kernel_rfl) (by kernel_rfl) (by kernel_rfl) (fun _ _ _ h => h) (Or.inl ⟨by rfl, ?_⟩) (by assumption) ?_
            rotate_left
            · (intro wS hSw; (try dsimp only at hSw); (try simp only [List.getElem_toArray, List.getElem_cons_succ, List.getElem_cons_zero]); go_simp; try (with_reducible rfl))
            try simp only [Act.put, List.getElem_toArray, List.getElem_cons_succ, List.getElem_cons_zero, List.setIfInBounds_toArray, List.set_cons_zero, List.set_cons_succ]
            refine wpAnyH_take (i := 10) (v := ?_) rfl (by kernel_rfl) (by kernel_rfl) (by kernel_rfl) (fun _ _ _ h => h) (Or.inl ⟨by rfl, ?_⟩) (by assumption) ?_
            rotate_left
            · (intro wS hSw; (try dsimp only at hSw); (try simp only [List.getElem_toArray, List.getElem_cons_succ, List.getElem_cons_zero]); go_simp; try (with_reducible rfl))
            try simp only [Act.put, List.getElem_toArray, List.getElem_cons_succ, List.getElem_cons_zero, List.setIfInBounds_toArray, List.set_cons_zero, List.set_cons_succ]
            refine wpAnyH_take (i := 11) (v := ?_) rfl (by kernel_rfl) (by kernel_rfl) (by kernel_rfl) (fun _ _ _ h => h) (Or.inl ⟨by rfl, ?_⟩) (by assumption) ?_
            rotate_left
            · (intro wS hSw; (try dsimp only at hSw); (try simp only [List.getElem_toArray, List.getElem_cons_succ, List.getElem_cons_zero]); go_simp; try (with_reducible rfl))
            try simp only [Act.put, List.getElem_toArray, List.getElem_cons_succ, List.getElem_cons_zero, List.setIfInBounds_toArray, List.set_cons_zero, List.set_cons_succ]
            refine wpAnyH_take (i := 12) (v := undef) rfl (by kernel_rfl) (by kernel_rfl) (by kernel_rfl) (fun _ _ _ h => h) (Or.inr ⟨by rfl, rfl⟩) (by assumption) ?_
            try simp only [Act.put, List.getElem_toArray, List.getElem_cons_succ, List.getElem_cons_zero, List.setIfInBounds_toArray, List.set_cons_zero, List.set_cons_succ]
            refine wpAnyH_take (i := 13) (v := undef) rfl (by kernel_rfl) (by kernel_rfl) (by kernel_rfl) (fun _ _ _ h => h) (Or.inr ⟨by rfl, rfl⟩) (by assumption) ?_
            try simp only [Act.put, List.getElem_toArray, List.getElem_cons_succ, List.getElem_cons_zero, List.setIfInBounds_toArray, List.set_cons_zero, List.set_cons_succ]
            refine wpAnyH_take (i := 14) (v := undef) rfl (by kernel_rfl) (by kernel_rfl) (by kernel_rfl) (fun _ _ _ h => h) (Or.inr ⟨by rfl, rfl⟩) (by assumption) ?_
            try simp only [Act.put, List.getElem_toArray, List.getElem_cons_succ, List.getElem_cons_zero, List.setIfInBounds_toArray, List.set_cons_zero, List.set_cons_succ]
            refine wpAnyH_take (i := 15) (v := undef) rfl (by kernel_rfl) (by kernel_rfl) (by kernel_rfl) (fun _ _ _ h => h) (Or.inr ⟨by rfl, rfl⟩) (by assumption) ?_
            try simp only [Act.put, List.getElem_toArray, List.getElem_cons_succ, List.getElem_cons_zero, List.setIfInBounds_toArray, List.set_cons_zero, List.set_cons_succ]
            refine wpAnyH_take (i := 16) (v := undef) rfl (by kernel_rfl) (by kernel_rfl) (by kernel_rfl) (fun _ _ _ h => h) (Or.inr ⟨by rfl, rfl⟩) (by assumption) ?_
            try simp only [Act.put, List.getElem_toArray, List.getElem_cons_succ, List.getElem_cons_zero, List.setIfInBounds_toArray, List.set_cons_zero, List.set_cons_succ]
            refine wpAnyH_take (i := 17) (v := undef) rfl (by kernel_rfl) (by kernel_rfl) (by kernel_rfl) (fun _ _ _ h => h) (Or.inr ⟨by rfl, rfl⟩) (by assumption) ?_
            try simp only [Act.put, List.getElem_toArray, List.getElem_cons_succ, List.getElem_cons_zero, List.setIfInBounds_toArray, List.set_cons_zero, List.set_cons_succ]
            refine wpAnyH_take (i := 18) (v := undef) rfl (by kernel_rfl) (by kernel_rfl) (by kernel_rfl) (fun _ _ _ h => h) (Or.inr ⟨by rfl, rfl⟩) (by assumption) ?_
            try simp only [Act.put, List.getElem_toArray, List.getElem_cons_succ, List.getElem_cons_zero, List.setIfInBounds_toArray, List.set_cons_zero, List.set_cons_succ]
            refine wpAnyH_take (i := 19) (v := undef) rfl (by kernel_rfl) (by kernel_rfl) (by kernel_rfl) (fun _ _ _ h => h) (Or.inr ⟨by rfl, rfl⟩) (by assumption) ?_
            try simp only [Act.put, List.getElem_toArray, List.getElem_cons_succ, List.getElem_cons_zero, List.setIfInBounds_toArray, List.set_cons_zero, List.set_cons_succ]
            refine wpAnyH_take (i := 20) (v := undef) rfl (by kernel_rfl) (by kernel_rfl) (by kernel_rfl) (fun _ _ _ h => h) (Or.inr ⟨by rfl, rfl⟩) (by assumption) ?_
            try simp only [Act.put, List.getElem_toArray, List.getElem_cons_succ, List.getElem_cons_zero, List.setIfInBounds_toArray, List.set_cons_zero, List.set_cons_succ]
            refine wpAnyH_take (i := 21) (v := undef) rfl (by kernel_rfl) (by kernel_rfl) (by kernel_rfl) (fun _ _ _ h => h) (Or.inr ⟨by rfl, rfl⟩) (by assumption) ?_
            try simp only [Act.put, List.getElem_toArray, List.getElem_cons_succ, List.getElem_cons_zero, List.setIfInBounds_toArray, List.set_cons_zero, List.set_cons_succ]
            refine wpAnyH_take (i := 22) (v := ?_) rfl (by kernel_rfl) (by kernel_rfl) (by kernel_rfl) (fun _ _ _ h => h) (Or.inl ⟨by rfl, ?_⟩) (by assumption) ?_
            rotate_left
            · (intro wS hSw; (try dsimp only at hSw); (try simp only [List.getElem_toArray, List.getElem_cons_succ, List.getElem_cons_zero]); go_simp; try (with_reducible rfl))
            try simp only [Act.put, List.getElem_toArray, List.getElem_cons_succ, List.getElem_cons_zero, List.setIfInBounds_toArray, List.set_cons_zero, List.set_cons_succ]
            refine wpAnyH_take (i := 23) (v := ?_) rfl (by kernel_rfl) (by kernel_rfl) (by kernel_rfl) (fun _ _ _ h => h) (Or.inl ⟨by rfl, ?_⟩) (by assumption) ?_
            rotate_left
            · (intro wS hSw; (try dsimp only at hSw); (try simp only [List.getElem_toArray, List.getElem_cons_succ, List.getElem_cons_zero]); go_simp; try (with_reducible rfl))
            try simp only [Act.put, List.getElem_toArray, List.getElem_cons_succ, List.getElem_cons_zero, List.setIfInBounds_toArray, List.set_cons_zero, List.set_cons_succ]
            refine wpAnyH_done (by kernel_rfl) ?_ _
            refine NoPanic.normal ?_
            have HPq : Hid (RP w3 T r s vs vl vf fl) := HP.out.keep (HK3.out) (fun _ _ h => h)
            have cP := refPower r T s vs vl vf fl w3 HPq.out HG.out
            rw [hB] at cP
            have HB := Lib.hid hB
            clear hB c5
            go_wp2_with fail
            refine cP.mono ?_
            rintro e w2 ⟨rfl, hp2, k2, z2⟩
            have HP2 := Lib.hid hp2
            have HK2 : Hid (Keep (· = r) w w2) := ((HK3.out).mono (fun _ _ h => h.elim)).trans k2 (fun _ _ h => h)
            have HZ2 := Lib.hid z2
            clear hp2 k2 z2 cP
            have c2 := HP2.out.fs.cell 2
            obtain ⟨xl, cl, hvl, hcl, _⟩ := ownsRow_shape HP2.out.loose.1
            simp at c2
            have hnl : (burnS s).loose.length ≤ 1000000 ∧ (burnS s).files.length ≤ 1000000 := by have h1 := (burn_good HG.out).bulk; unfold St.bulk at h1; omega
            have HNL := Lib.hid hnl
            have HR3 : Hid (Row (w2.alloc (.cells #[.slice none 0 0, .int .i64 0] 69)) T 69 2 vf (burnS s).files.length (fileCells fl)) := HP2.out.files.keep ((Keep.refl (fun _ => False) w2).alloc _) (fun _ _ _ _ h => h)
            have hA3 := HP2.out.fs.alloc (.cells #[.slice none 0 0, .int .i64 0] 69)
            have HA3 := Lib.hid hA3
            have hlt2 := HP2.out.fs.lt
            clear hA3 hnl hvl hcl
            go_wp2_with (refine wpList_append_row (by rfl) (.tmp 83) (.tmp 85) 29 69 (by rfl) _ 2 32 Try.underlying29 info69 rfl (by omega) vf _ _ rfl HR3.out ⟨w2.heap.size, 0, none⟩ 1 1 [.slice none 0 0, .int .i64 0] rfl rfl (new_cells [.slice none 0 0, .int .i64 0]) (by simp; (repeat' constructor)) (by have := HNL.out; omega) (by have := HNL.out; omega) ?_
                         intro y5 n5 cap5 w5 HN5 hR5 k5 hN5
                         have hA5 := HA3.out.keep k5 (fun e => by
                           obtain ⟨cs', h'⟩ := owns_at HP2.out.files.1 e
                           exact At.ne HP2.out.fs h' (by decide) rfl)
                         have c52 := hA5.cell 2
                         have f52 := hA5.frozen 2
                         simp at c52
                         have HR5 := Lib.hid hR5
                         have HK5 := Lib.hid k5
                         have hlt5 := hA5.lt
                         clear hR5 k5 hN5 hA5)
            obtain ⟨F, hF⟩ : ∃ F, F = s.files.length := ⟨_, rfl⟩
            have hn5 : n5 = F + 1 := by rw [HN5.out, burn_files, hF]
            obtain ⟨w6, hw6⟩ : ∃ w6, w6 = w5.setCell ⟨r, 2, none⟩ (.slice y5 n5 cap5) := ⟨_, rfl⟩
            rw [← hw6]
            obtain ⟨hq, kq⟩ := HP2.out.more HR5.out HK5.out
            rw [← hw6] at hq kq
            have g1 := hq.fs.cell 1
            have g2 := hq.fs.cell 2
            simp at g1 g2
            subst hn5
            have HQ := Lib.hid hq
            have HKq := Lib.hid kq
            have HFl := Lib.hid hF
            have hFl : F ≤ 1000000 := by have := HNL.out; rw [burn_files] at this; omega
            have hlt6 := hq.fs.lt
            clear hq kq hw6 hF c52 f52 c2 HR5 HK5 HA3 HR3
            have hml : (moreS (burnS s)).loose.length ≤ 1000000 := HNL.out.1
            refine wp_region_noPanic ?_
            refine wp_region_held_drew (S := fun w' => w'.cell? ⟨r, 2, none⟩ = some (.slice y5 (F + 1) cap5)) (by kernel_rfl) g2 (fun hHeld => ?_)
            refine wpAnyH_take (i := 0) (v := ?_) rfl (by kernel_rfl) (by kernel_rfl) (by kernel_rfl) (fun _ _ _ h => h) (Or.inl ⟨by rfl, ?_⟩) (by assumption) ?_
            rotate_left
            · (intro wS hSw; (try dsimp only at hSw); (try simp only [List.getElem_toArray, List.getElem_cons_succ, List.getElem_cons_zero]); go_simp; try (with_reducible rfl))
            try simp only [Act.put, List.getElem_toArray, List.getElem_cons_succ, List.getElem_cons_zero, List.setIfInBounds_toArray, List.set_cons_zero, List.set_cons_succ]
            refine wpAnyH_take (i := 1) (v := ?_) rfl (by kernel_rfl) (by kernel_rfl) (by kernel_rfl) (fun _ _ _ h => h) (Or.inl ⟨by rfl, ?_⟩) (by assumption) ?_
            rotate_left
            · (intro wS hSw; (try dsimp only at hSw); (try simp only [List.getElem_toArray, List.getElem_cons_succ, List.getElem_cons_zero]); go_simp; try (with_reducible rfl))
            try simp only [Act.put, List.getElem_toArray, List.getElem_cons_succ, List.getElem_cons_zero, List.setIfInBounds_toArray, List.set_cons_zero, List.set_cons_succ]
            refine wpAnyH_take (i := 2) (v := ?_) rfl (by kernel_rfl) (by kernel_rfl) (by kernel_rfl) (fun _ _ _ h => h) (Or.inl ⟨by rfl, ?_⟩) (by assumption) ?_
            rotate_left
            · (intro wS hSw; (try dsimp only at hSw); (try simp only [List.getElem_toArray, List.getElem_cons_succ, List.getElem_cons_zero]); go_simp; try (with_reducible rfl))
            try simp only [Act.put, List.getElem_toArray, List.getElem_cons_succ, List.getElem_cons_zero, List.setIfInBounds_toArray, List.set_cons_zero, List.set_cons_succ]
            refine wpAnyH_take (i := 3) (v := ?_) rfl (by kernel_rfl) (by kernel_rfl) (by kernel_rfl) (fun _ _ _ h => h) (Or.inl ⟨by rfl, ?_⟩) (by assumption) ?_
            rotate_left
            · (intro wS hSw; (try dsimp only at hSw); (try simp only [List.getElem_toArray, List.getElem_cons_succ, List.getElem_cons_zero]); go_simp; try (with_reducible rfl))
            try simp only [Act.put, List.getElem_toArray, List.getElem_cons_succ, List.getElem_cons_zero, List.setIfInBounds_toArray, List.set_cons_zero, List.set_cons_succ]
            refine wpAnyH_take (i := 5) (v := ?_) rfl (by kernel_rfl) (by kernel_rfl) (by kernel_rfl) (fun _ _ _ h => h) (Or.inl ⟨by rfl, ?_⟩) (by assumption) ?_
            rotate_left
            · (intro wS hSw; (try dsimp only at hSw); (try simp only [List.getElem_toArray, List.getElem_cons_succ, List.getElem_cons_zero]); go_simp; try (with_reducible rfl))
            try simp only [Act.put, List.getElem_toArray, List.getElem_cons_succ, List.getElem_cons_zero, List.setIfInBounds_toArray, List.set_cons_zero, List.set_cons_succ]
            refine wpAnyH_take (i := 6) (v := ?_) rfl (by kernel_rfl) (by kernel_rfl) (by kernel_rfl) (fun _ _ _ h => h) (Or.inl ⟨by rfl, ?_⟩) (by assumption) ?_
            rotate_left
            · (intro wS hSw; (try dsimp only at hSw); (try simp only [List.getElem_toArray, List.getElem_cons_succ, List.getElem_cons_zero]); go_simp; try (with_reducible rfl))
            try simp only [Act.put, List.getElem_toArray, List.getElem_cons_succ, List.getElem_cons_zero, List.setIfInBounds_toArray, List.set_cons_zero, List.set_cons_succ]
            refine wpAnyH_take (i := 7) (v := ?_) rfl (by kernel_rfl) (by kernel_rfl) (by kernel_rfl) (fun _ _ _ h => h) (Or.inl ⟨by rfl, ?_⟩) (by assumption) ?_
            rotate_left
            · (intro wS hSw; (try dsimp only at hSw); (try simp only [List.getElem_toArray, List.getElem_cons_succ, List.getElem_cons_zero]); go_simp; try (with_reducible rfl))
            try simp only [Act.put, List.getElem_toArray, List.getElem_cons_succ, List.getElem_cons_zero, List.setIfInBounds_toArray, List.set_cons_zero, List.set_cons_succ]
            refine wpAnyH_take (i := 8) (v := ?_) rfl (by kernel_rfl) (by kernel_rfl) (by kernel_rfl) (fun _ _ _ h => h) (Or.inl ⟨by rfl, ?_⟩) (by assumption) ?_
            rotate_left
            · (intro wS hSw; (try dsimp only at hSw); (try simp only [List.getElem_toArray, List.getElem_cons_succ, List.getElem_cons_zero]); go_simp; try (with_reducible rfl))
            try simp only [Act.put, List.getElem_toArray, List.getElem_cons_succ, List.getElem_cons_zero, List.setIfInBounds_toArray, List.set_cons_zero, List.set_cons_succ]
            refine wpAnyH_take (i := 9) (v := ?_) rfl (by kernel_rfl) (by kernel_rfl) (by kernel_rfl) (fun _ _ _ h => h) (Or.inl ⟨by rfl, ?_⟩) (by assumption) ?_
            rotate_left
            · (intro wS hSw; (try dsimp only at hSw); (try simp only [List.getElem_toArray, List.getElem_cons_succ, List.getElem_cons_zero]); go_simp; try (with_reducible rfl))
            try simp only [Act.put, List.getElem_toArray, List.getElem_cons_succ, List.getElem_cons_zero, List.setIfInBounds_toArray, List.set_cons_zero, List.set_cons_succ]
            refine wpAnyH_take (i := 10) (v := ?_) rfl (by kernel_rfl) (by kernel_rfl) (by kernel_rfl) (fun _ _ _ h => h) (Or.inl ⟨by rfl, ?_⟩) (by assumption) ?_
            rotate_left
            · (intro wS hSw; (try dsimp only at hSw); (try simp only [List.getElem_toArray, List.getElem_cons_succ, List.getElem_cons_zero]); go_simp; try (with_reducible rfl))
            try simp only [Act.put, List.getElem_toArray, List.getElem_cons_succ, List.getElem_cons_zero, List.setIfInBounds_toArray, List.set_cons_zero, List.set_cons_succ]
            refine wpAnyH_take (i := 11) (v := ?_) rfl (by kernel_rfl) (by kernel_rfl) (by kernel_rfl) (fun _ _ _ h => h) (Or.inl ⟨by rfl, ?_⟩) (by assumption) ?_
            rotate_left
            · (intro wS hSw; (try dsimp only at hSw); (try simp only [List.getElem_toArray, List.getElem_cons_succ, List.getElem_cons_zero]); go_simp; try (with_reducible rfl))
            try simp only [Act.put, List.getElem_toArray, List.getElem_cons_succ, List.getElem_cons_zero, List.setIfInBounds_toArray, List.set_cons_zero, List.set_cons_succ]
            rw [IntWalk.i64_in (F : Int) (by omega)]
            refine wpAnyH_take (i := 12) (v := ?_) rfl (by kernel_rfl) (by kernel_rfl) (by kernel_rfl) (fun _ _ _ h => h) (Or.inl ⟨by rfl, ?_⟩) (by assumption) ?_
            rotate_left
            · (intro wS hSw; (try dsimp only at hSw); (try simp only [List.getElem_toArray, List.getElem_cons_succ, List.getElem_cons_zero]); go_simp; try (with_reducible rfl))
            try simp only [Act.put, List.getElem_toArray, List.getElem_cons_succ, List.getElem_cons_zero, List.setIfInBounds_toArray, List.set_cons_zero, List.set_cons_succ]
            have HR7 : Hid (Row ((w6.alloc (.cells #[.int .i64 1, .string A, .string ⟨#[]⟩, .int .i64 (F : Int)] 71)).drew) (Up T w2 w6) 71 4 vl (moreS (burnS s)).loose.length (chgCells (moreS (burnS s)).loose)) := HQ.out.loose.keep (((Keep.refl (fun _ => False) w6).alloc _).drew) (fun _ _ _ _ h => h)
            obtain ⟨v7, w7, hr7, hR7, k7, hN7⟩ := run_append_row 28 71 28 _ 4 48 Try.underlying28 info71 rfl (by omega) vl _ _ HR7.out ⟨w6.heap.size, 0, none⟩ 1 1 [.int .i64 1, .string A, .string ⟨#[]⟩, .int .i64 (F : Int)] rfl (new_cells (w := w6) [.int .i64 1, .string A, .string ⟨#[]⟩, .int .i64 (F : Int)]) (by simp; (repeat' constructor)) (by omega) (by omega)
            obtain ⟨y7, cap7, hv7, _, _⟩ := ownsRow_shape hR7.1
            subst hv7
            have hA7 := (HQ.out.fs.alloc (.cells #[.int .i64 1, .string A, .string ⟨#[]⟩, .int .i64 (F : Int)] 71)).drew.keep k7 (fun e => by
              obtain ⟨cs', h'⟩ := owns_at HQ.out.loose.1 e
              exact At.ne HQ.out.fs h' (by decide) rfl)
            have c71 := hA7.cell 1
            have c72 := hA7.cell 2
            have f71 := hA7.frozen 1
            simp at c71 c72
            have HR7' := Lib.hid hR7
            have HK7 := Lib.hid k7
            have hlt7 := hA7.lt
            have HA7 := Lib.hid hA7
            clear hR7 k7 hN7 hA7 HR7
            have g2a : ((w6.alloc (.cells #[.int .i64 1, .string A, .string ⟨#[]⟩, .int .i64 (F : Int)] 71)).drew).cell? ⟨r, 2, none⟩ = some (.slice y5 (F + 1) cap5) := (((Keep.refl (fun _ => False) w6).alloc _).drew).cell g2 (fun h => h)
            have g1a : ((w6.alloc (.cells #[.int .i64 1, .string A, .string ⟨#[]⟩, .int .i64 (F : Int)] 71)).drew).cell? ⟨r, 1, none⟩ = some vl := (((Keep.refl (fun _ => False) w6).alloc _).drew).cell g1 (fun h => h)
            have g1d : w6.drew.cell? ⟨r, 1, none⟩ = some vl := g1
            refine wpAnyH_ready (rs := [4, 13]) (by kernel_rfl) (by simp) ?_
            refine AllReadyH.cons rfl (fun K hK => ?_) (AllReadyH.cons rfl (fun K hK => ?_) AllReadyH.nil)
            · go_simp
              refine hK.out _ _ g2 (fun hHeld => ?_)
              clear hK K
              try simp only [Act.put, List.getElem_toArray, List.getElem_cons_succ, List.getElem_cons_zero, List.setIfInBounds_toArray, List.set_cons_zero, List.set_cons_succ]
              refine wpAnyH_ready (rs := [13]) (by kernel_rfl) (by simp) ?_
              refine AllReadyH.cons rfl (fun K hK => ?_) AllReadyH.nil
              go_simp
              refine hK.out _ _ g2a (fun hHeld => ?_)
              clear hK K
              try simp only [Act.put, List.getElem_toArray, List.getElem_cons_succ, List.getElem_cons_zero, List.setIfInBounds_toArray, List.set_cons_zero, List.set_cons_succ]
              refine wpAnyH_ready (rs := [14]) (by kernel_rfl) (by simp) ?_
              refine AllReadyH.cons rfl (fun K hK => ?_) AllReadyH.nil
              refine wp_append_runT (by rfl) (by rfl) (by rfl) hr7 ?_
              refine hK.out _ _ c72 (fun hHeld => ?_)
              clear hK K
              try simp only [Act.put, List.getElem_toArray, List.getElem_cons_succ, List.getElem_cons_zero, List.setIfInBounds_toArray, List.set_cons_zero, List.set_cons_succ]
              refine wpAnyH_take (i := 15) (v := ?_) rfl (by kernel_rfl) (by kernel_rfl) (by kernel_rfl) (fun _ _ _ h => h) (Or.inl ⟨by rfl, ?_⟩) (by assumption) ?_
              rotate_left
              · (intro wS hSw; (try dsimp only at hSw); (try simp only [List.getElem_toArray, List.getElem_cons_succ, List.getElem_cons_zero]); go_simp; try (with_reducible rfl))
              try simp only [Act.put, List.getElem_toArray, List.getElem_cons_succ, List.getElem_cons_zero, List.setIfInBounds_toArray, List.set_cons_zero, List.set_cons_succ]
              refine wpAnyH_take (i := 16) (v := ?_) rfl (by kernel_rfl) (by kernel_rfl) (by kernel_rfl) (fun _ _ _ h => h) (Or.inl ⟨by rfl, ?_⟩) (by assumption) ?_
              rotate_left
              · (intro wS hSw; (try dsimp only at hSw); (try simp only [List.getElem_toArray, List.getElem_cons_succ, List.getElem_cons_zero]); go_simp; try (with_reducible rfl))
              try simp only [Act.put, List.getElem_toArray, List.getElem_cons_succ, List.getElem_cons_zero, List.setIfInBounds_toArray, List.set_cons_zero, List.set_cons_succ]
              refine wpAnyH_ready (rs := [17]) (by kernel_rfl) (by simp) ?_
              refine AllReadyH.cons rfl (fun K hK => ?_) AllReadyH.nil
              go_simp
              refine hK.out _ _ (by have h := (HA7.out.put 1 (.slice y7 ((moreS (burnS s)).loose.length + 1) cap7)).cell 2; simpa using h) (fun hHeld => ?_)
              clear hK K
              try simp only [Act.put, List.getElem_toArray, List.getElem_cons_succ, List.getElem_cons_zero, List.setIfInBounds_toArray, List.set_cons_zero, List.set_cons_succ]
              refine wpAnyH_done (by kernel_rfl) ?_ _
              refine NoPanic.normal ?_
              go_wp2
              go_ret
              have hgd := HGd.out
              have hrd := HRd.out
              rw [hS.out, ← create_eq s (nm A) HB.out] at hgd hrd
              rw [hE.out, HB.out, hS.out, ← create_eq s (nm A) HB.out]
              have hcl : chgL (.mk (nm A) s.files.length) = [.int .i64 1, .string A, .string ⟨#[]⟩, .int .i64 (F : Int)] := by
                unfold chgL
                simp only [kindOf, fromOf, toOf, fileOf, sm_nm]
                rw [HFl.out]
                rfl
              obtain ⟨hq2, kq2⟩ := HQ.out.grown (c := .mk (nm A) s.files.length) (cs := #[.int .i64 1, .string A, .string ⟨#[]⟩, .int .i64 (F : Int)]) (y := y7) (k := (moreS (burnS s)).loose.length + 1) (cap := cap7) (w5 := w7) (by rw [hcl]; exact HR7'.out) HK7.out.undrew
              have hw2 := HK2.out.size
              have hw6 := HKq.out.size
              have hw8 := kq2.size
              refine ⟨rfl, ⟨⟨_, _, _, _, hq2.mono (fun b _ h => ?_)⟩, hgd, hrd⟩, ?_⟩
              · rcases h with (h | ⟨h1, h2⟩) | ⟨h1, h2⟩
                · exact .inl h
                · exact .inr ⟨by omega, by omega⟩
                · exact .inr ⟨by omega, h2⟩
              · have ka := (HK2.out.mono (T := T) (fun b _ e => by rw [e]; exact HP2.out.inT)).trans (HKq.out.mono (T := T) (fun b _ h => by
                  rcases h with h | h
                  · exact HP2.out.files.2 b h
                  · rw [h]; exact HP2.out.inT)) (fun _ _ h => h)
                exact ka.trans kq2 (fun b hb h => by
                  rcases h with h | h
                  · rcases HQ.out.loose.2 b h with h' | ⟨h', _⟩
                    · exact h'
                    · omega
                  · rw [h]; exact HP2.out.inT)
            · go_simp
              refine hK.out _ _ g2a (fun hHeld => ?_)
              clear hK K
              try simp only [Act.put, List.getElem_toArray, List.getElem_cons_succ, List.getElem_cons_zero, List.setIfInBounds_toArray, List.set_cons_zero, List.set_cons_succ]
              refine wpAnyH_ready (rs := [4]) (by kernel_rfl) (by simp) ?_
              refine AllReadyH.cons rfl (fun K hK => ?_) AllReadyH.nil
              go_simp
              refine hK.out _ _ g2a (fun hHeld => ?_)
              clear hK K
              try simp only [Act.put, List.getElem_toArray, List.getElem_cons_succ, List.getElem_cons_zero, List.setIfInBounds_toArray, List.set_cons_zero, List.set_cons_succ]
              refine wpAnyH_ready (rs := [14]) (by kernel_rfl) (by simp) ?_
              refine AllReadyH.cons rfl (fun K hK => ?_) AllReadyH.nil
              refine wp_append_runT (by rfl) (by rfl) (by rfl) hr7 ?_
              refine hK.out _ _ c72 (fun hHeld => ?_)
              clear hK K
              try simp only [Act.put, List.getElem_toArray, List.getElem_cons_succ, List.getElem_cons_zero, List.setIfInBounds_toArray, List.set_cons_zero, List.set_cons_succ]
              refine wpAnyH_take (i := 15) (v := ?_) rfl (by kernel_rfl) (by kernel_rfl) (by kernel_rfl) (fun _ _ _ h => h) (Or.inl ⟨by rfl, ?_⟩) (by assumption) ?_
              rotate_left
              · (intro wS hSw; (try dsimp only at hSw); (try simp only [List.getElem_toArray, List.getElem_cons_succ, List.getElem_cons_zero]); go_simp; try (with_reducible rfl))
              try simp only [Act.put, List.getElem_toArray, List.getElem_cons_succ, List.getElem_cons_zero, List.setIfInBounds_toArray, List.set_cons_zero, List.set_cons_succ]
              refine wpAnyH_take (i := 16) (v := ?_) rfl (by kernel_rfl) (by kernel_rfl) (by kernel_rfl) (fun _ _ _ h => h) (Or.inl ⟨by rfl, ?_⟩) (by assumption) ?_
              rotate_left
              · (intro wS hSw; (try dsimp only at hSw); (try simp only [List.getElem_toArray, List.getElem_cons_succ, List.getElem_cons_zero]); go_simp; try (with_reducible rfl))
              try simp only [Act.put, List.getElem_toArray, List.getElem_cons_succ, List.getElem_cons_zero, List.setIfInBounds_toArray, List.set_cons_zero, List.set_cons_succ]
              refine wpAnyH_ready (rs := [17]) (by kernel_rfl) (by simp) ?_
              refine AllReadyH.cons rfl (fun K hK => ?_) AllReadyH.nil
              go_simp
              refine hK.out _ _ (by have h := (HA7.out.put 1 (.slice y7 ((moreS (burnS s)).loose.length + 1) cap7)).cell 2; simpa using h) (fun hHeld => ?_)
              clear hK K
              try simp only [Act.put, List.getElem_toArray, List.getElem_cons_succ, List.getElem_cons_zero, List.setIfInBounds_toArray, List.set_cons_zero, List.set_cons_succ]
              refine wpAnyH_done (by kernel_rfl) ?_ _
              refine NoPanic.normal ?_
              go_wp2
              go_ret
              have hgd := HGd.out
              have hrd := HRd.out
              rw [hS.out, ← create_eq s (nm A) HB.out] at hgd hrd
              rw [hE.out, HB.out, hS.out, ← create_eq s (nm A) HB.out]
              have hcl : chgL (.mk (nm A) s.files.length) = [.int .i64 1, .string A, .string ⟨#[]⟩, .int .i64 (F : Int)] := by
                unfold chgL
                simp only [kindOf, fromOf, toOf, fileOf, sm_nm]
                rw [HFl.out]
                rfl
              obtain ⟨hq2, kq2⟩ := HQ.out.grown (c := .mk (nm A) s.files.length) (cs := #[.int .i64 1, .string A, .string ⟨#[]⟩, .int .i64 (F : Int)]) (y := y7) (k := (moreS (burnS s)).loose.length + 1) (cap := cap7) (w5 := w7) (by rw [hcl]; exact HR7'.out) HK7.out.undrew
              have hw2 := HK2.out.size
              have hw6 := HKq.out.size
              have hw8 := kq2.size
              refine ⟨rfl, ⟨⟨_, _, _, _, hq2.mono (fun b _ h => ?_)⟩, hgd, hrd⟩, ?_⟩
              · rcases h with (h | ⟨h1, h2⟩) | ⟨h1, h2⟩
                · exact .inl h
                · exact .inr ⟨by omega, by omega⟩
                · exact .inr ⟨by omega, h2⟩
              · have ka := (HK2.out.mono (T := T) (fun b _ e => by rw [e]; exact HP2.out.inT)).trans (HKq.out.mono (T := T) (fun b _ h => by
                  rcases h with h | h
                  · exact HP2.out.files.2 b h
                  · rw [h]; exact HP2.out.inT)) (fun _ _ h => h)
                exact ka.trans kq2 (fun b hb h => by
                  rcases h with h | h
                  · rcases HQ.out.loose.2 b h with h' | ⟨h', _⟩
                    · exact h'
                    · omega
                  · rw [h]; exact HP2.out.inT)
          · have hS : Hid (createS s (nm A) = burnS s) := by
              show _ = _
              have h256 := H256.out
              rw [HM.out] at h256
              simp [createS, RD.out, HGe.out, h256, hB]
            go_enter Try.func15, Try.ntmps15
            go_wp2_with (first | (go_at_call 17; refine cN.mono ?_; rintro e w' ⟨rfl, rfl⟩))
            refine cH.mono ?_
            rintro e w1 ⟨rfl, k1⟩
            have HK1 := Lib.hid k1
            clear k1 cH cN
            go_wp2
            have cD := dirC.out w1.drew HK1.out.drew
            refine wp_region_noPanic ?_
            refine wp_region_held_drew (S := fun _ => True) (by kernel_rfl) trivial (fun hHeld => ?_)
            refine wpAnyH_take (i := 0) (v := ?_) rfl (by kernel_rfl) (by kernel_rfl) (by kernel_rfl) (fun _ _ _ h => h) (Or.inl ⟨by rfl, ?_⟩) (by assumption) ?_
            rotate_left
            · (intro wS hSw; (try dsimp only at hSw); (try simp only [List.getElem_toArray, List.getElem_cons_succ, List.getElem_cons_zero]); go_simp; try (with_reducible rfl))
            try simp only [Act.put, List.getElem_toArray, List.getElem_cons_succ, List.getElem_cons_zero, List.setIfInBounds_toArray, List.set_cons_zero, List.set_cons_succ]
            refine wpAnyH_take (i := 1) (v := ?_) rfl (by kernel_rfl) (by kernel_rfl) (by kernel_rfl) (fun _ _ _ h => h) (Or.inl ⟨by rfl, ?_⟩) (by assumption) ?_
            rotate_left
            · (intro wS hSw; (try dsimp only at hSw); (try simp only [List.getElem_toArray, List.getElem_cons_succ, List.getElem_cons_zero]); go_simp; try (with_reducible rfl))
            try simp only [Act.put, List.getElem_toArray, List.getElem_cons_succ, List.getElem_cons_zero, List.setIfInBounds_toArray, List.set_cons_zero, List.set_cons_succ]
            refine wpAnyH_take (i := 2) (v := ?_) rfl (by kernel_rfl) (by kernel_rfl) (by kernel_rfl) (fun _ _ _ h => h) (Or.inl ⟨by rfl, ?_⟩) (by assumption) ?_
            rotate_left
            · (intro wS hSw; (try dsimp only at hSw); (try simp only [List.getElem_toArray, List.getElem_cons_succ, List.getElem_cons_zero]); go_simp; try (with_reducible rfl))
            try simp only [Act.put, List.getElem_toArray, List.getElem_cons_succ, List.getElem_cons_zero, List.setIfInBounds_toArray, List.set_cons_zero, List.set_cons_succ]
            refine wpAnyH_take (i := 3) (v := ?_) rfl (by kernel_rfl) (by kernel_rfl) (by kernel_rfl) (fun _ _ _ h => h) (Or.inl ⟨by rfl, ?_⟩) (by assumption) ?_
            rotate_left
            · (intro wS hSw; (try dsimp only at hSw); (try simp only [List.getElem_toArray, List.getElem_cons_succ, List.getElem_cons_zero]); go_simp; try (with_reducible rfl))
            try simp only [Act.put, List.getElem_toArray, List.getElem_cons_succ, List.getElem_cons_zero, List.setIfInBounds_toArray, List.set_cons_zero, List.set_cons_succ]
            refine wpAnyH_ready (rs := [4]) (by kernel_rfl) (by simp) ?_
            refine AllReadyH.cons rfl (fun K hK => ?_) AllReadyH.nil
            go_simp
            refine cD.mono ?_
            rintro e w3 ⟨u, rfl, hR3, k3⟩
            obtain ⟨xu, cu, hu, _⟩ := ownsRow_shape hR3.1
            rw [ents_length, ← HM.out] at hu
            subst hu
            have HK3 : Hid (Keep (fun _ => False) w w3) := (HK1.out.drew).trans k3 (fun _ _ h => h)
            clear hR3 k3 cD
            go_wp2_with fail
            refine hK.out _ _ trivial (fun hHeld => ?_)
            clear hK K
            try simp only [Act.put, List.getElem_toArray, List.getElem_cons_succ, List.getElem_cons_zero, List.setIfInBounds_toArray, List.set_cons_zero, List.set_cons_succ]
            refine wpAnyH_take (i := 5) (v := ?_) rfl (by kernel_rfl) (by kernel_rfl) (by kernel_rfl) (fun _ _ _ h => h) (Or.inl ⟨by rfl, ?_⟩) (by assumption) ?_
            rotate_left
            · (intro wS hSw; (try dsimp only at hSw); (try simp only [List.getElem_toArray, List.getElem_cons_succ, List.getElem_cons_zero]); go_simp; try (with_reducible rfl))
            try simp only [Act.put, List.getElem_toArray, List.getElem_cons_succ, List.getElem_cons_zero, List.setIfInBounds_toArray, List.set_cons_zero, List.set_cons_succ]
            refine wpAnyH_take (i := 6) (v := ?_) rfl (by kernel_rfl) (by kernel_rfl) (by kernel_rfl) (fun _ _ _ h => h) (Or.inl ⟨by rfl, ?_⟩) (by assumption) ?_
            rotate_left
            · (intro wS hSw; (try dsimp only at hSw); (try simp only [List.getElem_toArray, List.getElem_cons_succ, List.getElem_cons_zero]); go_simp; try (with_reducible rfl))
            try simp only [Act.put, List.getElem_toArray, List.getElem_cons_succ, List.getElem_cons_zero, List.setIfInBounds_toArray, List.set_cons_zero, List.set_cons_succ]
            refine wpAnyH_take (i := 7) (v := ?_) rfl (by kernel_rfl) (by kernel_rfl) (by kernel_rfl) (fun _ _ _ h => h) (Or.inl ⟨by rfl, ?_⟩) (by assumption) ?_
            rotate_left
            · (intro wS hSw; (try dsimp only at hSw); (try simp only [List.getElem_toArray, List.getElem_cons_succ, List.getElem_cons_zero]); go_simp; try (with_reducible rfl))
            try simp only [Act.put, List.getElem_toArray, List.getElem_cons_succ, List.getElem_cons_zero, List.setIfInBounds_toArray, List.set_cons_zero, List.set_cons_succ]
            refine wpAnyH_take (i := 8) (v := ?_) rfl (by kernel_rfl) (by kernel_rfl) (by kernel_rfl) (fun _ _ _ h => h) (Or.inl ⟨by rfl, ?_⟩) (by assumption) ?_
            rotate_left
            · (intro wS hSw; (try dsimp only at hSw); (try simp only [List.getElem_toArray, List.getElem_cons_succ, List.getElem_cons_zero]); go_simp; try (with_reducible rfl))
            try simp only [Act.put, List.getElem_toArray, List.getElem_cons_succ, List.getElem_cons_zero, List.setIfInBounds_toArray, List.set_cons_zero, List.set_cons_succ]
            refine wpAnyH_take (i := 9) (v := ?_) rfl (by kernel_rfl) (by kernel_rfl) (by kernel_rfl) (fun _ _ _ h => h) (Or.inl ⟨by rfl, ?_⟩) (by assumption) ?_
            rotate_left
            · (intro wS hSw; (try dsimp only at hSw); (try simp only [List.getElem_toArray, List.getElem_cons_succ, List.getElem_cons_zero]); go_simp; try (with_reducible rfl))
            try simp only [Act.put, List.getElem_toArray, List.getElem_cons_succ, List.getElem_cons_zero, List.setIfInBounds_toArray, List.set_cons_zero, List.set_cons_succ]
            refine wpAnyH_take (i := 10) (v := ?_) rfl (by kernel_rfl) (by kernel_rfl) (by kernel_rfl) (fun _ _ _ h => h) (Or.inl ⟨by rfl, ?_⟩) (by assumption) ?_
            rotate_left
            · (intro wS hSw; (try dsimp only at hSw); (try simp only [List.getElem_toArray, List.getElem_cons_succ, List.getElem_cons_zero]); go_simp; try (with_reducible rfl))
            try simp only [Act.put, List.getElem_toArray, List.getElem_cons_succ, List.getElem_cons_zero, List.setIfInBounds_toArray, List.set_cons_zero, List.set_cons_succ]
            refine wpAnyH_take (i := 11) (v := ?_) rfl (by kernel_rfl) (by kernel_rfl) (by kernel_rfl) (fun _ _ _ h => h) (Or.inl ⟨by rfl, ?_⟩) (by assumption) ?_
            rotate_left
            · (intro wS hSw; (try dsimp only at hSw); (try simp only [List.getElem_toArray, List.getElem_cons_succ, List.getElem_cons_zero]); go_simp; try (with_reducible rfl))
            try simp only [Act.put, List.getElem_toArray, List.getElem_cons_succ, List.getElem_cons_zero, List.setIfInBounds_toArray, List.set_cons_zero, List.set_cons_succ]
            refine wpAnyH_take (i := 12) (v := undef) rfl (by kernel_rfl) (by kernel_rfl) (by kernel_rfl) (fun _ _ _ h => h) (Or.inr ⟨by rfl, rfl⟩) (by assumption) ?_
            try simp only [Act.put, List.getElem_toArray, List.getElem_cons_succ, List.getElem_cons_zero, List.setIfInBounds_toArray, List.set_cons_zero, List.set_cons_succ]
            refine wpAnyH_take (i := 13) (v := undef) rfl (by kernel_rfl) (by kernel_rfl) (by kernel_rfl) (fun _ _ _ h => h) (Or.inr ⟨by rfl, rfl⟩) (by assumption) ?_
            try simp only [Act.put, List.getElem_toArray, List.getElem_cons_succ, List.getElem_cons_zero, List.setIfInBounds_toArray, List.set_cons_zero, List.set_cons_succ]
            refine wpAnyH_take (i := 14) (v := undef) rfl (by kernel_rfl) (by kernel_rfl) (by kernel_rfl) (fun _ _ _ h => h) (Or.inr ⟨by rfl, rfl⟩) (by assumption) ?_
            try simp only [Act.put, List.getElem_toArray, List.getElem_cons_succ, List.getElem_cons_zero, List.setIfInBounds_toArray, List.set_cons_zero, List.set_cons_succ]
            refine wpAnyH_take (i := 15) (v := undef) rfl (by kernel_rfl) (by kernel_rfl) (by kernel_rfl) (fun _ _ _ h => h) (Or.inr ⟨by rfl, rfl⟩) (by assumption) ?_
            try simp only [Act.put, List.getElem_toArray, List.getElem_cons_succ, List.getElem_cons_zero, List.setIfInBounds_toArray, List.set_cons_zero, List.set_cons_succ]
            refine wpAnyH_take (i := 16) (v := undef) rfl (by kernel_rfl) (by kernel_rfl) (by kernel_rfl) (fun _ _ _ h => h) (Or.inr ⟨by rfl, rfl⟩) (by assumption) ?_
            try simp only [Act.put, List.getElem_toArray, List.getElem_cons_succ, List.getElem_cons_zero, List.setIfInBounds_toArray, List.set_cons_zero, List.set_cons_succ]
            refine wpAnyH_take (i := 17) (v := undef) rfl (by kernel_rfl) (by kernel_rfl) (by kernel_rfl) (fun _ _ _ h => h) (Or.inr ⟨by rfl, rfl⟩) (by assumption) ?_
            try simp only [Act.put, List.getElem_toArray, List.getElem_cons_succ, List.getElem_cons_zero, List.setIfInBounds_toArray, List.set_cons_zero, List.set_cons_succ]
            refine wpAnyH_take (i := 18) (v := undef) rfl (by kernel_rfl) (by kernel_rfl) (by kernel_rfl) (fun _ _ _ h => h) (Or.inr ⟨by rfl, rfl⟩) (by assumption) ?_
            try simp only [Act.put, List.getElem_toArray, List.getElem_cons_succ, List.getElem_cons_zero, List.setIfInBounds_toArray, List.set_cons_zero, List.set_cons_succ]
            refine wpAnyH_take (i := 19) (v := undef) rfl (by kernel_rfl) (by kernel_rfl) (by kernel_rfl) (fun _ _ _ h => h) (Or.inr ⟨by rfl, rfl⟩) (by assumption) ?_
            try simp only [Act.put, List.getElem_toArray, List.getElem_cons_succ, List.getElem_cons_zero, List.setIfInBounds_toArray, List.set_cons_zero, List.set_cons_succ]
            refine wpAnyH_take (i := 20) (v := undef) rfl (by kernel_rfl) (by kernel_rfl) (by kernel_rfl) (fun _ _ _ h => h) (Or.inr ⟨by rfl, rfl⟩) (by assumption) ?_
            try simp only [Act.put, List.getElem_toArray, List.getElem_cons_succ, List.getElem_cons_zero, List.setIfInBounds_toArray, List.set_cons_zero, List.set_cons_succ]
            refine wpAnyH_take (i := 21) (v := undef) rfl (by kernel_rfl) (by kernel_rfl) (by kernel_rfl) (fun _ _ _ h => h) (Or.inr ⟨by rfl, rfl⟩) (by assumption) ?_
            try simp only [Act.put, List.getElem_toArray, List.getElem_cons_succ, List.getElem_cons_zero, List.setIfInBounds_toArray, List.set_cons_zero, List.set_cons_succ]
            refine wpAnyH_take (i := 22) (v := ?_) rfl (by kernel_rfl) (by kernel_rfl) (by kernel_rfl) (fun _ _ _ h => h) (Or.inl ⟨by rfl, ?_⟩) (by assumption) ?_
            rotate_left
            · (intro wS hSw; (try dsimp only at hSw); (try simp only [List.getElem_toArray, List.getElem_cons_succ, List.getElem_cons_zero]); go_simp; try (with_reducible rfl))
            try simp only [Act.put, List.getElem_toArray, List.getElem_cons_succ, List.getElem_cons_zero, List.setIfInBounds_toArray, List.set_cons_zero, List.set_cons_succ]
            refine wpAnyH_take (i := 23) (v := ?_) rfl (by kernel_rfl) (by kernel_rfl) (by kernel_rfl) (fun _ _ _ h => h) (Or.inl ⟨by rfl, ?_⟩) (by assumption) ?_
            rotate_left
            · (intro wS hSw; (try dsimp only at hSw); (try simp only [List.getElem_toArray, List.getElem_cons_succ, List.getElem_cons_zero]); go_simp; try (with_reducible rfl))
            try simp only [Act.put, List.getElem_toArray, List.getElem_cons_succ, List.getElem_cons_zero, List.setIfInBounds_toArray, List.set_cons_zero, List.set_cons_succ]
            refine wpAnyH_done (by kernel_rfl) ?_ _
            refine NoPanic.normal ?_
            have HPq : Hid (RP w3 T r s vs vl vf fl) := HP.out.keep (HK3.out) (fun _ _ h => h)
            have cP := refPower r T s vs vl vf fl w3 HPq.out HG.out
            rw [hB] at cP
            have HB := Lib.hid hB
            clear hB c5
            go_wp2_with fail
            refine cP.mono ?_
            rintro e w2 ⟨rfl, hp2, k2, z2⟩
            have HP2 := Lib.hid hp2
            have HK2 : Hid (Keep (· = r) w w2) := ((HK3.out).mono (fun _ _ h => h.elim)).trans k2 (fun _ _ h => h)
            have HZ2 := Lib.hid z2
            clear hp2 k2 z2 cP
            go_wp2
            go_ret
            rw [hE.out, HB.out, hS.out]
            exact RW.burnt HP2.out HG.out HRi.out HK2.out
      · rw [hget] at cH
        simp only [hasI] at cH
        have HGe := Lib.hid hget
        clear hget
        go_enter Try.func15, Try.ntmps15
        go_wp2_with (first | (go_at_call 17; refine cN.mono ?_; rintro e w' ⟨rfl, rfl⟩))
        refine cH.mono ?_
        rintro e w1 ⟨rfl, k1⟩
        have HK1 := Lib.hid k1
        clear k1 cH cN
        go_wp2
        go_ret
        have e1 : createE s (nm A) = 5 := by simp [createE, RD.out, HGe.out]
        have e2 : createS s (nm A) = s := by simp [createS, RD.out, HGe.out]
        rw [e1, e2]
        exact RW.same HRf.out HK1.out
    · have RD : Hid (readyE s [nm A] = 2) := by show _ = _; simp [readyE, ← HV.out, ← HD.out]
      go_enter Try.func15, Try.ntmps15
      go_wp2_with (first | (go_at_call 17; refine cN.mono ?_; rintro e w' ⟨rfl, rfl⟩))
      go_ret
      have e1 : createE s (nm A) = 2 := by simp [createE, RD.out]
      have e2 : createS s (nm A) = s := by simp [createS, RD.out]
      rw [e1, e2]
      exact RW.same HRf.out (Keep.refl _ _)

end Go.Proofs.Ytgjkocjgkbjciaa.Fs
