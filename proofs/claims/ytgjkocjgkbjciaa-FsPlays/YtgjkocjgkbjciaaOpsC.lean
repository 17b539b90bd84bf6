/-
  What 'Rename', 'Append' and 'Read' return and do.
-/
import Derived.Test.YtgjkocjgkbjciaaOpsB
import Derived.Deep.RegionHeld3
namespace Go.Proofs.Ytgjkocjgkbjciaa.Fs
open Go.RowKit Go.Maps
set_option linter.unusedVariables false

/-! ### Rename -/
theorem ready2 {s : St} {A B : ByteArray} (h : readyE s [nm A, nm B] = 0) : A.size ≤ 80 ∧ B.size ≤ 80 := by
  by_cases hn : isNm (nm A) = true
  · by_cases hm : isNm (nm B) = true
    · have h1 := isNm_length hn
      have h2 := isNm_length hm
      rw [nm_length] at h1 h2
      exact ⟨h1, h2⟩
    · simp [readyE, hm] at h
  · simp [readyE, hn] at h
set_option maxHeartbeats 4000000 in
set_option maxRecDepth 100000 in
theorem renameNone (A B : ByteArray) (w : World) : Calls Try.prog 26 #[.pointer none, .string A, .string B] w fun e w' => e = .returned (.int .i64 1) ∧ Keep (fun _ => False) w w' := by
  go_enter Try.func26, Try.ntmps26
  go_wp2_with (go_at_call 38; refine (readyNone _ _).mono ?_; rintro e w' ⟨rfl, rfl⟩)
  go_ret
  exact ⟨rfl, (((Keep.refl _ w).alloc _).alloc _).alloc _⟩
set_option maxHeartbeats 4000000 in
set_option maxRecDepth 100000 in
theorem rename (f : Nat) (S : Nat → Prop) (s : St) (A B : ByteArray) (hA : A.size ≤ 9223372036854775807) (hB : B.size ≤ 9223372036854775807) (hb : s.bulk + 2 ≤ 1000000) (w : World) (h : Disk w S f s) :
    Calls Try.prog 26 #[.pointer (some ⟨f, 0, none⟩), .string A, .string B] w (Wrote w S f (renameS s (nm A) (nm B)) (renameE s (nm A) (nm B))) := by
  obtain ⟨⟨L, hp⟩, hG⟩ := h
  obtain ⟨w1, hw1⟩ : ∃ w1, w1 = ((w.alloc (.cells #[.string A] 9)).alloc (.cells #[.string B] 9)).alloc (.cells #[.string A, .string B] 9) := ⟨_, rfl⟩
  have k1 : Keep (fun _ => False) w w1 := by rw [hw1]; exact (((Keep.refl _ w).alloc _).alloc _).alloc _
  have hP := hp.keep k1 (fun _ _ h => h)
  have qa : At w1 w.heap.size 9 #[.string A] := by rw [hw1]; exact ((At.new w _ _).alloc _).alloc _
  have qb : At w1 (w.heap.size + 1) 9 #[.string B] := by
    rw [hw1]
    have := (At.new (w.alloc (.cells #[.string A] 9)) 9 #[.string B]).alloc (.cells #[.string A, .string B] 9)
    rw [World.size_alloc] at this
    exact this
  have qr : At w1 (w.heap.size + 2) 9 (([A, B].map Value.string).toArray) := by
    rw [hw1]
    have := At.new ((w.alloc (.cells #[.string A] 9)).alloc (.cells #[.string B] 9)) 9 #[.string A, .string B]
    rw [World.size_alloc, World.size_alloc] at this
    exact this
  have cR := ready f S s w1 ⟨⟨L, hP⟩, hG⟩ (w.heap.size + 2) 2 2 [A, B] rfl (by omega) qr (by simp; exact ⟨hA, hB⟩)
  have hEc := readyE_cases s [nm A, nm B]
  obtain ⟨E, hE⟩ : ∃ E, E = readyE s [nm A, nm B] := ⟨_, rfl⟩
  rw [show readyE s ([A, B].map nm) = E from hE.symm] at cR
  rw [← hE] at hEc
  have HE := Lib.hid hE
  have c1 := hP.fs.cell 1
  simp [cellsFS] at c1
  have da := qa.cell 0
  have db := qb.cell 0
  simp at da db
  have hl := MapAt.look (w := w1.drew) hP.now hA
  have HW := Lib.hid hw1
  have HK := Lib.hid k1
  have HD : Hid (Disk w S f s) := ⟨⟨L, hp⟩, hG⟩
  have HG := Lib.hid hG
  have HPd : Hid (Parts w1.drew S f s s.now L) := hP.keep (Keep.refl (fun _ => False) w1).drew (fun _ _ h => h)
  have HQa : Hid (At w1.drew w.heap.size 9 #[.string A]) := qa.drew
  have HQb : Hid (At w1.drew (w.heap.size + 1) 9 #[.string B]) := qb.drew
  clear hE hp hG hP qa qb qr k1 hw1
  rcases hEc with rfl | hE12
  · obtain ⟨hA80, hB80⟩ := ready2 HE.out.symm
    obtain ⟨G, hGe⟩ : ∃ G, G = get s.now (nm A) := ⟨_, rfl⟩
    rw [← hGe] at hl
    have HGe := Lib.hid hGe
    clear hGe
    rcases G with _ | i
    · simp only [hit] at hl
      go_enter Try.func26, Try.ntmps26
      go_wp2_with fail
      rw [← HW.out]
      refine cR.mono ?_
      rintro e w' ⟨rfl, rfl⟩
      go_wp2
      go_region
      go_wp2
      go_ret
      have e1 : renameE s (nm A) (nm B) = 4 := by unfold renameE; rw [← HE.out, ← HGe.out]; rfl
      have e2 : renameS s (nm A) (nm B) = s := by unfold renameS; rw [← HE.out, ← HGe.out]; rfl
      rw [e1, e2]
      exact Wrote.same HD.out HK.out.drew
    · simp only [hit] at hl
      have cB := burn f S s s.now L w1.drew HPd.out HG.out
      by_cases hAB : A = B
      · subst hAB
        have HS0 := Lib.hid HPd.out.inS
        go_enter Try.func26, Try.ntmps26
        go_wp2_with fail
        rw [← HW.out]
        refine cR.mono ?_
        rintro e w' ⟨rfl, rfl⟩
        go_wp2
        go_region
        go_wp2_with fail
        refine cB.mono ?_
        rintro e w2 ⟨rfl, hp2, hG2, k2, z2⟩
        have HP2 := Lib.hid hp2
        have HG2 := Lib.hid hG2
        have HK2 := Lib.hid k2
        clear hp2 hG2 k2 z2
        go_wp2
        go_ret
        have e1 : renameE s (nm A) (nm A) = burnE s := by unfold renameE; rw [← HE.out, ← HGe.out]; rfl
        have e2 : renameS s (nm A) (nm A) = burnS s := by unfold renameS; rw [← HE.out, ← HGe.out]; simp
        rw [e1, e2]
        refine ⟨rfl, ⟨⟨L, ?_⟩, HG2.out⟩, (HK.out.drew.mono (T := S) (fun i _ h => h.elim)).trans HK2.out (fun i _ e => by rw [e]; exact HS0.out)⟩
        rw [burn_now]
        exact HP2.out.mono (fun i _ h => .inl h)
      · have hne : (A.toList == B.toList) = false := by
          rw [ByteArray.toList_eq, ByteArray.toList_eq]
          simp only [beq_eq_false_iff_ne]
          exact fun e => hAB (nm_inj e)
        have hnm : nm A ≠ nm B := fun e => hAB (nm_inj e)
        have HNM := Lib.hid hnm
        have hC : Clo w1.drew (Up S w w1.drew) L.fb (.func (.func 48) #[] #[.pointer (some ⟨w.heap.size, 0, none⟩), .pointer (some ⟨w.heap.size + 1, 0, none⟩)]) (.ren (nm A) (nm B)) :=
          ⟨_, _, A, B, rfl, HQa.out, HQb.out, rfl, hA80, rfl, hB80, .inr ⟨Nat.le_refl _, HQa.out.lt⟩, .inr ⟨by omega, HQb.out.lt⟩⟩
        have cC := change f (Up S w w1.drew) s L _ _ w1.drew (HPd.out.mono (fun i _ h => .inl h)) HG.out hC ⟨⟨i, HGe.out.symm⟩, hnm⟩ (by omega)
        clear hC hnm hAB
        go_enter Try.func26, Try.ntmps26
        go_wp2_with fail
        rw [← HW.out]
        refine cR.mono ?_
        rintro e w' ⟨rfl, rfl⟩
        go_wp2
        go_region
        go_wp2_with fail
        refine cC.mono ?_
        intro e w5 hW
        have HWr := Lib.hid hW
        obtain ⟨rfl, _⟩ := hW
        go_wp2
        go_ret
        have h1 := Wrote.after HK.out.drew (fun _ h => h.elim) HWr.out
        have e1 : renameE s (nm A) (nm B) = burnE s := by unfold renameE; rw [← HE.out, ← HGe.out]; rfl
        have e2 : renameS s (nm A) (nm B) = chgS s (.ren (nm A) (nm B)) := by unfold renameS; rw [← HE.out, ← HGe.out]; simp [HNM.out]
        rw [e1, e2]
        exact h1
  · have hne2 : ((E : Int) != 0) = true := by simp; omega
    have e1 : Hid (renameE s (nm A) (nm B) = E) := by show _ = _; unfold renameE; rw [← HE.out]; rw [if_pos (by omega)]
    have e2 : Hid (renameS s (nm A) (nm B) = s) := by show _ = _; unfold renameS; rw [← HE.out]; rw [if_pos (by omega)]
    clear hE12
    go_enter Try.func26, Try.ntmps26
    go_wp2_with fail
    rw [← HW.out]
    refine cR.mono ?_
    rintro e w' ⟨rfl, rfl⟩
    go_wp2
    go_ret
    rw [e1.out, e2.out]
    exact Wrote.same HD.out HK.out

/-! ### Read -/
/-- What 'Read' leaves behind. -/
def Got (w : World) (S : Nat → Prop) (f : Nat) (s : St) (a : Nm) (e : Ending) (w' : World) : Prop :=
  ∃ y n c, n = (readV s a).length ∧ e = .returned (.tuple #[.slice y n c, .int .i64 ((findE s a : Nat) : Int)]) ∧ Own w' (.slice y n c) (readV s a) ∧ (∀ b, (Value.slice y n c).ownBlock = some b → w.heap.size ≤ b) ∧ Disk w' S f s ∧ Keep (fun _ => False) w w'
set_option maxHeartbeats 4000000 in
set_option maxRecDepth 100000 in
theorem readNone (A : ByteArray) (w : World) : Calls Try.prog 24 #[.pointer none, .string A] w fun e w' => e = .returned (.tuple #[.slice none 0 0, .int .i64 1]) ∧ Keep (fun _ => False) w w' := by
  go_enter Try.func24, Try.ntmps24
  go_wp2_with (go_at_call 41; refine (findNone A _).mono ?_; rintro e w' ⟨rfl, hk⟩)
  go_ret2
  exact ⟨rfl, hk⟩
set_option maxHeartbeats 4000000 in
set_option maxRecDepth 100000 in
theorem read (f : Nat) (S : Nat → Prop) (s : St) (A : ByteArray) (hA : A.size ≤ 9223372036854775807) (w : World) (h : Disk w S f s) :
    Calls Try.prog 24 #[.pointer (some ⟨f, 0, none⟩), .string A] w (Got w S f s (nm A)) := by
  obtain ⟨⟨L, hp⟩, hG⟩ := h
  obtain ⟨w1, hw1⟩ : ∃ w1, w1 = w.alloc (.cells #[.string A] 9) := ⟨_, rfl⟩
  have k1 : Keep (fun _ => False) w w1 := by rw [hw1]; exact (Keep.refl _ w).alloc _
  have hP1 := hp.keep k1 (fun _ _ h => h)
  have cF := find f S s L A hA w hp hG
  rw [← hw1] at cF
  have hEc := findE_cases s (nm A)
  obtain ⟨E, hE⟩ : ∃ E, E = findE s (nm A) := ⟨_, rfl⟩
  rw [← hE] at cF hEc
  have HE := Lib.hid hE
  have HD : Hid (Disk w S f s) := ⟨⟨L, hp⟩, hG⟩
  have HK := Lib.hid k1
  by_cases hE0 : E = 0
  · subst hE0
    obtain ⟨hr, i, hi⟩ := find_ok hE.symm
    have hV : findV s L.fb (nm A) = .pointer (some ⟨L.fb i, 0, none⟩) := by unfold findV; rw [← hE, hi]; rfl
    rw [hV] at cF
    have hil := hG.now.lt _ (get_mem hi)
    have hX := file_at hil
    have hA1 := hP1.files.at_ i _ hX
    have hO1 := hP1.files.own i _ hX
    obtain ⟨y, cap, hrow, hBy⟩ := hO1.shape
    have c0 := hA1.cell 0
    rw [hrow] at c0
    simp at c0
    obtain ⟨N, hN⟩ : ∃ N, N = (s.file i).bytes.length := ⟨_, rfl⟩
    rw [← hN] at c0
    have hNl : N ≤ 16777216 := by rw [hN]; exact hG.len _ (file_mem hil)
    have cC := cloneB _ y N cap (s.file i).bytes hN.symm (by omega) w1 hBy
    have e1 : Hid (readV s (nm A) = (s.file i).bytes) := by show _ = _; unfold readV; rw [← hE, hi]; rfl
    have HN := Lib.hid hN
    clear hp hG hw1 k1 hP1 hE hEc hr hi hV hil hX hA1 hO1 hrow hBy hN
    go_enter Try.func24, Try.ntmps24
    go_wp2_with (first | (go_at_call 41; refine cF.mono ?_; rintro e w' ⟨rfl, rfl⟩))
    refine cC.mono ?_
    rintro e w2 ⟨y2, c2, rfl, hO2, k2, hb2⟩
    have HO2 := Lib.hid hO2
    have HK2 := Lib.hid k2
    have HB2 := Lib.hid hb2
    clear hO2 k2 hb2
    go_wp2
    go_ret2
    have kk := HK.out.trans HK2.out (fun _ _ h => h)
    refine ⟨y2, N, c2, by rw [e1.out]; exact HN.out, by rw [← HE.out]; rfl, by rw [e1.out]; exact HO2.out, fun b hb => Nat.le_trans HK.out.size (HB2.out b hb), HD.out.keep kk (fun _ _ h => h), kk⟩
  · have hne : ((E : Int) != 0) = true := by simp; omega
    have e1 : Hid (readV s (nm A) = []) := by show _ = _; unfold readV; rw [← hE]; rw [if_pos hE0]
    obtain ⟨V, hV⟩ : ∃ V, V = findV s L.fb (nm A) := ⟨_, rfl⟩
    rw [← hV] at cF
    clear hp hG hw1 k1 hP1 hE hEc hV hE0
    go_enter Try.func24, Try.ntmps24
    go_wp2_with (first | (go_at_call 41; refine cF.mono ?_; rintro e w' ⟨rfl, rfl⟩))
    go_ret2
    refine ⟨none, 0, 0, by rw [e1.out]; rfl, by rw [← HE.out]; rfl, by rw [e1.out]; exact Own.empty _, by simp [Value.ownBlock], HD.out.keep HK.out (fun _ _ h => h), HK.out⟩

end Go.Proofs.Ytgjkocjgkbjciaa.Fs
