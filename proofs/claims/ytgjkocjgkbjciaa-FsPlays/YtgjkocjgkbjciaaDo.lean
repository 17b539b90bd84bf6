/-
  What the laws' 'do' returns and does.
-/
import Derived.Test.YtgjkocjgkbjciaaSure
import Derived.Deep.RegionHeld3
namespace Go.Proofs.Ytgjkocjgkbjciaa.Fs
open Go.RowKit Go.Maps
set_option linter.unusedVariables false
set_option linter.unusedSimpArgs false

def doE (s : St) (o : OpR) : Nat := if o.kind = 1 then createE s (nm o.a) else if o.kind = 2 then appendE s (nm o.a) o.data else if o.kind = 3 then syncE s (nm o.a) else if o.kind = 4 then renameE s (nm o.a) (nm o.b) else if o.kind = 5 then unlinkE s (nm o.a) else if o.kind = 6 then dirSyncE s else 0
def doS (s : St) (o : OpR) : St := if o.kind = 1 then createS s (nm o.a) else if o.kind = 2 then appendS s (nm o.a) o.data else if o.kind = 3 then syncS s (nm o.a) else if o.kind = 4 then renameS s (nm o.a) (nm o.b) else if o.kind = 5 then unlinkS s (nm o.a) else if o.kind = 6 then dirSyncS s else s
theorem bulk_do (s : St) (o : OpR) : (doS s o).bulk ≤ s.bulk + 2 := by
  unfold doS
  split
  · exact bulk_create _ _
  · split
    · rw [bulk_append]; omega
    · split
      · rw [bulk_sync]; omega
      · split
        · have := bulk_rename s (nm o.a) (nm o.b); omega
        · split
          · have := bulk_unlink s (nm o.a); omega
          · split
            · have := bulk_dirSync s; omega
            · omega
/-- The value of an Op. -/
def opV (o : OpR) (x : Option Addr) (c : Nat) : Value := .agg #[.int .i64 o.kind, .int .i64 o.num, .int .i64 o.more, .string o.a, .string o.b, .slice x o.data.length c]

set_option maxHeartbeats 4000000 in
set_option maxRecDepth 100000 in
theorem doOp (f : Nat) (S : Nat → Prop) (s : St) (kind num more : Int) (A B : ByteArray) (data : List Nat) (x : Option Addr) (n c : Nat) (hA : A.size ≤ 9223372036854775807) (hB : B.size ≤ 9223372036854775807) (hn : data.length = n) (hn2 : n ≤ 1000) (P : Nat → Prop) (hPS : ∀ b, P b → ¬ S b) (hb : s.bulk + 2 ≤ 1000000) (w : World) (hBy : Bytes P w x data) (hSl : ∀ b, S b → b < w.heap.size) (h : Disk w S f s) :
    Calls Try.prog 14 #[.pointer (some ⟨f, 0, none⟩), .agg #[.int .i64 kind, .int .i64 num, .int .i64 more, .string A, .string B, .slice x n c]] w (Wrote w S f (doS s ⟨kind, num, more, A, B, data⟩) (doE s ⟨kind, num, more, A, B, data⟩)) := by
  obtain ⟨w1, hw1⟩ : ∃ w1, w1 = w.alloc (.cells #[.int .i64 kind, .int .i64 num, .int .i64 more, .string A, .string B, .slice x n c] 34) := ⟨_, rfl⟩
  have k1 : Keep (fun _ => False) w w1 := by rw [hw1]; exact (Keep.refl _ w).alloc _
  have hA1 : At w1 w.heap.size 34 #[.int .i64 kind, .int .i64 num, .int .i64 more, .string A, .string B, .slice x n c] := by rw [hw1]; exact At.new w _ _
  have h1 : Disk w1 S f s := h.keep k1 (fun _ _ h => h)
  have hB1 : Bytes P w1 x data := hBy.quiet k1
  have c0 := hA1.cell 0
  have c3 := hA1.cell 3
  have c4 := hA1.cell 4
  have c5 := hA1.cell 5
  simp at c0 c3 c4 c5
  have HW := Lib.hid hw1
  have HK := Lib.hid k1
  have HD := Lib.hid h1
  have HD0 := Lib.hid h
  have HBy := Lib.hid hB1
  have HN := Lib.hid hn
  have HS := Lib.hid hSl
  have HPS := Lib.hid hPS
  clear hw1 k1 hA1 h1 h hB1 hBy hn hSl hPS
  by_cases h1 : kind = 1
  · have q1 : (kind == 1) = true := by simp; omega
    have e1 : Hid (doE s ⟨kind, num, more, A, B, data⟩ = createE s (nm A)) := by show _ = _; simp [doE, h1]
    have e2 : Hid (doS s ⟨kind, num, more, A, B, data⟩ = createS s (nm A)) := by show _ = _; simp [doS, h1]
    clear h1
    go_enter Try.func14, Try.ntmps14
    go_wp2_with fail
    rw [← HW.out]
    refine (create f S s A hA hb w1 HD.out).mono ?_
    intro e w5 hW
    have HWr := Lib.hid hW
    obtain ⟨rfl, _⟩ := hW
    go_wp2
    go_ret
    rw [e1.out, e2.out]
    exact Wrote.behind HK.out (fun _ h => h.elim) HWr.out
  · have z0 : True := trivial
    by_cases h2 : kind = 2
    · have q1 : (kind == 1) = false := by simp; omega
      have q2 : (kind == 2) = true := by simp; omega
      have e1 : Hid (doE s ⟨kind, num, more, A, B, data⟩ = appendE s (nm A) data) := by show _ = _; simp [doE, h2]
      have e2 : Hid (doS s ⟨kind, num, more, A, B, data⟩ = appendS s (nm A) data) := by show _ = _; simp [doS, h2]
      clear h1 h2
      go_enter Try.func14, Try.ntmps14
      go_wp2
      rw [← HW.out]
      refine wp_region_noPanic ?_
      refine wp_region_held_drew (S := (fun w' => w'.cell? ⟨w.heap.size, 3, none⟩ = some (.string A) ∧ w'.cell? ⟨w.heap.size, 5, none⟩ = some (.slice x n c))) (by kernel_rfl) ⟨c3, c5⟩ (fun hHeld => ?_)
      refine wpAnyH_take (i := 0) (v := ?_) rfl (by kernel_rfl) (by kernel_rfl) (by kernel_rfl) (fun _ _ _ h => h) (Or.inl ⟨by rfl, ?_⟩) (by assumption) ?_
      rotate_left
      · (intro wS hSw; (try dsimp only at hSw); (try simp only [List.getElem_toArray, List.getElem_cons_succ, List.getElem_cons_zero]); go_simp; try (with_reducible rfl))
      try simp only [Act.put, List.getElem_toArray, List.getElem_cons_succ, List.getElem_cons_zero, List.setIfInBounds_toArray, List.set_cons_zero, List.set_cons_succ]
      refine wpAnyH_take (i := 1) (v := ?_) rfl (by kernel_rfl) (by kernel_rfl) (by kernel_rfl) (fun _ _ _ h => h) (Or.inl ⟨by rfl, ?_⟩) (by assumption) ?_
      rotate_left
      · (intro wS hSw; (try dsimp only at hSw); (try simp only [List.getElem_toArray, List.getElem_cons_succ, List.getElem_cons_zero]); go_simp; try (with_reducible rfl))
      try simp only [Act.put, List.getElem_toArray, List.getElem_cons_succ, List.getElem_cons_zero, List.setIfInBounds_toArray, List.set_cons_zero, List.set_cons_succ]
      refine wpAnyH_take (i := 2) (v := ?_) rfl (by kernel_rfl) (by kernel_rfl) (by kernel_rfl) (fun _ _ _ h => h) (Or.inl ⟨by rfl, ?_⟩) (by assumption) ?_
      rotate_left
      · (intro wS hSw; (try dsimp only at hSw); (try simp only [List.getElem_toArray, List.getElem_cons_succ, List.getElem_cons_zero]); go_simp; try (with_reducible rfl))
      try simp only [Act.put, List.getElem_toArray, List.getElem_cons_succ, List.getElem_cons_zero, List.setIfInBounds_toArray, List.set_cons_zero, List.set_cons_succ]
      refine wpAnyH_take (i := 4) (v := ?_) rfl (by kernel_rfl) (by kernel_rfl) (by kernel_rfl) (fun _ _ _ h => h) (Or.inl ⟨by rfl, ?_⟩) (by assumption) ?_
      rotate_left
      · (intro wS hSw; (try dsimp only at hSw); (try simp only [List.getElem_toArray, List.getElem_cons_succ, List.getElem_cons_zero]); go_simp; try (with_reducible rfl))
      try simp only [Act.put, List.getElem_toArray, List.getElem_cons_succ, List.getElem_cons_zero, List.setIfInBounds_toArray, List.set_cons_zero, List.set_cons_succ]
      refine wpAnyH_take (i := 5) (v := ?_) rfl (by kernel_rfl) (by kernel_rfl) (by kernel_rfl) (fun _ _ _ h => h) (Or.inl ⟨by rfl, ?_⟩) (by assumption) ?_
      rotate_left
      · (intro wS hSw; (try dsimp only at hSw); (try simp only [List.getElem_toArray, List.getElem_cons_succ, List.getElem_cons_zero]); go_simp; try (with_reducible rfl))
      try simp only [Act.put, List.getElem_toArray, List.getElem_cons_succ, List.getElem_cons_zero, List.setIfInBounds_toArray, List.set_cons_zero, List.set_cons_succ]
      refine wpAnyH_ready (rs := [3]) (by kernel_rfl) (by simp) ?_
      refine AllReadyH.cons rfl (fun K hK => ?_) AllReadyH.nil
      go_simp
      refine hK.out _ _ ⟨((Keep.refl (fun _ => False) w1).drew.alloc _).cell c3 (fun h => h), ((Keep.refl (fun _ => False) w1).drew.alloc _).cell c5 (fun h => h)⟩ (fun hHeld => ?_)
      clear hK K
      try simp only [Act.put, List.getElem_toArray, List.getElem_cons_succ, List.getElem_cons_zero, List.setIfInBounds_toArray, List.set_cons_zero, List.set_cons_succ]
      obtain ⟨y14, c14, v14, hr14, hO14, k14, hN14⟩ := run_append_bytes 32 (w1.drew.alloc (.cells #[] 5)) (.slice (some ⟨w1.heap.size, 0, none⟩) 0 0) [] (empty_row w1.drew) P x n c data HN.out (HBy.out.quiet ((Keep.refl (fun _ => False) w1).drew.alloc _)) (by simp; omega)
      simp only [List.length_nil, Nat.zero_add, List.nil_append] at hr14 hO14 hN14
      have hsz : (w1.drew.alloc (.cells #[] 5)).heap.size = w1.heap.size + 1 := by simp
      have HK14 : Hid (Keep (fun _ => False) w1 v14) := ((Keep.refl (fun _ => False) w1).drew.alloc (.cells #[] 5)).trans k14 (fun i hi e => by simp [Value.ownBlock] at e; omega)
      have HNB14 : Hid (∀ b, (Value.slice y14 n c14).ownBlock = some b → w1.heap.size ≤ b) := fun b hb => by
        rcases hN14 b hb with h1 | h1
        · simp [Value.ownBlock] at h1; omega
        · rw [hsz] at h1; omega
      refine wpAnyH_ready (rs := [6]) (by kernel_rfl) (by simp) ?_
      refine AllReadyH.cons rfl (fun K hK => ?_) AllReadyH.nil
      refine wp_append_run (by rfl) (by rfl) (by rfl) hr14 ?_
      refine hK.out _ _ ⟨HK14.out.cell c3 (fun h => h), HK14.out.cell c5 (fun h => h)⟩ (fun hHeld => ?_)
      clear hK K
      try simp only [Act.put, List.getElem_toArray, List.getElem_cons_succ, List.getElem_cons_zero, List.setIfInBounds_toArray, List.set_cons_zero, List.set_cons_succ]
      have hO14' : Own v14 (.slice y14 n c14) data := hO14
      have cA := append f S s A hA (fun b => w1.heap.size ≤ b) y14 n c14 data HN.out (by omega) (fun b hb hs => by have h1 := HS.out b hs; have h2 := HK.out.size; omega) v14 (hO14'.bytes.mono (fun b _ hb => HNB14.out b hb)) (HD.out.keep HK14.out (fun _ _ h => h))
      clear hr14 hO14 hO14' k14 hN14
      refine wpAnyH_ready (rs := [7]) (by kernel_rfl) (by simp) ?_
      refine AllReadyH.cons rfl (fun K hK => ?_) AllReadyH.nil
      go_simp
      refine cA.mono ?_
      intro e w5 hW
      have HWr := Lib.hid hW
      obtain ⟨rfl, hd5, hk5⟩ := hW
      go_wp2_with fail
      refine hK.out _ _ ⟨hk5.cell (HK14.out.cell c3 (fun h => h)) (fun h => by have h1 : w.heap.size < w.heap.size := HS.out _ h; omega), hk5.cell (HK14.out.cell c5 (fun h => h)) (fun h => by have h1 : w.heap.size < w.heap.size := HS.out _ h; omega)⟩ (fun hHeld => ?_)
      clear hK K
      try simp only [Act.put, List.getElem_toArray, List.getElem_cons_succ, List.getElem_cons_zero, List.setIfInBounds_toArray, List.set_cons_zero, List.set_cons_succ]
      refine wpAnyH_take (i := 8) (v := ?_) rfl (by kernel_rfl) (by kernel_rfl) (by kernel_rfl) (fun _ _ _ h => h) (Or.inl ⟨by rfl, ?_⟩) (by assumption) ?_
      rotate_left
      · (intro wS hSw; (try dsimp only at hSw); (try simp only [List.getElem_toArray, List.getElem_cons_succ, List.getElem_cons_zero]); go_simp; try (with_reducible rfl))
      try simp only [Act.put, List.getElem_toArray, List.getElem_cons_succ, List.getElem_cons_zero, List.setIfInBounds_toArray, List.set_cons_zero, List.set_cons_succ]
      refine wpAnyH_done (by kernel_rfl) ?_ _
      refine NoPanic.normal ?_
      go_wp2
      go_ret
      rw [e1.out, e2.out]
      exact Wrote.behind HK.out (fun _ h => h.elim) (Wrote.behind HK14.out (fun _ h => h.elim) HWr.out)
    · have z0 : True := trivial
      by_cases h3 : kind = 3
      · have q1 : (kind == 1) = false := by simp; omega
        have q2 : (kind == 2) = false := by simp; omega
        have q3 : (kind == 3) = true := by simp; omega
        have e1 : Hid (doE s ⟨kind, num, more, A, B, data⟩ = syncE s (nm A)) := by show _ = _; simp [doE, h3]
        have e2 : Hid (doS s ⟨kind, num, more, A, B, data⟩ = syncS s (nm A)) := by show _ = _; simp [doS, h3]
        clear h1 h2 h3
        go_enter Try.func14, Try.ntmps14
        go_wp2_with fail
        rw [← HW.out]
        refine (sync f S s A hA w1 HD.out).mono ?_
        intro e w5 hW
        have HWr := Lib.hid hW
        obtain ⟨rfl, _⟩ := hW
        go_wp2
        go_ret
        rw [e1.out, e2.out]
        exact Wrote.behind HK.out (fun _ h => h.elim) HWr.out
      · have z0 : True := trivial
        by_cases h4 : kind = 4
        · have q1 : (kind == 1) = false := by simp; omega
          have q2 : (kind == 2) = false := by simp; omega
          have q3 : (kind == 3) = false := by simp; omega
          have q4 : (kind == 4) = true := by simp; omega
          have e1 : Hid (doE s ⟨kind, num, more, A, B, data⟩ = renameE s (nm A) (nm B)) := by show _ = _; simp [doE, h4]
          have e2 : Hid (doS s ⟨kind, num, more, A, B, data⟩ = renameS s (nm A) (nm B)) := by show _ = _; simp [doS, h4]
          clear h1 h2 h3 h4
          go_enter Try.func14, Try.ntmps14
          go_wp2_with fail
          rw [← HW.out]
          refine (rename f S s A B hA hB hb w1 HD.out).mono ?_
          intro e w5 hW
          have HWr := Lib.hid hW
          obtain ⟨rfl, _⟩ := hW
          go_wp2
          go_ret
          rw [e1.out, e2.out]
          exact Wrote.behind HK.out (fun _ h => h.elim) HWr.out
        · have z0 : True := trivial
          by_cases h5 : kind = 5
          · have q1 : (kind == 1) = false := by simp; omega
            have q2 : (kind == 2) = false := by simp; omega
            have q3 : (kind == 3) = false := by simp; omega
            have q4 : (kind == 4) = false := by simp; omega
            have q5 : (kind == 5) = true := by simp; omega
            have e1 : Hid (doE s ⟨kind, num, more, A, B, data⟩ = unlinkE s (nm A)) := by show _ = _; simp [doE, h5]
            have e2 : Hid (doS s ⟨kind, num, more, A, B, data⟩ = unlinkS s (nm A)) := by show _ = _; simp [doS, h5]
            clear h1 h2 h3 h4 h5
            go_enter Try.func14, Try.ntmps14
            go_wp2_with fail
            rw [← HW.out]
            refine (unlink f S s A hA hb w1 HD.out).mono ?_
            intro e w5 hW
            have HWr := Lib.hid hW
            obtain ⟨rfl, _⟩ := hW
            go_wp2
            go_ret
            rw [e1.out, e2.out]
            exact Wrote.behind HK.out (fun _ h => h.elim) HWr.out
          · have z0 : True := trivial
            by_cases h6 : kind = 6
            · have q1 : (kind == 1) = false := by simp; omega
              have q2 : (kind == 2) = false := by simp; omega
              have q3 : (kind == 3) = false := by simp; omega
              have q4 : (kind == 4) = false := by simp; omega
              have q5 : (kind == 5) = false := by simp; omega
              have q6 : (kind == 6) = true := by simp; omega
              have e1 : Hid (doE s ⟨kind, num, more, A, B, data⟩ = dirSyncE s) := by show _ = _; simp [doE, h6]
              have e2 : Hid (doS s ⟨kind, num, more, A, B, data⟩ = dirSyncS s) := by show _ = _; simp [doS, h6]
              clear h1 h2 h3 h4 h5 h6
              go_enter Try.func14, Try.ntmps14
              go_wp2_with fail
              rw [← HW.out]
              refine (dirSync f S s w1 HD.out).mono ?_
              intro e w5 hW
              have HWr := Lib.hid hW
              obtain ⟨rfl, _⟩ := hW
              go_wp2
              go_ret
              rw [e1.out, e2.out]
              exact Wrote.behind HK.out (fun _ h => h.elim) HWr.out
            · have z0 : True := trivial
              have q1 : (kind == 1) = false := by simp; omega
              have q2 : (kind == 2) = false := by simp; omega
              have q3 : (kind == 3) = false := by simp; omega
              have q4 : (kind == 4) = false := by simp; omega
              have q5 : (kind == 5) = false := by simp; omega
              have q6 : (kind == 6) = false := by simp; omega
              have e1 : Hid (doE s ⟨kind, num, more, A, B, data⟩ = 0) := by show _ = _; simp [doE, h1, h2, h3, h4, h5, h6]
              have e2 : Hid (doS s ⟨kind, num, more, A, B, data⟩ = s) := by show _ = _; simp [doS, h1, h2, h3, h4, h5, h6]
              clear h1 h2 h3 h4 h5 h6
              go_enter Try.func14, Try.ntmps14
              go_wp2
              go_ret
              rw [e1.out, e2.out]
              exact Wrote.same HD0.out ((Keep.refl _ w).alloc _)

end Go.Proofs.Ytgjkocjgkbjciaa.Fs
