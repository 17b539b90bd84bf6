/-
  What the program's changed and the document's Step return, for every fate and every good mark.
-/
import Derived.Test.YtimoebicacnihaaGreatDoorKg9
namespace Go.Proofs.YtimoebicacnihaaGreatDoor.Ln
open Go.RowKit
set_option linter.unusedVariables false
set_option linter.unusedSimpArgs false

theorem infoF5 : (Tryz.prog.info? 46).map (·.size) = some 5 := by kernel_rfl
theorem ret_ft {fn : Func} {p : Tmp} (h : fn.results = #[.cell p 46]) (tmps : Array Value) (w : World) (g : Nat) {cs : Array Value} (hp : tmps.getD p undef = .pointer (some ⟨g, 0, none⟩)) (hg : At w g 46 cs ∧ cs.size = 5) :
    (results fn tmps).run Tryz.prog w = .ok (.agg cs) w := results_cell_row h tmps w g 46 cs (0, 0) _ hp hg.1 Tryz.underlying46 rfl (by rw [hg.2]; exact infoF5)
theorem at3 (w : World) (a b : Obj) (t : TypeId) (cs : Array Value) : At (((w.alloc a).alloc b).alloc (.cells cs t)) (w.heap.size + 1 + 1) t cs := by
  have := At.new ((w.alloc a).alloc b) t cs
  rwa [show ((w.alloc a).alloc b).heap.size = w.heap.size + 1 + 1 by simp] at this
set_option maxHeartbeats 8000000 in
set_option maxRecDepth 100000 in
theorem changedC (f : Ft) (k : Mk) (w : World) (hg : goodK k = true) (hs : Small 4611686018427387904 f) : Calls Tryz.prog 46 #[.agg (ftC f), .agg (mkC k)] w (Quiet (.agg (ftC (stepF f k))) w) := by
  obtain ⟨st, tr, nx, cr, op⟩ := f
  obtain ⟨kd, rc, kn⟩ := k
  obtain ⟨h1, h2, _, _, _, _⟩ := goodK_iff.1 hg
  obtain ⟨t0, t1, c0, c1⟩ := hs
  simp only at h1 h2 t0 t1 c0 c1
  have HQ : Hid (∀ (v : Ft), v = stepF ⟨st, tr, nx, cr, op⟩ ⟨kd, rc, kn⟩ → ∀ (cs : Array Value), cs = ftC v → ∀ w', Keep (fun _ => False) w w' → Quiet (.agg (ftC (stepF ⟨st, tr, nx, cr, op⟩ ⟨kd, rc, kn⟩))) w (.returned (.agg cs)) w') := Lib.hid (fun v hv cs hc w' kw => quiet_of (by rw [hc, hv]) kw)
  obtain ⟨Q, hQ⟩ : ∃ Q, Q = ftC (stepF ⟨st, tr, nx, cr, op⟩ ⟨kd, rc, kn⟩) := ⟨_, rfl⟩
  rw [← hQ] at HQ
  rw [← hQ]
  clear hg hQ
  unfold ftC mkC
  simp only
  by_cases hst : st = 0
  · subst hst
    obtain rfl | rfl | rfl | rfl | rfl : kd = 1 ∨ kd = 2 ∨ kd = 3 ∨ kd = 4 ∨ kd = 5 := by omega
    · skip
      go_enter Tryz.func46, Tryz.ntmps46
      go_wp2
      refine bodyPost_ret (ret_ft (fn := Tryz.f46) (p := 4) rfl _ _ (w.heap.size + 1 + 1) rfl ⟨at3 _ _ _ _ _, rfl⟩) rfl ?_
      exact HQ.out ⟨0, tr, nx, cr, true⟩ (by simp [stepF]) _ rfl _ (((keep_new w _).alloc _).alloc _)
    · cases op with
      | true =>
        go_enter Tryz.func46, Tryz.ntmps46
        go_wp2
        refine bodyPost_ret (ret_ft (fn := Tryz.f46) (p := 4) rfl _ _ (w.heap.size + 1 + 1) rfl ⟨at3 _ _ _ _ _, rfl⟩) rfl ?_
        exact HQ.out ⟨1, tr + 1, nx, cr, false⟩ (by simp [stepF]) _ rfl _ (((keep_new w _).alloc _).alloc _)
      | false =>
        go_enter Tryz.func46, Tryz.ntmps46
        go_wp2
        refine bodyPost_ret (ret_ft (fn := Tryz.f46) (p := 4) rfl _ _ (w.heap.size + 1 + 1) rfl ⟨at3 _ _ _ _ _, rfl⟩) rfl ?_
        exact HQ.out ⟨1, tr, nx, cr, false⟩ (by simp [stepF]) _ rfl _ (((keep_new w _).alloc _).alloc _)
    · cases op with
      | true =>
        go_enter Tryz.func46, Tryz.ntmps46
        go_wp2
        refine bodyPost_ret (ret_ft (fn := Tryz.f46) (p := 4) rfl _ _ (w.heap.size + 1 + 1) rfl ⟨at3 _ _ _ _ _, rfl⟩) rfl ?_
        exact HQ.out ⟨2, tr + 1, nx, cr, false⟩ (by simp [stepF]) _ rfl _ (((keep_new w _).alloc _).alloc _)
      | false =>
        go_enter Tryz.func46, Tryz.ntmps46
        go_wp2
        refine bodyPost_ret (ret_ft (fn := Tryz.f46) (p := 4) rfl _ _ (w.heap.size + 1 + 1) rfl ⟨at3 _ _ _ _ _, rfl⟩) rfl ?_
        exact HQ.out ⟨2, tr, nx, cr, false⟩ (by simp [stepF]) _ rfl _ (((keep_new w _).alloc _).alloc _)
    · cases op with
      | true =>
        go_enter Tryz.func46, Tryz.ntmps46
        go_wp2
        refine bodyPost_ret (ret_ft (fn := Tryz.f46) (p := 4) rfl _ _ (w.heap.size + 1 + 1) rfl ⟨at3 _ _ _ _ _, rfl⟩) rfl ?_
        exact HQ.out ⟨0, tr + 1, kn, cr, false⟩ (by simp [stepF]) _ rfl _ (((keep_new w _).alloc _).alloc _)
      | false =>
        go_enter Tryz.func46, Tryz.ntmps46
        go_wp2
        refine bodyPost_ret (ret_ft (fn := Tryz.f46) (p := 4) rfl _ _ (w.heap.size + 1 + 1) rfl ⟨at3 _ _ _ _ _, rfl⟩) rfl ?_
        exact HQ.out ⟨0, tr, kn, cr, false⟩ (by simp [stepF]) _ rfl _ (((keep_new w _).alloc _).alloc _)
    · cases op with
      | true =>
        go_enter Tryz.func46, Tryz.ntmps46
        go_wp2
        refine bodyPost_ret (ret_ft (fn := Tryz.f46) (p := 4) rfl _ _ (w.heap.size + 1 + 1) rfl ⟨at3 _ _ _ _ _, rfl⟩) rfl ?_
        exact HQ.out ⟨0, tr, nx, cr + 1, false⟩ (by simp [stepF]) _ rfl _ (((keep_new w _).alloc _).alloc _)
      | false =>
        go_enter Tryz.func46, Tryz.ntmps46
        go_wp2
        refine bodyPost_ret (ret_ft (fn := Tryz.f46) (p := 4) rfl _ _ (w.heap.size + 1 + 1) rfl ⟨at3 _ _ _ _ _, rfl⟩) rfl ?_
        exact HQ.out ⟨0, tr, nx, cr + 1, false⟩ (by simp [stepF]) _ rfl _ (((keep_new w _).alloc _).alloc _)
  · skip
    have HST := Lib.hid hst
    go_enter Tryz.func46, Tryz.ntmps46
    go_wp2
    refine bodyPost_ret (ret_ft (fn := Tryz.f46) (p := 4) rfl _ _ (w.heap.size + 1 + 1) rfl ⟨at3 _ _ _ _ _, rfl⟩) rfl ?_
    exact HQ.out ⟨st, tr, nx, cr, op⟩ (by simp [stepF, HST.out]) _ rfl _ (((keep_new w _).alloc _).alloc _)
set_option maxHeartbeats 8000000 in
set_option maxRecDepth 100000 in
theorem stepC (f : Ft) (k : Mk) (w : World) (hg : goodK k = true) (hs : Small 4611686018427387904 f) : Calls Tryz.prog 26 #[.agg (ftC f), .agg (mkC k)] w (Quiet (.agg (ftC (stepF f k))) w) := by
  obtain ⟨st, tr, nx, cr, op⟩ := f
  obtain ⟨kd, rc, kn⟩ := k
  obtain ⟨h1, h2, _, _, _, _⟩ := goodK_iff.1 hg
  obtain ⟨t0, t1, c0, c1⟩ := hs
  simp only at h1 h2 t0 t1 c0 c1
  have HQ : Hid (∀ (v : Ft), v = stepF ⟨st, tr, nx, cr, op⟩ ⟨kd, rc, kn⟩ → ∀ (cs : Array Value), cs = ftC v → ∀ w', Keep (fun _ => False) w w' → Quiet (.agg (ftC (stepF ⟨st, tr, nx, cr, op⟩ ⟨kd, rc, kn⟩))) w (.returned (.agg cs)) w') := Lib.hid (fun v hv cs hc w' kw => quiet_of (by rw [hc, hv]) kw)
  obtain ⟨Q, hQ⟩ : ∃ Q, Q = ftC (stepF ⟨st, tr, nx, cr, op⟩ ⟨kd, rc, kn⟩) := ⟨_, rfl⟩
  rw [← hQ] at HQ
  rw [← hQ]
  clear hg hQ
  unfold ftC mkC
  simp only
  by_cases hst : st = 0
  · subst hst
    obtain rfl | rfl | rfl | rfl | rfl : kd = 1 ∨ kd = 2 ∨ kd = 3 ∨ kd = 4 ∨ kd = 5 := by omega
    · skip
      go_enter Tryz.func26, Tryz.ntmps26
      go_wp2
      refine bodyPost_ret (ret_ft (fn := Tryz.f26) (p := 4) rfl _ _ (w.heap.size + 1 + 1) rfl ⟨at3 _ _ _ _ _, rfl⟩) rfl ?_
      exact HQ.out ⟨0, tr, nx, cr, true⟩ (by simp [stepF]) _ rfl _ (((keep_new w _).alloc _).alloc _)
    · cases op with
      | true =>
        go_enter Tryz.func26, Tryz.ntmps26
        go_wp2
        refine bodyPost_ret (ret_ft (fn := Tryz.f26) (p := 4) rfl _ _ (w.heap.size + 1 + 1) rfl ⟨at3 _ _ _ _ _, rfl⟩) rfl ?_
        exact HQ.out ⟨1, tr + 1, nx, cr, false⟩ (by simp [stepF]) _ rfl _ (((keep_new w _).alloc _).alloc _)
      | false =>
        go_enter Tryz.func26, Tryz.ntmps26
        go_wp2
        refine bodyPost_ret (ret_ft (fn := Tryz.f26) (p := 4) rfl _ _ (w.heap.size + 1 + 1) rfl ⟨at3 _ _ _ _ _, rfl⟩) rfl ?_
        exact HQ.out ⟨1, tr, nx, cr, false⟩ (by simp [stepF]) _ rfl _ (((keep_new w _).alloc _).alloc _)
    · cases op with
      | true =>
        go_enter Tryz.func26, Tryz.ntmps26
        go_wp2
        refine bodyPost_ret (ret_ft (fn := Tryz.f26) (p := 4) rfl _ _ (w.heap.size + 1 + 1) rfl ⟨at3 _ _ _ _ _, rfl⟩) rfl ?_
        exact HQ.out ⟨2, tr + 1, nx, cr, false⟩ (by simp [stepF]) _ rfl _ (((keep_new w _).alloc _).alloc _)
      | false =>
        go_enter Tryz.func26, Tryz.ntmps26
        go_wp2
        refine bodyPost_ret (ret_ft (fn := Tryz.f26) (p := 4) rfl _ _ (w.heap.size + 1 + 1) rfl ⟨at3 _ _ _ _ _, rfl⟩) rfl ?_
        exact HQ.out ⟨2, tr, nx, cr, false⟩ (by simp [stepF]) _ rfl _ (((keep_new w _).alloc _).alloc _)
    · cases op with
      | true =>
        go_enter Tryz.func26, Tryz.ntmps26
        go_wp2
        refine bodyPost_ret (ret_ft (fn := Tryz.f26) (p := 4) rfl _ _ (w.heap.size + 1 + 1) rfl ⟨at3 _ _ _ _ _, rfl⟩) rfl ?_
        exact HQ.out ⟨0, tr + 1, kn, cr, false⟩ (by simp [stepF]) _ rfl _ (((keep_new w _).alloc _).alloc _)
      | false =>
        go_enter Tryz.func26, Tryz.ntmps26
        go_wp2
        refine bodyPost_ret (ret_ft (fn := Tryz.f26) (p := 4) rfl _ _ (w.heap.size + 1 + 1) rfl ⟨at3 _ _ _ _ _, rfl⟩) rfl ?_
        exact HQ.out ⟨0, tr, kn, cr, false⟩ (by simp [stepF]) _ rfl _ (((keep_new w _).alloc _).alloc _)
    · cases op with
      | true =>
        go_enter Tryz.func26, Tryz.ntmps26
        go_wp2
        refine bodyPost_ret (ret_ft (fn := Tryz.f26) (p := 4) rfl _ _ (w.heap.size + 1 + 1) rfl ⟨at3 _ _ _ _ _, rfl⟩) rfl ?_
        exact HQ.out ⟨0, tr, nx, cr + 1, false⟩ (by simp [stepF]) _ rfl _ (((keep_new w _).alloc _).alloc _)
      | false =>
        go_enter Tryz.func26, Tryz.ntmps26
        go_wp2
        refine bodyPost_ret (ret_ft (fn := Tryz.f26) (p := 4) rfl _ _ (w.heap.size + 1 + 1) rfl ⟨at3 _ _ _ _ _, rfl⟩) rfl ?_
        exact HQ.out ⟨0, tr, nx, cr + 1, false⟩ (by simp [stepF]) _ rfl _ (((keep_new w _).alloc _).alloc _)
  · skip
    have HST := Lib.hid hst
    go_enter Tryz.func26, Tryz.ntmps26
    go_wp2
    refine bodyPost_ret (ret_ft (fn := Tryz.f26) (p := 4) rfl _ _ (w.heap.size + 1 + 1) rfl ⟨at3 _ _ _ _ _, rfl⟩) rfl ?_
    exact HQ.out ⟨st, tr, nx, cr, op⟩ (by simp [stepF, HST.out]) _ rfl _ (((keep_new w _).alloc _).alloc _)
end Go.Proofs.YtimoebicacnihaaGreatDoor.Ln
