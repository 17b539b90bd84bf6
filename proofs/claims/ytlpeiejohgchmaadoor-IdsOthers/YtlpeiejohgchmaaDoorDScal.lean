/-
  What 'burn', 'Room', 'Fuse', 'Down', 'Loose', 'New' return, on a disk and on none.
-/
import Derived.Test.YtlpeiejohgchmaaDoorDBase
import Derived.Lib.MinMax
namespace Go.Proofs.YtlpeiejohgchmaaDoor.Fs
open Go.RowKit Go.Maps
set_option linter.unusedVariables false

/-- What a call that turns the struct alone leaves behind. -/
def Turned (w : World) (S : Nat → Prop) (f : Nat) (s : St) (v : Value) (e : Ending) (w' : World) : Prop := e = .returned v ∧ Disk w' S f s ∧ Keep (· = f) w w' ∧ w'.heap.size = w.heap.size

theorem burn_good {s : St} (h : Good s) : Good (burnS s) := by
  unfold burnS
  split
  · exact h
  · exact h.scalar rfl rfl rfl h.room h.fuse
  · rename_i n hn
    exact h.scalar rfl rfl rfl h.room (fun m hm => by
      have := h.fuse (n + 1) hn
      injection hm with hm
      omega)
theorem burn_room (s : St) : (burnS s).room = s.room := by unfold burnS; split <;> rfl
theorem burn_sure (s : St) : (burnS s).sure = s.sure := by unfold burnS; split <;> rfl
theorem burn_loose (s : St) : (burnS s).loose = s.loose := by unfold burnS; split <;> rfl
theorem burn_files (s : St) : (burnS s).files = s.files := by unfold burnS; split <;> rfl
theorem burn_now (s : St) : (burnS s).now = s.now := by unfold St.now; rw [burn_sure, burn_loose]
theorem burn_bulk (s : St) : (burnS s).bulk = s.bulk := by unfold St.bulk; rw [burn_sure, burn_loose, burn_files]

set_option maxHeartbeats 1000000 in
theorem burn (f : Nat) (S : Nat → Prop) (s : St) (d : Dir) (L : Lay) (w : World) (hp : Parts w S f s d L) (hg : Good s) : Calls Tryd.prog 42 #[.pointer (some ⟨f, 0, none⟩)] w fun e w' => e = .returned (.int .i64 ((burnE s : Nat) : Int)) ∧ Parts w' S f (burnS s) d L ∧ Good (burnS s) ∧ Keep (· = f) w w' ∧ w'.heap.size = w.heap.size := by
  have c4 := hp.fs.cell 4
  have c5 := hp.fs.cell 5
  have c6 := hp.fs.cell 6
  have f5 := hp.fs.frozen 5
  have f6 := hp.fs.frozen 6
  have HG := Lib.hid (burn_good hg)
  have HF := Lib.hid hg.fuse
  have HP := Lib.hid hp
  clear hp hg
  rcases hs : s.fuse with _ | _ | n
  · simp [cellsFS, hs] at c4 c5 c6
    have HS := Lib.hid hs
    clear hs
    go_enter Tryd.func42, Tryd.ntmps42
    go_wp2
    go_ret
    have e1 : burnS s = s := by unfold burnS; rw [HS.out]
    have e2 : burnE s = 0 := by unfold burnE; rw [HS.out]; rfl
    rw [e1, e2]
    exact ⟨rfl, HP.out, by have := HG.out; rwa [e1] at this, Keep.refl _ _, rfl⟩
  · simp [cellsFS, hs] at c4 c5 c6
    have HS := Lib.hid hs
    clear hs
    go_enter Tryd.func42, Tryd.ntmps42
    go_wp2
    go_ret
    have e1 : burnS s = { s with down := true } := by unfold burnS; rw [HS.out]
    have e2 : burnE s = 2 := by unfold burnE; rw [HS.out]; rfl
    have k : Keep (· = f) w (w.setCell ⟨f, 6, none⟩ (.bool true)) := (Keep.refl (· = f) w).setCell (p := ⟨f, 6, none⟩) (fun _ => rfl) _
    have hA : At (w.setCell ⟨f, 6, none⟩ (.bool true)) f 48 (cellsFS (burnS s) L.now L.sure L.lv) := by
      rw [e1]
      exact HP.out.fs.put 6 (.bool true)
    rw [e2]
    exact ⟨rfl, HP.out.turn k hA (burn_sure s) (burn_loose s) (burn_files s), HG.out, k, by simp [World.setCell]⟩
  · simp [cellsFS, hs] at c4 c5 c6
    have hb := HF.out _ hs
    have e5 : ((n : Int) + 1 == 0) = false := by simp; omega
    have HS := Lib.hid hs
    clear hs
    go_enter Tryd.func42, Tryd.ntmps42
    go_wp2
    go_ret
    have e1 : burnS s = { s with fuse := some n } := by unfold burnS; rw [HS.out]
    have e2 : burnE s = 0 := by unfold burnE; rw [HS.out]; rfl
    have k : Keep (· = f) w (w.setCell ⟨f, 5, none⟩ (.int .i64 (n : Int))) := (Keep.refl (· = f) w).setCell (p := ⟨f, 5, none⟩) (fun _ => rfl) _
    have hA : At (w.setCell ⟨f, 5, none⟩ (.int .i64 (n : Int))) f 48 (cellsFS (burnS s) L.now L.sure L.lv) := by
      rw [e1]
      have := HP.out.fs.put 5 (.int .i64 (n : Int))
      unfold cellsFS at this
      rw [HS.out] at this
      exact this
    rw [e2]
    exact ⟨rfl, HP.out.turn k hA (burn_sure s) (burn_loose s) (burn_files s), HG.out, k, by simp [World.setCell]⟩

theorem room_eq (n : Int) : (((min (max n 0) 16777216).toNat : Nat) : Int) = min (max n 0) 16777216 := by omega
theorem roomS_good {s : St} (h : Good s) (n : Int) : Good (roomS s n) := h.scalar rfl rfl rfl (by show (min (max n 0) 16777216).toNat ≤ _; omega) h.fuse
set_option maxHeartbeats 1000000 in
theorem room (f : Nat) (S : Nat → Prop) (s : St) (n : Int) (w : World) (h : Disk w S f s) : Calls Tryd.prog 20 #[.pointer (some ⟨f, 0, none⟩), .int .i64 n] w (Turned w S f (roomS s n) (.tuple #[])) := by
  obtain ⟨⟨L, hp⟩, hg⟩ := h
  have c0 := hp.fs.cell 0
  have f0 := hp.fs.frozen 0
  have HG := Lib.hid hg
  have HP := Lib.hid hp
  simp [cellsFS] at c0
  clear hp hg
  go_enter Tryd.func20, Tryd.ntmps20
  go_wp2
  go_end0
  have k : Keep (· = f) w (w.setCell ⟨f, 0, none⟩ (.int .i64 (min (max n 0) 16777216))) := (Keep.refl (· = f) w).setCell (p := ⟨f, 0, none⟩) (fun _ => rfl) _
  have hA : At (w.setCell ⟨f, 0, none⟩ (.int .i64 (min (max n 0) 16777216))) f 48 (cellsFS (roomS s n) L.now L.sure L.lv) := by
    have := HP.out.fs.put 0 (.int .i64 (min (max n 0) 16777216))
    unfold cellsFS roomS
    simp only [room_eq]
    exact this
  exact ⟨rfl, ⟨⟨L, HP.out.turn k hA rfl rfl rfl⟩, roomS_good HG.out n⟩, k, by simp [World.setCell]⟩
set_option maxHeartbeats 1000000 in
theorem roomNone (n : Int) (w : World) : Calls Tryd.prog 20 #[.pointer none, .int .i64 n] w fun e w' => e = .returned (.tuple #[]) ∧ w = w' := by
  go_enter Tryd.func20, Tryd.ntmps20
  go_wp2
  (try simp only [Exit.inBlock, Exit.then])
  refine bodyPost_ret (results_none rfl _ _ _) rfl ?_
  exact ⟨rfl, rfl⟩

theorem fuse_eq (n : Int) : (((max n 0).toNat : Nat) : Int) = max n 0 := by omega
theorem fuseS_good {s : St} (h : Good s) (n : Int) (hn : n ≤ 9223372036854775807) : Good (fuseS s n) := h.scalar rfl rfl rfl h.room (fun m hm => by injection hm with hm; omega)
set_option maxHeartbeats 1000000 in
theorem fuse (f : Nat) (S : Nat → Prop) (s : St) (n : Int) (hn : n ≤ 9223372036854775807) (w : World) (h : Disk w S f s) : Calls Tryd.prog 13 #[.pointer (some ⟨f, 0, none⟩), .int .i64 n] w (Turned w S f (fuseS s n) (.tuple #[])) := by
  obtain ⟨⟨L, hp⟩, hg⟩ := h
  have c4 := hp.fs.cell 4
  have c5 := hp.fs.cell 5
  have f4 := hp.fs.frozen 4
  have f5 := hp.fs.frozen 5
  have HG := Lib.hid hg
  have HP := Lib.hid hp
  simp [cellsFS] at c4 c5
  clear hp hg
  go_enter Tryd.func13, Tryd.ntmps13
  go_wp2
  go_end0
  have k : Keep (· = f) w ((w.setCell ⟨f, 4, none⟩ (.bool true)).setCell ⟨f, 5, none⟩ (.int .i64 (max n 0))) := ((Keep.refl (· = f) w).setCell (p := ⟨f, 4, none⟩) (fun _ => rfl) _).setCell (p := ⟨f, 5, none⟩) (fun _ => rfl) _
  have hA : At ((w.setCell ⟨f, 4, none⟩ (.bool true)).setCell ⟨f, 5, none⟩ (.int .i64 (max n 0))) f 48 (cellsFS (fuseS s n) L.now L.sure L.lv) := by
    have := (HP.out.fs.put 4 (.bool true)).put 5 (.int .i64 (max n 0))
    unfold cellsFS fuseS
    simp only [Option.getD_some, fuse_eq]
    exact this
  exact ⟨rfl, ⟨⟨L, HP.out.turn k hA rfl rfl rfl⟩, fuseS_good HG.out n hn⟩, k, by simp [World.setCell]⟩
set_option maxHeartbeats 1000000 in
theorem fuseNone (n : Int) (w : World) : Calls Tryd.prog 13 #[.pointer none, .int .i64 n] w fun e w' => e = .returned (.tuple #[]) ∧ w = w' := by
  go_enter Tryd.func13, Tryd.ntmps13
  go_wp2
  (try simp only [Exit.inBlock, Exit.then])
  refine bodyPost_ret (results_none rfl _ _ _) rfl ?_
  exact ⟨rfl, rfl⟩

set_option maxHeartbeats 1000000 in
theorem down (f : Nat) (S : Nat → Prop) (s : St) (w : World) (h : Disk w S f s) : Calls Tryd.prog 21 #[.pointer (some ⟨f, 0, none⟩)] w fun e w' => e = .returned (.bool s.down) ∧ w = w' := by
  obtain ⟨⟨L, hp⟩, hg⟩ := h
  have c6 := hp.fs.cell 6
  simp [cellsFS] at c6
  clear hp hg
  go_enter Tryd.func21, Tryd.ntmps21
  go_wp2
  go_ret
  exact ⟨rfl, rfl⟩
set_option maxHeartbeats 1000000 in
theorem downNone (w : World) : Calls Tryd.prog 21 #[.pointer none] w fun e w' => e = .returned (.bool false) ∧ w = w' := by
  go_enter Tryd.func21, Tryd.ntmps21
  go_wp2
  go_ret
  exact ⟨rfl, rfl⟩

/-! ### New -/
theorem newS_good (n : Int) : Good (newS n) := by
  refine ⟨Tidy.nil _, trivial, by simp [newS], by simp [newS], by simp [newS], ?_, by simp [newS], by simp [newS, St.bulk]⟩
  show (min (max n 0) 16777216).toNat ≤ _
  omega
theorem zeroDisk (w : World) : Disk (w.alloc (.cells (cellsFS ⟨0, [], [], [], none, false⟩ none none (.slice none 0 0)) 48)) (· = w.heap.size) w.heap.size ⟨0, [], [], [], none, false⟩ := by
  refine ⟨⟨⟨none, none, .slice none 0 0, [], fun _ => 0, fun _ => .slice none 0 0⟩, ⟨At.new w _ _, rfl, by simp, by simp, by simp, MapAt.nil _ _ _, MapAt.nil _ _ _, Row.nil _ _ _ _, Clos.nil _ _ _, ⟨by simp, by simp, by simp, by simp, by simp, by simp⟩⟩⟩, ?_⟩
  have := newS_good 0
  exact this
set_option maxHeartbeats 1000000 in
theorem new (n : Int) (w : World) : Calls Tryd.prog 11 #[.int .i64 n] w fun e w' => e = .returned (.pointer (some ⟨w.heap.size, 0, none⟩)) ∧ Disk w' (· = w.heap.size) w.heap.size (newS n) ∧ Keep (fun _ => False) w w' ∧ w'.heap.size = w.heap.size + 1 := by
  have HZ := Lib.hid (zeroDisk w)
  go_enter Tryd.func11, Tryd.ntmps11
  go_wp2_with (go_at_call 20; refine (room w.heap.size _ _ n _ HZ.out).mono ?_; rintro e w' ⟨rfl, hd, hk, hsz⟩)
  go_ret
  refine ⟨rfl, hd, ?_, by rw [hsz]; simp⟩
  have k0 : Keep (fun _ => False) w (w.alloc (.cells (cellsFS ⟨0, [], [], [], none, false⟩ none none (.slice none 0 0)) 48)) := (Keep.refl _ w).alloc _
  exact k0.trans hk (fun i hi e => by omega)

end Go.Proofs.YtlpeiejohgchmaaDoor.Fs
