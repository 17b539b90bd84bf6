/-
  What is done to one file changes no other one: the model's part of FsApart; 'do' over blocks behind a base.
-/
import Derived.Test.YtgjkocjgkbjciaaDo
namespace Go.Proofs.Ytgjkocjgkbjciaa.Fs
open Go.RowKit
set_option linter.unusedVariables false

theorem dDo {base f : Nat} {s : St} (w : World) (o : OpR) (x : Option Addr) (n c : Nat) (hA : o.a.size ≤ 9223372036854775807) (hB : o.b.size ≤ 9223372036854775807) (hn : o.data.length = n) (hn2 : n ≤ 1000) (hb : s.bulk + 2 ≤ 1000000) (hBy : Bytes (fun k => k < base) w x o.data) (h : D base w f s) :
    Calls Try.prog 14 #[.pointer (some ⟨f, 0, none⟩), .agg #[.int .i64 o.kind, .int .i64 o.num, .int .i64 o.more, .string o.a, .string o.b, .slice x n c]] w (Ok base w f (doS s o) (doE s o)) :=
  (doOp f _ s o.kind o.num o.more o.a o.b o.data x n c hA hB hn hn2 (fun k => k < base) (fun b hp hi => by have := hi.1; omega) hb w hBy (fun b hs => hs.2) h.2).mono fun e w' hw => Ok.of h.1 hw

/-- The file of that name, and what it has. -/
structure Has (s : St) (a : Nm) (data : List Nat) (i : Nat) : Prop where
  fuse : s.fuse = none
  down : s.down = false
  get : get s.now a = some i
  bytes : (s.file i).bytes = data
theorem has_set {s : St} {a : Nm} {data : List Nat} {i j : Nat} (h : Has s a data i) (x : File) (hj : j ≠ i) : Has (setFile s j x) a data i := by
  refine ⟨h.fuse, h.down, h.get, ?_⟩
  rw [← h.bytes]
  unfold St.file setFile
  simp only
  rw [List.getD_eq_getElem?_getD, List.getD_eq_getElem?_getD, List.getElem?_set_ne hj]
theorem has_ne {s : St} (hG : Good s) {a b : Nm} {data : List Nat} {i j : Nat} (h : Has s a data i) (hb : Fs.get s.now b = some j) (hne : b ≠ a) : j ≠ i := fun e => by
  subst e
  have := hG.now.same (get_mem hb) (get_mem h.get) rfl
  exact hne (congrArg Prod.fst this)
theorem has_do {s : St} (hG : Good s) {a : Nm} {data : List Nat} {i : Nat} (h : Has s a data i) (o : OpR) (ha : nm o.a ≠ a) (hb : nm o.b ≠ a) : Has (doS s o) a data i := by
  have hil : i < s.files.length := hG.now.lt _ (get_mem h.get)
  have hE := live_burnE h.fuse
  have hS := live_burnS h.fuse
  unfold doS
  split
  · unfold createS
    split
    · exact h
    · split
      · exact h
      · split
        · exact h
        · rw [live_chg (s := { s with files := s.files ++ [⟨[], 0⟩] }) h.fuse]
          refine ⟨h.fuse, h.down, ?_, ?_⟩
          · have e : St.now { s with files := s.files ++ [⟨[], 0⟩], loose := s.loose ++ [.mk (nm o.a) s.files.length] } = put s.now (nm o.a) s.files.length := by simp [St.now, app]
            rw [e, get_put_other _ _ (Ne.symm ha)]
            exact h.get
          · rw [← h.bytes]
            unfold St.file
            simp only
            rw [List.getD_eq_getElem?_getD, List.getD_eq_getElem?_getD, List.getElem?_append_left hil]
  · split
    · unfold appendS
      split
      · exact h
      · rename_i hf
        split
        · exact h
        · rw [hS]
          have hf0 : findE s (nm o.a) = 0 := by simpa using hf
          obtain ⟨_, j, hj⟩ := find_ok hf0
          rw [hj]
          exact has_set h _ (has_ne hG h hj ha)
    · split
      · unfold syncS
        split
        · exact h
        · rename_i hf
          rw [hS]
          have hf0 : findE s (nm o.a) = 0 := by simpa using hf
          obtain ⟨_, j, hj⟩ := find_ok hf0
          rw [hj]
          exact has_set h _ (has_ne hG h hj ha)
      · split
        · unfold renameS
          split
          · exact h
          · split
            · split
              · rw [hS]; exact h
              · rw [live_chg h.fuse]
                refine ⟨h.fuse, h.down, ?_, h.bytes⟩
                have e : St.now { s with loose := s.loose ++ [.ren (nm o.a) (nm o.b)] } = del (put s.now (nm o.b) ((Fs.get s.now (nm o.a)).getD 0)) (nm o.a) := by simp [St.now, app]
                rw [e, get_del_other _ (Ne.symm ha), get_put_other _ _ (Ne.symm hb)]
                exact h.get
            · exact h
        · split
          · unfold unlinkS
            split
            · exact h
            · rw [live_chg h.fuse]
              refine ⟨h.fuse, h.down, ?_, h.bytes⟩
              have e : St.now { s with loose := s.loose ++ [.unl (nm o.a)] } = del s.now (nm o.a) := by simp [St.now, app]
              rw [e, get_del_other _ (Ne.symm ha)]
              exact h.get
          · split
            · rw [live_dirSync h.fuse h.down]
              exact ⟨h.fuse, h.down, h.get, h.bytes⟩
            · exact h
theorem has_start {a : Nm} (ha : isNm a = true) {data : List Nat} (hl : data.length ≤ 500) : Has (appendS (createS (newS 1048576) a) a data) a data 0 ∧ (appendS (createS (newS 1048576) a) a data).bulk ≤ 2 := by
  refine ⟨?_, by rw [bulk_append]; exact bulk_create (newS 1048576) a⟩
  rw [live_create rfl rfl ha rfl (by decide)]
  rw [live_append (i := 0) rfl rfl ha (by simp [newS, St.now, app, put, del, ins, get]) data (by simp [newS, St.now, St.used, app, put, del, ins, St.file]; omega)]
  refine ⟨rfl, rfl, by simp [newS, setFile, St.now, app, put, del, ins, get], by simp [newS, setFile, St.file]⟩
theorem has_find {s : St} {a : Nm} {data : List Nat} {i : Nat} (ha : isNm a = true) (h : Has s a data i) : findE s a = 0 ∧ readV s a = data := by
  have h1 := live_findE h.fuse h.down ha h.get
  refine ⟨h1, ?_⟩
  unfold readV
  rw [h1, h.get]
  exact h.bytes

/-- An Op that came in, in a later world. -/
theorem OpAt.below {w w' : World} {b off : Nat} {o : OpR} (h : OpAt w b off o) (hb : b < w.heap.size) (hw : Below w.heap.size w w') :
    ∃ x c, w'.cell? ⟨b, off, none⟩ = some (.int .i64 o.kind) ∧ w'.cell? ⟨b, off + 1, none⟩ = some (.int .i64 o.num) ∧ w'.cell? ⟨b, off + 2, none⟩ = some (.int .i64 o.more) ∧ w'.cell? ⟨b, off + 3, none⟩ = some (.string o.a) ∧ w'.cell? ⟨b, off + 4, none⟩ = some (.string o.b) ∧
      w'.cell? ⟨b, off + 5, none⟩ = some (.slice x o.data.length c) ∧ o.data.length ≤ 9223372036854775807 ∧ o.a.size ≤ 9223372036854775807 ∧ o.b.size ≤ 9223372036854775807 ∧ o.num ≤ 9223372036854775807 ∧ o.more ≤ 9223372036854775807 ∧ Bytes (fun k => k < w.heap.size) w' x o.data := by
  obtain ⟨x, c, h0, h1, h2, h3, h4, h5, r1, r2, r3, r4, r5, hB⟩ := h
  have e : ∀ k, w'.cell? ⟨b, k, none⟩ = w.cell? ⟨b, k, none⟩ := fun k => World.cell?_of_block (by exact hw.block b hb)
  exact ⟨x, c, by rw [e]; exact h0, by rw [e]; exact h1, by rw [e]; exact h2, by rw [e]; exact h3, by rw [e]; exact h4, by rw [e]; exact h5, r1, r2, r3, r4, r5, hB.below hw⟩
theorem toList_ne {A B : ByteArray} (h : A ≠ B) : (A.toList == B.toList) = false := by
  rw [ByteArray.toList_eq, ByteArray.toList_eq]
  simp only [beq_eq_false_iff_ne]
  exact fun e => h (nm_inj e)

end Go.Proofs.Ytgjkocjgkbjciaa.Fs
