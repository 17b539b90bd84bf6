/-
  What 'Rename', 'DirSync' and 'Sync' return and do.
-/
import Derived.Test.YtlpeiejohgchmaaDoorDOpsA
namespace Go.Proofs.YtlpeiejohgchmaaDoor.Fs
open Go.RowKit Go.Maps
set_option linter.unusedVariables false

/-! ### A file set anew -/
section
variable {w w' : World} {S S' : Nat → Prop} {fb : Nat → Nat} {rw_ : Nat → Value} {fs : List File}
theorem set_other {fs : List File} {i j : Nat} {x y : File} (h : j ≠ i) (hy : (fs.set i x)[j]? = some y) : fs[j]? = some y := by
  rw [List.getElem?_set_ne (Ne.symm h)] at hy
  exact hy
theorem set_same {fs : List File} {i : Nat} {x y : File} (hy : (fs.set i x)[i]? = some y) : y = x := by
  have hl : i < fs.length := by have := (List.getElem?_eq_some_iff.1 hy).1; simpa using this
  rw [List.getElem?_set_self hl] at hy
  injection hy with hy
  exact hy.symm
theorem row_block (h : FilesAt w S fb rw_ fs) {i b : Nat} (hi : i < fs.length) (hb : (rw_ i).ownBlock = some b) : b < w.heap.size ∧ ∃ cs, At w b 5 cs := by
  obtain ⟨x, hx⟩ := getElem?_some_lt hi
  exact ⟨(h.own i x hx).lt b hb, owns_at (h.own i x hx).1 hb⟩
theorem FilesAt.set (h : FilesAt w S fb rw_ fs) (i : Nat) (hi : i < fs.length) (x : File) (v : Value) (k : Keep (fun b => b = fb i ∨ (rw_ i).ownBlock = some b) w w') (hA : At w' (fb i) 63 #[v, .int .i64 (x.sure : Int)]) (hO : Own w' v x.bytes) (hN : New w (rw_ i).ownBlock v.ownBlock)
    (hv : ∀ b, v.ownBlock = some b → S' b) (hS : ∀ b, b < w.heap.size → S b → S' b) : FilesAt w' S' fb (fun k => if k = i then v else rw_ k) (fs.set i x) := by
  have hlen : (fs.set i x).length = fs.length := by simp
  have hne : ∀ j b, j < fs.length → j ≠ i → (rw_ j).ownBlock = some b → (rw_ i).ownBlock ≠ some b := fun j b hj hji h1 h2 => hji (h.apart j i b hj hi h1 h2)
  refine ⟨fun j y hy => ?_, fun j y hy => ?_, fun j hj => ?_, fun j b hj hb => ?_, fun a b ha hb he => ?_, fun a b g ha hb h1 h2 => ?_⟩
  · by_cases hj : j = i
    · subst hj
      rw [set_same hy]
      simp only [if_true]
      exact hA
    · simp only [if_neg hj]
      have hy' := set_other hj hy
      have hjl := (List.getElem?_eq_some_iff.1 hy').1
      refine (h.at_ j y hy').keep k ?_
      rintro (e | e)
      · exact hj (h.inj j i hjl hi e)
      · obtain ⟨_, cs, h5⟩ := row_block h hi e
        exact At.ne h5 (h.at_ j y hy') (by decide) rfl
  · by_cases hj : j = i
    · subst hj
      rw [set_same hy]
      simp only [if_true]
      exact hO
    · simp only [if_neg hj]
      have hy' := set_other hj hy
      have hjl := (List.getElem?_eq_some_iff.1 hy').1
      refine (h.own j y hy').keep k (fun b hb => ?_)
      rintro (e | e)
      · obtain ⟨_, cs, h5⟩ := row_block h hjl hb
        obtain ⟨x0, hx0⟩ := getElem?_some_lt hi
        subst e
        exact At.ne h5 (h.at_ i x0 hx0) (by decide) rfl
      · exact hne j b hjl hj hb e
  · rw [hlen] at hj
    exact hS _ (h.lt j hj) (h.inS j hj)
  · rw [hlen] at hj
    by_cases hji : j = i
    · simp only [if_pos hji] at hb
      exact hv b hb
    · simp only [if_neg hji] at hb
      exact hS b (row_block h hj hb).1 (h.rowS j b hj hb)
  · rw [hlen] at ha hb
    exact h.inj a b ha hb he
  · rw [hlen] at ha hb
    have key : ∀ j, j < fs.length → j ≠ i → v.ownBlock = some g → (rw_ j).ownBlock = some g → False := fun j hj hji h3 h4 => by
      rcases hN g h3 with h5 | h5
      · exact hne j g hj hji h4 h5
      · have := (row_block h hj h4).1
        omega
    by_cases hai : a = i
    · by_cases hbi : b = i
      · omega
      · simp only [if_pos hai, if_neg hbi] at h1 h2
        exact (key b hb hbi h1 h2).elim
    · by_cases hbi : b = i
      · simp only [if_neg hai, if_pos hbi] at h1 h2
        exact (key a ha hai h2 h1).elim
      · simp only [if_neg hai, if_neg hbi] at h1 h2
        exact h.apart a b g ha hb h1 h2
end
theorem Parts.set {w w' : World} {S S' : Nat → Prop} {f : Nat} {s : St} {d : Dir} {L : Lay} (hp : Parts w S f s d L) (i : Nat) (hi : i < s.files.length) (x : File) (v : Value) (k : Keep (fun b => b = L.fb i ∨ (L.row i).ownBlock = some b) w w') (hA : At w' (L.fb i) 63 #[v, .int .i64 (x.sure : Int)]) (hO : Own w' v x.bytes) (hN : New w (L.row i).ownBlock v.ownBlock)
    (hv : ∀ b, v.ownBlock = some b → S' b) (hS : ∀ b, b < w.heap.size → S b → S' b) : Parts w' S' f (setFile s i x) d { L with row := fun k => if k = i then v else L.row k } := by
  obtain ⟨x0, hx0⟩ := getElem?_some_lt hi
  have hT : ∀ b t cs, At w b t cs → t ≠ 63 → t ≠ 5 → ¬ (b = L.fb i ∨ (L.row i).ownBlock = some b) := by
    rintro b t cs hb h1 h2 (e | e)
    · subst e; exact At.ne hb (hp.files.at_ i x0 hx0) h1 rfl
    · obtain ⟨_, cs', h5⟩ := row_block hp.files hi e
      exact At.ne hb h5 h2 rfl
  have hTm : ∀ b, MapBlk w b → ¬ (b = L.fb i ∨ (L.row i).ownBlock = some b) := by
    rintro b hb (e | e)
    · subst e; exact not_map_at (hp.files.at_ i x0 hx0) hb
    · obtain ⟨_, cs', h5⟩ := row_block hp.files hi e
      exact not_map_at h5 hb
  exact ⟨hp.fs.keep k (hT f _ _ hp.fs (by decide) (by decide)), hS f hp.fs.lt hp.inS, hp.both, hp.two, hp.made,
    (hp.now.mono hS).keep k (fun b _ _ hb => hTm b hb), (hp.sure.mono hS).keep k (fun b _ _ hb => hTm b hb), (hp.loose.mono hS).keep k (fun b cs _ hb => hT b _ cs hb (by decide) (by decide)),
    (hp.clos.mono hS).keep k (fun b t cs _ hb ht => hT b t cs hb (by rcases ht with rfl | rfl <;> decide) (by rcases ht with rfl | rfl <;> decide)), hp.files.set i hi x v k hA hO hN hv hS⟩
theorem set_good {s : St} (h : Good s) (i : Nat) (x : File) (h1 : x.sure ≤ x.bytes.length) (h2 : ∀ c ∈ x.bytes, c < 256) (h3 : x.bytes.length ≤ 16777216) : Good (setFile s i x) := by
  have hl : (setFile s i x).files.length = s.files.length := by simp [setFile]
  have hm : ∀ {Q : File → Prop}, (∀ y ∈ s.files, Q y) → Q x → ∀ y ∈ (setFile s i x).files, Q y := fun ha hb y hy => by
    rcases List.mem_or_eq_of_mem_set hy with hy | hy
    · exact ha y hy
    · rw [hy]; exact hb
  exact ⟨by rw [hl]; exact h.tidy, by rw [hl]; exact h.chain, hm h.sure h1, hm (Q := fun x => ∀ c ∈ x.bytes, c < 256) h.byte h2, hm (Q := fun x => x.bytes.length ≤ 16777216) h.len h3, h.room, h.fuse, by
    have := h.bulk
    unfold St.bulk at this ⊢
    rw [hl]
    exact this⟩
theorem set_now (s : St) (i : Nat) (x : File) : (setFile s i x).now = s.now := rfl
theorem burn_file (s : St) (i : Nat) : (burnS s).file i = s.file i := by unfold St.file; rw [burn_files]
theorem file_at {s : St} {i : Nat} (h : i < s.files.length) : s.files[i]? = some (s.file i) := by
  unfold St.file
  rw [List.getD_eq_getElem?_getD, List.getElem?_eq_getElem h]
  rfl

/-! ### Sync -/
/-! ### DirSync -/
set_option maxHeartbeats 4000000 in
set_option maxRecDepth 100000 in
theorem dirSyncNone (w : World) : Calls Tryd.prog 35 #[.pointer none] w fun e w' => e = .returned (.int .i64 1) ∧ w = w' := by
  go_enter Tryd.func35, Tryd.ntmps35
  go_wp2_with (go_at_call 29; refine (readyNone _ _).mono ?_; rintro e w' ⟨rfl, rfl⟩)
  go_ret
  exact ⟨rfl, rfl⟩
theorem settle_good {s : St} (h : Good s) : Good (settleS s s.loose.length) := by
  have e : (s.loose.take s.loose.length).foldl app s.sure = s.now := by rw [List.take_length]; rfl
  refine ⟨?_, trivial, h.sure, h.byte, h.len, h.room, h.fuse, ?_⟩
  · show Tidy s.files.length ((s.loose.take s.loose.length).foldl app s.sure)
    rw [e]
    exact h.now
  · have h1 := h.bulk
    have h2 := length_apps_le s.loose s.sure
    unfold St.bulk at h1 ⊢
    show s.files.length + ((s.loose.take s.loose.length).foldl app s.sure).length + 0 ≤ 1000000
    rw [List.take_length]
    omega
theorem settle_now (s : St) : (settleS s s.loose.length).now = s.now := by
  show (s.loose.take s.loose.length).foldl app s.sure = s.now
  rw [List.take_length]
  rfl
set_option maxHeartbeats 4000000 in
set_option maxRecDepth 100000 in
theorem dirSync (f : Nat) (S : Nat → Prop) (s : St) (w : World) (h : Disk w S f s) :
    Calls Tryd.prog 35 #[.pointer (some ⟨f, 0, none⟩)] w (Wrote w S f (dirSyncS s) (dirSyncE s)) := by
  obtain ⟨⟨L, hp⟩, hG⟩ := h
  have cR := ready0 f S s w ⟨⟨L, hp⟩, hG⟩
  have cB := burn f S s s.now L w hp hG
  have HD : Hid (Disk w S f s) := ⟨⟨L, hp⟩, hG⟩
  have HS0 := Lib.hid hp.inS
  rw [readyE_nil] at cR
  obtain ⟨D, hDd⟩ : ∃ D, D = s.down := ⟨_, rfl⟩
  rw [← hDd] at cR
  have HDd := Lib.hid hDd
  have HN := Lib.hid hp.clos.1
  clear hp hG hDd
  cases D
  · simp only [Bool.false_eq_true, if_false] at cR
    rcases burnE_cases s with hB | hB
    · rw [hB] at cB
      have HB := Lib.hid hB
      clear hB
      go_enter Tryd.func35, Tryd.ntmps35
      go_wp2_with (first | (go_at_call 29; refine cR.mono ?_; rintro e w' ⟨rfl, rfl⟩))
      refine cB.mono ?_
      rintro e w2 ⟨rfl, hp2, hG2, k2, z2⟩
      obtain ⟨x, cap, hv, _, _⟩ := ownsRow_shape hp2.loose.1
      have c3 := hp2.fs.cell 3
      simp [cellsFS, hv] at c3
      rw [HN.out] at c3
      have cS := settle f S (burnS s) s.now L (burnS s).loose.length (Nat.le_refl _) w2 hp2 hG2
      rw [burn_loose] at cS
      have HG2 := Lib.hid hG2
      have HK2 := Lib.hid k2
      have HZ2 := Lib.hid z2
      clear hp2 hG2 k2 z2 hv
      go_wp2_with fail
      refine cS.mono ?_
      intro e w3 hW
      obtain ⟨rfl, hp3, k3, z3⟩ := hW
      have HP3 := Lib.hid hp3
      have HK3 := Lib.hid k3
      clear hp3 k3 z3
      go_wp2
      go_ret
      have e1 : dirSyncE s = 0 := by unfold dirSyncE; rw [← HDd.out, HB.out]; rfl
      have e2 : dirSyncS s = settleS (burnS s) (burnS s).loose.length := by unfold dirSyncS; rw [← HDd.out, HB.out, burn_loose]; rfl
      rw [e1, e2]
      have hq := HP3.out.mono (S' := Up S w w3) (fun i _ h => .inl h)
      have en : s.now = (settleS (burnS s) (burnS s).loose.length).now := by rw [settle_now, burn_now]
      rw [en, ← burn_loose] at hq
      exact ⟨rfl, ⟨⟨_, hq⟩, settle_good HG2.out⟩, (HK2.out.mono (T := S) (fun i _ e => by rw [e]; exact HS0.out)).trans HK3.out (fun i _ h => h)⟩
    · rw [hB] at cB
      have HB := Lib.hid hB
      clear hB
      go_enter Tryd.func35, Tryd.ntmps35
      go_wp2_with (first | (go_at_call 29; refine cR.mono ?_; rintro e w' ⟨rfl, rfl⟩))
      refine cB.mono ?_
      rintro e w2 ⟨rfl, hp2, hG2, k2, z2⟩
      have HP2 := Lib.hid hp2
      have HG2 := Lib.hid hG2
      have HK2 := Lib.hid k2
      clear hp2 hG2 k2 z2
      go_wp2
      go_ret
      have e1 : dirSyncE s = 2 := by unfold dirSyncE; rw [← HDd.out, HB.out]; rfl
      have e2 : dirSyncS s = burnS s := by unfold dirSyncS; rw [← HDd.out, HB.out]; rfl
      rw [e1, e2]
      refine ⟨rfl, ⟨⟨L, ?_⟩, HG2.out⟩, HK2.out.mono (fun i _ e => by rw [e]; exact HS0.out)⟩
      rw [burn_now]
      exact HP2.out.mono (fun i _ h => .inl h)
  · simp only [if_true] at cR
    go_enter Tryd.func35, Tryd.ntmps35
    go_wp2_with (first | (go_at_call 29; refine cR.mono ?_; rintro e w' ⟨rfl, rfl⟩))
    go_ret
    have e1 : dirSyncE s = 2 := by unfold dirSyncE; rw [← HDd.out]; rfl
    have e2 : dirSyncS s = s := by unfold dirSyncS; rw [← HDd.out]; rfl
    rw [e1, e2]
    exact Wrote.same HD.out (Keep.refl _ _)

end Go.Proofs.YtlpeiejohgchmaaDoor.Fs
