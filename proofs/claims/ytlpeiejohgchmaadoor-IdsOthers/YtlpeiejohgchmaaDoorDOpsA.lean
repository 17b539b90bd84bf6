/-
  What 'Create', 'Unlink', 'Rename' and 'DirSync' return and do.
-/
import Derived.Test.YtlpeiejohgchmaaDoorDSet
import Derived.BigQuiet
namespace Go.Proofs.YtlpeiejohgchmaaDoor.Fs
open Go.RowKit Go.Maps
set_option linter.unusedVariables false

section
variable {w w1 w' : World} {S T : Nat → Prop} {f : Nat} {s : St} {E : Nat} {e : Ending}
theorem Wrote.same (h : Disk w S f s) (k : Keep (fun _ => False) w w') : Wrote w S f s E (.returned (.int .i64 (E : Int))) w' :=
  ⟨rfl, (h.keep k (fun _ _ h => h)).mono (fun i _ h => .inl h), k.mono (fun i _ h => h.elim)⟩
theorem Wrote.after (k : Keep T w w1) (hT : ∀ i, T i → S i) (h : Wrote w1 (Up S w w1) f s E e w') : Wrote w S f s E e w' := by
  obtain ⟨h1, h2, h3⟩ := h
  refine ⟨h1, h2.mono (fun i _ h => Up.trans k.size h3.size h), (k.mono (fun i _ h => hT i h)).trans h3 (fun i hi h => ?_)⟩
  rcases h with h | ⟨h, _⟩
  · exact h
  · omega
theorem Wrote.behind (k : Keep T w w1) (hT : ∀ i, T i → S i) (h : Wrote w1 S f s E e w') : Wrote w S f s E e w' := by
  obtain ⟨h1, h2, h3⟩ := h
  exact ⟨h1, h2.mono (fun i _ h => Up.wide k.size (Nat.le_refl _) h), (k.mono (fun i _ h => hT i h)).trans h3 (fun i _ h => h)⟩
end

/-! ### Create -/
/-- The disk with one more file. -/
def moreS (s : St) : St := { s with files := s.files ++ [⟨[], 0⟩] }
theorem more_good {s : St} (h : Good s) (hb : s.bulk + 2 ≤ 1000000) : Good (moreS s) := by
  have hl : (moreS s).files.length = s.files.length + 1 := by simp [moreS]
  have hm : ∀ {Q : File → Prop}, (∀ x ∈ s.files, Q x) → Q ⟨[], 0⟩ → ∀ x ∈ (moreS s).files, Q x := fun h1 h2 x hx => by
    rcases List.mem_append.1 hx with hx | hx
    · exact h1 x hx
    · simp at hx; rw [hx]; exact h2
  refine ⟨by rw [hl]; exact h.tidy.mono (by omega), by rw [hl]; exact h.chain.mono (by omega), hm h.sure (by simp), hm (Q := fun x => ∀ c ∈ x.bytes, c < 256) h.byte (by simp), hm (Q := fun x => x.bytes.length ≤ 16777216) h.len (by simp), h.room, h.fuse, ?_⟩
  unfold St.bulk at hb ⊢
  rw [hl]
  show s.files.length + 1 + s.sure.length + s.loose.length ≤ 1000000
  omega
theorem more_bulk {s : St} (hb : s.bulk + 2 ≤ 1000000) : (moreS s).bulk < 1000000 := by
  unfold St.bulk at hb ⊢
  simp [moreS]
  omega
theorem more_fits {s : St} (h : Good s) (a : Nm) (ha : get s.now a = none) : Fits (moreS s).files.length (moreS s).now (.mk a s.files.length) := by
  refine ⟨by simp [moreS], fun p hp e => ?_, ha⟩
  have := h.now.lt p hp
  omega
theorem more_parts {w w4 : World} {S : Nat → Prop} {f b : Nat} {s : St} {L : Lay} (hp : Parts w S f s s.now L) (hG : Good s) (k : Keep (fun _ => False) w w4) (hb : At w4 b 63 #[.slice none 0 0, .int .i64 0]) (h1 : w.heap.size ≤ b) :
    Parts w4 (Up S w w4) f (moreS s) (moreS s).now { L with fb := fun k => if k = s.files.length then b else L.fb k, row := fun k => if k = s.files.length then .slice none 0 0 else L.row k } := by
  have hP := (hp.keep k (fun _ _ h => h)).mono (S' := Up S w w4) (fun i _ h => .inl h)
  have hc : ∀ i, i < s.files.length → L.fb i = if i = s.files.length then b else L.fb i := fun i hi => by rw [if_neg (by omega)]
  refine ⟨hP.fs, hP.inS, hP.both, hP.two, hP.made, ?_, ?_, hP.loose, ?_, ?_⟩
  · exact hP.now.congr (fun p hp' => hc _ (hG.now.lt p hp'))
  · exact hP.sure.congr (fun p hp' => hc _ (hG.tidy.lt p hp'))
  · exact hP.clos.congr hG.chain hc
  · have hlen : (moreS s).files.length = s.files.length + 1 := by simp [moreS]
    have hold : ∀ i x, i ≠ s.files.length → (moreS s).files[i]? = some x → s.files[i]? = some x := fun i x hi hx => by
      have hl := (List.getElem?_eq_some_iff.1 hx).1
      rw [hlen] at hl
      have : (moreS s).files = s.files ++ [⟨[], 0⟩] := rfl
      rw [this, List.getElem?_append_left (by omega)] at hx
      exact hx
    have hnew : ∀ x, (moreS s).files[s.files.length]? = some x → x = ⟨[], 0⟩ := fun x hx => by
      have : (moreS s).files = s.files ++ [⟨[], 0⟩] := rfl
      rw [this] at hx
      simpa using hx.symm
    refine ⟨fun i x hx => ?_, fun i x hx => ?_, fun i hi => ?_, fun i g hi hg => ?_, fun i j hi hj he => ?_, fun i j g hi hj hgi hgj => ?_⟩
    · by_cases h : i = s.files.length
      · subst h
        simp only [if_true]
        rw [hnew x hx]
        exact hb
      · simp only [if_neg h]
        exact hP.files.at_ i x (hold i x h hx)
    · by_cases h : i = s.files.length
      · subst h
        show Own w4 (if s.files.length = s.files.length then _ else _) x.bytes
        rw [if_pos rfl, hnew x hx]
        exact Own.empty w4
      · show Own w4 (if i = s.files.length then _ else _) x.bytes
        rw [if_neg h]
        exact hP.files.own i x (hold i x h hx)
    · by_cases h : i = s.files.length
      · show Up S w w4 (if i = s.files.length then _ else _)
        rw [if_pos h]
        exact .inr ⟨h1, hb.lt⟩
      · show Up S w w4 (if i = s.files.length then _ else _)
        rw [if_neg h]
        exact hP.files.inS i (by omega)
    · by_cases h : i = s.files.length
      · simp [h, Value.ownBlock] at hg
      · simp only [if_neg h] at hg
        exact hP.files.rowS i g (by omega) hg
    · by_cases h : i = s.files.length
      · by_cases h' : j = s.files.length
        · omega
        · simp only [if_pos h, if_neg h'] at he
          have := (hp.files.lt j (by omega))
          omega
      · by_cases h' : j = s.files.length
        · simp only [if_neg h, if_pos h'] at he
          have := (hp.files.lt i (by omega))
          omega
        · simp only [if_neg h, if_neg h'] at he
          exact hP.files.inj i j (by omega) (by omega) he
    · by_cases h : i = s.files.length
      · simp [h, Value.ownBlock] at hgi
      · by_cases h' : j = s.files.length
        · simp [h', Value.ownBlock] at hgj
        · simp only [if_neg h, if_neg h'] at hgi hgj
          exact hP.files.apart i j g (by omega) (by omega) hgi hgj

theorem cells_more (s : St) (a b : Option Nat) (lv : Value) : cellsFS (burnS (moreS s)) a b lv = cellsFS (burnS s) a b lv := by
  obtain ⟨r, su, lo, fi, fu, dn⟩ := s
  rcases fu with _ | _ | n <;> rfl
/-- A file that no name leads to may be left out. -/
theorem less_parts {w : World} {S : Nat → Prop} {f : Nat} {s : St} {L : Lay} (hp : Parts w S f (burnS (moreS s)) (burnS (moreS s)).now L) : Parts w S f (burnS s) (burnS s).now L := by
  have h1 : (burnS (moreS s)).sure = (burnS s).sure := by rw [burn_sure, burn_sure]; rfl
  have h2 : (burnS (moreS s)).loose = (burnS s).loose := by rw [burn_loose, burn_loose]; rfl
  have h3 : (burnS (moreS s)).files = (burnS s).files ++ [⟨[], 0⟩] := by rw [burn_files, burn_files]; rfl
  have h4 : cellsFS (burnS (moreS s)) L.now L.sure L.lv = cellsFS (burnS s) L.now L.sure L.lv := cells_more s _ _ _
  have h5 : (burnS (moreS s)).now = (burnS s).now := by unfold St.now; rw [h1, h2]
  have hl : (burnS s).files.length ≤ (burnS (moreS s)).files.length := by rw [h3]; simp
  have hx : ∀ i x, (burnS s).files[i]? = some x → (burnS (moreS s)).files[i]? = some x := fun i x hx => by
    rw [h3, List.getElem?_append_left (List.getElem?_eq_some_iff.1 hx).1]
    exact hx
  exact ⟨by rw [← h4]; exact hp.fs, hp.inS, hp.both, hp.two, by rw [← h2]; exact hp.made, by rw [← h5]; exact hp.now, by rw [← h1]; exact hp.sure, hp.loose, by rw [← h2]; exact hp.clos,
    ⟨fun i x h => hp.files.at_ i x (hx i x h), fun i x h => hp.files.own i x (hx i x h), fun i h => hp.files.inS i (by omega), fun i b h => hp.files.rowS i b (by omega), fun i j a b => hp.files.inj i j (by omega) (by omega), fun i j b c e => hp.files.apart i j b (by omega) (by omega)⟩⟩

theorem readyE_cases (s : St) (ns : List Nm) : readyE s ns = 0 ∨ readyE s ns = 1 ∨ readyE s ns = 2 := by unfold readyE; split <;> (try split) <;> simp
theorem ready_nm {s : St} {A : ByteArray} (h : readyE s [nm A] = 0) : A.size ≤ 80 := by
  by_cases hn : isNm (nm A) = true
  · have := isNm_length hn
    rwa [nm_length] at this
  · simp [readyE, hn] at h

set_option maxHeartbeats 4000000 in
set_option maxRecDepth 100000 in
theorem createNone (A : ByteArray) (w : World) : Calls Tryd.prog 18 #[.pointer none, .string A] w fun e w' => e = .returned (.int .i64 1) ∧ Keep (fun _ => False) w w' := by
  go_enter Tryd.func18, Tryd.ntmps18
  go_wp2_with (go_at_call 29; refine (readyNone _ _).mono ?_; rintro e w' ⟨rfl, rfl⟩)
  go_ret
  exact ⟨rfl, ((Keep.refl _ w).alloc _).alloc _⟩

set_option maxHeartbeats 4000000 in
set_option maxRecDepth 100000 in
theorem create (f : Nat) (S : Nat → Prop) (s : St) (A : ByteArray) (hA : A.size ≤ 9223372036854775807) (hb : s.bulk + 2 ≤ 1000000) (w : World) (h : Disk w S f s) :
    Calls Tryd.prog 18 #[.pointer (some ⟨f, 0, none⟩), .string A] w (Wrote w S f (createS s (nm A)) (createE s (nm A))) := by
  obtain ⟨⟨L, hp⟩, hG⟩ := h
  obtain ⟨w1, hw1⟩ : ∃ w1, w1 = (w.alloc (.cells #[.string A] 9)).alloc (.cells #[.string A] 9) := ⟨_, rfl⟩
  have k0 : Keep (fun _ => False) w w1 := by rw [hw1]; exact ((Keep.refl _ w).alloc _).alloc _
  have hP := hp.keep k0 (fun _ _ h => h)
  have hq0 : At w1 w.heap.size 9 #[.string A] := by rw [hw1]; exact (At.new w _ _).alloc _
  have hq1 : At w1 (w.heap.size + 1) 9 (([A].map Value.string).toArray) := by
    rw [hw1]
    have := At.new (w.alloc (.cells #[.string A] 9)) 9 #[.string A]
    simpa using this
  have cR := ready f S s w1 ⟨⟨L, hP⟩, hG⟩ (w.heap.size + 1) 1 1 [A] rfl (by omega) hq1 (by simpa using hA)
  have HR : Hid (readyE s ([A].map nm) = readyE s [nm A]) := rfl
  have hEc := readyE_cases s [nm A]
  obtain ⟨E, hE⟩ : ∃ E, E = readyE s [nm A] := ⟨_, rfl⟩
  rw [HR.out, ← hE] at cR
  rw [← hE] at hEc
  have HE := Lib.hid hE
  have c1 := hP.fs.cell 1
  simp [cellsFS] at c1
  have q0 := hq0.cell 0
  simp at q0
  have hl := MapAt.look (w := w1.drew) hP.now hA
  have hlen := fun ty => MapAt.len (w := w1.drew) hP.now ty
  have HW := Lib.hid hw1
  have HP := Lib.hid hp
  have HG := Lib.hid hG
  have HK := Lib.hid k0
  have HQ := Lib.hid hq0
  clear hE hp hG hP hq0 hq1 k0 HR hw1
  rcases hEc with rfl | hE12
  · obtain ⟨G, hGe⟩ : ∃ G, G = get s.now (nm A) := ⟨_, rfl⟩
    rw [← hGe] at hl
    have HGe := Lib.hid hGe
    clear hGe
    rcases G with _ | i
    · simp only [hit] at hl
      by_cases h256 : (256 : Int) ≤ (s.now.length : Int)
      · go_enter Tryd.func18, Tryd.ntmps18
        go_wp2_with fail
        rw [← HW.out]
        refine cR.mono ?_
        rintro e w' ⟨rfl, rfl⟩
        go_wp2
        go_region
        go_wp2
        go_ret
        have e1 : createE s (nm A) = 3 := by unfold createE; rw [← HE.out, ← HGe.out]; simp; omega
        have e2 : createS s (nm A) = s := by unfold createS; rw [← HE.out, ← HGe.out]; simp; omega
        rw [e1, e2]
        exact Wrote.same ⟨⟨L, HP.out⟩, HG.out⟩ HK.out.drew
      · have hA80 := ready_nm HE.out.symm
        have hsz1 : w1.heap.size = w.heap.size + 2 := by rw [HW.out]; simp
        obtain ⟨w4, hw4⟩ : ∃ w4, w4 = ((w1.alloc (.cells #[.slice none 0 0, .int .i64 0] 63)).alloc (.cells #[.pointer (some ⟨w1.heap.size, 0, none⟩)] 56)).drew := ⟨_, rfl⟩
        have k4 : Keep (fun _ => False) w w4 := by rw [hw4]; exact ((HK.out.alloc _).alloc _).drew
        have a1 : At w4 w1.heap.size 63 #[.slice none 0 0, .int .i64 0] := by
          rw [hw4]
          exact ((At.new w1 _ _).alloc _).drew
        have a2 : At w4 (w1.heap.size + 1) 56 #[.pointer (some ⟨w1.heap.size, 0, none⟩)] := by
          rw [hw4]
          have := (At.new (w1.alloc (.cells #[.slice none 0 0, .int .i64 0] 63)) 56 #[.pointer (some ⟨w1.heap.size, 0, none⟩)]).drew
          rw [World.size_alloc] at this
          exact this
        have a3 : At w4 w.heap.size 9 #[.string A] := by
          rw [hw4]
          exact ((HQ.out.alloc _).alloc _).drew
        have hPm := more_parts HP.out HG.out k4 a1 (by omega)
        have hC : Clo w4 (Up S w w4) (fun k => if k = s.files.length then w1.heap.size else L.fb k) (.func (.func 31) #[] #[.pointer (some ⟨w1.heap.size + 1, 0, none⟩), .pointer (some ⟨w.heap.size, 0, none⟩)]) (.mk (nm A) s.files.length) :=
          ⟨_, _, A, rfl, by simp only [if_true]; exact a2, a3, rfl, hA80, .inr ⟨by omega, a2.lt⟩, .inr ⟨by omega, a3.lt⟩⟩
        have cC := change f (Up S w w4) (moreS s) _ _ _ w4 hPm (more_good HG.out hb) hC (more_fits HG.out (nm A) HGe.out.symm) (more_bulk hb)
        have HK4 := Lib.hid k4
        have HW4 := Lib.hid hw4
        have hlt1 : w.heap.size < w1.heap.size := by omega
        clear k4 a1 a2 a3 hPm hC hw4 hsz1
        go_enter Tryd.func18, Tryd.ntmps18
        go_wp2_with fail
        rw [← HW.out]
        refine cR.mono ?_
        rintro e w' ⟨rfl, rfl⟩
        go_wp2
        go_region
        go_wp2_with fail
        rw [← HW4.out]
        refine cC.mono ?_
        intro e w5 hW
        have HWr := Lib.hid hW
        obtain ⟨rfl, _⟩ := hW
        go_wp2
        go_ret
        have h1 := Wrote.after HK4.out (fun _ h => h.elim) HWr.out
        have e1 : createE s (nm A) = burnE (moreS s) := by unfold createE; rw [← HE.out, ← HGe.out]; simp; rw [if_neg (by omega)]; rfl
        rcases burnE_cases s with hB | hB
        · have e2 : createS s (nm A) = chgS (moreS s) (.mk (nm A) s.files.length) := by unfold createS; rw [← HE.out, ← HGe.out]; simp; rw [if_neg (by omega), if_pos hB]; rfl
          rw [e1, e2]
          exact h1
        · have e2 : createS s (nm A) = burnS s := by unfold createS; rw [← HE.out, ← HGe.out]; simp; rw [if_neg (by omega), if_neg (by omega)]
          rw [e1, e2]
          obtain ⟨h2, ⟨⟨L', hp'⟩, _⟩, h3⟩ := h1
          have e3 : chgS (moreS s) (.mk (nm A) s.files.length) = burnS (moreS s) := by unfold chgS; rw [show burnE (moreS s) = 2 from hB]; rfl
          rw [e3] at hp'
          exact ⟨h2, ⟨⟨L', less_parts hp'⟩, burn_good HG.out⟩, h3⟩
    · simp only [hit] at hl
      go_enter Tryd.func18, Tryd.ntmps18
      go_wp2_with fail
      rw [← HW.out]
      refine cR.mono ?_
      rintro e w' ⟨rfl, rfl⟩
      go_wp2
      go_region
      go_wp2
      go_ret
      have e1 : createE s (nm A) = 5 := by unfold createE; rw [← HE.out, ← HGe.out]; rfl
      have e2 : createS s (nm A) = s := by unfold createS; rw [← HE.out, ← HGe.out]; rfl
      rw [e1, e2]
      exact Wrote.same ⟨⟨L, HP.out⟩, HG.out⟩ HK.out.drew
  · have hne : ((E : Int) == 0) = false := by simp; omega
    have e1 : Hid (createE s (nm A) = E) := by show _ = _; unfold createE; rw [← HE.out]; rw [if_pos (by omega)]
    have e2 : Hid (createS s (nm A) = s) := by show _ = _; unfold createS; rw [← HE.out]; rw [if_pos (by omega)]
    have HE12 := Lib.hid hE12
    have hne2 : ((E : Int) != 0) = true := by simp; omega
    clear hE12
    go_enter Tryd.func18, Tryd.ntmps18
    go_wp2_with fail
    rw [← HW.out]
    refine cR.mono ?_
    rintro e w' ⟨rfl, rfl⟩
    go_wp2
    go_ret
    rw [e1.out, e2.out]
    exact Wrote.same ⟨⟨L, HP.out⟩, HG.out⟩ HK.out

/-! ### Unlink -/
theorem findE_cases (s : St) (a : Nm) : findE s a = 0 ∨ findE s a = 1 ∨ findE s a = 2 ∨ findE s a = 4 := by
  unfold findE
  have := readyE_cases s [a]
  split
  · omega
  · split <;> simp
theorem find_ok {s : St} {a : Nm} (h : findE s a = 0) : readyE s [a] = 0 ∧ ∃ i, get s.now a = some i := by
  unfold findE at h
  by_cases hr : readyE s [a] = 0
  · refine ⟨hr, ?_⟩
    rw [hr] at h
    cases hg : get s.now a with
    | none => rw [hg] at h; simp at h
    | some i => exact ⟨i, rfl⟩
  · rw [if_pos hr] at h
    exact absurd h hr
set_option maxHeartbeats 4000000 in
set_option maxRecDepth 100000 in
theorem unlinkNone (A : ByteArray) (w : World) : Calls Tryd.prog 36 #[.pointer none, .string A] w fun e w' => e = .returned (.int .i64 1) ∧ Keep (fun _ => False) w w' := by
  go_enter Tryd.func36, Tryd.ntmps36
  go_wp2_with (go_at_call 46; refine (findNone A _).mono ?_; rintro e w' ⟨rfl, hk⟩)
  go_ret
  exact ⟨rfl, ((Keep.refl _ w).alloc _).trans hk (fun _ _ h => h)⟩
set_option maxHeartbeats 4000000 in
set_option maxRecDepth 100000 in
theorem unlink (f : Nat) (S : Nat → Prop) (s : St) (A : ByteArray) (hA : A.size ≤ 9223372036854775807) (hb : s.bulk + 2 ≤ 1000000) (w : World) (h : Disk w S f s) :
    Calls Tryd.prog 36 #[.pointer (some ⟨f, 0, none⟩), .string A] w (Wrote w S f (unlinkS s (nm A)) (unlinkE s (nm A))) := by
  obtain ⟨⟨L, hp⟩, hG⟩ := h
  obtain ⟨w0, hw0⟩ : ∃ w0, w0 = w.alloc (.cells #[.string A] 9) := ⟨_, rfl⟩
  obtain ⟨w1, hw1⟩ : ∃ w1, w1 = w0.alloc (.cells #[.string A] 9) := ⟨_, rfl⟩
  have k0 : Keep (fun _ => False) w w0 := by rw [hw0]; exact (Keep.refl _ w).alloc _
  have k1 : Keep (fun _ => False) w w1 := by rw [hw1]; exact k0.alloc _
  have hP0 := hp.keep k0 (fun _ _ h => h)
  have hq0 : At w0 w.heap.size 9 #[.string A] := by rw [hw0]; exact At.new w _ _
  have hq1 : At w1 w.heap.size 9 #[.string A] := by rw [hw1]; exact hq0.alloc _
  have q0 := hq0.cell 0
  simp at q0
  have cF := find f S s L A hA w0 hP0 hG
  rw [← hw1] at cF
  have hEc := findE_cases s (nm A)
  obtain ⟨E, hE⟩ : ∃ E, E = findE s (nm A) := ⟨_, rfl⟩
  rw [← hE] at cF hEc
  have HW0 := Lib.hid hw0
  have HE := Lib.hid hE
  by_cases hE0 : E = 0
  · subst hE0
    obtain ⟨hr, i, hi⟩ := find_ok hE.symm
    have hA80 := ready_nm hr
    have hPm := (hp.keep k1 (fun _ _ h => h)).mono (S' := Up S w w1) (fun i _ h => .inl h)
    have hC : Clo w1 (Up S w w1) L.fb (.func (.func 47) #[] #[.pointer (some ⟨w.heap.size, 0, none⟩)]) (.unl (nm A)) := ⟨_, A, rfl, hq1, rfl, hA80, .inr ⟨Nat.le_refl _, hq1.lt⟩⟩
    have cC := change f (Up S w w1) s L _ _ w1 hPm hG hC trivial (by omega)
    have HK := Lib.hid k1
    have e1 : Hid (unlinkE s (nm A) = burnE s) := by show _ = _; unfold unlinkE; rw [← hE]; rfl
    have e2 : Hid (unlinkS s (nm A) = chgS s (.unl (nm A))) := by show _ = _; unfold unlinkS; rw [← hE]; rfl
    obtain ⟨V, hV⟩ : ∃ V, V = findV s L.fb (nm A) := ⟨_, rfl⟩
    rw [← hV] at cF
    clear hp hG hw0 hw1 k0 k1 hP0 hq0 hq1 hE hEc hr hi hPm hC hV
    go_enter Tryd.func36, Tryd.ntmps36
    go_wp2_with fail
    rw [← HW0.out]
    refine cF.mono ?_
    rintro e w' ⟨rfl, rfl⟩
    go_wp2_with fail
    refine cC.mono ?_
    intro e w5 hW
    have HWr := Lib.hid hW
    obtain ⟨rfl, _⟩ := hW
    go_wp2
    go_ret
    have h1 := Wrote.after HK.out (fun _ h => h.elim) HWr.out
    rw [e1.out, e2.out]
    exact h1
  · have hne : ((E : Int) != 0) = true := by simp; omega
    have e1 : Hid (unlinkE s (nm A) = E) := by show _ = _; unfold unlinkE; rw [← hE]; rw [if_pos hE0]
    have e2 : Hid (unlinkS s (nm A) = s) := by show _ = _; unfold unlinkS; rw [← hE]; rw [if_pos hE0]
    have HK := Lib.hid k1
    have HD : Hid (Disk w S f s) := ⟨⟨L, hp⟩, hG⟩
    obtain ⟨V, hV⟩ : ∃ V, V = findV s L.fb (nm A) := ⟨_, rfl⟩
    rw [← hV] at cF
    clear hp hG hw0 hw1 k0 k1 hP0 hq0 hq1 hE hEc hV hE0
    go_enter Tryd.func36, Tryd.ntmps36
    go_wp2_with fail
    rw [← HW0.out]
    refine cF.mono ?_
    rintro e w' ⟨rfl, rfl⟩
    go_wp2
    go_ret
    rw [e1.out, e2.out]
    exact Wrote.same HD.out HK.out

end Go.Proofs.YtlpeiejohgchmaaDoor.Fs
