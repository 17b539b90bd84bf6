/-
  What 'Append' returns and does.
-/
import Derived.Test.YtgjkocjgkbjciaaOpsC
import Derived.IntWalk
namespace Go.Proofs.Ytgjkocjgkbjciaa.Fs
open Go.RowKit Go.Maps
set_option linter.unusedVariables false

theorem mem_sum {α : Type} (g : α → Nat) : ∀ {l : List α} {x : α}, x ∈ l → g x ≤ (l.map g).sum
  | y :: r, x, h => by
    simp only [List.map_cons, List.sum_cons]
    rcases List.mem_cons.1 h with e | h
    · rw [e]; omega
    · have := mem_sum g h
      omega
theorem file_le_used {s : St} {a : Nm} {i : Nat} (h : get s.now a = some i) : (s.file i).bytes.length ≤ s.used := mem_sum (fun p : Nm × Nat => (s.file p.2).bytes.length) (get_mem h)

/-- What the drawn region of 'Append' keeps. -/
def Rm (w1 : World) (f : Nat) (r : Int) (W : World) : Prop := W.cell? ⟨f, 0, none⟩ = some (.int .i64 r) ∧ Hid (Keep (fun _ => False) w1 W)
theorem Rm.step {w1 W W2 : World} {f : Nat} {r : Int} (k : Hid (Keep (fun _ => False) W W2)) (h : W.cell? ⟨f, 0, none⟩ = some (.int .i64 r)) (h' : Hid (Keep (fun _ => False) w1 W)) : W2.cell? ⟨f, 0, none⟩ = some (.int .i64 r) ∧ Hid (Keep (fun _ => False) w1 W2) :=
  ⟨k.out.cell h (fun h => h), h'.out.trans k.out (fun _ _ h => h)⟩

set_option maxHeartbeats 4000000 in
set_option maxRecDepth 100000 in
theorem appendNone (A : ByteArray) (v : Value) (w : World) : Calls Try.prog 19 #[.pointer none, .string A, v] w fun e w' => e = .returned (.int .i64 1) ∧ Keep (fun _ => False) w w' := by
  go_enter Try.func19, Try.ntmps19
  go_wp2_with (go_at_call 41; refine (findNone A _).mono ?_; rintro e w' ⟨rfl, hk⟩)
  go_ret
  exact ⟨rfl, hk⟩

set_option maxHeartbeats 4000000 in
set_option maxRecDepth 100000 in
theorem append (f : Nat) (S : Nat → Prop) (s : St) (A : ByteArray) (hA : A.size ≤ 9223372036854775807) (P : Nat → Prop) (x : Option Addr) (n cap : Nat) (bs : List Nat) (hn : bs.length = n) (hnb : n ≤ 4611686018427387904) (hPS : ∀ b, P b → ¬ S b) (w : World) (hB : Bytes P w x bs) (h : Disk w S f s) :
    Calls Try.prog 19 #[.pointer (some ⟨f, 0, none⟩), .string A, .slice x n cap] w (Wrote w S f (appendS s (nm A) bs) (appendE s (nm A) bs)) := by
  obtain ⟨⟨L, hp⟩, hG⟩ := h
  obtain ⟨w1, hw1⟩ : ∃ w1, w1 = w.alloc (.cells #[.string A] 9) := ⟨_, rfl⟩
  have k1 : Keep (fun _ => False) w w1 := by rw [hw1]; exact (Keep.refl _ w).alloc _
  have hP1 := hp.keep k1 (fun _ _ h => h)
  have cF := find f S s L A hA w hp hG
  rw [← hw1] at cF
  have hEc := findE_cases s (nm A)
  obtain ⟨E, hE⟩ : ∃ E, E = findE s (nm A) := ⟨_, rfl⟩
  rw [← hE] at cF hEc
  have HE := Lib.hid hE
  have HD : Hid (Disk w S f s) := ⟨⟨L, hp⟩, hG⟩
  have HK := Lib.hid k1
  have HN := Lib.hid hn
  have HB := Lib.hid hB
  by_cases hE0 : E = 0
  · subst hE0
    obtain ⟨hr, i, hi⟩ := find_ok hE.symm
    have hV : findV s L.fb (nm A) = .pointer (some ⟨L.fb i, 0, none⟩) := by unfold findV; rw [← hE, hi]; rfl
    rw [hV] at cF
    have hil := hG.now.lt _ (get_mem hi)
    have hu := hG.used_le
    have HFU := Lib.hid (file_le_used hi)
    have HP1 := Lib.hid hP1
    have HG := Lib.hid hG
    have HU : Hid (∀ W, Hid (Keep (fun _ => False) w1 W) → Calls Try.prog 30 #[.pointer (some ⟨f, 0, none⟩)] W fun e w' => e = .returned (.int .i64 (s.used : Int)) ∧ Hid (Keep (fun _ => False) W w')) :=
      fun W k => usedP f S s L W (HP1.out.keep k.out (fun _ _ h => h)) HG.out
    have hR0 : w1.cell? ⟨f, 0, none⟩ = some (.int .i64 (s.room : Int)) := by
      have := hP1.fs.cell 0
      simpa [cellsFS] using this
    have hKd : Hid (Keep (fun _ => False) w1 w1.drew) := (Keep.refl _ _).drew
    have HI := Lib.hid hi
    have HIL := Lib.hid hil
    obtain ⟨U, hU⟩ : ∃ U, U = s.used := ⟨_, rfl⟩
    obtain ⟨R, hRr⟩ : ∃ R, R = s.room := ⟨_, rfl⟩
    rw [← hU] at HU hu
    rw [← hRr] at hR0
    have HUU := Lib.hid hU
    have HRR := Lib.hid hRr
    clear hp hG hw1 k1 hP1 hE hEc hr hi hV hil hn hB hU hRr
    by_cases hroom : (R : Int) < (U : Int) + (n : Int)
    · have HRM := Lib.hid hroom
      go_enter Try.func19, Try.ntmps19
      go_wp2_with (first | (go_at_call 41; refine cF.mono ?_; rintro e w' ⟨rfl, hw'⟩; obtain rfl := hw'.symm))
      go_region_held3 (fun W => W.cell? ⟨f, 0, none⟩ = some (.int .i64 (R : Int)) ∧ Hid (Keep (fun _ => False) w1 W))
        (first | exact ⟨hR0, hKd⟩ | exact Rm.step hk2 (by assumption) (by assumption))
        (first | (go_at_call 30; refine (HU.out _ (by assumption)).mono ?_; rintro e w2 ⟨rfl, hk2⟩))
      have HK2 : Hid (Keep (fun _ => False) w w2) := HK.out.trans (hKd.out.trans hk2.out (fun _ _ h => h)) (fun _ _ h => h)
      have HP2 : Hid (Parts w2 S f s s.now L) := HP1.out.keep (hKd.out.trans hk2.out (fun _ _ h => h)) (fun _ _ h => h)
      rw [IntWalk.i64_in ((U : Int) + (n : Int)) (by omega)]
      go_wp2
      go_ret
      have hr2 : s.room < s.used + bs.length := by have := HUU.out; have := HRR.out; have := HN.out; omega
      have e1 : appendE s (nm A) bs = 3 := by unfold appendE; rw [← HE.out]; simp [hr2]
      have e2 : appendS s (nm A) bs = s := by unfold appendS; rw [← HE.out]; simp [hr2]
      rw [e1, e2]
      exact Wrote.same HD.out HK2.out
    · have hr2 : ¬ s.room < s.used + bs.length := by have := HUU.out; have := HRR.out; have := HN.out; omega
      have hrm := HG.out.room
      have hbn : (s.file i).bytes.length + n ≤ 16777216 := by have := HFU.out; have := HUU.out; have := HRR.out; have := HN.out; omega
      have HR2 := Lib.hid hr2
      have HBN := Lib.hid hbn
      have HS0 := Lib.hid HP1.out.inS
      clear hr2 hrm hbn
      rcases burnE_cases s with hBu | hBu
      · have HBu := Lib.hid hBu
        clear hBu
        go_enter Try.func19, Try.ntmps19
        go_wp2_with (first | (go_at_call 41; refine cF.mono ?_; rintro e w' ⟨rfl, hw'⟩; obtain rfl := hw'.symm))
        go_region_held3 (fun W => W.cell? ⟨f, 0, none⟩ = some (.int .i64 (R : Int)) ∧ Hid (Keep (fun _ => False) w1 W))
          (first | exact ⟨hR0, hKd⟩ | exact Rm.step hk2 (by assumption) (by assumption))
          (first | (go_at_call 30; refine (HU.out _ (by assumption)).mono ?_; rintro e w2 ⟨rfl, hk2⟩))
        have HK2 : Hid (Keep (fun _ => False) w w2) := HK.out.trans (hKd.out.trans hk2.out (fun _ _ h => h)) (fun _ _ h => h)
        have HP2 : Hid (Parts w2 S f s s.now L) := HP1.out.keep (hKd.out.trans hk2.out (fun _ _ h => h)) (fun _ _ h => h)
        rw [IntWalk.i64_in ((U : Int) + (n : Int)) (by omega)]
        have cB := burn f S s s.now L w2 HP2.out HG.out
        rw [HBu.out] at cB
        go_wp2_with fail
        refine cB.mono ?_
        rintro e w3 ⟨rfl, hp3, hG3, k3, z3⟩
        have hil3 : i < (burnS s).files.length := by rw [burn_files]; exact HIL.out
        have hX := file_at hil3
        rw [burn_file] at hX
        have hA3 := hp3.files.at_ i _ hX
        have hO3 := hp3.files.own i _ hX
        have hB3 : Bytes P w3 x bs := (HB.out.quiet HK2.out).keep k3 (fun b _ hb e => hPS b hb (by rw [e]; exact HS0.out))
        obtain ⟨y, c, hrow, _⟩ := hO3.shape
        rw [hrow] at hA3 hO3
        have c0 := hA3.cell 0
        simp at c0
        obtain ⟨N, hNN⟩ : ∃ N, N = (s.file i).bytes.length := ⟨_, rfl⟩
        rw [← hNN] at c0 hA3 hO3 hrow
        have hnrow : ∀ b, (Value.slice y N c).ownBlock = some b → b ≠ L.fb i := fun b hb e => by
          obtain ⟨cs, h5⟩ := owns_at hO3.1 hb
          subst e
          exact At.ne h5 hA3 (by decide) rfl
        have HP3 := Lib.hid hp3
        have HG3 := Lib.hid hG3
        have HK3 := Lib.hid k3
        have HX := Lib.hid hX
        have HA3 := Lib.hid hA3
        have HO3 := Lib.hid hO3
        have HB3 := Lib.hid hB3
        have HIL3 := Lib.hid hil3
        have HNR := Lib.hid hnrow
        have HRW := Lib.hid hrow
        have HNN := Lib.hid hNN
        clear hp3 hG3 k3 z3 hil3 hX hA3 hO3 hB3 hrow hNN hnrow
        go_wp2_with (refine wpList_append_bytes (by rfl) (.tmp 38) (.tmp 39) (by rfl) (.slice y N c) (s.file i).bytes (by rfl) HO3.out P x n cap bs (by rfl) HN.out HB3.out (by have := HBN.out; omega) ?_
                     intro y4 n4 c4 w4 HM hO4 k4 hN4
                     have hA4 := HA3.out.keep k4 (fun e => HNR.out _ e rfl)
                     have c40 := hA4.cell 0
                     have f40 := hA4.frozen 0
                     simp at c40
                     have HO4 := Lib.hid hO4
                     have HK4 := Lib.hid k4
                     have HN4 := Lib.hid hN4
                     have HA4 := Lib.hid hA4
                     clear hO4 k4 hN4 hA4)
        go_ret
        have e1 : appendE s (nm A) bs = 0 := by unfold appendE; rw [← HE.out]; simp [HR2.out, HBu.out]
        have e2 : appendS s (nm A) bs = setFile (burnS s) i ⟨(s.file i).bytes ++ bs, (s.file i).sure⟩ := by unfold appendS; rw [← HE.out, HI.out]; simp [HR2.out, HBu.out]
        rw [e1, e2]
        have ks : Keep (· = L.fb i) w4 (w4.setCell ⟨L.fb i, 0, none⟩ (.slice y4 n4 c4)) := (Keep.refl (· = L.fb i) w4).setCell (p := ⟨L.fb i, 0, none⟩) (fun _ => rfl) _
        have kf : Keep (fun b => b = L.fb i ∨ (L.row i).ownBlock = some b) w3 (w4.setCell ⟨L.fb i, 0, none⟩ (.slice y4 n4 c4)) := (HK4.out.mono (T := fun b => b = L.fb i ∨ (L.row i).ownBlock = some b) (fun b _ h => .inr (by rw [HRW.out]; exact h))).trans ks (fun b _ h => .inl h)
        have hown := HO4.out.keep ks (fun b hb e => by
          obtain ⟨cs, h5⟩ := owns_at HO4.out.1 hb
          subst e
          exact At.ne h5 HA4.out (by decide) rfl)
        have hXm := List.mem_of_getElem? HX.out
        have hNw : New w3 (L.row i).ownBlock (Value.ownBlock (.slice y4 n4 c4)) := by rw [HRW.out]; exact HN4.out
        have hlt4 : ∀ b, (Value.slice y4 n4 c4).ownBlock = some b → b < w4.heap.size := fun b hb => HO4.out.lt b hb
        have hw23 : w.heap.size ≤ w3.heap.size := Nat.le_trans HK2.out.size HK3.out.size
        have hset := HP3.out.set (S' := Up S w (w4.setCell ⟨L.fb i, 0, none⟩ (.slice y4 n4 c4))) i HIL3.out ⟨(s.file i).bytes ++ bs, (s.file i).sure⟩ (.slice y4 n4 c4) kf (HA4.out.put 0 _) hown hNw (fun b hb => by
          rcases hNw b hb with h1 | h1
          · exact .inl (HP3.out.files.rowS i b HIL3.out h1)
          · exact .inr ⟨by omega, by have := hlt4 b hb; simpa [World.setCell] using this⟩) (fun b _ h => .inl h)
        have hbl := HBN.out
        have hn0 := HN.out
        have hgood := set_good HG3.out i ⟨(s.file i).bytes ++ bs, (s.file i).sure⟩ (by have := HG3.out.sure _ hXm; simp; omega) (fun c hc => by
          rcases List.mem_append.1 hc with hc | hc
          · exact HG3.out.byte _ hXm c hc
          · exact HB.out.1 c hc) (by simp; omega)
        rw [← burn_now, ← set_now (burnS s) i ⟨(s.file i).bytes ++ bs, (s.file i).sure⟩] at hset
        refine ⟨rfl, ⟨⟨_, hset⟩, hgood⟩, ?_⟩
        have kk := (HK2.out.mono (T := S) (fun i _ h => h.elim)).trans HK3.out (fun i _ e => by rw [e]; exact HS0.out)
        exact kk.trans (kf.mono (T := S) (fun b _ h => by
          rcases h with h | h
          · rw [h]; exact HP3.out.files.inS i HIL3.out
          · exact HP3.out.files.rowS i b HIL3.out h)) (fun b _ h => h)
      · have HBu := Lib.hid hBu
        clear hBu
        go_enter Try.func19, Try.ntmps19
        go_wp2_with (first | (go_at_call 41; refine cF.mono ?_; rintro e w' ⟨rfl, hw'⟩; obtain rfl := hw'.symm))
        go_region_held3 (fun W => W.cell? ⟨f, 0, none⟩ = some (.int .i64 (R : Int)) ∧ Hid (Keep (fun _ => False) w1 W))
          (first | exact ⟨hR0, hKd⟩ | exact Rm.step hk2 (by assumption) (by assumption))
          (first | (go_at_call 30; refine (HU.out _ (by assumption)).mono ?_; rintro e w2 ⟨rfl, hk2⟩))
        have HK2 : Hid (Keep (fun _ => False) w w2) := HK.out.trans (hKd.out.trans hk2.out (fun _ _ h => h)) (fun _ _ h => h)
        have HP2 : Hid (Parts w2 S f s s.now L) := HP1.out.keep (hKd.out.trans hk2.out (fun _ _ h => h)) (fun _ _ h => h)
        rw [IntWalk.i64_in ((U : Int) + (n : Int)) (by omega)]
        have cB := burn f S s s.now L w2 HP2.out HG.out
        rw [HBu.out] at cB
        go_wp2_with fail
        refine cB.mono ?_
        rintro e w3 ⟨rfl, hp3, hG3, k3, z3⟩
        have HP3 := Lib.hid hp3
        have HG3 := Lib.hid hG3
        have HK3 := Lib.hid k3
        clear hp3 hG3 k3 z3
        go_wp2
        go_ret
        have e1 : appendE s (nm A) bs = 2 := by unfold appendE; rw [← HE.out]; simp [HR2.out, HBu.out]
        have e2 : appendS s (nm A) bs = burnS s := by unfold appendS; rw [← HE.out]; simp [HR2.out, HBu.out]
        rw [e1, e2]
        refine ⟨rfl, ⟨⟨L, ?_⟩, HG3.out⟩, (HK2.out.mono (T := S) (fun i _ h => h.elim)).trans HK3.out (fun i _ e => by rw [e]; exact HS0.out)⟩
        rw [burn_now]
        exact HP3.out.mono (fun i _ h => .inl h)
  · have hne : ((E : Int) != 0) = true := by simp; omega
    have e1 : Hid (appendE s (nm A) bs = E) := by show _ = _; unfold appendE; rw [← hE]; rw [if_pos hE0]
    have e2 : Hid (appendS s (nm A) bs = s) := by show _ = _; unfold appendS; rw [← hE]; rw [if_pos hE0]
    obtain ⟨V, hV⟩ : ∃ V, V = findV s L.fb (nm A) := ⟨_, rfl⟩
    rw [← hV] at cF
    clear hp hG hw1 k1 hP1 hE hEc hV hE0 hn hB
    go_enter Try.func19, Try.ntmps19
    go_wp2_with (first | (go_at_call 41; refine cF.mono ?_; rintro e w' ⟨rfl, rfl⟩))
    go_ret
    rw [e1.out, e2.out]
    exact Wrote.same HD.out HK.out

end Go.Proofs.Ytgjkocjgkbjciaa.Fs
