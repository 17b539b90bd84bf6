/-
  What 'Used' and 'settle' return.
-/
import Derived.Test.YtgjkocjgkbjciaaChg
import Derived.Deep.LoopGhost
import Derived.Laws.IdiomRangeMap
namespace Go.Proofs.Ytgjkocjgkbjciaa.Fs
open Go.RowKit Go.Maps
set_option linter.unusedVariables false

/-! ### Sums over what is no longer to come -/
def sumBut (s : St) (d : Dir) (left : Lit → Bool) : Nat := ((d.filter fun p => !left (.string p.1)).map fun p => (s.file p.2).bytes.length).sum
theorem sumBut_start (s : St) (d : Dir) (fb : Nat → Nat) : sumBut s d (Maps.has (toD fb d)) = 0 := by
  unfold sumBut
  rw [List.filter_eq_nil_iff.2]
  · rfl
  · intro p hp
    have : get d p.1 ≠ none := fun h => get_none.1 h p hp rfl
    rw [toD_has]
    cases h : get d p.1
    · exact absurd h this
    · simp
theorem sumBut_end (s : St) (d : Dir) {left : Lit → Bool} (hl : ∀ kl, left kl = false) : sumBut s d left = (d.map fun p => (s.file p.2).bytes.length).sum := by
  unfold sumBut
  rw [List.filter_eq_self.2]
  intro p _
  simp [hl]
theorem sumBut_step (s : St) : ∀ (d : Dir), (d.map (·.1)).Nodup → ∀ (left : Lit → Bool) (a : Nm) (i : Nat), (a, i) ∈ d → left (.string a) = true → sumBut s d (fun z => left z && !z.sameKey (.string a)) = sumBut s d left + (s.file i).bytes.length
  | [], _, _, _, _, h, _ => by simp at h
  | y :: r, hn, left, a, i, h, hl => by
    simp only [List.map_cons, List.nodup_cons] at hn
    have hsk : ∀ b : Nm, (Lit.string b).sameKey (.string a) = (b == a) := fun b => rfl
    rcases List.mem_cons.1 h with e | hr
    · subst e
      have hr : ∀ p ∈ r, p.1 ≠ a := fun p hp e => hn.1 (e ▸ List.mem_map.2 ⟨p, hp, rfl⟩)
      have e1 : r.filter (fun p => !(left (.string p.1) && !(Lit.string p.1).sameKey (.string a))) = r.filter (fun p => !left (.string p.1)) := List.filter_congr fun p hp => by
        rw [hsk]
        have : (p.1 == a) = false := by simpa using hr p hp
        simp [this]
      unfold sumBut
      rw [List.filter_cons, List.filter_cons]
      simp only [hsk, hl, beq_self_eq_true, Bool.not_true, Bool.and_false, Bool.not_false, if_true, List.map_cons, List.sum_cons]
      rw [show (fun p : Nm × Nat => !(left (.string p.1) && !(p.1 == a))) = fun p => !(left (.string p.1) && !(Lit.string p.1).sameKey (.string a)) from rfl, e1]
      simp
      omega
    · have ih := sumBut_step s r hn.2 left a i hr hl
      have hy : y.1 ≠ a := fun e => hn.1 (e ▸ List.mem_map.2 ⟨(a, i), hr, rfl⟩)
      unfold sumBut at ih ⊢
      rw [List.filter_cons, List.filter_cons]
      have hb : (y.1 == a) = false := by simpa using hy
      simp only [hsk, hb, Bool.not_false, Bool.and_true]
      cases left (.string y.1)
      · simp only [Bool.not_false, if_true, List.map_cons, List.sum_cons]
        have := ih
        simp only [hsk] at this
        omega
      · simp only [Bool.not_true]
        have := ih
        simp only [hsk] at this
        simpa using this

theorem sum_sub {α : Type} (g : α → Nat) {l l' : List α} (h : l.Sublist l') : (l.map g).sum ≤ (l'.map g).sum := by
  induction h with
  | slnil => exact Nat.le_refl _
  | cons a _ ih => simp only [List.map_cons, List.sum_cons]; omega
  | cons_cons a _ ih => simp only [List.map_cons, List.sum_cons]; omega
theorem sumBut_le (s : St) (d : Dir) (left : Lit → Bool) : sumBut s d left ≤ (d.map fun p => (s.file p.2).bytes.length).sum := sum_sub _ List.filter_sublist
theorem at_some {fb : Nat → Nat} {d : Dir} {a : Nm} {y : DW} (h : ∀ zd, (toD fb d).atKey (.string a) zd = y) : ∃ i, get d a = some i ∧ y = .lit (.int .i64 (fb i)) := by
  have h1 := h .nil
  have h2 := h (.lit (.bool true))
  rw [toD_at] at h1 h2
  cases hg : get d a with
  | none => rw [hg] at h1 h2; rw [← h1] at h2; cases h2
  | some i => rw [hg] at h1; exact ⟨i, rfl, h1.symm⟩
theorem ranges_keep {w w' : World} {R : Value → Option (DW × List MemPlace)} {b r n : Nat} {D : DW} {left : Lit → Bool} {cnt : Nat} {T : Nat → Prop} (h : w.ranges Try.prog 9 R b r n D left cnt) (k : Keep T w w') (h1 : ¬ T b) (h2 : ¬ T r) : w'.ranges Try.prog 9 R b r n D left cnt := by
  have l1 := h.owns.lt
  have l2 := h.lt
  obtain ⟨es, clock, since, seen, c0, hb, F, hs, hD, hr, rest⟩ := h
  exact ⟨es, clock, since, seen, c0, (k.block b l1 h1).trans hb, F, hs, hD, (k.block r l2 h2).trans hr, rest⟩
theorem invK9 : ∀ key kl, keyOf Try.prog 9 key = some kl → ∃ x : List UInt8, key = encStr x := fun key kl h => by
  obtain ⟨x, hx, _⟩ := Maps.keyOf_str Try.underlying9 h
  exact ⟨x, hx⟩

set_option maxHeartbeats 2000000 in
theorem usedNone (w : World) : Calls Try.prog 30 #[.pointer none] w fun e w' => e = .returned (.int .i64 0) ∧ w = w' := by
  go_enter Try.func30, Try.ntmps30
  go_wp2
  go_ret
  exact ⟨rfl, rfl⟩

set_option maxHeartbeats 4000000 in
set_option maxRecDepth 100000 in
theorem usedP (f : Nat) (S : Nat → Prop) (s : St) (L : Lay) (w : World) (hp : Parts w S f s s.now L) (hG : Good s) :
    Calls Try.prog 30 #[.pointer (some ⟨f, 0, none⟩)] w fun e w' => e = .returned (.int .i64 (s.used : Int)) ∧ Keep (fun _ => False) w w' := by
  have hA := hp.fs
  have c1 := hp.fs.cell 1
  simp [cellsFS] at c1
  have hu := hG.used_le
  have hT := hG.now
  rcases hLn : L.now with _ | b
  · have e1 : s.now = [] := by have := hp.now; rw [hLn] at this; exact this.empty
    have HU : Hid (s.used = 0) := by show _ = _; unfold St.used; rw [e1]; rfl
    rw [hLn] at c1
    have hrg := run_range_nilMap (P := Try.prog) w 62 _ _ Try.underlying62
    have hnx : ∀ ty, (Instr.next (.pointer (some ⟨w.heap.size, 0, none⟩)) false ty).run Try.prog (w.alloc (.mapIter none 0 #[] 0)) = _ := fun ty => run_next_nilMap _ ty 0 0 #[]
    clear hp hG hA hu hT hLn e1
    go_enter Try.func30, Try.ntmps30
    go_wp2
    (try go_frame)
    go_loopw [3] (fun x wr => x = .int .i64 0 ∧ wr = w.alloc (.mapIter none 0 #[] 0)) (fun _ _ => 0)
    case atStart => exact ⟨rfl, rfl⟩
    case round =>
      obtain ⟨rfl, rfl⟩ := hrel
      go_wp2
      go_ret
      rw [HU.out]
      exact ⟨rfl, (Keep.refl _ w).alloc _⟩
  · have ho : w.ownsMap Try.prog 9 fileR b s.now.length (toD L.fb s.now) := by
      have := hp.now
      rw [hLn] at this
      exact this.owns.2
    have HF := Lib.hid hp.files
    have HT := Lib.hid hT
    have HO := Lib.hid ho
    rw [hLn] at c1
    clear hp hG hA hT hLn ho
    go_enter Try.func30, Try.ntmps30
    go_wp2_with (first
      | (at_range; refine wpList_range_own _ rfl _ 62 rfl 9 75 keyed9 Try.underlying62 fileR b s.now.length _ rfl HO.out ?_; intro w0 hrg0 hg0 hs0)
      | go_in)
    go_frame
    go_loopw [3] (fun x wr => ∃ (left : Lit → Bool) (cnt : Nat), x = .int .i64 (sumBut s s.now left : Int) ∧ wr.ranges Try.prog 9 fileR b w.heap.size s.now.length (toD L.fb s.now) left cnt ∧ Keep (fun _ => False) w wr)
      (fun _ wr => wr.rangeLeft b w.heap.size)
    case atStart => exact ⟨_, _, by rw [sumBut_start]; rfl, hrg0, (Keep.refl _ w).grown hg0 (fun k hk => by cases hk)⟩
    case round =>
      obtain ⟨left, cnt, rfl, hrg, hk⟩ := hrel
      have hB := sumBut_le s s.now left
      have HK := Lib.hid hk
      clear hk
      go_wp2_with (first
        | (at_next; refine wpList_next_ranges _ rfl _ rfl 9 keyed9 fileR encStr id invK9 (fun v _ _ => ⟨v, rfl⟩) b w.heap.size s.now.length _ _ _ rfl hrg ?_ ?_)
        | go_in)
      · intro _ hl0
        have HE := Lib.hid (sumBut_end s s.now hl0)
        clear hl0
        go_wp2
        go_ret
        rw [HE.out]
        exact ⟨rfl, HK.out⟩
      · intro x c kl yd yp w2 cnt2 hkey hlk hv hat hrg2 hlt hg2 hs2 hen
        obtain ⟨x', ex, rfl, _⟩ := Maps.keyOf_str Try.underlying9 hkey
        obtain rfl : x = x' := encStr_inj ex
        obtain ⟨i, hi, rfl⟩ := at_some hat
        obtain rfl : c = .pointer (some ⟨L.fb i, 0, none⟩) := fileR_lit hv
        have hm := get_mem hi
        have hil := HT.out.lt _ hm
        obtain ⟨X, hX⟩ := getElem?_some_lt hil
        have k2 : Keep (fun _ => False) w w2 := HK.out.trans ((Keep.refl (· = w.heap.size) wr).grown hg2 (fun k hk _ => by injection hk with hk; exact hk.symm)) (fun i hi e => by omega)
        have hA := (HF.out.at_ i X hX).keep k2 (fun h => h)
        have hsh := (HF.out.own i X hX).shape
        obtain ⟨y, cap, hrow, _⟩ := hsh
        have c0 := hA.cell 0
        rw [hrow] at c0
        simp at c0
        have hXs : s.file i = X := by simp [St.file, hX]
        have hstep := sumBut_step s s.now HT.out.names left x i hm hlk
        rw [hXs] at hstep
        have hB2 := sumBut_le s s.now (fun z => left z && !z.sameKey (.string x))
        obtain ⟨N, hN⟩ : ∃ N, N = X.bytes.length := ⟨_, rfl⟩
        rw [← hN] at c0 hstep
        rw [hstep] at hB2
        have HST := Lib.hid hstep
        have HK2 := Lib.hid k2
        have HR2 := Lib.hid hrg2
        have HLT := Lib.hid hlt
        have HR := Lib.hid hrg
        have hB3 : sumBut s s.now left + N ≤ 16777216000000 := Nat.le_trans hB2 hu
        clear hkey ex hi hat hv hm hil hX k2 hA hrow hXs hstep hN hB2 hg2 hs2 hrg2 hlt hrg hlk hB hu
        go_wp2
        go_roundw
        case rel => exact ⟨_, cnt2, by rw [HST.out]; go_num, HR2.out, HK2.out⟩
        case measure => rw [HR2.out.left_eq, HR.out.left_eq]; exact HLT.out

end Go.Proofs.Ytgjkocjgkbjciaa.Fs
