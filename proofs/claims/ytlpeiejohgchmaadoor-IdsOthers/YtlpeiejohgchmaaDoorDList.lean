/-
  What 'List' returns with power: all names, rising, in a row of its own.
-/
import Derived.Test.YtlpeiejohgchmaaDoorDLay
namespace Go.Proofs.YtlpeiejohgchmaaDoor.Fs
open Go.RowKit Go.Maps Go.Sort Go.Shelf
set_option linter.unusedVariables false

/-! ### Rising names -/
theorem before_lt : ∀ {a b : List UInt8}, bytesBefore a b = true → a < b
  | [], [], h => by simp [bytesBefore] at h
  | [], _ :: _, _ => List.Lex.nil
  | _ :: _, [], h => by simp [bytesBefore] at h
  | x :: r, y :: t, h => by
    simp only [bytesBefore, Bool.or_eq_true, Bool.and_eq_true, decide_eq_true_eq, beq_iff_eq] at h
    rcases h with h | ⟨rfl, h⟩
    · exact List.Lex.rel h
    · exact List.Lex.cons (before_lt h)
theorem before_le {a b : List UInt8} (h : bytesBefore a b = true) : a ≤ b := List.le_of_lt (before_lt h)
theorem dir_rising {w : World} {b n : Nat} {fb : Nat → Nat} {d : Dir} (h : w.ownsMap Tryd.prog 9 fileR b n (toD fb d)) : d.Pairwise (fun p q => bytesBefore p.1 q.1 = true) := by
  obtain ⟨es, he, hp, _⟩ := h.canon keyed9
  have e : d.map (toE fb) = es := by
    have : DataW.map (d.map (toE fb)) = DataW.map es := he
    injection this
  rw [← e, List.pairwise_map] at hp
  exact hp
theorem keys_toD (fb : Nat → Nat) (d : Dir) : strKeys (toD fb d) = d.map (·.1) := by
  show (d.map (toE fb)).map (fun p => strOf p.1) = _
  rw [List.map_map]
  rfl
theorem sort_names {d : Dir} {ss : List (List UInt8)} (hp : d.Pairwise (fun p q => bytesBefore p.1 q.1 = true)) (hs : ss.Perm (d.map (·.1))) : ss.mergeSort (fun x y => decide (x ≤ y)) = d.map (·.1) := by
  rw [show (ss.mergeSort fun x y => decide (x ≤ y)) = (d.map (·.1)).mergeSort leB from mergeSort_of_perm hs]
  apply List.mergeSort_of_pairwise
  rw [List.pairwise_map]
  exact hp.imp (fun {p q} h => by simp [leB, before_le h])

/-! ### The library's part -/
theorem sortsA (m : Nat) : AnyZ.SortsIn Tryd.prog sortedA_ren Fence.wide m :=
  ⟨fun blk off cap ss W hH hblk hsz => callsIn_wide.2 (AnyM.slices_Sort_string sortA blk off cap ss W hH hblk hsz),
   fun p cap W => callsIn_wide.2 (AnyM.slices_Sort_string_none sortA p cap W)⟩

/-- What 'List' leaves behind. -/
def Listed (w : World) (d : Dir) (e : Ending) (w' : World) : Prop := ∃ v, e = .returned v ∧ w'.ownsRow w.heap.size 9 1 v d.length (d.map fun p => encStr p.1) ∧ Below w.heap.size w w'

set_option maxHeartbeats 4000000 in
set_option maxRecDepth 100000 in
theorem listUp (f : Nat) (S : Nat → Prop) (s : St) (w : World) (h : Disk w S f s) (hd : s.down = false) : Calls Tryd.prog 17 #[.pointer (some ⟨f, 0, none⟩)] w (Listed w s.now) := by
  obtain ⟨⟨L, hp⟩, hG⟩ := h
  have c1 := hp.fs.cell 1
  have c6 := hp.fs.cell 6
  simp [cellsFS, hd] at c1 c6
  have hnl := now_length s
  have hbk := hG.bulk
  refine (callsIn_wide (n := 6)).1 ?_
  have cK : ∀ mb W, CallsIn Fence.wide 5 Tryd.prog 28 #[.map mb] W fun e w' => e = .returned (.func (.func 40) #[] #[.pointer (some ⟨W.heap.size, 0, none⟩)]) ∧ w' = W.alloc (.cells #[.map mb] 45) := fun mb W => AnyZ.keys_in keysA Fence.wide 5 trivial rfl mb W
  have hfK : Fence.wide.fn 28 := trivial
  have hfS : Fence.wide.fn 27 := trivial
  rcases hLn : L.now with _ | b
  · have e0 : s.now = [] := by have := hp.now; rw [hLn] at this; exact this.empty
    rw [hLn] at c1
    have hseq : SeqGives Fence.wide 2 Tryd.prog 40 #[.pointer (some ⟨w.heap.size, 0, none⟩)] encStr (fun ss : List (List UInt8) => ss = []) 0 (w.alloc (.cells #[.map none] 45)) :=
      AnyZ.keys_gives_nil (ρ := keysA_ren) { keysA with } Fence.wide _ trivial rfl w.heap.size _ (by simp) (by simp)
    have cS := AnyZ.sorted_in sortedA Fence.wide 5 trivial trivial trivial trivial rfl (by omega) (sortsA _) (enters_of Tryd.func39 (by kernel_rfl) rfl) 40 #[.pointer (some ⟨w.heap.size, 0, none⟩)] trivial (enters_of Tryd.func40 (by kernel_rfl) rfl) _ 0 (Nat.zero_le _) (by omega) _ hseq
    change CallsIn _ _ Tryd.prog 27 _ _ _ at cS
    have HE0 := Lib.hid e0
    clear hp hG hLn hseq hd e0
    refine callsIn_of_wp Tryd.func17 rfl trivial ?_ rfl
    simp only [Tryd.ntmps17, List.size_toArray, List.length_cons, List.length_nil, Nat.reduceAdd, Nat.reduceSub, Array.replicate_succ, Array.replicate_zero, List.push_toArray, List.append_toArray, List.nil_append, List.cons_append]
    gi_wp2_with (first
      | (gi_at_call 28; refine (cK _ _).mono ?_; rintro e w' ⟨rfl, rfl⟩)
      | (gi_at_call 27; refine cS.mono ?_; rintro e w' ⟨v, ss, rfl, rfl, hrow, hnil, hb⟩; obtain rfl : v = .slice none 0 0 := hnil.2 rfl))
    go_ret
    rw [HE0.out]
    exact ⟨_, rfl, World.ownsRow_nil _ _ _ _, ((Below.refl _ w).alloc (Nat.le_refl _) _).trans (hb.mono (by simp))⟩
  · have ho : w.ownsMap Tryd.prog 9 fileR b s.now.length (toD L.fb s.now) := by
      have := hp.now
      rw [hLn] at this
      exact this.owns.2
    have hri := dir_rising ho
    have hbl := ho.lt
    rw [hLn] at c1
    have hsz : Maps.size (toD L.fb s.now) = s.now.length := toD_size _ _
    have hmax : Maps.size (toD L.fb s.now) ≤ maxLen := by rw [hsz]; simp only [maxLen]; omega
    have hbytes : Maps.size (toD L.fb s.now) * 16 ≤ 140737488355328 := by rw [hsz]; omega
    have hseq : SeqGives Fence.wide 2 Tryd.prog 40 #[.pointer (some ⟨w.heap.size, 0, none⟩)] encStr (fun ss => ss.Perm (strKeys (toD L.fb s.now))) (Maps.size (toD L.fb s.now)) (w.alloc (.cells #[.map (some b)] 45)) :=
      AnyZ.keys_gives (ρ := keysA_ren) { keysA with } Fence.wide _ trivial rfl (by omega) w.heap.size b s.now.length (toD L.fb s.now) _ (by simp) (by simp) (by
        obtain ⟨es, clock, hb, Ft, hs, hD⟩ := ho
        exact ⟨es, clock, (Below.heap_alloc _ _ b hbl).trans hb, Ft, hs, hD⟩)
    have cS := AnyZ.sorted_in sortedA Fence.wide 5 trivial trivial trivial trivial rfl (by omega) (sortsA _) (enters_of Tryd.func39 (by kernel_rfl) rfl) 40 #[.pointer (some ⟨w.heap.size, 0, none⟩)] trivial (enters_of Tryd.func40 (by kernel_rfl) rfl) _ _ hmax hbytes _ hseq
    change CallsIn _ _ Tryd.prog 27 _ _ _ at cS
    have HRi := Lib.hid hri
    clear hp hG hLn hseq hd ho hri hsz hmax hbytes
    refine callsIn_of_wp Tryd.func17 rfl trivial ?_ rfl
    simp only [Tryd.ntmps17, List.size_toArray, List.length_cons, List.length_nil, Nat.reduceAdd, Nat.reduceSub, Array.replicate_succ, Array.replicate_zero, List.push_toArray, List.append_toArray, List.nil_append, List.cons_append]
    gi_wp2_with (first
      | (gi_at_call 28; refine (cK _ _).mono ?_; rintro e w' ⟨rfl, rfl⟩)
      | (gi_at_call 27; refine cS.mono ?_; rintro e w' ⟨v, ss, rfl, hS, hrow, hnil, hb⟩))
    go_ret
    rw [keys_toD] at hS
    have hsorted := sort_names HRi.out hS
    rw [hsorted, List.map_map] at hrow
    have hlen : ss.length = s.now.length := by have := hS.length_eq; simpa using this
    rw [hlen] at hrow
    exact ⟨v, rfl, ownsRow_base_a hrow (by simp), ((Below.refl _ w).alloc (Nat.le_refl _) _).trans (hb.mono (by simp))⟩

end Go.Proofs.YtlpeiejohgchmaaDoor.Fs
