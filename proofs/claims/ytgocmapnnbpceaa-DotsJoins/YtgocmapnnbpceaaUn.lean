/-
  What the program's Unstuff and the document's own return, for every line.
-/
import Derived.Test.YtgocmapnnbpceaaBld
namespace Go.Proofs.Ytgocmapnnbpceaa.Ln
open Go.RowKit
set_option linter.unusedVariables false
set_option linter.unusedSimpArgs false

theorem ns_inj {a b : ByteArray} (h : ns a = ns b) : a = b := by rw [← str_ns a, ← str_ns b, h]
theorem ns_point : ns { data := #[46] } = [46] := rfl
theorem ns_data (s : ByteArray) : ns s = s.data.toList.map UInt8.toNat := rfl
theorem trim_un (s : ByteArray) (h : s ≠ { data := #[46] }) : (⟨(Lib.trimPrefix s.data.toList [46]).toArray⟩ : ByteArray) = str (unT (ns s)) := by
  have hne : ns s ≠ [46] := fun e => h (ns_inj (e.trans ns_point.symm))
  apply ns_inj
  have hlt : ∀ c ∈ unT (ns s), c < 256 := fun c hc => by
    unfold unT at hc
    rw [if_neg hne] at hc
    split at hc
    · exact ns_lt s c (List.mem_of_mem_drop hc)
    · exact ns_lt s c hc
  rw [ns_str hlt]
  unfold unT
  rw [if_neg hne, ns_data s]
  cases hs : s.data.toList with
  | nil => simp [Lib.trimPrefix, Lib.hasPrefix, ns]
  | cons c t =>
    by_cases hc : c = 46
    · subst hc
      simp [Lib.trimPrefix, Lib.hasPrefix, List.isPrefixOf, ns]
    · have hc' : c.toNat ≠ 46 := fun e => hc (UInt8.toNat_inj.1 e)
      have h46 : (46 == c) = false := by rw [beq_eq_false_iff_ne]; exact fun e => hc e.symm
      simp [Lib.trimPrefix, Lib.hasPrefix, List.isPrefixOf, ns, hc', h46]
theorem list_ne {s : ByteArray} (h : s ≠ { data := #[46] }) : (s.toList == [46]) = false := by
  rw [beq_eq_false_iff_ne]
  intro e
  apply h
  apply ByteArray.ext
  apply Array.ext'
  rw [← Lib.toList_data]
  exact e
theorem head_ns (s : ByteArray) (h : 0 < s.size) : (ns s).head? = some (s[0]'h).toNat := by
  have hd : 0 < s.data.size := h
  rw [List.head?_eq_getElem?]
  simp [ns, ByteArray.getElem_eq_getElem_data, Array.getElem?_eq_getElem hd]
theorem drop_ns (s : ByteArray) : s.extract 1 s.size = str ((ns s).drop 1) := by
  apply ns_inj
  rw [ns_str (fun c hc => ns_lt s c (List.mem_of_mem_drop hc))]
  have : s.size = s.data.toList.length := by simp
  simp only [ns, ByteArray.data_extract, Array.toList_extract, List.extract_eq_take_drop, ← List.map_drop]
  rw [List.take_of_length_le (by simp)]
theorem un_end : unE [46] = true ∧ unT [46] = [] := by decide
theorem unE_ne {s : ByteArray} (h : s ≠ { data := #[46] }) : unE (ns s) = false := by
  have hne : ns s ≠ [46] := fun e => h (ns_inj (e.trans ns_point.symm))
  simp [unE, hne]

set_option maxHeartbeats 1000000 in
theorem unstuff (s : ByteArray) (w : World) (hs : s.size ≤ 281474976710656) :
    Calls Try.prog 12 #[.string s] w fun e w' => e = .returned (.tuple #[.string (str (unT (ns s))), .bool (unE (ns s))]) ∧ Keep (fun _ => False) w w' := by
  by_cases h : s = { data := #[46] }
  · subst h
    go_enter Try.func12, Try.ntmps12
    go_wp2
    go_ret2
    refine ⟨?_, Keep.refl _ _⟩
    rw [ns_point, un_end.1, un_end.2]
    rfl
  · have ht := trim_un s h
    have hE := unE_ne h
    have HT := Lib.hid ht
    have HE := Lib.hid hE
    have hsz : (str (unT (ns s))).size ≤ 281474976710656 := by
      rw [str_size]
      have := ns_length s
      unfold unT
      split
      · simp
      · split
        · simp; omega
        · omega
    have hq := list_ne h
    clear ht hE
    go_enter Try.func12, Try.ntmps12
    go_wp2_with fail
    refine (strings_TrimPrefix s _ w).mono ?_
    rintro e w1 ⟨rfl, hw⟩
    have hw' := hw.symm
    subst hw'
    have e46 : ({ data := #[46] } : ByteArray).data.toList = [46] := rfl
    rw [e46, HT.out]
    go_wp2_with fail
    refine (clone_walk _ _ hsz).mono ?_
    rintro e w2 ⟨rfl, hk⟩
    go_wp2
    go_ret2
    refine ⟨?_, hk⟩
    rw [HE.out]
    rfl

set_option maxHeartbeats 1000000 in
theorem refUnstuff (s : ByteArray) (w : World) (hs : s.size ≤ 9223372036854775807) :
    Calls Try.prog 13 #[.string s] w fun e w' => e = .returned (.tuple #[.string (str (unT (ns s))), .bool (unE (ns s))]) ∧ w' = w := by
  by_cases h : s = { data := #[46] }
  · subst h
    go_enter Try.func13, Try.ntmps13
    go_wp2
    go_ret2
    refine ⟨?_, rfl⟩
    rw [ns_point, un_end.1, un_end.2]
    rfl
  · have HE := Lib.hid (unE_ne h)
    have hne : ns s ≠ [46] := fun e => h (ns_inj (e.trans ns_point.symm))
    have HN := Lib.hid hne
    have hq := list_ne h
    clear hne
    by_cases h0 : 0 < s.size
    · by_cases h1 : ((s[0]'h0).toNat : Int) = 46
      · go_enter Try.func13, Try.ntmps13
        go_wp2
        go_ret2
        refine ⟨?_, rfl⟩
        rw [HE.out, drop_ns, unT, if_neg HN.out, if_pos (by rw [head_ns s h0]; simp; omega)]
        rfl
      · go_enter Try.func13, Try.ntmps13
        go_wp2
        go_ret2
        refine ⟨?_, rfl⟩
        rw [HE.out, unT, if_neg HN.out, if_neg (by rw [head_ns s h0]; simp; omega), str_ns]
        rfl
    · go_enter Try.func13, Try.ntmps13
      go_wp2
      go_ret2
      refine ⟨?_, rfl⟩
      have e0 : ns s = [] := List.eq_nil_of_length_eq_zero (by rw [ns_length]; omega)
      rw [HE.out, unT, if_neg HN.out, if_neg (by rw [e0]; simp), str_ns]
      rfl
end Go.Proofs.Ytgocmapnnbpceaa.Ln
