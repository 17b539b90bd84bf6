/-
  What 'isName', the document's 'Name', 'ready', 'burn', 'Room', 'Fuse', 'Down', 'Loose' return.
-/
import Derived.Test.YtlpeiejohgchmaaDoorDDisk
namespace Go.Proofs.YtlpeiejohgchmaaDoor.Fs
open Go.RowKit Go.Maps
set_option linter.unusedVariables false

/-! ### A string's bytes -/
theorem index_nm (A : ByteArray) (i : Nat) (hi : i < (nm A).length) : ∀ w, (Instr.index 9 (.string A) (.int .i64 (i : Int))).run Tryd.prog w = .ok (.int .u8 ((((nm A).getD i 0).toNat : Nat) : Int)) w := by
  intro w
  have hs : i < A.size := by rwa [nm_length] at hi
  have h1 : (0 : Int) ≤ (i : Int) ∧ (i : Int) < (A.size : Int) := by omega
  have e : A.get! i = (nm A).getD i 0 := by
    cases A with | mk d =>
    have hd : i < d.size := hs
    simp [nm, ByteArray.get!, hd]
  rw [run_index_string w 9 A .i64 (i : Int) Tryd.underlying9, dif_pos h1]
  have e2 : A[((i : Int)).toNat]'(by omega) = (nm A).getD i 0 := by
    cases A with | mk d =>
    have hd : i < d.size := hs
    have hg : (ByteArray.mk d)[((i : Int)).toNat]'(by show ((i : Int)).toNat < d.size; omega) = d[i] := by
      show d[((i : Int)).toNat]'_ = d[i]
      congr 1
    rw [hg]
    simp [nm, hd]
  rw [e2]

/-- Of the first k bytes each may be in a name. -/
def okTo (a : Nm) (k : Nat) : Bool := (a.take k).all okByte
theorem okTo_zero (a : Nm) : okTo a 0 = true := by simp [okTo]
theorem okTo_succ (a : Nm) (k : Nat) (hk : k < a.length) (h : okTo a k = true) (hc : okByte (a.getD k 0) = true) : okTo a (k + 1) = true := by
  unfold okTo at *
  rw [List.take_add_one, List.all_append, h]
  simp only [List.getD_eq_getElem?_getD, List.getElem?_eq_getElem hk] at hc ⊢
  simpa using hc
theorem okTo_all (a : Nm) (k : Nat) (hk : a.length ≤ k) : okTo a k = a.all okByte := by
  unfold okTo
  rw [List.take_of_length_le hk]
theorem all_bad (a : Nm) (k : Nat) (hk : k < a.length) (hc : okByte (a.getD k 0) = false) : a.all okByte = false := by
  rw [List.all_eq_false]
  refine ⟨a[k], List.getElem_mem hk, ?_⟩
  simpa [hk] using hc
theorem isNm_bad (a : Nm) (h : a.all okByte = false) : isNm a = false := by simp only [isNm, h, Bool.and_false]

set_option maxHeartbeats 1000000 in
theorem isName (A : ByteArray) (hA : A.size ≤ 9223372036854775807) (w : World) : Calls Tryd.prog 41 #[.string A] w fun e w' => e = .returned (.bool (isNm (nm A))) ∧ w = w' := by
  obtain ⟨N, hN⟩ : ∃ N, N = A.size := ⟨_, rfl⟩
  have hl : (nm A).length = N := by rw [nm_length, hN]
  have HL := Lib.hid hl
  have hlen : ∀ ty w, (Builtin.len_ #[9] ty #[.string A]).run Tryd.prog w = .ok (.int .i64 (N : Int)) w := fun ty w => by rw [hN]; exact run_len_string w 9 ty A Tryd.underlying9
  by_cases h1 : (N : Int) < 1
  · have HR : Hid (isNm (nm A) = false) := by show _ = _; have := HL.out; simp only [isNm]; rw [hl]; have : ¬ (1 ≤ N) := by omega
                                              simp [this]
    clear hl
    go_enter Tryd.func41, Tryd.ntmps41
    go_wp2
    go_ret
    rw [HR.out]
    exact ⟨rfl, rfl⟩
  · by_cases h2 : (80 : Int) < (N : Int)
    · have HR : Hid (isNm (nm A) = false) := by show _ = _; simp only [isNm]; rw [hl]; have : ¬ (N ≤ 80) := by omega
                                                simp [this]
      clear hl
      go_enter Tryd.func41, Tryd.ntmps41
      go_wp2
      go_ret
      rw [HR.out]
      exact ⟨rfl, rfl⟩
    · clear hl
      go_enter Tryd.func41, Tryd.ntmps41
      go_wp2
      go_loop [14] (fun x => ∃ k : Nat, k ≤ N ∧ x = .int .i64 (k : Int) ∧ Hid (okTo (nm A) k = true)) (fun x => N - (intOf x).toNat)
      case atStart => exact ⟨0, by omega, rfl, okTo_zero _⟩
      case round =>
        obtain ⟨k, hk, rfl, HO⟩ := hrel
        by_cases h8 : (k : Int) < (N : Int)
        · have hkl : k < (nm A).length := by have := HL.out; omega
          have hix := index_nm A k hkl
          obtain ⟨c, hc⟩ : ∃ c, c = ((nm A).getD k 0).toNat := ⟨_, rfl⟩
          rw [← hc] at hix
          by_cases c1 : (c : Int) < 33
          · have HR := Lib.hid (isNm_bad _ (all_bad (nm A) k hkl (by simp only [okByte, ← hc]; have : ¬ 33 ≤ c := by omega
                                                                     simp [this])))
            clear hc hkl
            go_wp2
            go_ret
            rw [HR.out]
            exact ⟨rfl, rfl⟩
          · by_cases c2 : (126 : Int) < (c : Int)
            · have HR := Lib.hid (isNm_bad _ (all_bad (nm A) k hkl (by simp only [okByte, ← hc]; have : ¬ c ≤ 126 := by omega
                                                                       simp [this])))
              clear hc hkl
              go_wp2
              go_ret
              rw [HR.out]
              exact ⟨rfl, rfl⟩
            · by_cases c3 : c = 47
              · have HR := Lib.hid (isNm_bad _ (all_bad (nm A) k hkl (by simp only [okByte, ← hc]; simp [c3])))
                have c4 : ((c : Int) == 47) = true := by simp; omega
                clear hc hkl c3
                go_wp2
                go_ret
                rw [HR.out]
                exact ⟨rfl, rfl⟩
              · have HO' := Lib.hid (okTo_succ (nm A) k hkl HO.out (by
                  have d1 : 33 ≤ c := by omega
                  have d2 : c ≤ 126 := by omega
                  simp only [okByte, ← hc, d1, d2, c3, decide_true, decide_false, Bool.and_true, Bool.not_false]))
                have c4 : ((c : Int) == 47) = false := by simp; omega
                clear hc hkl c3
                go_wp2
                go_round
                case rel => exact ⟨k + 1, by omega, by go_num, HO'.out⟩
                case measure => simp [intOf]; omega
        · have HR : Hid (isNm (nm A) = true) := by
            show _ = _
            have e1 := HL.out
            have e2 := HO.out
            rw [okTo_all _ _ (by omega)] at e2
            simp only [isNm, e1, e2]
            have d1 : 1 ≤ N := by omega
            have d2 : N ≤ 80 := by omega
            simp only [d1, d2, decide_true, Bool.and_true]
          go_wp2
          go_ret
          rw [HR.out]
          exact ⟨rfl, rfl⟩

/-! ### ready -/
theorem readyE_nil (s : St) : readyE s [] = if s.down then 2 else 0 := rfl
set_option maxHeartbeats 1000000 in
theorem readyNone (v : Value) (w : World) : Calls Tryd.prog 29 #[.pointer none, v] w fun e w' => e = .returned (.int .i64 1) ∧ w = w' := by
  go_enter Tryd.func29, Tryd.ntmps29
  go_wp2
  go_ret
  exact ⟨rfl, rfl⟩
set_option maxHeartbeats 1000000 in
theorem ready0 (f : Nat) (S : Nat → Prop) (s : St) (w : World) (h : Disk w S f s) : Calls Tryd.prog 29 #[.pointer (some ⟨f, 0, none⟩), .slice none 0 0] w fun e w' => e = .returned (.int .i64 ((readyE s [] : Nat) : Int)) ∧ w = w' := by
  obtain ⟨⟨L, hp⟩, _⟩ := h
  have c6 := hp.fs.cell 6
  simp [cellsFS] at c6
  clear hp
  obtain ⟨D, hD⟩ : ∃ D, D = s.down := ⟨_, rfl⟩
  rw [← hD] at c6
  have HR := Lib.hid (readyE_nil s)
  have HD := Lib.hid hD
  clear hD
  go_enter Tryd.func29, Tryd.ntmps29
  go_wp2
  go_loop [11] (fun x => x = .int .i64 0) (fun _ => 0)
  case atStart => exact rfl
  case round =>
    obtain rfl := hrel
    cases D
    · go_wp2
      go_ret
      rw [HR.out, ← HD.out]
      exact ⟨rfl, rfl⟩
    · go_wp2
      go_ret
      rw [HR.out, ← HD.out]
      exact ⟨rfl, rfl⟩
theorem all_take_succ (ns : List ByteArray) (k : Nat) (hk : k < ns.length) (h : ((ns.take k).map nm).all isNm = true) (hc : isNm (nm (ns.getD k default)) = true) : ((ns.take (k + 1)).map nm).all isNm = true := by
  rw [List.take_add_one, List.map_append, List.all_append, h]
  simp only [List.getD_eq_getElem?_getD, List.getElem?_eq_getElem hk] at hc ⊢
  simpa using hc
theorem readyE_bad (s : St) (ns : List ByteArray) (k : Nat) (hk : k < ns.length) (hc : isNm (nm (ns.getD k default)) = false) : readyE s (ns.map nm) = 1 := by
  have : (ns.map nm).all isNm = false := by
    rw [List.all_eq_false]
    refine ⟨nm ns[k], List.mem_map.2 ⟨_, List.getElem_mem hk, rfl⟩, ?_⟩
    simpa [hk] using hc
  simp [readyE, this]
theorem readyE_good (s : St) (ns : List ByteArray) (k : Nat) (hk : ns.length ≤ k) (h : ((ns.take k).map nm).all isNm = true) : readyE s (ns.map nm) = if s.down then 2 else 0 := by
  rw [List.take_of_length_le hk] at h
  unfold readyE
  rw [h]
  rfl
set_option maxHeartbeats 1000000 in
theorem ready (f : Nat) (S : Nat → Prop) (s : St) (w : World) (h : Disk w S f s) (g cap n : Nat) (ns : List ByteArray) (hn : ns.length = n) (hn2 : n ≤ 1000) (hg : At w g 9 (ns.map Value.string).toArray) (hA : ∀ A ∈ ns, A.size ≤ 9223372036854775807) :
    Calls Tryd.prog 29 #[.pointer (some ⟨f, 0, none⟩), .slice (some ⟨g, 0, none⟩) n cap] w fun e w' => e = .returned (.int .i64 ((readyE s (ns.map nm) : Nat) : Int)) ∧ w = w' := by
  obtain ⟨⟨L, hp⟩, _⟩ := h
  have c6 := hp.fs.cell 6
  simp [cellsFS] at c6
  clear hp
  obtain ⟨D, hD⟩ : ∃ D, D = s.down := ⟨_, rfl⟩
  rw [← hD] at c6
  have HD := Lib.hid hD
  have HG := Lib.hid hg
  have HN := Lib.hid hn
  have HA := Lib.hid hA
  clear hD hg hn hA
  go_enter Tryd.func29, Tryd.ntmps29
  go_wp2
  go_loop [11] (fun x => ∃ k : Nat, k ≤ n ∧ x = .int .i64 (k : Int) ∧ Hid (((ns.take k).map nm).all isNm = true)) (fun x => n - (intOf x).toNat)
  case atStart => exact ⟨0, by omega, rfl, by show _ = _; simp⟩
  case round =>
    obtain ⟨k, hk, rfl, HO⟩ := hrel
    by_cases h8 : (k : Int) < (n : Int)
    · have hkl : k < ns.length := by have := HN.out; omega
      obtain ⟨A, hAk⟩ : ∃ A, A = ns.getD k default := ⟨_, rfl⟩
      have hc : w.cell? ⟨g, k, none⟩ = some (.string A) := by
        rw [HG.out.cell k, hAk]
        simp [hkl]
      have hsz : A.size ≤ 9223372036854775807 := HA.out A (by rw [hAk, List.getD_eq_getElem?_getD, List.getElem?_eq_getElem hkl]; exact List.getElem_mem hkl)
      have cN := isName A hsz w
      cases hB : isNm (nm A)
      · have HR := Lib.hid (readyE_bad s ns k hkl (by rw [← hAk]; exact hB))
        rw [hB] at cN
        clear hAk hkl hB
        go_wp2_with (go_at_call 41; refine cN.mono ?_; rintro e w' ⟨rfl, rfl⟩)
        go_ret
        rw [HR.out]
        exact ⟨rfl, rfl⟩
      · have HO' := Lib.hid (all_take_succ ns k hkl HO.out (by rw [← hAk]; exact hB))
        rw [hB] at cN
        clear hAk hkl hB
        go_wp2_with (go_at_call 41; refine cN.mono ?_; rintro e w' ⟨rfl, rfl⟩)
        go_round
        case rel => exact ⟨k + 1, by omega, by go_num, HO'.out⟩
        case measure => simp [intOf]; omega
    · have HR := Lib.hid (readyE_good s ns k (by have := HN.out; omega) HO.out)
      cases D
      · go_wp2
        go_ret
        rw [HR.out, ← HD.out]
        exact ⟨rfl, rfl⟩
      · go_wp2
        go_ret
        rw [HR.out, ← HD.out]
        exact ⟨rfl, rfl⟩

end Go.Proofs.YtlpeiejohgchmaaDoor.Fs
