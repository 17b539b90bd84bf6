/-
  The document's Split, Parse and Path.
-/
import Derived.Test.YtpdopjpibmhamaaGreatDoorARefC
import Derived.Laws.DeepStrings4
namespace Go.Proofs.YtpdopjpibmhamaaGreatDoor.Ad
open Go.RowKit
set_option linter.unusedVariables false
set_option linter.unusedSimpArgs false

theorem take_bs (s : ByteArray) (k : Nat) : s.extract 0 k = bs (s.data.toList.take k) := by
  rw [extract_bs]
  simp
theorem drop_bs (s : ByteArray) (k : Nat) : s.extract k s.size = bs (s.data.toList.drop k) := by
  rw [extract_bs, List.take_of_length_le (by rw [List.length_drop, len_size]; exact Nat.le_refl _)]

set_option maxHeartbeats 1000000 in
set_option maxRecDepth 100000 in
theorem refSplit_walk (s : ByteArray) (hs : s.size ≤ 9223372036854775806) (w : World) : Calls Tryz.prog 51 #[.string s] w fun e w' => e = .returned (splitV s.data.toList) ∧ Below w.heap.size w w' := by
  have hlen := len_size s
  obtain ⟨n, hn⟩ : ∃ n, s.size = n := ⟨_, rfl⟩
  obtain ⟨V, hV⟩ : ∃ V, splitV s.data.toList = V := ⟨_, rfl⟩
  rw [hV]
  have HV := Lib.hid hV
  clear hV
  go_enter Tryz.func51, Tryz.ntmps51
  go_wp2
  go_loopw [5] (fun z wr => ∃ k : Nat, k ≤ n ∧ z = .int .i64 (k : Int) ∧ wr = w ∧ Hid ((64 : UInt8) ∉ s.data.toList.take k)) (fun z _ => n - (Lib.intOf z).toNat)
  case atStart => exact ⟨0, by omega, rfl, rfl, by show (64 : UInt8) ∉ _; simp⟩
  case round =>
    obtain ⟨k, hk, rfl, rfl, HN⟩ := hrel
    by_cases hlt : (k : Int) < (n : Int)
    · have hp : k < s.size := by omega
      have hkl : k < s.data.toList.length := by omega
      have hg := get_list s k hp
      by_cases h64 : ((s[k]'hp).toNat : Int) = 64
      · have e64 : s.data.toList[k] = 64 := by rw [hg]; exact byte_eq (n := 64) (by decide) h64
        have hbox := isBox_hit hkl e64 HN.out
        obtain ⟨e1, e2, e3⟩ := ahead_hit hkl e64 HN.out
        rw [hlen] at hbox
        have et := take_bs s k
        have ed := drop_bs s (k + 1)
        by_cases h : (64 : Int) < (s.size : Int)
        · have hv : V = _ := HV.out.symm.trans (splitV_none (by rw [hbox, decide_eq_false (by omega), Bool.false_and]))
          subst hv
          clear HV HN hbox e1 e2 e3
          go_wp2
          go_ret3
          exact ⟨rfl, Below.refl _ _⟩
        · rw [decide_eq_true (show s.size ≤ 64 by omega), Bool.true_and] at hbox
          have c2 := refLocal_walk (bs (s.data.toList.take k)) (by rw [bs_size, List.length_take]; omega) wr
          have c3 := refDomain_walk (bs (s.data.toList.drop (k + 1))) (by rw [bs_size, List.length_drop]; omega) wr
          have c4 : ∀ W, Calls Tryz.prog 60 #[.string (bs (s.data.toList.drop (k + 1)))] W fun e w' => e = .returned (.string (bs (small (s.data.toList.drop (k + 1))))) ∧ Below W.heap.size W w' := fun W => by
            have c := refSmall_walk (bs (s.data.toList.drop (k + 1))) (by rw [bs_size, List.length_drop]; omega) W
            rw [bs_data] at c
            exact c
          rw [bs_data] at c2 c3
          obtain ⟨la, hla⟩ : ∃ la, s.data.toList.take k = la := ⟨_, rfl⟩
          obtain ⟨lb, hlb⟩ : ∃ lb, s.data.toList.drop (k + 1) = lb := ⟨_, rfl⟩
          rw [hla] at c2 hbox et e1
          rw [hlb] at c3 c4 hbox ed e2
          rw [hn] at ed
          cases hl : loc la with
          | false =>
            have hv : V = _ := HV.out.symm.trans (splitV_none (by rw [hbox, hl, Bool.false_and]))
            subst hv
            rw [hl] at c2
            clear HV HN hbox e1 e2 e3 hla hlb
            go_wp2_with (go_at_call 58; (try rw [et]); refine c2.mono ?_; rintro e w' ⟨rfl, rfl⟩)
            go_ret3
            exact ⟨rfl, Below.refl _ _⟩
          | true =>
            rw [hl] at c2
            cases hd : domain lb with
            | false =>
              have hv : V = _ := HV.out.symm.trans (splitV_none (by rw [hbox, hl, hd]; rfl))
              subst hv
              rw [hd] at c3
              clear HV HN hbox e1 e2 e3 hla hlb
              go_wp2_with (first | (go_at_call 58; (try rw [et]); refine c2.mono ?_; rintro e w' ⟨rfl, rfl⟩) | (go_at_call 59; (try rw [ed]); refine c3.mono ?_; rintro e w1 ⟨rfl, hb1⟩))
              go_ret3
              exact ⟨rfl, hb1⟩
            | true =>
              have hv : V = .tuple #[.string (bs la), .string (bs (small lb)), .bool true] := HV.out.symm.trans (by
                rw [splitV, splitM, hbox, hl, hd, e1, e2]
                rfl)
              subst hv
              rw [hd] at c3
              clear HV HN hbox e1 e2 e3 hla hlb
              go_wp2_with (first | (go_at_call 58; (try rw [et]); refine c2.mono ?_; rintro e w' ⟨rfl, rfl⟩) | (go_at_call 59; (try rw [ed]); refine c3.mono ?_; rintro e w1 ⟨rfl, hb1⟩))
              have k1 : (0 : Int) ≤ (k : Int) + 1 := by omega
              have k2 : (k : Int) + 1 ≤ (n : Int) := by omega
              have k3 : IntKind.i64.wrap ((k : Int) + 1) = (k : Int) + 1 := wrap_small _ (by omega) (by omega)
              go_region_held3 (fun _ => True) (exact trivial) (first | (go_at_call 60; (try rw [ed]); refine (c4 _).mono ?_; rintro e w2 ⟨rfl, hb2⟩))
              go_wp2
              go_ret3
              exact ⟨rfl, hb1.drew.trans (hb2.mono hb1.size)⟩
      · have hG : Hid ((64 : UInt8) ∉ s.data.toList.take (k + 1)) := by
          show (64 : UInt8) ∉ _
          rw [List.take_succ_eq_append_getElem hkl, hg]
          simp only [List.mem_append, List.mem_singleton, not_or]
          exact ⟨HN.out, fun e => byte_ne (n := 64) (by decide) h64 e.symm⟩
        go_wp2
        go_roundw
        case rel => exact ⟨k + 1, by omega, by simp, trivial, hG⟩
        case measure =>
          simp [Lib.intOf]
          omega
    · have hkn : k = n := by omega
      have hno := HN.out
      rw [List.take_of_length_le (by omega)] at hno
      have hv : V = _ := HV.out.symm.trans (splitV_none (ahead_miss hno))
      subst hv
      clear HV HN hno
      go_wp2
      go_ret3
      exact ⟨rfl, Below.refl _ _⟩

set_option maxHeartbeats 4000000 in
set_option maxRecDepth 100000 in
theorem refParse_walk (s : ByteArray) (hs : s.size ≤ 100000) (w : World) : Calls Tryz.prog 42 #[.string s] w fun e w' => e = .returned (parseV s.data.toList) ∧ Below w.heap.size w w' := by
  have c1 := refSplit_walk s (by omega) w
  cases hb : isBox s.data.toList with
  | false =>
    rw [splitV_none hb] at c1
    rw [parseV_none hb]
    go_enter Tryz.func42, Tryz.ntmps42
    go_wp2_with (go_at_call 51; refine c1.mono ?_; rintro e w1 ⟨rfl, hb1⟩)
    go_ret2
    exact ⟨rfl, hb1⟩
  | true =>
    have hl := splitM_len hb
    rw [splitV, hb] at c1
    rw [parseV_some hb]
    obtain ⟨a, ha⟩ : ∃ a, a = bs (splitM s.data.toList).1 := ⟨_, rfl⟩
    obtain ⟨b, hb'⟩ : ∃ b, b = bs (splitM s.data.toList).2 := ⟨_, rfl⟩
    have la : a.size ≤ 64 := by rw [ha, bs_size]; exact hl.1
    have lb : b.size ≤ 64 := by rw [hb', bs_size]; exact hl.2
    rw [← ha, ← hb'] at c1 ⊢
    clear ha hb' hl
    go_enter Tryz.func42, Tryz.ntmps42
    go_wp2_with (go_at_call 51; refine c1.mono ?_; rintro e w1 ⟨rfl, hb1⟩)
    go_ret2
    exact ⟨rfl, hb1⟩

end Go.Proofs.YtpdopjpibmhamaaGreatDoor.Ad
