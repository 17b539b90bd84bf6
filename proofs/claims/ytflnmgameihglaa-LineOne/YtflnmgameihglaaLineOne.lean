/-
  Proved here: for every text, the statement LineOne of layer 6 answers true: a text without 13 is one line when its end comes, and not ahead of that; the text reads behind the call as it read before. Conditions: none.
-/
import Derived.Test.YtflnmgameihglaaRows
import Derived.Test.YtflnmgameihglaaStr
import Derived.Lib.Hide
import Derived.WalkKit
import Derived.ProofKit
import Derived.OpenShut
import Derived.ShutString
import Derived.ChangeOld
import Derived.Below
import Derived.HandedShaped
namespace Go.Proofs.Ytflnmgameihglaa.lineOne
open Go.ChangeShapes Go.WideShapes Go.ChangeAt Go.RowKit
set_option linter.unusedVariables false

theorem own : ownKnob Try.prog.godebug = none := by kernel_rfl
theorem laidOut : laidOutB Try.prog = true := by kernel_rfl

/-! ### The walk -/
set_option maxHeartbeats 4000000 in
set_option maxRecDepth 100000 in
theorem walk (a0 : ByteArray) (w : World) (m0 : a0.size ≤ 9223372036854775807) (hm : Ln.Hm w) :
    Calls Try.prog 6 #[.string a0] w fun e w' => e = .returned (.bool true) ∧ Below w.heap.size w w' := by
  obtain ⟨N, hN⟩ : ∃ N, N = a0.size := ⟨_, rfl⟩
  have hlen : ∀ ty w, (Builtin.len_ #[9] ty #[.string a0]).run Try.prog w = .ok (.int .i64 (N : Int)) w := fun ty w => by rw [hN]; exact run_len_string w 9 ty a0 Try.underlying9
  have hN2 : N ≤ 9223372036854775807 := by omega
  have HN := Lib.hid hN
  have HM := Lib.hid hm
  clear hN m0 hm
  go_enter Try.func6, Try.ntmps6
  go_wp2
  go_loop [3] (fun z => ∃ k : Nat, k ≤ N ∧ z = .int .i64 (k : Int) ∧ Hid (∀ j, j < k → (Ln.ns a0).getD j 0 ≠ 13) ∧ (0 < k → N ≤ 500)) (fun z => N - (intOf z).toNat)
  case atStart => exact ⟨0, by omega, rfl, fun j hj => absurd hj (Nat.not_lt_zero _), fun h => absurd h (Nat.lt_irrefl 0)⟩
  case round =>
    obtain ⟨k, hk, rfl, HR, h500⟩ := hrel
    by_cases h8 : (k : Int) < (N : Int)
    · have hix := Ln.index_ns a0 k (by have := HN.out; omega)
      obtain ⟨c, hc⟩ : ∃ c, c = (Ln.ns a0).getD k 0 := ⟨_, rfl⟩
      rw [← hc] at hix
      by_cases h13 : c = 13
      · subst h13
        clear hc
        go_wp2_with fail
        refine (Ln.ansS (Ln.Keep.refl _ w) HM.out).mono ?_
        rintro e w1 ⟨rfl, hS, _⟩
        go_wp2
        go_ret
        exact ⟨rfl, hS.below⟩
      · have h13' : ¬ ((c : Int) = 13) := by omega
        by_cases hbig : (500 : Int) < (N : Int)
        · clear hc
          go_wp2_with fail
          refine (Ln.ansS (Ln.Keep.refl _ w) HM.out).mono ?_
          rintro e w1 ⟨rfl, hS, _⟩
          go_wp2
          go_ret
          exact ⟨rfl, hS.below⟩
        · have HC := Lib.hid hc
          clear hc
          go_wp2
          go_round
          case rel => exact ⟨k + 1, by omega, by go_num, fun j hj => by
            rcases Nat.lt_or_eq_of_le (Nat.le_of_lt_succ hj) with h | h
            · exact HR.out j h
            · subst h; rw [← HC.out]; exact h13, fun _ => by omega⟩
          case measure => simp [intOf]; omega
    · have hN500 : N ≤ 500 := by
        rcases Nat.eq_zero_or_pos k with h | h
        · omega
        · exact h500 h
      have hno : ∀ c ∈ Ln.ns a0, c ≠ 13 := by
        intro c hc
        obtain ⟨j, hj, rfl⟩ := List.mem_iff_getElem.1 hc
        have hjN : j < k := by have := HN.out; rw [Ln.ns_length] at hj; omega
        have := HR.out j hjN
        simpa [hj] using this
      have HO := Lib.hid hno
      have HL : Hid ((Ln.ns a0).length = N) := by show _ = _; rw [Ln.ns_length]; exact HN.out.symm
      obtain ⟨cap, w1, hcv, hB1, hk1⟩ := Ln.conv_str a0 (w.alloc (.cells #[.slice none 0 0] 26))
      have eh : (w.alloc (.cells #[.slice none 0 0] 26)).heap.size = w.heap.size + 1 := by simp
      rw [eh, ← HN.out] at hcv
      rw [eh] at hB1
      have hS1 : Ln.Since w w1 := Ln.Since.quiet ((Ln.Keep.refl _ w).alloc _) hk1
      have hL1 : Ln.Lin w.heap.size w1 w.heap.size none [] := (Ln.Lin.new w w.heap.size (Nat.le_refl _)).keep hk1 (fun h => h) (fun _ _ h => h)
      have HS1 := Lib.hid hS1
      have HL1 := Lib.hid hL1
      have HB1 := Lib.hid hB1
      clear hno hB1 hk1 hS1 hL1 eh h500
      go_wp2_with fail
      refine (Ln.feedS HS1.out HL1.out _ N cap (Ln.ns a0) HL.out HB1.out (by simp; omega)).mono ?_
      rintro e w2 ⟨rfl, q2, hL2, hS2, hk2, hn2⟩
      have HS2 := Lib.hid hS2
      have HL2 := Lib.hid hL2
      clear hL2 hS2 hk2 hn2
      go_wp2_with fail
      refine (Ln.nextS' HS2.out HM.out HL2.out 1000 (by decide) (by have := HL.out; simp; omega)).mono ?_
      rintro e w3 ⟨he, q3, hL3, hS3, hk3, hn3⟩
      have p0 : Ln.pos ([] ++ Ln.ns a0) = none := Ln.pos_no13 HO.out
      rw [Ln.nextT_none p0, Ln.nextL_none p0, Ln.nextK_none p0] at he
      rw [Ln.nextS_none p0] at hL3
      subst he
      have hB3 : Ln.Bytes (fun b => b = w3.heap.size) (w3.alloc (.cells #[.int .u8 13] 5)) (some ⟨w3.heap.size, 0, none⟩) [13] := Ln.bytes_mark w3 [13] (by decide) (0, 0)
      have HB3 := Lib.hid hB3
      have HS3 : Hid (Ln.Since w (w3.alloc (.cells #[.int .u8 13] 5))) := Lib.hid (Ln.Keep.alloc hS3 _)
      have HL3 : Hid (Ln.Lin w.heap.size (w3.alloc (.cells #[.int .u8 13] 5)) w.heap.size q3 ([] ++ Ln.ns a0)) := Lib.hid (hL3.keep ((Ln.Keep.refl (fun _ => False) w3).alloc _) (fun h => h) (fun _ _ h => h))
      clear hL3 hS3 hk3 hn3 hB3 p0
      go_wp2_with fail
      refine (Ln.feedS HS3.out HL3.out _ 1 1 [13] rfl HB3.out (by have := HL.out; simp; omega)).mono ?_
      rintro e w4 ⟨rfl, q4, hL4, hS4, hk4, hn4⟩
      have HS4 := Lib.hid hS4
      have HL4 := Lib.hid hL4
      clear hL4 hS4 hk4 hn4
      go_wp2_with fail
      refine (Ln.nextS' HS4.out HM.out HL4.out 1000 (by decide) (by have := HL.out; simp; omega)).mono ?_
      rintro e w5 ⟨he, q5, hL5, hS5, hk5, hn5⟩
      have p0 : Ln.pos ([] ++ Ln.ns a0 ++ [13]) = none := Ln.pos_no13' HO.out
      rw [Ln.nextT_none p0, Ln.nextL_none p0, Ln.nextK_none p0] at he
      rw [Ln.nextS_none p0] at hL5
      subst he
      have hB5 : Ln.Bytes (fun b => b = w5.heap.size) (w5.alloc (.cells #[.int .u8 10] 5)) (some ⟨w5.heap.size, 0, none⟩) [10] := Ln.bytes_mark w5 [10] (by decide) (0, 0)
      have HB5 := Lib.hid hB5
      have HS5 : Hid (Ln.Since w (w5.alloc (.cells #[.int .u8 10] 5))) := Lib.hid (Ln.Keep.alloc hS5 _)
      have HL5 : Hid (Ln.Lin w.heap.size (w5.alloc (.cells #[.int .u8 10] 5)) w.heap.size q5 ([] ++ Ln.ns a0 ++ [13])) := Lib.hid (hL5.keep ((Ln.Keep.refl (fun _ => False) w5).alloc _) (fun h => h) (fun _ _ h => h))
      clear hL5 hS5 hk5 hn5 hB5 p0
      go_wp2_with fail
      refine (Ln.feedS HS5.out HL5.out _ 1 1 [10] rfl HB5.out (by have := HL.out; simp; omega)).mono ?_
      rintro e w6 ⟨rfl, q6, hL6, hS6, hk6, hn6⟩
      have HS6 := Lib.hid hS6
      have HL6 := Lib.hid hL6
      clear hL6 hS6 hk6 hn6
      go_wp2_with fail
      refine (Ln.nextS' HS6.out HM.out HL6.out 1000 (by decide) (by have := HL.out; simp; omega)).mono ?_
      rintro e w7 ⟨he, q7, hL7, hS7, hk7, hn7⟩
      have p0 : Ln.pos ([] ++ Ln.ns a0 ++ [13] ++ [10]) = some (Ln.ns a0).length := Ln.pos_end HO.out
      have hmx : ((Ln.ns a0).length : Int) ≤ max 1000 0 := by have := HL.out; omega
      have et : ([] ++ Ln.ns a0 ++ [13] ++ [10]).take (Ln.ns a0).length = Ln.ns a0 := by simp
      have ed : ([] ++ Ln.ns a0 ++ [13] ++ [10]).drop ((Ln.ns a0).length + 2) = [] := by simp
      rw [Ln.nextT_short p0 hmx, Ln.nextL_short p0 hmx, Ln.nextK_some p0, et, Ln.str_ns] at he
      rw [Ln.nextS_some p0, ed] at hL7
      subst he
      have HS7 := Lib.hid hS7
      have HL7 := Lib.hid hL7
      clear hL7 hS7 hk7 hn7 p0 hmx et ed
      go_wp2_with fail
      refine (Ln.ansS HS7.out HM.out).mono ?_
      rintro e w8 ⟨rfl, hS8, hk8⟩
      have HS8 := Lib.hid hS8
      have HL8 := Lib.hid (HL7.out.keep hk8 (fun h => h) (fun _ _ h => h))
      clear hS8 hk8
      go_wp2_with fail
      refine (Ln.held HL8.out).mono ?_
      rintro e w9 ⟨rfl, hw⟩
      have hw' := hw.symm
      subst hw'
      go_wp2_with fail
      go_ret
      exact ⟨rfl, HS8.out.below⟩

/-! ### The row's step -/
set_option maxRecDepth 100000 in
theorem lifted (os : Os) (started : os.Started) (H : Type) (enc : TypeId × Value → H) :
    ReturnsInHanded {} Try.checked os 6 .any (Rows.lineOneSpec.pre6 enc Try.prog Try.f6 Rows.lineOneRow.domain false) (Rows.lineOneSpec.post enc Try.prog Try.f6 false true false false) := by
  refine returnsInHanded_of_change_shaped (C := Try.checked) own started (by kernel_rfl) Try.func6
    (ChangeSpec.witness6 (enc := enc) (C := Try.checked) false ⟨#[], #[.string { data := #[] }], []⟩ 8 (by kernel_rfl) (by kernel_rfl) (by kernel_rfl) (by kernel_rfl)) ?_
  intro W base args ds gs before hval0 hW hcnd hsz hsh _
  have hval : ∀ (j : Nat) t v, Try.f6.params[j]? = some t → args[j]? = some v → Value.okWide Try.prog W .any base t v := hval0
  have hW' := hW
  obtain ⟨p, q, hA0, hV, rfl, hfz, hnd⟩ := hW
  have hA : DataW.TrodAll enc Try.prog W 0 (fun _ => true) true Try.f6.params.toList args.toList ds p := hA0
  rw [Try.params6] at hA hval hsz
  obtain ⟨v0, vs0, d0, ds0, p0, q0, hargs, rfl, rfl, h0, r0⟩ := trodAll_cons hA
  obtain ⟨rfl, rfl, rfl⟩ := trodAll_nil r0
  obtain rfl : args = #[v0] := by cases args; simp_all
  obtain ⟨rfl, rfl⟩ := trodVars_none hV
  obtain ⟨a0, rfl, rfl, rfl, w0⟩ := ChangeMaps.open_string Try.underlying9 (hval 0 9 v0 rfl rfl) h0
  clear hA0 hval0
  refine (walk a0 W (by simpa only [maxLen] using w0) (Ln.maxLen_some W hsh)).mono fun e W' ⟨he, bel⟩ => ?_
  subst he
  exact ⟨_, rfl, _, _, _, [], _, [], hW', trodAll_mk1 (shut_bool Try.underlying4 _), (trodAll_cons_mk (ChangeMaps.shut_string Try.underlying9 w0) trodAll_mk0), rfl, bel.frame _, fun h => by cases h⟩

theorem over : Rows.lineOneRow.holds Try.pinned (OpenSpec.ofChange Rows.lineOneSpec) :=
  OpenClaim.holds_of_wide 6 Try.f6 rfl rfl rfl rfl rfl rfl rfl ⟨rfl, rfl, rfl, rfl, rfl⟩ rfl rfl rfl rfl rfl (by kernel_rfl) Try.func6 (by kernel_rfl)
    (of_decide_eq_true (by kernel_rfl)) (by unfold Func.isWrapper; first | (rw [if_pos (by decide +kernel)]; kernel_rfl) | (rw [if_neg (by decide +kernel)]; exact ⟨rfl, rfl⟩))
    (fun os started H enc _ => lifted os started H enc)

/-- The statement. -/
theorem proved : Rows.LineOneSaid := over
#print axioms proved
end Go.Proofs.Ytflnmgameihglaa.lineOne
