/-
  Proved here: for every text, AddrFixed answers true: what is parsed is parsed to itself, its parts make it again, its domain is one, in small letters. Conditions: none (what the card lists is laid as the program's text lays it).
-/
import Derived.Test.YtjmjcdigoblkjaaDoorRows
import Derived.Test.YtjmjcdigoblkjaaDoorCards
import Derived.Test.YtjmjcdigoblkjaaDoorTie
import Derived.Test.YtjmjcdigoblkjaaDoorAns
import Derived.WalkKit
import Derived.ProofKit
import Derived.OpenShut
import Derived.ShutString
import Derived.ChangeOld
import Derived.Below
import Derived.Lay
import Derived.SevenTiedAt
import Derived.Stop.Joined
namespace Go.Proofs.YtjmjcdigoblkjaaDoor.addrFixed
open Go.ChangeShapes Go.WideShapes Go.ChangeAt Go.RowKit
set_option linter.unusedVariables false

theorem own : ownKnob Tryd.prog.godebug = none := by kernel_rfl

/-! ### The walk -/
set_option maxHeartbeats 4000000 in
set_option maxRecDepth 100000 in
theorem walk (a0 : ByteArray) (m : Int) (w : World) (m0 : a0.size ≤ 140737488351232) (hm : w.cell? ⟨0, 0, none⟩ = some (.int .i64 m)) :
    Calls Tryd.prog 5 #[.string a0] w fun e w' => e = .returned (.bool true) ∧ Below w.heap.size w w' := by
  by_cases h : (500 : Int) < (a0.size : Int)
  · have c := Ad.ans_walk m w hm
    go_enter Tryd.func5, Tryd.ntmps5
    go_wp2_with (go_at_call 8; refine c.mono ?_; rintro e w1 ⟨rfl, hb1⟩)
    go_ret
    exact ⟨rfl, hb1⟩
  · have c1 := Ad.parse_walk a0 m
    have c7 := Ad.ans_walk m
    cases hY : Ad.isBox a0.data.toList with
    | false =>
      rw [Ad.parseV_none hY] at c1
      go_enter Tryd.func5, Tryd.ntmps5
      go_wp2_with fail
      refine (c1 _ hm).mono ?_
      rintro e w1 ⟨rfl, hb1⟩
      have hm1 := Ad.cell_below hm hb1
      go_wp2_with fail
      refine (c7 _ hm1).mono ?_
      rintro e w2 ⟨rfl, hb2⟩
      replace hb2 := hb1.trans (hb2.mono hb1.size)
      go_wp2
      go_ret
      exact ⟨rfl, hb2⟩
    | true =>
      obtain ⟨f1, f2, f3, f4, f5, f6⟩ := Ad.parse_fixed hY
      have c2 := Ad.parse_walk (Ad.bs (Ad.parseM a0.data.toList)) m
      have c3 := Ad.split_walk (Ad.bs (Ad.parseM a0.data.toList)) m
      have c4 := Ad.domain_walk (Ad.bs (Ad.small (Ad.behind a0.data.toList))) m
      have c5 := Ad.refSmall_walk (Ad.bs (Ad.small (Ad.behind a0.data.toList))) (by rw [Ad.bs_size]; have := (Ad.box_parts hY).2.2; simp only [Ad.small, List.length_map]; omega)
      have e5 : (Ad.small (Ad.behind a0.data.toList)).map Ad.lower = Ad.small (Ad.behind a0.data.toList) := Ad.small_small _
      rw [Ad.bs_data] at c2 c3 c4 c5
      rw [f5] at c4
      rw [e5] at c5
      unfold Ad.parseV at c1 c2
      unfold Ad.splitV at c3
      rw [hY] at c1
      rw [f1, f2] at c2
      rw [f1, f3] at c3
      have hP : Ad.bs (Ad.ahead a0.data.toList) ++ { data := #[64] } ++ Ad.bs (Ad.small (Ad.behind a0.data.toList)) = Ad.bs (Ad.parseM a0.data.toList) := by
        rw [f4, show ({ data := #[64] } : ByteArray) = Ad.bs [64] from rfl, Ad.bs_append, Ad.bs_append]
        simp
      have hps : ((Ad.bs (Ad.parseM a0.data.toList)).size : Int) ≤ 64 := by rw [Ad.bs_size]; omega
      have hl := Ad.splitM_len hY
      rw [show Ad.splitM a0.data.toList = (Ad.ahead a0.data.toList, Ad.small (Ad.behind a0.data.toList)) by rw [Ad.splitM, hY]; rfl] at hl
      have hA : (Ad.bs (Ad.ahead a0.data.toList)).size ≤ 64 := hl.1
      have hB : (Ad.bs (Ad.small (Ad.behind a0.data.toList))).size ≤ 64 := hl.2
      clear hl f1 f2 f3 f4 f5 f6 e5
      dsimp only at c3
      generalize Ad.bs (Ad.parseM a0.data.toList) = P at *
      generalize Ad.bs (Ad.ahead a0.data.toList) = A at *
      generalize Ad.bs (Ad.small (Ad.behind a0.data.toList)) = B at *
      go_enter Tryd.func5, Tryd.ntmps5
      go_wp2_with fail
      refine (c1 _ hm).mono ?_
      rintro e w1 ⟨rfl, hb1⟩
      have hm1 := Ad.cell_below hm hb1
      go_wp2_with fail
      refine (c2 _ hm1).mono ?_
      rintro e w2 ⟨rfl, hb2⟩
      have hm2 := Ad.cell_below hm1 hb2
      replace hb2 := hb1.trans (hb2.mono hb1.size)
      clear hb1
      go_wp2_with fail
      refine (c3 _ hm2).mono ?_
      rintro e w3 ⟨rfl, hb3⟩
      have hm3 := Ad.cell_below hm2 hb3
      replace hb3 := hb2.trans (hb3.mono hb2.size)
      clear hb2
      go_wp2_with fail
      refine (c7 _ hm3).mono ?_
      rintro e w4 ⟨rfl, hb4⟩
      have hm4 := Ad.cell_below hm3 hb4
      replace hb4 := hb3.trans (hb4.mono hb3.size)
      clear hb3
      go_wp2_with fail
      refine (c4 _ hm4).mono ?_
      rintro e w5 ⟨rfl, hb5⟩
      have hm5 := Ad.cell_below hm4 hb5
      replace hb5 := hb4.trans (hb5.mono hb4.size)
      clear hb4
      go_wp2_with fail
      refine (c5 _).mono ?_
      rintro e w6 ⟨rfl, hb6⟩
      replace hb6 := hb5.trans (hb6.mono hb5.size)
      clear hb5
      go_wp2
      go_ret
      exact ⟨by simp, hb6⟩

/-! ### The row's step -/
set_option maxRecDepth 100000 in
theorem lifted (os : Os) (started : os.Started) (H : Type) (enc : TypeId × Value → H) :
    ReturnsInHanded {} Tryd.checked os 5 .any (fun w args => (Rows.addrFixedSpec.pre enc Tryd.prog Tryd.f5 [] false w args ∧ laidMetH Tryd.prog Rows.addrFixedRow.laid w) ∧ sizedMet enc Tryd.prog Tryd.f5 (OpenSpec.ofChange Rows.addrFixedSpec) false w args)
      (Rows.addrFixedSpec.post enc Tryd.prog Tryd.f5 false true false false) := by
  refine Ad.wrapZ (C := Tryd.checked) (X := fun w _ => laidMetH Tryd.prog Rows.addrFixedRow.laid w) own started (by kernel_rfl) Tryd.func5
    (ChangeSpec.witness_shaped (enc := enc) (C := Tryd.checked) (os := os) (X := fun w _ => laidMetH Tryd.prog Rows.addrFixedRow.laid w) false (World.laidAll Tryd.prog os Rows.addrFixedRow.laid) #[.string { data := #[] }] 8 (World.laidAll_os _ _ _)
      (World.shaped_of_ZipB (by kernel_rfl) (by kernel_rfl)) (by kernel_rfl) (by kernel_rfl) (by kernel_rfl)
      (by rw [MakeChecks.laidMetH_plain _ _ _ (by kernel_rfl)]; exact laidMet_laidAll _ (by kernel_rfl) (by kernel_rfl))) ?_
  intro W base args ds gs before hval0 hW shape hsz
  have hval : ∀ (j : Nat) t v, Tryd.f5.params[j]? = some t → args[j]? = some v → Value.okWide Tryd.prog W .any base t v := hval0
  have hW' := hW
  obtain ⟨p, q, hA0, hV, rfl, hfz, hnd⟩ := hW
  have hA : DataW.TrodAll enc Tryd.prog W 0 (fun _ => true) true Tryd.f5.params.toList args.toList ds p := hA0
  rw [Tryd.params5] at hA hval
  obtain ⟨v0, vs0, d0, ds0, p0, q0, hargs, rfl, rfl, h0, r0⟩ := trodAll_cons hA
  obtain ⟨rfl, rfl, rfl⟩ := trodAll_nil r0
  obtain rfl : args = #[v0] := by cases args; simp_all
  obtain ⟨rfl, rfl⟩ := trodVars_none hV
  obtain ⟨a0, rfl, rfl, rfl, w0⟩ := ChangeMaps.open_string Tryd.underlying9 (hval 0 9 v0 rfl rfl) h0
  obtain ⟨m, hm⟩ := Ad.maxLen_some W shape
  clear hA0 hval0
  refine (walk a0 m W (by have h := sized_string hsz (j := 0) (t := 9) (bytes := a0.data.toList) rfl rfl; rw [Array.length_toList] at h; exact h) hm).mono fun e W' ⟨he, bel⟩ => ?_
  subst he
  exact ⟨_, rfl, _, _, _, [], _, [], hW', trodAll_mk1 (shut_bool Tryd.underlying4 _), (trodAll_cons_mk (ChangeMaps.shut_string Tryd.underlying9 w0) trodAll_mk0), rfl, bel.frame _, fun h => by cases h⟩

theorem over : Rows.AddrFixedSaid :=
  OpenClaim.holds_of_wide 5 Tryd.f5 rfl rfl rfl rfl rfl rfl rfl ⟨rfl, rfl, rfl, rfl, rfl⟩ rfl rfl rfl rfl rfl (by kernel_rfl) Tryd.func5 (by kernel_rfl)
    (of_decide_eq_true (by kernel_rfl)) (by unfold Func.isWrapper; first | (rw [if_pos (by decide +kernel)]; kernel_rfl) | (rw [if_neg (by decide +kernel)]; exact ⟨rfl, rfl⟩))
    (fun os started H enc _ => lifted os started H enc)

/-- The statement: the tied card. -/
theorem proved : Rows.AddrFixedCardSaid :=
  Claim7.holds_tied_plain_at .later [] [.data, .pinned] true (true, "a0609c1d53fc9aaf666d257e12387fcc24d57d21a9284bf8c07a06627b287412") false over (fun _ h => by cases h) (by kernel_rfl) (fun _ h => by cases h) addrFixed_row_tie rfl ⟨rfl, rfl⟩ (by kernel_rfl) rfl
    (fun f fn hf hfn => by
      obtain rfl : f = 5 := Option.some.inj ((show Tryd.prog.funcNamed "pillarbox/pillarboxlaw05.AddrFixed" = some 5 by kernel_rfl).symm.trans hf) |>.symm
      obtain rfl : fn = Tryd.f5 := (Option.some.inj (Tryd.func5.symm.trans hfn)).symm
      exact ⟨by kernel_rfl, fun j t ht => by
        rw [Tryd.params5] at ht
        have hm : t ∈ [9] := by simpa using Array.mem_of_getElem? ht
        have hall : ([9].all fun u => !Tryd.prog.wantsStandIn u) = true := by kernel_rfl
        exact (show Tryd.prog.wantsStandIn t = false by simpa using List.all_eq_true.1 hall t hm)⟩)
    (by kernel_rfl)
#print axioms proved
end Go.Proofs.YtjmjcdigoblkjaaDoor.addrFixed
