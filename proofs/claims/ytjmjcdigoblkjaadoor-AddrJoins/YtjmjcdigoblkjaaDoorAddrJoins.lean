/-
  Proved here: for every two texts, AddrJoins answers true: joined with a point they are a domain just if the document says so; a point more at an end is none. Conditions: none (what the card lists is laid as the program's text lays it).
-/
import Derived.Test.YtjmjcdigoblkjaaDoorRows
import Derived.Test.YtjmjcdigoblkjaaDoorCards
import Derived.Test.YtjmjcdigoblkjaaDoorTie
import Derived.Test.YtjmjcdigoblkjaaDoorAns
import Derived.WalkKit
import Derived.ProofKit
import Derived.OpenShut
import Derived.ShutString
import Derived.ChangeOld
import Derived.Below
import Derived.Lay
import Derived.SevenTiedAt
import Derived.Stop.Joined
namespace Go.Proofs.YtjmjcdigoblkjaaDoor.addrJoins
open Go.ChangeShapes Go.WideShapes Go.ChangeAt Go.RowKit
set_option linter.unusedVariables false

theorem own : ownKnob Tryd.prog.godebug = none := by kernel_rfl

/-! ### The walk -/
set_option maxHeartbeats 4000000 in
set_option maxRecDepth 100000 in
theorem walk (a0 : ByteArray) (a1 : ByteArray) (m : Int) (w : World) (m0 : a0.size ≤ 140737488351232) (m1 : a1.size ≤ 140737488351232) (hm : w.cell? ⟨0, 0, none⟩ = some (.int .i64 m)) :
    Calls Tryd.prog 6 #[.string a0, .string a1] w fun e w' => e = .returned (.bool true) ∧ Below w.heap.size w w' := by
  by_cases h : (500 : Int) < (a0.size : Int) + (a1.size : Int)
  · have c := Ad.ans_walk m w hm
    go_enter Tryd.func6, Tryd.ntmps6
    go_wp2_with (go_at_call 8; refine c.mono ?_; rintro e w1 ⟨rfl, hb1⟩)
    go_ret
    exact ⟨rfl, hb1⟩
  · have c7 := Ad.ans_walk m
    have c1 := Ad.domain_walk (a0 ++ { data := #[46] } ++ a1) m
    have c2 := Ad.refDomain_walk (a0 ++ { data := #[46] } ++ a1) (by rw [ByteArray.size_append, ByteArray.size_append]; show a0.size + 1 + a1.size ≤ _; omega)
    have c3 := Ad.domain_walk (a0 ++ { data := #[46] }) m
    have c4 := Ad.domain_walk ({ data := #[46] } ++ a0) m
    have c5 := Ad.domain_walk { data := #[] } m
    rw [show (a0 ++ { data := #[46] } : ByteArray).data.toList = a0.data.toList ++ [46] by rw [ByteArray.data_append]; simp, Ad.domain_point] at c3
    rw [show ({ data := #[46] } ++ a0 : ByteArray).data.toList = 46 :: a0.data.toList by rw [ByteArray.data_append]; simp, Ad.point_domain] at c4
    rw [show Ad.domain ({ data := #[] } : ByteArray).data.toList = false from Ad.domain_nil] at c5
    generalize Ad.domain (a0 ++ { data := #[46] } ++ a1).data.toList = D at c1 c2
    go_enter Tryd.func6, Tryd.ntmps6
    go_wp2_with fail
    refine (c7 _ hm).mono ?_
    rintro e w1 ⟨rfl, hb1⟩
    have hm1 := Ad.cell_below hm hb1
    go_wp2_with fail
    refine (c1 _ hm1).mono ?_
    rintro e w2 ⟨rfl, hb2⟩
    have hm2 := Ad.cell_below hm1 hb2
    replace hb2 := hb1.trans (hb2.mono hb1.size)
    clear hb1
    go_wp2_with fail
    refine (c2 _).mono ?_
    rintro e w3 ⟨rfl, hb3⟩
    have hm3 := Ad.cell_below hm2 hb3
    replace hb3 := hb2.trans (hb3.mono hb2.size)
    clear hb2
    go_wp2_with fail
    refine (c3 _ hm3).mono ?_
    rintro e w4 ⟨rfl, hb4⟩
    have hm4 := Ad.cell_below hm3 hb4
    replace hb4 := hb3.trans (hb4.mono hb3.size)
    clear hb3
    go_wp2_with fail
    refine (c4 _ hm4).mono ?_
    rintro e w5 ⟨rfl, hb5⟩
    have hm5 := Ad.cell_below hm4 hb5
    replace hb5 := hb4.trans (hb5.mono hb4.size)
    clear hb4
    go_wp2_with fail
    refine (c5 _ hm5).mono ?_
    rintro e w6 ⟨rfl, hb6⟩
    replace hb6 := hb5.trans (hb6.mono hb5.size)
    clear hb5
    go_wp2
    go_ret
    exact ⟨by simp, hb6⟩

/-! ### The row's step -/
set_option maxRecDepth 100000 in
theorem lifted (os : Os) (started : os.Started) (H : Type) (enc : TypeId × Value → H) :
    ReturnsInHanded {} Tryd.checked os 6 .any (fun w args => (Rows.addrJoinsSpec.pre enc Tryd.prog Tryd.f6 [] false w args ∧ laidMetH Tryd.prog Rows.addrJoinsRow.laid w) ∧ sizedMet enc Tryd.prog Tryd.f6 (OpenSpec.ofChange Rows.addrJoinsSpec) false w args)
      (Rows.addrJoinsSpec.post enc Tryd.prog Tryd.f6 false true false false) := by
  refine Ad.wrapZ (C := Tryd.checked) (X := fun w _ => laidMetH Tryd.prog Rows.addrJoinsRow.laid w) own started (by kernel_rfl) Tryd.func6
    (ChangeSpec.witness_shaped (enc := enc) (C := Tryd.checked) (os := os) (X := fun w _ => laidMetH Tryd.prog Rows.addrJoinsRow.laid w) false (World.laidAll Tryd.prog os Rows.addrJoinsRow.laid) #[.string { data := #[] }, .string { data := #[] }] 8 (World.laidAll_os _ _ _)
      (World.shaped_of_ZipB (by kernel_rfl) (by kernel_rfl)) (by kernel_rfl) (by kernel_rfl) (by kernel_rfl)
      (by rw [MakeChecks.laidMetH_plain _ _ _ (by kernel_rfl)]; exact laidMet_laidAll _ (by kernel_rfl) (by kernel_rfl))) ?_
  intro W base args ds gs before hval0 hW shape hsz
  have hval : ∀ (j : Nat) t v, Tryd.f6.params[j]? = some t → args[j]? = some v → Value.okWide Tryd.prog W .any base t v := hval0
  have hW' := hW
  obtain ⟨p, q, hA0, hV, rfl, hfz, hnd⟩ := hW
  have hA : DataW.TrodAll enc Tryd.prog W 0 (fun _ => true) true Tryd.f6.params.toList args.toList ds p := hA0
  rw [Tryd.params6] at hA hval
  obtain ⟨v0, vs0, d0, ds0, p0, q0, hargs, rfl, rfl, h0, r0⟩ := trodAll_cons hA
  obtain ⟨v1, vs1, d1, ds1, p1, q1, rfl, rfl, rfl, h1, r1⟩ := trodAll_cons r0
  obtain ⟨rfl, rfl, rfl⟩ := trodAll_nil r1
  obtain rfl : args = #[v0, v1] := by cases args; simp_all
  obtain ⟨rfl, rfl⟩ := trodVars_none hV
  obtain ⟨a0, rfl, rfl, rfl, w0⟩ := ChangeMaps.open_string Tryd.underlying9 (hval 0 9 v0 rfl rfl) h0
  obtain ⟨a1, rfl, rfl, rfl, w1⟩ := ChangeMaps.open_string Tryd.underlying9 (hval 1 9 v1 rfl rfl) h1
  obtain ⟨m, hm⟩ := Ad.maxLen_some W shape
  clear hA0 hval0
  refine (walk a0 a1 m W (by have h := sized_string hsz (j := 0) (t := 9) (bytes := a0.data.toList) rfl rfl; rw [Array.length_toList] at h; exact h) (by have h := sized_string hsz (j := 1) (t := 9) (bytes := a1.data.toList) rfl rfl; rw [Array.length_toList] at h; exact h) hm).mono fun e W' ⟨he, bel⟩ => ?_
  subst he
  exact ⟨_, rfl, _, _, _, [], _, [], hW', trodAll_mk1 (shut_bool Tryd.underlying4 _), (trodAll_cons_mk (ChangeMaps.shut_string Tryd.underlying9 w0) (trodAll_cons_mk (ChangeMaps.shut_string Tryd.underlying9 w1) trodAll_mk0)), rfl, bel.frame _, fun h => by cases h⟩

theorem over : Rows.AddrJoinsSaid :=
  OpenClaim.holds_of_wide 6 Tryd.f6 rfl rfl rfl rfl rfl rfl rfl ⟨rfl, rfl, rfl, rfl, rfl⟩ rfl rfl rfl rfl rfl (by kernel_rfl) Tryd.func6 (by kernel_rfl)
    (of_decide_eq_true (by kernel_rfl)) (by unfold Func.isWrapper; first | (rw [if_pos (by decide +kernel)]; kernel_rfl) | (rw [if_neg (by decide +kernel)]; exact ⟨rfl, rfl⟩))
    (fun os started H enc _ => lifted os started H enc)

/-- The statement: the tied card. -/
theorem proved : Rows.AddrJoinsCardSaid :=
  Claim7.holds_tied_plain_at .later [] [.data, .pinned] true (true, "a0609c1d53fc9aaf666d257e12387fcc24d57d21a9284bf8c07a06627b287412") false over (fun _ h => by cases h) (by kernel_rfl) (fun _ h => by cases h) addrJoins_row_tie rfl ⟨rfl, rfl⟩ (by kernel_rfl) rfl
    (fun f fn hf hfn => by
      obtain rfl : f = 6 := Option.some.inj ((show Tryd.prog.funcNamed "pillarbox/pillarboxlaw05.AddrJoins" = some 6 by kernel_rfl).symm.trans hf) |>.symm
      obtain rfl : fn = Tryd.f6 := (Option.some.inj (Tryd.func6.symm.trans hfn)).symm
      exact ⟨by kernel_rfl, fun j t ht => by
        rw [Tryd.params6] at ht
        have hm : t ∈ [9, 9] := by simpa using Array.mem_of_getElem? ht
        have hall : ([9, 9].all fun u => !Tryd.prog.wantsStandIn u) = true := by kernel_rfl
        exact (show Tryd.prog.wantsStandIn t = false by simpa using List.all_eq_true.1 hall t hm)⟩)
    (by kernel_rfl)
#print axioms proved
end Go.Proofs.YtjmjcdigoblkjaaDoor.addrJoins
