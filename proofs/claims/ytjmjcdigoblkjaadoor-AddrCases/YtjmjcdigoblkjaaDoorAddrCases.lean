/-
  Proved here: for every text, AddrCases answers true: a domain's letters count alike, small or great; a local part's do not. Conditions: none (what the card lists is laid as the program's text lays it).
-/
import Derived.Test.YtjmjcdigoblkjaaDoorRows
import Derived.Test.YtjmjcdigoblkjaaDoorCards
import Derived.Test.YtjmjcdigoblkjaaDoorTie
import Derived.Test.YtjmjcdigoblkjaaDoorAns
import Derived.WalkKit
import Derived.ProofKit
import Derived.OpenShut
import Derived.ShutString
import Derived.ChangeOld
import Derived.Below
import Derived.Lay
import Derived.SevenTiedAt
import Derived.Stop.Joined
namespace Go.Proofs.YtjmjcdigoblkjaaDoor.addrCases
open Go.ChangeShapes Go.WideShapes Go.ChangeAt Go.RowKit
set_option linter.unusedVariables false

theorem own : ownKnob Tryd.prog.godebug = none := by kernel_rfl

/-! ### The walk -/
set_option maxHeartbeats 4000000 in
set_option maxRecDepth 100000 in
theorem walk (a0 : ByteArray) (m : Int) (w : World) (m0 : a0.size ≤ 140737488351232) (hm : w.cell? ⟨0, 0, none⟩ = some (.int .i64 m)) :
    Calls Tryd.prog 7 #[.string a0] w fun e w' => e = .returned (.bool true) ∧ Below w.heap.size w w' := by
  have c0 := Ad.refSplit_walk a0 (by omega)
  have c7 := Ad.ans_walk m
  cases hY : Ad.isBox a0.data.toList with
  | false =>
    rw [Ad.splitV_none hY] at c0
    go_enter Tryd.func7, Tryd.ntmps7
    go_wp2_with fail
    refine (c0 _).mono ?_
    rintro e w1 ⟨rfl, hb1⟩
    have hm1 := Ad.cell_below hm hb1
    go_wp2_with fail
    refine (c7 _ hm1).mono ?_
    rintro e w2 ⟨rfl, hb2⟩
    replace hb2 := hb1.trans (hb2.mono hb1.size)
    go_wp2
    go_ret
    exact ⟨rfl, hb2⟩
  | true =>
    obtain ⟨p1, p2, p3, p4⟩ := Ad.box_parts hY
    obtain ⟨la, hla⟩ : ∃ la, Ad.ahead a0.data.toList = la := ⟨_, rfl⟩
    obtain ⟨lb, hlb⟩ : ∃ lb, Ad.small (Ad.behind a0.data.toList) = lb := ⟨_, rfl⟩
    have hbl : lb.length = (Ad.behind a0.data.toList).length := by rw [← hlb]; simp [Ad.small]
    have hsb : Ad.small lb = lb := by rw [← hlb, Ad.small_small]
    have hdb : Ad.domain lb = true := by rw [← hlb, Ad.small, Ad.tame_lower.domain]; exact p2
    have hsp : Ad.splitV a0.data.toList = .tuple #[.string (Ad.bs la), .string (Ad.bs lb), .bool true] := by
      rw [Ad.splitV, Ad.splitM, hY, ← hla, ← hlb]
      rfl
    have hsz : ¬ (64 : Int) < (a0.size : Int) := by
      rw [Ad.len_size] at p4
      omega
    rw [hla] at p1 p3
    have hga : Ad.loc (Ad.great la) = true := by rw [Ad.great, Ad.tame_upper.loc]; exact p1
    have hgb : Ad.domain (Ad.great lb) = true := by rw [Ad.great, Ad.tame_upper.domain]; exact hdb
    have hl1 : (Ad.great la).length = la.length := by simp [Ad.great]
    have hl2 : (Ad.great lb).length = lb.length := by simp [Ad.great]
    obtain ⟨x1, y1⟩ := Ad.parse_join (a := la) (b := Ad.great lb) p1 hgb (by omega)
    obtain ⟨x2, y2⟩ := Ad.parse_join (a := la) (b := lb) p1 hdb (by omega)
    obtain ⟨x3, y3⟩ := Ad.parse_join (a := Ad.great la) (b := lb) hga hdb (by omega)
    rw [Ad.small_great, hsb] at y1
    rw [hsb] at y2 y3
    have j : ∀ a b : List UInt8, Ad.bs a ++ { data := #[64] } ++ Ad.bs b = Ad.bs (a ++ 64 :: b) := fun a b => by
      rw [show ({ data := #[64] } : ByteArray) = Ad.bs [64] from rfl, Ad.bs_append, Ad.bs_append]
      simp
    have c1 := Ad.parse_walk (Ad.bs (la ++ 64 :: Ad.great lb)) m
    have c2 := Ad.parse_walk (Ad.bs (la ++ 64 :: lb)) m
    have c3 := Ad.parse_walk (Ad.bs (Ad.great la ++ 64 :: lb)) m
    have g1 := Ad.refGreat_walk (Ad.bs la) (by rw [Ad.bs_size]; omega)
    have g2 := Ad.refGreat_walk (Ad.bs lb) (by rw [Ad.bs_size]; omega)
    rw [Ad.bs_data] at c1 c2 c3 g1 g2
    rw [Ad.parseV, x1, y1, ← j, ← j] at c1
    rw [Ad.parseV, x2, y2, ← j] at c2
    rw [Ad.parseV, x3, y3, ← j] at c3
    rw [hsp] at c0
    rw [show la.map Ad.upper = Ad.great la from rfl] at g1
    rw [show lb.map Ad.upper = Ad.great lb from rfl] at g2
    have hfin : (((Ad.bs (Ad.great la) ++ { data := #[64] } ++ Ad.bs lb).toList == (Ad.bs la ++ { data := #[64] } ++ Ad.bs lb).toList) == ((Ad.bs (Ad.great la)).toList == (Ad.bs la).toList)) = true := by
      rw [j, j, ByteArray.toList_eq, ByteArray.toList_eq, ByteArray.toList_eq, ByteArray.toList_eq, Ad.bs_data, Ad.bs_data, Ad.bs_data, Ad.bs_data, beq_iff_eq]
      by_cases e : Ad.great la = la
      · rw [e, beq_self_eq_true, beq_self_eq_true]
      · rw [beq_eq_false_iff_ne.2 e, beq_eq_false_iff_ne]
        exact fun e2 => e (List.append_inj_left' e2 rfl)
    have s1 : (Ad.bs la).size ≤ 64 := by rw [Ad.bs_size]; omega
    have s2 : (Ad.bs lb).size ≤ 64 := by rw [Ad.bs_size]; omega
    have s3 : (Ad.bs (Ad.great la)).size ≤ 64 := by rw [Ad.bs_size]; omega
    have s4 : (Ad.bs (Ad.great lb)).size ≤ 64 := by rw [Ad.bs_size]; omega
    clear hY p1 p2 p3 p4 hla hlb hbl hsb hdb hsp hga hgb hl1 hl2 x1 y1 x2 y2 x3 y3 j
    generalize Ad.bs la = A at *
    generalize Ad.bs lb = B at *
    generalize Ad.bs (Ad.great la) = GA at *
    generalize Ad.bs (Ad.great lb) = GB at *
    go_enter Tryd.func7, Tryd.ntmps7
    go_wp2_with fail
    refine (c0 _).mono ?_
    rintro e w1 ⟨rfl, hb1⟩
    have hm1 := Ad.cell_below hm hb1
    go_wp2_with fail
    refine (g2 _).mono ?_
    rintro e w2 ⟨rfl, hb2⟩
    have hm2 := Ad.cell_below hm1 hb2
    replace hb2 := hb1.trans (hb2.mono hb1.size)
    clear hb1
    go_wp2_with fail
    refine (c1 _ hm2).mono ?_
    rintro e w3 ⟨rfl, hb3⟩
    have hm3 := Ad.cell_below hm2 hb3
    replace hb3 := hb2.trans (hb3.mono hb2.size)
    clear hb2
    go_wp2_with fail
    refine (c2 _ hm3).mono ?_
    rintro e w4 ⟨rfl, hb4⟩
    have hm4 := Ad.cell_below hm3 hb4
    replace hb4 := hb3.trans (hb4.mono hb3.size)
    clear hb3
    go_wp2_with fail
    refine (g1 _).mono ?_
    rintro e w5 ⟨rfl, hb5⟩
    have hm5 := Ad.cell_below hm4 hb5
    replace hb5 := hb4.trans (hb5.mono hb4.size)
    clear hb4
    go_wp2_with fail
    refine (c3 _ hm5).mono ?_
    rintro e w6 ⟨rfl, hb6⟩
    have hm6 := Ad.cell_below hm5 hb6
    replace hb6 := hb5.trans (hb6.mono hb5.size)
    clear hb5
    go_wp2_with fail
    refine (c7 _ hm6).mono ?_
    rintro e w7 ⟨rfl, hb7⟩
    have hm7 := Ad.cell_below hm6 hb7
    replace hb7 := hb6.trans (hb7.mono hb6.size)
    clear hb6
    go_wp2_with fail
    refine (g1 _).mono ?_
    rintro e w8 ⟨rfl, hb8⟩
    replace hb8 := hb7.trans (hb8.mono hb7.size)
    clear hb7
    go_wp2
    go_ret
    exact ⟨by simp, hb8⟩

/-! ### The row's step -/
set_option maxRecDepth 100000 in
theorem lifted (os : Os) (started : os.Started) (H : Type) (enc : TypeId × Value → H) :
    ReturnsInHanded {} Tryd.checked os 7 .any (fun w args => (Rows.addrCasesSpec.pre enc Tryd.prog Tryd.f7 [] false w args ∧ laidMetH Tryd.prog Rows.addrCasesRow.laid w) ∧ sizedMet enc Tryd.prog Tryd.f7 (OpenSpec.ofChange Rows.addrCasesSpec) false w args)
      (Rows.addrCasesSpec.post enc Tryd.prog Tryd.f7 false true false false) := by
  refine Ad.wrapZ (C := Tryd.checked) (X := fun w _ => laidMetH Tryd.prog Rows.addrCasesRow.laid w) own started (by kernel_rfl) Tryd.func7
    (ChangeSpec.witness_shaped (enc := enc) (C := Tryd.checked) (os := os) (X := fun w _ => laidMetH Tryd.prog Rows.addrCasesRow.laid w) false (World.laidAll Tryd.prog os Rows.addrCasesRow.laid) #[.string { data := #[] }] 8 (World.laidAll_os _ _ _)
      (World.shaped_of_ZipB (by kernel_rfl) (by kernel_rfl)) (by kernel_rfl) (by kernel_rfl) (by kernel_rfl)
      (by rw [MakeChecks.laidMetH_plain _ _ _ (by kernel_rfl)]; exact laidMet_laidAll _ (by kernel_rfl) (by kernel_rfl))) ?_
  intro W base args ds gs before hval0 hW shape hsz
  have hval : ∀ (j : Nat) t v, Tryd.f7.params[j]? = some t → args[j]? = some v → Value.okWide Tryd.prog W .any base t v := hval0
  have hW' := hW
  obtain ⟨p, q, hA0, hV, rfl, hfz, hnd⟩ := hW
  have hA : DataW.TrodAll enc Tryd.prog W 0 (fun _ => true) true Tryd.f7.params.toList args.toList ds p := hA0
  rw [Tryd.params7] at hA hval
  obtain ⟨v0, vs0, d0, ds0, p0, q0, hargs, rfl, rfl, h0, r0⟩ := trodAll_cons hA
  obtain ⟨rfl, rfl, rfl⟩ := trodAll_nil r0
  obtain rfl : args = #[v0] := by cases args; simp_all
  obtain ⟨rfl, rfl⟩ := trodVars_none hV
  obtain ⟨a0, rfl, rfl, rfl, w0⟩ := ChangeMaps.open_string Tryd.underlying9 (hval 0 9 v0 rfl rfl) h0
  obtain ⟨m, hm⟩ := Ad.maxLen_some W shape
  clear hA0 hval0
  refine (walk a0 m W (by have h := sized_string hsz (j := 0) (t := 9) (bytes := a0.data.toList) rfl rfl; rw [Array.length_toList] at h; exact h) hm).mono fun e W' ⟨he, bel⟩ => ?_
  subst he
  exact ⟨_, rfl, _, _, _, [], _, [], hW', trodAll_mk1 (shut_bool Tryd.underlying4 _), (trodAll_cons_mk (ChangeMaps.shut_string Tryd.underlying9 w0) trodAll_mk0), rfl, bel.frame _, fun h => by cases h⟩

theorem over : Rows.AddrCasesSaid :=
  OpenClaim.holds_of_wide 7 Tryd.f7 rfl rfl rfl rfl rfl rfl rfl ⟨rfl, rfl, rfl, rfl, rfl⟩ rfl rfl rfl rfl rfl (by kernel_rfl) Tryd.func7 (by kernel_rfl)
    (of_decide_eq_true (by kernel_rfl)) (by unfold Func.isWrapper; first | (rw [if_pos (by decide +kernel)]; kernel_rfl) | (rw [if_neg (by decide +kernel)]; exact ⟨rfl, rfl⟩))
    (fun os started H enc _ => lifted os started H enc)

/-- The statement: the tied card. -/
theorem proved : Rows.AddrCasesCardSaid :=
  Claim7.holds_tied_plain_at .later [] [.data, .pinned] true (true, "a0609c1d53fc9aaf666d257e12387fcc24d57d21a9284bf8c07a06627b287412") false over (fun _ h => by cases h) (by kernel_rfl) (fun _ h => by cases h) addrCases_row_tie rfl ⟨rfl, rfl⟩ (by kernel_rfl) rfl
    (fun f fn hf hfn => by
      obtain rfl : f = 7 := Option.some.inj ((show Tryd.prog.funcNamed "pillarbox/pillarboxlaw05.AddrCases" = some 7 by kernel_rfl).symm.trans hf) |>.symm
      obtain rfl : fn = Tryd.f7 := (Option.some.inj (Tryd.func7.symm.trans hfn)).symm
      exact ⟨by kernel_rfl, fun j t ht => by
        rw [Tryd.params7] at ht
        have hm : t ∈ [9] := by simpa using Array.mem_of_getElem? ht
        have hall : ([9].all fun u => !Tryd.prog.wantsStandIn u) = true := by kernel_rfl
        exact (show Tryd.prog.wantsStandIn t = false by simpa using List.all_eq_true.1 hall t hm)⟩)
    (by kernel_rfl)
#print axioms proved
end Go.Proofs.YtjmjcdigoblkjaaDoor.addrCases
