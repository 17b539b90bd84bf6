/-
  What the document's 'Do' returns and does: rename, dirsync.
-/
import Derived.Test.YtgjkocjgkbjciaaRefD
namespace Go.Proofs.Ytgjkocjgkbjciaa.Fs
open Go.RowKit Go.Maps
set_option linter.unusedVariables false
set_option linter.unusedSimpArgs false


set_option maxHeartbeats 4000000 in
set_option maxRecDepth 100000 in
theorem refRename (r : Nat) (T : Nat → Prop) (s : St) (hb : s.bulk + 2 ≤ 1000000) (A B : ByteArray) (hA : A.size ≤ 9223372036854775807) (hB : B.size ≤ 9223372036854775807) (v5 : Value) (w : World) (h : Ref w T r s) :
    Calls Try.prog 15 #[.pointer (some ⟨r, 0, none⟩), .int .i64 4, .string A, .string B, v5] w (RW w T r (renameS s (nm A) (nm B)) (renameE s (nm A) (nm B))) := by
  have HGd := Lib.hid (show Good (renameS s (nm A) (nm B)) from by have := do_good h.2.1 ⟨4, 0, 0, A, B, []⟩ hb (by simp); simpa [doS] using this)
  have HRd := Lib.hid (show Rising (renameS s (nm A) (nm B)).sure from by have := do_rising h.2.2 ⟨4, 0, 0, A, B, []⟩; simpa [doS] using this)
  have cN := refName A hA w
  have cM := refName B hB w
  have cH := refHas r T s A w h
  have HRf := Lib.hid h
  obtain ⟨⟨vs, vl, vf, fl, hp⟩, hG, hRi⟩ := h
  have c5 := hp.fs.cell 5
  simp at c5
  obtain ⟨V, hV⟩ : ∃ V, V = isNm (nm A) := ⟨_, rfl⟩
  rw [← hV] at cN
  obtain ⟨U, hU⟩ : ∃ U, U = isNm (nm B) := ⟨_, rfl⟩
  rw [← hU] at cM
  obtain ⟨D, hD⟩ : ∃ D, D = s.down := ⟨_, rfl⟩
  rw [← hD] at c5
  have HV := Lib.hid hV
  have HU := Lib.hid hU
  have HD := Lib.hid hD
  have HP := Lib.hid hp
  have HG := Lib.hid hG
  have HRi := Lib.hid hRi
  clear hV hU hD hp hG hRi
  cases V
  · have RD : Hid (readyE s [nm A, nm B] = 1) := by show _ = _; simp [readyE, ← HV.out]
    go_enter Try.func15, Try.ntmps15
    go_wp2_with (first | (go_at_call 17; refine cN.mono ?_; rintro e w' ⟨rfl, rfl⟩))
    go_ret
    have e1 : renameE s (nm A) (nm B) = 1 := by simp [renameE, RD.out]
    have e2 : renameS s (nm A) (nm B) = s := by simp [renameS, RD.out]
    rw [e1, e2]
    exact RW.same HRf.out (Keep.refl _ _)
  · cases U
    · have RD : Hid (readyE s [nm A, nm B] = 1) := by show _ = _; simp [readyE, ← HV.out, ← HU.out]
      go_enter Try.func15, Try.ntmps15
      go_wp2_with fail
      refine cN.mono ?_
      rintro e w' ⟨rfl, rfl⟩
      go_wp2_with fail
      refine cM.mono ?_
      rintro e w' ⟨rfl, rfl⟩
      go_wp2
      go_ret
      have e1 : renameE s (nm A) (nm B) = 1 := by simp [renameE, RD.out]
      have e2 : renameS s (nm A) (nm B) = s := by simp [renameS, RD.out]
      rw [e1, e2]
      exact RW.same HRf.out (Keep.refl _ _)
    · cases D
      · have RD : Hid (readyE s [nm A, nm B] = 0) := by show _ = _; simp [readyE, ← HV.out, ← HU.out, ← HD.out]
        rcases hget : get s.now (nm A) with _ | i
        · rw [hget] at cH
          simp only [hasI] at cH
          have HGe := Lib.hid hget
          clear hget
          go_enter Try.func15, Try.ntmps15
          go_wp2_with fail
          refine cN.mono ?_
          rintro e w' ⟨rfl, rfl⟩
          go_wp2_with fail
          refine cM.mono ?_
          rintro e w' ⟨rfl, rfl⟩
          go_wp2_with fail
          refine cH.mono ?_
          rintro e w1 ⟨rfl, k1⟩
          have HK1 := Lib.hid k1
          clear k1 cH cN cM
          go_wp2
          go_ret
          have e1 : renameE s (nm A) (nm B) = 4 := by simp [renameE, RD.out, HGe.out]
          have e2 : renameS s (nm A) (nm B) = s := by simp [renameS, RD.out, HGe.out]
          rw [e1, e2]
          exact RW.same HRf.out HK1.out
        · rw [hget] at cH
          simp only [hasI] at cH
          have HGe := Lib.hid hget
          clear hget
          have hE : Hid (renameE s (nm A) (nm B) = burnE s) := by show _ = _; simp [renameE, RD.out, HGe.out]
          rcases burnE_cases s with hB | hB
          · by_cases hab : A = B
            · have hq : (A.toList == B.toList) = true := by simp [hab]
              have e2 : Hid (renameS s (nm A) (nm B) = burnS s) := by show _ = _; rw [hab]; rw [hab] at RD HGe; simp [renameS, RD.out, HGe.out]
              clear hab
              go_enter Try.func15, Try.ntmps15
              go_wp2_with fail
              refine cN.mono ?_
              rintro e w' ⟨rfl, rfl⟩
              go_wp2_with fail
              refine cM.mono ?_
              rintro e w' ⟨rfl, rfl⟩
              go_wp2_with fail
              refine cH.mono ?_
              rintro e w1 ⟨rfl, k1⟩
              have HK1 := Lib.hid k1
              clear k1 cH cN cM
              go_wp2
              go_region
              have HPq : Hid (RP w1.drew T r s vs vl vf fl) := HP.out.keep (HK1.out.drew) (fun _ _ h => h)
              have cP := refPower r T s vs vl vf fl w1.drew HPq.out HG.out
              rw [hB] at cP
              have HB := Lib.hid hB
              clear hB c5
              go_wp2_with fail
              refine cP.mono ?_
              rintro e w2 ⟨rfl, hp2, k2, z2⟩
              have HP2 := Lib.hid hp2
              have HK2 : Hid (Keep (· = r) w w2) := ((HK1.out.drew).mono (fun _ _ h => h.elim)).trans k2 (fun _ _ h => h)
              have HZ2 := Lib.hid z2
              clear hp2 k2 z2 cP
              go_wp2
              go_ret
              rw [hE.out, HB.out, e2.out]
              exact RW.burnt HP2.out HG.out HRi.out HK2.out
            · have hq : (A.toList == B.toList) = false := toList_ne hab
              have e2 : Hid (renameS s (nm A) (nm B) = chgS s (.ren (nm A) (nm B))) := by show _ = _; simp [renameS, RD.out, HGe.out]; exact fun e => absurd (nm_inj e) hab
              clear hab
              go_enter Try.func15, Try.ntmps15
              go_wp2_with fail
              refine cN.mono ?_
              rintro e w' ⟨rfl, rfl⟩
              go_wp2_with fail
              refine cM.mono ?_
              rintro e w' ⟨rfl, rfl⟩
              go_wp2_with fail
              refine cH.mono ?_
              rintro e w1 ⟨rfl, k1⟩
              have HK1 := Lib.hid k1
              clear k1 cH cN cM
              go_wp2
              go_region
              have HPq : Hid (RP w1.drew T r s vs vl vf fl) := HP.out.keep (HK1.out.drew) (fun _ _ h => h)
              have cP := refPower r T s vs vl vf fl w1.drew HPq.out HG.out
              rw [hB] at cP
              have HB := Lib.hid hB
              clear hB c5
              go_wp2_with fail
              refine cP.mono ?_
              rintro e w2 ⟨rfl, hp2, k2, z2⟩
              have HP2 := Lib.hid hp2
              have HK2 : Hid (Keep (· = r) w w2) := ((HK1.out.drew).mono (fun _ _ h => h.elim)).trans k2 (fun _ _ h => h)
              have HZ2 := Lib.hid z2
              clear hp2 k2 z2 cP
              have c1 := HP2.out.fs.cell 1
              obtain ⟨xl, cl, hvl, hcl, _⟩ := ownsRow_shape HP2.out.loose.1
              simp at c1
              have hnl : (burnS s).loose.length ≤ 1000000 := by have h1 := (burn_good HG.out).bulk; unfold St.bulk at h1; omega
              have HNL := Lib.hid hnl
              have HR3 : Hid (Row (w2.alloc (.cells #[.int .i64 2, .string A, .string B, .int .i64 0] 71)) T 71 4 vl (burnS s).loose.length (chgCells (burnS s).loose)) := HP2.out.loose.keep ((Keep.refl (fun _ => False) w2).alloc _) (fun _ _ _ _ h => h)
              have hA3 := HP2.out.fs.alloc (.cells #[.int .i64 2, .string A, .string B, .int .i64 0] 71)
              have HA3 := Lib.hid hA3
              have hlt2 := HP2.out.fs.lt
              clear hA3 hnl hvl hcl
              go_wp2_with (refine wpList_append_row (by rfl) (.tmp 154) (.tmp 158) 28 71 (by rfl) _ 4 48 Try.underlying28 info71 rfl (by omega) vl _ _ rfl HR3.out ⟨w2.heap.size, 0, none⟩ 1 1 [.int .i64 2, .string A, .string B, .int .i64 0] rfl rfl (new_cells [.int .i64 2, .string A, .string B, .int .i64 0]) (by simp; (repeat' constructor)) (by have := HNL.out; omega) (by have := HNL.out; omega) ?_
                           intro y5 n5 cap5 w5 HN5 hR5 k5 hN5
                           have hA5 := HA3.out.keep k5 (fun e => by
                             obtain ⟨cs', h'⟩ := owns_at HP2.out.loose.1 e
                             exact At.ne HP2.out.fs h' (by decide) rfl)
                           have c51 := hA5.cell 1
                           have f51 := hA5.frozen 1
                           simp at c51
                           have HR5 := Lib.hid hR5
                           have HK5 := Lib.hid k5
                           clear hR5 k5 hN5 hA5)
              go_ret
              have e1 : renameE s (nm A) (nm B) = 0 := hE.out.trans HB.out
              have e2 := e2.out
              have hR5 : Row w5 (Up T (w2.alloc (.cells [.int .i64 2, .string A, .string B, .int .i64 0].toArray 71)) w5) 71 4 (.slice y5 n5 cap5) ((burnS s).loose.length + 1) (chgCells (burnS s).loose ++ chgL (.ren (nm A) (nm B))) := by
                have hc : chgL (.ren (nm A) (nm B)) = [.int .i64 2, .string A, .string B, .int .i64 0] := by unfold chgL; simp only [kindOf, fromOf, toOf, fileOf, sm_nm]
                rw [hc]
                exact HR5.out
              obtain ⟨hq, kq⟩ := HP2.out.grown hR5 HK5.out
              have hw2 := HK2.out.size
              have hst : { burnS s with loose := (burnS s).loose ++ [(.ren (nm A) (nm B))] } = chgS s (.ren (nm A) (nm B)) := by unfold chgS; rw [HB.out, burn_loose]; rfl
              rw [hst] at hq
              have hgd := HGd.out
              have hrd := HRd.out
              rw [e2] at hgd hrd
              rw [e1, e2]
              refine ⟨rfl, ⟨⟨_, _, _, _, hq.mono (fun b _ h => ?_)⟩, hgd, hrd⟩, ?_⟩
              · rcases h with h | ⟨h1, h2⟩
                · exact .inl h
                · exact .inr ⟨by omega, h2⟩
              · exact (HK2.out.mono (T := T) (fun b _ e => by rw [e]; exact HP2.out.inT)).trans (kq.mono (T := T) (fun b _ h => by
                  rcases h with h | h
                  · exact HP2.out.loose.2 b h
                  · rw [h]; exact HP2.out.inT)) (fun _ _ h => h)
          · go_enter Try.func15, Try.ntmps15
            go_wp2_with fail
            refine cN.mono ?_
            rintro e w' ⟨rfl, rfl⟩
            go_wp2_with fail
            refine cM.mono ?_
            rintro e w' ⟨rfl, rfl⟩
            go_wp2_with fail
            refine cH.mono ?_
            rintro e w1 ⟨rfl, k1⟩
            have HK1 := Lib.hid k1
            clear k1 cH cN cM
            go_wp2
            go_region
            have HPq : Hid (RP w1.drew T r s vs vl vf fl) := HP.out.keep (HK1.out.drew) (fun _ _ h => h)
            have cP := refPower r T s vs vl vf fl w1.drew HPq.out HG.out
            rw [hB] at cP
            have HB := Lib.hid hB
            clear hB c5
            go_wp2_with fail
            refine cP.mono ?_
            rintro e w2 ⟨rfl, hp2, k2, z2⟩
            have HP2 := Lib.hid hp2
            have HK2 : Hid (Keep (· = r) w w2) := ((HK1.out.drew).mono (fun _ _ h => h.elim)).trans k2 (fun _ _ h => h)
            have HZ2 := Lib.hid z2
            clear hp2 k2 z2 cP
            go_wp2
            go_ret
            have e2 : renameS s (nm A) (nm B) = burnS s := by
              unfold renameS
              rw [RD.out, HGe.out]
              simp only [ne_eq, not_true_eq_false, if_false, Option.isSome_some, if_true]
              split
              · rfl
              · unfold chgS
                rw [if_neg (by rw [HB.out]; decide)]
            rw [hE.out, HB.out, e2]
            exact RW.burnt HP2.out HG.out HRi.out HK2.out
      · have RD : Hid (readyE s [nm A, nm B] = 2) := by show _ = _; simp [readyE, ← HV.out, ← HU.out, ← HD.out]
        go_enter Try.func15, Try.ntmps15
        go_wp2_with fail
        refine cN.mono ?_
        rintro e w' ⟨rfl, rfl⟩
        go_wp2_with fail
        refine cM.mono ?_
        rintro e w' ⟨rfl, rfl⟩
        go_wp2
        go_ret
        have e1 : renameE s (nm A) (nm B) = 2 := by simp [renameE, RD.out]
        have e2 : renameS s (nm A) (nm B) = s := by simp [renameS, RD.out]
        rw [e1, e2]
        exact RW.same HRf.out (Keep.refl _ _)

set_option maxHeartbeats 4000000 in
set_option maxRecDepth 100000 in
theorem refDirSync (r : Nat) (T : Nat → Prop) (s : St) (hb : s.bulk + 2 ≤ 1000000) (A B : ByteArray) (v5 : Value) (w : World) (h : Ref w T r s) :
    Calls Try.prog 15 #[.pointer (some ⟨r, 0, none⟩), .int .i64 6, .string A, .string B, v5] w (RW w T r (dirSyncS s) (dirSyncE s)) := by
  have HGd := Lib.hid (show Good (dirSyncS s) from by have := do_good h.2.1 ⟨6, 0, 0, A, B, []⟩ hb (by simp); simpa [doS] using this)
  have HRd := Lib.hid (show Rising (dirSyncS s).sure from by have := do_rising h.2.2 ⟨6, 0, 0, A, B, []⟩; simpa [doS] using this)
  have HRf := Lib.hid h
  obtain ⟨⟨vs, vl, vf, fl, hp⟩, hG, hRi⟩ := h
  have c5 := hp.fs.cell 5
  simp at c5
  obtain ⟨D, hD⟩ : ∃ D, D = s.down := ⟨_, rfl⟩
  rw [← hD] at c5
  have HD := Lib.hid hD
  have HP := Lib.hid hp
  have HG := Lib.hid hG
  have HRi := Lib.hid hRi
  clear hD hp hG hRi
  cases D
  · rcases burnE_cases s with hB | hB
    · have cP := refPower r T s vs vl vf fl w HP.out HG.out
      rw [hB] at cP
      have HB := Lib.hid hB
      clear hB
      go_enter Try.func15, Try.ntmps15
      go_wp2_with fail
      refine cP.mono ?_
      rintro e w2 ⟨rfl, hp2, k2, z2⟩
      have HP2 := Lib.hid hp2
      have HK2 := Lib.hid k2
      have cD := refDir r T (burnS s) w2 ⟨⟨vs, vl, vf, fl, hp2⟩, burn_good HG.out, by rw [burn_sure]; exact HRi.out⟩
      clear hp2 k2 z2 cP c5
      go_wp2_with fail
      refine cD.mono ?_
      rintro e w3 ⟨u, rfl, hR3, k3⟩
      have hA3 := HP2.out.fs.keep k3 (fun h => h)
      have c0 := hA3.cell 0
      have c1 := hA3.cell 1
      have f0 := hA3.frozen 0
      have f1 := hA3.frozen 1
      have hlt3 := hA3.lt
      simp at c0 c1
      have HA3 := Lib.hid hA3
      have HR3 := Lib.hid hR3
      have HK3 := Lib.hid k3
      obtain ⟨xu, cu, hu, _⟩ := ownsRow_shape hR3.1
      subst hu
      clear hA3 hR3 k3 cD
      go_wp2
      go_ret
      have e1 : dirSyncE s = 0 := by unfold dirSyncE; rw [← HD.out, HB.out]; rfl
      have e2 : dirSyncS s = settleS (burnS s) s.loose.length := by unfold dirSyncS; rw [← HD.out, HB.out]; rfl
      have hgd := HGd.out
      have hrd := HRd.out
      rw [e2] at hgd hrd
      rw [e1, e2]
      obtain ⟨W, hW⟩ : ∃ W, W = (w3.setCell ⟨r, 0, none⟩ (.slice xu (ents (burnS s).now).length cu)).setCell ⟨r, 1, none⟩ (.slice none 0 0) := ⟨_, rfl⟩
      have hAW : At W r 31 #[.slice xu (ents (burnS s).now).length cu, .slice none 0 0, vf, .int .i64 ((burnS s).room : Int), .int .i64 (fuseI (burnS s)), .bool (burnS s).down] := by
        rw [hW]
        exact (HA3.out.put 0 _).put 1 _
      have kW : Keep (· = r) w3 W := by
        rw [hW]
        exact ((Keep.refl (· = r) w3).setCell (p := ⟨r, 0, none⟩) (fun _ => rfl) _).setCell (p := ⟨r, 1, none⟩) (fun _ => rfl) _
      have hr31 : ∀ {t : TypeId} {b : Nat} {cs : Array Value}, t ≠ 31 → At w3 b t cs → ¬ (b = r) := fun h1 hb e => by
        subst e
        exact At.ne hb HA3.out h1 rfl
      have hp3 := (HP2.out.keep HK3.out (fun _ _ h => h))
      have hsz : w3.heap.size = W.heap.size := by rw [hW]; simp [World.setCell]
      have hnow : (settleS (burnS s) s.loose.length).sure = (burnS s).now := by
        show ((burnS s).loose.take s.loose.length).foldl app (burnS s).sure = _
        rw [burn_loose, List.take_length]
        unfold St.now
        rw [burn_loose]
      have hw2 := HK2.out.size
      have hfin : RP W (Up T w W) r (settleS (burnS s) s.loose.length) (.slice xu (ents (burnS s).now).length cu) (.slice none 0 0) vf fl := by
        refine ⟨hAW, .inl hp3.inT, ?_, Row.nil _ _ _ _, ?_, hp3.same, fun p hp => ⟨(hp3.own p hp).1.keep kW (fun b hb => ?_), fun b hb => .inl ((hp3.own p hp).2 b hb)⟩⟩
        · rw [hnow]
          refine (HR3.out.keep kW (fun b cs _ hb => hr31 (by decide) hb)).mono (fun b _ h => ?_)
          rcases h with h | ⟨h1, h2⟩
          · exact .inl h
          · exact .inr ⟨by omega, by omega⟩
        · exact (hp3.files.keep kW (fun b cs _ hb => hr31 (by decide) hb)).mono (fun b _ h => .inl h)
        · obtain ⟨cs, h5⟩ := owns_at (hp3.own p hp).1.1 hb
          exact hr31 (by decide) h5
      rw [← hW]
      refine ⟨rfl, ⟨⟨_, _, _, _, hfin⟩, hgd, hrd⟩, ?_⟩
      have k1 := (HK2.out.mono (T := T) (fun b _ e => by rw [e]; exact HP2.out.inT)).trans (HK3.out.mono (T := T) (fun _ _ h => h.elim)) (fun _ _ h => h)
      exact k1.trans (kW.mono (T := T) (fun b _ e => by rw [e]; exact HP2.out.inT)) (fun _ _ h => h)
    · have cP := refPower r T s vs vl vf fl w HP.out HG.out
      rw [hB] at cP
      have HB := Lib.hid hB
      clear hB
      go_enter Try.func15, Try.ntmps15
      go_wp2_with fail
      refine cP.mono ?_
      rintro e w2 ⟨rfl, hp2, k2, z2⟩
      have HP2 := Lib.hid hp2
      have HK2 := Lib.hid k2
      clear hp2 k2 z2 cP
      go_wp2
      go_ret
      have e1 : dirSyncE s = 2 := by unfold dirSyncE; rw [← HD.out, HB.out]; rfl
      have e2 : dirSyncS s = burnS s := by unfold dirSyncS; rw [← HD.out, HB.out]; rfl
      rw [e1, e2]
      exact RW.burnt HP2.out HG.out HRi.out HK2.out
  · go_enter Try.func15, Try.ntmps15
    go_wp2
    go_ret
    have e1 : dirSyncE s = 2 := by unfold dirSyncE; rw [← HD.out]; rfl
    have e2 : dirSyncS s = s := by unfold dirSyncS; rw [← HD.out]; rfl
    rw [e1, e2]
    exact RW.same HRf.out (Keep.refl _ _)

end Go.Proofs.Ytgjkocjgkbjciaa.Fs
