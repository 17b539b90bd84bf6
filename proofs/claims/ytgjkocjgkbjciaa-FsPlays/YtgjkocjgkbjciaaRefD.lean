/-
  What the document's 'Do' returns and does: unlink, rename, dirsync.
-/
import Derived.Test.YtgjkocjgkbjciaaRefC
namespace Go.Proofs.Ytgjkocjgkbjciaa.Fs
open Go.RowKit Go.Maps
set_option linter.unusedVariables false
set_option linter.unusedSimpArgs false


set_option maxHeartbeats 4000000 in
set_option maxRecDepth 100000 in
theorem refUnlink (r : Nat) (T : Nat → Prop) (s : St) (hb : s.bulk + 2 ≤ 1000000) (A B : ByteArray) (hA : A.size ≤ 9223372036854775807) (v5 : Value) (w : World) (h : Ref w T r s) :
    Calls Try.prog 15 #[.pointer (some ⟨r, 0, none⟩), .int .i64 5, .string A, .string B, v5] w (RW w T r (unlinkS s (nm A)) (unlinkE s (nm A))) := by
  have HGd := Lib.hid (show Good (unlinkS s (nm A)) from by have := do_good h.2.1 ⟨5, 0, 0, A, B, []⟩ hb (by simp); simpa [doS] using this)
  have HRd := Lib.hid (show Rising (unlinkS s (nm A)).sure from by have := do_rising h.2.2 ⟨5, 0, 0, A, B, []⟩; simpa [doS] using this)
  have cN := refName A hA w
  have cH := refHas r T s A w h
  have HRf := Lib.hid h
  obtain ⟨⟨vs, vl, vf, fl, hp⟩, hG, hRi⟩ := h
  have c5 := hp.fs.cell 5
  simp at c5
  obtain ⟨V, hV⟩ : ∃ V, V = isNm (nm A) := ⟨_, rfl⟩
  rw [← hV] at cN
  obtain ⟨D, hD⟩ : ∃ D, D = s.down := ⟨_, rfl⟩
  rw [← hD] at c5
  have HV := Lib.hid hV
  have HD := Lib.hid hD
  have HP := Lib.hid hp
  have HG := Lib.hid hG
  have HRi := Lib.hid hRi
  clear hV hD hp hG hRi
  cases V
  · have RD : Hid (readyE s [nm A] = 1) := by show _ = _; simp [readyE, ← HV.out]
    go_enter Try.func15, Try.ntmps15
    go_wp2_with (first | (go_at_call 17; refine cN.mono ?_; rintro e w' ⟨rfl, rfl⟩))
    go_ret
    have e1 : unlinkE s (nm A) = 1 := by simp [unlinkE, findE, RD.out]
    have e2 : unlinkS s (nm A) = s := by simp [unlinkS, findE, RD.out]
    rw [e1, e2]
    exact RW.same HRf.out (Keep.refl _ _)
  · cases D
    · have RD : Hid (readyE s [nm A] = 0) := by show _ = _; simp [readyE, ← HV.out, ← HD.out]
      rcases hget : get s.now (nm A) with _ | i
      · rw [hget] at cH
        simp only [hasI] at cH
        have HGe := Lib.hid hget
        clear hget
        go_enter Try.func15, Try.ntmps15
        go_wp2_with (first | (go_at_call 17; refine cN.mono ?_; rintro e w' ⟨rfl, rfl⟩))
        refine cH.mono ?_
        rintro e w1 ⟨rfl, k1⟩
        have HK1 := Lib.hid k1
        clear k1 cH cN
        go_wp2
        go_ret
        have e1 : unlinkE s (nm A) = 4 := by simp [unlinkE, findE, RD.out, HGe.out]
        have e2 : unlinkS s (nm A) = s := by simp [unlinkS, findE, RD.out, HGe.out]
        rw [e1, e2]
        exact RW.same HRf.out HK1.out
      · rw [hget] at cH
        simp only [hasI] at cH
        have HGe := Lib.hid hget
        clear hget
        have FE : Hid (findE s (nm A) = 0) := by show _ = _; simp [findE, RD.out, HGe.out]
        have e2 : Hid (unlinkS s (nm A) = chgS s (.unl (nm A))) := by show _ = _; simp [unlinkS, FE.out]
        rcases burnE_cases s with hB | hB
        · go_enter Try.func15, Try.ntmps15
          go_wp2_with (first | (go_at_call 17; refine cN.mono ?_; rintro e w' ⟨rfl, rfl⟩))
          refine cH.mono ?_
          rintro e w1 ⟨rfl, k1⟩
          have HK1 := Lib.hid k1
          clear k1 cH cN
          go_wp2
          go_region
          have HPq : Hid (RP w1.drew T r s vs vl vf fl) := HP.out.keep (HK1.out.drew) (fun _ _ h => h)
          have cP := refPower r T s vs vl vf fl w1.drew HPq.out HG.out
          rw [hB] at cP
          have HB := Lib.hid hB
          clear hB c5
          go_wp2_with fail
          refine cP.mono ?_
          rintro e w2 ⟨rfl, hp2, k2, z2⟩
          have HP2 := Lib.hid hp2
          have HK2 : Hid (Keep (· = r) w w2) := ((HK1.out.drew).mono (fun _ _ h => h.elim)).trans k2 (fun _ _ h => h)
          have HZ2 := Lib.hid z2
          clear hp2 k2 z2 cP
          have c1 := HP2.out.fs.cell 1
          obtain ⟨xl, cl, hvl, hcl, _⟩ := ownsRow_shape HP2.out.loose.1
          simp at c1
          have hnl : (burnS s).loose.length ≤ 1000000 := by have h1 := (burn_good HG.out).bulk; unfold St.bulk at h1; omega
          have HNL := Lib.hid hnl
          have HR3 : Hid (Row (w2.alloc (.cells #[.int .i64 3, .string A, .string ⟨#[]⟩, .int .i64 0] 71)) T 71 4 vl (burnS s).loose.length (chgCells (burnS s).loose)) := HP2.out.loose.keep ((Keep.refl (fun _ => False) w2).alloc _) (fun _ _ _ _ h => h)
          have hA3 := HP2.out.fs.alloc (.cells #[.int .i64 3, .string A, .string ⟨#[]⟩, .int .i64 0] 71)
          have HA3 := Lib.hid hA3
          have hlt2 := HP2.out.fs.lt
          clear hA3 hnl hvl hcl
          go_wp2_with (refine wpList_append_row (by rfl) (.tmp 168) (.tmp 171) 28 71 (by rfl) _ 4 48 Try.underlying28 info71 rfl (by omega) vl _ _ rfl HR3.out ⟨w2.heap.size, 0, none⟩ 1 1 [.int .i64 3, .string A, .string ⟨#[]⟩, .int .i64 0] rfl rfl (new_cells [.int .i64 3, .string A, .string ⟨#[]⟩, .int .i64 0]) (by simp; (repeat' constructor)) (by have := HNL.out; omega) (by have := HNL.out; omega) ?_
                       intro y5 n5 cap5 w5 HN5 hR5 k5 hN5
                       have hA5 := HA3.out.keep k5 (fun e => by
                         obtain ⟨cs', h'⟩ := owns_at HP2.out.loose.1 e
                         exact At.ne HP2.out.fs h' (by decide) rfl)
                       have c51 := hA5.cell 1
                       have f51 := hA5.frozen 1
                       simp at c51
                       have HR5 := Lib.hid hR5
                       have HK5 := Lib.hid k5
                       clear hR5 k5 hN5 hA5)
          go_ret
          have e1 : unlinkE s (nm A) = 0 := by simp [unlinkE, FE.out, HB.out]
          have e2 := e2.out
          have hR5 : Row w5 (Up T (w2.alloc (.cells [.int .i64 3, .string A, .string ⟨#[]⟩, .int .i64 0].toArray 71)) w5) 71 4 (.slice y5 n5 cap5) ((burnS s).loose.length + 1) (chgCells (burnS s).loose ++ chgL (.unl (nm A))) := by
            have hc : chgL (.unl (nm A)) = [.int .i64 3, .string A, .string ⟨#[]⟩, .int .i64 0] := by unfold chgL; simp only [kindOf, fromOf, toOf, fileOf, sm_nm]; rfl
            rw [hc]
            exact HR5.out
          obtain ⟨hq, kq⟩ := HP2.out.grown hR5 HK5.out
          have hw2 := HK2.out.size
          have hst : { burnS s with loose := (burnS s).loose ++ [(.unl (nm A))] } = chgS s (.unl (nm A)) := by unfold chgS; rw [HB.out, burn_loose]; rfl
          rw [hst] at hq
          have hgd := HGd.out
          have hrd := HRd.out
          rw [e2] at hgd hrd
          rw [e1, e2]
          refine ⟨rfl, ⟨⟨_, _, _, _, hq.mono (fun b _ h => ?_)⟩, hgd, hrd⟩, ?_⟩
          · rcases h with h | ⟨h1, h2⟩
            · exact .inl h
            · exact .inr ⟨by omega, h2⟩
          · exact (HK2.out.mono (T := T) (fun b _ e => by rw [e]; exact HP2.out.inT)).trans (kq.mono (T := T) (fun b _ h => by
              rcases h with h | h
              · exact HP2.out.loose.2 b h
              · rw [h]; exact HP2.out.inT)) (fun _ _ h => h)
        · go_enter Try.func15, Try.ntmps15
          go_wp2_with (first | (go_at_call 17; refine cN.mono ?_; rintro e w' ⟨rfl, rfl⟩))
          refine cH.mono ?_
          rintro e w1 ⟨rfl, k1⟩
          have HK1 := Lib.hid k1
          clear k1 cH cN
          go_wp2
          go_region
          have HPq : Hid (RP w1.drew T r s vs vl vf fl) := HP.out.keep (HK1.out.drew) (fun _ _ h => h)
          have cP := refPower r T s vs vl vf fl w1.drew HPq.out HG.out
          rw [hB] at cP
          have HB := Lib.hid hB
          clear hB c5
          go_wp2_with fail
          refine cP.mono ?_
          rintro e w2 ⟨rfl, hp2, k2, z2⟩
          have HP2 := Lib.hid hp2
          have HK2 : Hid (Keep (· = r) w w2) := ((HK1.out.drew).mono (fun _ _ h => h.elim)).trans k2 (fun _ _ h => h)
          have HZ2 := Lib.hid z2
          clear hp2 k2 z2 cP
          go_wp2
          go_ret
          have e1 : unlinkE s (nm A) = 2 := by simp [unlinkE, FE.out, HB.out]
          rw [e1, e2.out, show chgS s (.unl (nm A)) = burnS s by unfold chgS; rw [if_neg (by rw [HB.out]; decide)]]
          exact RW.burnt HP2.out HG.out HRi.out HK2.out
    · have RD : Hid (readyE s [nm A] = 2) := by show _ = _; simp [readyE, ← HV.out, ← HD.out]
      go_enter Try.func15, Try.ntmps15
      go_wp2_with (first | (go_at_call 17; refine cN.mono ?_; rintro e w' ⟨rfl, rfl⟩))
      go_ret
      have e1 : unlinkE s (nm A) = 2 := by simp [unlinkE, findE, RD.out]
      have e2 : unlinkS s (nm A) = s := by simp [unlinkS, findE, RD.out]
      rw [e1, e2]
      exact RW.same HRf.out (Keep.refl _ _)

end Go.Proofs.Ytgjkocjgkbjciaa.Fs
