/-
  What the document's Dir, Has, Used and power return.
-/
import Derived.Test.YtgjkocjgkbjciaaRef
namespace Go.Proofs.Ytgjkocjgkbjciaa.Fs
open Go.RowKit Go.Maps
set_option linter.unusedVariables false
set_option linter.unusedSimpArgs false

theorem fold_take {l : List Chg} {d : Dir} {i : Nat} {c : Chg} (h : l[i]? = some c) : (l.take (i + 1)).foldl app d = app ((l.take i).foldl app d) c := by
  rw [take_snoc h, List.foldl_append]
  rfl
set_option maxHeartbeats 4000000 in
set_option maxRecDepth 100000 in
theorem refDir (r : Nat) (T : Nat → Prop) (s : St) (w : World) (h : Ref w T r s) : Calls Try.prog 35 #[.pointer (some ⟨r, 0, none⟩)] w fun e w' => ∃ u, e = .returned u ∧ ERow w' (Up T w w') u (ents s.now) ∧ Keep (fun _ => False) w w' := by
  obtain ⟨⟨vs, vl, vf, fl, hp⟩, hG, hRi⟩ := h
  obtain ⟨x, cl, rfl, hcl, _⟩ := ownsRow_shape hp.loose.1
  have c0 := hp.fs.cell 0
  have c1 := hp.fs.cell 1
  simp at c0 c1
  obtain ⟨N, hN⟩ : ∃ N, N = s.loose.length := ⟨_, rfl⟩
  rw [← hN] at c1
  have hbk := hG.bulk
  have hNl : N ≤ 1000000 := by unfold St.bulk at hbk; omega
  have HP := Lib.hid hp
  have HG := Lib.hid hG
  have HRi := Lib.hid hRi
  have HN := Lib.hid hN
  clear hp hG hRi hN hbk
  go_enter Try.func35, Try.ntmps35
  go_wp2
  go_loopw [3, 4] (fun o z wr => ∃ i : Nat, i ≤ N ∧ z = .int .i64 (i : Int) ∧ Hid (ERow wr (Up T w wr) o (ents ((s.loose.take i).foldl app s.sure))) ∧ Hid (Keep (fun _ => False) w wr)) (fun _ z _ => N - (intOf z).toNat)
  case atStart => exact ⟨0, by omega, rfl, HP.out.sure.mono (fun b _ h => .inl h), Keep.refl _ _⟩
  case round =>
    obtain ⟨i, hi, rfl, HR, HK⟩ := hrel
    have d1 := HK.out.cell c1 (fun h => h)
    by_cases h8 : (i : Int) < (N : Int)
    · have hil : i < s.loose.length := by have := HN.out; omega
      obtain ⟨c, hc⟩ := getElem?_some_lt hil
      obtain ⟨g, cap, hv, _, _, _, hcell⟩ := row_cells HP.out.loose (by omega)
      injection hv with hx _ _
      subst hx
      obtain ⟨k0, k1, k2, k3⟩ := chgCells_at hc
      have e0 := HK.out.cell (hcell _ _ k0) (fun h => h)
      have e1 := HK.out.cell (hcell _ _ k1) (fun h => h)
      have e2 := HK.out.cell (hcell _ _ k2) (fun h => h)
      have e3 := HK.out.cell (hcell _ _ k3) (fun h => h)
      have hD : ((s.loose.take i).foldl app s.sure).length ≤ 2000000 := by
        have h1 := length_apps_le (s.loose.take i) s.sure
        have h2 := HG.out.bulk
        unfold St.bulk at h2
        simp at h1
        omega
      have cD := doneC (rising_apps HRi.out (s.loose.take i)) (HG.out.chain.fits i c hc) hD (Up T w wr) u3 wr HR.out
      rw [← fold_take hc] at cD
      have HI := Lib.hid hil
      clear hil hc hcell k0 k1 k2 k3 hD
      go_wp2_with fail
      refine cD.mono ?_
      rintro e w2 ⟨u, rfl, hR2, k2⟩
      have HR2 := Lib.hid hR2
      have HK2 := Lib.hid k2
      clear hR2 k2
      go_wp2
      go_roundw
      case rel => exact ⟨i + 1, by omega, by go_num, HR2.out.mono (fun b _ h => by
        rcases h with h | ⟨h1, h2⟩
        · exact h.elim
        · exact .inr ⟨by have := HK.out.size; omega, h2⟩), HK.out.trans HK2.out (fun _ _ h => h)⟩
      case measure => simp [intOf]; omega
    · have hiN : i = s.loose.length := by have := HN.out; omega
      have HI := Lib.hid hiN
      clear hiN
      go_wp2
      go_ret
      refine ⟨_, rfl, ?_, HK.out⟩
      have := HR.out
      rw [HI.out, List.take_length] at this
      exact this

theorem get_at {d : Dir} (hn : (d.map (·.1)).Nodup) {i : Nat} {p : Nm × Nat} (h : d[i]? = some p) {a : Nm} (e : p.1 = a) : get d a = some p.2 := by
  subst e
  exact get_of_mem hn (List.mem_of_getElem? h)
def hasI (o : Option Nat) : Int := match o with | some i => (i : Int) | none => -1
set_option maxHeartbeats 4000000 in
set_option maxRecDepth 100000 in
theorem refHas (r : Nat) (T : Nat → Prop) (s : St) (A : ByteArray) (w : World) (h : Ref w T r s) : Calls Try.prog 34 #[.pointer (some ⟨r, 0, none⟩), .string A] w fun e w' => e = .returned (.int .i64 (hasI (get s.now (nm A)))) ∧ Keep (fun _ => False) w w' := by
  have cD := refDir r T s w h
  have hnd := h.2.1.now.names
  have hlen := now_length s
  have hbk := h.2.1.bulk
  have HND := Lib.hid hnd
  obtain ⟨N, hN⟩ : ∃ N, N = s.now.length := ⟨_, rfl⟩
  have hNl : N ≤ 1000000 := by omega
  have HN := Lib.hid hN
  clear h hnd hlen hbk hN
  go_enter Try.func34, Try.ntmps34
  go_wp2_with fail
  refine cD.mono ?_
  rintro e w1 ⟨u, rfl, hR, k1⟩
  obtain ⟨x, cx, rfl, _, hx⟩ := hR.shape
  rw [ents_length, ← HN.out]
  have HX := Lib.hid hx
  have HK1 := Lib.hid k1
  clear hR hx k1 cD
  go_wp2
  go_loopw [6] (fun z wr => ∃ i : Nat, i ≤ N ∧ z = .int .i64 (i : Int) ∧ wr = w1 ∧ Hid (∀ k p, k < i → s.now[k]? = some p → p.1 ≠ nm A)) (fun z _ => N - (intOf z).toNat)
  case atStart => exact ⟨0, by omega, rfl, rfl, fun k p hk => by omega⟩
  case round =>
    obtain ⟨i, hi, rfl, hww, HJ⟩ := hrel
    obtain rfl := hww.symm
    by_cases h8 : (i : Int) < (N : Int)
    · have hil : i < s.now.length := by have := HN.out; omega
      obtain ⟨p, hp⟩ := getElem?_some_lt hil
      obtain ⟨g, hg, _, _, c1, c2⟩ := HX.out i _ (ents_at hp)
      subst hg
      have hq : ((sm p.1).toList == A.toList) = (p.1 == nm A) := by rw [eq_nm, nm_sm]
      obtain ⟨B, hB⟩ : ∃ B, B = sm p.1 := ⟨_, rfl⟩
      simp only at c1 c2
      rw [← hB] at c1 hq
      have HP := Lib.hid hp
      clear hil hp hB
      by_cases he : p.1 = nm A
      · have hq1 : (B.toList == A.toList) = true := by rw [hq]; simpa using he
        have HE := Lib.hid he
        clear hq he
        go_wp2
        go_ret
        rw [get_at HND.out HP.out HE.out]
        exact ⟨rfl, HK1.out⟩
      · have hq1 : (B.toList == A.toList) = false := by rw [hq]; simpa using he
        have HE := Lib.hid he
        clear hq he
        go_wp2
        go_roundw
        case rel => exact ⟨i + 1, by omega, by go_num, by first | rfl | trivial, fun k q hk hq => by
          by_cases hki : k = i
          · subst hki
            have := HP.out
            rw [this] at hq
            injection hq with hq
            rw [← hq]
            exact HE.out
          · exact HJ.out k q (by omega) hq⟩
        case measure => simp [intOf]; omega
    · go_wp2
      go_ret
      have : get s.now (nm A) = none := get_none.2 fun p hp => by
        obtain ⟨k, hk⟩ := List.getElem?_of_mem hp
        have hk2 := (List.getElem?_eq_some_iff.1 hk).1
        exact HJ.out k p (by have := HN.out; omega) hk
      rw [this]
      exact ⟨rfl, HK1.out⟩

end Go.Proofs.Ytgjkocjgkbjciaa.Fs
