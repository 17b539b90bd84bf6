/-
  Proved here: whatever comes to a session, in whatever parts, and however it is answered: each event is as the document's own session has it (the law ServePlays returns true). Conditions: the card's own (variables of Go's library as its text lays them).
-/
import Derived.Test.YtcjljldknekhiaaGreatDoorRows
import Derived.Test.YtcjljldknekhiaaGreatDoorCards
import Derived.Test.YtcjljldknekhiaaGreatDoorTie
import Derived.Test.YtcjljldknekhiaaGreatDoorKQl
import Derived.Lib.Hide
import Derived.WalkKit
import Derived.ProofKit
import Derived.OpenShut
import Derived.ShutString
import Derived.ChangeOld
import Derived.Below
import Derived.Lay
import Derived.SevenTiedAt
import Derived.Stop.Joined
import Derived.Deep.DeepHandedRow
namespace Go.Proofs.YtcjljldknekhiaaGreatDoor.servePlays
open Go.ChangeShapes Go.WideShapes Go.ChangeAt Go.RowKit
set_option linter.unusedVariables false
set_option linter.unusedSimpArgs false
theorem own : ownKnob Tryz.prog.godebug = none := by kernel_rfl

/-! ### The walk -/
set_option maxHeartbeats 4000000 in
set_option maxRecDepth 100000 in
theorem walk (a0 : ByteArray) (a1 : Int) (a2 : Option Addr) (x2 : List Ln.OpR) (cap2 : Nat) (w : World) (m0 : a0.size ≤ 140737488351232) (w1 : (Lit.int .i64 a1).wf = true) (l2 : x2.length ≤ cap2) (m2 : cap2 ≤ 9223372036854775807) (B2 : Ln.Ops w a2 x2) (hE : Ln.Env w) (h9 : 9 ≤ w.heap.size) :
    Calls Tryz.prog 3 #[.string a0, .int .i64 a1, .slice a2 x2.length cap2] w fun e w' => e = .returned (.bool true) ∧ Below w.heap.size w w' := by
  have HA := Lib.hid (fun W e k => Ln.answersC W e k)
  have HE := Lib.hid hE
  obtain ⟨N, hN⟩ : ∃ N, N = x2.length := ⟨_, rfl⟩
  rw [← hN] at l2
  rw [← hN]
  have HN := Lib.hid hN
  have HB := Lib.hid B2
  clear hN B2 hE
  by_cases hbig : (200 : Int) < ((a0.size : Nat) : Int)
  · go_enter Tryz.func3, Tryz.ntmps3
    go_wp2_with fail
    refine (HA.out _ HE.out h9).mono ?_
    rintro e ua ⟨rfl, hka⟩
    go_wp2
    go_ret
    exact ⟨rfl, hka.below (Nat.le_refl _) (fun _ h => h.elim)⟩
  by_cases hbig2 : (40 : Int) < (N : Int)
  · go_enter Tryz.func3, Tryz.ntmps3
    go_wp2_with fail
    refine (HA.out _ HE.out h9).mono ?_
    rintro e ua ⟨rfl, hka⟩
    go_wp2
    go_ret
    exact ⟨rfl, hka.below (Nat.le_refl _) (fun _ h => h.elim)⟩
  have hs0 : a0.size ≤ 200 := by omega
  have hN40 : N ≤ 40 := by omega
  go_enter Tryz.func3, Tryz.ntmps3
  go_wp2_with fail
  refine (Ln.pnew a0 (by omega) a1 w1 w HE.out h9).mono ?_
  rintro e u1 ⟨g, F1, rfl, hV1, hK1, hF1⟩
  have HV1 := Lib.hid hV1
  have HK1 := Lib.hid hK1
  have HF1 := Lib.hid hF1
  clear hV1 hK1 hF1
  go_wp2_with fail
  refine (Ln.refNew Ln.domC9 Ln.smallC9 a0 (by omega) a1 w1 u1).mono ?_
  rintro e u2 ⟨h, G1, rfl, hV2, hK2, hF2⟩
  rw [Ln.host9_is] at hV2
  have T0 := Lib.hid (Ln.pl_made HE.out h9 HV1.out HK1.out HF1.out hV2 hK2 hF2)
  have hh9 := Ln.host9_size a0 (by omega)
  clear hV2 hK2 hF2 HV1 HK1 HF1
  go_wp2_with fail
  refine (Ln.drainC T0.out (Ln.dr_new _ _ hh9)).mono ?_
  rintro e u3 hd
  rw [← Ln.new_go] at hd
  obtain ⟨he, F3, G3, r3, over3, hL3⟩ := Ln.lp_drained (k := 0) (Ln.Gd.new _ _ hh9) (by simp [Ln.Se.new, Ln.Se.say]) hd
  subst he
  have L3 := Lib.hid hL3
  clear hd hL3 T0 hh9
  go_wp2
  go_loopw [10] (fun i wr => ∃ (k : Nat) (F G : Nat → Prop) (r : Ln.Se) (over : Bool), k ≤ N ∧ i = .int .i64 (k : Int) ∧ Hid (Ln.Lp w wr g h u2.heap.size F G r over k)) (fun i _ => N - (intOf i).toNat)
  case atStart => exact ⟨0, F3, G3, r3, over3, by omega, rfl, L3.out⟩
  case round =>
    obtain ⟨k, F, G, r, over, hk, rfl, L⟩ := hrel
    by_cases hlt : (k : Int) < (N : Int)
    · have hkx : k < x2.length := by have := HN.out; omega
      obtain ⟨o, ho⟩ : ∃ o, x2[k]? = some o := ⟨x2[k], List.getElem?_eq_getElem hkx⟩
      obtain ⟨b, off, hb, ha, hc0, hc1, hwf, hob⟩ := HB.out k o ho
      subst ha
      have c0 := L.out.pl.kp.cell hc0 (fun h => h)
      have c1 := L.out.pl.kp.cell hc1 (fun h => h)
      obtain ⟨t, c⟩ := o
      simp only at c0 c1 hwf
      clear hc0 hc1 ho hkx hob
      have k0 : (0 : Int) ≤ (k : Int) := by omega
      by_cases h3 : (3000 : Int) < ((t.size : Nat) : Int)
      · go_wp2_with fail
        refine (HA.out _ L.out.pl.env L.out.pl.sz).mono ?_
        rintro e ua ⟨rfl, hka⟩
        have L1 := Lib.hid (L.out.pl.quiet hka)
        clear hka
        go_wp2
        go_ret
        exact ⟨rfl, L1.out.kp.below (Nat.le_refl _) (fun _ h => h.elim)⟩
      have ht3 : t.size ≤ 3000 := by omega
      by_cases hz : c = 0
      · subst hz
        obtain ⟨c3, w3, kc, hB3, hK3⟩ := Ln.conv_str t wr
        have T3 := Lib.hid (L.out.pl.quiet hK3)
        have HB3 := Lib.hid hB3
        have d0 := hK3.cell c0 (fun h => h)
        clear hB3 hK3
        go_wp2_with fail
        refine (Ln.pfeed T3.out.a T3.out.env (some ⟨wr.heap.size, 0, none⟩) t.size c3 (Ln.ns t) (Ln.ns_length t) HB3.out (by have := L.out.wt; omega)).mono ?_
        rintro e w4 ⟨rfl, F4, hV4, hK4, hM4⟩
        have T4 := Lib.hid (T3.out.left (p' := r.fed (Ln.ns t)) hV4 hK4 hM4)
        have d4 := hK4.cell d0 (fun hF => by have hx : w.heap.size ≤ b := L.out.pl.fa _ hF; omega)
        clear hV4 hK4 hM4 T3 HB3 kc d0
        obtain ⟨wv, ov, rv, bv, qo, qb, xs, hR⟩ := T4.out.b
        have c2 := hR.cells.2.2.1
        have cst := hR.cells.2.2.2.2.1
        have HR := Lib.hid hR
        clear hR
        by_cases h6 : (r.st : Int) < 6
        · obtain ⟨s, hs⟩ : ∃ s, s = r.fed (Ln.ns t) := ⟨_, rfl⟩
          have HG : Hid (Ln.Gd s) := Lib.hid (by rw [hs]; exact L.out.gd.fed _ (by have := L.out.wt; rw [Ln.ns_length]; omega))
          have HW : Hid (s.wait.length ≤ 3000 * (k + 1)) := Lib.hid (by rw [hs]; exact (by have := L.out.wt; simp only [Ln.Se.fed, List.length_append, Ln.ns_length]; omega))
          have HRO : Hid (Ln.Ro s) := Lib.hid (by rw [hs]; exact L.out.ro)
          have HSH : Hid (Ln.Sh over s) := Lib.hid (by rw [hs]; exact L.out.sh.fed _)
          have kA : Ln.Keep (fun _ => False) w4 (w4.drew.alloc (.cells #[] 5)) := ((Ln.Keep.refl (fun _ => False) w4).drew).alloc _
          obtain ⟨y1, j1, cap1, q1, u1, r1, m1, kk1, nw1⟩ := Ln.app_bytes (HR.out.wait.keep (R' := fun _ => True) kA (fun b _ _ => ⟨fun h => h, trivial⟩)) (some ⟨w4.heap.size, 0, none⟩) 34 (by have := L.out.wt; omega)
          have dA := kA.cell d4 (fun h => h)
          have d5 := kk1.cell dA (fun h => h)
          have new1 : ∀ b, q1 = some b → w4.heap.size ≤ b := fun b hb => by
            rcases nw1 b hb with h | h
            · cases h
            · have := kA.size; omega
          obtain ⟨y2, j2, cap2, q2, u2', r2, m2, kk2, nw2⟩ := Ln.app_bstr 34 m1 t (by have := L.out.wt; omega)
          have K2 : Ln.Keep (fun _ => False) w4 u2' := (kA.trans kk1 (fun _ _ h => h)).trans kk2 (fun i hi e => by have := new1 i e; omega)
          have new2 : ∀ b, q2 = some b → w4.heap.size ≤ b := fun b hb => by
            rcases nw2 b hb with h | h
            · exact new1 b h
            · have := (kA.trans kk1 (fun _ _ h => h)).size; omega
          have d6 := K2.cell d4 (fun h => h)
          obtain ⟨⟨uv, hcv⟩, hfz, G2, hRS, hKs, hMs⟩ := HR.out.waits K2 m2 new2
          have T5 : Hid (Ln.Pl w (u2'.setCell ⟨h, 2, none⟩ (.slice y2 j2 cap2)) g h u2.heap.size F4 G2 s s over) := Lib.hid (by
            have := T4.out.right hRS hKs hMs
            rw [hs]
            exact this)
          have d7 := hKs.cell d4 (fun hF => by have hx : w.heap.size ≤ b := L.out.pl.fb _ hF; omega)
          have hcl2 : w4.drew.cell? ⟨h, 2, none⟩ = some wv := c2
          have hcl3 : (w4.alloc (.cells #[] 5)).cell? ⟨h, 2, none⟩ = some wv := kA.cell c2 (fun h => h)
          have d4' : w4.drew.cell? ⟨b, off + k * 2, none⟩ = some (.string t) := d4
          clear hRS hKs hMs m1 m2 kk1 kk2 nw1 nw2 new1 new2 K2 kA hs HR T4
          go_wp2
          refine wp_region_noPanic ?_
          refine wp_region_held_drew (S := fun w' => w'.cell? ⟨b, off + k * 2, none⟩ = some (.string t)) (by kernel_rfl) d4' (fun hHeld => ?_)
          refine wpAnyH_take (i := 0) (v := ?_) rfl (by kernel_rfl) (by kernel_rfl) (by kernel_rfl) (fun _ _ _ h => h) (Or.inl ⟨by rfl, ?_⟩) (by assumption) ?_
          rotate_left
          · (intro wS hSw; (try dsimp only at hSw); (try simp only [List.getElem_toArray, List.getElem_cons_succ, List.getElem_cons_zero]); go_simp; try (with_reducible rfl))
          try simp only [Act.put, List.getElem_toArray, List.getElem_cons_succ, List.getElem_cons_zero, List.setIfInBounds_toArray, List.set_cons_zero, List.set_cons_succ]
          refine wpAnyH_take (i := 2) (v := ?_) rfl (by kernel_rfl) (by kernel_rfl) (by kernel_rfl) (fun _ _ _ h => h) (Or.inl ⟨by rfl, ?_⟩) (by assumption) ?_
          rotate_left
          · (intro wS hSw; (try dsimp only at hSw); (try simp only [List.getElem_toArray, List.getElem_cons_succ, List.getElem_cons_zero]); go_simp; try (with_reducible rfl))
          try simp only [Act.put, List.getElem_toArray, List.getElem_cons_succ, List.getElem_cons_zero, List.setIfInBounds_toArray, List.set_cons_zero, List.set_cons_succ]
          refine wpAnyH_take (i := 3) (v := ?_) rfl (by kernel_rfl) (by kernel_rfl) (by kernel_rfl) (fun _ _ _ h => h) (Or.inl ⟨by rfl, ?_⟩) (by assumption) ?_
          rotate_left
          · (intro wS hSw; (try dsimp only at hSw); (try simp only [List.getElem_toArray, List.getElem_cons_succ, List.getElem_cons_zero]); go_simp; try (with_reducible rfl))
          try simp only [Act.put, List.getElem_toArray, List.getElem_cons_succ, List.getElem_cons_zero, List.setIfInBounds_toArray, List.set_cons_zero, List.set_cons_succ]
          refine wpAnyH_take (i := 4) (v := ?_) rfl (by kernel_rfl) (by kernel_rfl) (by kernel_rfl) (fun _ _ _ h => h) (Or.inl ⟨by rfl, ?_⟩) (by assumption) ?_
          rotate_left
          · (intro wS hSw; (try dsimp only at hSw); (try simp only [List.getElem_toArray, List.getElem_cons_succ, List.getElem_cons_zero]); go_simp; try (with_reducible rfl))
          try simp only [Act.put, List.getElem_toArray, List.getElem_cons_succ, List.getElem_cons_zero, List.setIfInBounds_toArray, List.set_cons_zero, List.set_cons_succ]
          refine wpAnyH_take (i := 7) (v := ?_) rfl (by kernel_rfl) (by kernel_rfl) (by kernel_rfl) (fun _ _ _ h => h) (Or.inl ⟨by rfl, ?_⟩) (by assumption) ?_
          rotate_left
          · (intro wS hSw; (try dsimp only at hSw); (try simp only [List.getElem_toArray, List.getElem_cons_succ, List.getElem_cons_zero]); go_simp; try (with_reducible rfl))
          try simp only [Act.put, List.getElem_toArray, List.getElem_cons_succ, List.getElem_cons_zero, List.setIfInBounds_toArray, List.set_cons_zero, List.set_cons_succ]
          refine wpAnyH_take (i := 8) (v := ?_) rfl (by kernel_rfl) (by kernel_rfl) (by kernel_rfl) (fun _ _ _ h => h) (Or.inl ⟨by rfl, ?_⟩) (by assumption) ?_
          rotate_left
          · (intro wS hSw; (try dsimp only at hSw); (try simp only [List.getElem_toArray, List.getElem_cons_succ, List.getElem_cons_zero]); go_simp; try (with_reducible rfl))
          try simp only [Act.put, List.getElem_toArray, List.getElem_cons_succ, List.getElem_cons_zero, List.setIfInBounds_toArray, List.set_cons_zero, List.set_cons_succ]
          refine wpAnyH_take (i := 9) (v := ?_) rfl (by kernel_rfl) (by kernel_rfl) (by kernel_rfl) (fun _ _ _ h => h) (Or.inl ⟨by rfl, ?_⟩) (by assumption) ?_
          rotate_left
          · (intro wS hSw; (try dsimp only at hSw); (try simp only [List.getElem_toArray, List.getElem_cons_succ, List.getElem_cons_zero]); go_simp; try (with_reducible rfl))
          try simp only [Act.put, List.getElem_toArray, List.getElem_cons_succ, List.getElem_cons_zero, List.setIfInBounds_toArray, List.set_cons_zero, List.set_cons_succ]
          refine wpAnyH_take (i := 10) (v := ?_) rfl (by kernel_rfl) (by kernel_rfl) (by kernel_rfl) (fun _ _ _ h => h) (Or.inl ⟨by rfl, ?_⟩) (by assumption) ?_
          rotate_left
          · (intro wS hSw; (try dsimp only at hSw); (try simp only [List.getElem_toArray, List.getElem_cons_succ, List.getElem_cons_zero]); go_simp; try (with_reducible rfl))
          try simp only [Act.put, List.getElem_toArray, List.getElem_cons_succ, List.getElem_cons_zero, List.setIfInBounds_toArray, List.set_cons_zero, List.set_cons_succ]
          refine wpAnyH_take (i := 11) (v := ?_) rfl (by kernel_rfl) (by kernel_rfl) (by kernel_rfl) (fun _ _ _ h => h) (Or.inl ⟨by rfl, ?_⟩) (by assumption) ?_
          rotate_left
          · (intro wS hSw; (try dsimp only at hSw); (try simp only [List.getElem_toArray, List.getElem_cons_succ, List.getElem_cons_zero]); go_simp; try (with_reducible rfl))
          try simp only [Act.put, List.getElem_toArray, List.getElem_cons_succ, List.getElem_cons_zero, List.setIfInBounds_toArray, List.set_cons_zero, List.set_cons_succ]
          refine wpAnyH_ready (rs := [1, 5]) (by kernel_rfl) (by simp) ?_
          refine AllReadyH.cons rfl (fun K hK => ?_) (AllReadyH.cons rfl (fun K hK => ?_) AllReadyH.nil)
          · go_simp
            refine hK.out _ _ dA (fun hHeld => ?_)
            clear hK K
            try simp only [Act.put, List.getElem_toArray, List.getElem_cons_succ, List.getElem_cons_zero, List.setIfInBounds_toArray, List.set_cons_zero, List.set_cons_succ]
            refine wpAnyH_ready (rs := [5]) (by kernel_rfl) (by simp) ?_
            refine AllReadyH.cons rfl (fun K hK => ?_) AllReadyH.nil
            go_simp
            refine hK.out _ _ dA (fun hHeld => ?_)
            clear hK K
            try simp only [Act.put, List.getElem_toArray, List.getElem_cons_succ, List.getElem_cons_zero, List.setIfInBounds_toArray, List.set_cons_zero, List.set_cons_succ]
            refine wpAnyH_ready (rs := [6]) (by kernel_rfl) (by simp) ?_
            refine AllReadyH.cons rfl (fun K hK => ?_) AllReadyH.nil
            refine Ln.wp_append_runT (by rfl) (by rfl) (by rfl) r1 ?_
            refine hK.out _ _ d5 (fun hHeld => ?_)
            clear hK K
            try simp only [Act.put, List.getElem_toArray, List.getElem_cons_succ, List.getElem_cons_zero, List.setIfInBounds_toArray, List.set_cons_zero, List.set_cons_succ]
            refine wpAnyH_ready (rs := [12]) (by kernel_rfl) (by simp) ?_
            refine AllReadyH.cons rfl (fun K hK => ?_) AllReadyH.nil
            refine Ln.wp_append_runS (by rfl) (by rfl) (by rfl) r2 ?_
            refine hK.out _ _ d6 (fun hHeld => ?_)
            clear hK K
            try simp only [Act.put, List.getElem_toArray, List.getElem_cons_succ, List.getElem_cons_zero, List.setIfInBounds_toArray, List.set_cons_zero, List.set_cons_succ]
            refine wpAnyH_take (i := 13) (v := ?_) rfl (by kernel_rfl) (by kernel_rfl) (by kernel_rfl) (fun _ _ _ h => h) (Or.inl ⟨by rfl, ?_⟩) (by assumption) ?_
            rotate_left
            · (intro wS hSw; (try dsimp only at hSw); (try simp only [List.getElem_toArray, List.getElem_cons_succ, List.getElem_cons_zero]); go_simp; try (with_reducible rfl))
            try simp only [Act.put, List.getElem_toArray, List.getElem_cons_succ, List.getElem_cons_zero, List.setIfInBounds_toArray, List.set_cons_zero, List.set_cons_succ]
            refine wpAnyH_take (i := 14) (v := ?_) rfl (by kernel_rfl) (by kernel_rfl) (by kernel_rfl) (fun _ _ _ h => h) (Or.inl ⟨by rfl, ?_⟩) (by assumption) ?_
            rotate_left
            · (intro wS hSw; (try dsimp only at hSw); (try simp only [List.getElem_toArray, List.getElem_cons_succ, List.getElem_cons_zero]); go_simp; try (with_reducible rfl))
            try simp only [Act.put, List.getElem_toArray, List.getElem_cons_succ, List.getElem_cons_zero, List.setIfInBounds_toArray, List.set_cons_zero, List.set_cons_succ]
            refine wpAnyH_ready (rs := [15]) (by kernel_rfl) (by simp) ?_
            refine AllReadyH.cons rfl (fun K hK => ?_) AllReadyH.nil
            go_simp
            refine hK.out _ _ d7 (fun hHeld => ?_)
            clear hK K
            try simp only [Act.put, List.getElem_toArray, List.getElem_cons_succ, List.getElem_cons_zero, List.setIfInBounds_toArray, List.set_cons_zero, List.set_cons_succ]
            refine wpAnyH_done (by kernel_rfl) ?_ _
            refine NoPanic.normal ?_
            clear r1 r2 dA d5 d6 d7 d4 hcv hfz
            go_wp2_with fail
            refine (Ln.refGo' Ln.verbC9 T5.out.b HG.out.ok (by have := HG.out.host; omega) (by have := HG.out.out; have := HW.out; omega)).mono ?_
            rintro e w8 ⟨rfl, G8, hR8, hK8, hM8⟩
            have T8 := Lib.hid (T5.out.right hR8 hK8 hM8)
            clear hR8 hK8 hM8
            go_wp2_with fail
            refine (Ln.drainC T8.out (Ln.dr_turn HG.out HRO.out HSH.out)).mono ?_
            rintro e w9 hd
            obtain ⟨he, F9, G9, r9, over9, hL9⟩ := Ln.lp_drained (k := k + 1) HG.out HW.out hd
            subst he
            have L9 := Lib.hid hL9
            clear hd hL9 T8
            go_wp2
            go_roundw
            case rel => exact ⟨k + 1, F9, G9, r9, over9, by omega, by go_num, L9.out⟩
            case measure => simp [intOf]; omega
          · go_simp
            refine hK.out _ _ d4' (fun hHeld => ?_)
            clear hK K
            try simp only [Act.put, List.getElem_toArray, List.getElem_cons_succ, List.getElem_cons_zero, List.setIfInBounds_toArray, List.set_cons_zero, List.set_cons_succ]
            refine wpAnyH_ready (rs := [1]) (by kernel_rfl) (by simp) ?_
            refine AllReadyH.cons rfl (fun K hK => ?_) AllReadyH.nil
            go_simp
            refine hK.out _ _ dA (fun hHeld => ?_)
            clear hK K
            try simp only [Act.put, List.getElem_toArray, List.getElem_cons_succ, List.getElem_cons_zero, List.setIfInBounds_toArray, List.set_cons_zero, List.set_cons_succ]
            refine wpAnyH_ready (rs := [6]) (by kernel_rfl) (by simp) ?_
            refine AllReadyH.cons rfl (fun K hK => ?_) AllReadyH.nil
            refine Ln.wp_append_runT (by rfl) (by rfl) (by rfl) r1 ?_
            refine hK.out _ _ d5 (fun hHeld => ?_)
            clear hK K
            try simp only [Act.put, List.getElem_toArray, List.getElem_cons_succ, List.getElem_cons_zero, List.setIfInBounds_toArray, List.set_cons_zero, List.set_cons_succ]
            refine wpAnyH_ready (rs := [12]) (by kernel_rfl) (by simp) ?_
            refine AllReadyH.cons rfl (fun K hK => ?_) AllReadyH.nil
            refine Ln.wp_append_runS (by rfl) (by rfl) (by rfl) r2 ?_
            refine hK.out _ _ d6 (fun hHeld => ?_)
            clear hK K
            try simp only [Act.put, List.getElem_toArray, List.getElem_cons_succ, List.getElem_cons_zero, List.setIfInBounds_toArray, List.set_cons_zero, List.set_cons_succ]
            refine wpAnyH_take (i := 13) (v := ?_) rfl (by kernel_rfl) (by kernel_rfl) (by kernel_rfl) (fun _ _ _ h => h) (Or.inl ⟨by rfl, ?_⟩) (by assumption) ?_
            rotate_left
            · (intro wS hSw; (try dsimp only at hSw); (try simp only [List.getElem_toArray, List.getElem_cons_succ, List.getElem_cons_zero]); go_simp; try (with_reducible rfl))
            try simp only [Act.put, List.getElem_toArray, List.getElem_cons_succ, List.getElem_cons_zero, List.setIfInBounds_toArray, List.set_cons_zero, List.set_cons_succ]
            refine wpAnyH_take (i := 14) (v := ?_) rfl (by kernel_rfl) (by kernel_rfl) (by kernel_rfl) (fun _ _ _ h => h) (Or.inl ⟨by rfl, ?_⟩) (by assumption) ?_
            rotate_left
            · (intro wS hSw; (try dsimp only at hSw); (try simp only [List.getElem_toArray, List.getElem_cons_succ, List.getElem_cons_zero]); go_simp; try (with_reducible rfl))
            try simp only [Act.put, List.getElem_toArray, List.getElem_cons_succ, List.getElem_cons_zero, List.setIfInBounds_toArray, List.set_cons_zero, List.set_cons_succ]
            refine wpAnyH_ready (rs := [15]) (by kernel_rfl) (by simp) ?_
            refine AllReadyH.cons rfl (fun K hK => ?_) AllReadyH.nil
            go_simp
            refine hK.out _ _ d7 (fun hHeld => ?_)
            clear hK K
            try simp only [Act.put, List.getElem_toArray, List.getElem_cons_succ, List.getElem_cons_zero, List.setIfInBounds_toArray, List.set_cons_zero, List.set_cons_succ]
            refine wpAnyH_done (by kernel_rfl) ?_ _
            refine NoPanic.normal ?_
            clear r1 r2 dA d5 d6 d7 d4 hcv hfz
            go_wp2_with fail
            refine (Ln.refGo' Ln.verbC9 T5.out.b HG.out.ok (by have := HG.out.host; omega) (by have := HG.out.out; have := HW.out; omega)).mono ?_
            rintro e w8 ⟨rfl, G8, hR8, hK8, hM8⟩
            have T8 := Lib.hid (T5.out.right hR8 hK8 hM8)
            clear hR8 hK8 hM8
            go_wp2_with fail
            refine (Ln.drainC T8.out (Ln.dr_turn HG.out HRO.out HSH.out)).mono ?_
            rintro e w9 hd
            obtain ⟨he, F9, G9, r9, over9, hL9⟩ := Ln.lp_drained (k := k + 1) HG.out HW.out hd
            subst he
            have L9 := Lib.hid hL9
            clear hd hL9 T8
            go_wp2
            go_roundw
            case rel => exact ⟨k + 1, F9, G9, r9, over9, by omega, by go_num, L9.out⟩
            case measure => simp [intOf]; omega
        · obtain ⟨s, hs⟩ : ∃ s, s = r := ⟨_, rfl⟩
          have HG : Hid (Ln.Gd s) := Lib.hid (by rw [hs]; exact L.out.gd)
          have HW : Hid (s.wait.length ≤ 3000 * (k + 1)) := Lib.hid (by rw [hs]; exact Nat.le_trans L.out.wt (by omega))
          have HRO : Hid (Ln.Ro s) := Lib.hid (by rw [hs]; exact L.out.ro)
          have HSH : Hid (Ln.Sh over s) := Lib.hid (by rw [hs]; exact L.out.sh)
          have hs6 : r.st = 6 := by have := L.out.gd.ok.st; omega
          have T5 : Hid (Ln.Pl w w4 g h u2.heap.size F4 G s s over) := Lib.hid (by
            rw [hs]
            have T := T4.out
            exact ⟨Ln.fed_back T.a hs6, T.b, T.env, T.kp, T.fa, T.fb, T.ap, T.oc, T.ol, T.oa, T.og, T.h9⟩)
          clear hs hs6 T4 HR
          go_wp2_with fail
          refine (Ln.refGo' Ln.verbC9 T5.out.b HG.out.ok (by have := HG.out.host; omega) (by have := HG.out.out; have := HW.out; omega)).mono ?_
          rintro e w8 ⟨rfl, G8, hR8, hK8, hM8⟩
          have T8 := Lib.hid (T5.out.right hR8 hK8 hM8)
          clear hR8 hK8 hM8
          go_wp2_with fail
          refine (Ln.drainC T8.out (Ln.dr_turn HG.out HRO.out HSH.out)).mono ?_
          rintro e w9 hd
          obtain ⟨he, F9, G9, r9, over9, hL9⟩ := Ln.lp_drained (k := k + 1) HG.out HW.out hd
          subst he
          have L9 := Lib.hid hL9
          clear hd hL9 T8
          go_wp2
          go_roundw
          case rel => exact ⟨k + 1, F9, G9, r9, over9, by omega, by go_num, L9.out⟩
          case measure => simp [intOf]; omega
      · have hz2 : (c != 0) = true := by simpa using hz
        have hcb := bounds_i64 hwf
        obtain ⟨ok, hok⟩ : ∃ ok, ok = Ln.ansOk r c := ⟨_, rfl⟩
        cases ok with
        | true =>
          obtain ⟨s, hs⟩ : ∃ s, s = r.answer c := ⟨_, rfl⟩
          have HG : Hid (Ln.Gd s) := Lib.hid (by rw [hs]; exact L.out.gd.answer L.out.out c)
          have HW : Hid (s.wait.length ≤ 3000 * (k + 1)) := Lib.hid (by rw [hs]; exact Nat.le_trans (Nat.le_of_eq (congrArg List.length (Ln.answer_wait r c))) (Nat.le_trans L.out.wt (by omega)))
          have HRO : Hid (Ln.Ro s) := Lib.hid (by rw [hs]; exact L.out.ro.answer c)
          have HSH : Hid (Ln.Sh over s) := Lib.hid (by rw [hs]; exact L.out.sh.answer c)
          have HOK := Lib.hid hok
          clear hok
          go_wp2
          have L1 := Lib.hid (L.out.pl.quiet ((Ln.Keep.refl (fun _ => False) wr).drew))
          have d1 : wr.drew.cell? ⟨b, off + k * 2 + 1, none⟩ = some (.int .i64 c) := c1
          refine wp_region_noPanic ?_
          refine wp_region_held_drew (S := fun w' => w'.cell? ⟨b, off + k * 2 + 1, none⟩ = some (.int .i64 c)) (by kernel_rfl) d1 (fun hHeld => ?_)
          refine wpAnyH_take (i := 0) (v := ?_) rfl (by kernel_rfl) (by kernel_rfl) (by kernel_rfl) (fun _ _ _ h => h) (Or.inl ⟨by rfl, ?_⟩) (by assumption) ?_
          rotate_left
          · (intro wS hSw; (try dsimp only at hSw); (try simp only [List.getElem_toArray, List.getElem_cons_succ, List.getElem_cons_zero]); go_simp; try (with_reducible rfl))
          try simp only [Act.put, List.getElem_toArray, List.getElem_cons_succ, List.getElem_cons_zero, List.setIfInBounds_toArray, List.set_cons_zero, List.set_cons_succ]
          refine wpAnyH_take (i := 1) (v := ?_) rfl (by kernel_rfl) (by kernel_rfl) (by kernel_rfl) (fun _ _ _ h => h) (Or.inl ⟨by rfl, ?_⟩) (by assumption) ?_
          rotate_left
          · (intro wS hSw; (try dsimp only at hSw); (try simp only [List.getElem_toArray, List.getElem_cons_succ, List.getElem_cons_zero]); go_simp; try (with_reducible rfl))
          try simp only [Act.put, List.getElem_toArray, List.getElem_cons_succ, List.getElem_cons_zero, List.setIfInBounds_toArray, List.set_cons_zero, List.set_cons_succ]
          refine wpAnyH_take (i := 2) (v := ?_) rfl (by kernel_rfl) (by kernel_rfl) (by kernel_rfl) (fun _ _ _ h => h) (Or.inl ⟨by rfl, ?_⟩) (by assumption) ?_
          rotate_left
          · (intro wS hSw; (try dsimp only at hSw); (try simp only [List.getElem_toArray, List.getElem_cons_succ, List.getElem_cons_zero]); go_simp; try (with_reducible rfl))
          try simp only [Act.put, List.getElem_toArray, List.getElem_cons_succ, List.getElem_cons_zero, List.setIfInBounds_toArray, List.set_cons_zero, List.set_cons_succ]
          refine wpAnyH_take (i := 3) (v := ?_) rfl (by kernel_rfl) (by kernel_rfl) (by kernel_rfl) (fun _ _ _ h => h) (Or.inl ⟨by rfl, ?_⟩) (by assumption) ?_
          rotate_left
          · (intro wS hSw; (try dsimp only at hSw); (try simp only [List.getElem_toArray, List.getElem_cons_succ, List.getElem_cons_zero]); go_simp; try (with_reducible rfl))
          try simp only [Act.put, List.getElem_toArray, List.getElem_cons_succ, List.getElem_cons_zero, List.setIfInBounds_toArray, List.set_cons_zero, List.set_cons_succ]
          refine wpAnyH_take (i := 4) (v := ?_) rfl (by kernel_rfl) (by kernel_rfl) (by kernel_rfl) (fun _ _ _ h => h) (Or.inl ⟨by rfl, ?_⟩) (by assumption) ?_
          rotate_left
          · (intro wS hSw; (try dsimp only at hSw); (try simp only [List.getElem_toArray, List.getElem_cons_succ, List.getElem_cons_zero]); go_simp; try (with_reducible rfl))
          try simp only [Act.put, List.getElem_toArray, List.getElem_cons_succ, List.getElem_cons_zero, List.setIfInBounds_toArray, List.set_cons_zero, List.set_cons_succ]
          refine wpAnyH_take (i := 5) (v := ?_) rfl (by kernel_rfl) (by kernel_rfl) (by kernel_rfl) (fun _ _ _ h => h) (Or.inl ⟨by rfl, ?_⟩) (by assumption) ?_
          rotate_left
          · (intro wS hSw; (try dsimp only at hSw); (try simp only [List.getElem_toArray, List.getElem_cons_succ, List.getElem_cons_zero]); go_simp; try (with_reducible rfl))
          try simp only [Act.put, List.getElem_toArray, List.getElem_cons_succ, List.getElem_cons_zero, List.setIfInBounds_toArray, List.set_cons_zero, List.set_cons_succ]
          refine wpAnyH_take (i := 7) (v := ?_) rfl (by kernel_rfl) (by kernel_rfl) (by kernel_rfl) (fun _ _ _ h => h) (Or.inl ⟨by rfl, ?_⟩) (by assumption) ?_
          rotate_left
          · (intro wS hSw; (try dsimp only at hSw); (try simp only [List.getElem_toArray, List.getElem_cons_succ, List.getElem_cons_zero]); go_simp; try (with_reducible rfl))
          try simp only [Act.put, List.getElem_toArray, List.getElem_cons_succ, List.getElem_cons_zero, List.setIfInBounds_toArray, List.set_cons_zero, List.set_cons_succ]
          refine wpAnyH_take (i := 8) (v := ?_) rfl (by kernel_rfl) (by kernel_rfl) (by kernel_rfl) (fun _ _ _ h => h) (Or.inl ⟨by rfl, ?_⟩) (by assumption) ?_
          rotate_left
          · (intro wS hSw; (try dsimp only at hSw); (try simp only [List.getElem_toArray, List.getElem_cons_succ, List.getElem_cons_zero]); go_simp; try (with_reducible rfl))
          try simp only [Act.put, List.getElem_toArray, List.getElem_cons_succ, List.getElem_cons_zero, List.setIfInBounds_toArray, List.set_cons_zero, List.set_cons_succ]
          refine wpAnyH_take (i := 9) (v := ?_) rfl (by kernel_rfl) (by kernel_rfl) (by kernel_rfl) (fun _ _ _ h => h) (Or.inl ⟨by rfl, ?_⟩) (by assumption) ?_
          rotate_left
          · (intro wS hSw; (try dsimp only at hSw); (try simp only [List.getElem_toArray, List.getElem_cons_succ, List.getElem_cons_zero]); go_simp; try (with_reducible rfl))
          try simp only [Act.put, List.getElem_toArray, List.getElem_cons_succ, List.getElem_cons_zero, List.setIfInBounds_toArray, List.set_cons_zero, List.set_cons_succ]
          refine wpAnyH_take (i := 10) (v := ?_) rfl (by kernel_rfl) (by kernel_rfl) (by kernel_rfl) (fun _ _ _ h => h) (Or.inl ⟨by rfl, ?_⟩) (by assumption) ?_
          rotate_left
          · (intro wS hSw; (try dsimp only at hSw); (try simp only [List.getElem_toArray, List.getElem_cons_succ, List.getElem_cons_zero]); go_simp; try (with_reducible rfl))
          try simp only [Act.put, List.getElem_toArray, List.getElem_cons_succ, List.getElem_cons_zero, List.setIfInBounds_toArray, List.set_cons_zero, List.set_cons_succ]
          refine wpAnyH_take (i := 11) (v := ?_) rfl (by kernel_rfl) (by kernel_rfl) (by kernel_rfl) (fun _ _ _ h => h) (Or.inl ⟨by rfl, ?_⟩) (by assumption) ?_
          rotate_left
          · (intro wS hSw; (try dsimp only at hSw); (try simp only [List.getElem_toArray, List.getElem_cons_succ, List.getElem_cons_zero]); go_simp; try (with_reducible rfl))
          try simp only [Act.put, List.getElem_toArray, List.getElem_cons_succ, List.getElem_cons_zero, List.setIfInBounds_toArray, List.set_cons_zero, List.set_cons_succ]
          refine wpAnyH_take (i := 12) (v := ?_) rfl (by kernel_rfl) (by kernel_rfl) (by kernel_rfl) (fun _ _ _ h => h) (Or.inl ⟨by rfl, ?_⟩) (by assumption) ?_
          rotate_left
          · (intro wS hSw; (try dsimp only at hSw); (try simp only [List.getElem_toArray, List.getElem_cons_succ, List.getElem_cons_zero]); go_simp; try (with_reducible rfl))
          try simp only [Act.put, List.getElem_toArray, List.getElem_cons_succ, List.getElem_cons_zero, List.setIfInBounds_toArray, List.set_cons_zero, List.set_cons_succ]
          refine wpAnyH_ready (rs := [6]) (by kernel_rfl) (by simp) ?_
          refine AllReadyH.cons rfl (fun K hK => ?_) AllReadyH.nil
          go_simp
          refine (Ln.panswer L1.out.a L1.out.env L.out.out c hwf).mono ?_
          rintro e w6 ⟨he, F6, hV6, hK6, hM6⟩
          rw [← HOK.out] at he
          subst he
          rw [← hs] at hV6
          have T6 := Lib.hid (L1.out.left (p' := s) hV6 hK6 hM6)
          have e6 := hK6.cell d1 (fun hF => by have hx : w.heap.size ≤ b := L.out.pl.fa _ hF; omega)
          clear hV6 hK6 hM6
          go_wp2_with fail
          refine hK.out _ _ e6 (fun hHeld => ?_)
          clear hK K
          try simp only [Act.put, List.getElem_toArray, List.getElem_cons_succ, List.getElem_cons_zero, List.setIfInBounds_toArray, List.set_cons_zero, List.set_cons_succ]
          refine wpAnyH_ready (rs := [13]) (by kernel_rfl) (by simp) ?_
          refine AllReadyH.cons rfl (fun K hK => ?_) AllReadyH.nil
          go_simp
          refine (Ln.refAnswer T6.out.b L.out.gd.ok (by rw [L.out.out]; simp) c hwf).mono ?_
          rintro e w7 ⟨he, G7, hN7⟩
          rw [← HOK.out] at he
          subst he
          rw [← hs] at hN7
          have T7 := Lib.hid (T6.out.right hN7.rs hN7.kp hN7.more)
          have e7 := hN7.kp.cell e6 (fun hF => by have hx : w.heap.size ≤ b := L.out.pl.fb _ hF; omega)
          clear hN7
          go_wp2_with fail
          refine hK.out _ _ e7 (fun hHeld => ?_)
          clear hK K
          try simp only [Act.put, List.getElem_toArray, List.getElem_cons_succ, List.getElem_cons_zero, List.setIfInBounds_toArray, List.set_cons_zero, List.set_cons_succ]
          refine wpAnyH_take (i := 14) (v := ?_) rfl (by kernel_rfl) (by kernel_rfl) (by kernel_rfl) (fun _ _ _ h => h) (Or.inl ⟨by rfl, ?_⟩) (by assumption) ?_
          rotate_left
          · (intro wS hSw; (try dsimp only at hSw); (try simp only [List.getElem_toArray, List.getElem_cons_succ, List.getElem_cons_zero]); go_simp; try (with_reducible rfl))
          try simp only [Act.put, List.getElem_toArray, List.getElem_cons_succ, List.getElem_cons_zero, List.setIfInBounds_toArray, List.set_cons_zero, List.set_cons_succ]
          refine wpAnyH_done (by kernel_rfl) ?_ _
          refine NoPanic.normal ?_
          clear hs e6 e7 d1 L1 T6
          go_wp2_with fail
          refine (Ln.refGo' Ln.verbC9 T7.out.b HG.out.ok (by have := HG.out.host; omega) (by have := HG.out.out; have := HW.out; omega)).mono ?_
          rintro e w8 ⟨rfl, G8, hR8, hK8, hM8⟩
          have T8 := Lib.hid (T7.out.right hR8 hK8 hM8)
          clear hR8 hK8 hM8
          go_wp2_with fail
          refine (Ln.drainC T8.out (Ln.dr_turn HG.out HRO.out HSH.out)).mono ?_
          rintro e w9 hd
          obtain ⟨he, F9, G9, r9, over9, hL9⟩ := Ln.lp_drained (k := k + 1) HG.out HW.out hd
          subst he
          have L9 := Lib.hid hL9
          clear hd hL9 T8
          go_wp2
          go_roundw
          case rel => exact ⟨k + 1, F9, G9, r9, over9, by omega, by go_num, L9.out⟩
          case measure => simp [intOf]; omega
        | false =>
          obtain ⟨s, hs⟩ : ∃ s, s = r.answer c := ⟨_, rfl⟩
          have HG : Hid (Ln.Gd s) := Lib.hid (by rw [hs]; exact L.out.gd.answer L.out.out c)
          have HW : Hid (s.wait.length ≤ 3000 * (k + 1)) := Lib.hid (by rw [hs]; exact Nat.le_trans (Nat.le_of_eq (congrArg List.length (Ln.answer_wait r c))) (Nat.le_trans L.out.wt (by omega)))
          have HRO : Hid (Ln.Ro s) := Lib.hid (by rw [hs]; exact L.out.ro.answer c)
          have HSH : Hid (Ln.Sh over s) := Lib.hid (by rw [hs]; exact L.out.sh.answer c)
          have HOK := Lib.hid hok
          clear hok
          go_wp2
          have L1 := Lib.hid (L.out.pl.quiet ((Ln.Keep.refl (fun _ => False) wr).drew))
          have d1 : wr.drew.cell? ⟨b, off + k * 2 + 1, none⟩ = some (.int .i64 c) := c1
          refine wp_region_noPanic ?_
          refine wp_region_held_drew (S := fun w' => w'.cell? ⟨b, off + k * 2 + 1, none⟩ = some (.int .i64 c)) (by kernel_rfl) d1 (fun hHeld => ?_)
          refine wpAnyH_take (i := 0) (v := ?_) rfl (by kernel_rfl) (by kernel_rfl) (by kernel_rfl) (fun _ _ _ h => h) (Or.inl ⟨by rfl, ?_⟩) (by assumption) ?_
          rotate_left
          · (intro wS hSw; (try dsimp only at hSw); (try simp only [List.getElem_toArray, List.getElem_cons_succ, List.getElem_cons_zero]); go_simp; try (with_reducible rfl))
          try simp only [Act.put, List.getElem_toArray, List.getElem_cons_succ, List.getElem_cons_zero, List.setIfInBounds_toArray, List.set_cons_zero, List.set_cons_succ]
          refine wpAnyH_take (i := 1) (v := ?_) rfl (by kernel_rfl) (by kernel_rfl) (by kernel_rfl) (fun _ _ _ h => h) (Or.inl ⟨by rfl, ?_⟩) (by assumption) ?_
          rotate_left
          · (intro wS hSw; (try dsimp only at hSw); (try simp only [List.getElem_toArray, List.getElem_cons_succ, List.getElem_cons_zero]); go_simp; try (with_reducible rfl))
          try simp only [Act.put, List.getElem_toArray, List.getElem_cons_succ, List.getElem_cons_zero, List.setIfInBounds_toArray, List.set_cons_zero, List.set_cons_succ]
          refine wpAnyH_take (i := 2) (v := ?_) rfl (by kernel_rfl) (by kernel_rfl) (by kernel_rfl) (fun _ _ _ h => h) (Or.inl ⟨by rfl, ?_⟩) (by assumption) ?_
          rotate_left
          · (intro wS hSw; (try dsimp only at hSw); (try simp only [List.getElem_toArray, List.getElem_cons_succ, List.getElem_cons_zero]); go_simp; try (with_reducible rfl))
          try simp only [Act.put, List.getElem_toArray, List.getElem_cons_succ, List.getElem_cons_zero, List.setIfInBounds_toArray, List.set_cons_zero, List.set_cons_succ]
          refine wpAnyH_take (i := 3) (v := ?_) rfl (by kernel_rfl) (by kernel_rfl) (by kernel_rfl) (fun _ _ _ h => h) (Or.inl ⟨by rfl, ?_⟩) (by assumption) ?_
          rotate_left
          · (intro wS hSw; (try dsimp only at hSw); (try simp only [List.getElem_toArray, List.getElem_cons_succ, List.getElem_cons_zero]); go_simp; try (with_reducible rfl))
          try simp only [Act.put, List.getElem_toArray, List.getElem_cons_succ, List.getElem_cons_zero, List.setIfInBounds_toArray, List.set_cons_zero, List.set_cons_succ]
          refine wpAnyH_take (i := 4) (v := ?_) rfl (by kernel_rfl) (by kernel_rfl) (by kernel_rfl) (fun _ _ _ h => h) (Or.inl ⟨by rfl, ?_⟩) (by assumption) ?_
          rotate_left
          · (intro wS hSw; (try dsimp only at hSw); (try simp only [List.getElem_toArray, List.getElem_cons_succ, List.getElem_cons_zero]); go_simp; try (with_reducible rfl))
          try simp only [Act.put, List.getElem_toArray, List.getElem_cons_succ, List.getElem_cons_zero, List.setIfInBounds_toArray, List.set_cons_zero, List.set_cons_succ]
          refine wpAnyH_take (i := 5) (v := ?_) rfl (by kernel_rfl) (by kernel_rfl) (by kernel_rfl) (fun _ _ _ h => h) (Or.inl ⟨by rfl, ?_⟩) (by assumption) ?_
          rotate_left
          · (intro wS hSw; (try dsimp only at hSw); (try simp only [List.getElem_toArray, List.getElem_cons_succ, List.getElem_cons_zero]); go_simp; try (with_reducible rfl))
          try simp only [Act.put, List.getElem_toArray, List.getElem_cons_succ, List.getElem_cons_zero, List.setIfInBounds_toArray, List.set_cons_zero, List.set_cons_succ]
          refine wpAnyH_take (i := 7) (v := ?_) rfl (by kernel_rfl) (by kernel_rfl) (by kernel_rfl) (fun _ _ _ h => h) (Or.inl ⟨by rfl, ?_⟩) (by assumption) ?_
          rotate_left
          · (intro wS hSw; (try dsimp only at hSw); (try simp only [List.getElem_toArray, List.getElem_cons_succ, List.getElem_cons_zero]); go_simp; try (with_reducible rfl))
          try simp only [Act.put, List.getElem_toArray, List.getElem_cons_succ, List.getElem_cons_zero, List.setIfInBounds_toArray, List.set_cons_zero, List.set_cons_succ]
          refine wpAnyH_take (i := 8) (v := ?_) rfl (by kernel_rfl) (by kernel_rfl) (by kernel_rfl) (fun _ _ _ h => h) (Or.inl ⟨by rfl, ?_⟩) (by assumption) ?_
          rotate_left
          · (intro wS hSw; (try dsimp only at hSw); (try simp only [List.getElem_toArray, List.getElem_cons_succ, List.getElem_cons_zero]); go_simp; try (with_reducible rfl))
          try simp only [Act.put, List.getElem_toArray, List.getElem_cons_succ, List.getElem_cons_zero, List.setIfInBounds_toArray, List.set_cons_zero, List.set_cons_succ]
          refine wpAnyH_take (i := 9) (v := ?_) rfl (by kernel_rfl) (by kernel_rfl) (by kernel_rfl) (fun _ _ _ h => h) (Or.inl ⟨by rfl, ?_⟩) (by assumption) ?_
          rotate_left
          · (intro wS hSw; (try dsimp only at hSw); (try simp only [List.getElem_toArray, List.getElem_cons_succ, List.getElem_cons_zero]); go_simp; try (with_reducible rfl))
          try simp only [Act.put, List.getElem_toArray, List.getElem_cons_succ, List.getElem_cons_zero, List.setIfInBounds_toArray, List.set_cons_zero, List.set_cons_succ]
          refine wpAnyH_take (i := 10) (v := ?_) rfl (by kernel_rfl) (by kernel_rfl) (by kernel_rfl) (fun _ _ _ h => h) (Or.inl ⟨by rfl, ?_⟩) (by assumption) ?_
          rotate_left
          · (intro wS hSw; (try dsimp only at hSw); (try simp only [List.getElem_toArray, List.getElem_cons_succ, List.getElem_cons_zero]); go_simp; try (with_reducible rfl))
          try simp only [Act.put, List.getElem_toArray, List.getElem_cons_succ, List.getElem_cons_zero, List.setIfInBounds_toArray, List.set_cons_zero, List.set_cons_succ]
          refine wpAnyH_take (i := 11) (v := ?_) rfl (by kernel_rfl) (by kernel_rfl) (by kernel_rfl) (fun _ _ _ h => h) (Or.inl ⟨by rfl, ?_⟩) (by assumption) ?_
          rotate_left
          · (intro wS hSw; (try dsimp only at hSw); (try simp only [List.getElem_toArray, List.getElem_cons_succ, List.getElem_cons_zero]); go_simp; try (with_reducible rfl))
          try simp only [Act.put, List.getElem_toArray, List.getElem_cons_succ, List.getElem_cons_zero, List.setIfInBounds_toArray, List.set_cons_zero, List.set_cons_succ]
          refine wpAnyH_take (i := 12) (v := ?_) rfl (by kernel_rfl) (by kernel_rfl) (by kernel_rfl) (fun _ _ _ h => h) (Or.inl ⟨by rfl, ?_⟩) (by assumption) ?_
          rotate_left
          · (intro wS hSw; (try dsimp only at hSw); (try simp only [List.getElem_toArray, List.getElem_cons_succ, List.getElem_cons_zero]); go_simp; try (with_reducible rfl))
          try simp only [Act.put, List.getElem_toArray, List.getElem_cons_succ, List.getElem_cons_zero, List.setIfInBounds_toArray, List.set_cons_zero, List.set_cons_succ]
          refine wpAnyH_ready (rs := [6]) (by kernel_rfl) (by simp) ?_
          refine AllReadyH.cons rfl (fun K hK => ?_) AllReadyH.nil
          go_simp
          refine (Ln.panswer L1.out.a L1.out.env L.out.out c hwf).mono ?_
          rintro e w6 ⟨he, F6, hV6, hK6, hM6⟩
          rw [← HOK.out] at he
          subst he
          rw [← hs] at hV6
          have T6 := Lib.hid (L1.out.left (p' := s) hV6 hK6 hM6)
          have e6 := hK6.cell d1 (fun hF => by have hx : w.heap.size ≤ b := L.out.pl.fa _ hF; omega)
          clear hV6 hK6 hM6
          go_wp2_with fail
          refine hK.out _ _ e6 (fun hHeld => ?_)
          clear hK K
          try simp only [Act.put, List.getElem_toArray, List.getElem_cons_succ, List.getElem_cons_zero, List.setIfInBounds_toArray, List.set_cons_zero, List.set_cons_succ]
          refine wpAnyH_ready (rs := [13]) (by kernel_rfl) (by simp) ?_
          refine AllReadyH.cons rfl (fun K hK => ?_) AllReadyH.nil
          go_simp
          refine (Ln.refAnswer T6.out.b L.out.gd.ok (by rw [L.out.out]; simp) c hwf).mono ?_
          rintro e w7 ⟨he, G7, hN7⟩
          rw [← HOK.out] at he
          subst he
          rw [← hs] at hN7
          have T7 := Lib.hid (T6.out.right hN7.rs hN7.kp hN7.more)
          have e7 := hN7.kp.cell e6 (fun hF => by have hx : w.heap.size ≤ b := L.out.pl.fb _ hF; omega)
          clear hN7
          go_wp2_with fail
          refine hK.out _ _ e7 (fun hHeld => ?_)
          clear hK K
          try simp only [Act.put, List.getElem_toArray, List.getElem_cons_succ, List.getElem_cons_zero, List.setIfInBounds_toArray, List.set_cons_zero, List.set_cons_succ]
          refine wpAnyH_take (i := 14) (v := ?_) rfl (by kernel_rfl) (by kernel_rfl) (by kernel_rfl) (fun _ _ _ h => h) (Or.inl ⟨by rfl, ?_⟩) (by assumption) ?_
          rotate_left
          · (intro wS hSw; (try dsimp only at hSw); (try simp only [List.getElem_toArray, List.getElem_cons_succ, List.getElem_cons_zero]); go_simp; try (with_reducible rfl))
          try simp only [Act.put, List.getElem_toArray, List.getElem_cons_succ, List.getElem_cons_zero, List.setIfInBounds_toArray, List.set_cons_zero, List.set_cons_succ]
          refine wpAnyH_done (by kernel_rfl) ?_ _
          refine NoPanic.normal ?_
          clear hs e6 e7 d1 L1 T6
          go_wp2_with fail
          refine (Ln.refGo' Ln.verbC9 T7.out.b HG.out.ok (by have := HG.out.host; omega) (by have := HG.out.out; have := HW.out; omega)).mono ?_
          rintro e w8 ⟨rfl, G8, hR8, hK8, hM8⟩
          have T8 := Lib.hid (T7.out.right hR8 hK8 hM8)
          clear hR8 hK8 hM8
          go_wp2_with fail
          refine (Ln.drainC T8.out (Ln.dr_turn HG.out HRO.out HSH.out)).mono ?_
          rintro e w9 hd
          obtain ⟨he, F9, G9, r9, over9, hL9⟩ := Ln.lp_drained (k := k + 1) HG.out HW.out hd
          subst he
          have L9 := Lib.hid hL9
          clear hd hL9 T8
          go_wp2
          go_roundw
          case rel => exact ⟨k + 1, F9, G9, r9, over9, by omega, by go_num, L9.out⟩
          case measure => simp [intOf]; omega
    · go_wp2_with fail
      refine (HA.out _ L.out.pl.env L.out.pl.sz).mono ?_
      rintro e ua ⟨rfl, hka⟩
      have L1 := Lib.hid (L.out.pl.quiet hka)
      clear hka
      go_wp2
      go_ret
      exact ⟨rfl, L1.out.kp.below (Nat.le_refl _) (fun _ h => h.elim)⟩

/-! ### The row's step -/
theorem met (os : Os) : laidMetH Tryz.prog Rows.servePlaysRow.laid ((World.laidAll Tryz.prog os Rows.servePlaysRow.laid).forCall (fun _ _ => 0) ⟨#[], #[.string { data := #[] }, .int .i64 0, .slice none 0 0], []⟩).memory := by
  rw [MakeChecks.laidMetH_plain _ _ _ (by kernel_rfl)]; exact laidMet_laidAll _ (by kernel_rfl) (by kernel_rfl)
theorem reads (os : Os) {H : Type} (enc : TypeId × Value → H) : ∃ places, DataW.whole enc Tryz.prog ((World.laidAll Tryz.prog os Rows.servePlaysRow.laid).forCall (fun _ _ => 0) ⟨#[], #[.string { data := #[] }, .int .i64 0, .slice none 0 0], []⟩).memory Tryz.f3.params.toList Rows.servePlaysSpec.vars false (#[.string { data := #[] }, .int .i64 0, .slice none 0 0] : Array Value).toList 8 = some ([.lit (.string []), .lit (.int .i64 0), .nil], [], places) :=
  ⟨[], by kernel_rfl⟩
set_option maxRecDepth 100000 in
theorem fits (os : Os) {H : Type} (enc : TypeId × Value → H) : ∃ (w : World) (tape : Tape) (i : Input), w.os = os ∧ (w.forCall tape i).Shaped Tryz.checked.prog ∧ i.vars = [] ∧ Input.okWide Tryz.checked.prog (w.forCall tape i) .any w.heap.size 3 i ∧
    (OpenSpec.ofChange Rows.servePlaysSpec).preRow enc Tryz.checked.prog Tryz.f3 Rows.servePlaysRow.domain false Rows.servePlaysRow.laid (w.forCall tape i).memory i.args ∧ ({} : Assume).holds Tryz.checked.prog (lone (Frame.enter Tryz.checked.prog 3 i.args .normal) [] (w.forCall tape i)) := by
  obtain ⟨places, hx⟩ := reads os enc
  have hok : Input.okWideB Tryz.checked.prog ((World.laidAll Tryz.prog os Rows.servePlaysRow.laid).forCall (fun _ _ => 0) ⟨#[], #[.string { data := #[] }, .int .i64 0, .slice none 0 0], []⟩) 3 ⟨#[], #[.string { data := #[] }, .int .i64 0, .slice none 0 0], []⟩ = true := by kernel_rfl
  exact ⟨(World.laidAll Tryz.prog os Rows.servePlaysRow.laid), fun _ _ => 0, ⟨#[], #[.string { data := #[] }, .int .i64 0, .slice none 0 0], []⟩, World.laidAll_os _ _ _, World.shaped_of_ZipB (by kernel_rfl) (by kernel_rfl), (Input.okWide_of_okWideB (base := 0) hok).1, (Input.okWide_of_okWideB hok).2,
    OpenSpec.preRow_of_cond 8 hx (by kernel_rfl) (fun k hk => by cases hk) (by kernel_rfl) (met os), by
      simp only [Assume.holds]
      exact ⟨by simp, by simp, fun _ => Modest.zero, by simp, by simp⟩⟩

set_option maxRecDepth 100000 in
theorem lifted (os : Os) (started : os.Started) (H : Type) (enc : TypeId × Value → H) (F : Stop.Interp) :
    ReturnsInHanded {} Tryz.checked os 3 .any ((OpenSpec.ofChange Rows.servePlaysSpec).preRow enc Tryz.prog Tryz.f3 Rows.servePlaysRow.domain false Rows.servePlaysRow.laid) (((OpenSpec.ofChange Rows.servePlaysSpec).at F).post enc Tryz.prog Tryz.f3 false true false false) := by
  refine returnsInHanded_of_row (C := Tryz.checked) (s := OpenSpec.ofChange Rows.servePlaysSpec) own started (by kernel_rfl) Tryz.func3 (fits os enc) ?_
  intro W base args ds gs before hval0 hW0 _ hcond hsz hL shape _
  show Calls Tryz.prog 3 args W fun e W' => ∃ v, e = .returned v ∧ Rows.servePlaysSpec.post enc Tryz.prog Tryz.f3 false true false false W args v W'
  have hval : ∀ (j : Nat) t v, Tryz.f3.params[j]? = some t → args[j]? = some v → Value.okWide Tryz.prog W .any base t v := hval0
  have hW : DataW.Whole enc Tryz.prog Tryz.f3.params.toList Rows.servePlaysSpec.vars false W args.toList ds gs before := hW0
  have hW' := hW
  obtain ⟨p, q, hA0, hV, rfl, hfz, hnd⟩ := hW
  have hA : DataW.TrodAll enc Tryz.prog W 0 (fun _ => true) true Tryz.f3.params.toList args.toList ds p := hA0
  rw [Tryz.params3] at hA hval
  obtain ⟨v0, vs0, d0, ds0, p0, q0, hargs, rfl, rfl, h0, r0⟩ := trodAll_cons hA
  obtain ⟨v1, vs1, d1, ds1, p1, q1, rfl, rfl, rfl, h1, r1⟩ := trodAll_cons r0
  obtain ⟨v2, vs2, d2, ds2, p2, q2, rfl, rfl, rfl, h2, r2⟩ := trodAll_cons r1
  obtain ⟨rfl, rfl, rfl⟩ := trodAll_nil r2
  obtain rfl : args = #[v0, v1, v2] := by cases args; simp_all
  obtain ⟨rfl, rfl⟩ := trodVars_none hV
  obtain ⟨a0, rfl, rfl, rfl, w0⟩ := ChangeMaps.open_string Tryz.underlying9 (hval 0 9 v0 rfl rfl) h0
  obtain ⟨a1, rfl, rfl, rfl, w1⟩ := open_int Tryz.underlying3 (hval 1 3 v1 rfl rfl) h1
  obtain ⟨a2, len2, cap2, rfl⟩ := okWide_slice Tryz.underlying22 (hval 2 22 v2 rfl rfl)
  have k2 := h2
  have lt2 : ∀ x ∈ p2, x.block < W.heap.size := by obtain ⟨m, hm⟩ := k2; exact DataW.trod_lt m _ _ _ hm
  obtain ⟨b2, x2, c2, e2, l2, m2, B2⟩ : ∃ a L cap, Value.slice a2 len2 cap2 = .slice a L.length cap ∧ L.length ≤ cap ∧ cap ≤ 9223372036854775807 ∧ Ln.Ops W a L := by
    obtain ⟨fuel, hf⟩ := h2
    exact Ln.arg_ops hf
  injection e2 with e2 f2 g2
  subst e2 f2 g2
  have m0 : a0.size ≤ 140737488351232 := by have h := sized_string hsz (j := 0) (t := 9) (bytes := a0.data.toList) rfl rfl; rw [Array.length_toList] at h; exact h
  obtain ⟨hE, h9⟩ := Ln.env9 W hL shape
  clear hA0 hval0
  refine (walk a0 a1 a2 x2 cap2 W m0 w1 l2 m2 B2 hE h9).mono fun e W' ⟨he, bel⟩ => ?_
  subst he
  exact ⟨_, rfl, _, _, _, [], _, [], hW', trodAll_mk1 (shut_bool Tryz.underlying4 _), (trodAll_cons_mk (ChangeMaps.shut_string Tryz.underlying9 w0) (trodAll_cons_mk (shut_int Tryz.underlying3 w1) (trodAll_cons_mk (Below.trod (by kernel_rfl) (by kernel_rfl) (of_decide_eq_true (by kernel_rfl)) k2 bel lt2) trodAll_mk0))), rfl, bel.frame _, fun h => by cases h⟩

theorem over : Rows.ServePlaysSaid :=
  OpenClaim.holds_of_cond 3 Tryz.f3 rfl rfl rfl rfl rfl rfl rfl ⟨rfl, rfl, rfl, rfl, rfl⟩ rfl rfl rfl rfl rfl (by kernel_rfl) Tryz.func3 (by kernel_rfl)
    (of_decide_eq_true (by kernel_rfl)) (by unfold Func.isWrapper; first | (rw [if_pos (by decide +kernel)]; kernel_rfl) | (rw [if_neg (by decide +kernel)]; exact ⟨rfl, rfl⟩))
    (fun os started H enc _ F => by rw [OpenClaim.pre_eq_preRow]; exact lifted os started H enc F)

theorem plain (f : FuncId) (fn : Func) (hf : Tryz.pinned.checked.prog.funcNamed "pillarbox/pillarboxlaw09.ServePlays" = some f) (hfn : Tryz.pinned.checked.prog.funcs[f]? = some fn) :
    true = Tryz.pinned.checked.prog.looks [] ∧ ∀ (j : Nat) t, fn.params[j]? = some t → Tryz.pinned.checked.prog.wantsStandIn t = false := by
  obtain rfl : f = 3 := Option.some.inj ((show Tryz.prog.funcNamed "pillarbox/pillarboxlaw09.ServePlays" = some 3 by kernel_rfl).symm.trans hf) |>.symm
  obtain rfl : fn = Tryz.f3 := (Option.some.inj (Tryz.func3.symm.trans hfn)).symm
  refine ⟨by kernel_rfl, fun j t ht => ?_⟩
  rw [Tryz.params3] at ht
  have hm : t ∈ [9, 3, 22] := by simpa using Array.mem_of_getElem? ht
  have hall : ([9, 3, 22].all fun u => !Tryz.prog.wantsStandIn u) = true := by kernel_rfl
  exact (show Tryz.prog.wantsStandIn t = false by simpa using List.all_eq_true.1 hall t hm)

/-- The statement: the tied card. -/
theorem proved : Rows.ServePlaysCardSaid :=
  Claim7.holds_tied_plain_at .later [] _ _ _ _ over (fun _ h => by cases h) (by kernel_rfl) (fun _ h => by cases h) servePlays_row_tie rfl ⟨rfl, rfl⟩ (by kernel_rfl) rfl plain (by kernel_rfl)
#print axioms proved
end Go.Proofs.YtcjljldknekhiaaGreatDoor.servePlays
