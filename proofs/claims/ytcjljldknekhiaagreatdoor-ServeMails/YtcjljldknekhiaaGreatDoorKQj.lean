/-
  What the law's drain returns: all events of both are the same.
-/
import Derived.Test.YtcjljldknekhiaaGreatDoorKQi
import Derived.Deep.Cut
namespace Go.Proofs.YtcjljldknekhiaaGreatDoor.Ln
open Go.RowKit
set_option linter.unusedVariables false
set_option linter.unusedSimpArgs false

def Drained (w0 : World) (g h ob : Nat) (r : Se) (e : Ending) (w' : World) : Prop :=
  e = .returned (.bool true) ∧ ∃ F G over, Pl w0 w' g h ob F G r.mute r.mute over ∧ Sh over r.mute
set_option maxHeartbeats 8000000 in
set_option maxRecDepth 100000 in
theorem drainC {w0 w : World} {g h ob : Nat} {F G : Nat → Prop} {p r : Se} {over : Bool} (T : Pl w0 w g h ob F G p r over) (D : Dr p r over) :
    Calls Tryz.prog 12 #[.pointer (some ⟨g, 0, none⟩), .pointer (some ⟨h, 0, none⟩), .pointer (some ⟨ob, 0, none⟩)] w (Drained w0 g h ob r) := by
  have T0 := Lib.hid T
  have D0 := Lib.hid D
  clear T D
  go_enter Tryz.func12, Tryz.ntmps12
  go_wp2
  go_loopw [] (fun wr => ∃ F G p q over, Hid (Pl w0 wr g h ob F G p q over) ∧ Hid (Dr p q over) ∧ Hid (q.mute = r.mute)) (fun wr => muW wr g)
  case atStart => exact ⟨F, G, p, r, over, T0.out, D0.out, rfl⟩
  case round =>
    obtain ⟨F1, G1, p1, q1, o1, T1, D1, M1⟩ := hrel
    cases hn : q1.out with
    | nil =>
      have HNE := Lib.hid hn
      clear hn
      go_wp2_with fail
      refine (pnext_none T1.out.a T1.out.env D1.out.gd (by rw [D1.out.go]; exact HNE.out)).mono ?_
      rintro e u2 ⟨he, F6, hV6, hK6, hM6⟩
      obtain ⟨W2, V2, HW2, HVV2, hk2, hA2⟩ := laid_ev u2 0 nobody nobody none none 0 0 0 0
      rw [zev_is, ← HVV2.out] at he
      subst he
      rw [D1.out.go] at hV6
      have T6 := Lib.hid ((T1.out.left hV6 hK6 hM6).quiet hk2)
      have HA2 := Lib.hid hA2
      obtain ⟨x3, c3, hc3⟩ := bodyless T6.out.b
      rw [HNE.out, List.length_nil] at hc3
      clear hV6 hK6 hM6 hk2 hA2
      go_wp2_with (refine step_laidE (by rfl) (.tmp 7) (.tmp 13) (by rfl) u2 (by rfl) 0 nobody nobody none none 0 0 0 0 W2 HW2.out (by rfl) HVV2.out ?_)
      refine wp_region_noPanic ?_
      refine wp_region_held_drew (S := fun w' => At w' u2.heap.size 46 (evA 0 nobody nobody none 0 0 none 0 0) ∧ At w' ob 4 #[.bool o1]) (by kernel_rfl) ⟨HA2.out, T6.out.oc⟩ (fun hHeld => ?_)
      refine wpAnyH_take (i := 0) (v := ?_) rfl (by kernel_rfl) (by kernel_rfl) (by kernel_rfl) (fun _ _ _ h => h) (Or.inl ⟨by rfl, ?_⟩) (by assumption) ?_
      rotate_left
      · (intro wS hSw; (try dsimp only at hSw); obtain ⟨hS1, hS2⟩ := hSw; obtain ⟨y0, y1, y2, y3, y4, y5, y6, y7⟩ := hS1.eight; have yo : wS.cell? ⟨ob, 0, none⟩ = some (.bool o1) := hS2.cell 0; (try simp only [List.getElem_toArray, List.getElem_cons_succ, List.getElem_cons_zero]); go_simp; try (with_reducible rfl))
      try simp only [Act.put, List.getElem_toArray, List.getElem_cons_succ, List.getElem_cons_zero, List.setIfInBounds_toArray, List.set_cons_zero, List.set_cons_succ]
      refine wpAnyH_take (i := 1) (v := ?_) rfl (by kernel_rfl) (by kernel_rfl) (by kernel_rfl) (fun _ _ _ h => h) (Or.inl ⟨by rfl, ?_⟩) (by assumption) ?_
      rotate_left
      · (intro wS hSw; (try dsimp only at hSw); obtain ⟨hS1, hS2⟩ := hSw; obtain ⟨y0, y1, y2, y3, y4, y5, y6, y7⟩ := hS1.eight; have yo : wS.cell? ⟨ob, 0, none⟩ = some (.bool o1) := hS2.cell 0; (try simp only [List.getElem_toArray, List.getElem_cons_succ, List.getElem_cons_zero]); go_simp; try (with_reducible rfl))
      try simp only [Act.put, List.getElem_toArray, List.getElem_cons_succ, List.getElem_cons_zero, List.setIfInBounds_toArray, List.set_cons_zero, List.set_cons_succ]
      refine wpAnyH_take (i := 2) (v := ?_) rfl (by kernel_rfl) (by kernel_rfl) (by kernel_rfl) (fun _ _ _ h => h) (Or.inl ⟨by rfl, ?_⟩) (by assumption) ?_
      rotate_left
      · (intro wS hSw; (try dsimp only at hSw); obtain ⟨hS1, hS2⟩ := hSw; obtain ⟨y0, y1, y2, y3, y4, y5, y6, y7⟩ := hS1.eight; have yo : wS.cell? ⟨ob, 0, none⟩ = some (.bool o1) := hS2.cell 0; (try simp only [List.getElem_toArray, List.getElem_cons_succ, List.getElem_cons_zero]); go_simp; try (with_reducible rfl))
      try simp only [Act.put, List.getElem_toArray, List.getElem_cons_succ, List.getElem_cons_zero, List.setIfInBounds_toArray, List.set_cons_zero, List.set_cons_succ]
      refine wpAnyH_take (i := 3) (v := ?_) rfl (by kernel_rfl) (by kernel_rfl) (by kernel_rfl) (fun _ _ _ h => h) (Or.inl ⟨by rfl, ?_⟩) (by assumption) ?_
      rotate_left
      · (intro wS hSw; (try dsimp only at hSw); obtain ⟨hS1, hS2⟩ := hSw; obtain ⟨y0, y1, y2, y3, y4, y5, y6, y7⟩ := hS1.eight; have yo : wS.cell? ⟨ob, 0, none⟩ = some (.bool o1) := hS2.cell 0; (try simp only [List.getElem_toArray, List.getElem_cons_succ, List.getElem_cons_zero]); go_simp; try (with_reducible rfl))
      try simp only [Act.put, List.getElem_toArray, List.getElem_cons_succ, List.getElem_cons_zero, List.setIfInBounds_toArray, List.set_cons_zero, List.set_cons_succ]
      refine wpAnyH_take (i := 4) (v := ?_) rfl (by kernel_rfl) (by kernel_rfl) (by kernel_rfl) (fun _ _ _ h => h) (Or.inl ⟨by rfl, ?_⟩) (by assumption) ?_
      rotate_left
      · (intro wS hSw; (try dsimp only at hSw); obtain ⟨hS1, hS2⟩ := hSw; obtain ⟨y0, y1, y2, y3, y4, y5, y6, y7⟩ := hS1.eight; have yo : wS.cell? ⟨ob, 0, none⟩ = some (.bool o1) := hS2.cell 0; (try simp only [List.getElem_toArray, List.getElem_cons_succ, List.getElem_cons_zero]); go_simp; try (with_reducible rfl))
      try simp only [Act.put, List.getElem_toArray, List.getElem_cons_succ, List.getElem_cons_zero, List.setIfInBounds_toArray, List.set_cons_zero, List.set_cons_succ]
      refine wpAnyH_ready (rs := [5]) (by kernel_rfl) (by simp) ?_
      refine AllReadyH.cons rfl (fun K hK => ?_) AllReadyH.nil
      go_simp
      refine (same_none _).mono ?_
      rintro e w6 ⟨rfl, hk6⟩
      have kk6 : Keep (fun _ => False) W2 w6 := ((Keep.refl (fun _ => False) W2).drew).trans hk6 (fun _ _ h => h)
      have T9 := Lib.hid (T6.out.quiet kk6)
      have HE9 := Lib.hid (HA2.out.keep kk6 (fun h => h))
      clear hk6 kk6
      go_wp2_with fail
      refine hK.out _ _ ⟨HE9.out, T9.out.oc⟩ (fun hHeld => ?_)
      clear hK K
      try simp only [Act.put, List.getElem_toArray, List.getElem_cons_succ, List.getElem_cons_zero, List.setIfInBounds_toArray, List.set_cons_zero, List.set_cons_succ]
      refine wpAnyH_take (i := 6) (v := ?_) rfl (by kernel_rfl) (by kernel_rfl) (by kernel_rfl) (fun _ _ _ h => h) (Or.inl ⟨by rfl, ?_⟩) (by assumption) ?_
      rotate_left
      · (intro wS hSw; (try dsimp only at hSw); obtain ⟨hS1, hS2⟩ := hSw; obtain ⟨y0, y1, y2, y3, y4, y5, y6, y7⟩ := hS1.eight; have yo : wS.cell? ⟨ob, 0, none⟩ = some (.bool o1) := hS2.cell 0; (try simp only [List.getElem_toArray, List.getElem_cons_succ, List.getElem_cons_zero]); go_simp; try (with_reducible rfl))
      try simp only [Act.put, List.getElem_toArray, List.getElem_cons_succ, List.getElem_cons_zero, List.setIfInBounds_toArray, List.set_cons_zero, List.set_cons_succ]
      refine wpAnyH_take (i := 7) (v := ?_) rfl (by kernel_rfl) (by kernel_rfl) (by kernel_rfl) (fun _ _ _ h => h) (Or.inl ⟨by rfl, ?_⟩) (by assumption) ?_
      rotate_left
      · (intro wS hSw; (try dsimp only at hSw); obtain ⟨hS1, hS2⟩ := hSw; obtain ⟨y0, y1, y2, y3, y4, y5, y6, y7⟩ := hS1.eight; have yo : wS.cell? ⟨ob, 0, none⟩ = some (.bool o1) := hS2.cell 0; (try simp only [List.getElem_toArray, List.getElem_cons_succ, List.getElem_cons_zero]); go_simp; try (with_reducible rfl))
      try simp only [Act.put, List.getElem_toArray, List.getElem_cons_succ, List.getElem_cons_zero, List.setIfInBounds_toArray, List.set_cons_zero, List.set_cons_succ]
      refine wpAnyH_take (i := 8) (v := ?_) rfl (by kernel_rfl) (by kernel_rfl) (by kernel_rfl) (fun _ _ _ h => h) (Or.inl ⟨by rfl, ?_⟩) (by assumption) ?_
      rotate_left
      · (intro wS hSw; (try dsimp only at hSw); obtain ⟨hS1, hS2⟩ := hSw; obtain ⟨y0, y1, y2, y3, y4, y5, y6, y7⟩ := hS1.eight; have yo : wS.cell? ⟨ob, 0, none⟩ = some (.bool o1) := hS2.cell 0; (try simp only [List.getElem_toArray, List.getElem_cons_succ, List.getElem_cons_zero]); go_simp; try (with_reducible rfl))
      try simp only [Act.put, List.getElem_toArray, List.getElem_cons_succ, List.getElem_cons_zero, List.setIfInBounds_toArray, List.set_cons_zero, List.set_cons_succ]
      refine wpAnyH_take (i := 10) (v := ?_) rfl (by kernel_rfl) (by kernel_rfl) (by kernel_rfl) (fun _ _ _ h => h) (Or.inl ⟨by rfl, ?_⟩) (by assumption) ?_
      rotate_left
      · (intro wS hSw; (try dsimp only at hSw); obtain ⟨hS1, hS2⟩ := hSw; obtain ⟨y0, y1, y2, y3, y4, y5, y6, y7⟩ := hS1.eight; have yo : wS.cell? ⟨ob, 0, none⟩ = some (.bool o1) := hS2.cell 0; (try simp only [List.getElem_toArray, List.getElem_cons_succ, List.getElem_cons_zero]); go_simp; try (with_reducible rfl))
      try simp only [Act.put, List.getElem_toArray, List.getElem_cons_succ, List.getElem_cons_zero, List.setIfInBounds_toArray, List.set_cons_zero, List.set_cons_succ]
      refine wpAnyH_take (i := 11) (v := ?_) rfl (by kernel_rfl) (by kernel_rfl) (by kernel_rfl) (fun _ _ _ h => h) (Or.inl ⟨by rfl, ?_⟩) (by assumption) ?_
      rotate_left
      · (intro wS hSw; (try dsimp only at hSw); obtain ⟨hS1, hS2⟩ := hSw; obtain ⟨y0, y1, y2, y3, y4, y5, y6, y7⟩ := hS1.eight; have yo : wS.cell? ⟨ob, 0, none⟩ = some (.bool o1) := hS2.cell 0; (try simp only [List.getElem_toArray, List.getElem_cons_succ, List.getElem_cons_zero]); go_simp; try (with_reducible rfl))
      try simp only [Act.put, List.getElem_toArray, List.getElem_cons_succ, List.getElem_cons_zero, List.setIfInBounds_toArray, List.set_cons_zero, List.set_cons_succ]
      refine wpAnyH_take (i := 12) (v := ?_) rfl (by kernel_rfl) (by kernel_rfl) (by kernel_rfl) (fun _ _ _ h => h) (Or.inl ⟨by rfl, ?_⟩) (by assumption) ?_
      rotate_left
      · (intro wS hSw; (try dsimp only at hSw); obtain ⟨hS1, hS2⟩ := hSw; obtain ⟨y0, y1, y2, y3, y4, y5, y6, y7⟩ := hS1.eight; have yo : wS.cell? ⟨ob, 0, none⟩ = some (.bool o1) := hS2.cell 0; (try simp only [List.getElem_toArray, List.getElem_cons_succ, List.getElem_cons_zero]); go_simp; try (with_reducible rfl))
      try simp only [Act.put, List.getElem_toArray, List.getElem_cons_succ, List.getElem_cons_zero, List.setIfInBounds_toArray, List.set_cons_zero, List.set_cons_succ]
      refine wpAnyH_ready (rs := [9]) (by kernel_rfl) (by simp) ?_
      refine AllReadyH.cons rfl (fun K hK => ?_) AllReadyH.nil
      go_simp
      refine (pover T9.out.a).mono ?_
      rintro e w7 ⟨he, hw⟩
      subst w7
      rw [D1.out.overR] at he
      subst he
      go_wp2_with fail
      refine hK.out _ _ ⟨HE9.out, T9.out.oc⟩ (fun hHeld => ?_)
      clear hK K
      try simp only [Act.put, List.getElem_toArray, List.getElem_cons_succ, List.getElem_cons_zero, List.setIfInBounds_toArray, List.set_cons_zero, List.set_cons_succ]
      refine wpAnyH_take (i := 13) (v := ?_) rfl (by kernel_rfl) (by kernel_rfl) (by kernel_rfl) (fun _ _ _ h => h) (Or.inl ⟨by rfl, ?_⟩) (by assumption) ?_
      rotate_left
      · (intro wS hSw; (try dsimp only at hSw); obtain ⟨hS1, hS2⟩ := hSw; obtain ⟨y0, y1, y2, y3, y4, y5, y6, y7⟩ := hS1.eight; have yo : wS.cell? ⟨ob, 0, none⟩ = some (.bool o1) := hS2.cell 0; (try simp only [List.getElem_toArray, List.getElem_cons_succ, List.getElem_cons_zero]); go_simp; try (with_reducible rfl))
      try simp only [Act.put, List.getElem_toArray, List.getElem_cons_succ, List.getElem_cons_zero, List.setIfInBounds_toArray, List.set_cons_zero, List.set_cons_succ]
      refine wpAnyH_take (i := 14) (v := ?_) rfl (by kernel_rfl) (by kernel_rfl) (by kernel_rfl) (fun _ _ _ h => h) (Or.inl ⟨by rfl, ?_⟩) (by assumption) ?_
      rotate_left
      · (intro wS hSw; (try dsimp only at hSw); obtain ⟨hS1, hS2⟩ := hSw; obtain ⟨y0, y1, y2, y3, y4, y5, y6, y7⟩ := hS1.eight; have yo : wS.cell? ⟨ob, 0, none⟩ = some (.bool o1) := hS2.cell 0; (try simp only [List.getElem_toArray, List.getElem_cons_succ, List.getElem_cons_zero]); go_simp; try (with_reducible rfl))
      try simp only [Act.put, List.getElem_toArray, List.getElem_cons_succ, List.getElem_cons_zero, List.setIfInBounds_toArray, List.set_cons_zero, List.set_cons_succ]
      refine wpAnyH_take (i := 15) (v := ?_) rfl (by kernel_rfl) (by kernel_rfl) (by kernel_rfl) (fun _ _ _ h => h) (Or.inl ⟨by rfl, ?_⟩) (by assumption) ?_
      rotate_left
      · (intro wS hSw; (try dsimp only at hSw); obtain ⟨hS1, hS2⟩ := hSw; obtain ⟨y0, y1, y2, y3, y4, y5, y6, y7⟩ := hS1.eight; have yo : wS.cell? ⟨ob, 0, none⟩ = some (.bool o1) := hS2.cell 0; (try simp only [List.getElem_toArray, List.getElem_cons_succ, List.getElem_cons_zero]); go_simp; try (with_reducible rfl))
      try simp only [Act.put, List.getElem_toArray, List.getElem_cons_succ, List.getElem_cons_zero, List.setIfInBounds_toArray, List.set_cons_zero, List.set_cons_succ]
      refine wpAnyH_done (by kernel_rfl) ?_ _
      refine NoPanic.normal ?_
      go_wp2
      go_ret
      have e1 : q1 = r.mute := (Se.mute_of HNE.out).symm.trans M1.out
      refine ⟨by simp, F6, G1, o1, ?_, ?_⟩
      · rw [← e1]; exact T9.out
      · rw [← e1]; exact D1.out.sh
    | cons ev L =>
      have HNE := Lib.hid hn
      clear hn
      go_wp2_with fail
      refine (pnext_some T1.out.a T1.out.env D1.out.gd ev L (by rw [D1.out.go]; exact HNE.out)).mono ?_
      rintro e u2 ⟨k2, t2, f2, rx2, rn2, rc2, bx2, bn2, bc2, s6, F6, E6, rfl, hEv6, hmE6, _, hgo6, gd6, _, _, hmu6, hV6, hK6, hM6⟩
      obtain ⟨W2, V2, HW2, HVV2, hk2, hA2⟩ := laid_ev u2 k2 t2 f2 rx2 bx2 rn2 rc2 bn2 bc2
      have T6 := Lib.hid ((T1.out.left hV6 hK6 hM6).quiet hk2)
      have D6 := Lib.hid (D1.out.next HNE.out hgo6 gd6)
      have HMU6 := Lib.hid hmu6
      have hEv6' := hEv6.keepW (R' := E6) hk2 (fun b _ hb => ⟨fun h => h, hb⟩)
      obtain ⟨wv, ov, rv, bv, qo, qb, xs, hR⟩ := T6.out.b
      obtain ⟨x, c, rfl, _⟩ := hR.out.shape
      obtain ⟨b, off, k, t, f, rx, rn, rc, bx, bn, bc, rfl, hnL, hnc, hEvR, hblt, d0, d1, d2, d3, d4, d5, d6, d7⟩ := hR.first HNE.out
      obtain ⟨n, hnn⟩ : ∃ n, n = q1.out.length := ⟨_, rfl⟩
      have hg3 := hR.frozen 3
      obtain ⟨_, _, _, c3, _⟩ := hR.cells
      rw [← hnn] at c3 hR hnL hnc
      obtain ⟨W3, V3, HW3, HVV3, hk3, hA3⟩ := laid_ev W2 k t f rx bx rn rc bn bc
      have hlh : h < W2.heap.size := hR.flt h hR.fg
      have n1 : 1 ≤ n := by omega
      have n0 : ¬ ((n : Int) = 0) := by omega
      have n2 : (0 : Int) < (n : Int) := by omega
      obtain ⟨s1, s2⟩ := cutE_drop (some ⟨b, off, none⟩) n c n1 hnc
      have hR3 := hR.other hk3 (fun _ _ h => h)
      obtain ⟨hP, hKP⟩ := hR3.popped (by rw [hnn]) n1
      have e3 := hk3.cell c3 (fun h => h)
      have e3f : W3.frozen? ⟨h, 3, none⟩ = false := hR3.frozen 3
      obtain ⟨X, hX⟩ : ∃ X, X = (if c = 1 then (some (⟨b, off, none⟩ : Addr)) else (some (⟨b, off, none⟩ : Addr)).map (fun a => a.add 8)) := ⟨_, rfl⟩
      unfold cutV at hP hKP
      rw [← hX] at s1 s2 hP hKP
      obtain ⟨W4, hW4⟩ : ∃ W4, W4 = W3.setCell ⟨h, 3, none⟩ (.slice X (n - 1) (c - 1)) := ⟨_, rfl⟩
      rw [← hW4] at hP hKP
      have T7 := Lib.hid ((T6.out.quiet hk3).right hP hKP (More.refl _ _))
      have hne1 : ∀ {i : Nat}, G1 i → i ≠ u2.heap.size := fun {i} hi e => by have h1 := T1.out.b.lt i hi; have h2 := hK6.size; omega
      have hlt2 : u2.heap.size < W2.heap.size := hA2.lt
      have hne2 : ∀ {i : Nat}, G1 i → i ≠ W2.heap.size := fun {i} hi e => by have h1 := T1.out.b.lt i hi; have h2 := hK6.size; omega
      have HA4 := Lib.hid ((hA2.keep hk3 (fun h => h)).keep hKP (fun e => hne1 e rfl))
      have HB4 := Lib.hid (hA3.keep hKP (fun e => hne2 e rfl))
      have hob : ob < wr.heap.size := T1.out.oc.lt
      have HNEE : Hid (¬ u2.heap.size = ob) := Lib.hid (by have h2 := hK6.size; omega)
      have HNEF : Hid (¬ W2.heap.size = ob) := Lib.hid (by have h2 := hK6.size; omega)
      have HSAME : Hid (∀ W5, Keep (fun k => k = ob) W4 W5 → Calls Tryz.prog 23 #[.agg (evA k2 t2 f2 rx2 rn2 rc2 bx2 bn2 bc2), .agg (evA k t f rx rn rc bx bn bc)] W5.drew fun e w' => e = .returned (.bool true) ∧ Keep (fun _ => False) W5.drew w') := Lib.hid (fun W5 k5 => by
        have hE1 : EvAt E6 W4 ev (evCells k2 t2 f2 (.slice rx2 rn2 rc2) (.slice bx2 bn2 bc2)) := T1.out.evL hmE6 (hEv6'.keepW (R' := E6) hk3 (fun b _ hb => ⟨fun h => h, hb⟩)) hKP
        have hE2 : EvAt E6 W5 ev (evCells k2 t2 f2 (.slice rx2 rn2 rc2) (.slice bx2 bn2 bc2)) := hE1.keepW (R' := E6) k5 (fun i _ hi => ⟨fun e => by
          subst e
          rcases hmE6 i hi with h1 | h1
          · exact T1.out.oa h1
          · omega, hi⟩)
        have hR2 : EvAt (Rd G1 h qo qb) W4 ev (evCells k t f (.slice rx rn rc) (.slice bx bn bc)) := by
          have h1 := hEvR.keepW (R' := Rd G1 h qo qb) hk3 (fun b _ hb => ⟨fun h => h, hb⟩)
          rw [hW4]
          exact h1.keepW (R' := Rd G1 h qo qb) ((Keep.refl (fun i => i = h) W3).setCell (p := ⟨h, 3, none⟩) (fun _ => rfl) _) (fun b _ hb => ⟨hb.2.1, hb⟩)
        have hR3 : EvAt (Rd G1 h qo qb) W5 ev (evCells k t f (.slice rx rn rc) (.slice bx bn bc)) := hR2.keepW (R' := Rd G1 h qo qb) k5 (fun i _ hi => ⟨fun e => by subst e; exact T1.out.og hi.1, hi⟩)
        have kd : Keep (fun _ => False) W5 W5.drew := (Keep.refl (fun _ => False) W5).drew
        exact same_ev (hE2.keepW (R' := E6) kd (fun b _ hb => ⟨fun h => h, hb⟩)) (hR3.keepW (R' := Rd G1 h qo qb) kd (fun b _ hb => ⟨fun h => h, hb⟩)) (ro_ev D1.out.ro HNE.out))
      have hkind : k = kindOf ev := hEvR.parts.1
      have HKIND := Lib.hid hkind
      have o4 := T7.out.overCell.1
      have o4f := T7.out.overCell.2
      have b4 : W4.cell? ⟨W2.heap.size, 0, none⟩ = some (.int .i64 k) := HB4.out.cell 0
      rw [← HVV2.out]
      clear hEv6 hEv6' hmE6 hgo6 gd6 hmu6 hV6 hK6 hM6 hk2 hA2 hR hR3 hP hKP hEvR hkind hX hne1 hne2 hnL hk3 hA3 hnn
      go_upto_region 6 with (first | (refine step_laidE (by rfl) (.tmp 7) (.tmp 13) (by rfl) u2 (by rfl) k2 t2 f2 rx2 bx2 rn2 rc2 bn2 bc2 W2 HW2.out (by rfl) HVV2.out ?_) | (refine step_laidE (by rfl) (.tmp 9) (.tmp 41) (by rfl) W2 (by rfl) k t f rx bx rn rc bn bc W3 HW3.out (by rfl) (by rfl) ?_))
      rw [← hW4]
      clear hW4 d0 d1 d2 d3 d4 d5 d6 d7 s1 s2 e3 e3f c3 hg3
      cases o1
      · by_cases hk3 : k = 3
        · have HOV : Hid (true = (false || isShut ev)) := Lib.hid (by
            have h1 : isShut ev = true := by rw [← shut_kind, ← HKIND.out]; exact hk3
            rw [h1]; rfl)
          have hkb : (k == 3) = true := by rw [beq_iff_eq]; exact hk3
          have T8 := Lib.hid (T7.out.set true)
          have D8 : Hid (Dr s6 q1.pop true) := Lib.hid (by rw [HOV.out]; exact D6.out)
          obtain ⟨W5, hW5⟩ : ∃ W5, W5 = W4.setCell ⟨ob, 0, none⟩ (.bool true) := ⟨_, rfl⟩
          have k45 : Keep (fun k => k = ob) W4 W5 := by rw [hW5]; exact (Keep.refl (fun k => k = ob) W4).setCell (p := ⟨ob, 0, none⟩) (fun _ => rfl) _
          rw [← hW5] at T8
          have HE8 := Lib.hid (HA4.out.keep k45 HNEE.out)
          have HF8 := Lib.hid (HB4.out.keep k45 HNEF.out)
          have HS8 := Lib.hid (HSAME.out W5 k45)
          go_wp2
          rw [← hW5]
          clear k45 hW5
          (try clear hk3 hkb)
          (try clear b4 o4 o4f)
          refine wp_region_noPanic ?_
          refine wp_region_held_drew (S := fun w' => At w' u2.heap.size 46 (evA k2 t2 f2 rx2 rn2 rc2 bx2 bn2 bc2) ∧ At w' W2.heap.size 46 (evA k t f rx rn rc bx bn bc) ∧ At w' ob 4 #[.bool true]) (by kernel_rfl) ⟨HE8.out, HF8.out, T8.out.oc⟩ (fun hHeld => ?_)
          refine wpAnyH_take (i := 0) (v := ?_) rfl (by kernel_rfl) (by kernel_rfl) (by kernel_rfl) (fun _ _ _ h => h) (Or.inl ⟨by rfl, ?_⟩) (by assumption) ?_
          rotate_left
          · (intro wS hSw; (try dsimp only at hSw); obtain ⟨hS1, hS3, hS2⟩ := hSw; obtain ⟨y0, y1, y2, y3, y4, y5, y6, y7⟩ := hS1.eight; obtain ⟨z0, z1, z2, z3, z4, z5, z6, z7⟩ := hS3.eight; have yo : wS.cell? ⟨ob, 0, none⟩ = some (.bool true) := hS2.cell 0; (try simp only [List.getElem_toArray, List.getElem_cons_succ, List.getElem_cons_zero]); go_simp; try (with_reducible rfl))
          try simp only [Act.put, List.getElem_toArray, List.getElem_cons_succ, List.getElem_cons_zero, List.setIfInBounds_toArray, List.set_cons_zero, List.set_cons_succ]
          refine wpAnyH_take (i := 1) (v := ?_) rfl (by kernel_rfl) (by kernel_rfl) (by kernel_rfl) (fun _ _ _ h => h) (Or.inl ⟨by rfl, ?_⟩) (by assumption) ?_
          rotate_left
          · (intro wS hSw; (try dsimp only at hSw); obtain ⟨hS1, hS3, hS2⟩ := hSw; obtain ⟨y0, y1, y2, y3, y4, y5, y6, y7⟩ := hS1.eight; obtain ⟨z0, z1, z2, z3, z4, z5, z6, z7⟩ := hS3.eight; have yo : wS.cell? ⟨ob, 0, none⟩ = some (.bool true) := hS2.cell 0; (try simp only [List.getElem_toArray, List.getElem_cons_succ, List.getElem_cons_zero]); go_simp; try (with_reducible rfl))
          try simp only [Act.put, List.getElem_toArray, List.getElem_cons_succ, List.getElem_cons_zero, List.setIfInBounds_toArray, List.set_cons_zero, List.set_cons_succ]
          refine wpAnyH_take (i := 2) (v := ?_) rfl (by kernel_rfl) (by kernel_rfl) (by kernel_rfl) (fun _ _ _ h => h) (Or.inl ⟨by rfl, ?_⟩) (by assumption) ?_
          rotate_left
          · (intro wS hSw; (try dsimp only at hSw); obtain ⟨hS1, hS3, hS2⟩ := hSw; obtain ⟨y0, y1, y2, y3, y4, y5, y6, y7⟩ := hS1.eight; obtain ⟨z0, z1, z2, z3, z4, z5, z6, z7⟩ := hS3.eight; have yo : wS.cell? ⟨ob, 0, none⟩ = some (.bool true) := hS2.cell 0; (try simp only [List.getElem_toArray, List.getElem_cons_succ, List.getElem_cons_zero]); go_simp; try (with_reducible rfl))
          try simp only [Act.put, List.getElem_toArray, List.getElem_cons_succ, List.getElem_cons_zero, List.setIfInBounds_toArray, List.set_cons_zero, List.set_cons_succ]
          refine wpAnyH_take (i := 3) (v := ?_) rfl (by kernel_rfl) (by kernel_rfl) (by kernel_rfl) (fun _ _ _ h => h) (Or.inl ⟨by rfl, ?_⟩) (by assumption) ?_
          rotate_left
          · (intro wS hSw; (try dsimp only at hSw); obtain ⟨hS1, hS3, hS2⟩ := hSw; obtain ⟨y0, y1, y2, y3, y4, y5, y6, y7⟩ := hS1.eight; obtain ⟨z0, z1, z2, z3, z4, z5, z6, z7⟩ := hS3.eight; have yo : wS.cell? ⟨ob, 0, none⟩ = some (.bool true) := hS2.cell 0; (try simp only [List.getElem_toArray, List.getElem_cons_succ, List.getElem_cons_zero]); go_simp; try (with_reducible rfl))
          try simp only [Act.put, List.getElem_toArray, List.getElem_cons_succ, List.getElem_cons_zero, List.setIfInBounds_toArray, List.set_cons_zero, List.set_cons_succ]
          refine wpAnyH_take (i := 4) (v := ?_) rfl (by kernel_rfl) (by kernel_rfl) (by kernel_rfl) (fun _ _ _ h => h) (Or.inl ⟨by rfl, ?_⟩) (by assumption) ?_
          rotate_left
          · (intro wS hSw; (try dsimp only at hSw); obtain ⟨hS1, hS3, hS2⟩ := hSw; obtain ⟨y0, y1, y2, y3, y4, y5, y6, y7⟩ := hS1.eight; obtain ⟨z0, z1, z2, z3, z4, z5, z6, z7⟩ := hS3.eight; have yo : wS.cell? ⟨ob, 0, none⟩ = some (.bool true) := hS2.cell 0; (try simp only [List.getElem_toArray, List.getElem_cons_succ, List.getElem_cons_zero]); go_simp; try (with_reducible rfl))
          try simp only [Act.put, List.getElem_toArray, List.getElem_cons_succ, List.getElem_cons_zero, List.setIfInBounds_toArray, List.set_cons_zero, List.set_cons_succ]
          refine wpAnyH_ready (rs := [5]) (by kernel_rfl) (by simp) ?_
          refine AllReadyH.cons rfl (fun K hK => ?_) AllReadyH.nil
          go_simp
          refine HS8.out.mono ?_
          rintro e w6 ⟨rfl, hk6⟩
          have kk6 : Keep (fun _ => False) W5 w6 := ((Keep.refl (fun _ => False) W5).drew).trans hk6 (fun _ _ h => h)
          have T9 := Lib.hid (T8.out.quiet kk6)
          have HE9 := Lib.hid (HE8.out.keep kk6 (fun h => h))
          have HF9 := Lib.hid (HF8.out.keep kk6 (fun h => h))
          clear hk6 kk6
          go_wp2_with fail
          refine hK.out _ _ ⟨HE9.out, HF9.out, T9.out.oc⟩ (fun hHeld => ?_)
          clear hK K
          try simp only [Act.put, List.getElem_toArray, List.getElem_cons_succ, List.getElem_cons_zero, List.setIfInBounds_toArray, List.set_cons_zero, List.set_cons_succ]
          refine wpAnyH_take (i := 6) (v := ?_) rfl (by kernel_rfl) (by kernel_rfl) (by kernel_rfl) (fun _ _ _ h => h) (Or.inl ⟨by rfl, ?_⟩) (by assumption) ?_
          rotate_left
          · (intro wS hSw; (try dsimp only at hSw); obtain ⟨hS1, hS3, hS2⟩ := hSw; obtain ⟨y0, y1, y2, y3, y4, y5, y6, y7⟩ := hS1.eight; obtain ⟨z0, z1, z2, z3, z4, z5, z6, z7⟩ := hS3.eight; have yo : wS.cell? ⟨ob, 0, none⟩ = some (.bool true) := hS2.cell 0; (try simp only [List.getElem_toArray, List.getElem_cons_succ, List.getElem_cons_zero]); go_simp; try (with_reducible rfl))
          try simp only [Act.put, List.getElem_toArray, List.getElem_cons_succ, List.getElem_cons_zero, List.setIfInBounds_toArray, List.set_cons_zero, List.set_cons_succ]
          refine wpAnyH_take (i := 7) (v := ?_) rfl (by kernel_rfl) (by kernel_rfl) (by kernel_rfl) (fun _ _ _ h => h) (Or.inl ⟨by rfl, ?_⟩) (by assumption) ?_
          rotate_left
          · (intro wS hSw; (try dsimp only at hSw); obtain ⟨hS1, hS3, hS2⟩ := hSw; obtain ⟨y0, y1, y2, y3, y4, y5, y6, y7⟩ := hS1.eight; obtain ⟨z0, z1, z2, z3, z4, z5, z6, z7⟩ := hS3.eight; have yo : wS.cell? ⟨ob, 0, none⟩ = some (.bool true) := hS2.cell 0; (try simp only [List.getElem_toArray, List.getElem_cons_succ, List.getElem_cons_zero]); go_simp; try (with_reducible rfl))
          try simp only [Act.put, List.getElem_toArray, List.getElem_cons_succ, List.getElem_cons_zero, List.setIfInBounds_toArray, List.set_cons_zero, List.set_cons_succ]
          refine wpAnyH_take (i := 8) (v := ?_) rfl (by kernel_rfl) (by kernel_rfl) (by kernel_rfl) (fun _ _ _ h => h) (Or.inl ⟨by rfl, ?_⟩) (by assumption) ?_
          rotate_left
          · (intro wS hSw; (try dsimp only at hSw); obtain ⟨hS1, hS3, hS2⟩ := hSw; obtain ⟨y0, y1, y2, y3, y4, y5, y6, y7⟩ := hS1.eight; obtain ⟨z0, z1, z2, z3, z4, z5, z6, z7⟩ := hS3.eight; have yo : wS.cell? ⟨ob, 0, none⟩ = some (.bool true) := hS2.cell 0; (try simp only [List.getElem_toArray, List.getElem_cons_succ, List.getElem_cons_zero]); go_simp; try (with_reducible rfl))
          try simp only [Act.put, List.getElem_toArray, List.getElem_cons_succ, List.getElem_cons_zero, List.setIfInBounds_toArray, List.set_cons_zero, List.set_cons_succ]
          refine wpAnyH_take (i := 9) (v := ?_) rfl (by kernel_rfl) (by kernel_rfl) (by kernel_rfl) (fun _ _ _ h => h) (Or.inl ⟨by rfl, ?_⟩) (by assumption) ?_
          rotate_left
          · (intro wS hSw; (try dsimp only at hSw); obtain ⟨hS1, hS3, hS2⟩ := hSw; obtain ⟨y0, y1, y2, y3, y4, y5, y6, y7⟩ := hS1.eight; obtain ⟨z0, z1, z2, z3, z4, z5, z6, z7⟩ := hS3.eight; have yo : wS.cell? ⟨ob, 0, none⟩ = some (.bool true) := hS2.cell 0; (try simp only [List.getElem_toArray, List.getElem_cons_succ, List.getElem_cons_zero]); go_simp; try (with_reducible rfl))
          try simp only [Act.put, List.getElem_toArray, List.getElem_cons_succ, List.getElem_cons_zero, List.setIfInBounds_toArray, List.set_cons_zero, List.set_cons_succ]
          refine wpAnyH_take (i := 11) (v := ?_) rfl (by kernel_rfl) (by kernel_rfl) (by kernel_rfl) (fun _ _ _ h => h) (Or.inl ⟨by rfl, ?_⟩) (by assumption) ?_
          rotate_left
          · (intro wS hSw; (try dsimp only at hSw); obtain ⟨hS1, hS3, hS2⟩ := hSw; obtain ⟨y0, y1, y2, y3, y4, y5, y6, y7⟩ := hS1.eight; obtain ⟨z0, z1, z2, z3, z4, z5, z6, z7⟩ := hS3.eight; have yo : wS.cell? ⟨ob, 0, none⟩ = some (.bool true) := hS2.cell 0; (try simp only [List.getElem_toArray, List.getElem_cons_succ, List.getElem_cons_zero]); go_simp; try (with_reducible rfl))
          try simp only [Act.put, List.getElem_toArray, List.getElem_cons_succ, List.getElem_cons_zero, List.setIfInBounds_toArray, List.set_cons_zero, List.set_cons_succ]
          refine wpAnyH_take (i := 12) (v := ?_) rfl (by kernel_rfl) (by kernel_rfl) (by kernel_rfl) (fun _ _ _ h => h) (Or.inl ⟨by rfl, ?_⟩) (by assumption) ?_
          rotate_left
          · (intro wS hSw; (try dsimp only at hSw); obtain ⟨hS1, hS3, hS2⟩ := hSw; obtain ⟨y0, y1, y2, y3, y4, y5, y6, y7⟩ := hS1.eight; obtain ⟨z0, z1, z2, z3, z4, z5, z6, z7⟩ := hS3.eight; have yo : wS.cell? ⟨ob, 0, none⟩ = some (.bool true) := hS2.cell 0; (try simp only [List.getElem_toArray, List.getElem_cons_succ, List.getElem_cons_zero]); go_simp; try (with_reducible rfl))
          try simp only [Act.put, List.getElem_toArray, List.getElem_cons_succ, List.getElem_cons_zero, List.setIfInBounds_toArray, List.set_cons_zero, List.set_cons_succ]
          refine wpAnyH_take (i := 13) (v := ?_) rfl (by kernel_rfl) (by kernel_rfl) (by kernel_rfl) (fun _ _ _ h => h) (Or.inl ⟨by rfl, ?_⟩) (by assumption) ?_
          rotate_left
          · (intro wS hSw; (try dsimp only at hSw); obtain ⟨hS1, hS3, hS2⟩ := hSw; obtain ⟨y0, y1, y2, y3, y4, y5, y6, y7⟩ := hS1.eight; obtain ⟨z0, z1, z2, z3, z4, z5, z6, z7⟩ := hS3.eight; have yo : wS.cell? ⟨ob, 0, none⟩ = some (.bool true) := hS2.cell 0; (try simp only [List.getElem_toArray, List.getElem_cons_succ, List.getElem_cons_zero]); go_simp; try (with_reducible rfl))
          try simp only [Act.put, List.getElem_toArray, List.getElem_cons_succ, List.getElem_cons_zero, List.setIfInBounds_toArray, List.set_cons_zero, List.set_cons_succ]
          refine wpAnyH_ready (rs := [10]) (by kernel_rfl) (by simp) ?_
          refine AllReadyH.cons rfl (fun K hK => ?_) AllReadyH.nil
          go_simp
          refine (pover T9.out.a).mono ?_
          rintro e w7 ⟨he, hw⟩
          subst w7
          rw [D8.out.over] at he
          subst he
          go_wp2_with fail
          refine hK.out _ _ ⟨HE9.out, HF9.out, T9.out.oc⟩ (fun hHeld => ?_)
          clear hK K
          try simp only [Act.put, List.getElem_toArray, List.getElem_cons_succ, List.getElem_cons_zero, List.setIfInBounds_toArray, List.set_cons_zero, List.set_cons_succ]
          refine wpAnyH_take (i := 14) (v := ?_) rfl (by kernel_rfl) (by kernel_rfl) (by kernel_rfl) (fun _ _ _ h => h) (Or.inl ⟨by rfl, ?_⟩) (by assumption) ?_
          rotate_left
          · (intro wS hSw; (try dsimp only at hSw); obtain ⟨hS1, hS3, hS2⟩ := hSw; obtain ⟨y0, y1, y2, y3, y4, y5, y6, y7⟩ := hS1.eight; obtain ⟨z0, z1, z2, z3, z4, z5, z6, z7⟩ := hS3.eight; have yo : wS.cell? ⟨ob, 0, none⟩ = some (.bool true) := hS2.cell 0; (try simp only [List.getElem_toArray, List.getElem_cons_succ, List.getElem_cons_zero]); go_simp; try (with_reducible rfl))
          try simp only [Act.put, List.getElem_toArray, List.getElem_cons_succ, List.getElem_cons_zero, List.setIfInBounds_toArray, List.set_cons_zero, List.set_cons_succ]
          refine wpAnyH_take (i := 15) (v := ?_) rfl (by kernel_rfl) (by kernel_rfl) (by kernel_rfl) (fun _ _ _ h => h) (Or.inl ⟨by rfl, ?_⟩) (by assumption) ?_
          rotate_left
          · (intro wS hSw; (try dsimp only at hSw); obtain ⟨hS1, hS3, hS2⟩ := hSw; obtain ⟨y0, y1, y2, y3, y4, y5, y6, y7⟩ := hS1.eight; obtain ⟨z0, z1, z2, z3, z4, z5, z6, z7⟩ := hS3.eight; have yo : wS.cell? ⟨ob, 0, none⟩ = some (.bool true) := hS2.cell 0; (try simp only [List.getElem_toArray, List.getElem_cons_succ, List.getElem_cons_zero]); go_simp; try (with_reducible rfl))
          try simp only [Act.put, List.getElem_toArray, List.getElem_cons_succ, List.getElem_cons_zero, List.setIfInBounds_toArray, List.set_cons_zero, List.set_cons_succ]
          refine wpAnyH_done (by kernel_rfl) ?_ _
          refine NoPanic.normal ?_
          go_wp2
          go_roundw
          case rel => exact ⟨F6, G1, s6, q1.pop, true, T9.out, D8.out, M1.out⟩
          case measure =>
            have h1 : muW w6 g = mu s6 := (PS.muW T9.out.a).trans rfl
            have h2 : muW wr g = mu p1 := (PS.muW T1.out.a).trans rfl
            rw [h1, h2]; exact HMU6.out
        · have HOV : Hid (false = (false || isShut ev)) := Lib.hid (by
            have h1 : isShut ev = false := by
              cases hs : isShut ev with
              | false => rfl
              | true => rw [← shut_kind, ← HKIND.out] at hs; exact absurd hs hk3
            rw [h1]; rfl)
          have hkb : (k == 3) = false := by rw [beq_eq_false_iff_ne]; exact hk3
          have T8 := Lib.hid (T7.out.set false)
          have D8 : Hid (Dr s6 q1.pop false) := Lib.hid (by rw [HOV.out]; exact D6.out)
          obtain ⟨W5, hW5⟩ : ∃ W5, W5 = W4.setCell ⟨ob, 0, none⟩ (.bool false) := ⟨_, rfl⟩
          have k45 : Keep (fun k => k = ob) W4 W5 := by rw [hW5]; exact (Keep.refl (fun k => k = ob) W4).setCell (p := ⟨ob, 0, none⟩) (fun _ => rfl) _
          rw [← hW5] at T8
          have HE8 := Lib.hid (HA4.out.keep k45 HNEE.out)
          have HF8 := Lib.hid (HB4.out.keep k45 HNEF.out)
          have HS8 := Lib.hid (HSAME.out W5 k45)
          go_wp2
          rw [← hW5]
          clear k45 hW5
          (try clear hk3 hkb)
          (try clear b4 o4 o4f)
          refine wp_region_noPanic ?_
          refine wp_region_held_drew (S := fun w' => At w' u2.heap.size 46 (evA k2 t2 f2 rx2 rn2 rc2 bx2 bn2 bc2) ∧ At w' W2.heap.size 46 (evA k t f rx rn rc bx bn bc) ∧ At w' ob 4 #[.bool false]) (by kernel_rfl) ⟨HE8.out, HF8.out, T8.out.oc⟩ (fun hHeld => ?_)
          refine wpAnyH_take (i := 0) (v := ?_) rfl (by kernel_rfl) (by kernel_rfl) (by kernel_rfl) (fun _ _ _ h => h) (Or.inl ⟨by rfl, ?_⟩) (by assumption) ?_
          rotate_left
          · (intro wS hSw; (try dsimp only at hSw); obtain ⟨hS1, hS3, hS2⟩ := hSw; obtain ⟨y0, y1, y2, y3, y4, y5, y6, y7⟩ := hS1.eight; obtain ⟨z0, z1, z2, z3, z4, z5, z6, z7⟩ := hS3.eight; have yo : wS.cell? ⟨ob, 0, none⟩ = some (.bool false) := hS2.cell 0; (try simp only [List.getElem_toArray, List.getElem_cons_succ, List.getElem_cons_zero]); go_simp; try (with_reducible rfl))
          try simp only [Act.put, List.getElem_toArray, List.getElem_cons_succ, List.getElem_cons_zero, List.setIfInBounds_toArray, List.set_cons_zero, List.set_cons_succ]
          refine wpAnyH_take (i := 1) (v := ?_) rfl (by kernel_rfl) (by kernel_rfl) (by kernel_rfl) (fun _ _ _ h => h) (Or.inl ⟨by rfl, ?_⟩) (by assumption) ?_
          rotate_left
          · (intro wS hSw; (try dsimp only at hSw); obtain ⟨hS1, hS3, hS2⟩ := hSw; obtain ⟨y0, y1, y2, y3, y4, y5, y6, y7⟩ := hS1.eight; obtain ⟨z0, z1, z2, z3, z4, z5, z6, z7⟩ := hS3.eight; have yo : wS.cell? ⟨ob, 0, none⟩ = some (.bool false) := hS2.cell 0; (try simp only [List.getElem_toArray, List.getElem_cons_succ, List.getElem_cons_zero]); go_simp; try (with_reducible rfl))
          try simp only [Act.put, List.getElem_toArray, List.getElem_cons_succ, List.getElem_cons_zero, List.setIfInBounds_toArray, List.set_cons_zero, List.set_cons_succ]
          refine wpAnyH_take (i := 2) (v := ?_) rfl (by kernel_rfl) (by kernel_rfl) (by kernel_rfl) (fun _ _ _ h => h) (Or.inl ⟨by rfl, ?_⟩) (by assumption) ?_
          rotate_left
          · (intro wS hSw; (try dsimp only at hSw); obtain ⟨hS1, hS3, hS2⟩ := hSw; obtain ⟨y0, y1, y2, y3, y4, y5, y6, y7⟩ := hS1.eight; obtain ⟨z0, z1, z2, z3, z4, z5, z6, z7⟩ := hS3.eight; have yo : wS.cell? ⟨ob, 0, none⟩ = some (.bool false) := hS2.cell 0; (try simp only [List.getElem_toArray, List.getElem_cons_succ, List.getElem_cons_zero]); go_simp; try (with_reducible rfl))
          try simp only [Act.put, List.getElem_toArray, List.getElem_cons_succ, List.getElem_cons_zero, List.setIfInBounds_toArray, List.set_cons_zero, List.set_cons_succ]
          refine wpAnyH_take (i := 3) (v := ?_) rfl (by kernel_rfl) (by kernel_rfl) (by kernel_rfl) (fun _ _ _ h => h) (Or.inl ⟨by rfl, ?_⟩) (by assumption) ?_
          rotate_left
          · (intro wS hSw; (try dsimp only at hSw); obtain ⟨hS1, hS3, hS2⟩ := hSw; obtain ⟨y0, y1, y2, y3, y4, y5, y6, y7⟩ := hS1.eight; obtain ⟨z0, z1, z2, z3, z4, z5, z6, z7⟩ := hS3.eight; have yo : wS.cell? ⟨ob, 0, none⟩ = some (.bool false) := hS2.cell 0; (try simp only [List.getElem_toArray, List.getElem_cons_succ, List.getElem_cons_zero]); go_simp; try (with_reducible rfl))
          try simp only [Act.put, List.getElem_toArray, List.getElem_cons_succ, List.getElem_cons_zero, List.setIfInBounds_toArray, List.set_cons_zero, List.set_cons_succ]
          refine wpAnyH_take (i := 4) (v := ?_) rfl (by kernel_rfl) (by kernel_rfl) (by kernel_rfl) (fun _ _ _ h => h) (Or.inl ⟨by rfl, ?_⟩) (by assumption) ?_
          rotate_left
          · (intro wS hSw; (try dsimp only at hSw); obtain ⟨hS1, hS3, hS2⟩ := hSw; obtain ⟨y0, y1, y2, y3, y4, y5, y6, y7⟩ := hS1.eight; obtain ⟨z0, z1, z2, z3, z4, z5, z6, z7⟩ := hS3.eight; have yo : wS.cell? ⟨ob, 0, none⟩ = some (.bool false) := hS2.cell 0; (try simp only [List.getElem_toArray, List.getElem_cons_succ, List.getElem_cons_zero]); go_simp; try (with_reducible rfl))
          try simp only [Act.put, List.getElem_toArray, List.getElem_cons_succ, List.getElem_cons_zero, List.setIfInBounds_toArray, List.set_cons_zero, List.set_cons_succ]
          refine wpAnyH_ready (rs := [5]) (by kernel_rfl) (by simp) ?_
          refine AllReadyH.cons rfl (fun K hK => ?_) AllReadyH.nil
          go_simp
          refine HS8.out.mono ?_
          rintro e w6 ⟨rfl, hk6⟩
          have kk6 : Keep (fun _ => False) W5 w6 := ((Keep.refl (fun _ => False) W5).drew).trans hk6 (fun _ _ h => h)
          have T9 := Lib.hid (T8.out.quiet kk6)
          have HE9 := Lib.hid (HE8.out.keep kk6 (fun h => h))
          have HF9 := Lib.hid (HF8.out.keep kk6 (fun h => h))
          clear hk6 kk6
          go_wp2_with fail
          refine hK.out _ _ ⟨HE9.out, HF9.out, T9.out.oc⟩ (fun hHeld => ?_)
          clear hK K
          try simp only [Act.put, List.getElem_toArray, List.getElem_cons_succ, List.getElem_cons_zero, List.setIfInBounds_toArray, List.set_cons_zero, List.set_cons_succ]
          refine wpAnyH_take (i := 6) (v := ?_) rfl (by kernel_rfl) (by kernel_rfl) (by kernel_rfl) (fun _ _ _ h => h) (Or.inl ⟨by rfl, ?_⟩) (by assumption) ?_
          rotate_left
          · (intro wS hSw; (try dsimp only at hSw); obtain ⟨hS1, hS3, hS2⟩ := hSw; obtain ⟨y0, y1, y2, y3, y4, y5, y6, y7⟩ := hS1.eight; obtain ⟨z0, z1, z2, z3, z4, z5, z6, z7⟩ := hS3.eight; have yo : wS.cell? ⟨ob, 0, none⟩ = some (.bool false) := hS2.cell 0; (try simp only [List.getElem_toArray, List.getElem_cons_succ, List.getElem_cons_zero]); go_simp; try (with_reducible rfl))
          try simp only [Act.put, List.getElem_toArray, List.getElem_cons_succ, List.getElem_cons_zero, List.setIfInBounds_toArray, List.set_cons_zero, List.set_cons_succ]
          refine wpAnyH_take (i := 7) (v := ?_) rfl (by kernel_rfl) (by kernel_rfl) (by kernel_rfl) (fun _ _ _ h => h) (Or.inl ⟨by rfl, ?_⟩) (by assumption) ?_
          rotate_left
          · (intro wS hSw; (try dsimp only at hSw); obtain ⟨hS1, hS3, hS2⟩ := hSw; obtain ⟨y0, y1, y2, y3, y4, y5, y6, y7⟩ := hS1.eight; obtain ⟨z0, z1, z2, z3, z4, z5, z6, z7⟩ := hS3.eight; have yo : wS.cell? ⟨ob, 0, none⟩ = some (.bool false) := hS2.cell 0; (try simp only [List.getElem_toArray, List.getElem_cons_succ, List.getElem_cons_zero]); go_simp; try (with_reducible rfl))
          try simp only [Act.put, List.getElem_toArray, List.getElem_cons_succ, List.getElem_cons_zero, List.setIfInBounds_toArray, List.set_cons_zero, List.set_cons_succ]
          refine wpAnyH_take (i := 8) (v := ?_) rfl (by kernel_rfl) (by kernel_rfl) (by kernel_rfl) (fun _ _ _ h => h) (Or.inl ⟨by rfl, ?_⟩) (by assumption) ?_
          rotate_left
          · (intro wS hSw; (try dsimp only at hSw); obtain ⟨hS1, hS3, hS2⟩ := hSw; obtain ⟨y0, y1, y2, y3, y4, y5, y6, y7⟩ := hS1.eight; obtain ⟨z0, z1, z2, z3, z4, z5, z6, z7⟩ := hS3.eight; have yo : wS.cell? ⟨ob, 0, none⟩ = some (.bool false) := hS2.cell 0; (try simp only [List.getElem_toArray, List.getElem_cons_succ, List.getElem_cons_zero]); go_simp; try (with_reducible rfl))
          try simp only [Act.put, List.getElem_toArray, List.getElem_cons_succ, List.getElem_cons_zero, List.setIfInBounds_toArray, List.set_cons_zero, List.set_cons_succ]
          refine wpAnyH_take (i := 9) (v := ?_) rfl (by kernel_rfl) (by kernel_rfl) (by kernel_rfl) (fun _ _ _ h => h) (Or.inl ⟨by rfl, ?_⟩) (by assumption) ?_
          rotate_left
          · (intro wS hSw; (try dsimp only at hSw); obtain ⟨hS1, hS3, hS2⟩ := hSw; obtain ⟨y0, y1, y2, y3, y4, y5, y6, y7⟩ := hS1.eight; obtain ⟨z0, z1, z2, z3, z4, z5, z6, z7⟩ := hS3.eight; have yo : wS.cell? ⟨ob, 0, none⟩ = some (.bool false) := hS2.cell 0; (try simp only [List.getElem_toArray, List.getElem_cons_succ, List.getElem_cons_zero]); go_simp; try (with_reducible rfl))
          try simp only [Act.put, List.getElem_toArray, List.getElem_cons_succ, List.getElem_cons_zero, List.setIfInBounds_toArray, List.set_cons_zero, List.set_cons_succ]
          refine wpAnyH_take (i := 11) (v := ?_) rfl (by kernel_rfl) (by kernel_rfl) (by kernel_rfl) (fun _ _ _ h => h) (Or.inl ⟨by rfl, ?_⟩) (by assumption) ?_
          rotate_left
          · (intro wS hSw; (try dsimp only at hSw); obtain ⟨hS1, hS3, hS2⟩ := hSw; obtain ⟨y0, y1, y2, y3, y4, y5, y6, y7⟩ := hS1.eight; obtain ⟨z0, z1, z2, z3, z4, z5, z6, z7⟩ := hS3.eight; have yo : wS.cell? ⟨ob, 0, none⟩ = some (.bool false) := hS2.cell 0; (try simp only [List.getElem_toArray, List.getElem_cons_succ, List.getElem_cons_zero]); go_simp; try (with_reducible rfl))
          try simp only [Act.put, List.getElem_toArray, List.getElem_cons_succ, List.getElem_cons_zero, List.setIfInBounds_toArray, List.set_cons_zero, List.set_cons_succ]
          refine wpAnyH_take (i := 12) (v := ?_) rfl (by kernel_rfl) (by kernel_rfl) (by kernel_rfl) (fun _ _ _ h => h) (Or.inl ⟨by rfl, ?_⟩) (by assumption) ?_
          rotate_left
          · (intro wS hSw; (try dsimp only at hSw); obtain ⟨hS1, hS3, hS2⟩ := hSw; obtain ⟨y0, y1, y2, y3, y4, y5, y6, y7⟩ := hS1.eight; obtain ⟨z0, z1, z2, z3, z4, z5, z6, z7⟩ := hS3.eight; have yo : wS.cell? ⟨ob, 0, none⟩ = some (.bool false) := hS2.cell 0; (try simp only [List.getElem_toArray, List.getElem_cons_succ, List.getElem_cons_zero]); go_simp; try (with_reducible rfl))
          try simp only [Act.put, List.getElem_toArray, List.getElem_cons_succ, List.getElem_cons_zero, List.setIfInBounds_toArray, List.set_cons_zero, List.set_cons_succ]
          refine wpAnyH_take (i := 13) (v := ?_) rfl (by kernel_rfl) (by kernel_rfl) (by kernel_rfl) (fun _ _ _ h => h) (Or.inl ⟨by rfl, ?_⟩) (by assumption) ?_
          rotate_left
          · (intro wS hSw; (try dsimp only at hSw); obtain ⟨hS1, hS3, hS2⟩ := hSw; obtain ⟨y0, y1, y2, y3, y4, y5, y6, y7⟩ := hS1.eight; obtain ⟨z0, z1, z2, z3, z4, z5, z6, z7⟩ := hS3.eight; have yo : wS.cell? ⟨ob, 0, none⟩ = some (.bool false) := hS2.cell 0; (try simp only [List.getElem_toArray, List.getElem_cons_succ, List.getElem_cons_zero]); go_simp; try (with_reducible rfl))
          try simp only [Act.put, List.getElem_toArray, List.getElem_cons_succ, List.getElem_cons_zero, List.setIfInBounds_toArray, List.set_cons_zero, List.set_cons_succ]
          refine wpAnyH_ready (rs := [10]) (by kernel_rfl) (by simp) ?_
          refine AllReadyH.cons rfl (fun K hK => ?_) AllReadyH.nil
          go_simp
          refine (pover T9.out.a).mono ?_
          rintro e w7 ⟨he, hw⟩
          subst w7
          rw [D8.out.over] at he
          subst he
          go_wp2_with fail
          refine hK.out _ _ ⟨HE9.out, HF9.out, T9.out.oc⟩ (fun hHeld => ?_)
          clear hK K
          try simp only [Act.put, List.getElem_toArray, List.getElem_cons_succ, List.getElem_cons_zero, List.setIfInBounds_toArray, List.set_cons_zero, List.set_cons_succ]
          refine wpAnyH_take (i := 14) (v := ?_) rfl (by kernel_rfl) (by kernel_rfl) (by kernel_rfl) (fun _ _ _ h => h) (Or.inl ⟨by rfl, ?_⟩) (by assumption) ?_
          rotate_left
          · (intro wS hSw; (try dsimp only at hSw); obtain ⟨hS1, hS3, hS2⟩ := hSw; obtain ⟨y0, y1, y2, y3, y4, y5, y6, y7⟩ := hS1.eight; obtain ⟨z0, z1, z2, z3, z4, z5, z6, z7⟩ := hS3.eight; have yo : wS.cell? ⟨ob, 0, none⟩ = some (.bool false) := hS2.cell 0; (try simp only [List.getElem_toArray, List.getElem_cons_succ, List.getElem_cons_zero]); go_simp; try (with_reducible rfl))
          try simp only [Act.put, List.getElem_toArray, List.getElem_cons_succ, List.getElem_cons_zero, List.setIfInBounds_toArray, List.set_cons_zero, List.set_cons_succ]
          refine wpAnyH_take (i := 15) (v := ?_) rfl (by kernel_rfl) (by kernel_rfl) (by kernel_rfl) (fun _ _ _ h => h) (Or.inl ⟨by rfl, ?_⟩) (by assumption) ?_
          rotate_left
          · (intro wS hSw; (try dsimp only at hSw); obtain ⟨hS1, hS3, hS2⟩ := hSw; obtain ⟨y0, y1, y2, y3, y4, y5, y6, y7⟩ := hS1.eight; obtain ⟨z0, z1, z2, z3, z4, z5, z6, z7⟩ := hS3.eight; have yo : wS.cell? ⟨ob, 0, none⟩ = some (.bool false) := hS2.cell 0; (try simp only [List.getElem_toArray, List.getElem_cons_succ, List.getElem_cons_zero]); go_simp; try (with_reducible rfl))
          try simp only [Act.put, List.getElem_toArray, List.getElem_cons_succ, List.getElem_cons_zero, List.setIfInBounds_toArray, List.set_cons_zero, List.set_cons_succ]
          refine wpAnyH_done (by kernel_rfl) ?_ _
          refine NoPanic.normal ?_
          go_wp2
          go_roundw
          case rel => exact ⟨F6, G1, s6, q1.pop, false, T9.out, D8.out, M1.out⟩
          case measure =>
            have h1 : muW w6 g = mu s6 := (PS.muW T9.out.a).trans rfl
            have h2 : muW wr g = mu p1 := (PS.muW T1.out.a).trans rfl
            rw [h1, h2]; exact HMU6.out
      · have HOV : Hid (true = (true || isShut ev)) := Lib.hid rfl
        have T8 := Lib.hid (T7.out.set true)
        have D8 : Hid (Dr s6 q1.pop true) := Lib.hid (by rw [HOV.out]; exact D6.out)
        obtain ⟨W5, hW5⟩ : ∃ W5, W5 = W4.setCell ⟨ob, 0, none⟩ (.bool true) := ⟨_, rfl⟩
        have k45 : Keep (fun k => k = ob) W4 W5 := by rw [hW5]; exact (Keep.refl (fun k => k = ob) W4).setCell (p := ⟨ob, 0, none⟩) (fun _ => rfl) _
        rw [← hW5] at T8
        have HE8 := Lib.hid (HA4.out.keep k45 HNEE.out)
        have HF8 := Lib.hid (HB4.out.keep k45 HNEF.out)
        have HS8 := Lib.hid (HSAME.out W5 k45)
        go_wp2
        rw [← hW5]
        clear k45 hW5
        (try clear hk3 hkb)
        (try clear b4 o4 o4f)
        refine wp_region_noPanic ?_
        refine wp_region_held_drew (S := fun w' => At w' u2.heap.size 46 (evA k2 t2 f2 rx2 rn2 rc2 bx2 bn2 bc2) ∧ At w' W2.heap.size 46 (evA k t f rx rn rc bx bn bc) ∧ At w' ob 4 #[.bool true]) (by kernel_rfl) ⟨HE8.out, HF8.out, T8.out.oc⟩ (fun hHeld => ?_)
        refine wpAnyH_take (i := 0) (v := ?_) rfl (by kernel_rfl) (by kernel_rfl) (by kernel_rfl) (fun _ _ _ h => h) (Or.inl ⟨by rfl, ?_⟩) (by assumption) ?_
        rotate_left
        · (intro wS hSw; (try dsimp only at hSw); obtain ⟨hS1, hS3, hS2⟩ := hSw; obtain ⟨y0, y1, y2, y3, y4, y5, y6, y7⟩ := hS1.eight; obtain ⟨z0, z1, z2, z3, z4, z5, z6, z7⟩ := hS3.eight; have yo : wS.cell? ⟨ob, 0, none⟩ = some (.bool true) := hS2.cell 0; (try simp only [List.getElem_toArray, List.getElem_cons_succ, List.getElem_cons_zero]); go_simp; try (with_reducible rfl))
        try simp only [Act.put, List.getElem_toArray, List.getElem_cons_succ, List.getElem_cons_zero, List.setIfInBounds_toArray, List.set_cons_zero, List.set_cons_succ]
        refine wpAnyH_take (i := 1) (v := ?_) rfl (by kernel_rfl) (by kernel_rfl) (by kernel_rfl) (fun _ _ _ h => h) (Or.inl ⟨by rfl, ?_⟩) (by assumption) ?_
        rotate_left
        · (intro wS hSw; (try dsimp only at hSw); obtain ⟨hS1, hS3, hS2⟩ := hSw; obtain ⟨y0, y1, y2, y3, y4, y5, y6, y7⟩ := hS1.eight; obtain ⟨z0, z1, z2, z3, z4, z5, z6, z7⟩ := hS3.eight; have yo : wS.cell? ⟨ob, 0, none⟩ = some (.bool true) := hS2.cell 0; (try simp only [List.getElem_toArray, List.getElem_cons_succ, List.getElem_cons_zero]); go_simp; try (with_reducible rfl))
        try simp only [Act.put, List.getElem_toArray, List.getElem_cons_succ, List.getElem_cons_zero, List.setIfInBounds_toArray, List.set_cons_zero, List.set_cons_succ]
        refine wpAnyH_take (i := 2) (v := ?_) rfl (by kernel_rfl) (by kernel_rfl) (by kernel_rfl) (fun _ _ _ h => h) (Or.inl ⟨by rfl, ?_⟩) (by assumption) ?_
        rotate_left
        · (intro wS hSw; (try dsimp only at hSw); obtain ⟨hS1, hS3, hS2⟩ := hSw; obtain ⟨y0, y1, y2, y3, y4, y5, y6, y7⟩ := hS1.eight; obtain ⟨z0, z1, z2, z3, z4, z5, z6, z7⟩ := hS3.eight; have yo : wS.cell? ⟨ob, 0, none⟩ = some (.bool true) := hS2.cell 0; (try simp only [List.getElem_toArray, List.getElem_cons_succ, List.getElem_cons_zero]); go_simp; try (with_reducible rfl))
        try simp only [Act.put, List.getElem_toArray, List.getElem_cons_succ, List.getElem_cons_zero, List.setIfInBounds_toArray, List.set_cons_zero, List.set_cons_succ]
        refine wpAnyH_take (i := 3) (v := ?_) rfl (by kernel_rfl) (by kernel_rfl) (by kernel_rfl) (fun _ _ _ h => h) (Or.inl ⟨by rfl, ?_⟩) (by assumption) ?_
        rotate_left
        · (intro wS hSw; (try dsimp only at hSw); obtain ⟨hS1, hS3, hS2⟩ := hSw; obtain ⟨y0, y1, y2, y3, y4, y5, y6, y7⟩ := hS1.eight; obtain ⟨z0, z1, z2, z3, z4, z5, z6, z7⟩ := hS3.eight; have yo : wS.cell? ⟨ob, 0, none⟩ = some (.bool true) := hS2.cell 0; (try simp only [List.getElem_toArray, List.getElem_cons_succ, List.getElem_cons_zero]); go_simp; try (with_reducible rfl))
        try simp only [Act.put, List.getElem_toArray, List.getElem_cons_succ, List.getElem_cons_zero, List.setIfInBounds_toArray, List.set_cons_zero, List.set_cons_succ]
        refine wpAnyH_take (i := 4) (v := ?_) rfl (by kernel_rfl) (by kernel_rfl) (by kernel_rfl) (fun _ _ _ h => h) (Or.inl ⟨by rfl, ?_⟩) (by assumption) ?_
        rotate_left
        · (intro wS hSw; (try dsimp only at hSw); obtain ⟨hS1, hS3, hS2⟩ := hSw; obtain ⟨y0, y1, y2, y3, y4, y5, y6, y7⟩ := hS1.eight; obtain ⟨z0, z1, z2, z3, z4, z5, z6, z7⟩ := hS3.eight; have yo : wS.cell? ⟨ob, 0, none⟩ = some (.bool true) := hS2.cell 0; (try simp only [List.getElem_toArray, List.getElem_cons_succ, List.getElem_cons_zero]); go_simp; try (with_reducible rfl))
        try simp only [Act.put, List.getElem_toArray, List.getElem_cons_succ, List.getElem_cons_zero, List.setIfInBounds_toArray, List.set_cons_zero, List.set_cons_succ]
        refine wpAnyH_ready (rs := [5]) (by kernel_rfl) (by simp) ?_
        refine AllReadyH.cons rfl (fun K hK => ?_) AllReadyH.nil
        go_simp
        refine HS8.out.mono ?_
        rintro e w6 ⟨rfl, hk6⟩
        have kk6 : Keep (fun _ => False) W5 w6 := ((Keep.refl (fun _ => False) W5).drew).trans hk6 (fun _ _ h => h)
        have T9 := Lib.hid (T8.out.quiet kk6)
        have HE9 := Lib.hid (HE8.out.keep kk6 (fun h => h))
        have HF9 := Lib.hid (HF8.out.keep kk6 (fun h => h))
        clear hk6 kk6
        go_wp2_with fail
        refine hK.out _ _ ⟨HE9.out, HF9.out, T9.out.oc⟩ (fun hHeld => ?_)
        clear hK K
        try simp only [Act.put, List.getElem_toArray, List.getElem_cons_succ, List.getElem_cons_zero, List.setIfInBounds_toArray, List.set_cons_zero, List.set_cons_succ]
        refine wpAnyH_take (i := 6) (v := ?_) rfl (by kernel_rfl) (by kernel_rfl) (by kernel_rfl) (fun _ _ _ h => h) (Or.inl ⟨by rfl, ?_⟩) (by assumption) ?_
        rotate_left
        · (intro wS hSw; (try dsimp only at hSw); obtain ⟨hS1, hS3, hS2⟩ := hSw; obtain ⟨y0, y1, y2, y3, y4, y5, y6, y7⟩ := hS1.eight; obtain ⟨z0, z1, z2, z3, z4, z5, z6, z7⟩ := hS3.eight; have yo : wS.cell? ⟨ob, 0, none⟩ = some (.bool true) := hS2.cell 0; (try simp only [List.getElem_toArray, List.getElem_cons_succ, List.getElem_cons_zero]); go_simp; try (with_reducible rfl))
        try simp only [Act.put, List.getElem_toArray, List.getElem_cons_succ, List.getElem_cons_zero, List.setIfInBounds_toArray, List.set_cons_zero, List.set_cons_succ]
        refine wpAnyH_take (i := 7) (v := ?_) rfl (by kernel_rfl) (by kernel_rfl) (by kernel_rfl) (fun _ _ _ h => h) (Or.inl ⟨by rfl, ?_⟩) (by assumption) ?_
        rotate_left
        · (intro wS hSw; (try dsimp only at hSw); obtain ⟨hS1, hS3, hS2⟩ := hSw; obtain ⟨y0, y1, y2, y3, y4, y5, y6, y7⟩ := hS1.eight; obtain ⟨z0, z1, z2, z3, z4, z5, z6, z7⟩ := hS3.eight; have yo : wS.cell? ⟨ob, 0, none⟩ = some (.bool true) := hS2.cell 0; (try simp only [List.getElem_toArray, List.getElem_cons_succ, List.getElem_cons_zero]); go_simp; try (with_reducible rfl))
        try simp only [Act.put, List.getElem_toArray, List.getElem_cons_succ, List.getElem_cons_zero, List.setIfInBounds_toArray, List.set_cons_zero, List.set_cons_succ]
        refine wpAnyH_take (i := 8) (v := ?_) rfl (by kernel_rfl) (by kernel_rfl) (by kernel_rfl) (fun _ _ _ h => h) (Or.inl ⟨by rfl, ?_⟩) (by assumption) ?_
        rotate_left
        · (intro wS hSw; (try dsimp only at hSw); obtain ⟨hS1, hS3, hS2⟩ := hSw; obtain ⟨y0, y1, y2, y3, y4, y5, y6, y7⟩ := hS1.eight; obtain ⟨z0, z1, z2, z3, z4, z5, z6, z7⟩ := hS3.eight; have yo : wS.cell? ⟨ob, 0, none⟩ = some (.bool true) := hS2.cell 0; (try simp only [List.getElem_toArray, List.getElem_cons_succ, List.getElem_cons_zero]); go_simp; try (with_reducible rfl))
        try simp only [Act.put, List.getElem_toArray, List.getElem_cons_succ, List.getElem_cons_zero, List.setIfInBounds_toArray, List.set_cons_zero, List.set_cons_succ]
        refine wpAnyH_take (i := 9) (v := ?_) rfl (by kernel_rfl) (by kernel_rfl) (by kernel_rfl) (fun _ _ _ h => h) (Or.inl ⟨by rfl, ?_⟩) (by assumption) ?_
        rotate_left
        · (intro wS hSw; (try dsimp only at hSw); obtain ⟨hS1, hS3, hS2⟩ := hSw; obtain ⟨y0, y1, y2, y3, y4, y5, y6, y7⟩ := hS1.eight; obtain ⟨z0, z1, z2, z3, z4, z5, z6, z7⟩ := hS3.eight; have yo : wS.cell? ⟨ob, 0, none⟩ = some (.bool true) := hS2.cell 0; (try simp only [List.getElem_toArray, List.getElem_cons_succ, List.getElem_cons_zero]); go_simp; try (with_reducible rfl))
        try simp only [Act.put, List.getElem_toArray, List.getElem_cons_succ, List.getElem_cons_zero, List.setIfInBounds_toArray, List.set_cons_zero, List.set_cons_succ]
        refine wpAnyH_take (i := 11) (v := ?_) rfl (by kernel_rfl) (by kernel_rfl) (by kernel_rfl) (fun _ _ _ h => h) (Or.inl ⟨by rfl, ?_⟩) (by assumption) ?_
        rotate_left
        · (intro wS hSw; (try dsimp only at hSw); obtain ⟨hS1, hS3, hS2⟩ := hSw; obtain ⟨y0, y1, y2, y3, y4, y5, y6, y7⟩ := hS1.eight; obtain ⟨z0, z1, z2, z3, z4, z5, z6, z7⟩ := hS3.eight; have yo : wS.cell? ⟨ob, 0, none⟩ = some (.bool true) := hS2.cell 0; (try simp only [List.getElem_toArray, List.getElem_cons_succ, List.getElem_cons_zero]); go_simp; try (with_reducible rfl))
        try simp only [Act.put, List.getElem_toArray, List.getElem_cons_succ, List.getElem_cons_zero, List.setIfInBounds_toArray, List.set_cons_zero, List.set_cons_succ]
        refine wpAnyH_take (i := 12) (v := ?_) rfl (by kernel_rfl) (by kernel_rfl) (by kernel_rfl) (fun _ _ _ h => h) (Or.inl ⟨by rfl, ?_⟩) (by assumption) ?_
        rotate_left
        · (intro wS hSw; (try dsimp only at hSw); obtain ⟨hS1, hS3, hS2⟩ := hSw; obtain ⟨y0, y1, y2, y3, y4, y5, y6, y7⟩ := hS1.eight; obtain ⟨z0, z1, z2, z3, z4, z5, z6, z7⟩ := hS3.eight; have yo : wS.cell? ⟨ob, 0, none⟩ = some (.bool true) := hS2.cell 0; (try simp only [List.getElem_toArray, List.getElem_cons_succ, List.getElem_cons_zero]); go_simp; try (with_reducible rfl))
        try simp only [Act.put, List.getElem_toArray, List.getElem_cons_succ, List.getElem_cons_zero, List.setIfInBounds_toArray, List.set_cons_zero, List.set_cons_succ]
        refine wpAnyH_take (i := 13) (v := ?_) rfl (by kernel_rfl) (by kernel_rfl) (by kernel_rfl) (fun _ _ _ h => h) (Or.inl ⟨by rfl, ?_⟩) (by assumption) ?_
        rotate_left
        · (intro wS hSw; (try dsimp only at hSw); obtain ⟨hS1, hS3, hS2⟩ := hSw; obtain ⟨y0, y1, y2, y3, y4, y5, y6, y7⟩ := hS1.eight; obtain ⟨z0, z1, z2, z3, z4, z5, z6, z7⟩ := hS3.eight; have yo : wS.cell? ⟨ob, 0, none⟩ = some (.bool true) := hS2.cell 0; (try simp only [List.getElem_toArray, List.getElem_cons_succ, List.getElem_cons_zero]); go_simp; try (with_reducible rfl))
        try simp only [Act.put, List.getElem_toArray, List.getElem_cons_succ, List.getElem_cons_zero, List.setIfInBounds_toArray, List.set_cons_zero, List.set_cons_succ]
        refine wpAnyH_ready (rs := [10]) (by kernel_rfl) (by simp) ?_
        refine AllReadyH.cons rfl (fun K hK => ?_) AllReadyH.nil
        go_simp
        refine (pover T9.out.a).mono ?_
        rintro e w7 ⟨he, hw⟩
        subst w7
        rw [D8.out.over] at he
        subst he
        go_wp2_with fail
        refine hK.out _ _ ⟨HE9.out, HF9.out, T9.out.oc⟩ (fun hHeld => ?_)
        clear hK K
        try simp only [Act.put, List.getElem_toArray, List.getElem_cons_succ, List.getElem_cons_zero, List.setIfInBounds_toArray, List.set_cons_zero, List.set_cons_succ]
        refine wpAnyH_take (i := 14) (v := ?_) rfl (by kernel_rfl) (by kernel_rfl) (by kernel_rfl) (fun _ _ _ h => h) (Or.inl ⟨by rfl, ?_⟩) (by assumption) ?_
        rotate_left
        · (intro wS hSw; (try dsimp only at hSw); obtain ⟨hS1, hS3, hS2⟩ := hSw; obtain ⟨y0, y1, y2, y3, y4, y5, y6, y7⟩ := hS1.eight; obtain ⟨z0, z1, z2, z3, z4, z5, z6, z7⟩ := hS3.eight; have yo : wS.cell? ⟨ob, 0, none⟩ = some (.bool true) := hS2.cell 0; (try simp only [List.getElem_toArray, List.getElem_cons_succ, List.getElem_cons_zero]); go_simp; try (with_reducible rfl))
        try simp only [Act.put, List.getElem_toArray, List.getElem_cons_succ, List.getElem_cons_zero, List.setIfInBounds_toArray, List.set_cons_zero, List.set_cons_succ]
        refine wpAnyH_take (i := 15) (v := ?_) rfl (by kernel_rfl) (by kernel_rfl) (by kernel_rfl) (fun _ _ _ h => h) (Or.inl ⟨by rfl, ?_⟩) (by assumption) ?_
        rotate_left
        · (intro wS hSw; (try dsimp only at hSw); obtain ⟨hS1, hS3, hS2⟩ := hSw; obtain ⟨y0, y1, y2, y3, y4, y5, y6, y7⟩ := hS1.eight; obtain ⟨z0, z1, z2, z3, z4, z5, z6, z7⟩ := hS3.eight; have yo : wS.cell? ⟨ob, 0, none⟩ = some (.bool true) := hS2.cell 0; (try simp only [List.getElem_toArray, List.getElem_cons_succ, List.getElem_cons_zero]); go_simp; try (with_reducible rfl))
        try simp only [Act.put, List.getElem_toArray, List.getElem_cons_succ, List.getElem_cons_zero, List.setIfInBounds_toArray, List.set_cons_zero, List.set_cons_succ]
        refine wpAnyH_done (by kernel_rfl) ?_ _
        refine NoPanic.normal ?_
        go_wp2
        go_roundw
        case rel => exact ⟨F6, G1, s6, q1.pop, true, T9.out, D8.out, M1.out⟩
        case measure =>
          have h1 : muW w6 g = mu s6 := (PS.muW T9.out.a).trans rfl
          have h2 : muW wr g = mu p1 := (PS.muW T1.out.a).trans rfl
          rw [h1, h2]; exact HMU6.out
end Go.Proofs.YtcjljldknekhiaaGreatDoor.Ln
