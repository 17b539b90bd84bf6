/-
  What the program's Encode and the document's Mark return.
-/
import Derived.Test.YtcplemamcgonkaaH1
import Derived.Test.YtcplemamcgonkaaH2
namespace Go.Proofs.Ytcplemamcgonkaa.Ln
open Go.RowKit
set_option linter.unusedVariables false
set_option linter.unusedSimpArgs false

/-! ### The document's Mark -/
def Marked (k : Mk) (w : World) (e : Ending) (w' : World) : Prop := ∃ y n cap, n = 28 ∧ e = .returned (.slice y n cap) ∧ Gr w w' (.slice y n cap) (markB k)
def K3 (w : World) (g : Nat) (x y z : Int) : Prop := w.cell? ⟨g, 0, none⟩ = some (.int .i64 x) ∧ w.cell? ⟨g, 1, none⟩ = some (.int .i64 y) ∧ w.cell? ⟨g, 2, none⟩ = some (.int .i64 z)
theorem k3_of {w : World} {g : Nat} {k : Mk} (h : At w g 23 (mkC k)) : K3 w g k.kind k.rcpt k.n := ⟨h.cell 0, h.cell 1, h.cell 2⟩
set_option maxHeartbeats 8000000 in
set_option maxRecDepth 100000 in
theorem refMarkC {w : World} {k : Mk} (hg : goodK k = true) : Calls Try.prog 13 #[.agg (mkC k)] w (Marked k w) := by
  obtain ⟨hx1, hx2, hy1, hy2, hz1, hz2⟩ := goodK_iff.1 hg
  have HT : Hid (three k = num8 k.kind.toNat ++ num8 k.rcpt.toNat ++ num8 k.n.toNat) := Lib.hid (by simp [three])
  have HT2 : Hid (markB k = three k ++ sum4 (three k)) := Lib.hid rfl
  have HTL : Hid ((three k).length = 24) := Lib.hid (three_length k)
  have HTB := Lib.hid (three_lt k)
  have HMB : Hid (∀ bs, bs = markB k → bs.length = 28) := Lib.hid (fun bs h => by rw [h, markB_length])
  have K0 := Lib.hid (keep_new w (.cells (mkC k) 23))
  have HA : Hid (At (w.alloc (.cells (mkC k) 23)) w.heap.size 23 (mkC k)) := Lib.hid (At.new w _ _)
  have HC : Hid (∀ W, Keep (fun _ => False) (w.alloc (.cells (mkC k) 23)) W → K3 W w.heap.size k.kind k.rcpt k.n) := Lib.hid (fun W kk => k3_of (HA.out.keep kk (fun h => h)))
  have HE : Hid (∀ e w', Marked k w e w' = ∃ y n cap, n = 28 ∧ e = .returned (.slice y n cap) ∧ Gr w w' (.slice y n cap) (markB k)) := Lib.hid (fun _ _ => rfl)
  clear HA hg
  obtain ⟨W0, hW0⟩ : ∃ W0, W0 = w.alloc (.cells (mkC k) 23) := ⟨_, rfl⟩
  rw [← hW0] at K0 HC
  unfold mkC at *
  obtain ⟨x, hx⟩ : ∃ x, x = k.kind := ⟨_, rfl⟩
  obtain ⟨y, hy⟩ : ∃ y, y = k.rcpt := ⟨_, rfl⟩
  obtain ⟨z, hz⟩ : ∃ z, z = k.n := ⟨_, rfl⟩
  rw [← hx, ← hy, ← hz] at hW0 HC HT
  rw [← hx] at hx1 hx2
  rw [← hy] at hy1 hy2
  rw [← hz] at hz1 hz2
  rw [← hx, ← hy, ← hz]
  obtain ⟨T, hT⟩ : ∃ T, T = three k := ⟨_, rfl⟩
  obtain ⟨M, hM⟩ : ∃ M, M = Marked k w := ⟨_, rfl⟩
  obtain ⟨B, hB⟩ : ∃ B, B = markB k := ⟨_, rfl⟩
  rw [← hM, ← hB] at HE
  rw [← hT] at HT HT2 HTL HTB
  rw [← hB] at HT2 HMB
  rw [← hM]
  have HW0 := Lib.hid hW0
  clear hW0 hx hy hz hT hM hB
  clear k
  have kD : Keep (fun _ => False) W0 W0.drew := (Keep.refl _ W0).drew
  have hc0 := HC.out _ kD
  go_enter Try.func13, Try.ntmps13
  go_wp2
  rw [← HW0.out]
  refine wp_region_noPanic ?_
  refine wp_region_held_drew (S := fun w' => w'.cell? ⟨w.heap.size, 0, none⟩ = some (.int .i64 x) ∧ w'.cell? ⟨w.heap.size, 1, none⟩ = some (.int .i64 y) ∧ w'.cell? ⟨w.heap.size, 2, none⟩ = some (.int .i64 z)) (by kernel_rfl) ⟨hc0.1, hc0.2.1, hc0.2.2⟩ (fun hHeld => ?_)
  refine wpAnyH_take (i := 0) (v := ?_) rfl (by kernel_rfl) (by kernel_rfl) (by kernel_rfl) (fun _ _ _ h => h) (Or.inl ⟨by rfl, ?_⟩) (by assumption) ?_
  rotate_left
  · (intro wS hSw; (try dsimp only at hSw); obtain ⟨hS1, hS2, hS3⟩ := hSw; (try simp only [List.getElem_toArray, List.getElem_cons_succ, List.getElem_cons_zero]); go_simp; try (with_reducible rfl))
  try simp only [Act.put, List.getElem_toArray, List.getElem_cons_succ, List.getElem_cons_zero, List.setIfInBounds_toArray, List.set_cons_zero, List.set_cons_succ]
  refine wpAnyH_take (i := 1) (v := ?_) rfl (by kernel_rfl) (by kernel_rfl) (by kernel_rfl) (fun _ _ _ h => h) (Or.inl ⟨by rfl, ?_⟩) (by assumption) ?_
  rotate_left
  · (intro wS hSw; (try dsimp only at hSw); obtain ⟨hS1, hS2, hS3⟩ := hSw; (try simp only [List.getElem_toArray, List.getElem_cons_succ, List.getElem_cons_zero]); go_simp; try (with_reducible rfl))
  try simp only [Act.put, List.getElem_toArray, List.getElem_cons_succ, List.getElem_cons_zero, List.setIfInBounds_toArray, List.set_cons_zero, List.set_cons_succ]
  refine wpAnyH_take (i := 3) (v := ?_) rfl (by kernel_rfl) (by kernel_rfl) (by kernel_rfl) (fun _ _ _ h => h) (Or.inl ⟨by rfl, ?_⟩) (by assumption) ?_
  rotate_left
  · (intro wS hSw; (try dsimp only at hSw); obtain ⟨hS1, hS2, hS3⟩ := hSw; (try simp only [List.getElem_toArray, List.getElem_cons_succ, List.getElem_cons_zero]); go_simp; try (with_reducible rfl))
  try simp only [Act.put, List.getElem_toArray, List.getElem_cons_succ, List.getElem_cons_zero, List.setIfInBounds_toArray, List.set_cons_zero, List.set_cons_succ]
  refine wpAnyH_take (i := 4) (v := ?_) rfl (by kernel_rfl) (by kernel_rfl) (by kernel_rfl) (fun _ _ _ h => h) (Or.inl ⟨by rfl, ?_⟩) (by assumption) ?_
  rotate_left
  · (intro wS hSw; (try dsimp only at hSw); obtain ⟨hS1, hS2, hS3⟩ := hSw; (try simp only [List.getElem_toArray, List.getElem_cons_succ, List.getElem_cons_zero]); go_simp; try (with_reducible rfl))
  try simp only [Act.put, List.getElem_toArray, List.getElem_cons_succ, List.getElem_cons_zero, List.setIfInBounds_toArray, List.set_cons_zero, List.set_cons_succ]
  refine wpAnyH_take (i := 7) (v := ?_) rfl (by kernel_rfl) (by kernel_rfl) (by kernel_rfl) (fun _ _ _ h => h) (Or.inl ⟨by rfl, ?_⟩) (by assumption) ?_
  rotate_left
  · (intro wS hSw; (try dsimp only at hSw); obtain ⟨hS1, hS2, hS3⟩ := hSw; (try simp only [List.getElem_toArray, List.getElem_cons_succ, List.getElem_cons_zero]); go_simp; try (with_reducible rfl))
  try simp only [Act.put, List.getElem_toArray, List.getElem_cons_succ, List.getElem_cons_zero, List.setIfInBounds_toArray, List.set_cons_zero, List.set_cons_succ]
  refine wpAnyH_take (i := 8) (v := ?_) rfl (by kernel_rfl) (by kernel_rfl) (by kernel_rfl) (fun _ _ _ h => h) (Or.inl ⟨by rfl, ?_⟩) (by assumption) ?_
  rotate_left
  · (intro wS hSw; (try dsimp only at hSw); obtain ⟨hS1, hS2, hS3⟩ := hSw; (try simp only [List.getElem_toArray, List.getElem_cons_succ, List.getElem_cons_zero]); go_simp; try (with_reducible rfl))
  try simp only [Act.put, List.getElem_toArray, List.getElem_cons_succ, List.getElem_cons_zero, List.setIfInBounds_toArray, List.set_cons_zero, List.set_cons_succ]
  refine wpAnyH_ready (rs := [2]) (by kernel_rfl) (by simp) ?_
  refine AllReadyH.cons rfl (fun K hK => ?_) AllReadyH.nil
  go_simp
  refine (refNumI x (by omega) (by omega) _).mono ?_
  rintro e w1 ⟨g1, n1, hn1, hg1, rfl, hat1, hk1⟩
  obtain rfl : n1 = 8 := hn1
  have k1 := kD.trans hk1 (fun _ _ h => h)
  have G1 := Lib.hid (Gr.of_copy kD (num8_length _).symm hg1 hat1 hk1 (num8_lt _) (by omega))
  have hc1 := HC.out _ k1
  clear hg1 hat1 hk1
  go_wp2_with fail
  refine hK.out _ _ ⟨hc1.1, hc1.2.1, hc1.2.2⟩ (fun hHeld => ?_)
  clear hK K
  try simp only [Act.put, List.getElem_toArray, List.getElem_cons_succ, List.getElem_cons_zero, List.setIfInBounds_toArray, List.set_cons_zero, List.set_cons_succ]
  refine wpAnyH_ready (rs := [5]) (by kernel_rfl) (by simp) ?_
  refine AllReadyH.cons rfl (fun K hK => ?_) AllReadyH.nil
  go_simp
  refine (refNumI y (by omega) (by omega) _).mono ?_
  rintro e w2 ⟨g2, n2, hn2, hg2, rfl, hat2, hk2⟩
  obtain rfl : n2 = 8 := hn2
  have k2 := k1.trans hk2 (fun _ _ h => h)
  have G2 := Lib.hid (G1.out.quiet hk2)
  have HB2 := Lib.hid (Bytes.of_at hat2 (num8_lt y.toNat))
  have hc2 := HC.out _ k2
  clear hat2 hk2 hg2
  go_wp2_with fail
  refine hK.out _ _ ⟨hc2.1, hc2.2.1, hc2.2.2⟩ (fun hHeld => ?_)
  clear hK K
  try simp only [Act.put, List.getElem_toArray, List.getElem_cons_succ, List.getElem_cons_zero, List.setIfInBounds_toArray, List.set_cons_zero, List.set_cons_succ]
  refine wpAnyH_ready (rs := [6]) (by kernel_rfl) (by simp) ?_
  refine AllReadyH.cons rfl (fun K hK => ?_) AllReadyH.nil
  obtain ⟨y3, n3, c3, w3, hr3, hn3, hG3, hk3⟩ := G2.out.app 24 _ (some ⟨g2, 0, none⟩) 8 8 (num8 y.toNat) (num8_length _) HB2.out (by rw [num8_length]; omega)
  refine wp_append_runB (by rfl) (by rfl) (by rfl) hr3 ?_
  have hc3 := HC.out _ hG3.kp
  have G3 := Lib.hid hG3
  clear hG3 hn3 hk3 hr3
  refine hK.out _ _ ⟨hc3.1, hc3.2.1, hc3.2.2⟩ (fun hHeld => ?_)
  clear hK K
  try simp only [Act.put, List.getElem_toArray, List.getElem_cons_succ, List.getElem_cons_zero, List.setIfInBounds_toArray, List.set_cons_zero, List.set_cons_succ]
  refine wpAnyH_ready (rs := [9]) (by kernel_rfl) (by simp) ?_
  refine AllReadyH.cons rfl (fun K hK => ?_) AllReadyH.nil
  go_simp
  refine (refNumI z (by omega) (by omega) _).mono ?_
  rintro e w4 ⟨g4, n4, hn4, hg4, rfl, hat4, hk4⟩
  obtain rfl : n4 = 8 := hn4
  have G4 := Lib.hid (G3.out.quiet hk4)
  have HB4 := Lib.hid (Bytes.of_at hat4 (num8_lt z.toNat))
  have hc4 := HC.out _ G4.out.kp
  clear hat4 hk4 hg4
  go_wp2_with fail
  refine hK.out _ _ ⟨hc4.1, hc4.2.1, hc4.2.2⟩ (fun hHeld => ?_)
  clear hK K
  try simp only [Act.put, List.getElem_toArray, List.getElem_cons_succ, List.getElem_cons_zero, List.setIfInBounds_toArray, List.set_cons_zero, List.set_cons_succ]
  refine wpAnyH_ready (rs := [10]) (by kernel_rfl) (by simp) ?_
  refine AllReadyH.cons rfl (fun K hK => ?_) AllReadyH.nil
  obtain ⟨y5, n5, c5, w5, hr5, hn5, hG5, hk5⟩ := G4.out.app 24 _ (some ⟨g4, 0, none⟩) 8 8 (num8 z.toNat) (num8_length _) HB4.out (by simp [num8_length])
  refine wp_append_runB (by rfl) (by rfl) (by rfl) hr5 ?_
  have hc5 := HC.out _ hG5.kp
  rw [← HT.out] at hG5 hn5
  have G5 := Lib.hid hG5
  have HN5 : Hid (n5 = 24) := Lib.hid (by rw [hn5, HTL.out])
  have HB5 := Lib.hid hG5.own.bytesO
  clear hG5 hn5 hk5 hr5
  refine hK.out _ _ ⟨hc5.1, hc5.2.1, hc5.2.2⟩ (fun hHeld => ?_)
  clear hK K
  try simp only [Act.put, List.getElem_toArray, List.getElem_cons_succ, List.getElem_cons_zero, List.setIfInBounds_toArray, List.set_cons_zero, List.set_cons_succ]
  refine wpAnyH_take (i := 11) (v := ?_) rfl (by kernel_rfl) (by kernel_rfl) (by kernel_rfl) (fun _ _ _ h => h) (Or.inl ⟨by rfl, ?_⟩) (by assumption) ?_
  rotate_left
  · (intro wS hSw; (try dsimp only at hSw); (try simp only [List.getElem_toArray, List.getElem_cons_succ, List.getElem_cons_zero]); go_simp; try (with_reducible rfl))
  try simp only [Act.put, List.getElem_toArray, List.getElem_cons_succ, List.getElem_cons_zero, List.setIfInBounds_toArray, List.set_cons_zero, List.set_cons_succ]
  refine wpAnyH_done (by kernel_rfl) ?_ _
  refine NoPanic.normal ?_
  go_wp2_with fail
  refine (refSumC y5 n5 c5 T HB5.out.2.1 (by have := HN5.out; omega) HB5.out.1).mono ?_
  rintro e w6 ⟨g6, n6, hn6, hg6, rfl, hat6, hk6⟩
  obtain rfl : n6 = 4 := hn6
  have G6 := Lib.hid (G5.out.quiet hk6)
  have HB6 := Lib.hid (Bytes.of_at hat6 (sum4_lt T))
  clear hat6 hk6 hg6
  go_wp2_with
    (at_builtin
     refine wpList_app (by rfl) (.tmp 15) (.tmp 17) (by rfl) (.slice y5 n5 c5) T (by rfl) G6.out _ (some ⟨g6, 0, none⟩) 4 4 (sum4 T) (by rfl) rfl HB6.out (by have := HTL.out; omega) ?_
     intro y7 n7 c7 w7 hn7 hG7
     rw [← HT2.out] at hG7 hn7
     have G7 := Lib.hid hG7
     have HN7 := Lib.hid hn7.out
     clear hG7 hn7)
  show M (.returned (.slice y7 n7 c7)) w7
  rw [HE.out]
  exact ⟨y7, n7, c7, by rw [HN7.out]; exact HMB.out _ rfl, rfl, G7.out.up K0.out⟩

/-! ### Encode -/
def EncK (k : Mk) (w : World) (e : Ending) (w' : World) : Prop :=
  if goodK k = true then ∃ y n cap, n = 28 ∧ e = .returned (.tuple #[.slice y n cap, .bool true]) ∧ Gr w w' (.slice y n cap) (markB k)
    else e = .returned (.tuple #[.slice none 0 0, .bool false]) ∧ Keep (fun _ => False) w w'
set_option maxHeartbeats 8000000 in
set_option maxRecDepth 100000 in
theorem encodeK {w : World} (k : Mk) : Calls Try.prog 9 #[.agg (mkC k)] w (EncK k w) := by
  have HM : Hid (∀ e w', EncK k w e w' = if goodK k = true then ∃ y n cap, n = 28 ∧ e = .returned (.tuple #[.slice y n cap, .bool true]) ∧ Gr w w' (.slice y n cap) (markB k)
    else e = .returned (.tuple #[.slice none 0 0, .bool false]) ∧ Keep (fun _ => False) w w') := Lib.hid (fun _ _ => rfl)
  have K0 := Lib.hid (keep_new w (.cells (mkC k) 23))
  have HA : Hid (At (w.alloc (.cells (mkC k) 23)) w.heap.size 23 (mkC k)) := Lib.hid (At.new w _ _)
  have HC : Hid (∀ W, Keep (fun _ => False) (w.alloc (.cells (mkC k) 23)) W → K3 W w.heap.size k.kind k.rcpt k.n) := Lib.hid (fun W kk => k3_of (HA.out.keep kk (fun h => h)))
  have HG := Lib.hid (goodKC k (w.alloc (.cells (mkC k) 23)))
  have HNu : Hid (∀ W, Calls Try.prog 20 #[.agg (mkC k)] W (Quiet (.agg (mkC k)) W)) := Lib.hid (fun W => numbersC k W)
  obtain ⟨M, hM⟩ : ∃ M, M = EncK k w := ⟨_, rfl⟩
  rw [← hM] at HM
  rw [← hM]
  clear HA hM
  cases hg : goodK k with
  | false =>
    rw [hg] at HG HM
    unfold mkC at *
    go_enter Try.func9, Try.ntmps9
    go_wp2_with fail
    refine HG.out.mono ?_
    rintro e w1 ⟨rfl, hk1⟩
    go_wp2
    show M (.returned (.tuple #[.slice none 0 0, .bool false])) w1
    rw [HM.out, if_neg (by decide)]
    exact ⟨rfl, K0.out.trans hk1 (fun _ _ h => h)⟩
  | true =>
    rw [hg] at HG HM
    have hG := goodK_iff.1 hg
    have HT : Hid (three k = num8 k.kind.toNat ++ num8 k.rcpt.toNat ++ num8 k.n.toNat) := Lib.hid (by simp [three])
    have HT2 : Hid (markB k = three k ++ sum4 (three k)) := Lib.hid rfl
    have HTL : Hid ((three k).length = 24) := Lib.hid (three_length k)
    have HTB := Lib.hid (three_lt k)
    clear hg
    unfold mkC at *
    obtain ⟨x, hx⟩ : ∃ x, x = k.kind := ⟨_, rfl⟩
    obtain ⟨y, hy⟩ : ∃ y, y = k.rcpt := ⟨_, rfl⟩
    obtain ⟨z, hz⟩ : ∃ z, z = k.n := ⟨_, rfl⟩
    rw [← hx, ← hy, ← hz] at HC HT HG K0 hG
    rw [← hx, ← hy, ← hz] at HNu
    rw [← hx, ← hy, ← hz]
    obtain ⟨T, hT⟩ : ∃ T, T = three k := ⟨_, rfl⟩
    rw [← hT] at HT HT2 HTL HTB
    obtain ⟨B, hB⟩ : ∃ B, B = markB k := ⟨_, rfl⟩
    rw [← hB] at HT2 HM
    obtain ⟨hx1, hx2, hy1, hy2, hz1, hz2⟩ := hG
    obtain ⟨i0, i1, i2⟩ := run_index3 x y z
    clear hx hy hz hT hB
    clear k
    go_enter Try.func9, Try.ntmps9
    go_wp2_with fail
    refine HG.out.mono ?_
    rintro e w1 ⟨rfl, hk1⟩
    obtain ⟨a0, a1, a2⟩ := HC.out w1 hk1
    have K1 := Lib.hid (K0.out.trans hk1 (fun _ _ h => h))
    have HCk : Hid (Keep (fun _ => False) (w.alloc (.cells #[.int .i64 x, .int .i64 y, .int .i64 z] 23)) w1) := Lib.hid hk1
    obtain ⟨p, hp⟩ : ∃ p, p = w1.heap.size := ⟨_, rfl⟩
    have G0 : Hid (Wg w1 (w1.alloc (.cells #[.slice none 0 0, .bool false] 46)) p none []) := Lib.hid (by rw [hp]; exact Wg.new (Keep.refl _ _))
    obtain ⟨b0, b1, b2⟩ := HC.out _ (HCk.out.trans G0.out.kp (fun _ _ h => h))
    have HP := Lib.hid hp
    clear hk1 hp
    go_wp2_with fail
    rw [← HP.out]
    refine (HNu.out _).mono ?_
    rintro e w2 ⟨rfl, hk2⟩
    have G2 := Lib.hid (G0.out.quiet hk2)
    clear hk2 a0 a1 a2 b0 b1 b2 G0
    go_wp2
    go_loopw [15] (fun i wr => ∃ (j : Nat) (q : Option Nat), j ≤ 3 ∧ i = .int .i64 (j : Int) ∧ Hid (Wg w1 wr p q (T.take (8 * j)))) (fun i _ => 3 - (intOf i).toNat)
    case atStart => exact ⟨0, none, by omega, rfl, G2.out⟩
    case round =>
      obtain ⟨j, q, hj, rfl, G⟩ := hrel
      obtain rfl | rfl | rfl | rfl : j = 0 ∨ j = 1 ∨ j = 2 ∨ j = 3 := by omega
      · go_wp2_with fail
        refine (G.out.num x (by omega) (by omega) (by rw [List.length_take]; omega)).mono ?_
        rintro e w3 ⟨rfl, q3, hG3⟩
        have e3 : T.take (8 * 0) ++ num8 x.toNat = T.take (8 * 1) := by
          rw [HT.out]
          simp [List.take_append, num8_length, List.take_of_length_le]
        rw [e3] at hG3
        have G3 := Lib.hid hG3
        clear hG3 e3 G
        go_wp2
        go_roundw
        case rel => exact ⟨1, q3, by omega, by go_num, G3.out⟩
        case measure => simp [intOf]
      · go_wp2_with fail
        refine (G.out.num y (by omega) (by omega) (by rw [List.length_take]; omega)).mono ?_
        rintro e w3 ⟨rfl, q3, hG3⟩
        have e3 : T.take (8 * 1) ++ num8 y.toNat = T.take (8 * 2) := by
          rw [HT.out]
          simp [List.take_append, num8_length, List.take_of_length_le]
        rw [e3] at hG3
        have G3 := Lib.hid hG3
        clear hG3 e3 G
        go_wp2
        go_roundw
        case rel => exact ⟨2, q3, by omega, by go_num, G3.out⟩
        case measure => simp [intOf]
      · go_wp2_with fail
        refine (G.out.num z (by omega) (by omega) (by rw [List.length_take]; omega)).mono ?_
        rintro e w3 ⟨rfl, q3, hG3⟩
        have e3 : T.take (8 * 2) ++ num8 z.toNat = T.take (8 * 3) := by
          rw [HT.out]
          simp [List.take_append, num8_length, List.take_of_length_le]
        rw [e3] at hG3
        have G3 := Lib.hid hG3
        clear hG3 e3 G
        go_wp2
        go_roundw
        case rel => exact ⟨3, q3, by omega, by go_num, G3.out⟩
        case measure => simp [intOf]
      · have e3 : T.take (8 * 3) = T := List.take_of_length_le (by rw [HTL.out]; omega)
        have G3 : Hid (Wg w1 wr p q T) := Lib.hid (by have := G.out; rwa [e3] at this)
        clear e3 G
        go_wp2_with fail
        refine (out p q (some T) (by have := HTL.out; simp; omega) wr G3.out.wr).mono ?_
        rintro e w4 ⟨g4, n4, hn4, hg4, rfl, hat4, hk4⟩
        have hn24 : n4 = 24 := by rw [hn4, HTL.out]
        subst hn24
        have K4 := Lib.hid (G3.out.kp.trans hk4 (fun _ _ h => h))
        have G4 := Lib.hid (Gr.of_copy (w0 := w1) G3.out.kp (by rw [HTL.out]) hg4 hat4 hk4 HTB.out (by omega))
        have HB4 := Lib.hid (Bytes.of_at hat4 HTB.out)
        clear hn4 hat4 hk4 hg4 G3
        go_wp2_with fail
        refine (checksumK (some ⟨g4, 0, none⟩) 24 24 T HTL.out.symm (by omega) HB4.out).mono ?_
        rintro e w5 ⟨g5, n5, hn5, hg5, rfl, hat5, hk5⟩
        obtain rfl : n5 = 4 := hn5
        have G5 := Lib.hid (G4.out.quiet hk5)
        have HB5 := Lib.hid (Bytes.of_at hat5 (sum4_lt T))
        clear hat5 hk5 hg5
        go_wp2_with
          (at_builtin
           refine wpList_app (by rfl) (.tmp 29) (.tmp 31) (by rfl) (.slice (some ⟨g4, 0, none⟩) 24 24) T (by rfl) G5.out _ (some ⟨g5, 0, none⟩) 4 4 (sum4 T) (by rfl) rfl HB5.out (by have := HTL.out; omega) ?_
           intro y7 n7 c7 w7 hn7 hG7
           have HN7 : Hid (n7 = 28) := Lib.hid (by rw [hn7.out, List.length_append, HTL.out]; rfl)
           rw [← HT2.out] at hG7
           have G7 := Lib.hid hG7
           clear hG7 hn7)
        show M (.returned (.tuple #[.slice y7 n7 c7, .bool true])) w7
        rw [HM.out]
        simp only [if_true]
        exact ⟨y7, n7, c7, HN7.out, rfl, G7.out.up K1.out⟩
end Go.Proofs.Ytcplemamcgonkaa.Ln
