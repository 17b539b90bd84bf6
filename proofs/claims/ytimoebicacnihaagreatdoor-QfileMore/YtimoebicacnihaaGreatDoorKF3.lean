/-
  What the document's own Record returns, for every good mail.
-/
import Derived.Test.YtimoebicacnihaaGreatDoorKF2
import Derived.Test.YtimoebicacnihaaGreatDoorKg5
namespace Go.Proofs.YtimoebicacnihaaGreatDoor.Ln
open Go.RowKit
set_option linter.unusedVariables false
set_option linter.unusedSimpArgs false

/-! ### A row of bytes that grows -/
theorem wp_append_runB {o : Oper} {a : Act} {w w' : World} {K : Act → World → Prop} {Q : Exit → Act → World → Prop} {s t : Operand} {T U : TypeId} {v u r : Value} (ho : o.op = .call { callee := .builtin .append, args := #[s, t], argTypes := #[T, U] }) (hs : a.eval s = v) (hx : a.eval t = u)
    (hr : (Builtin.append_ #[T, U] o.type #[v, u]).run Tryz.prog w = .ok r w') (hK : K (a.put o.dst r) w') : o.wp Tryz.prog a w K Q := by
  unfold Oper.wp execOp
  simp only [ho, resolve, invoke, builtin, Sem.run_bind, Sem.run_pure, Result.andThen_ok, List.map_toArray, List.map_cons, List.map_nil, hs, hx, hr]
  exact hK
structure Gr (w0 w : World) (v : Value) (bs : List Nat) : Prop where
  own : Own w v bs
  new : ∀ b, v.ownBlock = some b → w0.heap.size ≤ b
  kp : Keep (fun _ => False) w0 w
theorem Gr.quiet {w0 w w' : World} {v : Value} {bs : List Nat} (h : Gr w0 w v bs) (k : Keep (fun _ => False) w w') : Gr w0 w' v bs := ⟨h.own.keep k (fun _ _ h => h), h.new, h.kp.trans k (fun _ _ h => h)⟩
theorem Gr.of_copy {w0 w w' : World} {g m : Nat} {bs : List Nat} (k0 : Keep (fun _ => False) w0 w) (hm : m = bs.length) (hg : w.heap.size ≤ g) (hat : At w' g 5 (cellsOf bs).toArray) (k : Keep (fun _ => False) w w') (hb : ∀ c ∈ bs, c < 256) (hl : m ≤ 1000000) : Gr w0 w' (.slice (some ⟨g, 0, none⟩) m m) bs := by
  subst hm
  refine ⟨Own.of_at hat hb (by simp only [maxLen]; omega), fun b hb => ?_, k0.trans k (fun _ _ h => h)⟩
  injection hb with hb
  have := k0.size
  simp at hb
  omega
theorem Gr.app {w0 w : World} {v : Value} {bs : List Nat} (h : Gr w0 w v bs) (ty : TypeId) (P : Nat → Prop) (x : Option Addr) (m c : Nat) (cs : List Nat) (hm : cs.length = m) (hB : Bytes P w x cs) (hl : bs.length + m ≤ 1000000) :
    ∃ y n cap w', (Builtin.append_ #[23, 23] ty #[v, .slice x m c]).run Tryz.prog w = .ok (.slice y n cap) w' ∧ n = (bs ++ cs).length ∧ Gr w0 w' (.slice y n cap) (bs ++ cs) ∧ Keep (fun k => v.ownBlock = some k) w w' := by
  obtain ⟨y, cap, w', hr, h2, h3, h4⟩ := run_append_bytes ty w v bs h.own P x m c cs hm hB (by omega)
  have e : bs.length + m = (bs ++ cs).length := by rw [List.length_append, hm]
  rw [e] at hr h2 h4
  refine ⟨y, _, cap, w', hr, rfl, ⟨h2, fun b hb => ?_, h.kp.trans h3 (fun i hi e => by have := h.new i e; omega)⟩, h3⟩
  rcases h4 b hb with h5 | h5
  · exact h.new b h5
  · exact Nat.le_trans h.kp.size h5
theorem Gr.up {w0 w1 w : World} {v : Value} {bs : List Nat} (h : Gr w1 w v bs) (k : Keep (fun _ => False) w0 w1) : Gr w0 w v bs := ⟨h.own, fun b hb => Nat.le_trans k.size (h.new b hb), k.trans h.kp (fun _ _ h => h)⟩
theorem wpList_app {w0 w : World} {ops : Array Oper} {rest : List Oper} {o : Oper} {a : Act} {Q : Exit → Act → World → Prop} (hgd : o.guard = none) (s t : Operand)
    (ho : o.op = .call { callee := .builtin .append, args := #[s, t], argTypes := #[23, 23] })
    (v : Value) (bs : List Nat) (hs : a.eval s = v) (h : Gr w0 w v bs) (P : Nat → Prop) (x : Option Addr) (m c : Nat) (cs : List Nat) (hx : a.eval t = .slice x m c) (hm : cs.length = m) (hB : Bytes P w x cs) (hl : bs.length + m ≤ 1000000)
    (hK : ∀ y n cap w', Hid (n = (bs ++ cs).length) → Gr w0 w' (.slice y n cap) (bs ++ cs) → wpList Tryz.prog ops Q rest (a.put o.dst (.slice y n cap)) w') :
    wpList Tryz.prog ops Q (o :: rest) a w := by
  refine wpList_plain hgd fun K hK' => ?_
  obtain ⟨y, n, cap, w', hr, hn, h2, _⟩ := h.app o.type P x m c cs hm hB hl
  exact wp_append_runB ho hs hx hr (hK' _ _ (hK y n cap w' (Lib.hid hn) h2))
theorem refNumI (i : Int) (h0 : 0 ≤ i) (h1 : i ≤ 4611686018427387904) (w : World) : Calls Tryz.prog 36 #[.int .i64 i] w (Copy (num8 i.toNat) w) := by
  have := refNum i.toNat (by omega) w
  rw [show ((i.toNat : Nat) : Int) = i by omega] at this
  exact this
/-- What is answered by the document's Bytes lies in a row of its own. -/
theorem RefB.bytes {b : List Nat} {w : World} {e : Ending} {w' : World} (h : RefB b w e w') : ∃ y n cap, n = (enc b).length ∧ e = .returned (.slice y n cap) ∧ Gr w w' (.slice y n cap) (enc b) := by
  obtain ⟨y, n, cap, hn, he, hO, hN, hk⟩ := h
  refine ⟨y, n, cap, hn, he, hO, fun k hk' => ?_, hk⟩
  rcases hN k hk' with h | h
  · cases h
  · exact h
theorem Own.bytesO {w : World} {x : Option Addr} {n cap : Nat} {bs : List Nat} (h : Own w (.slice x n cap) bs) : Bytes (fun _ => True) w x bs ∧ n = bs.length ∧ n ≤ cap := by
  obtain ⟨x', cap', hv, hB⟩ := h.shape
  injection hv with e1 e2 e3
  subst e1 e3
  refine ⟨hB.mono (fun _ _ _ => trivial), e2, ?_⟩
  rcases h.1.2 with ⟨hv, h0⟩ | ⟨g, cap', cur, hv, _, _, hnc, _⟩
  · injection hv with _ e2' e3'
    omega
  · injection hv with _ e2' e3'
    omega

/-- What Record answers. -/
def Recorded (m : Ml) (w : World) (e : Ending) (w' : World) : Prop := ∃ y n cap, n = (record m).length ∧ e = .returned (.slice y n cap) ∧ Gr w w' (.slice y n cap) (record m)
set_option maxHeartbeats 8000000 in
set_option maxRecDepth 100000 in
theorem refRecordC {P : Nat → Prop} {w : World} {m : Ml} {rx : Option Addr} {rn rc : Nat} {bx : Option Addr} {bn bc : Nat} (h : MlAt P w m rx rn rc bx bn bc) (hf : Fine m) :
    Calls Tryz.prog 24 #[.agg (mlC m rx rn rc bx bn bc)] w (Recorded m w) := by
  have k0 := keep_new w (.cells (mlC m rx rn rc bx bn bc) 25)
  have H := Lib.hid ((h.mono (Q := fun k => k < w.heap.size) (fun k hk _ => hk)).quiet k0)
  have K0 := Lib.hid k0
  have HF := Lib.hid hf
  have HSM := Lib.hid (content_small hf)
  have HH5 := Lib.hid (head5_small hf)
  have i0 := hf.id
  have p0 := hf.parent
  have b0 := hf.born
  have n0 := hf.n
  have f0 : m.frm.size ≤ 64 := by rcases hf.frm with h | h; omega; exact box_size h
  have body0 := hf.body
  have HRN := Lib.hid h.hrn
  have HBN := Lib.hid h.hbn
  have HBL := Lib.hid h.bs.1
  have HA : Hid (At (w.alloc (.cells (mlC m rx rn rc bx bn bc) 25)) w.heap.size 25 (mlC m rx rn rc bx bn bc)) := Lib.hid (At.new w _ _)
  have HC : Hid (∀ W, Keep (fun _ => False) (w.alloc (.cells (mlC m rx rn rc bx bn bc) 25)) W → W.cell? ⟨w.heap.size, 0, none⟩ = some (.int .i64 m.id) ∧ W.cell? ⟨w.heap.size, 1, none⟩ = some (.int .i64 m.parent) ∧ W.cell? ⟨w.heap.size, 2, none⟩ = some (.int .i64 m.born) ∧ W.cell? ⟨w.heap.size, 3, none⟩ = some (.string m.frm) ∧ W.cell? ⟨w.heap.size, 4, none⟩ = some (.slice rx rn rc) ∧ W.cell? ⟨w.heap.size, 5, none⟩ = some (.slice bx bn bc)) := Lib.hid (fun W k => by
    have hA := HA.out.keep k (fun h => h)
    exact ⟨hA.cell 0, hA.cell 1, hA.cell 2, hA.cell 3, hA.cell 4, hA.cell 5⟩)
  clear h k0 hf HA
  unfold mlC at *
  obtain ⟨W0, hW0⟩ : ∃ W0, W0 = w.alloc (.cells #[.int .i64 m.id, .int .i64 m.parent, .int .i64 m.born, .string m.frm, .slice rx rn rc, .slice bx bn bc] 25) := ⟨_, rfl⟩
  rw [← hW0] at H K0 HC
  have HW0 := Lib.hid hW0
  clear hW0
  have kD : Keep (fun _ => False) W0 W0.drew := (Keep.refl _ W0).drew
  have hc0 := HC.out _ kD
  go_enter Tryz.func24, Tryz.ntmps24
  go_wp2
  rw [← HW0.out]
  refine wp_region_noPanic ?_
  refine wp_region_held_drew (S := fun w' => w'.cell? ⟨w.heap.size, 0, none⟩ = some (.int .i64 m.id) ∧ w'.cell? ⟨w.heap.size, 1, none⟩ = some (.int .i64 m.parent) ∧ w'.cell? ⟨w.heap.size, 2, none⟩ = some (.int .i64 m.born)) (by kernel_rfl) ⟨hc0.1, hc0.2.1, hc0.2.2.1⟩ (fun hHeld => ?_)
  refine wpAnyH_take (i := 0) (v := ?_) rfl (by kernel_rfl) (by kernel_rfl) (by kernel_rfl) (fun _ _ _ h => h) (Or.inl ⟨by rfl, ?_⟩) (by assumption) ?_
  rotate_left
  · (intro wS hSw; (try dsimp only at hSw); obtain ⟨hS1, hS2, hS3⟩ := hSw; (try simp only [List.getElem_toArray, List.getElem_cons_succ, List.getElem_cons_zero]); go_simp; try (with_reducible rfl))
  try simp only [Act.put, List.getElem_toArray, List.getElem_cons_succ, List.getElem_cons_zero, List.setIfInBounds_toArray, List.set_cons_zero, List.set_cons_succ]
  refine wpAnyH_take (i := 1) (v := ?_) rfl (by kernel_rfl) (by kernel_rfl) (by kernel_rfl) (fun _ _ _ h => h) (Or.inl ⟨by rfl, ?_⟩) (by assumption) ?_
  rotate_left
  · (intro wS hSw; (try dsimp only at hSw); obtain ⟨hS1, hS2, hS3⟩ := hSw; (try simp only [List.getElem_toArray, List.getElem_cons_succ, List.getElem_cons_zero]); go_simp; try (with_reducible rfl))
  try simp only [Act.put, List.getElem_toArray, List.getElem_cons_succ, List.getElem_cons_zero, List.setIfInBounds_toArray, List.set_cons_zero, List.set_cons_succ]
  refine wpAnyH_take (i := 3) (v := ?_) rfl (by kernel_rfl) (by kernel_rfl) (by kernel_rfl) (fun _ _ _ h => h) (Or.inl ⟨by rfl, ?_⟩) (by assumption) ?_
  rotate_left
  · (intro wS hSw; (try dsimp only at hSw); obtain ⟨hS1, hS2, hS3⟩ := hSw; (try simp only [List.getElem_toArray, List.getElem_cons_succ, List.getElem_cons_zero]); go_simp; try (with_reducible rfl))
  try simp only [Act.put, List.getElem_toArray, List.getElem_cons_succ, List.getElem_cons_zero, List.setIfInBounds_toArray, List.set_cons_zero, List.set_cons_succ]
  refine wpAnyH_take (i := 4) (v := ?_) rfl (by kernel_rfl) (by kernel_rfl) (by kernel_rfl) (fun _ _ _ h => h) (Or.inl ⟨by rfl, ?_⟩) (by assumption) ?_
  rotate_left
  · (intro wS hSw; (try dsimp only at hSw); obtain ⟨hS1, hS2, hS3⟩ := hSw; (try simp only [List.getElem_toArray, List.getElem_cons_succ, List.getElem_cons_zero]); go_simp; try (with_reducible rfl))
  try simp only [Act.put, List.getElem_toArray, List.getElem_cons_succ, List.getElem_cons_zero, List.setIfInBounds_toArray, List.set_cons_zero, List.set_cons_succ]
  refine wpAnyH_take (i := 7) (v := ?_) rfl (by kernel_rfl) (by kernel_rfl) (by kernel_rfl) (fun _ _ _ h => h) (Or.inl ⟨by rfl, ?_⟩) (by assumption) ?_
  rotate_left
  · (intro wS hSw; (try dsimp only at hSw); obtain ⟨hS1, hS2, hS3⟩ := hSw; (try simp only [List.getElem_toArray, List.getElem_cons_succ, List.getElem_cons_zero]); go_simp; try (with_reducible rfl))
  try simp only [Act.put, List.getElem_toArray, List.getElem_cons_succ, List.getElem_cons_zero, List.setIfInBounds_toArray, List.set_cons_zero, List.set_cons_succ]
  refine wpAnyH_take (i := 8) (v := ?_) rfl (by kernel_rfl) (by kernel_rfl) (by kernel_rfl) (fun _ _ _ h => h) (Or.inl ⟨by rfl, ?_⟩) (by assumption) ?_
  rotate_left
  · (intro wS hSw; (try dsimp only at hSw); obtain ⟨hS1, hS2, hS3⟩ := hSw; (try simp only [List.getElem_toArray, List.getElem_cons_succ, List.getElem_cons_zero]); go_simp; try (with_reducible rfl))
  try simp only [Act.put, List.getElem_toArray, List.getElem_cons_succ, List.getElem_cons_zero, List.setIfInBounds_toArray, List.set_cons_zero, List.set_cons_succ]
  refine wpAnyH_ready (rs := [2]) (by kernel_rfl) (by simp) ?_
  refine AllReadyH.cons rfl (fun K hK => ?_) AllReadyH.nil
  go_simp
  refine (refNumI m.id (by omega) (by omega) _).mono ?_
  rintro e w1 ⟨g1, n1, hn1, hg1, rfl, hat1, hk1⟩
  obtain rfl : n1 = 8 := hn1
  have k1 := kD.trans hk1 (fun _ _ h => h)
  have G1 := Lib.hid (Gr.of_copy kD (num8_length _).symm hg1 hat1 hk1 (num8_lt _) (by omega))
  have hc1 := HC.out _ k1
  clear hg1 hat1 hk1
  go_wp2_with fail
  refine hK.out _ _ ⟨hc1.1, hc1.2.1, hc1.2.2.1⟩ (fun hHeld => ?_)
  clear hK K
  try simp only [Act.put, List.getElem_toArray, List.getElem_cons_succ, List.getElem_cons_zero, List.setIfInBounds_toArray, List.set_cons_zero, List.set_cons_succ]
  refine wpAnyH_ready (rs := [5]) (by kernel_rfl) (by simp) ?_
  refine AllReadyH.cons rfl (fun K hK => ?_) AllReadyH.nil
  go_simp
  refine (refNumI m.parent (by omega) (by omega) _).mono ?_
  rintro e w2 ⟨g2, n2, hn2, hg2, rfl, hat2, hk2⟩
  obtain rfl : n2 = 8 := hn2
  have k2 := k1.trans hk2 (fun _ _ h => h)
  have G2 := Lib.hid (G1.out.quiet hk2)
  have HB2 := Lib.hid (Bytes.of_at hat2 (num8_lt m.parent.toNat))
  have hc2 := HC.out _ k2
  have hg2' : Hid (w1.heap.size ≤ g2) := Lib.hid hg2
  clear hat2 hk2 hg2
  go_wp2_with fail
  refine hK.out _ _ ⟨hc2.1, hc2.2.1, hc2.2.2.1⟩ (fun hHeld => ?_)
  clear hK K
  try simp only [Act.put, List.getElem_toArray, List.getElem_cons_succ, List.getElem_cons_zero, List.setIfInBounds_toArray, List.set_cons_zero, List.set_cons_succ]
  refine wpAnyH_ready (rs := [6]) (by kernel_rfl) (by simp) ?_
  refine AllReadyH.cons rfl (fun K hK => ?_) AllReadyH.nil
  obtain ⟨y3, n3, c3, w3, hr3, hn3, hG3, hk3⟩ := G2.out.app 23 _ (some ⟨g2, 0, none⟩) 8 8 (num8 m.parent.toNat) (num8_length _) HB2.out (by rw [num8_length]; omega)
  refine wp_append_runB (by rfl) (by rfl) (by rfl) hr3 ?_
  have hc3 := HC.out _ hG3.kp
  have G3 := Lib.hid hG3
  have HN3 := Lib.hid hn3
  clear hG3 hn3 hk3 hr3
  refine hK.out _ _ ⟨hc3.1, hc3.2.1, hc3.2.2.1⟩ (fun hHeld => ?_)
  clear hK K
  try simp only [Act.put, List.getElem_toArray, List.getElem_cons_succ, List.getElem_cons_zero, List.setIfInBounds_toArray, List.set_cons_zero, List.set_cons_succ]
  refine wpAnyH_ready (rs := [9]) (by kernel_rfl) (by simp) ?_
  refine AllReadyH.cons rfl (fun K hK => ?_) AllReadyH.nil
  go_simp
  refine (refNumI m.born (by omega) (by omega) _).mono ?_
  rintro e w4 ⟨g4, n4, hn4, hg4, rfl, hat4, hk4⟩
  obtain rfl : n4 = 8 := hn4
  have G4 := Lib.hid (G3.out.quiet hk4)
  have HB4 := Lib.hid (Bytes.of_at hat4 (num8_lt m.born.toNat))
  have hc4 := HC.out _ G4.out.kp
  clear hat4 hk4 hg4
  go_wp2_with fail
  refine hK.out _ _ ⟨hc4.1, hc4.2.1, hc4.2.2.1⟩ (fun hHeld => ?_)
  clear hK K
  try simp only [Act.put, List.getElem_toArray, List.getElem_cons_succ, List.getElem_cons_zero, List.setIfInBounds_toArray, List.set_cons_zero, List.set_cons_succ]
  refine wpAnyH_ready (rs := [10]) (by kernel_rfl) (by simp) ?_
  refine AllReadyH.cons rfl (fun K hK => ?_) AllReadyH.nil
  obtain ⟨y5, n5, c5, w5, hr5, hn5, hG5, hk5⟩ := G4.out.app 23 _ (some ⟨g4, 0, none⟩) 8 8 (num8 m.born.toNat) (num8_length _) HB4.out (by simp [num8_length])
  refine wp_append_runB (by rfl) (by rfl) (by rfl) hr5 ?_
  have hc5 := HC.out _ hG5.kp
  have G5 := Lib.hid hG5
  clear hG5 hn5 hk5 hr5
  refine hK.out _ _ ⟨hc5.1, hc5.2.1, hc5.2.2.1⟩ (fun hHeld => ?_)
  clear hK K
  try simp only [Act.put, List.getElem_toArray, List.getElem_cons_succ, List.getElem_cons_zero, List.setIfInBounds_toArray, List.set_cons_zero, List.set_cons_succ]
  refine wpAnyH_take (i := 11) (v := ?_) rfl (by kernel_rfl) (by kernel_rfl) (by kernel_rfl) (fun _ _ _ h => h) (Or.inl ⟨by rfl, ?_⟩) (by assumption) ?_
  rotate_left
  · (intro wS hSw; (try dsimp only at hSw); (try simp only [List.getElem_toArray, List.getElem_cons_succ, List.getElem_cons_zero]); go_simp; try (with_reducible rfl))
  try simp only [Act.put, List.getElem_toArray, List.getElem_cons_succ, List.getElem_cons_zero, List.setIfInBounds_toArray, List.set_cons_zero, List.set_cons_succ]
  refine wpAnyH_done (by kernel_rfl) ?_ _
  refine NoPanic.normal ?_
  have hc5 := (HC.out _ G5.out.kp).2.2.2.1
  obtain ⟨cc6, w6, kc6, hB6, hK6⟩ := conv_str m.frm w5
  have G6 := Lib.hid (G5.out.quiet hK6)
  have HB6 := Lib.hid hB6
  clear hB6 hK6 G5
  go_wp2_with fail
  refine (refBytes (fun b => b = w5.heap.size) (some ⟨w5.heap.size, 0, none⟩) m.frm.size cc6 (ns m.frm) (ns_length _) (by omega) w6 HB6.out).mono ?_
  rintro e w7 hr7
  obtain ⟨y7, n7, c7, hn7, rfl, hG7⟩ := hr7.bytes
  have G7 := Lib.hid (G6.out.quiet hG7.kp)
  have HB7 := Lib.hid hG7.own.bytesO
  clear hr7 hn7 hG7 G6 HB6 kc6 hc5
  go_wp2_with
    (at_builtin
     refine wpList_app (by rfl) (.tmp 16) (.tmp 20) (by rfl) (.slice y5 n5 c5) (num8 m.id.toNat ++ num8 m.parent.toNat ++ num8 m.born.toNat) (by rfl) G7.out _ y7 n7 c7 (enc (ns m.frm)) (by rfl) HB7.out.2.1.symm HB7.out.1 (by have := HB7.out.2.1; simp [num8_length, enc_length, ns_length] at *; omega) ?_
     intro y8 n8 c8 w8 hn8 hG8
     have G8 := Lib.hid hG8
     have hc8 := (HC.out _ hG8.kp).2.2.2.2.1
     clear hG8 hn8)
  refine (refNumI (rn : Int) (by omega) (by have := HRN.out; omega) _).mono ?_
  rintro e w9 ⟨g9, n9, hn9, hg9, rfl, hat9, hk9⟩
  obtain rfl : n9 = 8 := hn9
  have G9 := Lib.hid (G8.out.quiet hk9)
  have HB9 := Lib.hid (Bytes.of_at hat9 (num8_lt ((rn : Int)).toNat))
  clear hat9 hk9 hg9 G8 G7 HB7 hc8
  go_wp2_with
    (at_builtin
     refine wpList_app (by rfl) (.tmp 22) (.tmp 26) (by rfl) (.slice y8 n8 c8) (num8 m.id.toNat ++ num8 m.parent.toNat ++ num8 m.born.toNat ++ enc (ns m.frm)) (by rfl) G9.out _ (some ⟨g9, 0, none⟩) 8 8 (num8 ((rn : Int)).toNat) (by rfl) (num8_length _) HB9.out (by simp [num8_length, enc_length, ns_length]; omega) ?_
     intro y10 n10 c10 w10 hn10 hG10
     have G10 : Hid (Gr W0 w10 (.slice y10 n10 c10) (head5 m ++ encs (m.rcpts.take 0))) := Lib.hid (by
       have e : head5 m ++ encs (m.rcpts.take 0) = num8 m.id.toNat ++ num8 m.parent.toNat ++ num8 m.born.toNat ++ enc (ns m.frm) ++ num8 ((rn : Int)).toNat := by
         rw [Int.toNat_natCast, HRN.out]
         simp [head5, encs]
       rw [e]
       exact hG10)
     clear hG10 hn10)
  have hrn8 : rn ≤ 8 := by have := HRN.out; omega
  go_loopw [3, 4] (fun v i wr => ∃ (k : Nat) (y : Option Addr) (n c : Nat), k ≤ rn ∧ v = .slice y n c ∧ i = .int .i64 (k : Int) ∧ Hid (Gr W0 wr (.slice y n c) (head5 m ++ encs (m.rcpts.take k)))) (fun _ i _ => rn - (intOf i).toNat)
  case atStart => exact ⟨0, y10, n10, c10, by omega, rfl, rfl, G10.out⟩
  case round =>
    obtain ⟨k, y, n, c, hk, rfl, rfl, G⟩ := hrel
    have hcr := (HC.out _ G.out.kp).2.2.2.2.1
    by_cases hlt : (k : Int) < (rn : Int)
    · have hkl : k < m.rcpts.length := by have := HRN.out; omega
      obtain ⟨b, off, _, _, hx, hc⟩ := H.out.rs.at k hkl
      subst hx
      have d1 := G.out.kp.cell hc (fun h => h)
      have hs64 := box_size (HF.out.r _ (List.getElem_mem hkl))
      have het := encs_take m.rcpts k hkl
      obtain ⟨s, hs⟩ : ∃ s, s = m.rcpts[k] := ⟨_, rfl⟩
      rw [← hs] at d1 hs64 het
      have HET := Lib.hid het
      have HSL := Lib.hid (encs_small HF.out.r HF.out.n.2 k)
      have k0 : (0 : Int) ≤ (k : Int) := by omega
      obtain ⟨cc, wr', kc, hB, hK⟩ := conv_str s wr
      have G' := Lib.hid (G.out.quiet hK)
      have HB := Lib.hid hB
      clear hc hs hkl het hB hK
      go_wp2_with fail
      refine (refBytes (fun b => b = wr.heap.size) (some ⟨wr.heap.size, 0, none⟩) s.size cc (ns s) (ns_length _) (by omega) wr' HB.out).mono ?_
      rintro e w11 hr11
      obtain ⟨y11, n11, c11, hn11, rfl, hG11⟩ := hr11.bytes
      have G11 := Lib.hid (G'.out.quiet hG11.kp)
      have HB11 := Lib.hid hG11.own.bytesO
      clear hr11 hn11 hG11 G' HB kc hcr
      go_wp2_with
        (at_builtin
         refine wpList_app (by rfl) (.tmp 35) (.tmp 42) (by rfl) (.slice y n c) (head5 m ++ encs (m.rcpts.take k)) (by rfl) G11.out _ y11 n11 c11 (enc (ns s)) (by rfl) HB11.out.2.1.symm HB11.out.1 (by have := HB11.out.2.1; have := HSL.out; have := HH5.out; rw [List.length_append]; simp [enc_length, ns_length] at *; omega) ?_
         intro y12 n12 c12 w12 hn12 hG12
         rw [List.append_assoc, ← HET.out] at hG12
         have G12 := Lib.hid hG12
         clear hG12 hn12)
      go_roundw
      case rel => exact ⟨k + 1, y12, n12, c12, by omega, rfl, by go_num, G12.out⟩
      case measure => simp [intOf]; omega
    · have hkn : k = m.rcpts.length := by have := HRN.out; omega
      have G12 : Hid (Gr W0 wr (.slice y n c) (head5 m ++ encs m.rcpts)) := Lib.hid (by
        have := G.out
        rw [hkn, List.take_length] at this
        exact this)
      have HSL := encs_small HF.out.r HF.out.n.2 m.rcpts.length
      rw [List.take_length] at HSL
      have HSL := Lib.hid HSL
      have hcb := (HC.out _ G12.out.kp).2.2.2.2.2
      clear hkn G
      go_wp2_with fail
      refine (refBytes _ bx bn bc m.body HBN.out.symm (by have := HBN.out; omega) wr (H.out.bs.quiet G12.out.kp)).mono ?_
      rintro e w13 hr13
      obtain ⟨y13, n13, c13, hn13, rfl, hG13⟩ := hr13.bytes
      have G13 := Lib.hid (G12.out.quiet hG13.kp)
      have HB13 := Lib.hid hG13.own.bytesO
      clear hr13 hn13 hG13 hcb
      go_wp2_with
        (at_builtin
         refine wpList_app (by rfl) (.tmp 44) (.tmp 47) (by rfl) (.slice y n c) (head5 m ++ encs m.rcpts) (by rfl) G13.out _ y13 n13 c13 (enc m.body) (by rfl) HB13.out.2.1.symm HB13.out.1 (by have := HB13.out.2.1; have := HSL.out; have := HH5.out; rw [List.length_append]; simp [enc_length] at *; omega) ?_
         intro y14 n14 c14 w14 hn14 hG14
         rw [← content_head] at hG14
         have G14 := Lib.hid hG14
         have HB14 := Lib.hid hG14.own.bytesO
         have hn14b : n14 ≤ 9000 := by rw [HB14.out.2.1]; exact HSM.out
         clear hG14 hn14)
      refine (refBytes _ y14 n14 c14 (content m) HB14.out.2.1.symm (by omega) w14 HB14.out.1).mono ?_
      rintro e w15 hr15
      obtain ⟨y15, n15, c15, hn15, rfl, hG15⟩ := hr15.bytes
      have G15 := Lib.hid (hG15.up G14.out.kp)
      have HB15 : Hid (Bytes (fun _ => True) w15 y14 (content m)) := Lib.hid (HB14.out.1.quiet hG15.kp)
      clear hr15 hn15 hG15
      go_wp2_with fail
      refine (refSumC y14 n14 c14 (content m) HB14.out.2.1 (by omega) HB15.out).mono ?_
      rintro e w16 ⟨g16, n16, hn16, hg16, rfl, hat16, hk16⟩
      obtain rfl : n16 = 4 := hn16
      have G16 := Lib.hid (G15.out.quiet hk16)
      have HB16 := Lib.hid (Bytes.of_at hat16 (sum4_lt (content m)))
      clear hat16 hk16 hg16
      go_wp2_with
        (at_builtin
         refine wpList_app (by rfl) (.tmp 50) (.tmp 52) (by rfl) (.slice y15 n15 c15) (enc (content m)) (by rfl) G16.out _ (some ⟨g16, 0, none⟩) 4 4 (sum4 (content m)) (by rfl) rfl HB16.out (by have := HSM.out; rw [enc_length]; omega) ?_
         intro y17 n17 c17 w17 hn17 hG17
         have G17 := Lib.hid hG17
         have HN17 := Lib.hid hn17.out
         clear hG17 hn17)
      go_ret
      exact ⟨y17, n17, c17, HN17.out, rfl, (show Gr W0 w17 (.slice y17 n17 c17) (record m) from G17.out).up K0.out⟩
end Go.Proofs.YtimoebicacnihaaGreatDoor.Ln
