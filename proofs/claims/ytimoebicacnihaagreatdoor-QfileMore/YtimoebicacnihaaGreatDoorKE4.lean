/-
  What the library's Equal over bytes, and the program's unwrap and Decode return, for all bytes.
-/
import Derived.Test.YtimoebicacnihaaGreatDoorKE3
import Derived.Test.YtimoebicacnihaaGreatDoorKLShelf
import Derived.BigQuiet
import Derived.IntWalk
namespace Go.Proofs.YtimoebicacnihaaGreatDoor.Ln
open Go.RowKit
set_option linter.unusedVariables false
set_option linter.unusedSimpArgs false

/-! ### The same bytes? -/
theorem bytesOf_eq {a b : List Nat} (ha : ∀ c ∈ a, c < 256) (hb : ∀ c ∈ b, c < 256) : (Lib.bytesOf (a.map fun (c : Nat) => (c : Int)) == Lib.bytesOf (b.map fun (c : Nat) => (c : Int))) = decide (a = b) := by
  have key : ∀ l : List Nat, (∀ c ∈ l, c < 256) → (Lib.bytesOf (l.map fun (c : Nat) => (c : Int))).map UInt8.toNat = l := fun l hl => by
    simp only [Lib.bytesOf, List.map_map]
    conv => rhs; rw [← List.map_id l]
    refine List.map_congr_left fun c hc => ?_
    have := hl c hc
    simp
    omega
  rw [Bool.eq_iff_iff, beq_iff_eq, decide_eq_true_iff]
  constructor
  · intro h
    rw [← key a ha, ← key b hb, h]
  · rintro rfl; rfl
theorem equalC {P Q : Nat → Prop} {w : World} (x : Option Addr) (n c : Nat) (a : List Nat) (y : Option Addr) (m d : Nat) (b : List Nat) (hn : a.length = n) (hm : b.length = m) (hA : Bytes P w x a) (hB : Bytes Q w y b) :
    Calls Tryz.prog 50 #[.slice x n c, .slice y m d] w fun e w' => e = .returned (.bool (decide (a = b))) ∧ w' = w := by
  have h := bytes_Equal (.slice x n c) (.slice y m d) (a.map fun (c : Nat) => (c : Int)) (b.map fun (c : Nat) => (c : Int)) w (run_str hA n c hn) (run_str hB m d hm)
  rw [bytesOf_eq hA.1 hB.1] at h
  exact h

/-! ### What unwrap finds -/
theorem wrap_short {bs : List Nat} (h : numOk (some bs) = false) : wrapB bs = false := by
  rw [wrapB, bytOk_no h]; rfl
theorem wrap_at {bs : List Nat} (h : numOk (some bs) = true) :
    (bs.length < numV (some bs) + 12 → wrapB bs = false) ∧ (numV (some bs) + 12 ≤ bs.length → innerM bs = (bs.take (8 + numV (some bs))).drop 8 ∧ wrapB bs = decide ((bs.drop (8 + numV (some bs))).take 4 = sum4 (innerM bs))) := by
  obtain ⟨t, h1, h2, h3, h4, h5⟩ := numOk_some h
  injection h1 with h1
  subst h1
  obtain ⟨N, hN⟩ : ∃ N, N = numV (some bs) := ⟨_, rfl⟩
  rw [← hN]
  have hl : (bs.drop 8).length = bs.length - 8 := List.length_drop
  constructor
  · intro hlt
    rw [wrapB]
    cases hk : bytOk (some bs) with
    | false => rfl
    | true =>
      have hle : N ≤ (bs.drop 8).length := by
        rw [bytOk, h5, ← hN] at hk
        simpa [takeOk] using hk
      have ht : tailM bs = (bs.drop 8).drop N := by rw [tailM, bytS, h5, ← hN, takeS_ok hle]; rfl
      have : ¬ 4 ≤ (tailM bs).length := by rw [ht, List.length_drop, hl]; omega
      simp [this]
  · intro hge
    have hle : N ≤ (bs.drop 8).length := by rw [hl]; omega
    have hk : bytOk (some bs) = true := by rw [bytOk, h5, ← hN, takeOk_ok hle]
    have ht : tailM bs = bs.drop (8 + N) := by rw [tailM, bytS, h5, ← hN, takeS_ok hle]; simp
    have hi : innerM bs = (bs.take (8 + N)).drop 8 := by rw [innerM, bytV, h5, ← hN, takeV_ok hle, List.drop_take]; congr 1; omega
    refine ⟨hi, ?_⟩
    have h4' : 4 ≤ (tailM bs).length := by rw [ht, List.length_drop]; omega
    rw [wrapB, hk, decide_eq_true h4', ht]
    rfl
theorem num_take {bs : List Nat} (h : 8 ≤ bs.length) : numOk (some (bs.take 8)) = numOk (some bs) ∧ numV (some (bs.take 8)) = numV (some bs) := by
  have h8 : 8 ≤ (bs.take 8).length := by rw [List.length_take]; omega
  have e : (bs.take 8).take 8 = bs.take 8 := List.take_of_length_le (by rw [List.length_take]; omega)
  have h1 : numOk (some (bs.take 8)) = numOk (some bs) := by simp only [numOk, takeOk_ok h, takeOk_ok h8, takeV_ok h, takeV_ok h8, e]
  refine ⟨h1, ?_⟩
  simp only [numV, h1, takeV_ok h, takeV_ok h8, e]
theorem keepDrewN {S : Nat → Prop} {a w : World} (h : Keep S a w) (n : Nat) : Keep S a (w.drewN n) := ⟨h.os, h.tape, h.output, h.size, h.block⟩
def Unwrapped (bs : List Nat) (P : Nat → Prop) (w : World) (e : Ending) (w' : World) : Prop :=
  Keep (fun _ => False) w w' ∧ if wrapB bs = true then ∃ y k c, k = (innerM bs).length ∧ k ≤ c ∧ e = .returned (.tuple #[.slice y k c, .bool true]) ∧ Bytes P w' y (innerM bs) else e = .returned (.tuple #[.slice none 0 0, .bool false])
theorem unwrapped_no {bs : List Nat} {P : Nat → Prop} {w w' : World} (h : wrapB bs = false) (k : Keep (fun _ => False) w w') : Unwrapped bs P w (.returned (.tuple #[.slice none 0 0, .bool false])) w' := ⟨k, by rw [h]; rfl⟩
set_option maxHeartbeats 4000000 in
set_option maxRecDepth 100000 in
theorem unwrapC {P : Nat → Prop} {w : World} (x : Option Addr) (n cap : Nat) (bs : List Nat) (hn : bs.length = n) (hc : n ≤ cap) (hl : n ≤ 1000000) (h : Bytes P w x bs) :
    Calls Tryz.prog 40 #[.slice x n cap] w (Unwrapped bs P w) := by
  have HX := Lib.hid h
  have HN := Lib.hid hn
  clear h hn
  by_cases h8 : (n : Int) < 8
  · have hO : numOk (some bs) = false := numOk_short (by have := HN.out; omega)
    have HO := Lib.hid hO
    obtain ⟨s1, s2⟩ := cut_pre x n cap n hc
    clear hO
    go_enter Tryz.func40, Tryz.ntmps40
    have HMN : Hid ((min (n : Int) 8).toNat = n) := Lib.hid (by omega)
    go_wp2_with fail
    (try rw [HMN.out])
    refine (read P x n cap bs HN.out (by omega) w HX.out).mono ?_
    rintro e w1 ⟨p, g, rfl, hp, hg, hne, hR1, hk1, hgl⟩
    have HR1 := Lib.hid hR1
    have HK1 := Lib.hid hk1
    have HP : Hid (w.heap.size ≤ p ∧ ¬ p = g) := Lib.hid ⟨hp, fun e => hne e.symm⟩
    clear hR1 hk1 hp hg hne hgl
    go_wp2_with fail
    refine (num (· = g) p HP.out.2 (some bs) w1 HR1.out).mono ?_
    rintro e w2 ⟨he, hR2, hk2⟩
    rw [HO.out] at he
    subst he
    have HK2 : Hid (Keep (fun _ => False) w w2) := Lib.hid (HK1.out.trans hk2 (fun i hi e => by have := HP.out.1; have e : i = p := e; omega))
    clear hR2 hk2
    go_wp2
    go_ret2
    exact unwrapped_no (wrap_short HO.out) HK2.out
  have h8' : 8 ≤ n := by omega
  obtain ⟨s1, s2⟩ := cut_pre x n cap 8 (by omega)
  have s3 : ∀ w, (Instr.slice 23 (.slice x n cap) none (some (.int .i64 8)) none).run Tryz.prog w = .ok (.slice x 8 cap) w := s1
  have s4 : ∀ w, (Instr.sliceAt 23 (.slice x n cap) none (some (.int .i64 8)) none).run Tryz.prog w = .ok (.slice x 8 cap) w := s2
  obtain ⟨hT1, hT2⟩ := num_take (bs := bs) (by have := HN.out; omega)
  have HT1 := Lib.hid hT1
  have HT2 := Lib.hid hT2
  have HL8 : Hid ((bs.take 8).length = 8) := Lib.hid (by rw [List.length_take]; have := HN.out; omega)
  clear s1 s2 hT1 hT2
  go_enter Tryz.func40, Tryz.ntmps40
  have HMN : Hid ((min (n : Int) 8).toNat = 8) := Lib.hid (by omega)
  go_wp2_with fail
  (try rw [HMN.out])
  refine (read P x 8 cap (bs.take 8) HL8.out (by omega) w (HX.out.take 8)).mono ?_
  rintro e w1 ⟨p, g, rfl, hp, hg, hne, hR1, hk1, hgl⟩
  have HR1 := Lib.hid hR1
  have HK1 := Lib.hid hk1
  have HP : Hid (w.heap.size ≤ p ∧ ¬ p = g) := Lib.hid ⟨hp, fun e => hne e.symm⟩
  clear hR1 hk1 hp hg hne hgl s3 s4
  go_wp2_with fail
  refine (num (· = g) p HP.out.2 (some (bs.take 8)) w1 HR1.out).mono ?_
  rintro e w2 ⟨he, hR2, hk2⟩
  rw [HT1.out, HT2.out] at he
  have HK2 : Hid (Keep (fun _ => False) w w2) := Lib.hid (HK1.out.trans hk2 (fun i hi e => by have := HP.out.1; have e : i = p := e; omega))
  clear hR2 hk2
  cases hO : numOk (some bs) with
  | false =>
    rw [hO] at he
    subst he
    have HO := Lib.hid hO
    clear hO
    go_wp2
    go_ret2
    exact unwrapped_no (wrap_short HO.out) HK2.out
  | true =>
    rw [hO] at he
    have HW := Lib.hid (wrap_at hO)
    have hNt := numV_le (some bs)
    obtain ⟨N, hN⟩ : ∃ N, N = numV (some bs) := ⟨_, rfl⟩
    rw [← hN] at HW hNt he
    subst he
    have hNt' : N ≤ 4611686018427387904 := hNt
    clear hN hO hNt
    by_cases hbig : (n : Int) - 8 - 4 < (N : Int)
    · have HV : Hid (wrapB bs = false) := Lib.hid (HW.out.1 (by have := HN.out; omega))
      go_wp2
      go_ret2
      exact unwrapped_no HV.out HK2.out
    have hge : N + 12 ≤ n := by omega
    obtain ⟨hi, hv⟩ := HW.out.2 (by have := HN.out; omega)
    obtain ⟨I, hI⟩ : ∃ I, I = innerM bs := ⟨_, rfl⟩
    rw [← hI] at hi hv
    obtain ⟨M, hM⟩ : ∃ M, M = 8 + N := ⟨_, rfl⟩
    rw [← hM] at hi hv
    have hM2 : (8 : Int) + (N : Int) = (M : Int) := by omega
    have BI : Hid (Bytes P w (if cap = 8 then x else x.map (fun a => a.add 8)) I) := Lib.hid (by
      rw [hi]
      exact HX.out.mid cap 8 M (by omega) (by have := HN.out; omega) (by have := HN.out; omega))
    have BT : Hid (Bytes P w (if cap = M then x else x.map (fun a => a.add M)) ((bs.drop M).take 4)) := Lib.hid (by
      have := HX.out.mid cap M (M + 4) (by omega) (by have := HN.out; omega) (by have := HN.out; omega)
      rw [List.drop_take, Nat.add_sub_cancel_left] at this
      exact this)
    have HIL : Hid (I.length = M - 8) := Lib.hid (by rw [hi, List.length_drop, List.length_take]; have := HN.out; omega)
    have HTL : Hid (((bs.drop M).take 4).length = 4) := Lib.hid (by rw [List.length_take, List.length_drop]; have := HN.out; omega)
    obtain ⟨m1, m2⟩ := cut_mid x n cap 8 M (by omega) (by omega)
    obtain ⟨d1, d2⟩ := cut_drop x n cap M (by omega) hc
    obtain ⟨xi, hxi⟩ : ∃ xi, xi = (if cap = 8 then x else x.map (fun a => a.add 8)) := ⟨_, rfl⟩
    obtain ⟨xt, hxt⟩ : ∃ xt, xt = (if cap = M then x else x.map (fun a => a.add M)) := ⟨_, rfl⟩
    rw [← hxi] at m1 m2 BI
    rw [← hxt] at d1 d2 BT
    have m3 : ∀ w, (Instr.slice 23 (.slice x n cap) (some (.int .i64 8)) (some (.int .i64 (M : Int))) none).run Tryz.prog w = .ok (.slice xi (M - 8) (cap - 8)) w := m1
    have m4 : ∀ w, (Instr.sliceAt 23 (.slice x n cap) (some (.int .i64 8)) (some (.int .i64 (M : Int))) none).run Tryz.prog w = .ok (.slice xi (M - 8) (cap - 8)) w := m2
    obtain ⟨p1, p2⟩ := cut_pre xt (n - M) (cap - M) 4 (by omega)
    have p3 : ∀ w, (Instr.slice 23 (.slice xt (n - M) (cap - M)) none (some (.int .i64 4)) none).run Tryz.prog w = .ok (.slice xt 4 (cap - M)) w := p1
    have p4 : ∀ w, (Instr.sliceAt 23 (.slice xt (n - M) (cap - M)) none (some (.int .i64 4)) none).run Tryz.prog w = .ok (.slice xt 4 (cap - M)) w := p2
    have HI := Lib.hid hI
    have HV := Lib.hid hv
    have hMn : M ≤ 1000000 := by omega
    have hMc : M ≤ cap := by omega
    have hM8 : 8 ≤ M := by omega
    clear hI hv hi hM m1 m2 p1 p2 hxi hxt HW
    have hwm : IntKind.i64.wrap (M : Int) = (M : Int) := IntWalk.i64_in _ (by omega)
    go_wp2
    go_quiet (fail)
    obtain ⟨W2, hW2⟩ : ∃ W2, W2 = w2.drewN nq := ⟨_, rfl⟩
    have HK2' : Hid (Keep (fun _ => False) w W2) := Lib.hid (by rw [hW2]; exact keepDrewN HK2.out nq)
    rw [← hW2]
    clear m3 m4 d1 d2 hW2
    go_wp2
    refine wp_region_noPanic ?_
    refine wp_region_held_drew (S := fun w' => True) (by kernel_rfl) trivial (fun hHeld => ?_)
    refine wpAnyH_take (i := 0) (v := ?_) rfl (by kernel_rfl) (by kernel_rfl) (by kernel_rfl) (fun _ _ _ h => h) (Or.inl ⟨by rfl, ?_⟩) (by assumption) ?_
    rotate_left
    · (intro wS hSw; (try dsimp only at hSw); (try simp only [List.getElem_toArray, List.getElem_cons_succ, List.getElem_cons_zero]); go_simp; try (with_reducible rfl))
    try simp only [Act.put, List.getElem_toArray, List.getElem_cons_succ, List.getElem_cons_zero, List.setIfInBounds_toArray, List.set_cons_zero, List.set_cons_succ]
    refine wpAnyH_take (i := 1) (v := ?_) rfl (by kernel_rfl) (by kernel_rfl) (by kernel_rfl) (fun _ _ _ h => h) (Or.inl ⟨by rfl, ?_⟩) (by assumption) ?_
    rotate_left
    · (intro wS hSw; (try dsimp only at hSw); (try simp only [List.getElem_toArray, List.getElem_cons_succ, List.getElem_cons_zero]); go_simp; try (with_reducible rfl))
    try simp only [Act.put, List.getElem_toArray, List.getElem_cons_succ, List.getElem_cons_zero, List.setIfInBounds_toArray, List.set_cons_zero, List.set_cons_succ]
    refine wpAnyH_take (i := 2) (v := ?_) rfl (by kernel_rfl) (by kernel_rfl) (by kernel_rfl) (fun _ _ _ h => h) (Or.inl ⟨by rfl, ?_⟩) (by assumption) ?_
    rotate_left
    · (intro wS hSw; (try dsimp only at hSw); (try simp only [List.getElem_toArray, List.getElem_cons_succ, List.getElem_cons_zero]); go_simp; try (with_reducible rfl))
    try simp only [Act.put, List.getElem_toArray, List.getElem_cons_succ, List.getElem_cons_zero, List.setIfInBounds_toArray, List.set_cons_zero, List.set_cons_succ]
    refine wpAnyH_ready (rs := [3]) (by kernel_rfl) (by simp) ?_
    refine AllReadyH.cons rfl (fun K hK => ?_) AllReadyH.nil
    go_simp
    refine (checksumC xi (M - 8) (cap - 8) I HIL.out.symm (by omega) (BI.out.quiet (HK2'.out.drew))).mono ?_
    rintro e w3 ⟨g3, n3, hn3, hg3, rfl, hat3, hk3⟩
    obtain rfl : n3 = 4 := hn3
    have HK3 : Hid (Keep (fun _ => False) w w3) := Lib.hid (HK2'.out.drew.trans hk3 (fun _ _ h => h))
    have HB3 := Lib.hid (Bytes.of_at hat3 (sum4_lt I))
    clear hg3 hat3 hk3
    go_wp2_with fail
    refine hK.out _ _ trivial (fun hHeld => ?_)
    clear hK K
    try simp only [Act.put, List.getElem_toArray, List.getElem_cons_succ, List.getElem_cons_zero, List.setIfInBounds_toArray, List.set_cons_zero, List.set_cons_succ]
    refine wpAnyH_ready (rs := [4]) (by kernel_rfl) (by simp) ?_
    refine AllReadyH.cons rfl (fun K hK => ?_) AllReadyH.nil
    go_simp
    refine (equalC xt 4 (cap - M) ((bs.drop M).take 4) (some ⟨g3, 0, none⟩) 4 4 (sum4 I) HTL.out rfl (BT.out.quiet HK3.out) HB3.out).mono ?_
    rintro e u ⟨he, hu⟩
    subst u
    rw [← HV.out] at he
    obtain ⟨b, hb⟩ : ∃ b, b = wrapB bs := ⟨_, rfl⟩
    rw [← hb] at he
    subst he
    have HBB := Lib.hid hb
    clear hb
    go_wp2_with fail
    refine hK.out _ _ trivial (fun hHeld => ?_)
    clear hK K
    try simp only [Act.put, List.getElem_toArray, List.getElem_cons_succ, List.getElem_cons_zero, List.setIfInBounds_toArray, List.set_cons_zero, List.set_cons_succ]
    refine wpAnyH_take (i := 5) (v := ?_) rfl (by kernel_rfl) (by kernel_rfl) (by kernel_rfl) (fun _ _ _ h => h) (Or.inl ⟨by rfl, ?_⟩) (by assumption) ?_
    rotate_left
    · (intro wS hSw; (try dsimp only at hSw); (try simp only [List.getElem_toArray, List.getElem_cons_succ, List.getElem_cons_zero]); go_simp; try (with_reducible rfl))
    try simp only [Act.put, List.getElem_toArray, List.getElem_cons_succ, List.getElem_cons_zero, List.setIfInBounds_toArray, List.set_cons_zero, List.set_cons_succ]
    refine wpAnyH_done (by kernel_rfl) ?_ _
    refine NoPanic.normal ?_
    clear p3 p4
    cases b with
    | false =>
      go_wp2
      go_ret2
      exact unwrapped_no HBB.out.symm HK3.out
    | true =>
      go_wp2
      go_ret2
      refine ⟨HK3.out, ?_⟩
      rw [← HBB.out, if_pos rfl]
      exact ⟨xi, M - 8, cap - 8, by rw [← HI.out, HIL.out], by omega, rfl, by rw [← HI.out]; exact BI.out.quiet HK3.out⟩

/-! ### Decode -/
theorem results_cell_tmp2 {fn : Func} {p u v : Tmp} {ty : TypeId} (h : fn.results = #[.cell p ty, .tmp u, .tmp v]) (tmps : Array Value) (P : Program) (w : World) :
    (results fn tmps).run P w =
      ((asAddr (tmps.getD p undef)).run P w).andThen fun a w₁ => ((loadVar ty a).run P w₁).andThen fun z w₂ => .ok (.tuple #[z, tmps.getD u undef, tmps.getD v undef]) w₂ := by
  simp only [results, h]
  simp [Sem.run_bind, Result.andThen]
theorem ret_ml2 {fn : Func} {p u v : Tmp} (h : fn.results = #[.cell p 25, .tmp u, .tmp v]) (tmps : Array Value) (w : World) (g : Nat) {cs : Array Value} (hp : tmps.getD p undef = .pointer (some ⟨g, 0, none⟩)) (hg : At w g 25 cs ∧ cs.size = 6) :
    (results fn tmps).run Tryz.prog w = .ok (.tuple #[.agg cs, tmps.getD u undef, tmps.getD v undef]) w := by
  rw [results_cell_tmp2 h, hp]
  have := run_loadVar_row (P := Tryz.prog) w g 25 25 cs (0, 0) _ hg.1 Tryz.underlying25 rfl (by rw [hg.2]; exact infoM)
  simp [asAddr, this, Result.andThen]
/-- What Decode answers. -/
def Decoded (bs : List Nat) (w : World) (e : Ending) (w' : World) : Prop :=
  ∃ m n rx rn rc bx bn bc, e = .returned (.tuple #[.agg (mlC m rx rn rc bx bn bc), .int .i64 (n : Nat), .bool (beginsB bs)]) ∧ MlAt (fun b => w.heap.size ≤ b) w' m rx rn rc bx bn bc ∧ Keep (fun _ => False) w w' ∧ (if beginsB bs = true then m = readMl (innerM bs) ∧ n = (innerM bs).length + 12 else m = noMl ∧ n = 0)
theorem decoded_no {bs : List Nat} {w w' : World} (h : beginsB bs = false) (k : Keep (fun _ => False) w w') : Decoded bs w (.returned (.tuple #[.agg mzC, .int .i64 0, .bool false])) w' :=
  ⟨noMl, 0, none, 0, 0, none, 0, 0, by rw [h]; rfl, ⟨TxP.nil _ _ _, Bytes.nil _ _ _, rfl, rfl, Nat.le_refl _, Nat.le_refl _⟩, k, by rw [h]; exact ⟨rfl, rfl⟩⟩
set_option maxHeartbeats 4000000 in
set_option maxRecDepth 100000 in
theorem decodeC (hB : BoxC) (hL : LinesC) {P : Nat → Prop} {w : World} (hE : Env w) (x : Option Addr) (n cap : Nat) (bs : List Nat) (hn : bs.length = n) (hc : n ≤ cap) (hl : n ≤ 1000000) (h : Bytes P w x bs) :
    Calls Tryz.prog 29 #[.slice x n cap] w (Decoded bs w) := by
  have kA := keep_new w (.cells #[.int .i64 0, .int .i64 0, .int .i64 0, .string { data := #[] }, .slice none 0 0, .slice none 0 0] 25)
  have HU := Lib.hid (unwrapC x n cap bs hn hc hl (h.quiet kA))
  have HZA := Lib.hid (mz_new w)
  have KA := Lib.hid kA
  have HE := Lib.hid (hE.quiet kA)
  have HBC := Lib.hid hB
  have HLC := Lib.hid hL
  have HIL : Hid ((innerM bs).length ≤ 1000000) := Lib.hid (by
    have : (innerM bs).length ≤ bs.length := by
      rw [innerM, bytV, takeV]
      split
      · rename_i hk
        cases hs : numS (some bs) with
        | none => simp
        | some r =>
          have : r.length ≤ bs.length := by
            cases hO : numOk (some bs) with
            | false => rw [numS_no hO] at hs; cases hs
            | true =>
              obtain ⟨t, h1, _, _, _, h5⟩ := numOk_some hO
              injection h1 with h1
              subst h1
              rw [hs] at h5
              injection h5 with h5
              rw [h5, List.length_drop]; omega
          rw [Option.getD_some, List.length_take]
          omega
      · simp
    omega)
  have HPOS := Lib.hid hE.lt
  clear h hn kA hE hB hL
  obtain ⟨A, hA⟩ : ∃ A, A = w.heap.size := ⟨_, rfl⟩
  have HA := Lib.hid hA
  go_enter Tryz.func29, Tryz.ntmps29
  go_wp2_with fail
  rw [← hA] at HZA ⊢
  clear hA
  refine HU.out.mono ?_
  rintro e w1 ⟨hk1, hif⟩
  have K1 := Lib.hid (KA.out.trans hk1 (fun _ _ h => h))
  have HA1 := Lib.hid (HZA.out.keep hk1 (fun h => h))
  have E1 := Lib.hid (HE.out.quiet hk1)
  clear hk1 HU HE KA HZA
  cases hw : wrapB bs with
  | false =>
    rw [hw] at hif
    have he : e = _ := hif
    subst he
    have HV : Hid (beginsB bs = false) := Lib.hid (by rw [beginsB, hw]; rfl)
    clear hif
    go_wp2_with (refine wpList_store_row (by rfl) 25 (.tmp 2) (.tmp 13) (by rfl) A mzC (by rfl) (by rfl) 25 _ HA1.out infoM rfl (one_ml _ _ _ _ _ _ _ _ _ _) ?_)
    (try simp only [Exit.inBlock, Exit.then])
    refine bodyPost_ret (ret_ml2 (fn := Tryz.f29) (p := 2) (u := 3) (v := 4) rfl _ _ A rfl ⟨HA1.out.setRow _, rfl⟩) rfl ?_
    exact decoded_no HV.out (K1.out.setRow (fun h => by have := HA.out; omega) _)
  | true =>
    rw [hw, if_pos rfl] at hif
    obtain ⟨y, k, c, hk, hkc, rfl, hBI⟩ := hif
    have HW := Lib.hid hw
    have HK := Lib.hid hk
    have HBI := Lib.hid hBI
    have hkl : k ≤ 1000000 := by rw [hk]; exact HIL.out
    clear hw hk hBI
    go_wp2_with fail
    refine (mailOfC y k c (innerM bs) HK.out.symm (by omega) HBI.out).mono ?_
    rintro e w2 ⟨m, rx, rn, rc, bx, bn, bc, rfl, hM, hk2, hm⟩
    have K2 := Lib.hid (K1.out.trans hk2 (fun _ _ h => h))
    have HA2 := Lib.hid (HA1.out.keep hk2 (fun h => h))
    have E2 := Lib.hid (E1.out.quiet hk2)
    have HM := Lib.hid hM
    have HMM := Lib.hid hm
    have hs1 := K1.out.size
    obtain ⟨W, hW⟩ : ∃ W, W = w2.setRow A (mlC m rx rn rc bx bn bc) := ⟨_, rfl⟩
    have kW : Keep (fun k => k = A) w2 W := by rw [hW]; exact (Keep.refl (fun k => k = A) w2).setRow (fun _ => rfl) _
    have HAW : Hid (At W A 25 (mlC m rx rn rc bx bn bc)) := Lib.hid (by rw [hW]; exact HA2.out.setRow _)
    have HAlt := HA1.out.lt
    have HAL := Lib.hid HAlt
    have HMW : Hid (MlAt (fun b => w1.heap.size ≤ b) W m rx rn rc bx bn bc) := Lib.hid (hM.keep kW (fun b _ hb e => by omega))
    have KW : Hid (Keep (fun _ => False) w W) := Lib.hid (K2.out.trans kW (fun i hi e => by have := HA.out; omega))
    have EW : Hid (Env W) := Lib.hid (E2.out.keep kW (fun e => by
      obtain ⟨mm, hmm⟩ := E2.out
      have h2 := HA2.out.cell 0
      rw [← e] at h2
      have h3 : w2.cell? ⟨A, 0, none⟩ = some (.int .i64 0) := HA2.out.cell 0
      have hA0 : 0 < w.heap.size := HPOS.out
      have := HA.out
      omega))
    have HW2 := Lib.hid hW
    clear hM hm hk2 hW kW HAlt hs1 HM
    obtain ⟨ok, hok⟩ : ∃ ok, ok = readOk (innerM bs) := ⟨_, rfl⟩
    rw [← hok]
    have HOK := Lib.hid hok
    clear hok
    cases ok with
    | false =>
      have HV : Hid (beginsB bs = false) := Lib.hid (by rw [beginsB, ← HOK.out]; simp)
      have HAX : Hid (At (W.setRow A mzC) A 25 mzC) := Lib.hid (HAW.out.setRow _)
      go_wp2_with (first
        | (refine wpList_store_row (by rfl) 25 (.tmp 2) (.tmp 17) (by rfl) A (mlC m rx rn rc bx bn bc) (by rfl) (by rfl) 25 _ HA2.out infoM rfl (one_ml _ _ _ _ _ _ _ _ _ _) ?_; rw [← HW2.out])
        | (refine wpList_store_row (by rfl) 25 (.tmp 2) (.tmp 26) (by rfl) A mzC (by rfl) (by rfl) 25 _ HAW.out infoM rfl (one_ml _ _ _ _ _ _ _ _ _ _) ?_))
      (try simp only [Exit.inBlock, Exit.then])
      refine bodyPost_ret (ret_ml2 (fn := Tryz.f29) (p := 2) (u := 3) (v := 4) rfl _ _ A rfl ⟨HAX.out, rfl⟩) rfl ?_
      exact decoded_no HV.out (KW.out.setRow (fun h => by have := HA.out; omega) _)
    | true =>
      have HME : Hid (m = readMl (innerM bs)) := Lib.hid (HMM.out HOK.out.symm)
      have HGD := Lib.hid (fun W' (k : Keep (fun _ => False) W W') => goodC HBC.out HLC.out (EW.out.quiet k) (HMW.out.quiet k))
      obtain ⟨gd, hgd⟩ : ∃ gd, gd = goodM m := ⟨_, rfl⟩
      rw [← hgd] at HGD
      have HGG := Lib.hid hgd
      clear hgd
      obtain ⟨z0, z1, z2, z3, z4, z5⟩ : W.cell? ⟨A, 0, none⟩ = some (.int .i64 m.id) ∧ W.cell? ⟨A, 1, none⟩ = some (.int .i64 m.parent) ∧ W.cell? ⟨A, 2, none⟩ = some (.int .i64 m.born) ∧ W.cell? ⟨A, 3, none⟩ = some (.string m.frm) ∧ W.cell? ⟨A, 4, none⟩ = some (.slice rx rn rc) ∧ W.cell? ⟨A, 5, none⟩ = some (.slice bx bn bc) := ⟨HAW.out.cell 0, HAW.out.cell 1, HAW.out.cell 2, HAW.out.cell 3, HAW.out.cell 4, HAW.out.cell 5⟩
      go_wp2_with (refine wpList_store_row (by rfl) 25 (.tmp 2) (.tmp 17) (by rfl) A (mlC m rx rn rc bx bn bc) (by rfl) (by rfl) 25 _ HA2.out infoM rfl (one_ml _ _ _ _ _ _ _ _ _ _) ?_; rw [← HW2.out])
      refine (HGD.out W (Keep.refl _ _)).mono ?_
      rintro e w3 ⟨rfl, hk3⟩
      have K3 := Lib.hid (KW.out.trans hk3 (fun _ _ h => h))
      have HA3 := Lib.hid (HAW.out.keep hk3 (fun h => h))
      have HM3 := Lib.hid (HMW.out.quiet hk3)
      clear hk3 z0 z1 z2 z3 z4 z5
      cases gd with
      | false =>
        have HV : Hid (beginsB bs = false) := Lib.hid (by rw [beginsB, ← HME.out, ← HGG.out]; simp)
        have HAX : Hid (At (w3.setRow A mzC) A 25 mzC) := Lib.hid (HA3.out.setRow _)
        go_wp2_with (refine wpList_store_row (by rfl) 25 (.tmp 2) (.tmp 26) (by rfl) A mzC (by rfl) (by rfl) 25 _ HA3.out infoM rfl (one_ml _ _ _ _ _ _ _ _ _ _) ?_)
        (try simp only [Exit.inBlock, Exit.then])
        refine bodyPost_ret (ret_ml2 (fn := Tryz.f29) (p := 2) (u := 3) (v := 4) rfl _ _ A rfl ⟨HAX.out, rfl⟩) rfl ?_
        exact decoded_no HV.out (K3.out.setRow (fun h => by have := HA.out; omega) _)
      | true =>
        have HV : Hid (beginsB bs = true) := Lib.hid (by rw [beginsB, HW.out, ← HOK.out, ← HME.out, ← HGG.out]; rfl)
        have HAX : Hid (At (w3.setRow A (mlC m rx rn rc bx bn bc)) A 25 (mlC m rx rn rc bx bn bc)) := Lib.hid (HA3.out.setRow _)
        obtain ⟨z0, z1, z2, z3, z4, z5⟩ : w3.cell? ⟨A, 0, none⟩ = some (.int .i64 m.id) ∧ w3.cell? ⟨A, 1, none⟩ = some (.int .i64 m.parent) ∧ w3.cell? ⟨A, 2, none⟩ = some (.int .i64 m.born) ∧ w3.cell? ⟨A, 3, none⟩ = some (.string m.frm) ∧ w3.cell? ⟨A, 4, none⟩ = some (.slice rx rn rc) ∧ w3.cell? ⟨A, 5, none⟩ = some (.slice bx bn bc) := ⟨HA3.out.cell 0, HA3.out.cell 1, HA3.out.cell 2, HA3.out.cell 3, HA3.out.cell 4, HA3.out.cell 5⟩
        go_wp2_with (refine wpList_store_row (by rfl) 25 (.tmp 2) (.tmp 27) (by rfl) A (mlC m rx rn rc bx bn bc) (by rfl) (by rfl) 25 _ HA3.out infoM rfl (one_ml _ _ _ _ _ _ _ _ _ _) ?_)
        (try simp only [Exit.inBlock, Exit.then])
        refine bodyPost_ret (ret_ml2 (fn := Tryz.f29) (p := 2) (u := 3) (v := 4) rfl _ _ A rfl ⟨HAX.out, rfl⟩) rfl ?_
        have hA0 := HA.out
        have hs1 := K1.out.size
        refine ⟨m, k + 12, rx, rn, rc, bx, bn, bc, ?_, (HM3.out.keep ((Keep.refl (fun k => k = A) w3).setRow (fun _ => rfl) _) (fun b _ hb e => by have := HAL.out; omega)).mono (fun b _ hb => Nat.le_trans hs1 hb), K3.out.setRow (fun h => by omega) _, ?_⟩
        · rw [HV.out]
          simp
          omega
        · rw [HV.out, if_pos rfl]
          exact ⟨HME.out, by rw [HK.out]⟩
end Go.Proofs.YtimoebicacnihaaGreatDoor.Ln
