/-
  What the library's slices.Delete does to a row of one or two events, its first taken away.
-/
import Derived.Test.YtcjljldknekhiaaGreatDoorPu
import Derived.Deep.RegionLaw
namespace Go.Proofs.YtcjljldknekhiaaGreatDoor.Ln
open Go.RowKit
set_option linter.unusedVariables false
set_option linter.unusedSimpArgs false

def zev : List Value := evCells 0 nobody nobody nilV nilV
theorem info46 : (Tryz.prog.info? 46).map (fun i => (i.size)) = some 8 := by kernel_rfl
theorem zero46 : ∀ w, (zeroValue 46).run Tryz.prog w = .ok (.agg zev.toArray) w := fun w => by
  go_simp
  try rfl
theorem run_clearE (w : World) (ty : TypeId) (b o c : Nat) (hc : ∀ j, j < 8 → (w.cell? ⟨b, o + j, none⟩).isSome = true) (hf : ∀ j, j < 8 → w.frozen? ⟨b, o + j, none⟩ = false) :
    (Builtin.clear_ #[35] ty #[.slice (some ⟨b, o, none⟩) 1 c]).run Tryz.prog w = .ok (.tuple #[]) (w.setCells b o zev) := by
  have hz : (Builtin.zeroCells (Value.agg #[.int .i64 0, .string { data := #[] }, .int .i64 0, .int .i64 0, .int .i64 0, .string { data := #[] }, .slice none 0 0, .slice none 0 0]).cells 1).toList = zev := by kernel_rfl
  have hst := run_storeCells_cells (P := Tryz.prog) b o zev 0 w (by simpa [zev, evCells] using hc) (by simpa [zev, evCells] using hf) (evCells_one _ _ _ _ _ _ _ _ _)
  simp only [Nat.add_zero] at hst
  have h46 : (zeroValue 46).run Tryz.prog w = .ok (.agg #[.int .i64 0, .string { data := #[] }, .int .i64 0, .int .i64 0, .int .i64 0, .string { data := #[] }, .slice none 0 0, .slice none 0 0]) w := zero46 w
  simp only [Builtin.clear_, Sem.run_bind, run_underlying Tryz.underlying35, Result.andThen_ok, List.getElem?_toArray, List.getElem?_cons_zero, h46]
  rw [hz, hst]
  rfl
/-- A row of events, cut. -/
theorem cutE (x : Option Addr) (L C l h : Nat) (hlh : l ≤ h) (hh : h ≤ C) :
    (∀ w, (Instr.slice 35 (.slice x L C) (some (.int .i64 (l : Int))) (some (.int .i64 (h : Int))) none).run Tryz.prog w = .ok (.slice (if C = l then x else x.map (fun a => a.add (l * 8))) (h - l) (C - l)) w) ∧
    (∀ w, (Instr.sliceAt 35 (.slice x L C) (some (.int .i64 (l : Int))) (some (.int .i64 (h : Int))) none).run Tryz.prog w = .ok (.slice (if C = l then x else x.map (fun a => a.add (l * 8))) (h - l) (C - l)) w) := by
  obtain ⟨i0, hi, hz⟩ := Option.map_eq_some_iff.1 info46
  have h1 : (h : Int) ≤ (C : Int) := by omega
  have h2 : (l : Int) ≤ (h : Int) := by omega
  have r : ∀ w, (Instr.slice 35 (.slice x L C) (some (.int .i64 (l : Int))) (some (.int .i64 (h : Int))) none).run Tryz.prog w = .ok (.slice (if C = l then x else x.map (fun a => a.add (l * 8))) (h - l) (C - l)) w := by
    intro w
    have hb : ∀ code, (Instr.sliceBound (.int .i64 (h : Int)) C code).run Tryz.prog w = .ok h w := by
      intro code; simp [Instr.sliceBound, asIntOf, h1]
    have hc : ∀ code, (Instr.sliceBound (.int .i64 (l : Int)) h code).run Tryz.prog w = .ok l w := by
      intro code; simp [Instr.sliceBound, asIntOf, h2]
    simp [Instr.slice, run_underlying Tryz.underlying35, Instr.sliceBounds, hb, hc, sizeOf, typeInfo, hi, hz]
  refine ⟨r, fun w => ?_⟩
  rw [← r w]
  simp [Instr.sliceAt, run_underlying Tryz.underlying35]
theorem cutE_pre (x : Option Addr) (L C : Nat) :
    (∀ w, (Instr.slice 35 (.slice x L C) none (some (.int .i64 0)) none).run Tryz.prog w = .ok (.slice x 0 C) w) ∧
    (∀ w, (Instr.sliceAt 35 (.slice x L C) none (some (.int .i64 0)) none).run Tryz.prog w = .ok (.slice x 0 C) w) := by
  obtain ⟨i0, hi, hz⟩ := Option.map_eq_some_iff.1 info46
  have h1 : (0 : Int) ≤ (C : Int) := by omega
  have r : ∀ w, (Instr.slice 35 (.slice x L C) none (some (.int .i64 0)) none).run Tryz.prog w = .ok (.slice x 0 C) w := by
    intro w
    have hb : ∀ code, (Instr.sliceBound (.int .i64 0) C code).run Tryz.prog w = .ok 0 w := by
      intro code; simp [Instr.sliceBound, asIntOf]
    have e : (if C = 0 then x else x.map (fun a => a.add 0)) = x := by
      rcases x with _ | a <;> simp [Addr.add]
    simp [Instr.slice, run_underlying Tryz.underlying35, Instr.sliceBounds, hb, sizeOf, typeInfo, hi]
    simpa using e
  refine ⟨r, fun w => ?_⟩
  rw [← r w]
  simp [Instr.sliceAt, run_underlying Tryz.underlying35]
theorem cutE_drop (x : Option Addr) (L C : Nat) (hL : 1 ≤ L) (hC : L ≤ C) :
    (∀ w, (Instr.slice 35 (.slice x L C) (some (.int .i64 1)) none none).run Tryz.prog w = .ok (.slice (if C = 1 then x else x.map (fun a => a.add 8)) (L - 1) (C - 1)) w) ∧
    (∀ w, (Instr.sliceAt 35 (.slice x L C) (some (.int .i64 1)) none none).run Tryz.prog w = .ok (.slice (if C = 1 then x else x.map (fun a => a.add 8)) (L - 1) (C - 1)) w) := by
  obtain ⟨i0, hi, hz⟩ := Option.map_eq_some_iff.1 info46
  have h1 : (1 : Int) ≤ (L : Int) := by omega
  have r : ∀ w, (Instr.slice 35 (.slice x L C) (some (.int .i64 1)) none none).run Tryz.prog w = .ok (.slice (if C = 1 then x else x.map (fun a => a.add 8)) (L - 1) (C - 1)) w := by
    intro w
    have hb : ∀ code, (Instr.sliceBound (.int .i64 1) L code).run Tryz.prog w = .ok 1 w := by
      intro code; simp [Instr.sliceBound, asIntOf, h1]
    simp [Instr.slice, run_underlying Tryz.underlying35, Instr.sliceBounds, hb, sizeOf, typeInfo, hi, hz]
  refine ⟨r, fun w => ?_⟩
  rw [← r w]
  simp [Instr.sliceAt, run_underlying Tryz.underlying35]
theorem cutE3 (x : Option Addr) (L C : Nat) (hL : 1 ≤ L) (hC : L ≤ C) :
    ∃ v, (∀ w, (Instr.slice 35 (.slice x L C) (some (.int .i64 0)) (some (.int .i64 1)) (some (.int .i64 (L : Int)))).run Tryz.prog w = .ok v w) := by
  obtain ⟨i0, hi, hz⟩ := Option.map_eq_some_iff.1 info46
  have h1 : (1 : Int) ≤ (L : Int) := by omega
  have h2 : (L : Int) ≤ (C : Int) := by omega
  refine ⟨.slice (if L = 0 then x else x.map (fun a => a.add 0)) 1 L, fun w => ?_⟩
  have ha : ∀ code, (Instr.sliceBound (.int .i64 (L : Int)) C code).run Tryz.prog w = .ok L w := by
    intro code; simp [Instr.sliceBound, asIntOf, h2]
  have hb : ∀ code, (Instr.sliceBound (.int .i64 1) L code).run Tryz.prog w = .ok 1 w := by
    intro code; simp [Instr.sliceBound, asIntOf, h1]
  have hc : ∀ code, (Instr.sliceBound (.int .i64 0) 1 code).run Tryz.prog w = .ok 0 w := by
    intro code; simp [Instr.sliceBound, asIntOf]
  simp [Instr.slice, run_underlying Tryz.underlying35, Instr.sliceBounds, ha, hb, hc, sizeOf, typeInfo, hi, hz]

/-- An append as a step, by its run. -/
theorem step_append_run {w w' : World} {ops : Array Oper} {o : Oper} {a : Act} {K : Act → World → Prop} {Q : Exit → Act → World → Prop} {E : Prop} (hgd : o.guard = none) (s t : Operand) (T : TypeId)
    (ho : o.op = .call { callee := .builtin .append, args := #[s, t], argTypes := #[T, T] }) (v u r : Value) (hs : a.eval s = v) (hx : a.eval t = u) (hr : (Builtin.append_ #[T, T] o.type #[v, u]).run Tryz.prog w = .ok r w')
    (hK : K (a.put o.dst r) w') : if Region.wanted o (yielded ops a.tmps) = true then Oper.wp Tryz.prog o a w K Q else E := by
  have hw : Region.wanted o (yielded ops a.tmps) = true := by simp [Region.wanted, hgd]
  rw [if_pos hw]
  unfold Oper.wp execOp
  simp only [ho, resolve, invoke, builtin, Sem.run_bind, Sem.run_pure, Result.andThen_ok, List.map_toArray, List.map_cons, List.map_nil, hs, hx, hr]
  exact hK

set_option maxHeartbeats 4000000 in
set_option maxRecDepth 100000 in
/-- One event: nothing is left. -/
theorem pdelete1 {w : World} {b off c : Nat} {cur : Array Value} (hA : At w b 46 cur) (hc : 1 ≤ c) (hz : off + c * 8 ≤ cur.size) :
    Calls Tryz.prog 41 #[.slice (some ⟨b, off, none⟩) 1 c, .int .i64 0, .int .i64 1] w fun e w' => e = .returned (.slice (some ⟨b, off, none⟩) 0 c) ∧ MidG 46 8 w' (.slice (some ⟨b, off, none⟩) 0 c) (some b) 0 [] ∧ Keep (fun k => k = b) w w' := by
  obtain ⟨i0, z, hi, hzz, hzs, h8, hby⟩ := infoEv
  obtain ⟨v3, r3⟩ := cutE3 (some ⟨b, off, none⟩) 1 c (Nat.le_refl _) hc
  obtain ⟨p1, p2⟩ := cutE_pre (some ⟨b, off, none⟩) 1 c
  obtain ⟨d1, d2⟩ := cutE_drop (some ⟨b, off, none⟩) 1 c (Nat.le_refl _) hc
  obtain ⟨m1, m2⟩ := cutE (some ⟨b, off, none⟩) 0 c 0 1 (by omega) hc
  have em : (if c = 0 then (some (⟨b, off, none⟩ : Addr)) else (some (⟨b, off, none⟩ : Addr)).map (fun a => a.add (0 * 8))) = some ⟨b, off, none⟩ := by
    rw [if_neg (by omega)]; simp [Addr.add]
  rw [em] at m1 m2
  have exd : ∃ x1, (if c = 1 then (some (⟨b, off, none⟩ : Addr)) else (some (⟨b, off, none⟩ : Addr)).map (fun a => a.add 8)) = some x1 := by
    by_cases h1 : c = 1
    · exact ⟨_, by rw [if_pos h1]⟩
    · exact ⟨_, by rw [if_neg h1]; rfl⟩
  obtain ⟨x1, hx1⟩ := exd
  rw [hx1] at d1 d2
  have hap : ∀ ty, (Builtin.append_ #[35, 35] ty #[.slice (some ⟨b, off, none⟩) 0 c, .slice (some x1) 0 (c - 1)]).run Tryz.prog w.drew = .ok (.slice (some ⟨b, off, none⟩) 0 c) w.drew := fun ty =>
    run_append_nothing w.drew 35 35 ty 46 i0 Tryz.underlying35 hi (some ⟨b, off, none⟩) 0 c (Nat.zero_le _) _ (by rw [h8]; exact Src.ofSlice w.drew Tryz.underlying35 x1 0 (c - 1) [] (by simp) (by simp) (by simp))
  have HAP := Lib.hid hap
  have hcl := fun ty => run_clearE w.drew ty b off c (fun j hj => by show (w.cell? _).isSome = true; rw [hA.cell, Array.getElem?_eq_getElem (by omega)]; rfl) (fun j hj => hA.frozen _)
  have HA := Lib.hid hA
  have n1 : (0 : Int) ≤ (c : Int) := by omega
  simp only [Nat.sub_self, Nat.sub_zero] at d1 d2 m1 m2
  clear hap hA hi hzz hzs h8 hby
  go_enter Tryz.func41, Tryz.ntmps41
  go_wp2
  go_region_law ((refine step_append_run (by rfl) (.tmp 22) (.tmp 25) 35 (by rfl) _ _ _ (by rfl) (by rfl) (HAP.out _) ?_))
  all_goals
    go_wp2
    go_ret
    obtain ⟨cs', hA', hsz⟩ := (HA.out.drew).setCells zev off
    exact ⟨rfl, ⟨by simp, by simp, some ⟨b, off, none⟩, c, rfl, Nat.zero_le _, .inr ⟨b, off, cs', rfl, rfl, hA', by omega, fun i hi => by simp at hi⟩⟩, Keep.setCells (S := fun k => k = b) (g := b) (fun _ => rfl) _ _ ((Keep.refl _ w).drew)⟩

set_option maxHeartbeats 4000000 in
set_option maxRecDepth 100000 in
/-- Two events: the second one is left. -/
theorem pdelete2 {w : World} {b off c : Nat} {cur : Array Value} {xs : List Value} (hA : At w b 46 cur) (hc : 2 ≤ c) (hz : off + c * 8 ≤ cur.size) (hxs : xs.length = 16) (ho : ∀ u ∈ xs, u.oneCell' = true) (hx : ∀ i, i < xs.length → cur[off + i]? = xs[i]?) :
    Calls Tryz.prog 41 #[.slice (some ⟨b, off, none⟩) 2 c, .int .i64 0, .int .i64 1] w fun e w' => e = .returned (.slice (some ⟨b, off, none⟩) 1 c) ∧ MidG 46 8 w' (.slice (some ⟨b, off, none⟩) 1 c) (some b) 1 (xs.drop 8) ∧ Keep (fun k => k = b) w w' := by
  obtain ⟨i0, z, hi, hzz, hzs, h8, hby⟩ := infoEv
  obtain ⟨v3, r3⟩ := cutE3 (some ⟨b, off, none⟩) 2 c (by omega) hc
  obtain ⟨p1, p2⟩ := cutE_pre (some ⟨b, off, none⟩) 2 c
  obtain ⟨d1, d2⟩ := cutE_drop (some ⟨b, off, none⟩) 2 c (by omega) hc
  obtain ⟨m1, m2⟩ := cutE (some ⟨b, off, none⟩) 1 c 1 2 (by omega) hc
  have em : (if c = 1 then (some (⟨b, off, none⟩ : Addr)) else (some (⟨b, off, none⟩ : Addr)).map (fun a => a.add (1 * 8))) = some ⟨b, off + 8, none⟩ := by
    rw [if_neg (by omega)]; simp [Addr.add_mid]
  have ed : (if c = 1 then (some (⟨b, off, none⟩ : Addr)) else (some (⟨b, off, none⟩ : Addr)).map (fun a => a.add 8)) = some ⟨b, off + 8, none⟩ := by
    rw [if_neg (by omega)]; simp [Addr.add_mid]
  rw [em] at m1 m2
  rw [ed] at d1 d2
  have hcell : ∀ j, j < 8 → w.drew.cell? ⟨b, off + 8 + j, none⟩ = xs[8 + j]? := fun j hj => by
    show w.cell? _ = _
    rw [hA.cell, Nat.add_assoc, hx (8 + j) (by omega)]
  have hsrc : Src Tryz.prog i0.size 35 (.slice (some ⟨b, off + 8, none⟩) 1 (c - 1)) 1 (xs.drop 8) w.drew := by
    rw [h8]
    refine Src.ofSlice w.drew Tryz.underlying35 _ 1 (c - 1) _ (by simp [hxs]) (fun j u hu => ?_) (fun u hu => ho u (List.mem_of_mem_drop hu))
    have hj : j < 8 := by
      have := (List.getElem?_eq_some_iff.1 hu).1
      simp [hxs] at this
      exact this
    rw [Addr.add_mid, hcell j hj]
    rw [List.getElem?_drop] at hu
    exact hu
  have hroomc : ∀ j, j < (xs.drop 8).length → (w.drew.cell? ⟨b, off + 0 * i0.size + j, none⟩).isSome = true := fun j hj => by
    simp [hxs] at hj
    show (w.cell? _).isSome = true
    rw [hA.cell, Array.getElem?_eq_getElem (by omega)]
    rfl
  have hap : ∀ ty, (Builtin.append_ #[35, 35] ty #[.slice (some ⟨b, off, none⟩) 0 c, .slice (some ⟨b, off + 8, none⟩) 1 (c - 1)]).run Tryz.prog w.drew = .ok (.slice (some ⟨b, off, none⟩) 1 c) (w.drew.setCells b off (xs.drop 8)) := fun ty => by
    have := run_append_room_src w.drew 35 35 ty 46 i0 Tryz.underlying35 hi b off 0 c _ 1 (xs.drop 8) hsrc (by omega) hroomc (fun j _ => hA.frozen _)
    simpa using this
  have HAP := Lib.hid hap
  obtain ⟨cs1, hA1, hs1⟩ := (hA.drew).setCells (xs.drop 8) off
  obtain ⟨W1, hW1⟩ : ∃ W1, W1 = w.drew.setCells b off (xs.drop 8) := ⟨_, rfl⟩
  have HR : Hid (∀ j, j < 8 → W1.cell? ⟨b, off + j, none⟩ = (xs.drop 8)[j]?) := Lib.hid (fun j hj => by
    rw [hW1, World.cell?_setCells_in _ _ _ _ (fun j hj => by have := hroomc j hj; simpa using this) j (by simp [hxs]; omega), List.getElem?_eq_getElem (by simp [hxs]; omega)])
  have HK1 : Hid (Keep (fun k => k = b) w W1) := Lib.hid (by rw [hW1]; exact Keep.setCells (S := fun k => k = b) (g := b) (fun _ => rfl) _ _ ((Keep.refl _ w).drew))
  rw [← hW1] at HAP hA1
  have hcl := fun ty => run_clearE W1 ty b (off + 8) (c - 1) (fun j hj => by rw [hA1.cell, Array.getElem?_eq_getElem (by omega)]; rfl) (fun j hj => hA1.frozen _)
  have HA1 := Lib.hid hA1
  have HXS := Lib.hid hxs
  have HO := Lib.hid ho
  have n1 : (0 : Int) ≤ (c : Int) := by omega
  have n2 : (2 : Int) ≤ (c : Int) := by omega
  have e21 : (2 : Nat) - 1 = 1 := rfl
  rw [e21] at d1 d2 m1 m2
  clear hap hA hi hzz hzs h8 hby hcell hsrc hroomc hW1 hxs ho hx hA1
  go_enter Tryz.func41, Tryz.ntmps41
  go_wp2
  go_region_law ((refine step_append_run (by rfl) (.tmp 22) (.tmp 25) 35 (by rfl) _ _ _ (by rfl) (by rfl) (HAP.out _) ?_))
  all_goals
    go_wp2
    go_ret
    obtain ⟨cs', hA', hsz⟩ := HA1.out.setCells zev (off + 8)
    have hz8 : zev.length = 8 := rfl
    refine ⟨rfl, ⟨by simp [HXS.out], fun u hu => HO.out u (List.mem_of_mem_drop hu), some ⟨b, off, none⟩, c, rfl, by omega, .inr ⟨b, off, cs', rfl, rfl, hA', by omega, fun i hi => ?_⟩⟩, Keep.setCells (S := fun k => k = b) (g := b) (fun _ => rfl) _ _ HK1.out⟩
    have hi8 : i < 8 := by rw [List.length_drop, HXS.out] at hi; omega
    rw [← hA'.cell, World.cell?_setCells_out _ _ _ _ _ (fun _ _ => .inl (by simp; omega)), HR.out i hi8]
/-- What Delete does to a row of one or two events. -/
theorem pdelete {w : World} {v : Value} {q : Option Nat} {n : Nat} {xs : List Value} (hM : MidG 46 8 w v q n xs) (hn : n = 1 ∨ n = 2) :
    Calls Tryz.prog 41 #[v, .int .i64 0, .int .i64 1] w fun e w' => ∃ v', e = .returned v' ∧ (∃ y m c', v' = .slice y m c') ∧ MidG 46 8 w' v' q (n - 1) (xs.drop 8) ∧ Keep (fun k => q = some k) w w' := by
  obtain ⟨hb, h1, x, cap, rfl, hcap, ⟨h0, _⟩ | ⟨g, off, cur, rfl, rfl, hA, hz, hcur⟩⟩ := hM
  · omega
  · rcases hn with rfl | rfl
    · refine (pdelete1 hA hcap hz).mono ?_
      rintro e w' ⟨rfl, h2, h3⟩
      have : xs.drop 8 = [] := List.drop_eq_nil_of_le (by omega)
      rw [this]
      exact ⟨_, rfl, ⟨_, _, _, rfl⟩, h2, h3.mono (fun i _ e => by rw [e])⟩
    · refine (pdelete2 hA hcap hz (by omega) h1 hcur).mono ?_
      rintro e w' ⟨rfl, h2, h3⟩
      exact ⟨_, rfl, ⟨_, _, _, rfl⟩, h2, h3.mono (fun i _ e => by rw [e])⟩
end Go.Proofs.YtcjljldknekhiaaGreatDoor.Ln
