/-
  What the document's own Own, and the laws' own one and light return.
-/
import Derived.Test.YtpdopjpibmhamaaDoorF3
import Derived.Test.YtpdopjpibmhamaaDoorMg
namespace Go.Proofs.YtpdopjpibmhamaaDoor.Ln
open Go.RowKit
set_option linter.unusedVariables false
set_option linter.unusedSimpArgs false

/-! ### Rows that are laid anew -/
theorem TxP.src {P : Nat → Prop} {w : World} {x : Option Addr} {n c : Nat} {L : List ByteArray} (h : TxP P w x L) (hn : n = L.length) : Src Tryd.prog 1 22 (.slice x n c) n (L.map Value.string) w := by
  subst hn
  have hone : ∀ u ∈ L.map Value.string, u.oneCell' = true := fun u hu => by
    obtain ⟨t, _, rfl⟩ := List.mem_map.1 hu
    rfl
  rcases x with _ | ad
  · have : L = [] := by
      rcases L with _ | ⟨t, L⟩
      · rfl
      · obtain ⟨b, off, _, _, hx, _⟩ := h 0 t rfl
        cases hx
    subst this
    exact Src.ofNil w Tryd.underlying22 c
  · refine Src.ofSlice w Tryd.underlying22 ad L.length c (L.map Value.string) (by simp) (fun j u hj => ?_) hone
    rw [List.getElem?_map] at hj
    cases ht : L[j]? with
    | none => rw [ht] at hj; cases hj
    | some t =>
      rw [ht] at hj
      have hu : u = Value.string t := (Option.some.inj hj).symm
      obtain ⟨b, off, _, _, hx, hc⟩ := h j t ht
      injection hx with hx
      subst hx
      rw [Addr.add_mid, hu]
      exact hc
theorem info9m : ∃ (i0 : TypeInfo) (z : Value), Tryd.prog.info? 9 = some i0 ∧ i0.zero = some z ∧ z.cells.size = i0.size ∧ i0.size = 1 ∧ i0.bytes ≤ 1000 := by
  obtain ⟨i0, hi, hz0, hz1, hz2⟩ := info_parts info9t
  exact ⟨i0, _, hi, hz0, by rw [hz1]; rfl, hz1, by rw [hz2]; decide⟩
theorem app_txts {P : Nat → Prop} {w : World} {x : Option Addr} {n c : Nat} {L : List ByteArray} (hn : n = L.length) (h : TxP P w x L) (ad : Option Addr) (ty : TypeId) (hl : n ≤ 1000000) :
    ∃ y cap w', (Builtin.append_ #[22, 22] ty #[.slice ad 0 0, .slice x n c]).run Tryd.prog w = .ok (.slice y n cap) w' ∧ n ≤ cap ∧ TxP (fun b => w.heap.size ≤ b) w' y L ∧ Keep (fun _ => False) w w' := by
  obtain ⟨i0, z, hi, hz, hzs, h1, hby⟩ := info9m
  have hM : MidG 9 i0.size w (.slice ad 0 0) none 0 [] := MidG.empty _ _ _ _
  have hsrc : Src Tryd.prog i0.size 22 (.slice x n c) n (L.map Value.string) w := by rw [h1]; exact h.src hn
  obtain ⟨y, k, cap, q', w', hr, h2, h3, h4⟩ := run_append_midG (t := 22) ty Tryd.underlying22 hi hz hzs (by rw [h1]; decide) hby w _ none 0 [] hM _ n (L.map Value.string) hsrc (by omega)
  rw [h1] at h2
  rw [Nat.zero_add, List.nil_append] at h2
  obtain ⟨y', cap', hv, hc⟩ := h2.shape
  injection hv with e1 e2 e3
  subst e1 e2 e3
  refine ⟨y, cap, w', hr, hc, fun i t ht => ?_, h3.mono (fun _ _ e => by cases e)⟩
  have hi' : i < (L.map Value.string).length := by rw [List.length_map]; exact (List.getElem?_eq_some_iff.1 ht).1
  obtain ⟨g, off, hx, hq, hcell⟩ := h2.cell i hi'
  refine ⟨g, off, ?_, ?_, hx, ?_⟩
  · rcases h4 g hq with h | h
    · cases h
    · exact h
  · exact h2.lt g hq
  · rw [hcell, List.getElem?_map, ht]
    rfl
theorem app_byts {P : Nat → Prop} {w : World} {x : Option Addr} {n c : Nat} {B : List Nat} (hn : n = B.length) (h : Bytes P w x B) (ad : Option Addr) (ty : TypeId) (hl : n ≤ 1000000) :
    ∃ y cap w', (Builtin.append_ #[23, 23] ty #[.slice ad 0 0, .slice x n c]).run Tryd.prog w = .ok (.slice y n cap) w' ∧ n ≤ cap ∧ Bytes (fun b => w.heap.size ≤ b) w' y B ∧ Keep (fun _ => False) w w' := by
  obtain ⟨y, k, cap, q', w', hr, h2, h3, h4⟩ := run_append_mid ty w (.slice ad 0 0) none [] (Mid.empty _ _) P x n c B hn.symm h (by simp; omega)
  rw [List.nil_append] at h2
  have hk : k = n := by rw [h2.len, hn]
  subst hk
  refine ⟨y, cap, w', hr, h2.cap_le, h2.bytes.mono (fun b _ hb => ?_), h3.mono (fun _ _ e => by cases e)⟩
  rcases h4 b hb with h | h
  · cases h
  · exact h
theorem wpList_app_txts {w : World} {ops : Array Oper} {rest : List Oper} {o : Oper} {a : Act} {Q : Exit → Act → World → Prop} (hgd : o.guard = none) (s t : Operand)
    (ho : o.op = .call { callee := .builtin .append, args := #[s, t], argTypes := #[22, 22] }) (ad : Option Addr) (hs : a.eval s = .slice ad 0 0)
    {P : Nat → Prop} (x : Option Addr) (n c : Nat) (L : List ByteArray) (hx : a.eval t = .slice x n c) (hn : n = L.length) (h : TxP P w x L) (hl : n ≤ 1000000)
    (hK : ∀ y cap w', n ≤ cap → TxP (fun b => w.heap.size ≤ b) w' y L → Keep (fun _ => False) w w' → wpList Tryd.prog ops Q rest (a.put o.dst (.slice y n cap)) w') :
    wpList Tryd.prog ops Q (o :: rest) a w := by
  refine wpList_plain hgd fun K hK' => ?_
  obtain ⟨y, cap, w', hr, h1, h2, h3⟩ := app_txts (c := c) hn h ad o.type hl
  exact wp_append_runB ho hs hx hr (hK' _ _ (hK y cap w' h1 h2 h3))
theorem wpList_app_byts {w : World} {ops : Array Oper} {rest : List Oper} {o : Oper} {a : Act} {Q : Exit → Act → World → Prop} (hgd : o.guard = none) (s t : Operand)
    (ho : o.op = .call { callee := .builtin .append, args := #[s, t], argTypes := #[23, 23] }) (ad : Option Addr) (hs : a.eval s = .slice ad 0 0)
    {P : Nat → Prop} (x : Option Addr) (n c : Nat) (B : List Nat) (hx : a.eval t = .slice x n c) (hn : n = B.length) (h : Bytes P w x B) (hl : n ≤ 1000000)
    (hK : ∀ y cap w', n ≤ cap → Bytes (fun b => w.heap.size ≤ b) w' y B → Keep (fun _ => False) w w' → wpList Tryd.prog ops Q rest (a.put o.dst (.slice y n cap)) w') :
    wpList Tryd.prog ops Q (o :: rest) a w := by
  refine wpList_plain hgd fun K hK' => ?_
  obtain ⟨y, cap, w', hr, h1, h2, h3⟩ := app_byts (c := c) hn h ad o.type hl
  exact wp_append_runB ho hs hx hr (hK' _ _ (hK y cap w' h1 h2 h3))

/-! ### Own -/
theorem ret_ml1 {fn : Func} {p : Tmp} (h : fn.results = #[.cell p 25]) (tmps : Array Value) (w : World) (g : Nat) {cs : Array Value} (hp : tmps.getD p undef = .pointer (some ⟨g, 0, none⟩)) (hg : At w g 25 cs ∧ cs.size = 6) :
    (results fn tmps).run Tryd.prog w = .ok (.agg cs) w := results_cell_row h tmps w g 25 cs (0, 0) _ hp hg.1 Tryd.underlying25 rfl (by rw [hg.2]; exact infoM)
/-- A mail that shares nothing with what was there. -/
def Owned (m : Ml) (w : World) (e : Ending) (w' : World) : Prop := ∃ rx rn rc bx bn bc, e = .returned (.agg (mlC m rx rn rc bx bn bc)) ∧ MlAt (fun b => w.heap.size ≤ b) w' m rx rn rc bx bn bc ∧ Keep (fun _ => False) w w'
set_option maxHeartbeats 4000000 in
set_option maxRecDepth 100000 in
theorem ownC {P : Nat → Prop} {w : World} {m : Ml} {rx : Option Addr} {rn rc : Nat} {bx : Option Addr} {bn bc : Nat} (h : MlAt P w m rx rn rc bx bn bc) (hr : rn ≤ 1000000) (hb : bn ≤ 1000000) :
    Calls Tryd.prog 8 #[.agg (mlC m rx rn rc bx bn bc)] w (Owned m w) := by
  have kA := (keep_new w (.cells (mlC m rx rn rc bx bn bc) 25)).alloc (.cells #[.int .i64 0, .int .i64 0, .int .i64 0, .string { data := #[] }, .slice none 0 0, .slice none 0 0] 25)
  have H := Lib.hid ((h.mono (Q := fun k => k < w.heap.size) (fun k hk _ => hk)).quiet kA)
  have K0 := Lib.hid kA
  obtain ⟨W, hW⟩ : ∃ W, W = (w.alloc (.cells (mlC m rx rn rc bx bn bc) 25)).alloc (.cells #[.int .i64 0, .int .i64 0, .int .i64 0, .string { data := #[] }, .slice none 0 0, .slice none 0 0] 25) := ⟨_, rfl⟩
  have HA : Hid (At W w.heap.size 25 (mlC m rx rn rc bx bn bc)) := Lib.hid (by rw [hW]; exact (At.new w _ _).alloc _)
  have HZ : Hid (At W (w.heap.size + 1) 25 mzC) := Lib.hid (by
    rw [hW]
    have := mz_new (w.alloc (.cells (mlC m rx rn rc bx bn bc) 25))
    rw [show (w.alloc (.cells (mlC m rx rn rc bx bn bc) 25)).heap.size = w.heap.size + 1 by simp] at this
    exact this)
  rw [← hW] at H K0
  have HRN := Lib.hid h.hrn
  have HBN := Lib.hid h.hbn
  have hWs : W.heap.size = w.heap.size + 2 := by rw [hW]; simp
  have HWS := Lib.hid hWs
  clear h kA hWs
  unfold mlC at *
  have HW := Lib.hid hW
  clear hW
  have k1 : Keep (fun _ => False) W (W.alloc (.cells #[] 9)) := keep_new W _
  obtain ⟨c4, c4f⟩ : (W.alloc (.cells #[] 9)).cell? ⟨w.heap.size, 4, none⟩ = some (.slice rx rn rc) ∧ (W.alloc (.cells #[] 9)).frozen? ⟨w.heap.size, 4, none⟩ = false := ⟨(HA.out.keep k1 (fun h => h)).cell 4, (HA.out.keep k1 (fun h => h)).frozen 4⟩
  rw [HW.out] at c4
  have K1 := Lib.hid k1
  clear k1 c4f
  go_enter Tryd.func8, Tryd.ntmps8
  go_wp2_with (first
    | (at_builtin
       rw [← HW.out]
       refine wpList_app_txts (by rfl) (.tmp 3) (.tmp 5) (by rfl) _ (by rfl) rx rn rc m.rcpts (by rfl) HRN.out (H.out.rs.quiet K1.out) hr ?_
       intro y1 cy1 w1 hc1 hT1 hk1
       have HT1 := Lib.hid (hT1.mono (Q := fun b => w.heap.size + 2 ≤ b) (fun b _ hb => by have := K1.out.size; have := HWS.out; omega))
       have KW1 := Lib.hid (K1.out.trans hk1 (fun _ _ h => h))
       have HC1 := Lib.hid hc1
       have HA1 := Lib.hid (HA.out.keep KW1.out (fun h => h))
       obtain ⟨e4, e4f⟩ : w1.cell? ⟨w.heap.size, 4, none⟩ = some (.slice rx rn rc) ∧ w1.frozen? ⟨w.heap.size, 4, none⟩ = false := ⟨HA1.out.cell 4, HA1.out.frozen 4⟩
       obtain ⟨W2, hW2⟩ : ∃ W2, W2 = w1.setCell ⟨w.heap.size, 4, none⟩ (.slice y1 rn cy1) := ⟨_, rfl⟩
       have kW2 : Keep (fun k => k = w.heap.size) w1 W2 := by rw [hW2]; exact (Keep.refl (fun k => k = w.heap.size) w1).setCell (p := ⟨w.heap.size, 4, none⟩) (fun _ => rfl) _
       have HA2 : Hid (At W2 w.heap.size 25 #[.int .i64 m.id, .int .i64 m.parent, .int .i64 m.born, .string m.frm, .slice y1 rn cy1, .slice bx bn bc]) := Lib.hid (by rw [hW2]; exact HA1.out.put 4 (.slice y1 rn cy1))
       have HT2 := Lib.hid (HT1.out.keep kW2 (fun b _ hb e => by omega))
       have HB2 := Lib.hid ((H.out.bs.quiet KW1.out).keep kW2 (fun b _ hb e => by omega))
       have HZ2 := Lib.hid ((HZ.out.keep KW1.out (fun h => h)).keep kW2 (fun e => by omega))
       have KW2 : Hid (Keep (fun _ => False) w W2) := Lib.hid ((K0.out.trans KW1.out (fun _ _ h => h)).trans kW2 (fun i hi e => by omega))
       have HW2 := Lib.hid hW2
       have k3 : Keep (fun _ => False) W2 (W2.alloc (.cells #[] 5)) := keep_new W2 _
       have d5 : (W2.alloc (.cells #[] 5)).cell? ⟨w.heap.size, 5, none⟩ = some (.slice bx bn bc) := (HA2.out.keep k3 (fun h => h)).cell 5
       rw [hW2] at d5
       have K3 := Lib.hid k3
       have HS2 : Hid (w.heap.size + 2 ≤ W2.heap.size) := Lib.hid (by have h1 := KW1.out.size; have h2 := kW2.size; have := HWS.out; omega)
       clear hT1 hk1 hc1 hW2 kW2 k3)
    | (at_builtin
       rw [← HW2.out]
       refine wpList_app_byts (by rfl) (.tmp 8) (.tmp 10) (by rfl) _ (by rfl) bx bn bc m.body (by rfl) HBN.out (HB2.out.quiet K3.out) hb ?_
       intro y4 cy4 w4 hc4 hB4 hk4
       have HB4 := Lib.hid (hB4.mono (Q := fun b => w.heap.size + 2 ≤ b) (fun b _ hb => by have := K3.out.size; have := HS2.out; omega))
       have KW4 := Lib.hid (K3.out.trans hk4 (fun _ _ h => h))
       have HC4 := Lib.hid hc4
       have HA4 := Lib.hid (HA2.out.keep KW4.out (fun h => h))
       obtain ⟨g5, g5f⟩ : w4.cell? ⟨w.heap.size, 5, none⟩ = some (.slice bx bn bc) ∧ w4.frozen? ⟨w.heap.size, 5, none⟩ = false := ⟨HA4.out.cell 5, HA4.out.frozen 5⟩
       obtain ⟨W5, hW5⟩ : ∃ W5, W5 = w4.setCell ⟨w.heap.size, 5, none⟩ (.slice y4 bn cy4) := ⟨_, rfl⟩
       have kW5 : Keep (fun k => k = w.heap.size) w4 W5 := by rw [hW5]; exact (Keep.refl (fun k => k = w.heap.size) w4).setCell (p := ⟨w.heap.size, 5, none⟩) (fun _ => rfl) _
       have HA5 : Hid (At W5 w.heap.size 25 (mlC m y1 rn cy1 y4 bn cy4)) := Lib.hid (by rw [hW5]; exact HA4.out.put 5 (.slice y4 bn cy4))
       have HT5 := Lib.hid ((HT2.out.quiet KW4.out).keep kW5 (fun b _ hb e => by omega))
       have HB5 := Lib.hid (HB4.out.keep kW5 (fun b _ hb e => by omega))
       have HZ5 := Lib.hid ((HZ2.out.keep KW4.out (fun h => h)).keep kW5 (fun e => by omega))
       have KW5 : Hid (Keep (fun _ => False) w W5) := Lib.hid ((KW2.out.trans KW4.out (fun _ _ h => h)).trans kW5 (fun i hi e => by omega))
       have HW5 := Lib.hid hW5
       clear hB4 hk4 hc4 hW5 kW5)
    | (rw [← HW5.out]
       refine wpList_load_row (by rfl) 25 (.tmp 1) (by rfl) w.heap.size (by rfl) 25 (mlC m y1 rn cy1 y4 bn cy4) (0, 0) _ HA5.out Tryd.underlying25 rfl infoM ?_)
    | (refine wpList_store_row (by rfl) 25 (.tmp 2) (.tmp 13) (by rfl) (w.heap.size + 1) (mlC m y1 rn cy1 y4 bn cy4) (by rfl) (by rfl) 25 _ HZ5.out infoM rfl (one_ml _ _ _ _ _ _ _ _ _ _) ?_))
  (try simp only [Exit.inBlock, Exit.then])
  refine bodyPost_ret (ret_ml1 (fn := Tryd.f8) (p := 2) rfl _ _ (w.heap.size + 1) rfl ⟨HZ5.out.setRow _, rfl⟩) rfl ?_
  refine ⟨y1, rn, cy1, y4, bn, cy4, rfl, ?_, KW5.out.setRow (fun h => by omega) _⟩
  have kf : Keep (fun k => k = w.heap.size + 1) W5 (W5.setRow (w.heap.size + 1) (mlC m y1 rn cy1 y4 bn cy4)) := (Keep.refl (fun k => k = w.heap.size + 1) W5).setRow (fun _ => rfl) _
  exact ⟨(HT5.out.keep kf (fun b _ hb e => by omega)).mono (fun b _ hb => by omega), (HB5.out.keep kf (fun b _ hb e => by omega)).mono (fun b _ hb => by omega), HRN.out, HBN.out, HC1.out, HC4.out⟩

/-! ### light -/
def lightB (m : Ml) : Bool := decide (m.rcpts.length ≤ 50) && (m.rcpts.all (fun s => decide (s.size ≤ 200)) && (decide (m.frm.size ≤ 200) && decide (m.body.length ≤ 9000)))
set_option maxHeartbeats 4000000 in
theorem lightC {P : Nat → Prop} {w : World} {m : Ml} {rx : Option Addr} {rn rc : Nat} {bx : Option Addr} {bn bc : Nat} (h : MlAt P w m rx rn rc bx bn bc) :
    Calls Tryd.prog 4 #[.agg (mlC m rx rn rc bx bn bc)] w (Quiet (.bool (lightB m)) w) := by
  have k0 := keep_new w (.cells (mlC m rx rn rc bx bn bc) 25)
  have H := Lib.hid (h.quiet k0)
  have K0 := Lib.hid k0
  clear h k0
  obtain ⟨i, p, b, f, L, B⟩ := m
  unfold mlC at *
  simp only at *
  have HRN := Lib.hid H.out.hrn
  have HBN := Lib.hid H.out.hbn
  simp only at HRN HBN
  go_enter Tryd.func4, Tryd.ntmps4
  go_wp2
  go_loop [3] (fun i => ∃ k : Nat, k ≤ rn ∧ i = .int .i64 (k : Int) ∧ Hid ((0 < k → rn ≤ 50) ∧ ∀ j (hj : j < L.length), j < k → L[j].size ≤ 200)) (fun i => rn - (intOf i).toNat)
  case atStart => exact ⟨0, by omega, rfl, fun h => absurd h (Nat.lt_irrefl _), fun j _ h => absurd h (Nat.not_lt_zero _)⟩
  case round =>
    obtain ⟨k, hk, rfl, HR⟩ := hrel
    by_cases hlt : (k : Int) < (rn : Int)
    · have hkl : k < L.length := by have := HRN.out; omega
      obtain ⟨b0, off, _, _, hx, hc⟩ := H.out.rs.at k hkl
      (try simp only at hx)
      subst hx
      (try simp only at hc)
      obtain ⟨s, hs⟩ : ∃ s, s = L[k] := ⟨_, rfl⟩
      rw [← hs] at hc
      have HS : Hid (∀ h : k < L.length, s = L[k]) := Lib.hid (fun _ => hs)
      have HKL := Lib.hid hkl
      have k0 : (0 : Int) ≤ (k : Int) := by omega
      clear hs
      clear hkl
      by_cases h50 : (50 : Int) < (rn : Int)
      · have hv : Hid (lightB ⟨i, p, b, f, L, B⟩ = false) := Lib.hid (by have := HRN.out; simp [lightB]; omega)
        go_wp2
        go_ret
        exact ⟨by rw [hv.out]; rfl, K0.out⟩
      have h50' : rn ≤ 50 := by omega
      have hd50 : decide ((50 : Int) < (rn : Int)) = false := decide_eq_false h50
      clear h50
      by_cases h200 : (200 : Int) < (s.size : Int)
      · have hv : Hid (lightB ⟨i, p, b, f, L, B⟩ = false) := Lib.hid (by
          have hm : (L.all (fun s => decide (s.size ≤ 200))) = false := by
            rw [List.all_eq_false]
            exact ⟨L[k]'HKL.out, List.getElem_mem _, by rw [← HS.out HKL.out]; simp; omega⟩
          simp [lightB, hm])
        go_wp2
        go_ret
        exact ⟨by rw [hv.out]; rfl, K0.out⟩
      have hd200 : decide ((200 : Int) < (s.size : Int)) = false := decide_eq_false h200
      have H2 : Hid (s.size ≤ 200) := Lib.hid (by omega)
      clear h200
      go_wp2
      go_round
      case rel => exact ⟨k + 1, by omega, by go_num, fun _ => h50', fun j hj h => by
        rcases Nat.lt_or_ge j k with h2 | h2
        · exact HR.out.2 j hj h2
        · obtain rfl : j = k := by omega
          rw [← HS.out hj]; exact H2.out⟩
      case measure => simp [intOf]; omega
    · have HV : Hid (lightB ⟨i, p, b, f, L, B⟩ = (decide (f.size ≤ 200) && decide (B.length ≤ 9000))) := Lib.hid (by
        have hkn : k = rn := by omega
        have hm : (L.all (fun s => decide (s.size ≤ 200))) = true := by
          rw [List.all_eq_true]
          intro s hs
          obtain ⟨j, hj, rfl⟩ := List.getElem_of_mem hs
          simpa using HR.out.2 j hj (by have := HRN.out; omega)
        have hl : L.length ≤ 50 := by
          have h1 := HRN.out
          rcases Nat.eq_zero_or_pos k with h0 | h0
          · omega
          · have := HR.out.1 h0; omega
        simp [lightB, hm, hl])
      have HBB : Hid (bn = B.length) := HBN
      by_cases hf : (f.size : Int) ≤ 200
      · by_cases hb : (bn : Int) ≤ 9000
        · go_wp2
          go_ret
          exact ⟨by rw [HV.out, decide_eq_true (show f.size ≤ 200 by omega), decide_eq_true (show B.length ≤ 9000 by have := HBB.out; omega)]; rfl, K0.out⟩
        · have hdb : decide ((bn : Int) ≤ 9000) = false := decide_eq_false hb
          have HN : Hid (decide (B.length ≤ 9000) = false) := Lib.hid (decide_eq_false (by have := HBB.out; omega))
          clear hb
          go_wp2
          go_ret
          exact ⟨by rw [HV.out, HN.out, Bool.and_false]; rfl, K0.out⟩
      · have hdf : decide ((f.size : Int) ≤ 200) = false := decide_eq_false hf
        have HN : Hid (decide (f.size ≤ 200) = false) := Lib.hid (decide_eq_false (by omega))
        clear hf
        go_wp2
        go_ret
        exact ⟨by rw [HV.out, HN.out, Bool.false_and]; rfl, K0.out⟩

/-! ### one -/
def m1 : Ml := ⟨1, 0, 0, { data := #[] }, [{ data := #[97, 64, 98] }], [120, 10]⟩
theorem m1_good : goodM m1 = true := by kernel_rfl
theorem bytes_mark2 (w : World) (bs : List Nat) (hb : ∀ c ∈ bs, c < 256) (fr : Nat × Nat) : Bytes (fun b => b = w.heap.size) (w.alloc (.cells (cellsOf bs).toArray 5 fr)) (some ⟨w.heap.size, 0, none⟩) bs := by
  refine ⟨hb, .inr ⟨w.heap.size, 0, rfl, rfl, fun i hi => ?_⟩⟩
  rw [cell_of_row _ _ (0 + i) _ _ fr (heap_alloc_new _ _), Nat.zero_add, ← cellsOf_at bs i hi]
  simp
set_option maxHeartbeats 2000000 in
theorem oneC (w : World) : Calls Tryd.prog 10 #[] w (Owned m1 w) := by
  have HZ := Lib.hid (mz_new w)
  obtain ⟨W, hW⟩ : ∃ W, W = (w.alloc (.cells #[.int .i64 0, .int .i64 0, .int .i64 0, .string { data := #[] }, .slice none 0 0, .slice none 0 0] 25)).alloc (.cells #[.string { data := #[97, 64, 98] }] 9) := ⟨_, rfl⟩
  have kW : Keep (fun _ => False) w W := by rw [hW]; exact ((Keep.refl _ w).alloc _).alloc _
  have hWs : W.heap.size = w.heap.size + 2 := by rw [hW]; simp
  have kc : (convert 23 23 (.slice (some ⟨W.heap.size, 0, none⟩) 2 2)).run Tryd.prog (W.alloc (.cells #[.int .u8 120, .int .u8 10] 5)) = .ok (.slice (some ⟨W.heap.size, 0, none⟩) 2 2) (W.alloc (.cells #[.int .u8 120, .int .u8 10] 5 (2, 3))) :=
    Lib.run_convert_bytes_const (P := Tryd.prog) W 23 5 #[.int .u8 120, .int .u8 10] 2 2 Tryd.underlying23 Tryd.underlying5
  have hT : TxP (fun b => b = w.heap.size + 1) W (some ⟨w.heap.size + 1, 0, none⟩) m1.rcpts := fun i t ht => by
    rcases i with _ | i
    · have : t = { data := #[97, 64, 98] } := by simpa [m1] using ht.symm
      subst this
      refine ⟨w.heap.size + 1, 0, rfl, by omega, rfl, ?_⟩
      have := cell_of_row W (w.heap.size + 1) 0 #[.string { data := #[97, 64, 98] }] 9 (0, 0) (by
        rw [hW]
        have := heap_alloc_new (w.alloc (.cells #[.int .i64 0, .int .i64 0, .int .i64 0, .string { data := #[] }, .slice none 0 0, .slice none 0 0] 25)) (.cells #[.string { data := #[97, 64, 98] }] 9)
        simpa using this)
      rw [Nat.add_zero, this]
      rfl
    · simp [m1] at ht
  have hZW : At W w.heap.size 25 mzC := by rw [hW]; exact HZ.out.alloc _
  have kM := (Keep.refl (fun _ => False) W).alloc (.cells #[.int .u8 120, .int .u8 10] 5 (2, 3))
  have HT := Lib.hid (hT.quiet kM)
  have HZM := Lib.hid (hZW.keep kM (fun h => h))
  have HBM : Hid (Bytes (fun b => b = W.heap.size) (W.alloc (.cells #[.int .u8 120, .int .u8 10] 5 (2, 3))) (some ⟨W.heap.size, 0, none⟩) m1.body) := Lib.hid (bytes_mark2 W [120, 10] (by decide) (2, 3))
  have KM := Lib.hid (kW.trans kM (fun _ _ h => h))
  have HWS := Lib.hid hWs
  rw [hWs] at kc
  have HW := Lib.hid hW
  rw [hW] at kc
  clear hT hZW kM kW hWs hW HZ
  go_enter Tryd.func10, Tryd.ntmps10
  go_wp2_with (rw [← HW.out]; refine wpList_store_row (by rfl) 25 (.tmp 0) (.tmp 4) (by rfl) w.heap.size (mlC m1 (some ⟨w.heap.size + 1, 0, none⟩) 1 1 (some ⟨W.heap.size, 0, none⟩) 2 2) (by rfl) (by rw [HWS.out]; rfl) 25 _ HZM.out infoM rfl (one_ml _ _ _ _ _ _ _ _ _ _) ?_)
  (try simp only [Exit.inBlock, Exit.then])
  refine bodyPost_ret (ret_ml1 (fn := Tryd.f10) (p := 0) rfl _ _ w.heap.size rfl ⟨HZM.out.setRow _, rfl⟩) rfl ?_
  refine ⟨_, _, _, _, _, _, rfl, ?_, KM.out.setRow (fun h => by omega) _⟩
  have kf : Keep (fun k => k = w.heap.size) (W.alloc (.cells #[.int .u8 120, .int .u8 10] 5 (2, 3))) ((W.alloc (.cells #[.int .u8 120, .int .u8 10] 5 (2, 3))).setRow w.heap.size (mlC m1 (some ⟨w.heap.size + 1, 0, none⟩) 1 1 (some ⟨W.heap.size, 0, none⟩) 2 2)) := (Keep.refl (fun k => k = w.heap.size) _).setRow (fun _ => rfl) _
  have h2 := HWS.out
  exact ⟨(HT.out.keep kf (fun b _ hb e => by omega)).mono (fun b _ hb => by omega), (HBM.out.keep kf (fun b _ hb e => by omega)).mono (fun b _ hb => by omega), rfl, rfl, Nat.le_refl _, Nat.le_refl _⟩
end Go.Proofs.YtpdopjpibmhamaaDoor.Ln
