/-
  Several texts in one: J4 J5.
-/
import Derived.Test.YtimoebicacnihaaGreatDoorKg15
import Derived.Test.YtimoebicacnihaaGreatDoorKg13

section
/-
  The laws' own good and file: what may be, and its bytes; what Parse says of such bytes.
-/
namespace Go.Proofs.YtimoebicacnihaaGreatDoor.Ln
open Go.RowKit
set_option linter.unusedVariables false
set_option linter.unusedSimpArgs false

/-! ### An append of marks without a small bound -/
set_option maxRecDepth 100000 in
theorem run_append_midW {e t tx : TypeId} {i0 : TypeInfo} {z : Value} (ty : TypeId) (ht : Tryz.prog.underlying t = some (.slice e)) (hi : Tryz.prog.info? e = some i0) (hz0 : i0.zero = some z) (hzs : z.cells.size = i0.size) (hsz : 0 < i0.size) 
    (w : World) (v : Value) (q : Option Nat) (n : Nat) (xs : List Value) (hM : MidG e i0.size w v q n xs) (x : Value) (m : Nat) (news : List Value) (hsrc : Src Tryz.prog i0.size tx x m news w) (hl : (n + m) * i0.bytes ≤ 140737488355328) (hl2 : n + m ≤ 1000000000000000) :
    ∃ y k cap q' w', (Builtin.append_ #[t, tx] ty #[v, x]).run Tryz.prog w = .ok (.slice y k cap) w' ∧ MidG e i0.size w' (.slice y k cap) q' (n + m) (xs ++ news) ∧ Keep (fun k => q = some k) w w' ∧ New w q q' := by
  have hall : ∀ u ∈ xs ++ news, u.oneCell' = true := fun u hu => by
    rcases List.mem_append.1 hu with h | h
    · exact hM.2.1 u h
    · exact hsrc.one u h
  have hlen : (xs ++ news).length = (n + m) * i0.size := by rw [List.length_append, hM.1, hsrc.newsLen, Nat.add_mul]
  by_cases hm0 : m = 0
  · subst hm0
    have hn0 : news = [] := List.eq_nil_of_length_eq_zero (by rw [hsrc.newsLen]; simp)
    subst hn0
    obtain ⟨y, cap, rfl, hc⟩ := hM.shape
    exact ⟨y, n, cap, q, w, run_append_nothing w t tx ty e i0 ht hi y n cap hc _ hsrc, by simpa using hM, Keep.refl _ _, New.refl _ _⟩
  · obtain ⟨hb, h1, y, cap, rfl, hcap, h0⟩ := hM
    by_cases hroom : n + m ≤ cap
    · rcases h0 with ⟨h0, _⟩ | ⟨g, off, cur, hx, hq, hA, hs, hcur⟩
      · omega
      · subst hx
        have hmul : n * i0.size + m * i0.size ≤ cap * i0.size := by rw [← Nat.add_mul]; exact Nat.mul_le_mul_right _ hroom
        have hcell : ∀ j, j < news.length → (w.cell? ⟨g, off + n * i0.size + j, none⟩).isSome = true := fun j hj => by
          rw [hsrc.newsLen] at hj
          rw [hA.cell, Array.getElem?_eq_getElem (by omega)]
          rfl
        have hr := run_append_room_src w t tx ty e i0 ht hi g off n cap x m news hsrc hroom hcell (fun j _ => hA.frozen _)
        obtain ⟨cs', hA', hsz'⟩ := hA.setCells news (off + n * i0.size)
        refine ⟨_, _, _, q, _, hr, ⟨hlen, hall, _, _, rfl, hroom, .inr ⟨g, off, cs', rfl, hq, hA', by omega, fun i hi => ?_⟩⟩, Keep.setCells (fun _ => hq) _ _ (Keep.refl _ _), New.refl _ _⟩
        rw [← hA'.cell]
        by_cases hlt : i < xs.length
        · rw [World.cell?_setCells_out _ _ _ _ _ (fun _ _ => .inl (by simp; omega)), hA.cell, hcur i hlt, List.getElem?_append_left hlt]
        · obtain ⟨j, rfl⟩ : ∃ j, i = xs.length + j := ⟨i - xs.length, by omega⟩
          have hj : j < news.length := by rw [List.length_append] at hi; omega
          rw [hb, ← Nat.add_assoc, World.cell?_setCells_in _ _ _ _ hcell j hj, ← hb, List.getElem?_append_right (by omega), Nat.add_sub_cancel_left, List.getElem?_eq_getElem hj]
    · have hold : (Builtin.firstCells i0.size n (.slice y n cap)).run Tryz.prog w.drew = .ok xs.toArray w.drew := by
        rcases h0 with ⟨h0, _⟩ | ⟨g, off, cur, hx, hq, hA, hs, hcur⟩
        · have hn : n = 0 := by omega
          subst hn
          have hx0 : xs = [] := List.eq_nil_of_length_eq_zero (by rw [hb]; simp)
          subst hx0
          rcases y with _ | ad
          · exact run_firstCells_none w.drew _ 0 0 cap
          · exact run_firstCells_some w.drew _ 0 ad 0 cap [] (by simp) (by simp)
        · subst hx
          refine run_firstCells_some w.drew _ n _ n cap xs hb (fun j u hu => ?_)
          have hj : j < xs.length := (List.getElem?_eq_some_iff.1 hu).1
          rw [Addr.add_mid]
          show w.cell? _ = _
          rw [hA.cell, hcur j hj, hu]
      have hr := run_append_grow_src w t tx ty e i0 z ht hi hz0 y n cap xs hold x m news hsrc (by omega) (by omega) (growslice_fits (by omega) hl)
      refine ⟨_, _, _, some w.heap.size, _, hr, ⟨hlen, hall, _, _, rfl, grownCap_ge _ _ _ _, .inr ⟨w.heap.size, 0, _, rfl, rfl, At.new w.drew e _, ?_, fun i hi => ?_⟩⟩, (Keep.refl _ w).drew.alloc _, fun k hk => .inr (by cases hk; exact Nat.le_refl _)⟩
      · have hge := grownCap_ge w (n + m) cap e
        simp only [Array.size_append, List.size_toArray, hlen, size_zeroCells, hzs]
        have : (grownCap w (n + m) cap e - (n + m)) * i0.size + (n + m) * i0.size = grownCap w (n + m) cap e * i0.size := by rw [← Nat.add_mul]; congr 1; omega
        omega
      · rw [Nat.zero_add, Array.getElem?_append_left (by simpa using hi)]
        simp
set_option maxRecDepth 100000 in
theorem app_mkW {P : Nat → Prop} {w : World} {v : Value} {q : Option Nat} {L : List Mk} (h : MkO w v q L) {x : Option Addr} {n c : Nat} {M : List Mk} (hn : n = M.length) (hM : MkP P w x M) (ty : TypeId) (hl : (L.length + n) * 24 ≤ 140737488355328) :
    ∃ y k cap q' w', (Builtin.append_ #[26, 26] ty #[v, .slice x n c]).run Tryz.prog w = .ok (.slice y k cap) w' ∧ k = (L ++ M).length ∧ MkO w' (.slice y k cap) q' (L ++ M) ∧ Keep (fun k => q = some k) w w' ∧ New w q q' := by
  obtain ⟨i0, hi, hz0, hz1, hz2⟩ := info_parts infoK
  have hsrc : Src Tryz.prog i0.size 26 (.slice x n c) n (cellsG mkL M) w := by rw [hz1]; exact StP.src mkL_len mkL_one Tryz.underlying26 hM hn
  have hM' : MidG 57 i0.size w v q L.length (cellsG mkL L) := by rw [hz1]; exact h
  obtain ⟨y, k, cap, q', w', hr, h2, h3, h4⟩ := run_append_midW (t := 26) ty Tryz.underlying26 hi hz0 (by rw [hz1]; rfl) (by rw [hz1]; decide) w v q L.length (cellsG mkL L) hM' _ n (cellsG mkL M) hsrc (by rw [hz2]; exact hl) (by omega)
  rw [hz1, hn, ← cellsG_append, ← List.length_append] at h2
  obtain ⟨_, _, hv, _⟩ := h2.shape
  injection hv with e1 e2 e3
  exact ⟨y, k, cap, q', w', hr, e2, h2, h3, h4⟩

/-! ### Plain -/
def goodQ (m : Ml) (L : List Mk) : Bool := L.all goodK && (decide (L.length ≤ 60) && (goodM m && decide (m.body.length ≤ 2000)))
theorem goodQ_parts {m : Ml} {L : List Mk} (h : goodQ m L = true) : (∀ k ∈ L, goodK k = true) ∧ L.length ≤ 60 ∧ goodM m = true ∧ m.body.length ≤ 2000 := by
  simp only [goodQ, Bool.and_eq_true, decide_eq_true_eq, List.all_eq_true] at h
  exact ⟨h.1, h.2.1, h.2.2.1, h.2.2.2⟩
def fileB (m : Ml) (L : List Mk) : List Nat := record m ++ flatK L
theorem fileB_lt {m : Ml} {L : List Mk} (hb : ∀ c ∈ m.body, c < 256) : ∀ c ∈ fileB m L, c < 256 := fun c hc => by
  rcases List.mem_append.1 hc with h | h
  · exact record_lt hb c h
  · exact flatK_lt L c h
theorem fileB_length (m : Ml) (L : List Mk) : (fileB m L).length = (content m).length + 12 + 28 * L.length := by rw [fileB, List.length_append, record_length, flatK_length]
theorem fileB_small {m : Ml} {L : List Mk} (h : goodQ m L = true) : (fileB m L).length ≤ 12000 := by
  obtain ⟨_, h2, h3, _⟩ := goodQ_parts h
  rw [fileB_length]
  have := content_small (goodM_fine h3)
  omega
/-- What bytes say that begin with a good mail's record. -/
theorem begins_any {m : Ml} (hg : goodM m = true) (hb : ∀ c ∈ m.body, c < 256) (r : List Nat) : beginsB (record m ++ r) = true ∧ readMl (innerM (record m ++ r)) = m ∧ (innerM (record m ++ r)).length + 12 = (record m).length ∧ (record m ++ r).drop ((innerM (record m ++ r)).length + 12) = r := by
  obtain ⟨h1, h2, h3⟩ := begins_record hg hb r
  have h4 : (content m).length + 12 = (record m).length := (record_length m).symm
  refine ⟨h1, by rw [h2, h3], by rw [h2, h4], ?_⟩
  rw [h2, h4]
  exact List.drop_left' rfl

/-! ### good -/
theorem wrapS (k : Nat) (h : k < 9223372036854775807) : IntKind.i64.wrap ((k : Int) + 1) = (k : Int) + 1 := wrap_small _ (by omega) (by omega)
set_option maxHeartbeats 8000000 in
set_option maxRecDepth 100000 in
theorem good12C {P Q : Nat → Prop} {w : World} {m : Ml} {rx bx y : Option Addr} {rn rc bn bc l c : Nat} {L : List Mk} (h : MlAt P w m rx rn rc bx bn bc) (hf : m.frm.size ≤ 9223372036854775807) (hr : ∀ s ∈ m.rcpts, s.size ≤ 9223372036854775807) (hn : l = L.length) (hM : MkP Q w y L) :
    Calls Tryz.prog 8 #[.agg (mlC m rx rn rc bx bn bc), .slice y l c] w (Quiet (.bool (goodQ m L)) w) := by
  have k0 := keep_new w (.cells (mlC m rx rn rc bx bn bc) 25)
  have HA : Hid (At (w.alloc (.cells (mlC m rx rn rc bx bn bc) 25)) w.heap.size 25 (mlC m rx rn rc bx bn bc)) := Lib.hid (At.new w _ _)
  have H := Lib.hid (h.quiet k0)
  have HM := Lib.hid (mk_quiet hM k0)
  have K0 := Lib.hid k0
  have HL := Lib.hid hn
  have HRG := Lib.hid (fun W (k : Keep (fun _ => False) (w.alloc (.cells (mlC m rx rn rc bx bn bc) 25)) W) => refGoodC (rc := rc) (bc := bc) ((h.quiet k0).quiet k).it hf hr)
  obtain ⟨gm, hgm⟩ : ∃ gm, gm = goodM m := ⟨_, rfl⟩
  rw [← hgm] at HRG
  have HV : Hid (goodQ m L = (L.all goodK && (decide (L.length ≤ 60) && (gm && decide (bn ≤ 2000))))) := Lib.hid (by rw [hgm, h.hbn]; rfl)
  obtain ⟨W0, hW0⟩ : ∃ W0, W0 = w.alloc (.cells (mlC m rx rn rc bx bn bc) 25) := ⟨_, rfl⟩
  rw [← hW0] at HA H HM K0 HRG
  have HW0 := Lib.hid hW0
  clear h hM k0 hn hgm hW0 hf hr
  obtain ⟨i, p, b, f, RL, B⟩ := m
  unfold mlC at *
  simp only at *
  go_enter Tryz.func8, Tryz.ntmps8
  go_wp2
  rw [← HW0.out]
  go_loopw [5] (fun i wr => ∃ (k : Nat), k ≤ l ∧ i = .int .i64 (k : Int) ∧ Hid ((L.take k).all goodK = true) ∧ (0 < k → l ≤ 60) ∧ Hid (Keep (fun _ => False) W0 wr)) (fun i _ => l - (intOf i).toNat)
  case atStart => exact ⟨0, by omega, rfl, Lib.hid rfl, by omega, Lib.hid (Keep.refl _ _)⟩
  case round =>
    obtain ⟨k, hk, rfl, HK, h60, K⟩ := hrel
    by_cases hlt : (k : Int) < (l : Int)
    · have hkl : k < L.length := by have := HL.out; omega
      have k0 : (0 : Int) ≤ (k : Int) := by omega
      obtain ⟨b2, off, _, _, hx, c0, c1, c2⟩ := mk_at (mk_quiet HM.out K.out) k hkl
      subst hx
      obtain ⟨mk, hmk⟩ : ∃ mk, mk = L[k] := ⟨_, rfl⟩
      rw [← hmk] at c0 c1 c2
      have HMay := Lib.hid (mayMarkC mk wr)
      have HS : Hid ((L.take (k + 1)).all goodK = goodK mk) := Lib.hid (by rw [takeSnoc L k hkl, List.all_append, HK.out, ← hmk]; simp)
      have HNo : Hid (goodK mk = false → goodQ ⟨i, p, b, f, RL, B⟩ L = false) := Lib.hid (fun hg => by
        rw [HV.out]
        have : L.all goodK = false := by
          cases ha : L.all goodK with
          | false => rfl
          | true =>
            have := List.all_eq_true.1 ha L[k] (List.getElem_mem hkl)
            rw [← hmk, hg] at this
            cases this
        rw [this, Bool.false_and])
      obtain ⟨g, hg⟩ : ∃ g, g = goodK mk := ⟨_, rfl⟩
      rw [← hg] at HMay HS HNo
      clear hmk hg
      unfold mkC at HMay
      cases g with
      | false =>
        go_wp2_with fail
        refine HMay.out.mono ?_
        rintro e w1 ⟨rfl, hk1⟩
        have K1 := Lib.hid (K.out.trans hk1 (fun _ _ h => h))
        clear hk1 c0 c1 c2
        go_wp2
        go_ret
        exact ⟨by rw [HNo.out trivial]; rfl, K0.out.trans K1.out (fun _ _ h => h)⟩
      | true =>
        by_cases hl6 : (60 : Int) < (l : Int)
        · go_wp2_with fail
          refine HMay.out.mono ?_
          rintro e w1 ⟨rfl, hk1⟩
          have K1 := Lib.hid (K.out.trans hk1 (fun _ _ h => h))
          clear hk1 c0 c1 c2
          go_wp2
          go_ret
          refine ⟨?_, K0.out.trans K1.out (fun _ _ h => h)⟩
          rw [HV.out, decide_eq_false (by have := HL.out; omega), Bool.false_and, Bool.and_false]
          rfl
        · have d60 : decide ((60 : Int) < (l : Int)) = false := decide_eq_false hl6
          go_wp2_with fail
          refine HMay.out.mono ?_
          rintro e w1 ⟨rfl, hk1⟩
          have K1 := Lib.hid (K.out.trans hk1 (fun _ _ h => h))
          clear hk1 c0 c1 c2
          go_wp2
          go_roundw
          case rel => exact ⟨k + 1, by omega, by go_num, HS, fun _ => by omega, K1⟩
          case measure => simp [intOf]; omega
    · have hkl : k = l := by omega
      have ht : L.take k = L := List.take_of_length_le (by have := HL.out; omega)
      rw [ht] at HK
      have h6 : Hid (L.length ≤ 60) := Lib.hid (by
        have := HL.out
        by_cases h0 : 0 < k
        · have := h60 h0; omega
        · omega)
      have HV2 : Hid (goodQ ⟨i, p, b, f, RL, B⟩ L = (gm && decide (bn ≤ 2000))) := Lib.hid (by rw [HV.out, HK.out, decide_eq_true h6.out, Bool.true_and, Bool.true_and])
      obtain ⟨z0, z1, z2, z3, z4, z5⟩ := cells_of (m := ⟨i, p, b, f, RL, B⟩) (HA.out.keep K.out (fun h => h))
      simp only at z0 z1 z2 z3 z4 z5
      clear ht HV
      go_wp2_with fail
      refine (HRG.out wr K.out).mono ?_
      rintro e w1 ⟨rfl, hk1⟩
      have K1 := Lib.hid (K.out.trans hk1 (fun _ _ h => h))
      have y5 : w1.cell? ⟨w.heap.size, 5, none⟩ = some (.slice bx bn bc) := hk1.cell z5 (fun h => h)
      clear hk1 z0 z1 z2 z3 z4 z5
      cases gm with
      | false =>
        go_wp2
        go_ret
        exact ⟨by rw [HV2.out]; rfl, K0.out.trans K1.out (fun _ _ h => h)⟩
      | true =>
        by_cases hb : (bn : Int) ≤ 2000
        · have db : decide (bn ≤ 2000) = true := decide_eq_true (by omega)
          go_wp2
          go_ret
          exact ⟨by rw [HV2.out, db]; rfl, K0.out.trans K1.out (fun _ _ h => h)⟩
        · have db : decide (bn ≤ 2000) = false := decide_eq_false (by omega)
          have dc : decide ((bn : Int) ≤ 2000) = false := decide_eq_false hb
          go_wp2
          go_ret
          exact ⟨by rw [HV2.out, db]; rfl, K0.out.trans K1.out (fun _ _ h => h)⟩

/-! ### file -/
/-- What file answers. -/
def Filed (m : Ml) (L : List Mk) (w : World) (e : Ending) (w' : World) : Prop := ∃ y n cap, n = (fileB m L).length ∧ e = .returned (.slice y n cap) ∧ Gr w w' (.slice y n cap) (fileB m L)
set_option maxHeartbeats 8000000 in
set_option maxRecDepth 100000 in
theorem file12C {P Q : Nat → Prop} {w : World} {m : Ml} {rx bx y : Option Addr} {rn rc bn bc l c : Nat} {L : List Mk} (h : MlAt P w m rx rn rc bx bn bc) (hn : l = L.length) (hM : MkP Q w y L) (hg : goodQ m L = true) :
    Calls Tryz.prog 10 #[.agg (mlC m rx rn rc bx bn bc), .slice y l c] w (Filed m L w) := by
  have k0 := keep_new w (.cells (mlC m rx rn rc bx bn bc) 25)
  obtain ⟨hgk, h60, hgm, _⟩ := goodQ_parts hg
  have HRR := Lib.hid (refRecordC (h.quiet k0) (goodM_fine hgm))
  have HRS := Lib.hid (record_small (goodM_fine hgm))
  have HM := Lib.hid hM
  have K0 := Lib.hid k0
  have HL := Lib.hid hn
  have HGK := Lib.hid hgk
  have hl6 : l ≤ 60 := by omega
  have HD : Hid (∀ e w', (∃ y n cap, n = (fileB m L).length ∧ e = .returned (.slice y n cap) ∧ Gr w w' (.slice y n cap) (fileB m L)) → Filed m L w e w') := Lib.hid (fun _ _ h => h)
  have HRd : Hid (∀ W e w', Recorded m W e w' → ∃ y n cap, n = (record m).length ∧ e = .returned (.slice y n cap) ∧ Gr W w' (.slice y n cap) (record m)) := Lib.hid (fun _ _ _ h => h)
  have HFB : Hid (fileB m L = record m ++ flatK L) := Lib.hid rfl
  obtain ⟨R, hR⟩ : ∃ R, R = record m := ⟨_, rfl⟩
  rw [← hR] at HRS HRd HFB
  clear h hM k0 hn hg hgk hgm hR h60
  unfold mlC at *
  go_enter Tryz.func10, Tryz.ntmps10
  go_wp2_with fail
  refine HRR.out.mono ?_
  rintro e w1 h1
  obtain ⟨yr, nr, cr, hnr, rfl, hG⟩ := HRd.out _ _ _ h1
  have G1 : Hid (Gr w w1 (.slice yr nr cr) (R ++ flatK (L.take 0))) := Lib.hid (by
    rw [List.take_zero]
    show Gr w w1 _ (R ++ [])
    rw [List.append_nil]
    exact ⟨hG.own, fun b hb => Nat.le_trans K0.out.size (hG.new b hb), K0.out.trans hG.kp (fun _ _ h => h)⟩)
  clear h1 hnr hG HRR HRd
  go_wp2
  go_loopw [5, 6] (fun v i wr => ∃ (k : Nat) (y : Option Addr) (n c : Nat), k ≤ l ∧ v = .slice y n c ∧ i = .int .i64 (k : Int) ∧ Hid (Gr w wr (.slice y n c) (R ++ flatK (L.take k)))) (fun _ i _ => l - (intOf i).toNat)
  case atStart => exact ⟨0, yr, nr, cr, by omega, rfl, rfl, G1.out⟩
  case round =>
    obtain ⟨k, z, n, c', hk, rfl, rfl, G⟩ := hrel
    by_cases hlt : (k : Int) < (l : Int)
    · have hkl : k < L.length := by have := HL.out; omega
      have k0 : (0 : Int) ≤ (k : Int) := by omega
      obtain ⟨b2, off, _, _, hx, c0, c1, c2⟩ := mk_at (mk_quiet HM.out G.out.kp) k hkl
      subst hx
      have HGm : Hid (goodK L[k] = true) := Lib.hid (HGK.out _ (List.getElem_mem hkl))
      obtain ⟨mk, hmk⟩ : ∃ mk, mk = L[k] := ⟨_, rfl⟩
      rw [← hmk] at c0 c1 c2 HGm
      have HFl : Hid (R ++ flatK (L.take (k + 1)) = (R ++ flatK (L.take k)) ++ markB mk) := Lib.hid (by rw [takeSnoc L k hkl, flatK_append, ← hmk, flatK_cons]; simp [flatK])
      have HMark : Hid (Calls Tryz.prog 25 #[.agg (mkC mk)] wr (Marked mk wr)) := Lib.hid (refMarkC HGm.out)
      have HMb : Hid (∀ W e w', Marked mk W e w' → ∃ y n cap, n = 28 ∧ e = .returned (.slice y n cap) ∧ Gr W w' (.slice y n cap) (markB mk)) := Lib.hid (fun _ _ _ h => h)
      obtain ⟨MQ, hMQ⟩ : ∃ MQ, MQ = Marked mk := ⟨_, rfl⟩
      rw [← hMQ] at HMark HMb
      obtain ⟨MB, hMB⟩ : ∃ MB, MB = markB mk := ⟨_, rfl⟩
      have HMBl : Hid (MB.length = 28) := Lib.hid (by rw [hMB, markB_length])
      rw [← hMB] at HFl HMb
      have HRL : Hid ((R ++ flatK (L.take k)).length ≤ 20000) := Lib.hid (by rw [List.length_append, flatK_length, List.length_take]; have := HRS.out; omega)
      clear hmk hMQ hMB
      unfold mkC at HMark
      go_wp2_with fail
      refine HMark.out.mono ?_
      rintro e w2 h2
      obtain ⟨y2, n2, c2', rfl, rfl, hG2⟩ := HMb.out _ _ _ h2
      have HB2 := Lib.hid hG2.own.bytesO
      have G2 := Lib.hid (G.out.quiet hG2.kp)
      clear h2 hG2 c0 c1 c2 G
      go_wp2_with
        (at_builtin
         refine wpList_app (by rfl) (.tmp 15) (.tmp 20) (by rfl) (.slice z n c') (R ++ flatK (L.take k)) (by rfl) G2.out _ y2 28 c2' MB (by rfl) HMBl.out HB2.out.1 (by have := HRL.out; omega) ?_
         intro y3 n3 c3 w3 hn3 hG3
         rw [← HFl.out] at hG3
         have G3 := Lib.hid hG3
         clear hn3 hG3)
      go_roundw
      case rel => exact ⟨k + 1, y3, n3, c3, by omega, rfl, by go_num, G3⟩
      case measure => simp [intOf]; omega
    · have hkl : k = l := by omega
      have ht : L.take k = L := List.take_of_length_le (by have := HL.out; omega)
      rw [ht, ← HFB.out] at G
      clear ht
      go_wp2
      go_ret
      exact HD.out _ _ ⟨z, n, c', G.out.own.bytesO.2.1, rfl, G.out⟩
end Go.Proofs.YtimoebicacnihaaGreatDoor.Ln
end

section
/-
  What Parse says of a good mail's record and of what is none; a File in a variable; the laws' own answers.
-/
namespace Go.Proofs.YtimoebicacnihaaGreatDoor.Ln
open Go.RowKit
set_option linter.unusedVariables false
set_option linter.unusedSimpArgs false

/-! ### What Parse says -/
def PQ (m : Ml) (L : List Mk) (g : Int) (b : Bool) (w : World) (e : Ending) (w' : World) : Prop :=
  ∃ rx rn rc bx bn bc y k c, e = .returned (.tuple #[.agg (qC m rx rn rc bx bn bc y k c g), .bool b]) ∧ QAt (fun b => w.heap.size ≤ b) w' m L rx rn rc bx bn bc y k c ∧ Keep (fun _ => False) w w'
theorem parsed_rec {m : Ml} (hg : goodM m = true) (hb : ∀ c ∈ m.body, c < 256) {r : List Nat} {w w' : World} {e : Ending} (h : Parsed (record m ++ r) w e w') : PQ m (marksM r) (((record m).length + 28 * (marksM r).length : Nat) : Int) true w e w' := by
  obtain ⟨m', L, rx, rn, rc, bx, bn, bc, y, k, c, g, he, hQ, hk, hif⟩ := h
  obtain ⟨h1, h2, h3, h4⟩ := begins_any hg hb r
  rw [h1, if_pos rfl, h2, h4, h3] at hif
  obtain ⟨rfl, rfl, rfl⟩ := hif
  rw [h1] at he
  exact ⟨rx, rn, rc, bx, bn, bc, y, k, c, he, hQ, hk⟩
theorem parsed_none {bs : List Nat} (hb : beginsB bs = false) {w w' : World} {e : Ending} (h : Parsed bs w e w') : PQ noMl [] 0 false w e w' := by
  obtain ⟨m', L, rx, rn, rc, bx, bn, bc, y, k, c, g, he, hQ, hk, hif⟩ := h
  rw [hb] at hif he
  obtain ⟨rfl, rfl, rfl⟩ := hif
  exact ⟨rx, rn, rc, bx, bn, bc, y, k, c, he, hQ, hk⟩
theorem parsed_any {bs : List Nat} (hb : beginsB bs = true) {w w' : World} {e : Ending} (h : Parsed bs w e w') : PQ (readMl (innerM bs)) (marksM (bs.drop ((innerM bs).length + 12))) (((innerM bs).length + 12 + 28 * (marksM (bs.drop ((innerM bs).length + 12))).length : Nat) : Int) true w e w' := by
  obtain ⟨m', L, rx, rn, rc, bx, bn, bc, y, k, c, g, he, hQ, hk, hif⟩ := h
  rw [hb, if_pos rfl] at hif
  rw [hb] at he
  obtain ⟨rfl, rfl, rfl⟩ := hif
  exact ⟨rx, rn, rc, bx, bn, bc, y, k, c, he, hQ, hk⟩
theorem parsed_file {m : Ml} {L : List Mk} (hq : goodQ m L = true) (hb : ∀ c ∈ m.body, c < 256) {r : List Nat} (hr : r.length ≤ 27) {w w' : World} {e : Ending} (h : Parsed (fileB m L ++ r) w e w') : PQ m L ((fileB m L).length : Int) true w e w' := by
  obtain ⟨h1, h2, h3, _⟩ := goodQ_parts hq
  rw [fileB, List.append_assoc] at h
  have := parsed_rec h3 hb h
  rw [marksM_more L r h1 (by omega) (by omega)] at this
  rw [fileB, List.length_append, flatK_length]
  exact this

/-! ### A File in a variable -/
def QCells (w : World) (A : Nat) (m : Ml) (rx : Option Addr) (rn rc : Nat) (bx : Option Addr) (bn bc : Nat) (y : Option Addr) (k c : Nat) (g : Int) : Prop :=
  w.cell? ⟨A, 0, none⟩ = some (.int .i64 m.id) ∧ w.cell? ⟨A, 1, none⟩ = some (.int .i64 m.parent) ∧ w.cell? ⟨A, 2, none⟩ = some (.int .i64 m.born) ∧ w.cell? ⟨A, 3, none⟩ = some (.string m.frm) ∧ w.cell? ⟨A, 4, none⟩ = some (.slice rx rn rc) ∧ w.cell? ⟨A, 5, none⟩ = some (.slice bx bn bc) ∧ w.cell? ⟨A, 6, none⟩ = some (.slice y k c) ∧ w.cell? ⟨A, 7, none⟩ = some (.int .i64 g)
theorem qcells_of {w : World} {A : Nat} {m : Ml} {rx bx y : Option Addr} {rn rc bn bc k c : Nat} {g : Int} (h : At w A 31 (qC m rx rn rc bx bn bc y k c g)) : QCells w A m rx rn rc bx bn bc y k c g := ⟨h.cell 0, h.cell 1, h.cell 2, h.cell 3, h.cell 4, h.cell 5, h.cell 6, h.cell 7⟩
theorem qz_new (w : World) : At (w.alloc (.cells #[.int .i64 0, .int .i64 0, .int .i64 0, .string { data := #[] }, .slice none 0 0, .slice none 0 0, .slice none 0 0, .int .i64 0] 31)) w.heap.size 31 zQ := At.new w _ _
theorem put_file (w : World) (m : Ml) (rx : Option Addr) (rn rc : Nat) (bx : Option Addr) (bn bc : Nat) (y : Option Addr) (k c : Nat) (g : Int) :
    ∃ W, W = (w.alloc (.cells #[.int .i64 0, .int .i64 0, .int .i64 0, .string { data := #[] }, .slice none 0 0, .slice none 0 0, .slice none 0 0, .int .i64 0] 31)).setRow w.heap.size (qC m rx rn rc bx bn bc y k c g) ∧ Keep (fun _ => False) w W ∧ At W w.heap.size 31 (qC m rx rn rc bx bn bc y k c g) ∧ w.heap.size < W.heap.size := by
  refine ⟨_, rfl, (keep_new w _).setRow (fun h => absurd h (Nat.lt_irrefl _)) _, (qz_new w).setRow _, ?_⟩
  have h := (Keep.setRow (g := w.heap.size) (Keep.refl (fun _ => True) (w.alloc (.cells #[.int .i64 0, .int .i64 0, .int .i64 0, .string { data := #[] }, .slice none 0 0, .slice none 0 0, .slice none 0 0, .int .i64 0] 31))) (fun _ => trivial) (qC m rx rn rc bx bn bc y k c g)).size
  have h2 : (w.alloc (.cells #[.int .i64 0, .int .i64 0, .int .i64 0, .string { data := #[] }, .slice none 0 0, .slice none 0 0, .slice none 0 0, .int .i64 0] 31)).heap.size = w.heap.size + 1 := by simp
  omega

/-! ### answers -/
def m2 : Ml := ⟨1, 0, 0, { data := #[] }, [{ data := #[97, 64, 98] }], []⟩
theorem m2_good : goodM m2 = true := by kernel_rfl
def k2 : Mk := ⟨1, 0, 0⟩
theorem k2_good : goodK k2 = true := by kernel_rfl
theorem q2_good : goodQ m2 [k2] = true := by
  rw [goodQ, m2_good]
  simp [k2_good, m2]
theorem m2_body : ∀ c ∈ m2.body, c < 256 := fun c hc => by cases hc
theorem f2_open : openI (fatesM 1 [k2]) = [0] := by kernel_rfl
theorem f2_over : overF (fatesM 1 [k2]) = false := by kernel_rfl
theorem file2_cut : beginsB ((fileB m2 [k2]).take 9) = false := by
  have hl : 9 < (record m2).length := by rw [record_length]; omega
  rw [fileB, List.take_append_of_le_length (by omega)]
  exact begins_cut m2_good m2_body hl
set_option maxHeartbeats 16000000 in
set_option maxRecDepth 100000 in
theorem answers12C (w : World) (hE : Env w) : Calls Tryz.prog 9 #[] w (Quiet (.bool true) w) := by
  obtain ⟨X, hX⟩ : ∃ X, X = w.alloc (.cells #[.string { data := #[97, 64, 98] }] 9) := ⟨_, rfl⟩
  have kX : Keep (fun _ => False) w X := by rw [hX]; exact keep_new w _
  have hAX : At X w.heap.size 9 #[.string { data := #[97, 64, 98] }] := by rw [hX]; exact At.new w _ _
  have hM : MlAt (fun b => b = w.heap.size) X m2 (some ⟨w.heap.size, 0, none⟩) 1 1 none 0 0 := ⟨fun i t ht => by
    rcases i with _ | i
    · have : t = { data := #[97, 64, 98] } := by simpa [m2] using ht.symm
      subst this
      exact ⟨w.heap.size, 0, rfl, hAX.lt, rfl, hAX.cell 0⟩
    · simp [m2] at ht, Bytes.nil _ _ _, rfl, rfl, Nat.le_refl _, Nat.le_refl _⟩
  have HRR : Hid (Calls Tryz.prog 24 #[.agg #[.int .i64 1, .int .i64 0, .int .i64 0, .string { data := #[] }, .slice (some ⟨w.heap.size, 0, none⟩) 1 1, .slice none 0 0]] X (Recorded m2 X)) := Lib.hid (refRecordC hM (goodM_fine m2_good))
  have HRd : Hid (∀ W e w', Recorded m2 W e w' → ∃ y n cap, n = (record m2).length ∧ e = .returned (.slice y n cap) ∧ Gr W w' (.slice y n cap) (record m2)) := Lib.hid (fun _ _ _ h => h)
  have HRS := Lib.hid (record_small (goodM_fine m2_good))
  have HMark : Hid (∀ W, Calls Tryz.prog 25 #[.agg #[.int .i64 1, .int .i64 0, .int .i64 0]] W (Marked k2 W)) := Lib.hid (fun W => refMarkC k2_good)
  have HMb : Hid (∀ W e w', Marked k2 W e w' → ∃ y n cap, n = 28 ∧ e = .returned (.slice y n cap) ∧ Gr W w' (.slice y n cap) (markB k2)) := Lib.hid (fun _ _ _ h => h)
  have HFB : Hid (fileB m2 [k2] = record m2 ++ markB k2) := Lib.hid (by rw [fileB, flatK_cons]; simp [flatK])
  have HMBl : Hid ((markB k2).length = 28) := Lib.hid (markB_length k2)
  have HFS := Lib.hid (fileB_small q2_good)
  have HP1 : Hid (∀ W e w', Parsed (fileB m2 [k2]) W e w' → PQ m2 [k2] ((fileB m2 [k2]).length : Int) true W e w') := Lib.hid (fun W e w' h => parsed_file (r := []) q2_good m2_body (by decide) (by rw [List.append_nil]; exact h))
  have HP2 : Hid (∀ W e w', Parsed ((fileB m2 [k2]).take 9) W e w' → PQ noMl [] 0 false W e w') := Lib.hid (fun W e w' h => parsed_none file2_cut h)
  have HFL : Hid (9 ≤ (fileB m2 [k2]).length) := Lib.hid (by rw [fileB_length]; omega)
  have KX := Lib.hid kX
  have HE := Lib.hid hE
  have HX := Lib.hid hX
  clear hM hAX kX hE hX
  obtain ⟨FB, hFB⟩ : ∃ FB, FB = fileB m2 [k2] := ⟨_, rfl⟩
  rw [← hFB] at HFB HFS HP1 HP2 HFL
  obtain ⟨RB, hRB⟩ : ∃ RB, RB = record m2 := ⟨_, rfl⟩
  rw [← hRB] at HRd HRS HFB
  obtain ⟨MB, hMB⟩ : ∃ MB, MB = markB k2 := ⟨_, rfl⟩
  rw [← hMB] at HMb HFB HMBl
  obtain ⟨RQ, hRQ⟩ : ∃ RQ, RQ = Recorded m2 := ⟨_, rfl⟩
  rw [← hRQ] at HRR HRd
  obtain ⟨MQ, hMQ⟩ : ∃ MQ, MQ = Marked k2 := ⟨_, rfl⟩
  rw [← hMQ] at HMark HMb
  clear hFB hRB hMB hRQ hMQ
  go_enter Tryz.func9, Tryz.ntmps9
  go_wp2_with fail
  rw [← HX.out]
  refine HRR.out.mono ?_
  rintro e w1 h1
  obtain ⟨yr, nr, cr, hnr, rfl, hG⟩ := HRd.out _ _ _ h1
  have G1 : Hid (Gr w w1 (.slice yr nr cr) RB) := Lib.hid ⟨hG.own, fun b hb => Nat.le_trans KX.out.size (hG.new b hb), KX.out.trans hG.kp (fun _ _ h => h)⟩
  clear h1 hnr hG HRR HRd
  go_wp2_with fail
  refine (HMark.out w1).mono ?_
  rintro e w2 h2
  obtain ⟨y2, n2, c2, rfl, rfl, hG2⟩ := HMb.out _ _ _ h2
  have HB2 := Lib.hid hG2.own.bytesO
  have G2 := Lib.hid (G1.out.quiet hG2.kp)
  clear h2 hG2 G1 HMark HMb
  go_wp2_with
    (at_builtin
     refine wpList_app (by rfl) (.tmp 8) (.tmp 10) (by rfl) (.slice yr nr cr) RB (by rfl) G2.out _ y2 28 c2 MB (by rfl) HMBl.out HB2.out.1 (by have := HRS.out; omega) ?_
     intro y3 n3 c3 w3 hn3 hG3
     rw [← HFB.out] at hG3
     have HB3 := Lib.hid hG3.own.bytesO
     have K3 := Lib.hid hG3.kp
     clear hn3 hG3 G2 HB2)
  have hn3 : n3 ≤ 12000 := by have := HB3.out.2.1; have := HFS.out; omega
  have hn9 : 9 ≤ n3 := by have := HB3.out.2.1; have := HFL.out; omega
  refine (parseQ (HE.out.quiet K3.out) y3 n3 c3 FB HB3.out.2.1.symm HB3.out.2.2 (by omega) HB3.out.1).mono ?_
  rintro e w4 h4
  obtain ⟨rx, rn, rc, bx, bn, bc, y, k, c, rfl, hQ4, hk4⟩ := HP1.out _ _ _ h4
  obtain ⟨W5, hW5, kW5, hA5, hs5⟩ := put_file w4 m2 rx rn rc bx bn bc y k c (FB.length : Int)
  have K5 := Lib.hid ((K3.out.trans hk4 (fun _ _ h => h)).trans kW5 (fun _ _ h => h))
  have HB5 := Lib.hid ((HB3.out.1.quiet hk4).quiet kW5)
  have HQ5 := Lib.hid (hQ4.quiet kW5)
  have HZ4 := Lib.hid (qz_new w4)
  have HW5 := Lib.hid hW5
  obtain ⟨G, hG⟩ : ∃ G, G = w4.heap.size := ⟨_, rfl⟩
  rw [← hG] at hA5 HZ4
  have HA5 := Lib.hid hA5
  have HGG := Lib.hid hG
  clear h4 hQ4 hk4 hW5 kW5 hs5 hG hA5
  obtain ⟨r1, r2⟩ := cut_pre y3 n3 c3 9 (by have := HB3.out.2.2; omega)
  have hc9 : (9 : Int) ≤ (c3 : Int) := by have := HB3.out.2.2; omega
  go_wp2_with (rw [← HGG.out]; refine wpList_store_row (by rfl) 31 (.tmp 2) (.tmp 15) (by rfl) G (qC m2 rx rn rc bx bn bc y k c (FB.length : Int)) (by rfl) (by rfl) 31 _ HZ4.out infoQ rfl (one_q _ _ _ _ _ _ _ _ _ _ _ _ _ _) ?_; rw [HGG.out, ← HW5.out, ← HGG.out])
  refine (parseQ (HE.out.quiet K5.out) y3 9 c3 (FB.take 9) (by rw [List.length_take]; have := HFL.out; omega) (by have := HB3.out.2.2; omega) (by omega) (HB5.out.take 9)).mono ?_
  rintro e w6 h6
  obtain ⟨rx6, rn6, rc6, bx6, bn6, bc6, y6, k6, c6, rfl, hQ6, hk6⟩ := HP2.out _ _ _ h6
  obtain ⟨W7, hW7, kW7, hA7, hs7⟩ := put_file w6 noMl rx6 rn6 rc6 bx6 bn6 bc6 y6 k6 c6 0
  have k67 := hk6.trans kW7 (fun _ _ h => h)
  have K7 := Lib.hid (K5.out.trans k67 (fun _ _ h => h))
  have HQ7 := Lib.hid (HQ5.out.quiet k67)
  have HZ6 := Lib.hid (qz_new w6)
  have HW7 := Lib.hid hW7
  have HA7 := Lib.hid (HA5.out.keep k67 (fun h => h))
  have HRN : Hid (rn = 1) := Lib.hid HQ5.out.ml.hrn
  have HKK : Hid (k = 1) := Lib.hid HQ5.out.hk
  have hnl : (FB.length : Int) = (n3 : Int) := by have := HB3.out.2.1; omega
  have HQC : Hid (∀ Z, Keep (fun _ => False) W7 Z → QCells Z G m2 rx rn rc bx bn bc y k c (n3 : Int)) := Lib.hid (fun Z kk => by rw [← hnl]; exact qcells_of (HA7.out.keep kk (fun h => h)))
  obtain ⟨z0, z1, z2, z3, z4, z5, z6, z7⟩ := HQC.out W7 (Keep.refl _ _)
  simp only [m2, HKK.out] at z0 z1 z2 z3 z6
  clear h6 hQ6 hk6 hW7 kW7 hA7 hs7 k67 r1 r2
  go_wp2_with (refine wpList_store_row (by rfl) 31 (.tmp 4) (.tmp 21) (by rfl) w6.heap.size (qC noMl rx6 rn6 rc6 bx6 bn6 bc6 y6 k6 c6 0) (by rfl) (by rfl) 31 _ HZ6.out infoQ rfl (one_q _ _ _ _ _ _ _ _ _ _ _ _ _ _) ?_; rw [← HW7.out])
  obtain rfl : k = 1 := HKK.out
  obtain rfl : rn = 1 := HRN.out
  clear z0 z1 z2 z3 z4 z5 z6 z7
  refine (openQ (m := m2) (L := [k2]) (n3 : Int) HQ7.out (by omega) (by omega)).mono ?_
  rintro e w8 ⟨z, n8, c8, hn8, hc8, rfl, hI8, hk8⟩
  rw [f2_open] at hn8 hI8
  obtain rfl : n8 = 1 := hn8
  have k8 := hk8.trans (keep_new w8 (.cells #[.int .i64 0] 3)) (fun _ _ h => h)
  have HK8 := Lib.hid k8
  have HI8 := Lib.hid (int_quiet hI8 (keep_new w8 (.cells #[.int .i64 0] 3)))
  have HI0 := Lib.hid (int_one w8 0)
  clear hI8 hk8 k8
  go_wp2_with fail
  refine (intsC z (some ⟨w8.heap.size, 0, none⟩) 1 c8 1 [0] rfl (by omega) HI8.out HI0.out).mono ?_
  rintro e w9 ⟨rfl, hk9⟩
  have HK9 := Lib.hid (HK8.out.trans hk9 (fun _ _ h => h))
  obtain ⟨z0, z1, z2, z3, z4, z5, z6, z7⟩ := HQC.out w9 HK9.out
  clear hk9
  go_wp2_with fail
  refine (overQ (m := m2) (L := [k2]) (n3 : Int) (HQ7.out.quiet HK9.out) (by omega) (by omega)).mono ?_
  rintro e w10 ⟨rfl, hk10⟩
  rw [f2_over]
  have HK10 := Lib.hid (HK9.out.trans hk10 (fun _ _ h => h))
  clear hk10 z0 z1 z2 z3 z4 z5 z6 z7
  go_wp2
  go_ret
  exact ⟨rfl, K7.out.trans HK10.out (fun _ _ h => h)⟩
end Go.Proofs.YtimoebicacnihaaGreatDoor.Ln
end
