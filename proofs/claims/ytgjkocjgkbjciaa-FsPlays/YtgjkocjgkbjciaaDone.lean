/-
  What the document's 'done' returns.
-/
import Derived.Test.YtgjkocjgkbjciaaEnt
namespace Go.Proofs.Ytgjkocjgkbjciaa.Fs
open Go.RowKit Go.Maps
set_option linter.unusedVariables false
set_option linter.unusedSimpArgs false

set_option maxHeartbeats 4000000 in
set_option maxRecDepth 100000 in
theorem doneW (d : List Ent) (hd : d.length ≤ 2000000) (K j : Int) (F T : ByteArray) (S : Nat → Prop) (v : Value) (w : World) (hv : ERow w S v d) : Calls Try.prog 51 #[v, .agg #[.int .i64 K, .string F, .string T, .int .i64 j]] w fun e w' => ∃ u, e = .returned u ∧ ERow w' (Up (fun _ => False) w w') u (doneL K j (nm F) (nm T) d) ∧ Keep (fun _ => False) w w' := by
  obtain ⟨x, cx, rfl, _, hx⟩ := hv.shape
  obtain ⟨N, hN⟩ : ∃ N, N = d.length := ⟨_, rfl⟩
  rw [← hN]
  have HN := Lib.hid hN
  have HX := Lib.hid hx
  have hNl : N ≤ 2000000 := by omega
  clear hv hx hN hd
  go_enter Try.func51, Try.ntmps51
  go_wp2
  go_loopw [5, 6, 7] (fun o f z wr => ∃ i : Nat, i ≤ N ∧ z = .int .i64 (i : Int) ∧ f = .int .i64 (lastF (nm F) (d.take i)) ∧ Hid (ERow wr (Up (fun _ => False) w wr) o ((d.take i).filter (flt K (nm F) (nm T)))) ∧ Hid (Keep (fun _ => False) w wr) ∧ Hid (At wr w.heap.size 71 #[.int .i64 K, .string F, .string T, .int .i64 j])) (fun _ _ z _ => N - (intOf z).toNat)
  case atStart =>
    refine ⟨0, by omega, rfl, rfl, ?_, ?_, ?_⟩
    · have := empty_own (w.alloc (.cells #[.int .i64 K, .string F, .string T, .int .i64 j] 71)) 73 2 (Up (fun _ => False) w ((w.alloc (.cells #[.int .i64 K, .string F, .string T, .int .i64 j] 71)).alloc (.cells #[] 73))) (.inr ⟨by simp, by simp⟩)
      have e : (w.alloc (.cells #[.int .i64 K, .string F, .string T, .int .i64 j] 71)).heap.size = w.heap.size + 1 := by simp
      rw [e] at this
      exact this
    · exact ((Keep.refl _ w).alloc _).alloc _
    · exact (At.new w _ _).alloc _
  case round =>
    obtain ⟨i, hi, rfl, rfl, HR, HK, HA⟩ := hrel
    by_cases h8 : (i : Int) < (N : Int)
    · have hil : i < d.length := by have := HN.out; omega
      obtain ⟨p, hp⟩ := getElem?_some_lt hil
      obtain ⟨g, rfl, _, _, c1, c2⟩ := HX.out i p hp
      have d1 := HK.out.cell c1 (fun h => h)
      have d2 := HK.out.cell c2 (fun h => h)
      have a0 := HA.out.cell 0
      have a1 := HA.out.cell 1
      have a2 := HA.out.cell 2
      simp at a0 a1 a2
      obtain ⟨A, hA⟩ : ∃ A, A = sm p.1 := ⟨_, rfl⟩
      rw [← hA] at d1
      have hnA : nm A = p.1 := by rw [hA, nm_sm]
      have HnA := Lib.hid hnA
      have HP := Lib.hid hp
      obtain ⟨z, hz⟩ : ∃ z, z = p.2 := ⟨_, rfl⟩
      rw [← hz] at d2
      have HZ := Lib.hid hz
      have HAs := Lib.hid hA
      clear hil hp HX c1 c2 hA hnA hz
      by_cases hF : (A.toList == F.toList) = true
      · have HF := Lib.hid hF
        go_wp2
        go_region
        go_wp2
        go_roundw
        case rel =>
          have hpf : (p.1 == nm F) = true := by rw [← HnA.out, ← eq_nm]; exact HF.out
          refine ⟨i + 1, by omega, by go_num, ?_, ?_, HK.out.drew, HA.out⟩
          · rw [take_snoc HP.out, lastF_snoc, if_pos hpf, HZ.out]
          · show ERow _ _ _ _
            rw [flt_take HP.out, show flt K (nm F) (nm T) p = false by simp [flt, hpf], if_neg (by simp), List.append_nil]
            exact HR.out
        case measure => simp [intOf]; omega
      · have hF' : (A.toList == F.toList) = false := by simpa using hF
        have HF : Hid ((p.1 == nm F) = false) := by show _ = _; rw [← HnA.out, ← eq_nm]; exact hF'
        clear hF
        by_cases hT : K = 2 ∧ (A.toList == T.toList) = true
        · obtain ⟨rfl, hT⟩ := hT
          have HT : Hid ((p.1 == nm T) = true) := by show _ = _; rw [← HnA.out, ← eq_nm]; exact hT
          go_wp2
          go_region
          go_wp2
          go_region
          go_wp2
          go_roundw
          case rel =>
            refine ⟨i + 1, by omega, by go_num, ?_, ?_, HK.out.drew.drew, HA.out⟩
            · rw [take_snoc HP.out, lastF_snoc, if_neg (by rw [HF.out]; simp)]
            · show ERow _ _ _ _
              rw [flt_take HP.out, show flt 2 (nm F) (nm T) p = false by simp [flt, HT.out], if_neg (by simp), List.append_nil]
              exact HR.out
          case measure => simp [intOf]; omega
        · have HT : Hid ((decide (K = 2) && (p.1 == nm T)) = false) := by
            show _ = _
            rw [← HnA.out, ← eq_nm]
            cases h : (A.toList == T.toList)
            · simp
            · simp
              exact fun e => hT ⟨e, h⟩
          by_cases h2 : K = 2
          · have hT2 : (A.toList == T.toList) = false := by
              cases h : (A.toList == T.toList)
              · rfl
              · exact absurd ⟨h2, h⟩ hT
            have q2 : (K == 2) = true := by simp [h2]
            clear hT h2
            go_wp2
            go_region
            go_wp2
            go_region
            have HR2 : Hid (ERow (wr.drew.drew.alloc (.cells #[.string A, .int .i64 z] 73)) (Up (fun _ => False) w (wr.drew.drew.alloc (.cells #[.string A, .int .i64 z] 73))) u5 ((d.take i).filter (flt K (nm F) (nm T)))) := HR.out.on ((Keep.refl (fun _ => False) wr).drew.drew.alloc _) (fun _ _ _ h => h)
            have hfl := flt_len (K := K) (f := nm F) (t := nm T) (d := d) i
            rw [← HN.out] at hfl
            have HFL := Lib.hid hfl
            clear hfl
            go_wp2_with (refine wpList_append_row (by rfl) (.tmp 43) (.tmp 48) 27 73 (by rfl) _ 2 24 Try.underlying27 info73 rfl (by omega) u5 _ _ rfl HR2.out ⟨wr.heap.size, 0, none⟩ 1 1 [.string A, .int .i64 z] rfl rfl (new_cells [.string A, .int .i64 z]) (by simp; constructor <;> rfl) (by have := HFL.out; omega) (by have := HFL.out; omega) ?_
                         intro y5 n5 cap5 w5 HN5 hR5 k5 hN5
                         have HR5 := Lib.hid hR5
                         have HK5 := Lib.hid k5
                         clear hR5 k5 hN5)
            go_roundw
            case rel =>
              have hne : ∀ b cs, At wr.drew.drew b 71 cs → u5.ownBlock ≠ some b := fun b cs hb e => by
                obtain ⟨cs', h'⟩ := owns_at HR.out.1 e
                exact At.ne hb h' (by decide) rfl
              have kk : Keep (fun _ => False) w w5 := (HK.out.drew.drew.alloc _).trans HK5.out (fun b hb e => by
                rcases HR.out.2 b e with h | ⟨h, _⟩
                · exact h
                · omega)
              refine ⟨i + 1, by omega, by go_num, ?_, ?_, kk, (HA.out.drew.drew.alloc _).keep HK5.out (fun e => hne _ _ HA.out e)⟩
              · rw [take_snoc HP.out, lastF_snoc, if_neg (by rw [HF.out]; simp)]
              · show Row _ _ 73 2 _ _ _
                have hf : flt K (nm F) (nm T) p = true := by simp [flt, HF.out, HT.out]
                have hq := HR5.out.mono (S' := Up (fun _ => False) w w5) (fun b _ h => by
                  rcases h with h | ⟨h1, h2⟩
                  · exact Up.more HK5.out.size h
                  · exact .inr ⟨by have := HK.out.size; have e : wr.drew.drew.heap.size = wr.heap.size := rfl; simp at h1; omega, h2⟩)
                rw [flt_take HP.out, if_pos hf, entCells_append, List.length_append]
                rw [show entCells [p] = [.string A, .int .i64 z] by rw [HAs.out, HZ.out]; rfl]
                exact hq
            case measure => simp [intOf]; omega
          · have q2 : (K == 2) = false := by simp [h2]
            clear hT h2
            go_wp2
            go_region
            go_wp2
            go_region
            have HR2 : Hid (ERow (wr.drew.drew.alloc (.cells #[.string A, .int .i64 z] 73)) (Up (fun _ => False) w (wr.drew.drew.alloc (.cells #[.string A, .int .i64 z] 73))) u5 ((d.take i).filter (flt K (nm F) (nm T)))) := HR.out.on ((Keep.refl (fun _ => False) wr).drew.drew.alloc _) (fun _ _ _ h => h)
            have hfl := flt_len (K := K) (f := nm F) (t := nm T) (d := d) i
            rw [← HN.out] at hfl
            have HFL := Lib.hid hfl
            clear hfl
            go_wp2_with (refine wpList_append_row (by rfl) (.tmp 43) (.tmp 48) 27 73 (by rfl) _ 2 24 Try.underlying27 info73 rfl (by omega) u5 _ _ rfl HR2.out ⟨wr.heap.size, 0, none⟩ 1 1 [.string A, .int .i64 z] rfl rfl (new_cells [.string A, .int .i64 z]) (by simp; constructor <;> rfl) (by have := HFL.out; omega) (by have := HFL.out; omega) ?_
                         intro y5 n5 cap5 w5 HN5 hR5 k5 hN5
                         have HR5 := Lib.hid hR5
                         have HK5 := Lib.hid k5
                         clear hR5 k5 hN5)
            go_roundw
            case rel =>
              have hne : ∀ b cs, At wr.drew.drew b 71 cs → u5.ownBlock ≠ some b := fun b cs hb e => by
                obtain ⟨cs', h'⟩ := owns_at HR.out.1 e
                exact At.ne hb h' (by decide) rfl
              have kk : Keep (fun _ => False) w w5 := (HK.out.drew.drew.alloc _).trans HK5.out (fun b hb e => by
                rcases HR.out.2 b e with h | ⟨h, _⟩
                · exact h
                · omega)
              refine ⟨i + 1, by omega, by go_num, ?_, ?_, kk, (HA.out.drew.drew.alloc _).keep HK5.out (fun e => hne _ _ HA.out e)⟩
              · rw [take_snoc HP.out, lastF_snoc, if_neg (by rw [HF.out]; simp)]
              · show Row _ _ 73 2 _ _ _
                have hf : flt K (nm F) (nm T) p = true := by simp [flt, HF.out, HT.out]
                have hq := HR5.out.mono (S' := Up (fun _ => False) w w5) (fun b _ h => by
                  rcases h with h | ⟨h1, h2⟩
                  · exact Up.more HK5.out.size h
                  · exact .inr ⟨by have := HK.out.size; have e : wr.drew.drew.heap.size = wr.heap.size := rfl; simp at h1; omega, h2⟩)
                rw [flt_take HP.out, if_pos hf, entCells_append, List.length_append]
                rw [show entCells [p] = [.string A, .int .i64 z] by rw [HAs.out, HZ.out]; rfl]
                exact hq
            case measure => simp [intOf]; omega
    · have hiN : i = N := by omega
      subst hiN
      have htk : d.take i = d := by rw [HN.out, List.take_length]
      rw [htk]
      obtain ⟨l, hl⟩ : ∃ l, l = d.filter (flt K (nm F) (nm T)) := ⟨_, rfl⟩
      have HRl : Hid (ERow wr (Up (fun _ => False) w wr) u5 l) := by rw [hl, ← htk]; exact HR.out
      obtain ⟨x5, c5, hu5, hc5, hs5⟩ := HRl.out.shape
      obtain ⟨L, hL⟩ : ∃ L, L = l.length := ⟨_, rfl⟩
      rw [← hL] at hu5 hc5
      have hLN : L ≤ i := by rw [hL, hl, HN.out]; exact List.length_filter_le _ _
      have HXl : Hid (Reads wr x5 (entCells l)) := by
        have := HRl.out
        rw [hu5] at this
        unfold ERow at this
        rw [← hL] at this
        exact Reads.of_row this
      subst hu5
      have HLd := Lib.hid hl
      have HL := Lib.hid hL
      have HS5 := Lib.hid hs5
      have a0 := HA.out.cell 0
      have a1 := HA.out.cell 1
      have a2 := HA.out.cell 2
      have a3 := HA.out.cell 3
      simp at a0 a1 a2 a3
      clear htk hl hL hs5 HR HX
      by_cases h3 : K = 3
      · have q1 : (K == 1) = false := by simp; omega
        have q3 : (K == 3) = true := by simp; omega
        have H3 := Lib.hid h3
        clear h3
        go_wp2
        go_ret
        refine ⟨_, rfl, ?_, HK.out⟩
        show ERow _ _ _ _
        unfold doneL
        rw [if_pos H3.out, ← HLd.out]
        exact HRl.out
      · by_cases h1 : K = 1
        · have q1 : (K == 1) = true := by simp; omega
          have q3 : (K == 3) = false := by simp; omega
          have HD : Hid (doneL K j (nm F) (nm T) d = insE (nm F, j) (d.filter (flt K (nm F) (nm T)))) := by show _ = _; unfold doneL; rw [if_neg h3, if_pos h1]
          clear h1 h3
          go_wp2
          go_region
          go_wp2
          have hkl := plc_le (nm F) l
          rw [← HL.out] at hkl
          obtain ⟨wq, hwq⟩ : ∃ wq, wq = wr.drew := ⟨_, rfl⟩
          rw [← hwq]
          have hkq : Keep (fun _ => False) wr wq := by rw [hwq]; exact (Keep.refl _ wr).drew
          have HKq : Hid (Keep (fun _ => False) w wq) := HK.out.trans hkq (fun _ _ h => h)
          have HXq : Hid (Reads wq x5 (entCells l)) := HXl.out.quiet hkq
          have HSq : Hid (∀ k p, l[k]? = some p → ∃ g, x5 = some ⟨g, 0, none⟩ ∧ wq.cell? ⟨g, k * 2, none⟩ = some (.string (sm p.1))) := fun k p hp => by
            obtain ⟨g, hg, _, _, c1, _⟩ := HS5.out k p hp
            exact ⟨g, hg, hkq.cell c1 (fun h => h)⟩
          clear hkq hwq a0 a1 a2 a3
          go_loopw [9] (fun z wx => ∃ k : Nat, k ≤ plc (nm F) l ∧ z = .int .i64 (k : Int) ∧ wx = wq) (fun z _ => plc (nm F) l + 1 - (intOf z).toNat)
          case atStart => exact ⟨0, by omega, rfl, rfl⟩
          case round =>
            obtain ⟨k, hk, rfl, hww⟩ := hrel
            obtain rfl := hww.symm
            by_cases hb : k < plc (nm F) l
            · have hkL : k < l.length := by have := HL.out; omega
              obtain ⟨p, hp⟩ := getElem?_some_lt hkL
              obtain ⟨g, hg, c1⟩ := HSq.out k p hp
              subst hg
              have hq : Op.bytesLess (sm p.1).toList (F).toList = true := by rw [less_nm, nm_sm]; exact (plc_step (by omega) hp).2 (by omega)
              obtain ⟨A, hA⟩ : ∃ A, A = sm p.1 := ⟨_, rfl⟩
              rw [← hA] at c1 hq
              have hkI : (k : Int) < (L : Int) := by have := HL.out; omega
              clear hp hkL hA
              go_wp2
              go_roundw
              case rel => exact ⟨k + 1, by omega, by go_num, by first | rfl | trivial⟩
              case measure => simp [intOf]; omega
            · have hk' : k = plc (nm F) l := by omega
              clear hb hk
              have HKp := Lib.hid hk'
              have hkL2 : k ≤ L := by omega
              obtain ⟨s1, s2⟩ := cut_preT 27 73 Try.underlying27 info73 x5 L c5 k (by omega)
              obtain ⟨yd, s3, s4, hyd⟩ := cut_dropT 27 73 Try.underlying27 info73 x5 L c5 k (by omega) (by omega)
              have HYD : Hid (Reads wq yd (entCells (l.drop k))) := by
                show Reads _ _ _
                rw [entCells_drop]
                exact hyd wq _ (by rw [entCells_length, HL.out]) HXq.out
              have HX5 : Hid (Reads wq x5 (entCells (l.take k))) := by
                show Reads _ _ _
                rw [entCells_take]
                exact HXq.out.take _
              have tl : ¬ ((k : Int) < (L : Int)) ∨ ((k : Int) < (L : Int) ∧ ∃ g A, x5 = some ⟨g, 0, none⟩ ∧ wq.cell? ⟨g, k * 2, none⟩ = some (.string A) ∧ Op.bytesLess A.toList (F).toList = false) := by
                by_cases hkL : k < l.length
                · obtain ⟨p, hp⟩ := getElem?_some_lt hkL
                  obtain ⟨g, hg, c1⟩ := HSq.out k p hp
                  refine .inr ⟨by have := HL.out; omega, g, sm p.1, hg, c1, ?_⟩
                  rw [less_nm, nm_sm]
                  cases hc : bytesBefore p.1 (nm F)
                  · rfl
                  · have := (plc_step (a := nm F) (by omega) hp).1 hc
                    omega
                · left
                  have := HL.out
                  omega
              clear hyd hk' hkl
              rcases tl with hkI | ⟨hkI, g, A, hx5, hcA, hq⟩
              · go_wp2
                refine wp_region_noPanic ?_
                refine wp_region_held_drew (S := fun _ => True) (by kernel_rfl) trivial (fun hHeld => ?_)
                refine wpAnyH_take (i := 1) (v := ?_) rfl (by kernel_rfl) (by kernel_rfl) (by kernel_rfl) (fun _ _ _ h => h) (Or.inl ⟨by rfl, ?_⟩) (by assumption) ?_
                rotate_left
                · (intro wS hSw; (try dsimp only at hSw); (try simp only [List.getElem_toArray, List.getElem_cons_succ, List.getElem_cons_zero]); go_simp; try (with_reducible rfl))
                try simp only [Act.put, List.getElem_toArray, List.getElem_cons_succ, List.getElem_cons_zero, List.setIfInBounds_toArray, List.set_cons_zero, List.set_cons_succ]
                refine wpAnyH_take (i := 2) (v := ?_) rfl (by kernel_rfl) (by kernel_rfl) (by kernel_rfl) (fun _ _ _ h => h) (Or.inl ⟨by rfl, ?_⟩) (by assumption) ?_
                rotate_left
                · (intro wS hSw; (try dsimp only at hSw); (try simp only [List.getElem_toArray, List.getElem_cons_succ, List.getElem_cons_zero]); go_simp; try (with_reducible rfl))
                try simp only [Act.put, List.getElem_toArray, List.getElem_cons_succ, List.getElem_cons_zero, List.setIfInBounds_toArray, List.set_cons_zero, List.set_cons_succ]
                refine wpAnyH_take (i := 3) (v := ?_) rfl (by kernel_rfl) (by kernel_rfl) (by kernel_rfl) (fun _ _ _ h => h) (Or.inl ⟨by rfl, ?_⟩) (by assumption) ?_
                rotate_left
                · (intro wS hSw; (try dsimp only at hSw); (try simp only [List.getElem_toArray, List.getElem_cons_succ, List.getElem_cons_zero]); go_simp; try (with_reducible rfl))
                try simp only [Act.put, List.getElem_toArray, List.getElem_cons_succ, List.getElem_cons_zero, List.setIfInBounds_toArray, List.set_cons_zero, List.set_cons_succ]
                refine wpAnyH_take (i := 5) (v := ?_) rfl (by kernel_rfl) (by kernel_rfl) (by kernel_rfl) (fun _ _ _ h => h) (Or.inl ⟨by rfl, ?_⟩) (by assumption) ?_
                rotate_left
                · (intro wS hSw; (try dsimp only at hSw); (try simp only [List.getElem_toArray, List.getElem_cons_succ, List.getElem_cons_zero]); go_simp; try (with_reducible rfl))
                try simp only [Act.put, List.getElem_toArray, List.getElem_cons_succ, List.getElem_cons_zero, List.setIfInBounds_toArray, List.set_cons_zero, List.set_cons_succ]
                refine wpAnyH_take (i := 6) (v := ?_) rfl (by kernel_rfl) (by kernel_rfl) (by kernel_rfl) (fun _ _ _ h => h) (Or.inl ⟨by rfl, ?_⟩) (by assumption) ?_
                rotate_left
                · (intro wS hSw; (try dsimp only at hSw); (try simp only [List.getElem_toArray, List.getElem_cons_succ, List.getElem_cons_zero]); go_simp; try (with_reducible rfl))
                try simp only [Act.put, List.getElem_toArray, List.getElem_cons_succ, List.getElem_cons_zero, List.setIfInBounds_toArray, List.set_cons_zero, List.set_cons_succ]
                refine wpAnyH_take (i := 7) (v := ?_) rfl (by kernel_rfl) (by kernel_rfl) (by kernel_rfl) (fun _ _ _ h => h) (Or.inl ⟨by rfl, ?_⟩) (by assumption) ?_
                rotate_left
                · (intro wS hSw; (try dsimp only at hSw); (try simp only [List.getElem_toArray, List.getElem_cons_succ, List.getElem_cons_zero]); go_simp; try (with_reducible rfl))
                try simp only [Act.put, List.getElem_toArray, List.getElem_cons_succ, List.getElem_cons_zero, List.setIfInBounds_toArray, List.set_cons_zero, List.set_cons_succ]
                refine wpAnyH_take (i := 10) (v := ?_) rfl (by kernel_rfl) (by kernel_rfl) (by kernel_rfl) (fun _ _ _ h => h) (Or.inl ⟨by rfl, ?_⟩) (by assumption) ?_
                rotate_left
                · (intro wS hSw; (try dsimp only at hSw); (try simp only [List.getElem_toArray, List.getElem_cons_succ, List.getElem_cons_zero]); go_simp; try (with_reducible rfl))
                try simp only [Act.put, List.getElem_toArray, List.getElem_cons_succ, List.getElem_cons_zero, List.setIfInBounds_toArray, List.set_cons_zero, List.set_cons_succ]
                refine wpAnyH_take (i := 11) (v := ?_) rfl (by kernel_rfl) (by kernel_rfl) (by kernel_rfl) (fun _ _ _ h => h) (Or.inl ⟨by rfl, ?_⟩) (by assumption) ?_
                rotate_left
                · (intro wS hSw; (try dsimp only at hSw); (try simp only [List.getElem_toArray, List.getElem_cons_succ, List.getElem_cons_zero]); go_simp; try (with_reducible rfl))
                try simp only [Act.put, List.getElem_toArray, List.getElem_cons_succ, List.getElem_cons_zero, List.setIfInBounds_toArray, List.set_cons_zero, List.set_cons_succ]
                refine wpAnyH_take (i := 12) (v := ?_) rfl (by kernel_rfl) (by kernel_rfl) (by kernel_rfl) (fun _ _ _ h => h) (Or.inl ⟨by rfl, ?_⟩) (by assumption) ?_
                rotate_left
                · (intro wS hSw; (try dsimp only at hSw); (try simp only [List.getElem_toArray, List.getElem_cons_succ, List.getElem_cons_zero]); go_simp; try (with_reducible rfl))
                try simp only [Act.put, List.getElem_toArray, List.getElem_cons_succ, List.getElem_cons_zero, List.setIfInBounds_toArray, List.set_cons_zero, List.set_cons_succ]
                have hkw : Keep (fun _ => False) wq wq.drew := (Keep.refl _ wq).drew
                refine wpAnyH_ready (rs := [0, 8]) (by kernel_rfl) (by simp) ?_
                refine AllReadyH.cons rfl (fun K hK => ?_) (AllReadyH.cons rfl (fun K hK => ?_) AllReadyH.nil)
                · go_simp
                  refine hK.out _ _ trivial (fun hHeld => ?_)
                  clear hK K
                  try simp only [Act.put, List.getElem_toArray, List.getElem_cons_succ, List.getElem_cons_zero, List.setIfInBounds_toArray, List.set_cons_zero, List.set_cons_succ]
                  refine wpAnyH_ready (rs := [4, 8]) (by kernel_rfl) (by simp) ?_
                  refine AllReadyH.cons rfl (fun K hK => ?_) (AllReadyH.cons rfl (fun K hK => ?_) AllReadyH.nil)
                  · have HE : Hid (Row (wq.drew.alloc (.cells #[] 73)) (Up (fun _ => False) wq (wq.drew.alloc (.cells #[] 73))) 73 2 (.slice (some ⟨wq.heap.size, 0, none⟩) 0 0) 0 []) := empty_own wq.drew 73 2 _ (.inr ⟨Nat.le_refl _, by simp⟩)
                    have KQ : Keep (fun _ => False) wq (wq.drew.alloc (.cells #[] 73)) := hkw.alloc _
                    have hlt0 : wq.heap.size ≤ wq.heap.size := by omega
                    obtain ⟨y1, c1, W1, hr1, hR1, k1, hN1⟩ := run_append_src 27 73 27 _ 2 24 Try.underlying27 info73 rfl (by omega) (.slice (some ⟨wq.heap.size, 0, none⟩) 0 0) 0 [] HE.out x5 k c5 (entCells (l.take k)) (by rw [entCells_length, List.length_take]; have := HL.out; omega) (HX5.out.quiet KQ) (entCells_one _) (by omega) (by omega)
                    rw [Nat.zero_add] at hr1 hR1 hN1
                    rw [List.nil_append] at hR1
                    have HR1 := Lib.hid hR1
                    have HK1 : Hid (Keep (fun _ => False) wq W1) := KQ.trans k1 (fun b hb e => by simp [Value.ownBlock] at e; have := hlt0; omega)
                    have HRu : Hid (ERow W1 (Up (fun _ => False) wq W1) (.slice y1 k c1) (l.take k)) := by
                      have hlk : (l.take k).length = k := by rw [List.length_take]; have := HL.out; omega
                      show Row _ _ 73 2 _ _ _
                      rw [hlk]
                      refine hR1.mono (fun b _ h => ?_)
                      have := KQ.size
                      have := k1.size
                      rcases h with ((h | ⟨h, h'⟩) | ⟨h, h'⟩)
                      · exact h.elim
                      · exact .inr ⟨by omega, by omega⟩
                      · exact .inr ⟨by omega, by omega⟩
                    refine wp_append_runT (by rfl) (by rfl) (by rfl) hr1 ?_
                    refine hK.out _ _ trivial (fun hHeld => ?_)
                    clear hK K
                    try simp only [Act.put, List.getElem_toArray, List.getElem_cons_succ, List.getElem_cons_zero, List.setIfInBounds_toArray, List.set_cons_zero, List.set_cons_succ]
                    refine wpAnyH_ready (rs := [8]) (by kernel_rfl) (by simp) ?_
                    refine AllReadyH.cons rfl (fun K hK => ?_) AllReadyH.nil
                    go_simp
                    refine hK.out _ _ trivial (fun hHeld => ?_)
                    clear hK K
                    try simp only [Act.put, List.getElem_toArray, List.getElem_cons_succ, List.getElem_cons_zero, List.setIfInBounds_toArray, List.set_cons_zero, List.set_cons_succ]
                    have hlk : (l.take k).length = k := by rw [List.length_take]; have := HL.out; omega
                    have HKW : Hid (Keep (fun _ => False) wq (W1.alloc (.cells #[.string F, .int .i64 j] 73))) := HK1.out.alloc _
                    have HRW : Hid (Row (W1.alloc (.cells #[.string F, .int .i64 j] 73)) (Up (fun _ => False) wq (W1.alloc (.cells #[.string F, .int .i64 j] 73))) 73 2 (.slice y1 k c1) k (entCells (l.take k))) := by
                      have h : ERow (W1.alloc (.cells #[.string F, .int .i64 j] 73)) (Up (fun _ => False) wq (W1.alloc (.cells #[.string F, .int .i64 j] 73))) (.slice y1 k c1) (l.take k) := HRu.out.on ((Keep.refl (fun _ => False) W1).alloc _) (fun _ _ _ h => h)
                      show Row _ _ 73 2 _ _ _
                      unfold ERow at h
                      rw [hlk] at h
                      exact h
                    have HGW : Hid (∀ (jj : Nat) (u : Value), [Value.string F, .int .i64 j][jj]? = some u → (W1.alloc (.cells #[.string F, .int .i64 j] 73)).cell? ⟨W1.heap.size, 0 + jj, none⟩ = some u) := fun jj u hj => by
                      have h := (At.new W1 73 #[.string F, .int .i64 j]).cell (0 + jj)
                      rw [h, Nat.zero_add]
                      simpa using hj
                    clear hr1 hR1 k1 hN1 HRu HE
                    obtain ⟨y2, c2, W3, hr2, hR2, k2, hN2⟩ := run_append_src 27 73 27 _ 2 24 Try.underlying27 info73 rfl (by omega) (.slice y1 k c1) k (entCells (l.take k)) HRW.out (some ⟨W1.heap.size, 0, none⟩) 1 1 [.string F, .int .i64 j] rfl (.inr ⟨W1.heap.size, 0, rfl, HGW.out⟩) (by simp; constructor <;> rfl) (by omega) (by omega)
                    have HK3 : Hid (Keep (fun _ => False) wq W3) := HKW.out.trans k2 (fun b hb e => by
                      rcases HRW.out.2 b e with h | ⟨h, _⟩
                      · exact h
                      · omega)
                    refine wpAnyH_ready (rs := [9]) (by kernel_rfl) (by simp) ?_
                    refine AllReadyH.cons rfl (fun K hK => ?_) AllReadyH.nil
                    refine wp_append_runT (by rfl) (by rfl) (by rfl) hr2 ?_
                    refine hK.out _ _ trivial (fun hHeld => ?_)
                    clear hK K
                    try simp only [Act.put, List.getElem_toArray, List.getElem_cons_succ, List.getElem_cons_zero, List.setIfInBounds_toArray, List.set_cons_zero, List.set_cons_succ]
                    obtain ⟨y3, c3, W4, hr3, hR3, k3, hN3⟩ := run_append_src 27 73 27 _ 2 24 Try.underlying27 info73 rfl (by omega) (.slice y2 (k + 1) c2) (k + 1) _ hR2 yd (L - k) (c5 - k) (entCells (l.drop k)) (by rw [entCells_length, List.length_drop]; have := HL.out; omega) (HYD.out.quiet HK3.out) (entCells_one _) (by omega) (by omega)
                    have HK4 : Hid (Keep (fun _ => False) wq W4) := HK3.out.trans k3 (fun b hb e => by
                      rcases hR2.2 b e with (h | ⟨h, _⟩) | ⟨h, _⟩
                      · exact h
                      · omega
                      · have := HKW.out.size; omega)
                    refine wpAnyH_ready (rs := [13]) (by kernel_rfl) (by simp) ?_
                    refine AllReadyH.cons rfl (fun K hK => ?_) AllReadyH.nil
                    refine wp_append_runT (by rfl) (by rfl) (by rfl) hr3 ?_
                    refine hK.out _ _ trivial (fun hHeld => ?_)
                    clear hK K
                    try simp only [Act.put, List.getElem_toArray, List.getElem_cons_succ, List.getElem_cons_zero, List.setIfInBounds_toArray, List.set_cons_zero, List.set_cons_succ]
                    have HR4 := Lib.hid hR3
                    have HS2 := Lib.hid k2.size
                    have HS3 := Lib.hid k3.size
                    clear hr2 hR2 k2 hN2 hr3 hR3 k3 hN3
                    refine wpAnyH_take (i := 14) (v := ?_) rfl (by kernel_rfl) (by kernel_rfl) (by kernel_rfl) (fun _ _ _ h => h) (Or.inl ⟨by rfl, ?_⟩) (by assumption) ?_
                    rotate_left
                    · (intro wS hSw; (try dsimp only at hSw); (try simp only [List.getElem_toArray, List.getElem_cons_succ, List.getElem_cons_zero]); go_simp; try (with_reducible rfl))
                    try simp only [Act.put, List.getElem_toArray, List.getElem_cons_succ, List.getElem_cons_zero, List.setIfInBounds_toArray, List.set_cons_zero, List.set_cons_succ]
                    refine wpAnyH_done (by kernel_rfl) ?_ _
                    refine NoPanic.normal ?_
                    go_wp2
                    go_ret
                    refine ⟨_, rfl, ?_, HKq.out.trans HK4.out (fun _ _ h => h)⟩
                    have hlen : (l.take k ++ (nm F, j) :: l.drop k).length = k + 1 + (L - k) := by simp; have := HL.out; omega
                    have hce : entCells (l.take k ++ (nm F, j) :: l.drop k) = entCells (l.take k) ++ [.string F, .int .i64 j] ++ entCells (l.drop k) := by
                      rw [entCells_append]
                      simp [entCells, sm_nm]
                    show Row _ _ 73 2 _ _ _
                    rw [HD.out, ← HLd.out]
                    show Row _ _ 73 2 _ (l.take (plc (nm F) l) ++ (nm F, j) :: l.drop (plc (nm F) l)).length (entCells (l.take (plc (nm F) l) ++ (nm F, j) :: l.drop (plc (nm F) l)))
                    rw [← HKp.out, hlen, hce]
                    refine HR4.out.mono (fun b _ h => ?_)
                    have h0 := HKq.out.size
                    have h1 := HKW.out.size
                    have h2 := HS2.out
                    have h3 := HS3.out
                    rcases h with (((h | ⟨h, h'⟩) | ⟨h, h'⟩) | ⟨h, h'⟩)
                    · exact h.elim
                    · exact .inr ⟨by omega, by omega⟩
                    · exact .inr ⟨by omega, by omega⟩
                    · exact .inr ⟨by omega, by omega⟩
                  · go_simp
                    refine hK.out _ _ trivial (fun hHeld => ?_)
                    clear hK K
                    try simp only [Act.put, List.getElem_toArray, List.getElem_cons_succ, List.getElem_cons_zero, List.setIfInBounds_toArray, List.set_cons_zero, List.set_cons_succ]
                    have HE : Hid (Row ((wq.drew.alloc (.cells #[] 73)).alloc (.cells #[.string F, .int .i64 j] 73)) (Up (fun _ => False) wq ((wq.drew.alloc (.cells #[] 73)).alloc (.cells #[.string F, .int .i64 j] 73))) 73 2 (.slice (some ⟨wq.heap.size, 0, none⟩) 0 0) 0 []) := (empty_own wq.drew 73 2 (Up (fun _ => False) wq (wq.drew.alloc (.cells #[] 73))) (.inr ⟨Nat.le_refl _, by simp⟩)).on ((Keep.refl (fun _ => False) _).alloc _) (fun _ _ _ h => h)
                    have KQ : Keep (fun _ => False) wq ((wq.drew.alloc (.cells #[] 73)).alloc (.cells #[.string F, .int .i64 j] 73)) := (hkw.alloc _).alloc _
                    have hlt0 : wq.heap.size ≤ wq.heap.size := by omega
                    obtain ⟨y1, c1, W1, hr1, hR1, k1, hN1⟩ := run_append_src 27 73 27 _ 2 24 Try.underlying27 info73 rfl (by omega) (.slice (some ⟨wq.heap.size, 0, none⟩) 0 0) 0 [] HE.out x5 k c5 (entCells (l.take k)) (by rw [entCells_length, List.length_take]; have := HL.out; omega) (HX5.out.quiet KQ) (entCells_one _) (by omega) (by omega)
                    rw [Nat.zero_add] at hr1 hR1 hN1
                    rw [List.nil_append] at hR1
                    have HR1 := Lib.hid hR1
                    have HK1 : Hid (Keep (fun _ => False) wq W1) := KQ.trans k1 (fun b hb e => by simp [Value.ownBlock] at e; have := hlt0; omega)
                    have HRu : Hid (ERow W1 (Up (fun _ => False) wq W1) (.slice y1 k c1) (l.take k)) := by
                      have hlk : (l.take k).length = k := by rw [List.length_take]; have := HL.out; omega
                      show Row _ _ 73 2 _ _ _
                      rw [hlk]
                      refine hR1.mono (fun b _ h => ?_)
                      have := KQ.size
                      have := k1.size
                      rcases h with ((h | ⟨h, h'⟩) | ⟨h, h'⟩)
                      · exact h.elim
                      · exact .inr ⟨by omega, by omega⟩
                      · exact .inr ⟨by omega, by omega⟩
                    refine wpAnyH_ready (rs := [4]) (by kernel_rfl) (by simp) ?_
                    refine AllReadyH.cons rfl (fun K hK => ?_) AllReadyH.nil
                    refine wp_append_runT (by rfl) (by rfl) (by rfl) hr1 ?_
                    refine hK.out _ _ trivial (fun hHeld => ?_)
                    clear hK K
                    try simp only [Act.put, List.getElem_toArray, List.getElem_cons_succ, List.getElem_cons_zero, List.setIfInBounds_toArray, List.set_cons_zero, List.set_cons_succ]
                    have hlk : (l.take k).length = k := by rw [List.length_take]; have := HL.out; omega
                    have HKW : Hid (Keep (fun _ => False) wq (W1)) := HK1.out
                    have HRW : Hid (Row (W1) (Up (fun _ => False) wq (W1)) 73 2 (.slice y1 k c1) k (entCells (l.take k))) := by
                      have h : ERow (W1) (Up (fun _ => False) wq (W1)) (.slice y1 k c1) (l.take k) := HRu.out
                      show Row _ _ 73 2 _ _ _
                      unfold ERow at h
                      rw [hlk] at h
                      exact h
                    have HGW : Hid (∀ (jj : Nat) (u : Value), [Value.string F, .int .i64 j][jj]? = some u → (W1).cell? ⟨(wq.heap.size + 1), 0 + jj, none⟩ = some u) := fun jj u hj => by
                      have h := ((show At ((wq.drew.alloc (.cells #[] 73)).alloc (.cells #[.string F, .int .i64 j] 73)) (wq.heap.size + 1) 73 #[.string F, .int .i64 j] from by have h := At.new (wq.drew.alloc (.cells #[] 73)) 73 #[.string F, .int .i64 j]; simpa using h).keep k1 (fun e => by simp [Value.ownBlock] at e)).cell (0 + jj)
                      rw [h, Nat.zero_add]
                      simpa using hj
                    clear hr1 hR1 k1 hN1 HRu HE
                    obtain ⟨y2, c2, W3, hr2, hR2, k2, hN2⟩ := run_append_src 27 73 27 _ 2 24 Try.underlying27 info73 rfl (by omega) (.slice y1 k c1) k (entCells (l.take k)) HRW.out (some ⟨(wq.heap.size + 1), 0, none⟩) 1 1 [.string F, .int .i64 j] rfl (.inr ⟨(wq.heap.size + 1), 0, rfl, HGW.out⟩) (by simp; constructor <;> rfl) (by omega) (by omega)
                    have HK3 : Hid (Keep (fun _ => False) wq W3) := HKW.out.trans k2 (fun b hb e => by
                      rcases HRW.out.2 b e with h | ⟨h, _⟩
                      · exact h
                      · omega)
                    refine wpAnyH_ready (rs := [9]) (by kernel_rfl) (by simp) ?_
                    refine AllReadyH.cons rfl (fun K hK => ?_) AllReadyH.nil
                    refine wp_append_runT (by rfl) (by rfl) (by rfl) hr2 ?_
                    refine hK.out _ _ trivial (fun hHeld => ?_)
                    clear hK K
                    try simp only [Act.put, List.getElem_toArray, List.getElem_cons_succ, List.getElem_cons_zero, List.setIfInBounds_toArray, List.set_cons_zero, List.set_cons_succ]
                    obtain ⟨y3, c3, W4, hr3, hR3, k3, hN3⟩ := run_append_src 27 73 27 _ 2 24 Try.underlying27 info73 rfl (by omega) (.slice y2 (k + 1) c2) (k + 1) _ hR2 yd (L - k) (c5 - k) (entCells (l.drop k)) (by rw [entCells_length, List.length_drop]; have := HL.out; omega) (HYD.out.quiet HK3.out) (entCells_one _) (by omega) (by omega)
                    have HK4 : Hid (Keep (fun _ => False) wq W4) := HK3.out.trans k3 (fun b hb e => by
                      rcases hR2.2 b e with (h | ⟨h, _⟩) | ⟨h, _⟩
                      · exact h
                      · omega
                      · have := HKW.out.size; omega)
                    refine wpAnyH_ready (rs := [13]) (by kernel_rfl) (by simp) ?_
                    refine AllReadyH.cons rfl (fun K hK => ?_) AllReadyH.nil
                    refine wp_append_runT (by rfl) (by rfl) (by rfl) hr3 ?_
                    refine hK.out _ _ trivial (fun hHeld => ?_)
                    clear hK K
                    try simp only [Act.put, List.getElem_toArray, List.getElem_cons_succ, List.getElem_cons_zero, List.setIfInBounds_toArray, List.set_cons_zero, List.set_cons_succ]
                    have HR4 := Lib.hid hR3
                    have HS2 := Lib.hid k2.size
                    have HS3 := Lib.hid k3.size
                    clear hr2 hR2 k2 hN2 hr3 hR3 k3 hN3
                    refine wpAnyH_take (i := 14) (v := ?_) rfl (by kernel_rfl) (by kernel_rfl) (by kernel_rfl) (fun _ _ _ h => h) (Or.inl ⟨by rfl, ?_⟩) (by assumption) ?_
                    rotate_left
                    · (intro wS hSw; (try dsimp only at hSw); (try simp only [List.getElem_toArray, List.getElem_cons_succ, List.getElem_cons_zero]); go_simp; try (with_reducible rfl))
                    try simp only [Act.put, List.getElem_toArray, List.getElem_cons_succ, List.getElem_cons_zero, List.setIfInBounds_toArray, List.set_cons_zero, List.set_cons_succ]
                    refine wpAnyH_done (by kernel_rfl) ?_ _
                    refine NoPanic.normal ?_
                    go_wp2
                    go_ret
                    refine ⟨_, rfl, ?_, HKq.out.trans HK4.out (fun _ _ h => h)⟩
                    have hlen : (l.take k ++ (nm F, j) :: l.drop k).length = k + 1 + (L - k) := by simp; have := HL.out; omega
                    have hce : entCells (l.take k ++ (nm F, j) :: l.drop k) = entCells (l.take k) ++ [.string F, .int .i64 j] ++ entCells (l.drop k) := by
                      rw [entCells_append]
                      simp [entCells, sm_nm]
                    show Row _ _ 73 2 _ _ _
                    rw [HD.out, ← HLd.out]
                    show Row _ _ 73 2 _ (l.take (plc (nm F) l) ++ (nm F, j) :: l.drop (plc (nm F) l)).length (entCells (l.take (plc (nm F) l) ++ (nm F, j) :: l.drop (plc (nm F) l)))
                    rw [← HKp.out, hlen, hce]
                    refine HR4.out.mono (fun b _ h => ?_)
                    have h0 := HKq.out.size
                    have h1 := HKW.out.size
                    have h2 := HS2.out
                    have h3 := HS3.out
                    rcases h with (((h | ⟨h, h'⟩) | ⟨h, h'⟩) | ⟨h, h'⟩)
                    · exact h.elim
                    · exact .inr ⟨by omega, by omega⟩
                    · exact .inr ⟨by omega, by omega⟩
                    · exact .inr ⟨by omega, by omega⟩
                · go_simp
                  refine hK.out _ _ trivial (fun hHeld => ?_)
                  clear hK K
                  try simp only [Act.put, List.getElem_toArray, List.getElem_cons_succ, List.getElem_cons_zero, List.setIfInBounds_toArray, List.set_cons_zero, List.set_cons_succ]
                  refine wpAnyH_ready (rs := [0]) (by kernel_rfl) (by simp) ?_
                  refine AllReadyH.cons rfl (fun K hK => ?_) AllReadyH.nil
                  go_simp
                  refine hK.out _ _ trivial (fun hHeld => ?_)
                  clear hK K
                  try simp only [Act.put, List.getElem_toArray, List.getElem_cons_succ, List.getElem_cons_zero, List.setIfInBounds_toArray, List.set_cons_zero, List.set_cons_succ]
                  have HE : Hid (Row ((wq.drew.alloc (.cells #[.string F, .int .i64 j] 73)).alloc (.cells #[] 73)) (Up (fun _ => False) wq ((wq.drew.alloc (.cells #[.string F, .int .i64 j] 73)).alloc (.cells #[] 73))) 73 2 (.slice (some ⟨(wq.heap.size + 1), 0, none⟩) 0 0) 0 []) := by
                    have h := empty_own (wq.drew.alloc (.cells #[.string F, .int .i64 j] 73)) 73 2 (Up (fun _ => False) wq ((wq.drew.alloc (.cells #[.string F, .int .i64 j] 73)).alloc (.cells #[] 73))) (.inr ⟨by simp, by simp⟩)
                    simp only [World.size_alloc] at h
                    exact h
                  have KQ : Keep (fun _ => False) wq ((wq.drew.alloc (.cells #[.string F, .int .i64 j] 73)).alloc (.cells #[] 73)) := (hkw.alloc _).alloc _
                  have hlt0 : wq.heap.size ≤ (wq.heap.size + 1) := by omega
                  obtain ⟨y1, c1, W1, hr1, hR1, k1, hN1⟩ := run_append_src 27 73 27 _ 2 24 Try.underlying27 info73 rfl (by omega) (.slice (some ⟨(wq.heap.size + 1), 0, none⟩) 0 0) 0 [] HE.out x5 k c5 (entCells (l.take k)) (by rw [entCells_length, List.length_take]; have := HL.out; omega) (HX5.out.quiet KQ) (entCells_one _) (by omega) (by omega)
                  rw [Nat.zero_add] at hr1 hR1 hN1
                  rw [List.nil_append] at hR1
                  have HR1 := Lib.hid hR1
                  have HK1 : Hid (Keep (fun _ => False) wq W1) := KQ.trans k1 (fun b hb e => by simp [Value.ownBlock] at e; have := hlt0; omega)
                  have HRu : Hid (ERow W1 (Up (fun _ => False) wq W1) (.slice y1 k c1) (l.take k)) := by
                    have hlk : (l.take k).length = k := by rw [List.length_take]; have := HL.out; omega
                    show Row _ _ 73 2 _ _ _
                    rw [hlk]
                    refine hR1.mono (fun b _ h => ?_)
                    have := KQ.size
                    have := k1.size
                    rcases h with ((h | ⟨h, h'⟩) | ⟨h, h'⟩)
                    · exact h.elim
                    · exact .inr ⟨by omega, by omega⟩
                    · exact .inr ⟨by omega, by omega⟩
                  refine wpAnyH_ready (rs := [4]) (by kernel_rfl) (by simp) ?_
                  refine AllReadyH.cons rfl (fun K hK => ?_) AllReadyH.nil
                  refine wp_append_runT (by rfl) (by rfl) (by rfl) hr1 ?_
                  refine hK.out _ _ trivial (fun hHeld => ?_)
                  clear hK K
                  try simp only [Act.put, List.getElem_toArray, List.getElem_cons_succ, List.getElem_cons_zero, List.setIfInBounds_toArray, List.set_cons_zero, List.set_cons_succ]
                  have hlk : (l.take k).length = k := by rw [List.length_take]; have := HL.out; omega
                  have HKW : Hid (Keep (fun _ => False) wq (W1)) := HK1.out
                  have HRW : Hid (Row (W1) (Up (fun _ => False) wq (W1)) 73 2 (.slice y1 k c1) k (entCells (l.take k))) := by
                    have h : ERow (W1) (Up (fun _ => False) wq (W1)) (.slice y1 k c1) (l.take k) := HRu.out
                    show Row _ _ 73 2 _ _ _
                    unfold ERow at h
                    rw [hlk] at h
                    exact h
                  have HGW : Hid (∀ (jj : Nat) (u : Value), [Value.string F, .int .i64 j][jj]? = some u → (W1).cell? ⟨wq.heap.size, 0 + jj, none⟩ = some u) := fun jj u hj => by
                    have h := (show At W1 wq.heap.size 73 #[.string F, .int .i64 j] from ((At.new wq.drew 73 #[.string F, .int .i64 j]).alloc (.cells #[] 73)).keep k1 (fun e => by simp [Value.ownBlock] at e)).cell (0 + jj)
                    rw [h, Nat.zero_add]
                    simpa using hj
                  clear hr1 hR1 k1 hN1 HRu HE
                  obtain ⟨y2, c2, W3, hr2, hR2, k2, hN2⟩ := run_append_src 27 73 27 _ 2 24 Try.underlying27 info73 rfl (by omega) (.slice y1 k c1) k (entCells (l.take k)) HRW.out (some ⟨wq.heap.size, 0, none⟩) 1 1 [.string F, .int .i64 j] rfl (.inr ⟨wq.heap.size, 0, rfl, HGW.out⟩) (by simp; constructor <;> rfl) (by omega) (by omega)
                  have HK3 : Hid (Keep (fun _ => False) wq W3) := HKW.out.trans k2 (fun b hb e => by
                    rcases HRW.out.2 b e with h | ⟨h, _⟩
                    · exact h
                    · omega)
                  refine wpAnyH_ready (rs := [9]) (by kernel_rfl) (by simp) ?_
                  refine AllReadyH.cons rfl (fun K hK => ?_) AllReadyH.nil
                  refine wp_append_runT (by rfl) (by rfl) (by rfl) hr2 ?_
                  refine hK.out _ _ trivial (fun hHeld => ?_)
                  clear hK K
                  try simp only [Act.put, List.getElem_toArray, List.getElem_cons_succ, List.getElem_cons_zero, List.setIfInBounds_toArray, List.set_cons_zero, List.set_cons_succ]
                  obtain ⟨y3, c3, W4, hr3, hR3, k3, hN3⟩ := run_append_src 27 73 27 _ 2 24 Try.underlying27 info73 rfl (by omega) (.slice y2 (k + 1) c2) (k + 1) _ hR2 yd (L - k) (c5 - k) (entCells (l.drop k)) (by rw [entCells_length, List.length_drop]; have := HL.out; omega) (HYD.out.quiet HK3.out) (entCells_one _) (by omega) (by omega)
                  have HK4 : Hid (Keep (fun _ => False) wq W4) := HK3.out.trans k3 (fun b hb e => by
                    rcases hR2.2 b e with (h | ⟨h, _⟩) | ⟨h, _⟩
                    · exact h
                    · omega
                    · have := HKW.out.size; omega)
                  refine wpAnyH_ready (rs := [13]) (by kernel_rfl) (by simp) ?_
                  refine AllReadyH.cons rfl (fun K hK => ?_) AllReadyH.nil
                  refine wp_append_runT (by rfl) (by rfl) (by rfl) hr3 ?_
                  refine hK.out _ _ trivial (fun hHeld => ?_)
                  clear hK K
                  try simp only [Act.put, List.getElem_toArray, List.getElem_cons_succ, List.getElem_cons_zero, List.setIfInBounds_toArray, List.set_cons_zero, List.set_cons_succ]
                  have HR4 := Lib.hid hR3
                  have HS2 := Lib.hid k2.size
                  have HS3 := Lib.hid k3.size
                  clear hr2 hR2 k2 hN2 hr3 hR3 k3 hN3
                  refine wpAnyH_take (i := 14) (v := ?_) rfl (by kernel_rfl) (by kernel_rfl) (by kernel_rfl) (fun _ _ _ h => h) (Or.inl ⟨by rfl, ?_⟩) (by assumption) ?_
                  rotate_left
                  · (intro wS hSw; (try dsimp only at hSw); (try simp only [List.getElem_toArray, List.getElem_cons_succ, List.getElem_cons_zero]); go_simp; try (with_reducible rfl))
                  try simp only [Act.put, List.getElem_toArray, List.getElem_cons_succ, List.getElem_cons_zero, List.setIfInBounds_toArray, List.set_cons_zero, List.set_cons_succ]
                  refine wpAnyH_done (by kernel_rfl) ?_ _
                  refine NoPanic.normal ?_
                  go_wp2
                  go_ret
                  refine ⟨_, rfl, ?_, HKq.out.trans HK4.out (fun _ _ h => h)⟩
                  have hlen : (l.take k ++ (nm F, j) :: l.drop k).length = k + 1 + (L - k) := by simp; have := HL.out; omega
                  have hce : entCells (l.take k ++ (nm F, j) :: l.drop k) = entCells (l.take k) ++ [.string F, .int .i64 j] ++ entCells (l.drop k) := by
                    rw [entCells_append]
                    simp [entCells, sm_nm]
                  show Row _ _ 73 2 _ _ _
                  rw [HD.out, ← HLd.out]
                  show Row _ _ 73 2 _ (l.take (plc (nm F) l) ++ (nm F, j) :: l.drop (plc (nm F) l)).length (entCells (l.take (plc (nm F) l) ++ (nm F, j) :: l.drop (plc (nm F) l)))
                  rw [← HKp.out, hlen, hce]
                  refine HR4.out.mono (fun b _ h => ?_)
                  have h0 := HKq.out.size
                  have h1 := HKW.out.size
                  have h2 := HS2.out
                  have h3 := HS3.out
                  rcases h with (((h | ⟨h, h'⟩) | ⟨h, h'⟩) | ⟨h, h'⟩)
                  · exact h.elim
                  · exact .inr ⟨by omega, by omega⟩
                  · exact .inr ⟨by omega, by omega⟩
                  · exact .inr ⟨by omega, by omega⟩
              · subst hx5
                go_wp2
                refine wp_region_noPanic ?_
                refine wp_region_held_drew (S := fun _ => True) (by kernel_rfl) trivial (fun hHeld => ?_)
                refine wpAnyH_take (i := 1) (v := ?_) rfl (by kernel_rfl) (by kernel_rfl) (by kernel_rfl) (fun _ _ _ h => h) (Or.inl ⟨by rfl, ?_⟩) (by assumption) ?_
                rotate_left
                · (intro wS hSw; (try dsimp only at hSw); (try simp only [List.getElem_toArray, List.getElem_cons_succ, List.getElem_cons_zero]); go_simp; try (with_reducible rfl))
                try simp only [Act.put, List.getElem_toArray, List.getElem_cons_succ, List.getElem_cons_zero, List.setIfInBounds_toArray, List.set_cons_zero, List.set_cons_succ]
                refine wpAnyH_take (i := 2) (v := ?_) rfl (by kernel_rfl) (by kernel_rfl) (by kernel_rfl) (fun _ _ _ h => h) (Or.inl ⟨by rfl, ?_⟩) (by assumption) ?_
                rotate_left
                · (intro wS hSw; (try dsimp only at hSw); (try simp only [List.getElem_toArray, List.getElem_cons_succ, List.getElem_cons_zero]); go_simp; try (with_reducible rfl))
                try simp only [Act.put, List.getElem_toArray, List.getElem_cons_succ, List.getElem_cons_zero, List.setIfInBounds_toArray, List.set_cons_zero, List.set_cons_succ]
                refine wpAnyH_take (i := 3) (v := ?_) rfl (by kernel_rfl) (by kernel_rfl) (by kernel_rfl) (fun _ _ _ h => h) (Or.inl ⟨by rfl, ?_⟩) (by assumption) ?_
                rotate_left
                · (intro wS hSw; (try dsimp only at hSw); (try simp only [List.getElem_toArray, List.getElem_cons_succ, List.getElem_cons_zero]); go_simp; try (with_reducible rfl))
                try simp only [Act.put, List.getElem_toArray, List.getElem_cons_succ, List.getElem_cons_zero, List.setIfInBounds_toArray, List.set_cons_zero, List.set_cons_succ]
                refine wpAnyH_take (i := 5) (v := ?_) rfl (by kernel_rfl) (by kernel_rfl) (by kernel_rfl) (fun _ _ _ h => h) (Or.inl ⟨by rfl, ?_⟩) (by assumption) ?_
                rotate_left
                · (intro wS hSw; (try dsimp only at hSw); (try simp only [List.getElem_toArray, List.getElem_cons_succ, List.getElem_cons_zero]); go_simp; try (with_reducible rfl))
                try simp only [Act.put, List.getElem_toArray, List.getElem_cons_succ, List.getElem_cons_zero, List.setIfInBounds_toArray, List.set_cons_zero, List.set_cons_succ]
                refine wpAnyH_take (i := 6) (v := ?_) rfl (by kernel_rfl) (by kernel_rfl) (by kernel_rfl) (fun _ _ _ h => h) (Or.inl ⟨by rfl, ?_⟩) (by assumption) ?_
                rotate_left
                · (intro wS hSw; (try dsimp only at hSw); (try simp only [List.getElem_toArray, List.getElem_cons_succ, List.getElem_cons_zero]); go_simp; try (with_reducible rfl))
                try simp only [Act.put, List.getElem_toArray, List.getElem_cons_succ, List.getElem_cons_zero, List.setIfInBounds_toArray, List.set_cons_zero, List.set_cons_succ]
                refine wpAnyH_take (i := 7) (v := ?_) rfl (by kernel_rfl) (by kernel_rfl) (by kernel_rfl) (fun _ _ _ h => h) (Or.inl ⟨by rfl, ?_⟩) (by assumption) ?_
                rotate_left
                · (intro wS hSw; (try dsimp only at hSw); (try simp only [List.getElem_toArray, List.getElem_cons_succ, List.getElem_cons_zero]); go_simp; try (with_reducible rfl))
                try simp only [Act.put, List.getElem_toArray, List.getElem_cons_succ, List.getElem_cons_zero, List.setIfInBounds_toArray, List.set_cons_zero, List.set_cons_succ]
                refine wpAnyH_take (i := 10) (v := ?_) rfl (by kernel_rfl) (by kernel_rfl) (by kernel_rfl) (fun _ _ _ h => h) (Or.inl ⟨by rfl, ?_⟩) (by assumption) ?_
                rotate_left
                · (intro wS hSw; (try dsimp only at hSw); (try simp only [List.getElem_toArray, List.getElem_cons_succ, List.getElem_cons_zero]); go_simp; try (with_reducible rfl))
                try simp only [Act.put, List.getElem_toArray, List.getElem_cons_succ, List.getElem_cons_zero, List.setIfInBounds_toArray, List.set_cons_zero, List.set_cons_succ]
                refine wpAnyH_take (i := 11) (v := ?_) rfl (by kernel_rfl) (by kernel_rfl) (by kernel_rfl) (fun _ _ _ h => h) (Or.inl ⟨by rfl, ?_⟩) (by assumption) ?_
                rotate_left
                · (intro wS hSw; (try dsimp only at hSw); (try simp only [List.getElem_toArray, List.getElem_cons_succ, List.getElem_cons_zero]); go_simp; try (with_reducible rfl))
                try simp only [Act.put, List.getElem_toArray, List.getElem_cons_succ, List.getElem_cons_zero, List.setIfInBounds_toArray, List.set_cons_zero, List.set_cons_succ]
                refine wpAnyH_take (i := 12) (v := ?_) rfl (by kernel_rfl) (by kernel_rfl) (by kernel_rfl) (fun _ _ _ h => h) (Or.inl ⟨by rfl, ?_⟩) (by assumption) ?_
                rotate_left
                · (intro wS hSw; (try dsimp only at hSw); (try simp only [List.getElem_toArray, List.getElem_cons_succ, List.getElem_cons_zero]); go_simp; try (with_reducible rfl))
                try simp only [Act.put, List.getElem_toArray, List.getElem_cons_succ, List.getElem_cons_zero, List.setIfInBounds_toArray, List.set_cons_zero, List.set_cons_succ]
                have hkw : Keep (fun _ => False) wq wq.drew := (Keep.refl _ wq).drew
                refine wpAnyH_ready (rs := [0, 8]) (by kernel_rfl) (by simp) ?_
                refine AllReadyH.cons rfl (fun K hK => ?_) (AllReadyH.cons rfl (fun K hK => ?_) AllReadyH.nil)
                · go_simp
                  refine hK.out _ _ trivial (fun hHeld => ?_)
                  clear hK K
                  try simp only [Act.put, List.getElem_toArray, List.getElem_cons_succ, List.getElem_cons_zero, List.setIfInBounds_toArray, List.set_cons_zero, List.set_cons_succ]
                  refine wpAnyH_ready (rs := [4, 8]) (by kernel_rfl) (by simp) ?_
                  refine AllReadyH.cons rfl (fun K hK => ?_) (AllReadyH.cons rfl (fun K hK => ?_) AllReadyH.nil)
                  · have HE : Hid (Row (wq.drew.alloc (.cells #[] 73)) (Up (fun _ => False) wq (wq.drew.alloc (.cells #[] 73))) 73 2 (.slice (some ⟨wq.heap.size, 0, none⟩) 0 0) 0 []) := empty_own wq.drew 73 2 _ (.inr ⟨Nat.le_refl _, by simp⟩)
                    have KQ : Keep (fun _ => False) wq (wq.drew.alloc (.cells #[] 73)) := hkw.alloc _
                    have hlt0 : wq.heap.size ≤ wq.heap.size := by omega
                    obtain ⟨y1, c1, W1, hr1, hR1, k1, hN1⟩ := run_append_src 27 73 27 _ 2 24 Try.underlying27 info73 rfl (by omega) (.slice (some ⟨wq.heap.size, 0, none⟩) 0 0) 0 [] HE.out (some ⟨g, 0, none⟩) k c5 (entCells (l.take k)) (by rw [entCells_length, List.length_take]; have := HL.out; omega) (HX5.out.quiet KQ) (entCells_one _) (by omega) (by omega)
                    rw [Nat.zero_add] at hr1 hR1 hN1
                    rw [List.nil_append] at hR1
                    have HR1 := Lib.hid hR1
                    have HK1 : Hid (Keep (fun _ => False) wq W1) := KQ.trans k1 (fun b hb e => by simp [Value.ownBlock] at e; have := hlt0; omega)
                    have HRu : Hid (ERow W1 (Up (fun _ => False) wq W1) (.slice y1 k c1) (l.take k)) := by
                      have hlk : (l.take k).length = k := by rw [List.length_take]; have := HL.out; omega
                      show Row _ _ 73 2 _ _ _
                      rw [hlk]
                      refine hR1.mono (fun b _ h => ?_)
                      have := KQ.size
                      have := k1.size
                      rcases h with ((h | ⟨h, h'⟩) | ⟨h, h'⟩)
                      · exact h.elim
                      · exact .inr ⟨by omega, by omega⟩
                      · exact .inr ⟨by omega, by omega⟩
                    refine wp_append_runT (by rfl) (by rfl) (by rfl) hr1 ?_
                    refine hK.out _ _ trivial (fun hHeld => ?_)
                    clear hK K
                    try simp only [Act.put, List.getElem_toArray, List.getElem_cons_succ, List.getElem_cons_zero, List.setIfInBounds_toArray, List.set_cons_zero, List.set_cons_succ]
                    refine wpAnyH_ready (rs := [8]) (by kernel_rfl) (by simp) ?_
                    refine AllReadyH.cons rfl (fun K hK => ?_) AllReadyH.nil
                    go_simp
                    refine hK.out _ _ trivial (fun hHeld => ?_)
                    clear hK K
                    try simp only [Act.put, List.getElem_toArray, List.getElem_cons_succ, List.getElem_cons_zero, List.setIfInBounds_toArray, List.set_cons_zero, List.set_cons_succ]
                    have hlk : (l.take k).length = k := by rw [List.length_take]; have := HL.out; omega
                    have HKW : Hid (Keep (fun _ => False) wq (W1.alloc (.cells #[.string F, .int .i64 j] 73))) := HK1.out.alloc _
                    have HRW : Hid (Row (W1.alloc (.cells #[.string F, .int .i64 j] 73)) (Up (fun _ => False) wq (W1.alloc (.cells #[.string F, .int .i64 j] 73))) 73 2 (.slice y1 k c1) k (entCells (l.take k))) := by
                      have h : ERow (W1.alloc (.cells #[.string F, .int .i64 j] 73)) (Up (fun _ => False) wq (W1.alloc (.cells #[.string F, .int .i64 j] 73))) (.slice y1 k c1) (l.take k) := HRu.out.on ((Keep.refl (fun _ => False) W1).alloc _) (fun _ _ _ h => h)
                      show Row _ _ 73 2 _ _ _
                      unfold ERow at h
                      rw [hlk] at h
                      exact h
                    have HGW : Hid (∀ (jj : Nat) (u : Value), [Value.string F, .int .i64 j][jj]? = some u → (W1.alloc (.cells #[.string F, .int .i64 j] 73)).cell? ⟨W1.heap.size, 0 + jj, none⟩ = some u) := fun jj u hj => by
                      have h := (At.new W1 73 #[.string F, .int .i64 j]).cell (0 + jj)
                      rw [h, Nat.zero_add]
                      simpa using hj
                    clear hr1 hR1 k1 hN1 HRu HE
                    obtain ⟨y2, c2, W3, hr2, hR2, k2, hN2⟩ := run_append_src 27 73 27 _ 2 24 Try.underlying27 info73 rfl (by omega) (.slice y1 k c1) k (entCells (l.take k)) HRW.out (some ⟨W1.heap.size, 0, none⟩) 1 1 [.string F, .int .i64 j] rfl (.inr ⟨W1.heap.size, 0, rfl, HGW.out⟩) (by simp; constructor <;> rfl) (by omega) (by omega)
                    have HK3 : Hid (Keep (fun _ => False) wq W3) := HKW.out.trans k2 (fun b hb e => by
                      rcases HRW.out.2 b e with h | ⟨h, _⟩
                      · exact h
                      · omega)
                    refine wpAnyH_ready (rs := [9]) (by kernel_rfl) (by simp) ?_
                    refine AllReadyH.cons rfl (fun K hK => ?_) AllReadyH.nil
                    refine wp_append_runT (by rfl) (by rfl) (by rfl) hr2 ?_
                    refine hK.out _ _ trivial (fun hHeld => ?_)
                    clear hK K
                    try simp only [Act.put, List.getElem_toArray, List.getElem_cons_succ, List.getElem_cons_zero, List.setIfInBounds_toArray, List.set_cons_zero, List.set_cons_succ]
                    obtain ⟨y3, c3, W4, hr3, hR3, k3, hN3⟩ := run_append_src 27 73 27 _ 2 24 Try.underlying27 info73 rfl (by omega) (.slice y2 (k + 1) c2) (k + 1) _ hR2 yd (L - k) (c5 - k) (entCells (l.drop k)) (by rw [entCells_length, List.length_drop]; have := HL.out; omega) (HYD.out.quiet HK3.out) (entCells_one _) (by omega) (by omega)
                    have HK4 : Hid (Keep (fun _ => False) wq W4) := HK3.out.trans k3 (fun b hb e => by
                      rcases hR2.2 b e with (h | ⟨h, _⟩) | ⟨h, _⟩
                      · exact h
                      · omega
                      · have := HKW.out.size; omega)
                    refine wpAnyH_ready (rs := [13]) (by kernel_rfl) (by simp) ?_
                    refine AllReadyH.cons rfl (fun K hK => ?_) AllReadyH.nil
                    refine wp_append_runT (by rfl) (by rfl) (by rfl) hr3 ?_
                    refine hK.out _ _ trivial (fun hHeld => ?_)
                    clear hK K
                    try simp only [Act.put, List.getElem_toArray, List.getElem_cons_succ, List.getElem_cons_zero, List.setIfInBounds_toArray, List.set_cons_zero, List.set_cons_succ]
                    have HR4 := Lib.hid hR3
                    have HS2 := Lib.hid k2.size
                    have HS3 := Lib.hid k3.size
                    clear hr2 hR2 k2 hN2 hr3 hR3 k3 hN3
                    refine wpAnyH_take (i := 14) (v := ?_) rfl (by kernel_rfl) (by kernel_rfl) (by kernel_rfl) (fun _ _ _ h => h) (Or.inl ⟨by rfl, ?_⟩) (by assumption) ?_
                    rotate_left
                    · (intro wS hSw; (try dsimp only at hSw); (try simp only [List.getElem_toArray, List.getElem_cons_succ, List.getElem_cons_zero]); go_simp; try (with_reducible rfl))
                    try simp only [Act.put, List.getElem_toArray, List.getElem_cons_succ, List.getElem_cons_zero, List.setIfInBounds_toArray, List.set_cons_zero, List.set_cons_succ]
                    refine wpAnyH_done (by kernel_rfl) ?_ _
                    refine NoPanic.normal ?_
                    go_wp2
                    go_ret
                    refine ⟨_, rfl, ?_, HKq.out.trans HK4.out (fun _ _ h => h)⟩
                    have hlen : (l.take k ++ (nm F, j) :: l.drop k).length = k + 1 + (L - k) := by simp; have := HL.out; omega
                    have hce : entCells (l.take k ++ (nm F, j) :: l.drop k) = entCells (l.take k) ++ [.string F, .int .i64 j] ++ entCells (l.drop k) := by
                      rw [entCells_append]
                      simp [entCells, sm_nm]
                    show Row _ _ 73 2 _ _ _
                    rw [HD.out, ← HLd.out]
                    show Row _ _ 73 2 _ (l.take (plc (nm F) l) ++ (nm F, j) :: l.drop (plc (nm F) l)).length (entCells (l.take (plc (nm F) l) ++ (nm F, j) :: l.drop (plc (nm F) l)))
                    rw [← HKp.out, hlen, hce]
                    refine HR4.out.mono (fun b _ h => ?_)
                    have h0 := HKq.out.size
                    have h1 := HKW.out.size
                    have h2 := HS2.out
                    have h3 := HS3.out
                    rcases h with (((h | ⟨h, h'⟩) | ⟨h, h'⟩) | ⟨h, h'⟩)
                    · exact h.elim
                    · exact .inr ⟨by omega, by omega⟩
                    · exact .inr ⟨by omega, by omega⟩
                    · exact .inr ⟨by omega, by omega⟩
                  · go_simp
                    refine hK.out _ _ trivial (fun hHeld => ?_)
                    clear hK K
                    try simp only [Act.put, List.getElem_toArray, List.getElem_cons_succ, List.getElem_cons_zero, List.setIfInBounds_toArray, List.set_cons_zero, List.set_cons_succ]
                    have HE : Hid (Row ((wq.drew.alloc (.cells #[] 73)).alloc (.cells #[.string F, .int .i64 j] 73)) (Up (fun _ => False) wq ((wq.drew.alloc (.cells #[] 73)).alloc (.cells #[.string F, .int .i64 j] 73))) 73 2 (.slice (some ⟨wq.heap.size, 0, none⟩) 0 0) 0 []) := (empty_own wq.drew 73 2 (Up (fun _ => False) wq (wq.drew.alloc (.cells #[] 73))) (.inr ⟨Nat.le_refl _, by simp⟩)).on ((Keep.refl (fun _ => False) _).alloc _) (fun _ _ _ h => h)
                    have KQ : Keep (fun _ => False) wq ((wq.drew.alloc (.cells #[] 73)).alloc (.cells #[.string F, .int .i64 j] 73)) := (hkw.alloc _).alloc _
                    have hlt0 : wq.heap.size ≤ wq.heap.size := by omega
                    obtain ⟨y1, c1, W1, hr1, hR1, k1, hN1⟩ := run_append_src 27 73 27 _ 2 24 Try.underlying27 info73 rfl (by omega) (.slice (some ⟨wq.heap.size, 0, none⟩) 0 0) 0 [] HE.out (some ⟨g, 0, none⟩) k c5 (entCells (l.take k)) (by rw [entCells_length, List.length_take]; have := HL.out; omega) (HX5.out.quiet KQ) (entCells_one _) (by omega) (by omega)
                    rw [Nat.zero_add] at hr1 hR1 hN1
                    rw [List.nil_append] at hR1
                    have HR1 := Lib.hid hR1
                    have HK1 : Hid (Keep (fun _ => False) wq W1) := KQ.trans k1 (fun b hb e => by simp [Value.ownBlock] at e; have := hlt0; omega)
                    have HRu : Hid (ERow W1 (Up (fun _ => False) wq W1) (.slice y1 k c1) (l.take k)) := by
                      have hlk : (l.take k).length = k := by rw [List.length_take]; have := HL.out; omega
                      show Row _ _ 73 2 _ _ _
                      rw [hlk]
                      refine hR1.mono (fun b _ h => ?_)
                      have := KQ.size
                      have := k1.size
                      rcases h with ((h | ⟨h, h'⟩) | ⟨h, h'⟩)
                      · exact h.elim
                      · exact .inr ⟨by omega, by omega⟩
                      · exact .inr ⟨by omega, by omega⟩
                    refine wpAnyH_ready (rs := [4]) (by kernel_rfl) (by simp) ?_
                    refine AllReadyH.cons rfl (fun K hK => ?_) AllReadyH.nil
                    refine wp_append_runT (by rfl) (by rfl) (by rfl) hr1 ?_
                    refine hK.out _ _ trivial (fun hHeld => ?_)
                    clear hK K
                    try simp only [Act.put, List.getElem_toArray, List.getElem_cons_succ, List.getElem_cons_zero, List.setIfInBounds_toArray, List.set_cons_zero, List.set_cons_succ]
                    have hlk : (l.take k).length = k := by rw [List.length_take]; have := HL.out; omega
                    have HKW : Hid (Keep (fun _ => False) wq (W1)) := HK1.out
                    have HRW : Hid (Row (W1) (Up (fun _ => False) wq (W1)) 73 2 (.slice y1 k c1) k (entCells (l.take k))) := by
                      have h : ERow (W1) (Up (fun _ => False) wq (W1)) (.slice y1 k c1) (l.take k) := HRu.out
                      show Row _ _ 73 2 _ _ _
                      unfold ERow at h
                      rw [hlk] at h
                      exact h
                    have HGW : Hid (∀ (jj : Nat) (u : Value), [Value.string F, .int .i64 j][jj]? = some u → (W1).cell? ⟨(wq.heap.size + 1), 0 + jj, none⟩ = some u) := fun jj u hj => by
                      have h := ((show At ((wq.drew.alloc (.cells #[] 73)).alloc (.cells #[.string F, .int .i64 j] 73)) (wq.heap.size + 1) 73 #[.string F, .int .i64 j] from by have h := At.new (wq.drew.alloc (.cells #[] 73)) 73 #[.string F, .int .i64 j]; simpa using h).keep k1 (fun e => by simp [Value.ownBlock] at e)).cell (0 + jj)
                      rw [h, Nat.zero_add]
                      simpa using hj
                    clear hr1 hR1 k1 hN1 HRu HE
                    obtain ⟨y2, c2, W3, hr2, hR2, k2, hN2⟩ := run_append_src 27 73 27 _ 2 24 Try.underlying27 info73 rfl (by omega) (.slice y1 k c1) k (entCells (l.take k)) HRW.out (some ⟨(wq.heap.size + 1), 0, none⟩) 1 1 [.string F, .int .i64 j] rfl (.inr ⟨(wq.heap.size + 1), 0, rfl, HGW.out⟩) (by simp; constructor <;> rfl) (by omega) (by omega)
                    have HK3 : Hid (Keep (fun _ => False) wq W3) := HKW.out.trans k2 (fun b hb e => by
                      rcases HRW.out.2 b e with h | ⟨h, _⟩
                      · exact h
                      · omega)
                    refine wpAnyH_ready (rs := [9]) (by kernel_rfl) (by simp) ?_
                    refine AllReadyH.cons rfl (fun K hK => ?_) AllReadyH.nil
                    refine wp_append_runT (by rfl) (by rfl) (by rfl) hr2 ?_
                    refine hK.out _ _ trivial (fun hHeld => ?_)
                    clear hK K
                    try simp only [Act.put, List.getElem_toArray, List.getElem_cons_succ, List.getElem_cons_zero, List.setIfInBounds_toArray, List.set_cons_zero, List.set_cons_succ]
                    obtain ⟨y3, c3, W4, hr3, hR3, k3, hN3⟩ := run_append_src 27 73 27 _ 2 24 Try.underlying27 info73 rfl (by omega) (.slice y2 (k + 1) c2) (k + 1) _ hR2 yd (L - k) (c5 - k) (entCells (l.drop k)) (by rw [entCells_length, List.length_drop]; have := HL.out; omega) (HYD.out.quiet HK3.out) (entCells_one _) (by omega) (by omega)
                    have HK4 : Hid (Keep (fun _ => False) wq W4) := HK3.out.trans k3 (fun b hb e => by
                      rcases hR2.2 b e with (h | ⟨h, _⟩) | ⟨h, _⟩
                      · exact h
                      · omega
                      · have := HKW.out.size; omega)
                    refine wpAnyH_ready (rs := [13]) (by kernel_rfl) (by simp) ?_
                    refine AllReadyH.cons rfl (fun K hK => ?_) AllReadyH.nil
                    refine wp_append_runT (by rfl) (by rfl) (by rfl) hr3 ?_
                    refine hK.out _ _ trivial (fun hHeld => ?_)
                    clear hK K
                    try simp only [Act.put, List.getElem_toArray, List.getElem_cons_succ, List.getElem_cons_zero, List.setIfInBounds_toArray, List.set_cons_zero, List.set_cons_succ]
                    have HR4 := Lib.hid hR3
                    have HS2 := Lib.hid k2.size
                    have HS3 := Lib.hid k3.size
                    clear hr2 hR2 k2 hN2 hr3 hR3 k3 hN3
                    refine wpAnyH_take (i := 14) (v := ?_) rfl (by kernel_rfl) (by kernel_rfl) (by kernel_rfl) (fun _ _ _ h => h) (Or.inl ⟨by rfl, ?_⟩) (by assumption) ?_
                    rotate_left
                    · (intro wS hSw; (try dsimp only at hSw); (try simp only [List.getElem_toArray, List.getElem_cons_succ, List.getElem_cons_zero]); go_simp; try (with_reducible rfl))
                    try simp only [Act.put, List.getElem_toArray, List.getElem_cons_succ, List.getElem_cons_zero, List.setIfInBounds_toArray, List.set_cons_zero, List.set_cons_succ]
                    refine wpAnyH_done (by kernel_rfl) ?_ _
                    refine NoPanic.normal ?_
                    go_wp2
                    go_ret
                    refine ⟨_, rfl, ?_, HKq.out.trans HK4.out (fun _ _ h => h)⟩
                    have hlen : (l.take k ++ (nm F, j) :: l.drop k).length = k + 1 + (L - k) := by simp; have := HL.out; omega
                    have hce : entCells (l.take k ++ (nm F, j) :: l.drop k) = entCells (l.take k) ++ [.string F, .int .i64 j] ++ entCells (l.drop k) := by
                      rw [entCells_append]
                      simp [entCells, sm_nm]
                    show Row _ _ 73 2 _ _ _
                    rw [HD.out, ← HLd.out]
                    show Row _ _ 73 2 _ (l.take (plc (nm F) l) ++ (nm F, j) :: l.drop (plc (nm F) l)).length (entCells (l.take (plc (nm F) l) ++ (nm F, j) :: l.drop (plc (nm F) l)))
                    rw [← HKp.out, hlen, hce]
                    refine HR4.out.mono (fun b _ h => ?_)
                    have h0 := HKq.out.size
                    have h1 := HKW.out.size
                    have h2 := HS2.out
                    have h3 := HS3.out
                    rcases h with (((h | ⟨h, h'⟩) | ⟨h, h'⟩) | ⟨h, h'⟩)
                    · exact h.elim
                    · exact .inr ⟨by omega, by omega⟩
                    · exact .inr ⟨by omega, by omega⟩
                    · exact .inr ⟨by omega, by omega⟩
                · go_simp
                  refine hK.out _ _ trivial (fun hHeld => ?_)
                  clear hK K
                  try simp only [Act.put, List.getElem_toArray, List.getElem_cons_succ, List.getElem_cons_zero, List.setIfInBounds_toArray, List.set_cons_zero, List.set_cons_succ]
                  refine wpAnyH_ready (rs := [0]) (by kernel_rfl) (by simp) ?_
                  refine AllReadyH.cons rfl (fun K hK => ?_) AllReadyH.nil
                  go_simp
                  refine hK.out _ _ trivial (fun hHeld => ?_)
                  clear hK K
                  try simp only [Act.put, List.getElem_toArray, List.getElem_cons_succ, List.getElem_cons_zero, List.setIfInBounds_toArray, List.set_cons_zero, List.set_cons_succ]
                  have HE : Hid (Row ((wq.drew.alloc (.cells #[.string F, .int .i64 j] 73)).alloc (.cells #[] 73)) (Up (fun _ => False) wq ((wq.drew.alloc (.cells #[.string F, .int .i64 j] 73)).alloc (.cells #[] 73))) 73 2 (.slice (some ⟨(wq.heap.size + 1), 0, none⟩) 0 0) 0 []) := by
                    have h := empty_own (wq.drew.alloc (.cells #[.string F, .int .i64 j] 73)) 73 2 (Up (fun _ => False) wq ((wq.drew.alloc (.cells #[.string F, .int .i64 j] 73)).alloc (.cells #[] 73))) (.inr ⟨by simp, by simp⟩)
                    simp only [World.size_alloc] at h
                    exact h
                  have KQ : Keep (fun _ => False) wq ((wq.drew.alloc (.cells #[.string F, .int .i64 j] 73)).alloc (.cells #[] 73)) := (hkw.alloc _).alloc _
                  have hlt0 : wq.heap.size ≤ (wq.heap.size + 1) := by omega
                  obtain ⟨y1, c1, W1, hr1, hR1, k1, hN1⟩ := run_append_src 27 73 27 _ 2 24 Try.underlying27 info73 rfl (by omega) (.slice (some ⟨(wq.heap.size + 1), 0, none⟩) 0 0) 0 [] HE.out (some ⟨g, 0, none⟩) k c5 (entCells (l.take k)) (by rw [entCells_length, List.length_take]; have := HL.out; omega) (HX5.out.quiet KQ) (entCells_one _) (by omega) (by omega)
                  rw [Nat.zero_add] at hr1 hR1 hN1
                  rw [List.nil_append] at hR1
                  have HR1 := Lib.hid hR1
                  have HK1 : Hid (Keep (fun _ => False) wq W1) := KQ.trans k1 (fun b hb e => by simp [Value.ownBlock] at e; have := hlt0; omega)
                  have HRu : Hid (ERow W1 (Up (fun _ => False) wq W1) (.slice y1 k c1) (l.take k)) := by
                    have hlk : (l.take k).length = k := by rw [List.length_take]; have := HL.out; omega
                    show Row _ _ 73 2 _ _ _
                    rw [hlk]
                    refine hR1.mono (fun b _ h => ?_)
                    have := KQ.size
                    have := k1.size
                    rcases h with ((h | ⟨h, h'⟩) | ⟨h, h'⟩)
                    · exact h.elim
                    · exact .inr ⟨by omega, by omega⟩
                    · exact .inr ⟨by omega, by omega⟩
                  refine wpAnyH_ready (rs := [4]) (by kernel_rfl) (by simp) ?_
                  refine AllReadyH.cons rfl (fun K hK => ?_) AllReadyH.nil
                  refine wp_append_runT (by rfl) (by rfl) (by rfl) hr1 ?_
                  refine hK.out _ _ trivial (fun hHeld => ?_)
                  clear hK K
                  try simp only [Act.put, List.getElem_toArray, List.getElem_cons_succ, List.getElem_cons_zero, List.setIfInBounds_toArray, List.set_cons_zero, List.set_cons_succ]
                  have hlk : (l.take k).length = k := by rw [List.length_take]; have := HL.out; omega
                  have HKW : Hid (Keep (fun _ => False) wq (W1)) := HK1.out
                  have HRW : Hid (Row (W1) (Up (fun _ => False) wq (W1)) 73 2 (.slice y1 k c1) k (entCells (l.take k))) := by
                    have h : ERow (W1) (Up (fun _ => False) wq (W1)) (.slice y1 k c1) (l.take k) := HRu.out
                    show Row _ _ 73 2 _ _ _
                    unfold ERow at h
                    rw [hlk] at h
                    exact h
                  have HGW : Hid (∀ (jj : Nat) (u : Value), [Value.string F, .int .i64 j][jj]? = some u → (W1).cell? ⟨wq.heap.size, 0 + jj, none⟩ = some u) := fun jj u hj => by
                    have h := (show At W1 wq.heap.size 73 #[.string F, .int .i64 j] from ((At.new wq.drew 73 #[.string F, .int .i64 j]).alloc (.cells #[] 73)).keep k1 (fun e => by simp [Value.ownBlock] at e)).cell (0 + jj)
                    rw [h, Nat.zero_add]
                    simpa using hj
                  clear hr1 hR1 k1 hN1 HRu HE
                  obtain ⟨y2, c2, W3, hr2, hR2, k2, hN2⟩ := run_append_src 27 73 27 _ 2 24 Try.underlying27 info73 rfl (by omega) (.slice y1 k c1) k (entCells (l.take k)) HRW.out (some ⟨wq.heap.size, 0, none⟩) 1 1 [.string F, .int .i64 j] rfl (.inr ⟨wq.heap.size, 0, rfl, HGW.out⟩) (by simp; constructor <;> rfl) (by omega) (by omega)
                  have HK3 : Hid (Keep (fun _ => False) wq W3) := HKW.out.trans k2 (fun b hb e => by
                    rcases HRW.out.2 b e with h | ⟨h, _⟩
                    · exact h
                    · omega)
                  refine wpAnyH_ready (rs := [9]) (by kernel_rfl) (by simp) ?_
                  refine AllReadyH.cons rfl (fun K hK => ?_) AllReadyH.nil
                  refine wp_append_runT (by rfl) (by rfl) (by rfl) hr2 ?_
                  refine hK.out _ _ trivial (fun hHeld => ?_)
                  clear hK K
                  try simp only [Act.put, List.getElem_toArray, List.getElem_cons_succ, List.getElem_cons_zero, List.setIfInBounds_toArray, List.set_cons_zero, List.set_cons_succ]
                  obtain ⟨y3, c3, W4, hr3, hR3, k3, hN3⟩ := run_append_src 27 73 27 _ 2 24 Try.underlying27 info73 rfl (by omega) (.slice y2 (k + 1) c2) (k + 1) _ hR2 yd (L - k) (c5 - k) (entCells (l.drop k)) (by rw [entCells_length, List.length_drop]; have := HL.out; omega) (HYD.out.quiet HK3.out) (entCells_one _) (by omega) (by omega)
                  have HK4 : Hid (Keep (fun _ => False) wq W4) := HK3.out.trans k3 (fun b hb e => by
                    rcases hR2.2 b e with (h | ⟨h, _⟩) | ⟨h, _⟩
                    · exact h
                    · omega
                    · have := HKW.out.size; omega)
                  refine wpAnyH_ready (rs := [13]) (by kernel_rfl) (by simp) ?_
                  refine AllReadyH.cons rfl (fun K hK => ?_) AllReadyH.nil
                  refine wp_append_runT (by rfl) (by rfl) (by rfl) hr3 ?_
                  refine hK.out _ _ trivial (fun hHeld => ?_)
                  clear hK K
                  try simp only [Act.put, List.getElem_toArray, List.getElem_cons_succ, List.getElem_cons_zero, List.setIfInBounds_toArray, List.set_cons_zero, List.set_cons_succ]
                  have HR4 := Lib.hid hR3
                  have HS2 := Lib.hid k2.size
                  have HS3 := Lib.hid k3.size
                  clear hr2 hR2 k2 hN2 hr3 hR3 k3 hN3
                  refine wpAnyH_take (i := 14) (v := ?_) rfl (by kernel_rfl) (by kernel_rfl) (by kernel_rfl) (fun _ _ _ h => h) (Or.inl ⟨by rfl, ?_⟩) (by assumption) ?_
                  rotate_left
                  · (intro wS hSw; (try dsimp only at hSw); (try simp only [List.getElem_toArray, List.getElem_cons_succ, List.getElem_cons_zero]); go_simp; try (with_reducible rfl))
                  try simp only [Act.put, List.getElem_toArray, List.getElem_cons_succ, List.getElem_cons_zero, List.setIfInBounds_toArray, List.set_cons_zero, List.set_cons_succ]
                  refine wpAnyH_done (by kernel_rfl) ?_ _
                  refine NoPanic.normal ?_
                  go_wp2
                  go_ret
                  refine ⟨_, rfl, ?_, HKq.out.trans HK4.out (fun _ _ h => h)⟩
                  have hlen : (l.take k ++ (nm F, j) :: l.drop k).length = k + 1 + (L - k) := by simp; have := HL.out; omega
                  have hce : entCells (l.take k ++ (nm F, j) :: l.drop k) = entCells (l.take k) ++ [.string F, .int .i64 j] ++ entCells (l.drop k) := by
                    rw [entCells_append]
                    simp [entCells, sm_nm]
                  show Row _ _ 73 2 _ _ _
                  rw [HD.out, ← HLd.out]
                  show Row _ _ 73 2 _ (l.take (plc (nm F) l) ++ (nm F, j) :: l.drop (plc (nm F) l)).length (entCells (l.take (plc (nm F) l) ++ (nm F, j) :: l.drop (plc (nm F) l)))
                  rw [← HKp.out, hlen, hce]
                  refine HR4.out.mono (fun b _ h => ?_)
                  have h0 := HKq.out.size
                  have h1 := HKW.out.size
                  have h2 := HS2.out
                  have h3 := HS3.out
                  rcases h with (((h | ⟨h, h'⟩) | ⟨h, h'⟩) | ⟨h, h'⟩)
                  · exact h.elim
                  · exact .inr ⟨by omega, by omega⟩
                  · exact .inr ⟨by omega, by omega⟩
                  · exact .inr ⟨by omega, by omega⟩
        · have q1 : (K == 1) = false := by simp; omega
          have q3 : (K == 3) = false := by simp; omega
          have HD : Hid (doneL K j (nm F) (nm T) d = insE (nm T, lastF (nm F) d) (d.filter (flt K (nm F) (nm T)))) := by show _ = _; unfold doneL; rw [if_neg h3, if_neg h1]
          obtain ⟨fl, hfl⟩ : ∃ fl, fl = lastF (nm F) d := ⟨_, rfl⟩
          rw [← hfl] at HD ⊢
          clear h1 h3 hfl
          go_wp2
          have hkl := plc_le (nm T) l
          rw [← HL.out] at hkl
          obtain ⟨wq, hwq⟩ : ∃ wq, wq = wr := ⟨_, rfl⟩
          rw [← hwq]
          have hkq : Keep (fun _ => False) wr wq := by rw [hwq]; exact Keep.refl _ wr
          have HKq : Hid (Keep (fun _ => False) w wq) := HK.out.trans hkq (fun _ _ h => h)
          have HXq : Hid (Reads wq x5 (entCells l)) := HXl.out.quiet hkq
          have HSq : Hid (∀ k p, l[k]? = some p → ∃ g, x5 = some ⟨g, 0, none⟩ ∧ wq.cell? ⟨g, k * 2, none⟩ = some (.string (sm p.1))) := fun k p hp => by
            obtain ⟨g, hg, _, _, c1, _⟩ := HS5.out k p hp
            exact ⟨g, hg, hkq.cell c1 (fun h => h)⟩
          clear hkq hwq a0 a1 a2 a3
          go_loopw [9] (fun z wx => ∃ k : Nat, k ≤ plc (nm T) l ∧ z = .int .i64 (k : Int) ∧ wx = wq) (fun z _ => plc (nm T) l + 1 - (intOf z).toNat)
          case atStart => exact ⟨0, by omega, rfl, rfl⟩
          case round =>
            obtain ⟨k, hk, rfl, hww⟩ := hrel
            obtain rfl := hww.symm
            by_cases hb : k < plc (nm T) l
            · have hkL : k < l.length := by have := HL.out; omega
              obtain ⟨p, hp⟩ := getElem?_some_lt hkL
              obtain ⟨g, hg, c1⟩ := HSq.out k p hp
              subst hg
              have hq : Op.bytesLess (sm p.1).toList (T).toList = true := by rw [less_nm, nm_sm]; exact (plc_step (by omega) hp).2 (by omega)
              obtain ⟨A, hA⟩ : ∃ A, A = sm p.1 := ⟨_, rfl⟩
              rw [← hA] at c1 hq
              have hkI : (k : Int) < (L : Int) := by have := HL.out; omega
              clear hp hkL hA
              go_wp2
              go_roundw
              case rel => exact ⟨k + 1, by omega, by go_num, by first | rfl | trivial⟩
              case measure => simp [intOf]; omega
            · have hk' : k = plc (nm T) l := by omega
              clear hb hk
              have HKp := Lib.hid hk'
              have hkL2 : k ≤ L := by omega
              obtain ⟨s1, s2⟩ := cut_preT 27 73 Try.underlying27 info73 x5 L c5 k (by omega)
              obtain ⟨yd, s3, s4, hyd⟩ := cut_dropT 27 73 Try.underlying27 info73 x5 L c5 k (by omega) (by omega)
              have HYD : Hid (Reads wq yd (entCells (l.drop k))) := by
                show Reads _ _ _
                rw [entCells_drop]
                exact hyd wq _ (by rw [entCells_length, HL.out]) HXq.out
              have HX5 : Hid (Reads wq x5 (entCells (l.take k))) := by
                show Reads _ _ _
                rw [entCells_take]
                exact HXq.out.take _
              have tl : ¬ ((k : Int) < (L : Int)) ∨ ((k : Int) < (L : Int) ∧ ∃ g A, x5 = some ⟨g, 0, none⟩ ∧ wq.cell? ⟨g, k * 2, none⟩ = some (.string A) ∧ Op.bytesLess A.toList (T).toList = false) := by
                by_cases hkL : k < l.length
                · obtain ⟨p, hp⟩ := getElem?_some_lt hkL
                  obtain ⟨g, hg, c1⟩ := HSq.out k p hp
                  refine .inr ⟨by have := HL.out; omega, g, sm p.1, hg, c1, ?_⟩
                  rw [less_nm, nm_sm]
                  cases hc : bytesBefore p.1 (nm T)
                  · rfl
                  · have := (plc_step (a := nm T) (by omega) hp).1 hc
                    omega
                · left
                  have := HL.out
                  omega
              clear hyd hk' hkl
              rcases tl with hkI | ⟨hkI, g, A, hx5, hcA, hq⟩
              · go_wp2
                refine wp_region_noPanic ?_
                refine wp_region_held_drew (S := fun _ => True) (by kernel_rfl) trivial (fun hHeld => ?_)
                refine wpAnyH_take (i := 1) (v := ?_) rfl (by kernel_rfl) (by kernel_rfl) (by kernel_rfl) (fun _ _ _ h => h) (Or.inl ⟨by rfl, ?_⟩) (by assumption) ?_
                rotate_left
                · (intro wS hSw; (try dsimp only at hSw); (try simp only [List.getElem_toArray, List.getElem_cons_succ, List.getElem_cons_zero]); go_simp; try (with_reducible rfl))
                try simp only [Act.put, List.getElem_toArray, List.getElem_cons_succ, List.getElem_cons_zero, List.setIfInBounds_toArray, List.set_cons_zero, List.set_cons_succ]
                refine wpAnyH_take (i := 2) (v := ?_) rfl (by kernel_rfl) (by kernel_rfl) (by kernel_rfl) (fun _ _ _ h => h) (Or.inl ⟨by rfl, ?_⟩) (by assumption) ?_
                rotate_left
                · (intro wS hSw; (try dsimp only at hSw); (try simp only [List.getElem_toArray, List.getElem_cons_succ, List.getElem_cons_zero]); go_simp; try (with_reducible rfl))
                try simp only [Act.put, List.getElem_toArray, List.getElem_cons_succ, List.getElem_cons_zero, List.setIfInBounds_toArray, List.set_cons_zero, List.set_cons_succ]
                refine wpAnyH_take (i := 3) (v := ?_) rfl (by kernel_rfl) (by kernel_rfl) (by kernel_rfl) (fun _ _ _ h => h) (Or.inl ⟨by rfl, ?_⟩) (by assumption) ?_
                rotate_left
                · (intro wS hSw; (try dsimp only at hSw); (try simp only [List.getElem_toArray, List.getElem_cons_succ, List.getElem_cons_zero]); go_simp; try (with_reducible rfl))
                try simp only [Act.put, List.getElem_toArray, List.getElem_cons_succ, List.getElem_cons_zero, List.setIfInBounds_toArray, List.set_cons_zero, List.set_cons_succ]
                refine wpAnyH_take (i := 5) (v := ?_) rfl (by kernel_rfl) (by kernel_rfl) (by kernel_rfl) (fun _ _ _ h => h) (Or.inl ⟨by rfl, ?_⟩) (by assumption) ?_
                rotate_left
                · (intro wS hSw; (try dsimp only at hSw); (try simp only [List.getElem_toArray, List.getElem_cons_succ, List.getElem_cons_zero]); go_simp; try (with_reducible rfl))
                try simp only [Act.put, List.getElem_toArray, List.getElem_cons_succ, List.getElem_cons_zero, List.setIfInBounds_toArray, List.set_cons_zero, List.set_cons_succ]
                refine wpAnyH_take (i := 6) (v := ?_) rfl (by kernel_rfl) (by kernel_rfl) (by kernel_rfl) (fun _ _ _ h => h) (Or.inl ⟨by rfl, ?_⟩) (by assumption) ?_
                rotate_left
                · (intro wS hSw; (try dsimp only at hSw); (try simp only [List.getElem_toArray, List.getElem_cons_succ, List.getElem_cons_zero]); go_simp; try (with_reducible rfl))
                try simp only [Act.put, List.getElem_toArray, List.getElem_cons_succ, List.getElem_cons_zero, List.setIfInBounds_toArray, List.set_cons_zero, List.set_cons_succ]
                refine wpAnyH_take (i := 7) (v := ?_) rfl (by kernel_rfl) (by kernel_rfl) (by kernel_rfl) (fun _ _ _ h => h) (Or.inl ⟨by rfl, ?_⟩) (by assumption) ?_
                rotate_left
                · (intro wS hSw; (try dsimp only at hSw); (try simp only [List.getElem_toArray, List.getElem_cons_succ, List.getElem_cons_zero]); go_simp; try (with_reducible rfl))
                try simp only [Act.put, List.getElem_toArray, List.getElem_cons_succ, List.getElem_cons_zero, List.setIfInBounds_toArray, List.set_cons_zero, List.set_cons_succ]
                refine wpAnyH_take (i := 10) (v := ?_) rfl (by kernel_rfl) (by kernel_rfl) (by kernel_rfl) (fun _ _ _ h => h) (Or.inl ⟨by rfl, ?_⟩) (by assumption) ?_
                rotate_left
                · (intro wS hSw; (try dsimp only at hSw); (try simp only [List.getElem_toArray, List.getElem_cons_succ, List.getElem_cons_zero]); go_simp; try (with_reducible rfl))
                try simp only [Act.put, List.getElem_toArray, List.getElem_cons_succ, List.getElem_cons_zero, List.setIfInBounds_toArray, List.set_cons_zero, List.set_cons_succ]
                refine wpAnyH_take (i := 11) (v := ?_) rfl (by kernel_rfl) (by kernel_rfl) (by kernel_rfl) (fun _ _ _ h => h) (Or.inl ⟨by rfl, ?_⟩) (by assumption) ?_
                rotate_left
                · (intro wS hSw; (try dsimp only at hSw); (try simp only [List.getElem_toArray, List.getElem_cons_succ, List.getElem_cons_zero]); go_simp; try (with_reducible rfl))
                try simp only [Act.put, List.getElem_toArray, List.getElem_cons_succ, List.getElem_cons_zero, List.setIfInBounds_toArray, List.set_cons_zero, List.set_cons_succ]
                refine wpAnyH_take (i := 12) (v := ?_) rfl (by kernel_rfl) (by kernel_rfl) (by kernel_rfl) (fun _ _ _ h => h) (Or.inl ⟨by rfl, ?_⟩) (by assumption) ?_
                rotate_left
                · (intro wS hSw; (try dsimp only at hSw); (try simp only [List.getElem_toArray, List.getElem_cons_succ, List.getElem_cons_zero]); go_simp; try (with_reducible rfl))
                try simp only [Act.put, List.getElem_toArray, List.getElem_cons_succ, List.getElem_cons_zero, List.setIfInBounds_toArray, List.set_cons_zero, List.set_cons_succ]
                have hkw : Keep (fun _ => False) wq wq.drew := (Keep.refl _ wq).drew
                refine wpAnyH_ready (rs := [0, 8]) (by kernel_rfl) (by simp) ?_
                refine AllReadyH.cons rfl (fun K hK => ?_) (AllReadyH.cons rfl (fun K hK => ?_) AllReadyH.nil)
                · go_simp
                  refine hK.out _ _ trivial (fun hHeld => ?_)
                  clear hK K
                  try simp only [Act.put, List.getElem_toArray, List.getElem_cons_succ, List.getElem_cons_zero, List.setIfInBounds_toArray, List.set_cons_zero, List.set_cons_succ]
                  refine wpAnyH_ready (rs := [4, 8]) (by kernel_rfl) (by simp) ?_
                  refine AllReadyH.cons rfl (fun K hK => ?_) (AllReadyH.cons rfl (fun K hK => ?_) AllReadyH.nil)
                  · have HE : Hid (Row (wq.drew.alloc (.cells #[] 73)) (Up (fun _ => False) wq (wq.drew.alloc (.cells #[] 73))) 73 2 (.slice (some ⟨wq.heap.size, 0, none⟩) 0 0) 0 []) := empty_own wq.drew 73 2 _ (.inr ⟨Nat.le_refl _, by simp⟩)
                    have KQ : Keep (fun _ => False) wq (wq.drew.alloc (.cells #[] 73)) := hkw.alloc _
                    have hlt0 : wq.heap.size ≤ wq.heap.size := by omega
                    obtain ⟨y1, c1, W1, hr1, hR1, k1, hN1⟩ := run_append_src 27 73 27 _ 2 24 Try.underlying27 info73 rfl (by omega) (.slice (some ⟨wq.heap.size, 0, none⟩) 0 0) 0 [] HE.out x5 k c5 (entCells (l.take k)) (by rw [entCells_length, List.length_take]; have := HL.out; omega) (HX5.out.quiet KQ) (entCells_one _) (by omega) (by omega)
                    rw [Nat.zero_add] at hr1 hR1 hN1
                    rw [List.nil_append] at hR1
                    have HR1 := Lib.hid hR1
                    have HK1 : Hid (Keep (fun _ => False) wq W1) := KQ.trans k1 (fun b hb e => by simp [Value.ownBlock] at e; have := hlt0; omega)
                    have HRu : Hid (ERow W1 (Up (fun _ => False) wq W1) (.slice y1 k c1) (l.take k)) := by
                      have hlk : (l.take k).length = k := by rw [List.length_take]; have := HL.out; omega
                      show Row _ _ 73 2 _ _ _
                      rw [hlk]
                      refine hR1.mono (fun b _ h => ?_)
                      have := KQ.size
                      have := k1.size
                      rcases h with ((h | ⟨h, h'⟩) | ⟨h, h'⟩)
                      · exact h.elim
                      · exact .inr ⟨by omega, by omega⟩
                      · exact .inr ⟨by omega, by omega⟩
                    refine wp_append_runT (by rfl) (by rfl) (by rfl) hr1 ?_
                    refine hK.out _ _ trivial (fun hHeld => ?_)
                    clear hK K
                    try simp only [Act.put, List.getElem_toArray, List.getElem_cons_succ, List.getElem_cons_zero, List.setIfInBounds_toArray, List.set_cons_zero, List.set_cons_succ]
                    refine wpAnyH_ready (rs := [8]) (by kernel_rfl) (by simp) ?_
                    refine AllReadyH.cons rfl (fun K hK => ?_) AllReadyH.nil
                    go_simp
                    refine hK.out _ _ trivial (fun hHeld => ?_)
                    clear hK K
                    try simp only [Act.put, List.getElem_toArray, List.getElem_cons_succ, List.getElem_cons_zero, List.setIfInBounds_toArray, List.set_cons_zero, List.set_cons_succ]
                    have hlk : (l.take k).length = k := by rw [List.length_take]; have := HL.out; omega
                    have HKW : Hid (Keep (fun _ => False) wq (W1.alloc (.cells #[.string T, .int .i64 fl] 73))) := HK1.out.alloc _
                    have HRW : Hid (Row (W1.alloc (.cells #[.string T, .int .i64 fl] 73)) (Up (fun _ => False) wq (W1.alloc (.cells #[.string T, .int .i64 fl] 73))) 73 2 (.slice y1 k c1) k (entCells (l.take k))) := by
                      have h : ERow (W1.alloc (.cells #[.string T, .int .i64 fl] 73)) (Up (fun _ => False) wq (W1.alloc (.cells #[.string T, .int .i64 fl] 73))) (.slice y1 k c1) (l.take k) := HRu.out.on ((Keep.refl (fun _ => False) W1).alloc _) (fun _ _ _ h => h)
                      show Row _ _ 73 2 _ _ _
                      unfold ERow at h
                      rw [hlk] at h
                      exact h
                    have HGW : Hid (∀ (jj : Nat) (u : Value), [Value.string T, .int .i64 fl][jj]? = some u → (W1.alloc (.cells #[.string T, .int .i64 fl] 73)).cell? ⟨W1.heap.size, 0 + jj, none⟩ = some u) := fun jj u hj => by
                      have h := (At.new W1 73 #[.string T, .int .i64 fl]).cell (0 + jj)
                      rw [h, Nat.zero_add]
                      simpa using hj
                    clear hr1 hR1 k1 hN1 HRu HE
                    obtain ⟨y2, c2, W3, hr2, hR2, k2, hN2⟩ := run_append_src 27 73 27 _ 2 24 Try.underlying27 info73 rfl (by omega) (.slice y1 k c1) k (entCells (l.take k)) HRW.out (some ⟨W1.heap.size, 0, none⟩) 1 1 [.string T, .int .i64 fl] rfl (.inr ⟨W1.heap.size, 0, rfl, HGW.out⟩) (by simp; constructor <;> rfl) (by omega) (by omega)
                    have HK3 : Hid (Keep (fun _ => False) wq W3) := HKW.out.trans k2 (fun b hb e => by
                      rcases HRW.out.2 b e with h | ⟨h, _⟩
                      · exact h
                      · omega)
                    refine wpAnyH_ready (rs := [9]) (by kernel_rfl) (by simp) ?_
                    refine AllReadyH.cons rfl (fun K hK => ?_) AllReadyH.nil
                    refine wp_append_runT (by rfl) (by rfl) (by rfl) hr2 ?_
                    refine hK.out _ _ trivial (fun hHeld => ?_)
                    clear hK K
                    try simp only [Act.put, List.getElem_toArray, List.getElem_cons_succ, List.getElem_cons_zero, List.setIfInBounds_toArray, List.set_cons_zero, List.set_cons_succ]
                    obtain ⟨y3, c3, W4, hr3, hR3, k3, hN3⟩ := run_append_src 27 73 27 _ 2 24 Try.underlying27 info73 rfl (by omega) (.slice y2 (k + 1) c2) (k + 1) _ hR2 yd (L - k) (c5 - k) (entCells (l.drop k)) (by rw [entCells_length, List.length_drop]; have := HL.out; omega) (HYD.out.quiet HK3.out) (entCells_one _) (by omega) (by omega)
                    have HK4 : Hid (Keep (fun _ => False) wq W4) := HK3.out.trans k3 (fun b hb e => by
                      rcases hR2.2 b e with (h | ⟨h, _⟩) | ⟨h, _⟩
                      · exact h
                      · omega
                      · have := HKW.out.size; omega)
                    refine wpAnyH_ready (rs := [13]) (by kernel_rfl) (by simp) ?_
                    refine AllReadyH.cons rfl (fun K hK => ?_) AllReadyH.nil
                    refine wp_append_runT (by rfl) (by rfl) (by rfl) hr3 ?_
                    refine hK.out _ _ trivial (fun hHeld => ?_)
                    clear hK K
                    try simp only [Act.put, List.getElem_toArray, List.getElem_cons_succ, List.getElem_cons_zero, List.setIfInBounds_toArray, List.set_cons_zero, List.set_cons_succ]
                    have HR4 := Lib.hid hR3
                    have HS2 := Lib.hid k2.size
                    have HS3 := Lib.hid k3.size
                    clear hr2 hR2 k2 hN2 hr3 hR3 k3 hN3
                    refine wpAnyH_take (i := 14) (v := ?_) rfl (by kernel_rfl) (by kernel_rfl) (by kernel_rfl) (fun _ _ _ h => h) (Or.inl ⟨by rfl, ?_⟩) (by assumption) ?_
                    rotate_left
                    · (intro wS hSw; (try dsimp only at hSw); (try simp only [List.getElem_toArray, List.getElem_cons_succ, List.getElem_cons_zero]); go_simp; try (with_reducible rfl))
                    try simp only [Act.put, List.getElem_toArray, List.getElem_cons_succ, List.getElem_cons_zero, List.setIfInBounds_toArray, List.set_cons_zero, List.set_cons_succ]
                    refine wpAnyH_done (by kernel_rfl) ?_ _
                    refine NoPanic.normal ?_
                    go_wp2
                    go_ret
                    refine ⟨_, rfl, ?_, HKq.out.trans HK4.out (fun _ _ h => h)⟩
                    have hlen : (l.take k ++ (nm T, fl) :: l.drop k).length = k + 1 + (L - k) := by simp; have := HL.out; omega
                    have hce : entCells (l.take k ++ (nm T, fl) :: l.drop k) = entCells (l.take k) ++ [.string T, .int .i64 fl] ++ entCells (l.drop k) := by
                      rw [entCells_append]
                      simp [entCells, sm_nm]
                    show Row _ _ 73 2 _ _ _
                    rw [HD.out, ← HLd.out]
                    show Row _ _ 73 2 _ (l.take (plc (nm T) l) ++ (nm T, fl) :: l.drop (plc (nm T) l)).length (entCells (l.take (plc (nm T) l) ++ (nm T, fl) :: l.drop (plc (nm T) l)))
                    rw [← HKp.out, hlen, hce]
                    refine HR4.out.mono (fun b _ h => ?_)
                    have h0 := HKq.out.size
                    have h1 := HKW.out.size
                    have h2 := HS2.out
                    have h3 := HS3.out
                    rcases h with (((h | ⟨h, h'⟩) | ⟨h, h'⟩) | ⟨h, h'⟩)
                    · exact h.elim
                    · exact .inr ⟨by omega, by omega⟩
                    · exact .inr ⟨by omega, by omega⟩
                    · exact .inr ⟨by omega, by omega⟩
                  · go_simp
                    refine hK.out _ _ trivial (fun hHeld => ?_)
                    clear hK K
                    try simp only [Act.put, List.getElem_toArray, List.getElem_cons_succ, List.getElem_cons_zero, List.setIfInBounds_toArray, List.set_cons_zero, List.set_cons_succ]
                    have HE : Hid (Row ((wq.drew.alloc (.cells #[] 73)).alloc (.cells #[.string T, .int .i64 fl] 73)) (Up (fun _ => False) wq ((wq.drew.alloc (.cells #[] 73)).alloc (.cells #[.string T, .int .i64 fl] 73))) 73 2 (.slice (some ⟨wq.heap.size, 0, none⟩) 0 0) 0 []) := (empty_own wq.drew 73 2 (Up (fun _ => False) wq (wq.drew.alloc (.cells #[] 73))) (.inr ⟨Nat.le_refl _, by simp⟩)).on ((Keep.refl (fun _ => False) _).alloc _) (fun _ _ _ h => h)
                    have KQ : Keep (fun _ => False) wq ((wq.drew.alloc (.cells #[] 73)).alloc (.cells #[.string T, .int .i64 fl] 73)) := (hkw.alloc _).alloc _
                    have hlt0 : wq.heap.size ≤ wq.heap.size := by omega
                    obtain ⟨y1, c1, W1, hr1, hR1, k1, hN1⟩ := run_append_src 27 73 27 _ 2 24 Try.underlying27 info73 rfl (by omega) (.slice (some ⟨wq.heap.size, 0, none⟩) 0 0) 0 [] HE.out x5 k c5 (entCells (l.take k)) (by rw [entCells_length, List.length_take]; have := HL.out; omega) (HX5.out.quiet KQ) (entCells_one _) (by omega) (by omega)
                    rw [Nat.zero_add] at hr1 hR1 hN1
                    rw [List.nil_append] at hR1
                    have HR1 := Lib.hid hR1
                    have HK1 : Hid (Keep (fun _ => False) wq W1) := KQ.trans k1 (fun b hb e => by simp [Value.ownBlock] at e; have := hlt0; omega)
                    have HRu : Hid (ERow W1 (Up (fun _ => False) wq W1) (.slice y1 k c1) (l.take k)) := by
                      have hlk : (l.take k).length = k := by rw [List.length_take]; have := HL.out; omega
                      show Row _ _ 73 2 _ _ _
                      rw [hlk]
                      refine hR1.mono (fun b _ h => ?_)
                      have := KQ.size
                      have := k1.size
                      rcases h with ((h | ⟨h, h'⟩) | ⟨h, h'⟩)
                      · exact h.elim
                      · exact .inr ⟨by omega, by omega⟩
                      · exact .inr ⟨by omega, by omega⟩
                    refine wpAnyH_ready (rs := [4]) (by kernel_rfl) (by simp) ?_
                    refine AllReadyH.cons rfl (fun K hK => ?_) AllReadyH.nil
                    refine wp_append_runT (by rfl) (by rfl) (by rfl) hr1 ?_
                    refine hK.out _ _ trivial (fun hHeld => ?_)
                    clear hK K
                    try simp only [Act.put, List.getElem_toArray, List.getElem_cons_succ, List.getElem_cons_zero, List.setIfInBounds_toArray, List.set_cons_zero, List.set_cons_succ]
                    have hlk : (l.take k).length = k := by rw [List.length_take]; have := HL.out; omega
                    have HKW : Hid (Keep (fun _ => False) wq (W1)) := HK1.out
                    have HRW : Hid (Row (W1) (Up (fun _ => False) wq (W1)) 73 2 (.slice y1 k c1) k (entCells (l.take k))) := by
                      have h : ERow (W1) (Up (fun _ => False) wq (W1)) (.slice y1 k c1) (l.take k) := HRu.out
                      show Row _ _ 73 2 _ _ _
                      unfold ERow at h
                      rw [hlk] at h
                      exact h
                    have HGW : Hid (∀ (jj : Nat) (u : Value), [Value.string T, .int .i64 fl][jj]? = some u → (W1).cell? ⟨(wq.heap.size + 1), 0 + jj, none⟩ = some u) := fun jj u hj => by
                      have h := ((show At ((wq.drew.alloc (.cells #[] 73)).alloc (.cells #[.string T, .int .i64 fl] 73)) (wq.heap.size + 1) 73 #[.string T, .int .i64 fl] from by have h := At.new (wq.drew.alloc (.cells #[] 73)) 73 #[.string T, .int .i64 fl]; simpa using h).keep k1 (fun e => by simp [Value.ownBlock] at e)).cell (0 + jj)
                      rw [h, Nat.zero_add]
                      simpa using hj
                    clear hr1 hR1 k1 hN1 HRu HE
                    obtain ⟨y2, c2, W3, hr2, hR2, k2, hN2⟩ := run_append_src 27 73 27 _ 2 24 Try.underlying27 info73 rfl (by omega) (.slice y1 k c1) k (entCells (l.take k)) HRW.out (some ⟨(wq.heap.size + 1), 0, none⟩) 1 1 [.string T, .int .i64 fl] rfl (.inr ⟨(wq.heap.size + 1), 0, rfl, HGW.out⟩) (by simp; constructor <;> rfl) (by omega) (by omega)
                    have HK3 : Hid (Keep (fun _ => False) wq W3) := HKW.out.trans k2 (fun b hb e => by
                      rcases HRW.out.2 b e with h | ⟨h, _⟩
                      · exact h
                      · omega)
                    refine wpAnyH_ready (rs := [9]) (by kernel_rfl) (by simp) ?_
                    refine AllReadyH.cons rfl (fun K hK => ?_) AllReadyH.nil
                    refine wp_append_runT (by rfl) (by rfl) (by rfl) hr2 ?_
                    refine hK.out _ _ trivial (fun hHeld => ?_)
                    clear hK K
                    try simp only [Act.put, List.getElem_toArray, List.getElem_cons_succ, List.getElem_cons_zero, List.setIfInBounds_toArray, List.set_cons_zero, List.set_cons_succ]
                    obtain ⟨y3, c3, W4, hr3, hR3, k3, hN3⟩ := run_append_src 27 73 27 _ 2 24 Try.underlying27 info73 rfl (by omega) (.slice y2 (k + 1) c2) (k + 1) _ hR2 yd (L - k) (c5 - k) (entCells (l.drop k)) (by rw [entCells_length, List.length_drop]; have := HL.out; omega) (HYD.out.quiet HK3.out) (entCells_one _) (by omega) (by omega)
                    have HK4 : Hid (Keep (fun _ => False) wq W4) := HK3.out.trans k3 (fun b hb e => by
                      rcases hR2.2 b e with (h | ⟨h, _⟩) | ⟨h, _⟩
                      · exact h
                      · omega
                      · have := HKW.out.size; omega)
                    refine wpAnyH_ready (rs := [13]) (by kernel_rfl) (by simp) ?_
                    refine AllReadyH.cons rfl (fun K hK => ?_) AllReadyH.nil
                    refine wp_append_runT (by rfl) (by rfl) (by rfl) hr3 ?_
                    refine hK.out _ _ trivial (fun hHeld => ?_)
                    clear hK K
                    try simp only [Act.put, List.getElem_toArray, List.getElem_cons_succ, List.getElem_cons_zero, List.setIfInBounds_toArray, List.set_cons_zero, List.set_cons_succ]
                    have HR4 := Lib.hid hR3
                    have HS2 := Lib.hid k2.size
                    have HS3 := Lib.hid k3.size
                    clear hr2 hR2 k2 hN2 hr3 hR3 k3 hN3
                    refine wpAnyH_take (i := 14) (v := ?_) rfl (by kernel_rfl) (by kernel_rfl) (by kernel_rfl) (fun _ _ _ h => h) (Or.inl ⟨by rfl, ?_⟩) (by assumption) ?_
                    rotate_left
                    · (intro wS hSw; (try dsimp only at hSw); (try simp only [List.getElem_toArray, List.getElem_cons_succ, List.getElem_cons_zero]); go_simp; try (with_reducible rfl))
                    try simp only [Act.put, List.getElem_toArray, List.getElem_cons_succ, List.getElem_cons_zero, List.setIfInBounds_toArray, List.set_cons_zero, List.set_cons_succ]
                    refine wpAnyH_done (by kernel_rfl) ?_ _
                    refine NoPanic.normal ?_
                    go_wp2
                    go_ret
                    refine ⟨_, rfl, ?_, HKq.out.trans HK4.out (fun _ _ h => h)⟩
                    have hlen : (l.take k ++ (nm T, fl) :: l.drop k).length = k + 1 + (L - k) := by simp; have := HL.out; omega
                    have hce : entCells (l.take k ++ (nm T, fl) :: l.drop k) = entCells (l.take k) ++ [.string T, .int .i64 fl] ++ entCells (l.drop k) := by
                      rw [entCells_append]
                      simp [entCells, sm_nm]
                    show Row _ _ 73 2 _ _ _
                    rw [HD.out, ← HLd.out]
                    show Row _ _ 73 2 _ (l.take (plc (nm T) l) ++ (nm T, fl) :: l.drop (plc (nm T) l)).length (entCells (l.take (plc (nm T) l) ++ (nm T, fl) :: l.drop (plc (nm T) l)))
                    rw [← HKp.out, hlen, hce]
                    refine HR4.out.mono (fun b _ h => ?_)
                    have h0 := HKq.out.size
                    have h1 := HKW.out.size
                    have h2 := HS2.out
                    have h3 := HS3.out
                    rcases h with (((h | ⟨h, h'⟩) | ⟨h, h'⟩) | ⟨h, h'⟩)
                    · exact h.elim
                    · exact .inr ⟨by omega, by omega⟩
                    · exact .inr ⟨by omega, by omega⟩
                    · exact .inr ⟨by omega, by omega⟩
                · go_simp
                  refine hK.out _ _ trivial (fun hHeld => ?_)
                  clear hK K
                  try simp only [Act.put, List.getElem_toArray, List.getElem_cons_succ, List.getElem_cons_zero, List.setIfInBounds_toArray, List.set_cons_zero, List.set_cons_succ]
                  refine wpAnyH_ready (rs := [0]) (by kernel_rfl) (by simp) ?_
                  refine AllReadyH.cons rfl (fun K hK => ?_) AllReadyH.nil
                  go_simp
                  refine hK.out _ _ trivial (fun hHeld => ?_)
                  clear hK K
                  try simp only [Act.put, List.getElem_toArray, List.getElem_cons_succ, List.getElem_cons_zero, List.setIfInBounds_toArray, List.set_cons_zero, List.set_cons_succ]
                  have HE : Hid (Row ((wq.drew.alloc (.cells #[.string T, .int .i64 fl] 73)).alloc (.cells #[] 73)) (Up (fun _ => False) wq ((wq.drew.alloc (.cells #[.string T, .int .i64 fl] 73)).alloc (.cells #[] 73))) 73 2 (.slice (some ⟨(wq.heap.size + 1), 0, none⟩) 0 0) 0 []) := by
                    have h := empty_own (wq.drew.alloc (.cells #[.string T, .int .i64 fl] 73)) 73 2 (Up (fun _ => False) wq ((wq.drew.alloc (.cells #[.string T, .int .i64 fl] 73)).alloc (.cells #[] 73))) (.inr ⟨by simp, by simp⟩)
                    simp only [World.size_alloc] at h
                    exact h
                  have KQ : Keep (fun _ => False) wq ((wq.drew.alloc (.cells #[.string T, .int .i64 fl] 73)).alloc (.cells #[] 73)) := (hkw.alloc _).alloc _
                  have hlt0 : wq.heap.size ≤ (wq.heap.size + 1) := by omega
                  obtain ⟨y1, c1, W1, hr1, hR1, k1, hN1⟩ := run_append_src 27 73 27 _ 2 24 Try.underlying27 info73 rfl (by omega) (.slice (some ⟨(wq.heap.size + 1), 0, none⟩) 0 0) 0 [] HE.out x5 k c5 (entCells (l.take k)) (by rw [entCells_length, List.length_take]; have := HL.out; omega) (HX5.out.quiet KQ) (entCells_one _) (by omega) (by omega)
                  rw [Nat.zero_add] at hr1 hR1 hN1
                  rw [List.nil_append] at hR1
                  have HR1 := Lib.hid hR1
                  have HK1 : Hid (Keep (fun _ => False) wq W1) := KQ.trans k1 (fun b hb e => by simp [Value.ownBlock] at e; have := hlt0; omega)
                  have HRu : Hid (ERow W1 (Up (fun _ => False) wq W1) (.slice y1 k c1) (l.take k)) := by
                    have hlk : (l.take k).length = k := by rw [List.length_take]; have := HL.out; omega
                    show Row _ _ 73 2 _ _ _
                    rw [hlk]
                    refine hR1.mono (fun b _ h => ?_)
                    have := KQ.size
                    have := k1.size
                    rcases h with ((h | ⟨h, h'⟩) | ⟨h, h'⟩)
                    · exact h.elim
                    · exact .inr ⟨by omega, by omega⟩
                    · exact .inr ⟨by omega, by omega⟩
                  refine wpAnyH_ready (rs := [4]) (by kernel_rfl) (by simp) ?_
                  refine AllReadyH.cons rfl (fun K hK => ?_) AllReadyH.nil
                  refine wp_append_runT (by rfl) (by rfl) (by rfl) hr1 ?_
                  refine hK.out _ _ trivial (fun hHeld => ?_)
                  clear hK K
                  try simp only [Act.put, List.getElem_toArray, List.getElem_cons_succ, List.getElem_cons_zero, List.setIfInBounds_toArray, List.set_cons_zero, List.set_cons_succ]
                  have hlk : (l.take k).length = k := by rw [List.length_take]; have := HL.out; omega
                  have HKW : Hid (Keep (fun _ => False) wq (W1)) := HK1.out
                  have HRW : Hid (Row (W1) (Up (fun _ => False) wq (W1)) 73 2 (.slice y1 k c1) k (entCells (l.take k))) := by
                    have h : ERow (W1) (Up (fun _ => False) wq (W1)) (.slice y1 k c1) (l.take k) := HRu.out
                    show Row _ _ 73 2 _ _ _
                    unfold ERow at h
                    rw [hlk] at h
                    exact h
                  have HGW : Hid (∀ (jj : Nat) (u : Value), [Value.string T, .int .i64 fl][jj]? = some u → (W1).cell? ⟨wq.heap.size, 0 + jj, none⟩ = some u) := fun jj u hj => by
                    have h := (show At W1 wq.heap.size 73 #[.string T, .int .i64 fl] from ((At.new wq.drew 73 #[.string T, .int .i64 fl]).alloc (.cells #[] 73)).keep k1 (fun e => by simp [Value.ownBlock] at e)).cell (0 + jj)
                    rw [h, Nat.zero_add]
                    simpa using hj
                  clear hr1 hR1 k1 hN1 HRu HE
                  obtain ⟨y2, c2, W3, hr2, hR2, k2, hN2⟩ := run_append_src 27 73 27 _ 2 24 Try.underlying27 info73 rfl (by omega) (.slice y1 k c1) k (entCells (l.take k)) HRW.out (some ⟨wq.heap.size, 0, none⟩) 1 1 [.string T, .int .i64 fl] rfl (.inr ⟨wq.heap.size, 0, rfl, HGW.out⟩) (by simp; constructor <;> rfl) (by omega) (by omega)
                  have HK3 : Hid (Keep (fun _ => False) wq W3) := HKW.out.trans k2 (fun b hb e => by
                    rcases HRW.out.2 b e with h | ⟨h, _⟩
                    · exact h
                    · omega)
                  refine wpAnyH_ready (rs := [9]) (by kernel_rfl) (by simp) ?_
                  refine AllReadyH.cons rfl (fun K hK => ?_) AllReadyH.nil
                  refine wp_append_runT (by rfl) (by rfl) (by rfl) hr2 ?_
                  refine hK.out _ _ trivial (fun hHeld => ?_)
                  clear hK K
                  try simp only [Act.put, List.getElem_toArray, List.getElem_cons_succ, List.getElem_cons_zero, List.setIfInBounds_toArray, List.set_cons_zero, List.set_cons_succ]
                  obtain ⟨y3, c3, W4, hr3, hR3, k3, hN3⟩ := run_append_src 27 73 27 _ 2 24 Try.underlying27 info73 rfl (by omega) (.slice y2 (k + 1) c2) (k + 1) _ hR2 yd (L - k) (c5 - k) (entCells (l.drop k)) (by rw [entCells_length, List.length_drop]; have := HL.out; omega) (HYD.out.quiet HK3.out) (entCells_one _) (by omega) (by omega)
                  have HK4 : Hid (Keep (fun _ => False) wq W4) := HK3.out.trans k3 (fun b hb e => by
                    rcases hR2.2 b e with (h | ⟨h, _⟩) | ⟨h, _⟩
                    · exact h
                    · omega
                    · have := HKW.out.size; omega)
                  refine wpAnyH_ready (rs := [13]) (by kernel_rfl) (by simp) ?_
                  refine AllReadyH.cons rfl (fun K hK => ?_) AllReadyH.nil
                  refine wp_append_runT (by rfl) (by rfl) (by rfl) hr3 ?_
                  refine hK.out _ _ trivial (fun hHeld => ?_)
                  clear hK K
                  try simp only [Act.put, List.getElem_toArray, List.getElem_cons_succ, List.getElem_cons_zero, List.setIfInBounds_toArray, List.set_cons_zero, List.set_cons_succ]
                  have HR4 := Lib.hid hR3
                  have HS2 := Lib.hid k2.size
                  have HS3 := Lib.hid k3.size
                  clear hr2 hR2 k2 hN2 hr3 hR3 k3 hN3
                  refine wpAnyH_take (i := 14) (v := ?_) rfl (by kernel_rfl) (by kernel_rfl) (by kernel_rfl) (fun _ _ _ h => h) (Or.inl ⟨by rfl, ?_⟩) (by assumption) ?_
                  rotate_left
                  · (intro wS hSw; (try dsimp only at hSw); (try simp only [List.getElem_toArray, List.getElem_cons_succ, List.getElem_cons_zero]); go_simp; try (with_reducible rfl))
                  try simp only [Act.put, List.getElem_toArray, List.getElem_cons_succ, List.getElem_cons_zero, List.setIfInBounds_toArray, List.set_cons_zero, List.set_cons_succ]
                  refine wpAnyH_done (by kernel_rfl) ?_ _
                  refine NoPanic.normal ?_
                  go_wp2
                  go_ret
                  refine ⟨_, rfl, ?_, HKq.out.trans HK4.out (fun _ _ h => h)⟩
                  have hlen : (l.take k ++ (nm T, fl) :: l.drop k).length = k + 1 + (L - k) := by simp; have := HL.out; omega
                  have hce : entCells (l.take k ++ (nm T, fl) :: l.drop k) = entCells (l.take k) ++ [.string T, .int .i64 fl] ++ entCells (l.drop k) := by
                    rw [entCells_append]
                    simp [entCells, sm_nm]
                  show Row _ _ 73 2 _ _ _
                  rw [HD.out, ← HLd.out]
                  show Row _ _ 73 2 _ (l.take (plc (nm T) l) ++ (nm T, fl) :: l.drop (plc (nm T) l)).length (entCells (l.take (plc (nm T) l) ++ (nm T, fl) :: l.drop (plc (nm T) l)))
                  rw [← HKp.out, hlen, hce]
                  refine HR4.out.mono (fun b _ h => ?_)
                  have h0 := HKq.out.size
                  have h1 := HKW.out.size
                  have h2 := HS2.out
                  have h3 := HS3.out
                  rcases h with (((h | ⟨h, h'⟩) | ⟨h, h'⟩) | ⟨h, h'⟩)
                  · exact h.elim
                  · exact .inr ⟨by omega, by omega⟩
                  · exact .inr ⟨by omega, by omega⟩
                  · exact .inr ⟨by omega, by omega⟩
              · subst hx5
                go_wp2
                refine wp_region_noPanic ?_
                refine wp_region_held_drew (S := fun _ => True) (by kernel_rfl) trivial (fun hHeld => ?_)
                refine wpAnyH_take (i := 1) (v := ?_) rfl (by kernel_rfl) (by kernel_rfl) (by kernel_rfl) (fun _ _ _ h => h) (Or.inl ⟨by rfl, ?_⟩) (by assumption) ?_
                rotate_left
                · (intro wS hSw; (try dsimp only at hSw); (try simp only [List.getElem_toArray, List.getElem_cons_succ, List.getElem_cons_zero]); go_simp; try (with_reducible rfl))
                try simp only [Act.put, List.getElem_toArray, List.getElem_cons_succ, List.getElem_cons_zero, List.setIfInBounds_toArray, List.set_cons_zero, List.set_cons_succ]
                refine wpAnyH_take (i := 2) (v := ?_) rfl (by kernel_rfl) (by kernel_rfl) (by kernel_rfl) (fun _ _ _ h => h) (Or.inl ⟨by rfl, ?_⟩) (by assumption) ?_
                rotate_left
                · (intro wS hSw; (try dsimp only at hSw); (try simp only [List.getElem_toArray, List.getElem_cons_succ, List.getElem_cons_zero]); go_simp; try (with_reducible rfl))
                try simp only [Act.put, List.getElem_toArray, List.getElem_cons_succ, List.getElem_cons_zero, List.setIfInBounds_toArray, List.set_cons_zero, List.set_cons_succ]
                refine wpAnyH_take (i := 3) (v := ?_) rfl (by kernel_rfl) (by kernel_rfl) (by kernel_rfl) (fun _ _ _ h => h) (Or.inl ⟨by rfl, ?_⟩) (by assumption) ?_
                rotate_left
                · (intro wS hSw; (try dsimp only at hSw); (try simp only [List.getElem_toArray, List.getElem_cons_succ, List.getElem_cons_zero]); go_simp; try (with_reducible rfl))
                try simp only [Act.put, List.getElem_toArray, List.getElem_cons_succ, List.getElem_cons_zero, List.setIfInBounds_toArray, List.set_cons_zero, List.set_cons_succ]
                refine wpAnyH_take (i := 5) (v := ?_) rfl (by kernel_rfl) (by kernel_rfl) (by kernel_rfl) (fun _ _ _ h => h) (Or.inl ⟨by rfl, ?_⟩) (by assumption) ?_
                rotate_left
                · (intro wS hSw; (try dsimp only at hSw); (try simp only [List.getElem_toArray, List.getElem_cons_succ, List.getElem_cons_zero]); go_simp; try (with_reducible rfl))
                try simp only [Act.put, List.getElem_toArray, List.getElem_cons_succ, List.getElem_cons_zero, List.setIfInBounds_toArray, List.set_cons_zero, List.set_cons_succ]
                refine wpAnyH_take (i := 6) (v := ?_) rfl (by kernel_rfl) (by kernel_rfl) (by kernel_rfl) (fun _ _ _ h => h) (Or.inl ⟨by rfl, ?_⟩) (by assumption) ?_
                rotate_left
                · (intro wS hSw; (try dsimp only at hSw); (try simp only [List.getElem_toArray, List.getElem_cons_succ, List.getElem_cons_zero]); go_simp; try (with_reducible rfl))
                try simp only [Act.put, List.getElem_toArray, List.getElem_cons_succ, List.getElem_cons_zero, List.setIfInBounds_toArray, List.set_cons_zero, List.set_cons_succ]
                refine wpAnyH_take (i := 7) (v := ?_) rfl (by kernel_rfl) (by kernel_rfl) (by kernel_rfl) (fun _ _ _ h => h) (Or.inl ⟨by rfl, ?_⟩) (by assumption) ?_
                rotate_left
                · (intro wS hSw; (try dsimp only at hSw); (try simp only [List.getElem_toArray, List.getElem_cons_succ, List.getElem_cons_zero]); go_simp; try (with_reducible rfl))
                try simp only [Act.put, List.getElem_toArray, List.getElem_cons_succ, List.getElem_cons_zero, List.setIfInBounds_toArray, List.set_cons_zero, List.set_cons_succ]
                refine wpAnyH_take (i := 10) (v := ?_) rfl (by kernel_rfl) (by kernel_rfl) (by kernel_rfl) (fun _ _ _ h => h) (Or.inl ⟨by rfl, ?_⟩) (by assumption) ?_
                rotate_left
                · (intro wS hSw; (try dsimp only at hSw); (try simp only [List.getElem_toArray, List.getElem_cons_succ, List.getElem_cons_zero]); go_simp; try (with_reducible rfl))
                try simp only [Act.put, List.getElem_toArray, List.getElem_cons_succ, List.getElem_cons_zero, List.setIfInBounds_toArray, List.set_cons_zero, List.set_cons_succ]
                refine wpAnyH_take (i := 11) (v := ?_) rfl (by kernel_rfl) (by kernel_rfl) (by kernel_rfl) (fun _ _ _ h => h) (Or.inl ⟨by rfl, ?_⟩) (by assumption) ?_
                rotate_left
                · (intro wS hSw; (try dsimp only at hSw); (try simp only [List.getElem_toArray, List.getElem_cons_succ, List.getElem_cons_zero]); go_simp; try (with_reducible rfl))
                try simp only [Act.put, List.getElem_toArray, List.getElem_cons_succ, List.getElem_cons_zero, List.setIfInBounds_toArray, List.set_cons_zero, List.set_cons_succ]
                refine wpAnyH_take (i := 12) (v := ?_) rfl (by kernel_rfl) (by kernel_rfl) (by kernel_rfl) (fun _ _ _ h => h) (Or.inl ⟨by rfl, ?_⟩) (by assumption) ?_
                rotate_left
                · (intro wS hSw; (try dsimp only at hSw); (try simp only [List.getElem_toArray, List.getElem_cons_succ, List.getElem_cons_zero]); go_simp; try (with_reducible rfl))
                try simp only [Act.put, List.getElem_toArray, List.getElem_cons_succ, List.getElem_cons_zero, List.setIfInBounds_toArray, List.set_cons_zero, List.set_cons_succ]
                have hkw : Keep (fun _ => False) wq wq.drew := (Keep.refl _ wq).drew
                refine wpAnyH_ready (rs := [0, 8]) (by kernel_rfl) (by simp) ?_
                refine AllReadyH.cons rfl (fun K hK => ?_) (AllReadyH.cons rfl (fun K hK => ?_) AllReadyH.nil)
                · go_simp
                  refine hK.out _ _ trivial (fun hHeld => ?_)
                  clear hK K
                  try simp only [Act.put, List.getElem_toArray, List.getElem_cons_succ, List.getElem_cons_zero, List.setIfInBounds_toArray, List.set_cons_zero, List.set_cons_succ]
                  refine wpAnyH_ready (rs := [4, 8]) (by kernel_rfl) (by simp) ?_
                  refine AllReadyH.cons rfl (fun K hK => ?_) (AllReadyH.cons rfl (fun K hK => ?_) AllReadyH.nil)
                  · have HE : Hid (Row (wq.drew.alloc (.cells #[] 73)) (Up (fun _ => False) wq (wq.drew.alloc (.cells #[] 73))) 73 2 (.slice (some ⟨wq.heap.size, 0, none⟩) 0 0) 0 []) := empty_own wq.drew 73 2 _ (.inr ⟨Nat.le_refl _, by simp⟩)
                    have KQ : Keep (fun _ => False) wq (wq.drew.alloc (.cells #[] 73)) := hkw.alloc _
                    have hlt0 : wq.heap.size ≤ wq.heap.size := by omega
                    obtain ⟨y1, c1, W1, hr1, hR1, k1, hN1⟩ := run_append_src 27 73 27 _ 2 24 Try.underlying27 info73 rfl (by omega) (.slice (some ⟨wq.heap.size, 0, none⟩) 0 0) 0 [] HE.out (some ⟨g, 0, none⟩) k c5 (entCells (l.take k)) (by rw [entCells_length, List.length_take]; have := HL.out; omega) (HX5.out.quiet KQ) (entCells_one _) (by omega) (by omega)
                    rw [Nat.zero_add] at hr1 hR1 hN1
                    rw [List.nil_append] at hR1
                    have HR1 := Lib.hid hR1
                    have HK1 : Hid (Keep (fun _ => False) wq W1) := KQ.trans k1 (fun b hb e => by simp [Value.ownBlock] at e; have := hlt0; omega)
                    have HRu : Hid (ERow W1 (Up (fun _ => False) wq W1) (.slice y1 k c1) (l.take k)) := by
                      have hlk : (l.take k).length = k := by rw [List.length_take]; have := HL.out; omega
                      show Row _ _ 73 2 _ _ _
                      rw [hlk]
                      refine hR1.mono (fun b _ h => ?_)
                      have := KQ.size
                      have := k1.size
                      rcases h with ((h | ⟨h, h'⟩) | ⟨h, h'⟩)
                      · exact h.elim
                      · exact .inr ⟨by omega, by omega⟩
                      · exact .inr ⟨by omega, by omega⟩
                    refine wp_append_runT (by rfl) (by rfl) (by rfl) hr1 ?_
                    refine hK.out _ _ trivial (fun hHeld => ?_)
                    clear hK K
                    try simp only [Act.put, List.getElem_toArray, List.getElem_cons_succ, List.getElem_cons_zero, List.setIfInBounds_toArray, List.set_cons_zero, List.set_cons_succ]
                    refine wpAnyH_ready (rs := [8]) (by kernel_rfl) (by simp) ?_
                    refine AllReadyH.cons rfl (fun K hK => ?_) AllReadyH.nil
                    go_simp
                    refine hK.out _ _ trivial (fun hHeld => ?_)
                    clear hK K
                    try simp only [Act.put, List.getElem_toArray, List.getElem_cons_succ, List.getElem_cons_zero, List.setIfInBounds_toArray, List.set_cons_zero, List.set_cons_succ]
                    have hlk : (l.take k).length = k := by rw [List.length_take]; have := HL.out; omega
                    have HKW : Hid (Keep (fun _ => False) wq (W1.alloc (.cells #[.string T, .int .i64 fl] 73))) := HK1.out.alloc _
                    have HRW : Hid (Row (W1.alloc (.cells #[.string T, .int .i64 fl] 73)) (Up (fun _ => False) wq (W1.alloc (.cells #[.string T, .int .i64 fl] 73))) 73 2 (.slice y1 k c1) k (entCells (l.take k))) := by
                      have h : ERow (W1.alloc (.cells #[.string T, .int .i64 fl] 73)) (Up (fun _ => False) wq (W1.alloc (.cells #[.string T, .int .i64 fl] 73))) (.slice y1 k c1) (l.take k) := HRu.out.on ((Keep.refl (fun _ => False) W1).alloc _) (fun _ _ _ h => h)
                      show Row _ _ 73 2 _ _ _
                      unfold ERow at h
                      rw [hlk] at h
                      exact h
                    have HGW : Hid (∀ (jj : Nat) (u : Value), [Value.string T, .int .i64 fl][jj]? = some u → (W1.alloc (.cells #[.string T, .int .i64 fl] 73)).cell? ⟨W1.heap.size, 0 + jj, none⟩ = some u) := fun jj u hj => by
                      have h := (At.new W1 73 #[.string T, .int .i64 fl]).cell (0 + jj)
                      rw [h, Nat.zero_add]
                      simpa using hj
                    clear hr1 hR1 k1 hN1 HRu HE
                    obtain ⟨y2, c2, W3, hr2, hR2, k2, hN2⟩ := run_append_src 27 73 27 _ 2 24 Try.underlying27 info73 rfl (by omega) (.slice y1 k c1) k (entCells (l.take k)) HRW.out (some ⟨W1.heap.size, 0, none⟩) 1 1 [.string T, .int .i64 fl] rfl (.inr ⟨W1.heap.size, 0, rfl, HGW.out⟩) (by simp; constructor <;> rfl) (by omega) (by omega)
                    have HK3 : Hid (Keep (fun _ => False) wq W3) := HKW.out.trans k2 (fun b hb e => by
                      rcases HRW.out.2 b e with h | ⟨h, _⟩
                      · exact h
                      · omega)
                    refine wpAnyH_ready (rs := [9]) (by kernel_rfl) (by simp) ?_
                    refine AllReadyH.cons rfl (fun K hK => ?_) AllReadyH.nil
                    refine wp_append_runT (by rfl) (by rfl) (by rfl) hr2 ?_
                    refine hK.out _ _ trivial (fun hHeld => ?_)
                    clear hK K
                    try simp only [Act.put, List.getElem_toArray, List.getElem_cons_succ, List.getElem_cons_zero, List.setIfInBounds_toArray, List.set_cons_zero, List.set_cons_succ]
                    obtain ⟨y3, c3, W4, hr3, hR3, k3, hN3⟩ := run_append_src 27 73 27 _ 2 24 Try.underlying27 info73 rfl (by omega) (.slice y2 (k + 1) c2) (k + 1) _ hR2 yd (L - k) (c5 - k) (entCells (l.drop k)) (by rw [entCells_length, List.length_drop]; have := HL.out; omega) (HYD.out.quiet HK3.out) (entCells_one _) (by omega) (by omega)
                    have HK4 : Hid (Keep (fun _ => False) wq W4) := HK3.out.trans k3 (fun b hb e => by
                      rcases hR2.2 b e with (h | ⟨h, _⟩) | ⟨h, _⟩
                      · exact h
                      · omega
                      · have := HKW.out.size; omega)
                    refine wpAnyH_ready (rs := [13]) (by kernel_rfl) (by simp) ?_
                    refine AllReadyH.cons rfl (fun K hK => ?_) AllReadyH.nil
                    refine wp_append_runT (by rfl) (by rfl) (by rfl) hr3 ?_
                    refine hK.out _ _ trivial (fun hHeld => ?_)
                    clear hK K
                    try simp only [Act.put, List.getElem_toArray, List.getElem_cons_succ, List.getElem_cons_zero, List.setIfInBounds_toArray, List.set_cons_zero, List.set_cons_succ]
                    have HR4 := Lib.hid hR3
                    have HS2 := Lib.hid k2.size
                    have HS3 := Lib.hid k3.size
                    clear hr2 hR2 k2 hN2 hr3 hR3 k3 hN3
                    refine wpAnyH_take (i := 14) (v := ?_) rfl (by kernel_rfl) (by kernel_rfl) (by kernel_rfl) (fun _ _ _ h => h) (Or.inl ⟨by rfl, ?_⟩) (by assumption) ?_
                    rotate_left
                    · (intro wS hSw; (try dsimp only at hSw); (try simp only [List.getElem_toArray, List.getElem_cons_succ, List.getElem_cons_zero]); go_simp; try (with_reducible rfl))
                    try simp only [Act.put, List.getElem_toArray, List.getElem_cons_succ, List.getElem_cons_zero, List.setIfInBounds_toArray, List.set_cons_zero, List.set_cons_succ]
                    refine wpAnyH_done (by kernel_rfl) ?_ _
                    refine NoPanic.normal ?_
                    go_wp2
                    go_ret
                    refine ⟨_, rfl, ?_, HKq.out.trans HK4.out (fun _ _ h => h)⟩
                    have hlen : (l.take k ++ (nm T, fl) :: l.drop k).length = k + 1 + (L - k) := by simp; have := HL.out; omega
                    have hce : entCells (l.take k ++ (nm T, fl) :: l.drop k) = entCells (l.take k) ++ [.string T, .int .i64 fl] ++ entCells (l.drop k) := by
                      rw [entCells_append]
                      simp [entCells, sm_nm]
                    show Row _ _ 73 2 _ _ _
                    rw [HD.out, ← HLd.out]
                    show Row _ _ 73 2 _ (l.take (plc (nm T) l) ++ (nm T, fl) :: l.drop (plc (nm T) l)).length (entCells (l.take (plc (nm T) l) ++ (nm T, fl) :: l.drop (plc (nm T) l)))
                    rw [← HKp.out, hlen, hce]
                    refine HR4.out.mono (fun b _ h => ?_)
                    have h0 := HKq.out.size
                    have h1 := HKW.out.size
                    have h2 := HS2.out
                    have h3 := HS3.out
                    rcases h with (((h | ⟨h, h'⟩) | ⟨h, h'⟩) | ⟨h, h'⟩)
                    · exact h.elim
                    · exact .inr ⟨by omega, by omega⟩
                    · exact .inr ⟨by omega, by omega⟩
                    · exact .inr ⟨by omega, by omega⟩
                  · go_simp
                    refine hK.out _ _ trivial (fun hHeld => ?_)
                    clear hK K
                    try simp only [Act.put, List.getElem_toArray, List.getElem_cons_succ, List.getElem_cons_zero, List.setIfInBounds_toArray, List.set_cons_zero, List.set_cons_succ]
                    have HE : Hid (Row ((wq.drew.alloc (.cells #[] 73)).alloc (.cells #[.string T, .int .i64 fl] 73)) (Up (fun _ => False) wq ((wq.drew.alloc (.cells #[] 73)).alloc (.cells #[.string T, .int .i64 fl] 73))) 73 2 (.slice (some ⟨wq.heap.size, 0, none⟩) 0 0) 0 []) := (empty_own wq.drew 73 2 (Up (fun _ => False) wq (wq.drew.alloc (.cells #[] 73))) (.inr ⟨Nat.le_refl _, by simp⟩)).on ((Keep.refl (fun _ => False) _).alloc _) (fun _ _ _ h => h)
                    have KQ : Keep (fun _ => False) wq ((wq.drew.alloc (.cells #[] 73)).alloc (.cells #[.string T, .int .i64 fl] 73)) := (hkw.alloc _).alloc _
                    have hlt0 : wq.heap.size ≤ wq.heap.size := by omega
                    obtain ⟨y1, c1, W1, hr1, hR1, k1, hN1⟩ := run_append_src 27 73 27 _ 2 24 Try.underlying27 info73 rfl (by omega) (.slice (some ⟨wq.heap.size, 0, none⟩) 0 0) 0 [] HE.out (some ⟨g, 0, none⟩) k c5 (entCells (l.take k)) (by rw [entCells_length, List.length_take]; have := HL.out; omega) (HX5.out.quiet KQ) (entCells_one _) (by omega) (by omega)
                    rw [Nat.zero_add] at hr1 hR1 hN1
                    rw [List.nil_append] at hR1
                    have HR1 := Lib.hid hR1
                    have HK1 : Hid (Keep (fun _ => False) wq W1) := KQ.trans k1 (fun b hb e => by simp [Value.ownBlock] at e; have := hlt0; omega)
                    have HRu : Hid (ERow W1 (Up (fun _ => False) wq W1) (.slice y1 k c1) (l.take k)) := by
                      have hlk : (l.take k).length = k := by rw [List.length_take]; have := HL.out; omega
                      show Row _ _ 73 2 _ _ _
                      rw [hlk]
                      refine hR1.mono (fun b _ h => ?_)
                      have := KQ.size
                      have := k1.size
                      rcases h with ((h | ⟨h, h'⟩) | ⟨h, h'⟩)
                      · exact h.elim
                      · exact .inr ⟨by omega, by omega⟩
                      · exact .inr ⟨by omega, by omega⟩
                    refine wpAnyH_ready (rs := [4]) (by kernel_rfl) (by simp) ?_
                    refine AllReadyH.cons rfl (fun K hK => ?_) AllReadyH.nil
                    refine wp_append_runT (by rfl) (by rfl) (by rfl) hr1 ?_
                    refine hK.out _ _ trivial (fun hHeld => ?_)
                    clear hK K
                    try simp only [Act.put, List.getElem_toArray, List.getElem_cons_succ, List.getElem_cons_zero, List.setIfInBounds_toArray, List.set_cons_zero, List.set_cons_succ]
                    have hlk : (l.take k).length = k := by rw [List.length_take]; have := HL.out; omega
                    have HKW : Hid (Keep (fun _ => False) wq (W1)) := HK1.out
                    have HRW : Hid (Row (W1) (Up (fun _ => False) wq (W1)) 73 2 (.slice y1 k c1) k (entCells (l.take k))) := by
                      have h : ERow (W1) (Up (fun _ => False) wq (W1)) (.slice y1 k c1) (l.take k) := HRu.out
                      show Row _ _ 73 2 _ _ _
                      unfold ERow at h
                      rw [hlk] at h
                      exact h
                    have HGW : Hid (∀ (jj : Nat) (u : Value), [Value.string T, .int .i64 fl][jj]? = some u → (W1).cell? ⟨(wq.heap.size + 1), 0 + jj, none⟩ = some u) := fun jj u hj => by
                      have h := ((show At ((wq.drew.alloc (.cells #[] 73)).alloc (.cells #[.string T, .int .i64 fl] 73)) (wq.heap.size + 1) 73 #[.string T, .int .i64 fl] from by have h := At.new (wq.drew.alloc (.cells #[] 73)) 73 #[.string T, .int .i64 fl]; simpa using h).keep k1 (fun e => by simp [Value.ownBlock] at e)).cell (0 + jj)
                      rw [h, Nat.zero_add]
                      simpa using hj
                    clear hr1 hR1 k1 hN1 HRu HE
                    obtain ⟨y2, c2, W3, hr2, hR2, k2, hN2⟩ := run_append_src 27 73 27 _ 2 24 Try.underlying27 info73 rfl (by omega) (.slice y1 k c1) k (entCells (l.take k)) HRW.out (some ⟨(wq.heap.size + 1), 0, none⟩) 1 1 [.string T, .int .i64 fl] rfl (.inr ⟨(wq.heap.size + 1), 0, rfl, HGW.out⟩) (by simp; constructor <;> rfl) (by omega) (by omega)
                    have HK3 : Hid (Keep (fun _ => False) wq W3) := HKW.out.trans k2 (fun b hb e => by
                      rcases HRW.out.2 b e with h | ⟨h, _⟩
                      · exact h
                      · omega)
                    refine wpAnyH_ready (rs := [9]) (by kernel_rfl) (by simp) ?_
                    refine AllReadyH.cons rfl (fun K hK => ?_) AllReadyH.nil
                    refine wp_append_runT (by rfl) (by rfl) (by rfl) hr2 ?_
                    refine hK.out _ _ trivial (fun hHeld => ?_)
                    clear hK K
                    try simp only [Act.put, List.getElem_toArray, List.getElem_cons_succ, List.getElem_cons_zero, List.setIfInBounds_toArray, List.set_cons_zero, List.set_cons_succ]
                    obtain ⟨y3, c3, W4, hr3, hR3, k3, hN3⟩ := run_append_src 27 73 27 _ 2 24 Try.underlying27 info73 rfl (by omega) (.slice y2 (k + 1) c2) (k + 1) _ hR2 yd (L - k) (c5 - k) (entCells (l.drop k)) (by rw [entCells_length, List.length_drop]; have := HL.out; omega) (HYD.out.quiet HK3.out) (entCells_one _) (by omega) (by omega)
                    have HK4 : Hid (Keep (fun _ => False) wq W4) := HK3.out.trans k3 (fun b hb e => by
                      rcases hR2.2 b e with (h | ⟨h, _⟩) | ⟨h, _⟩
                      · exact h
                      · omega
                      · have := HKW.out.size; omega)
                    refine wpAnyH_ready (rs := [13]) (by kernel_rfl) (by simp) ?_
                    refine AllReadyH.cons rfl (fun K hK => ?_) AllReadyH.nil
                    refine wp_append_runT (by rfl) (by rfl) (by rfl) hr3 ?_
                    refine hK.out _ _ trivial (fun hHeld => ?_)
                    clear hK K
                    try simp only [Act.put, List.getElem_toArray, List.getElem_cons_succ, List.getElem_cons_zero, List.setIfInBounds_toArray, List.set_cons_zero, List.set_cons_succ]
                    have HR4 := Lib.hid hR3
                    have HS2 := Lib.hid k2.size
                    have HS3 := Lib.hid k3.size
                    clear hr2 hR2 k2 hN2 hr3 hR3 k3 hN3
                    refine wpAnyH_take (i := 14) (v := ?_) rfl (by kernel_rfl) (by kernel_rfl) (by kernel_rfl) (fun _ _ _ h => h) (Or.inl ⟨by rfl, ?_⟩) (by assumption) ?_
                    rotate_left
                    · (intro wS hSw; (try dsimp only at hSw); (try simp only [List.getElem_toArray, List.getElem_cons_succ, List.getElem_cons_zero]); go_simp; try (with_reducible rfl))
                    try simp only [Act.put, List.getElem_toArray, List.getElem_cons_succ, List.getElem_cons_zero, List.setIfInBounds_toArray, List.set_cons_zero, List.set_cons_succ]
                    refine wpAnyH_done (by kernel_rfl) ?_ _
                    refine NoPanic.normal ?_
                    go_wp2
                    go_ret
                    refine ⟨_, rfl, ?_, HKq.out.trans HK4.out (fun _ _ h => h)⟩
                    have hlen : (l.take k ++ (nm T, fl) :: l.drop k).length = k + 1 + (L - k) := by simp; have := HL.out; omega
                    have hce : entCells (l.take k ++ (nm T, fl) :: l.drop k) = entCells (l.take k) ++ [.string T, .int .i64 fl] ++ entCells (l.drop k) := by
                      rw [entCells_append]
                      simp [entCells, sm_nm]
                    show Row _ _ 73 2 _ _ _
                    rw [HD.out, ← HLd.out]
                    show Row _ _ 73 2 _ (l.take (plc (nm T) l) ++ (nm T, fl) :: l.drop (plc (nm T) l)).length (entCells (l.take (plc (nm T) l) ++ (nm T, fl) :: l.drop (plc (nm T) l)))
                    rw [← HKp.out, hlen, hce]
                    refine HR4.out.mono (fun b _ h => ?_)
                    have h0 := HKq.out.size
                    have h1 := HKW.out.size
                    have h2 := HS2.out
                    have h3 := HS3.out
                    rcases h with (((h | ⟨h, h'⟩) | ⟨h, h'⟩) | ⟨h, h'⟩)
                    · exact h.elim
                    · exact .inr ⟨by omega, by omega⟩
                    · exact .inr ⟨by omega, by omega⟩
                    · exact .inr ⟨by omega, by omega⟩
                · go_simp
                  refine hK.out _ _ trivial (fun hHeld => ?_)
                  clear hK K
                  try simp only [Act.put, List.getElem_toArray, List.getElem_cons_succ, List.getElem_cons_zero, List.setIfInBounds_toArray, List.set_cons_zero, List.set_cons_succ]
                  refine wpAnyH_ready (rs := [0]) (by kernel_rfl) (by simp) ?_
                  refine AllReadyH.cons rfl (fun K hK => ?_) AllReadyH.nil
                  go_simp
                  refine hK.out _ _ trivial (fun hHeld => ?_)
                  clear hK K
                  try simp only [Act.put, List.getElem_toArray, List.getElem_cons_succ, List.getElem_cons_zero, List.setIfInBounds_toArray, List.set_cons_zero, List.set_cons_succ]
                  have HE : Hid (Row ((wq.drew.alloc (.cells #[.string T, .int .i64 fl] 73)).alloc (.cells #[] 73)) (Up (fun _ => False) wq ((wq.drew.alloc (.cells #[.string T, .int .i64 fl] 73)).alloc (.cells #[] 73))) 73 2 (.slice (some ⟨(wq.heap.size + 1), 0, none⟩) 0 0) 0 []) := by
                    have h := empty_own (wq.drew.alloc (.cells #[.string T, .int .i64 fl] 73)) 73 2 (Up (fun _ => False) wq ((wq.drew.alloc (.cells #[.string T, .int .i64 fl] 73)).alloc (.cells #[] 73))) (.inr ⟨by simp, by simp⟩)
                    simp only [World.size_alloc] at h
                    exact h
                  have KQ : Keep (fun _ => False) wq ((wq.drew.alloc (.cells #[.string T, .int .i64 fl] 73)).alloc (.cells #[] 73)) := (hkw.alloc _).alloc _
                  have hlt0 : wq.heap.size ≤ (wq.heap.size + 1) := by omega
                  obtain ⟨y1, c1, W1, hr1, hR1, k1, hN1⟩ := run_append_src 27 73 27 _ 2 24 Try.underlying27 info73 rfl (by omega) (.slice (some ⟨(wq.heap.size + 1), 0, none⟩) 0 0) 0 [] HE.out (some ⟨g, 0, none⟩) k c5 (entCells (l.take k)) (by rw [entCells_length, List.length_take]; have := HL.out; omega) (HX5.out.quiet KQ) (entCells_one _) (by omega) (by omega)
                  rw [Nat.zero_add] at hr1 hR1 hN1
                  rw [List.nil_append] at hR1
                  have HR1 := Lib.hid hR1
                  have HK1 : Hid (Keep (fun _ => False) wq W1) := KQ.trans k1 (fun b hb e => by simp [Value.ownBlock] at e; have := hlt0; omega)
                  have HRu : Hid (ERow W1 (Up (fun _ => False) wq W1) (.slice y1 k c1) (l.take k)) := by
                    have hlk : (l.take k).length = k := by rw [List.length_take]; have := HL.out; omega
                    show Row _ _ 73 2 _ _ _
                    rw [hlk]
                    refine hR1.mono (fun b _ h => ?_)
                    have := KQ.size
                    have := k1.size
                    rcases h with ((h | ⟨h, h'⟩) | ⟨h, h'⟩)
                    · exact h.elim
                    · exact .inr ⟨by omega, by omega⟩
                    · exact .inr ⟨by omega, by omega⟩
                  refine wpAnyH_ready (rs := [4]) (by kernel_rfl) (by simp) ?_
                  refine AllReadyH.cons rfl (fun K hK => ?_) AllReadyH.nil
                  refine wp_append_runT (by rfl) (by rfl) (by rfl) hr1 ?_
                  refine hK.out _ _ trivial (fun hHeld => ?_)
                  clear hK K
                  try simp only [Act.put, List.getElem_toArray, List.getElem_cons_succ, List.getElem_cons_zero, List.setIfInBounds_toArray, List.set_cons_zero, List.set_cons_succ]
                  have hlk : (l.take k).length = k := by rw [List.length_take]; have := HL.out; omega
                  have HKW : Hid (Keep (fun _ => False) wq (W1)) := HK1.out
                  have HRW : Hid (Row (W1) (Up (fun _ => False) wq (W1)) 73 2 (.slice y1 k c1) k (entCells (l.take k))) := by
                    have h : ERow (W1) (Up (fun _ => False) wq (W1)) (.slice y1 k c1) (l.take k) := HRu.out
                    show Row _ _ 73 2 _ _ _
                    unfold ERow at h
                    rw [hlk] at h
                    exact h
                  have HGW : Hid (∀ (jj : Nat) (u : Value), [Value.string T, .int .i64 fl][jj]? = some u → (W1).cell? ⟨wq.heap.size, 0 + jj, none⟩ = some u) := fun jj u hj => by
                    have h := (show At W1 wq.heap.size 73 #[.string T, .int .i64 fl] from ((At.new wq.drew 73 #[.string T, .int .i64 fl]).alloc (.cells #[] 73)).keep k1 (fun e => by simp [Value.ownBlock] at e)).cell (0 + jj)
                    rw [h, Nat.zero_add]
                    simpa using hj
                  clear hr1 hR1 k1 hN1 HRu HE
                  obtain ⟨y2, c2, W3, hr2, hR2, k2, hN2⟩ := run_append_src 27 73 27 _ 2 24 Try.underlying27 info73 rfl (by omega) (.slice y1 k c1) k (entCells (l.take k)) HRW.out (some ⟨wq.heap.size, 0, none⟩) 1 1 [.string T, .int .i64 fl] rfl (.inr ⟨wq.heap.size, 0, rfl, HGW.out⟩) (by simp; constructor <;> rfl) (by omega) (by omega)
                  have HK3 : Hid (Keep (fun _ => False) wq W3) := HKW.out.trans k2 (fun b hb e => by
                    rcases HRW.out.2 b e with h | ⟨h, _⟩
                    · exact h
                    · omega)
                  refine wpAnyH_ready (rs := [9]) (by kernel_rfl) (by simp) ?_
                  refine AllReadyH.cons rfl (fun K hK => ?_) AllReadyH.nil
                  refine wp_append_runT (by rfl) (by rfl) (by rfl) hr2 ?_
                  refine hK.out _ _ trivial (fun hHeld => ?_)
                  clear hK K
                  try simp only [Act.put, List.getElem_toArray, List.getElem_cons_succ, List.getElem_cons_zero, List.setIfInBounds_toArray, List.set_cons_zero, List.set_cons_succ]
                  obtain ⟨y3, c3, W4, hr3, hR3, k3, hN3⟩ := run_append_src 27 73 27 _ 2 24 Try.underlying27 info73 rfl (by omega) (.slice y2 (k + 1) c2) (k + 1) _ hR2 yd (L - k) (c5 - k) (entCells (l.drop k)) (by rw [entCells_length, List.length_drop]; have := HL.out; omega) (HYD.out.quiet HK3.out) (entCells_one _) (by omega) (by omega)
                  have HK4 : Hid (Keep (fun _ => False) wq W4) := HK3.out.trans k3 (fun b hb e => by
                    rcases hR2.2 b e with (h | ⟨h, _⟩) | ⟨h, _⟩
                    · exact h
                    · omega
                    · have := HKW.out.size; omega)
                  refine wpAnyH_ready (rs := [13]) (by kernel_rfl) (by simp) ?_
                  refine AllReadyH.cons rfl (fun K hK => ?_) AllReadyH.nil
                  refine wp_append_runT (by rfl) (by rfl) (by rfl) hr3 ?_
                  refine hK.out _ _ trivial (fun hHeld => ?_)
                  clear hK K
                  try simp only [Act.put, List.getElem_toArray, List.getElem_cons_succ, List.getElem_cons_zero, List.setIfInBounds_toArray, List.set_cons_zero, List.set_cons_succ]
                  have HR4 := Lib.hid hR3
                  have HS2 := Lib.hid k2.size
                  have HS3 := Lib.hid k3.size
                  clear hr2 hR2 k2 hN2 hr3 hR3 k3 hN3
                  refine wpAnyH_take (i := 14) (v := ?_) rfl (by kernel_rfl) (by kernel_rfl) (by kernel_rfl) (fun _ _ _ h => h) (Or.inl ⟨by rfl, ?_⟩) (by assumption) ?_
                  rotate_left
                  · (intro wS hSw; (try dsimp only at hSw); (try simp only [List.getElem_toArray, List.getElem_cons_succ, List.getElem_cons_zero]); go_simp; try (with_reducible rfl))
                  try simp only [Act.put, List.getElem_toArray, List.getElem_cons_succ, List.getElem_cons_zero, List.setIfInBounds_toArray, List.set_cons_zero, List.set_cons_succ]
                  refine wpAnyH_done (by kernel_rfl) ?_ _
                  refine NoPanic.normal ?_
                  go_wp2
                  go_ret
                  refine ⟨_, rfl, ?_, HKq.out.trans HK4.out (fun _ _ h => h)⟩
                  have hlen : (l.take k ++ (nm T, fl) :: l.drop k).length = k + 1 + (L - k) := by simp; have := HL.out; omega
                  have hce : entCells (l.take k ++ (nm T, fl) :: l.drop k) = entCells (l.take k) ++ [.string T, .int .i64 fl] ++ entCells (l.drop k) := by
                    rw [entCells_append]
                    simp [entCells, sm_nm]
                  show Row _ _ 73 2 _ _ _
                  rw [HD.out, ← HLd.out]
                  show Row _ _ 73 2 _ (l.take (plc (nm T) l) ++ (nm T, fl) :: l.drop (plc (nm T) l)).length (entCells (l.take (plc (nm T) l) ++ (nm T, fl) :: l.drop (plc (nm T) l)))
                  rw [← HKp.out, hlen, hce]
                  refine HR4.out.mono (fun b _ h => ?_)
                  have h0 := HKq.out.size
                  have h1 := HKW.out.size
                  have h2 := HS2.out
                  have h3 := HS3.out
                  rcases h with (((h | ⟨h, h'⟩) | ⟨h, h'⟩) | ⟨h, h'⟩)
                  · exact h.elim
                  · exact .inr ⟨by omega, by omega⟩
                  · exact .inr ⟨by omega, by omega⟩
                  · exact .inr ⟨by omega, by omega⟩

end Go.Proofs.Ytgjkocjgkbjciaa.Fs
