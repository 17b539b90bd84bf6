/-
  What the program's bodyLine returns.
-/
import Derived.Test.YtcjljldknekhiaaGreatDoorPb
namespace Go.Proofs.YtcjljldknekhiaaGreatDoor.Ln
open Go.RowKit
set_option linter.unusedVariables false
set_option linter.unusedSimpArgs false

theorem fault_is {p : Se} {l : List Nat} (hl : l.length ≤ 1000) (hb : ∀ c ∈ l, c < 256) : faultC p (str (unT l)) false = pfault p l := by
  unfold faultC pfault
  rw [ns_str (unT_lt hb), str_size]
  have e : (false = true ∨ odd (unT l) = true) ↔ (1000 < l.length ∨ odd (unT l) = true) := by
    constructor
    · rintro (h | h)
      · cases h
      · exact .inr h
    · rintro (h | h)
      · omega
      · exact .inr h
  by_cases h : odd (unT l) = true
  · rw [if_pos (.inr h), if_pos (.inr h)]
  · have n1 : ¬ (false = true ∨ odd (unT l) = true) := by simp [h]
    have n2 : ¬ (1000 < l.length ∨ odd (unT l) = true) := by simp [h]; omega
    rw [if_neg n1, if_neg n2]
theorem unE_long {l : List Nat} (h : 1000 < l.length) : unE l = false := by
  unfold unE
  rw [beq_eq_false_iff_ne]
  rintro rfl
  simp at h
theorem fault_le (p : Se) (t : ByteArray) (b : Bool) : faultC p t b ≤ 1000 := by
  unfold faultC
  split; · omega
  split <;> omega
/-- The cells of what is wrong. -/
theorem cells_bad (p : Se) (lv ev rv bv : Value) (n : Nat) : ((pCells p lv ev rv bv).setIfInBounds 11 (.int .i64 (n : Int))).setIfInBounds 10 (.slice none 0 0) = pCells { p with bad := n, body := [] } lv ev rv nilV := by
  simp only [pCells, List.setIfInBounds_toArray, List.set_cons_zero, List.set_cons_succ]
  rfl

set_option maxHeartbeats 4000000 in
set_option maxRecDepth 100000 in
theorem bodyC {F : Nat → Prop} {w : World} {g : Nat} {p : Se} (h : PS F w g p) (hE : Env w) (hok : Ok p) (h4 : p.st = 4) (hl : p.out.length + 2 ≤ 1000000) (s : ByteArray) (hs : s.size ≤ 1000) (long : Bool) (l : List Nat) (hb : ∀ c ∈ l, c < 256)
    (hc : (long = false ∧ s = str l) ∨ (long = true ∧ s = { data := #[] } ∧ 1000 < l.length)) :
    Calls Tryz.prog 67 #[.pointer (some ⟨g, 0, none⟩), .string s, .bool long] w (PDid F g (p.ptext l) w) := by
  have hE1 : unE (ns s) = unE l := by
    rcases hc with ⟨_, e⟩ | ⟨_, e, h1⟩
    · rw [e, ns_str hb]
    · rw [e, unE_long h1]; decide
  have N0 := Lib.hid (PNow.start h hE)
  have HU := Lib.hid (fun W => punstuff s W hs)
  have HOK := Lib.hid hok
  cases hEl : unE l with
  | true =>
    have HS : Hid (p.ptext l = p.pend) := Lib.hid (by rw [Se.ptext, if_pos hEl])
    rw [hE1, hEl] at HU
    clear h hE hok hc hE1 hEl
    go_enter Tryz.func67, Tryz.ntmps67
    go_wp2_with fail
    refine (HU.out _).mono ?_
    rintro e w1 ⟨rfl, hk⟩
    have N1 := Lib.hid (N0.out.quiet hk)
    clear hk
    go_wp2_with fail
    refine (pendBody N1.out.rs N1.out.env HOK.out (by omega) hl).mono ?_
    rintro e w2 hd
    obtain ⟨rfl, F2, hN2⟩ := N1.out.did hd
    have N2 := Lib.hid hN2
    clear hd hN2
    go_wp2_with fail
    (try simp only [Exit.inBlock, Exit.then])
    first | go_end0 | refine bodyPost_ret (results_none rfl _ _ _) rfl ?_
    rw [HS.out]
    exact N2.out.done
  | false =>
    rw [hE1, hEl] at HU
    by_cases hbad : (p.bad : Int) = 0
    · have HT : Hid (faultC p (str (unT (ns s))) long = pfault p l) := Lib.hid (by
        rcases hc with ⟨e1, e2⟩ | ⟨e1, e2, e3⟩
        · rw [e1, e2, ns_str hb]
          refine fault_is ?_ hb
          rw [e2, str_size] at hs
          exact hs
        · rw [e1, faultC, if_pos (.inl rfl), pfault, if_pos (.inl e3)])
      have HS : Hid (p.ptext l = if pfault p l = 0 then { p with body := p.body ++ unT l ++ [10] } else { p with bad := pfault p l, body := [] }) := Lib.hid (by
        rw [Se.ptext, if_neg (by rw [hEl]; simp), if_pos (by omega)])
      have htz : (str (unT (ns s))).size ≤ 1000 := by
        rw [str_size]
        have := ns_length s
        have := unT_len (ns s)
        omega
      have HTX : Hid (pfault p l = 0 → ns (str (unT (ns s))) = unT l) := Lib.hid (fun h0 => by
        rcases hc with ⟨e1, e2⟩ | ⟨e1, e2, e3⟩
        · rw [e2, ns_str hb, ns_str (unT_lt hb)]
        · rw [pfault, if_pos (.inl e3)] at h0; cases h0)
      have hfl := fault_le p (str (unT (ns s))) long
      obtain ⟨c0, c1, c2, _, c11, fz⟩ := N0.out.cells
      have hbl := hok.body
      have hsz := hok.size
      obtain ⟨T, hT⟩ : ∃ T, T = str (unT (ns s)) := ⟨_, rfl⟩
      rw [← hT] at HU HT htz HTX hfl
      obtain ⟨c, hcd⟩ : ∃ c, c = pfault p l := ⟨_, rfl⟩
      rw [← hcd] at HT HS HTX
      rw [HT.out] at hfl
      have HFW := Lib.hid (fun F' W (a : PS F' W g p) (b : Env W) => pfaultW a b hok T htz long)
      rw [HT.out] at HFW
      clear h hE hok hc hE1 hEl hT hcd fz
      by_cases hc0 : (c : Int) = 0
      · obtain rfl : c = 0 := by omega
        have HS' : Hid (p.ptext l = { p with body := p.body ++ unT l ++ [10] }) := Lib.hid (by rw [HS.out, if_pos rfl])
        have HN : Hid (ns T = unT l) := Lib.hid (HTX.out rfl)
        go_enter Tryz.func67, Tryz.ntmps67
        go_wp2_with fail
        refine (HU.out _).mono ?_
        rintro e w1 ⟨rfl, hk⟩
        have N1 := Lib.hid (N0.out.quiet hk)
        obtain ⟨_, _, _, _, d11, fz1⟩ := N1.out.cells
        clear hk fz1
        go_wp2_with fail
        refine (HFW.out _ _ N1.out.rs N1.out.env).mono ?_
        rintro e w2 ⟨rfl, hk⟩
        have N2 := Lib.hid (N1.out.quiet hk)
        obtain ⟨_, _, _, _, e11, fz2⟩ := N2.out.cells
        have g11 := fz2 11
        obtain ⟨F3, hN3⟩ := N2.out.put (p' := p) 11 (.int .i64 0) (fun lv ev rv bv => by
          have hz : p.bad = 0 := by omega
          show pCells { p with bad := 0 } lv ev rv bv = _
          rw [show ({ p with bad := 0 } : Se) = p by rw [← hz]]) rfl rfl rfl rfl Iff.rfl
        have N3 := Lib.hid hN3
        obtain ⟨lv, ev, rv, bv, o, xs, h3⟩ := hN3.rs
        obtain ⟨bx, bc, rfl, _, _, _⟩ := h3.body.shape
        obtain ⟨_, _, _, _, _, _, _, _, _, _, i10, i11, fz3⟩ := h3.cells
        have H3 := Lib.hid h3
        obtain ⟨n, hn⟩ : ∃ n, n = p.body.length := ⟨_, rfl⟩
        rw [← hn] at i10
        have HNN := Lib.hid hn
        have HM3 : Hid (Mid (w2.setCell ⟨g, 11, none⟩ (.int .i64 0)) (.slice bx n bc) o.qb p.body) := Lib.hid (by rw [hn]; exact h3.body)
        clear hk hN3 fz2 h3 fz3 hn d11 c0 c1 c2 c11
        go_wp2_with (first
          | (refine wpList_append_bstr (by rfl) (.tmp 42) (.tmp 43) (by rfl) (.slice bx n bc) o.qb p.body (by rfl) HM3.out T (by rfl) (by have := HOK.out.body; have := HOK.out.size; omega) ?_
             intro y k cap q4 w4 hM4 hK4 hN4
             obtain ⟨x10, z10, F4, hP4, hk4, hm4⟩ := H3.out.grown hK4 hM4 hN4
             have N4 := Lib.hid (N3.out.on ⟨_, _, _, _, _, _, hP4⟩ hk4 hm4)
             have H4 := Lib.hid hP4
             have HM4 := Lib.hid (hP4.body.keep ((Keep.refl (fun _ => False) _).alloc (.cells #[.int .u8 10] 5)) (fun _ _ h => h))
             have hB4 := one10 (w4.setCell ⟨g, 10, none⟩ (.slice y k cap))
             rw [show (w4.setCell ⟨g, 10, none⟩ (.slice y k cap)).heap.size = w4.heap.size by simp [World.setCell]] at hB4
             have HB4 := Lib.hid hB4
             have hlt4 : g < (w4.setCell ⟨g, 10, none⟩ (.slice y k cap)).heap.size := hP4.flt g hP4.fg
             have f10 := hP4.row.frozen 10
             clear hM4 hK4 hN4 hP4 hk4 hm4 hB4)
          | (refine wpList_append_mid (by rfl) (.tmp 53) (.tmp 54) (by rfl) (.slice y k cap) q4 (p.body ++ ns T) (by rfl) HM4.out (fun b => b = w4.heap.size) (some ⟨w4.heap.size, 0, none⟩) 1 1 [10] (by rfl) rfl HB4.out (by have h1 := HOK.out.body; have h2 := HOK.out.size; have h3 := ns_length T; simp; omega) ?_
             intro y5 k5 cap5 q5 w5 hM5 hK5 hN5
             obtain ⟨x105, z105, F5, hP5, hk5, hm5⟩ := H4.out.grown ((((Keep.refl (fun _ => False) _).alloc (.cells #[.int .u8 10] 5)).mono (fun _ _ h => h.elim)).trans hK5 (fun _ _ h => h)) hM5 (fun i hi => (hN5 i hi).imp id (fun h => Nat.le_trans ((Keep.refl (fun _ => False) (w4.setCell ⟨g, 10, none⟩ (.slice y k cap))).alloc (.cells #[.int .u8 10] 5)).size h))
             have N5 := Lib.hid (N4.out.on ⟨_, _, _, _, _, _, hP5⟩ hk5 hm5)
             clear hM5 hK5 hN5 hP5 hk5 hm5))
        (try simp only [Exit.inBlock, Exit.then])
        first | go_end0 | refine bodyPost_ret (results_none rfl _ _ _) rfl ?_
        rw [HS'.out]
        have hfin := N5.out
        rw [HN.out] at hfin
        exact hfin.done
      · have HS' : Hid (p.ptext l = { p with bad := c, body := [] }) := Lib.hid (by rw [HS.out, if_neg (by omega)])
        go_enter Tryz.func67, Tryz.ntmps67
        go_wp2_with fail
        refine (HU.out _).mono ?_
        rintro e w1 ⟨rfl, hk⟩
        have N1 := Lib.hid (N0.out.quiet hk)
        obtain ⟨_, _, _, _, d11, fz1⟩ := N1.out.cells
        clear hk fz1
        go_wp2_with fail
        refine (HFW.out _ _ N1.out.rs N1.out.env).mono ?_
        rintro e w2 ⟨rfl, hk⟩
        have N2 := Lib.hid (N1.out.quiet hk)
        obtain ⟨lv, ev, rv, bv, o, xs, h3⟩ := N2.out.rs
        obtain ⟨_, _, _, _, _, _, _, _, _, _, i10, i11, fz3⟩ := h3.cells
        have g10 := fz3 10
        have g11 := fz3 11
        have H3 := Lib.hid h3
        clear hk h3 fz3 d11 c0 c1 c2 c11
        go_wp2
        (try simp only [Exit.inBlock, Exit.then])
        first | go_end0 | refine bodyPost_ret (results_none rfl _ _ _) rfl ?_
        have hA := (H3.out.row.put 11 (.int .i64 (c : Int))).put 10 (.slice none 0 0)
        rw [cells_bad] at hA
        obtain ⟨F5, a5, b5, m5⟩ := H3.out.put (p' := { p with bad := c, body := [] }) (lv' := lv) (rv' := rv) (bv' := nilV) (((Keep.refl (fun k => k = g) w2).setCell (p := ⟨g, 11, none⟩) (fun _ => rfl) _).setCell (p := ⟨g, 10, none⟩) (fun _ => rfl) _) hA rfl (.inl ⟨rfl, rfl⟩) (.inr ⟨rfl, rfl⟩) (.inl ⟨rfl, rfl, Iff.rfl⟩)
        rw [HS'.out]
        exact (N2.out.on a5 b5 m5).done
    · have HS : Hid (p.ptext l = p) := Lib.hid (by rw [Se.ptext, if_neg (by rw [hEl]; simp), if_neg (by omega)])
      clear h hE hok hc hE1 hEl
      go_enter Tryz.func67, Tryz.ntmps67
      go_wp2_with fail
      refine (HU.out _).mono ?_
      rintro e w1 ⟨rfl, hk⟩
      have N1 := Lib.hid (N0.out.quiet hk)
      obtain ⟨_, _, _, _, d11, fz1⟩ := N1.out.cells
      clear hk fz1
      go_wp2
      (try simp only [Exit.inBlock, Exit.then])
      first | go_end0 | refine bodyPost_ret (results_none rfl _ _ _) rfl ?_
      rw [HS.out]
      exact N1.out.done
end Go.Proofs.YtcjljldknekhiaaGreatDoor.Ln
