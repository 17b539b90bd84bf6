/-
  What the program's fault, endBody and bodyLine return.
-/
import Derived.Test.YtcjljldknekhiaaGreatDoorPv
import Derived.Test.YtcjljldknekhiaaGreatDoorPy
import Derived.Test.YtcjljldknekhiaaGreatDoorMb
import Derived.Test.YtcjljldknekhiaaGreatDoorAProg2
namespace Go.Proofs.YtcjljldknekhiaaGreatDoor.Ln
open Go.RowKit
set_option linter.unusedVariables false
set_option linter.unusedSimpArgs false

/-! ### Unstuff -/
theorem trim_un (s : ByteArray) (h : s ≠ { data := #[46] }) : (⟨(Lib.trimPrefix s.data.toList [46]).toArray⟩ : ByteArray) = str (unT (ns s)) := by
  have hne : ns s ≠ [46] := fun e => h (ns_inj (e.trans ns_point.symm))
  apply ns_inj
  have hlt : ∀ c ∈ unT (ns s), c < 256 := fun c hc => by
    unfold unT at hc
    rw [if_neg hne] at hc
    split at hc
    · exact ns_lt s c (List.mem_of_mem_drop hc)
    · exact ns_lt s c hc
  rw [ns_str hlt]
  unfold unT
  rw [if_neg hne, ns_data s]
  cases hs : s.data.toList with
  | nil => simp [Lib.trimPrefix, Lib.hasPrefix, ns]
  | cons c t =>
    by_cases hc : c = 46
    · subst hc
      simp [Lib.trimPrefix, Lib.hasPrefix, List.isPrefixOf, ns]
    · have hc' : c.toNat ≠ 46 := fun e => hc (UInt8.toNat_inj.1 e)
      have h46 : (46 == c) = false := by rw [beq_eq_false_iff_ne]; exact fun e => hc e.symm
      simp [Lib.trimPrefix, Lib.hasPrefix, List.isPrefixOf, ns, hc', h46]
theorem unT_len (l : List Nat) : (unT l).length ≤ l.length := by
  unfold unT
  split
  · simp
  · split
    · simp
    · exact Nat.le_refl _
theorem unT_lt {l : List Nat} (h : ∀ c ∈ l, c < 256) : ∀ c ∈ unT l, c < 256 := fun c hc => by
  unfold unT at hc
  split at hc
  · cases hc
  · split at hc
    · exact h c (List.mem_of_mem_drop hc)
    · exact h c hc
set_option maxHeartbeats 1000000 in
theorem punstuff (s : ByteArray) (w : World) (hs : s.size ≤ 1000) :
    Calls Tryz.prog 85 #[.string s] w fun e w' => e = .returned (.tuple #[.string (str (unT (ns s))), .bool (unE (ns s))]) ∧ Keep (fun _ => False) w w' := by
  by_cases h : s = { data := #[46] }
  · subst h
    go_enter Tryz.func85, Tryz.ntmps85
    go_wp2
    go_ret2
    refine ⟨?_, Keep.refl _ _⟩
    rw [ns_point, un_end.1, un_end.2]
    rfl
  · have ht := trim_un s h
    have hE := unE_ne h
    have HT := Lib.hid ht
    have HE := Lib.hid hE
    have hsz : (str (unT (ns s))).size ≤ 1000 := by
      rw [str_size]
      have := ns_length s
      have := unT_len (ns s)
      omega
    have hq := list_ne h
    clear ht hE
    go_enter Tryz.func85, Tryz.ntmps85
    go_wp2_with fail
    refine (Ad.strings_TrimPrefix s _ w).mono ?_
    rintro e w1 ⟨rfl, hw⟩
    subst w1
    have e46 : ({ data := #[46] } : ByteArray).data.toList = [46] := rfl
    rw [e46, HT.out]
    go_wp2_with fail
    refine (Ad.clone_walk _ hsz _).mono ?_
    rintro e w2 ⟨rfl, hk⟩
    go_wp2
    go_ret2
    refine ⟨?_, Keep.of_below hk⟩
    rw [HE.out]
    rfl

/-! ### What is wrong -/
def faultC (p : Se) (t : ByteArray) (long : Bool) : Nat := if long = true ∨ odd (ns t) = true then 500 else if p.size < p.body.length + t.size + 1 then 552 else 0
set_option maxHeartbeats 4000000 in
set_option maxRecDepth 100000 in
theorem pfaultW {F : Nat → Prop} {w : World} {g : Nat} {p : Se} (h : PS F w g p) (hE : Env w) (hok : Ok p) (t : ByteArray) (ht : t.size ≤ 1000) (long : Bool) :
    Calls Tryz.prog 87 #[.pointer (some ⟨g, 0, none⟩), .string t, .bool long] w fun e w' => e = .returned (.int .i64 (faultC p t long : Int)) ∧ Keep (fun _ => False) w w' := by
  cases long with
  | true =>
    have HF : Hid (faultC p t true = 500) := Lib.hid (by rw [faultC, if_pos (.inl rfl)])
    clear h hE hok
    go_enter Tryz.func87, Tryz.ntmps87
    go_wp2
    go_ret
    exact ⟨by rw [HF.out]; rfl, Keep.refl _ _⟩
  | false =>
    obtain ⟨lv, ev, rv, bv, o, xs, h⟩ := h
    obtain ⟨x, cap, rfl, hcap, _, _⟩ := h.body.shape
    obtain ⟨_, c1, _, _, _, _, _, _, _, _, c10, _, _⟩ := h.cells
    have hs := hok.size
    have hb := hok.body
    obtain ⟨n, hn⟩ : ∃ n, n = p.body.length := ⟨_, rfl⟩
    rw [← hn] at c10 hb
    have HN := Lib.hid hn
    have HCN := Lib.hid (containsC t w (by omega))
    cases ho : odd (ns t) with
    | true =>
      have HF : Hid (faultC p t false = 500) := Lib.hid (by rw [faultC, if_pos (.inr ho)])
      rw [ho] at HCN
      clear h hE hok ho hn
      go_enter Tryz.func87, Tryz.ntmps87
      go_wp2_with fail
      refine HCN.out.mono ?_
      rintro e w1 ⟨rfl, hk⟩
      have HK := Lib.hid hk
      clear hk
      go_wp2
      go_ret
      exact ⟨by rw [HF.out]; rfl, HK.out⟩
    | false =>
      rw [ho] at HCN
      by_cases hz : (p.size : Int) < (n : Int) + (t.size : Int) + 1
      · have HF : Hid (faultC p t false = 552) := Lib.hid (by rw [faultC, if_neg (by rw [ho]; simp), if_pos (by have := HN.out; omega)])
        clear h hE hok ho hn
        go_enter Tryz.func87, Tryz.ntmps87
        go_wp2_with fail
        refine HCN.out.mono ?_
        rintro e w1 ⟨rfl, hk⟩
        have HK := Lib.hid hk
        have d1 := hk.cell c1 (fun h => h)
        have d10 := hk.cell c10 (fun h => h)
        clear hk
        go_wp2
        go_quiet (fail)
        go_wp2
        go_ret
        exact ⟨by rw [HF.out]; rfl, HK.out.drewN _⟩
      · have HF : Hid (faultC p t false = 0) := Lib.hid (by rw [faultC, if_neg (by rw [ho]; simp), if_neg (by have := HN.out; omega)])
        clear h hE hok ho hn
        go_enter Tryz.func87, Tryz.ntmps87
        go_wp2_with fail
        refine HCN.out.mono ?_
        rintro e w1 ⟨rfl, hk⟩
        have HK := Lib.hid hk
        have d1 := hk.cell c1 (fun h => h)
        have d10 := hk.cell c10 (fun h => h)
        clear hk
        go_wp2
        go_quiet (fail)
        go_wp2
        go_ret
        exact ⟨by rw [HF.out]; rfl, HK.out.drewN _⟩

/-! ### A body's end -/
section
variable {F : Nat → Prop} {w w' : World} {g : Nat} {p : Se} {lv ev rv bv : Value} {o : Own} {xs : List Value}
theorem cells_kept (p : Se) (lv ev rv bv u : Value) : ((((((((pCells p lv ev rv bv).setIfInBounds 4 u).setIfInBounds 5 (.int .i64 0)).setIfInBounds 6 (.int .i64 0)).setIfInBounds 7 (.int .i64 0)).setIfInBounds 8 (.string { data := #[] })).setIfInBounds 9 (.slice none 0 0)).setIfInBounds 10 (.slice none 0 0)).setIfInBounds 2 (.int .i64 5) = pCells p.kept lv u nilV nilV := by
  simp only [pCells, List.setIfInBounds_toArray, List.set_cons_zero, List.set_cons_succ]
  rfl
/-- The mail is told, and is its taker's from then on. -/
theorem PSat.kept (h : PSat F w g p lv ev rv bv o xs) (h6 : p.st ≠ 6) {y : Option Addr} {m cap : Nat} {q' : Option Nat} (hA : At w' g 68 (pCells p.kept lv (.slice y m cap) nilV nilV)) (hM : MidG 46 8 w' (.slice y m cap) q' (p.out.length + 1) (xs ++ evCells 2 nobody p.frm rv bv)) (k : Keep (fun i => i = g ∨ o.qe = some i) w w') (hN : New w o.qe q') :
    ∃ F', PS F' w' g p.kept ∧ Keep F w w' ∧ More F F' w := by
  have h1 := h.neg
  have h2 := h.ner
  have h3 := h.neb
  have h4 := h.nel
  have h5 := h.neL
  have hrc := (h.rc.txt rfl).keep (R' := fun b => PRd F g o b ∨ o.qr = some b ∨ o.qb = some b) k (fun b _ hb => ⟨fun e => e.elim (h1 b (.inr (.inl hb))) (h2 b hb).1, .inr (.inl hb)⟩)
  have hbd := (h.body.byv).keep (R' := fun b => PRd F g o b ∨ o.qr = some b ∨ o.qb = some b) k (fun b _ hb => ⟨fun e => e.elim (h1 b (.inr (.inr (.inl hb)))) (h3 b hb).1, .inr (.inr hb)⟩)
  have hev : EvAt (fun b => PRd F g o b ∨ o.qr = some b ∨ o.qb = some b) w' (.keep p.frm p.rcpts p.body) (evCells 2 nobody p.frm rv bv) := ⟨rv, bv, rfl, hrc, hbd⟩
  obtain ⟨F', H1, H2, H3⟩ := h.turn (p' := p.kept) (lv' := lv) (ev' := .slice y m cap) (rv' := nilV) (bv' := nilV) (o' := { o with qe := q', qr := none, qb := none }) (xs' := xs ++ evCells 2 nobody p.frm rv bv) (R1 := fun b => PRd F g o b ∨ o.qr = some b ∨ o.qb = some b) k (fun i _ e => e.elim .inl (fun e => .inr (.inl e))) hA
    (by rw [show p.kept.out.length = p.out.length + 1 by simp [Se.kept]]; exact hM)
    (EvsAt.snoc hev (h.evs.keepW k (fun b _ hR => ⟨fun e => e.elim hR.2.1 (fun e => hR.2.2 (.inl e)), .inl hR⟩)))
    (MidG.empty _ _ _ _) (Mid.empty _ _) (by
      have hL := h.lin.keep k (fun b hb e => e.elim (h1 b (.inr (.inr (.inr (.inr hb))))) (h5 b hb).1) (fun b hb e => e.elim (h1 b (.inr (.inr (.inr (.inl hb))))) (h4 b hb).1)
      rcases hL with ⟨e6, _⟩ | ⟨_, hx⟩
      · exact absurd e6 h6
      · exact .inr ⟨by show 5 ≠ 6; omega, hx⟩)
    (fun i hi => by cases hi) (fun i hi => by
      rcases hi with hi | hi | hi | hi | hi
      · rcases hN i hi with e | e
        · exact .inl (.inl e)
        · exact .inr e
      · cases hi
      · cases hi
      · exact .inl (.inr (.inr (.inr (.inl hi))))
      · exact .inl (.inr (.inr (.inr (.inr hi))))) (fun i _ hR => by
      have hF : F i := by
        rcases hR with hR | hR | hR
        · exact hR.1
        · exact h.own i (.inr (.inl hR))
        · exact h.own i (.inr (.inr (.inl hR)))
      have hlt := h.flt i hF
      refine ⟨.inl hF, ?_, fun hi => ?_⟩
      · rcases hR with hR | hR | hR
        · exact hR.2.1
        · exact h1 i (.inr (.inl hR))
        · exact h1 i (.inr (.inr (.inl hR)))
      · have hq : o.qe = some i → False := fun e => by
          rcases hR with hR | hR | hR
          · exact hR.2.2 (.inl e)
          · exact (h2 i hR).1 e
          · exact (h3 i hR).1 e
        rcases hi with hi | hi | hi | hi | hi
        · rcases hN i hi with e | e
          · exact hq e
          · omega
        · cases hi
        · cases hi
        · rcases hR with hR | hR | hR
          · exact hR.2.2 (.inr (.inr (.inr (.inl hi))))
          · exact (h2 i hR).2.2.1 hi
          · exact (h3 i hR).2.2.1 hi
        · rcases hR with hR | hR | hR
          · exact hR.2.2 (.inr (.inr (.inr (.inr hi))))
          · exact (h2 i hR).2.2.2 hi
          · exact (h3 i hR).2.2.2 hi)
  exact ⟨F', ⟨_, _, _, _, _, _, H1⟩, H2, H3⟩
/-- The body's row has grown. -/
theorem PSat.grown {X : World} {v : Value} {q : Option Nat} {bs : List Nat} (h : PSat F w g p lv ev rv bv o xs) (k : Keep (fun i => o.qb = some i) w X) (hM : Mid X v q bs) (hN : New w o.qb q) :
    X.cell? ⟨g, 10, none⟩ = some bv ∧ X.frozen? ⟨g, 10, none⟩ = false ∧ ∃ F', PSat F' (X.setCell ⟨g, 10, none⟩ v) g { p with body := bs } lv ev rv v { o with qb := q } xs ∧ Keep F w (X.setCell ⟨g, 10, none⟩ v) ∧ More F F' w := by
  have h1 := h.neg
  have h2 := h.nee
  have h3 := h.ner
  have h4 := h.nel
  have h5 := h.neL
  have hA := h.row.keep k (fun e => h1 g (.inr (.inr (.inl e))) rfl)
  have kg : Keep (fun i => i = g) X (X.setCell ⟨g, 10, none⟩ v) := (Keep.refl (fun i => i = g) X).setCell (p := ⟨g, 10, none⟩) (fun _ => rfl) _
  have kk : Keep (fun i => i = g ∨ o.qb = some i) w (X.setCell ⟨g, 10, none⟩ v) := (k.mono (fun _ _ e => .inr e)).trans kg (fun _ _ e => .inl e)
  have hlq : ∀ i, q = some i → o.qe ≠ some i ∧ o.qr ≠ some i ∧ o.ql ≠ some i ∧ o.gl ≠ some i := fun i hi => by
    rcases hN i hi with e | e
    · have := h.neb i e; exact this
    · have hx : ∀ {z : Option Nat}, (z = some i → o.has i) → z ≠ some i := fun hz ez => by have := h.flt i (h.own i (hz ez)); omega
      exact ⟨hx .inl, hx (fun e => .inr (.inl e)), hx (fun e => .inr (.inr (.inr (.inl e)))), hx (fun e => .inr (.inr (.inr (.inr e))))⟩
  obtain ⟨F', H1, H2, H3⟩ := h.turn (p' := { p with body := bs }) (lv' := lv) (ev' := ev) (rv' := rv) (bv' := v) (o' := { o with qb := q }) (xs' := xs) (R1 := PRd F g o) kk (fun i _ e => e.elim .inl (fun e => .inr (.inr (.inr (.inl e))))) (hA.put 10 v)
    (h.out.keep kk (fun b hb e => e.elim (h1 b (.inl hb)) (h2 b hb).2.1)) (h.evs.keepW kk (fun b _ hR => ⟨fun e => e.elim hR.2.1 (fun e => hR.2.2 (.inr (.inr (.inl e)))), hR⟩))
    (h.rc.keep kk (fun b hb e => e.elim (h1 b (.inr (.inl hb))) (h3 b hb).2.1)) (hM.keep kg (fun b hb e => hM.ne hA (by decide) (by rw [hb, e]))) (h.lin.keep kk (fun b hb e => e.elim (h1 b (.inr (.inr (.inr (.inr hb))))) (h5 b hb).2.2.1) (fun b hb e => e.elim (h1 b (.inr (.inr (.inr (.inl hb))))) (h4 b hb).2.2.1))
    (fun i hi => (hlq i hi).2.2.1) (fun i hi => by
      rcases hi with hi | hi | hi | hi
      · exact .inl (.inl hi)
      · exact .inl (.inr (.inl hi))
      · rcases hN i hi with e | e
        · exact .inl (.inr (.inr (.inl e)))
        · exact .inr e
      · exact .inl (.inr (.inr (.inr hi)))) (fun i _ hR => ⟨.inl hR.1, hR.2.1, fun hi => by
      rcases hi with hi | hi | hi | hi
      · exact hR.2.2 (.inl hi)
      · exact hR.2.2 (.inr (.inl hi))
      · rcases hN i hi with e | e
        · exact hR.2.2 (.inr (.inr (.inl e)))
        · have := h.flt i hR.1; omega
      · exact hR.2.2 (.inr (.inr (.inr hi)))⟩)
  exact ⟨hA.cell 10, hA.frozen 10, F', H1, H2, H3⟩
end
set_option maxHeartbeats 4000000 in
set_option maxRecDepth 100000 in
theorem pendBody {F : Nat → Prop} {w : World} {g : Nat} {p : Se} (h : PS F w g p) (hE : Env w) (hok : Ok p) (h6 : p.st ≠ 6) (hl : p.out.length + 2 ≤ 1000000) :
    Calls Tryz.prog 86 #[.pointer (some ⟨g, 0, none⟩)] w (PDid F g p.pend w) := by
  have N0 := Lib.hid (PNow.start h hE)
  by_cases hb : (p.bad : Int) = 0
  · obtain ⟨lv, ev, rv, bv, o, xs, h⟩ := h
    obtain ⟨ex, ec, rfl, _⟩ := h.out.shape
    obtain ⟨rx, rc, rfl, _⟩ := h.rc.shape
    obtain ⟨bx, bc, rfl, _, _, _⟩ := h.body.shape
    obtain ⟨_, _, c2, _, c4, c5, c6, c7, c8, c9, c10, c11, fz⟩ := h.cells
    have HS : Hid (p.pend = p.kept) := Lib.hid (by rw [Se.pend, if_pos (by omega)])
    have H := Lib.hid h
    have H6 := Lib.hid h6
    clear h hE hok h6 fz
    go_enter Tryz.func86, Tryz.ntmps86
    go_wp2_with fail
    refine (tellRaw H.out.row rfl H.out.out (by omega) 2 nobody p.frm rx bx _ rc _ bc).mono ?_
    rintro e w' ⟨rfl, y, m, cap', q', hA, hM, hK, hN⟩
    have d5 := hA.cell 5
    have d6 := hA.cell 6
    have d7 := hA.cell 7
    have d8 := hA.cell 8
    have d9 := hA.cell 9
    have d10 := hA.cell 10
    have d2 := hA.cell 2
    have g2 := hA.frozen 2
    have g5 := hA.frozen 5
    have g6 := hA.frozen 6
    have g7 := hA.frozen 7
    have g8 := hA.frozen 8
    have g9 := hA.frozen 9
    have g10 := hA.frozen 10
    have HA := Lib.hid hA
    have HM := Lib.hid hM
    have HK := Lib.hid hK
    have HN := Lib.hid hN
    clear hA hM hK hN
    simp [pCells] at d2 d5 d6 d7 d8 d9 d10
    go_wp2
    go_end0
    have hA2 := ((((((HA.out.put 5 (.int .i64 0)).put 6 (.int .i64 0)).put 7 (.int .i64 0)).put 8 (.string { data := #[] })).put 9 (.slice none 0 0)).put 10 (.slice none 0 0)).put 2 (.int .i64 5)
    rw [cells_kept] at hA2
    have kg : Keep (fun i => i = g) w' (((((((w'.setCell ⟨g, 5, none⟩ (.int .i64 0)).setCell ⟨g, 6, none⟩ (.int .i64 0)).setCell ⟨g, 7, none⟩ (.int .i64 0)).setCell ⟨g, 8, none⟩ (.string { data := #[] })).setCell ⟨g, 9, none⟩ (.slice none 0 0)).setCell ⟨g, 10, none⟩ (.slice none 0 0)).setCell ⟨g, 2, none⟩ (.int .i64 5)) :=
      (((((((Keep.refl (fun k => k = g) w').setCell (p := ⟨g, 5, none⟩) (fun _ => rfl) _).setCell (p := ⟨g, 6, none⟩) (fun _ => rfl) _).setCell (p := ⟨g, 7, none⟩) (fun _ => rfl) _).setCell (p := ⟨g, 8, none⟩) (fun _ => rfl) _).setCell (p := ⟨g, 9, none⟩) (fun _ => rfl) _).setCell (p := ⟨g, 10, none⟩) (fun _ => rfl) _).setCell (p := ⟨g, 2, none⟩) (fun _ => rfl) _
    rw [HS.out]
    exact ⟨rfl, H.out.kept H6.out hA2 (HM.out.keep kg (fun b hb e => HM.out.ne HA.out (by decide) (by rw [hb, e]))) (HK.out.trans kg (fun _ _ e => .inl e)) HN.out⟩
  · have HS : Hid (p.pend = p.reset.say (reply p.bad)) := Lib.hid (by rw [Se.pend, if_neg (by omega)])
    obtain ⟨_, _, _, _, c11, _⟩ := N0.out.cells
    have hbd : p.bad ≤ 1000000 := by rcases hok.bad with e | e | e <;> omega
    have H6 := Lib.hid h6
    clear h hE hok h6
    go_enter Tryz.func86, Tryz.ntmps86
    go_wp2_with fail
    refine (preset N0.out.rs H6.out).mono ?_
    rintro e w1 hd
    obtain ⟨rfl, F1, hN1⟩ := N0.out.did hd
    have N1 := Lib.hid hN1
    clear hd hN1
    go_wp2_with fail
    refine (preply N1.out.rs N1.out.env p.bad hbd (by show p.out.length ≤ 1000000; omega)).mono ?_
    rintro e w2 hd
    obtain ⟨rfl, F2, hN2⟩ := N1.out.did hd
    have N2 := Lib.hid hN2
    clear hd hN2
    go_wp2_with fail
    (try simp only [Exit.inBlock, Exit.then])
    first | go_end0 | refine bodyPost_ret (results_none rfl _ _ _) rfl ?_
    rw [HS.out]
    exact N2.out.done
end Go.Proofs.YtcjljldknekhiaaGreatDoor.Ln
