/-
  Several texts in one: Pb Pc Pw.
-/
import Derived.Test.YtcjljldknekhiaaGreatDoorKg3
import Derived.Test.YtcjljldknekhiaaGreatDoorKg4
import Derived.Test.YtcjljldknekhiaaGreatDoorKg5

section
/-
  What the program's fault, endBody and bodyLine return.
-/
namespace Go.Proofs.YtcjljldknekhiaaGreatDoor.Ln
open Go.RowKit
set_option linter.unusedVariables false
set_option linter.unusedSimpArgs false

/-! ### Unstuff -/
theorem trim_un (s : ByteArray) (h : s ≠ { data := #[46] }) : (⟨(Lib.trimPrefix s.data.toList [46]).toArray⟩ : ByteArray) = str (unT (ns s)) := by
  have hne : ns s ≠ [46] := fun e => h (ns_inj (e.trans ns_point.symm))
  apply ns_inj
  have hlt : ∀ c ∈ unT (ns s), c < 256 := fun c hc => by
    unfold unT at hc
    rw [if_neg hne] at hc
    split at hc
    · exact ns_lt s c (List.mem_of_mem_drop hc)
    · exact ns_lt s c hc
  rw [ns_str hlt]
  unfold unT
  rw [if_neg hne, ns_data s]
  cases hs : s.data.toList with
  | nil => simp [Lib.trimPrefix, Lib.hasPrefix, ns]
  | cons c t =>
    by_cases hc : c = 46
    · subst hc
      simp [Lib.trimPrefix, Lib.hasPrefix, List.isPrefixOf, ns]
    · have hc' : c.toNat ≠ 46 := fun e => hc (UInt8.toNat_inj.1 e)
      have h46 : (46 == c) = false := by rw [beq_eq_false_iff_ne]; exact fun e => hc e.symm
      simp [Lib.trimPrefix, Lib.hasPrefix, List.isPrefixOf, ns, hc', h46]
theorem unT_len (l : List Nat) : (unT l).length ≤ l.length := by
  unfold unT
  split
  · simp
  · split
    · simp
    · exact Nat.le_refl _
theorem unT_lt {l : List Nat} (h : ∀ c ∈ l, c < 256) : ∀ c ∈ unT l, c < 256 := fun c hc => by
  unfold unT at hc
  split at hc
  · cases hc
  · split at hc
    · exact h c (List.mem_of_mem_drop hc)
    · exact h c hc
set_option maxHeartbeats 1000000 in
theorem punstuff (s : ByteArray) (w : World) (hs : s.size ≤ 1000) :
    Calls Tryz.prog 85 #[.string s] w fun e w' => e = .returned (.tuple #[.string (str (unT (ns s))), .bool (unE (ns s))]) ∧ Keep (fun _ => False) w w' := by
  by_cases h : s = { data := #[46] }
  · subst h
    go_enter Tryz.func85, Tryz.ntmps85
    go_wp2
    go_ret2
    refine ⟨?_, Keep.refl _ _⟩
    rw [ns_point, un_end.1, un_end.2]
    rfl
  · have ht := trim_un s h
    have hE := unE_ne h
    have HT := Lib.hid ht
    have HE := Lib.hid hE
    have hsz : (str (unT (ns s))).size ≤ 1000 := by
      rw [str_size]
      have := ns_length s
      have := unT_len (ns s)
      omega
    have hq := list_ne h
    clear ht hE
    go_enter Tryz.func85, Tryz.ntmps85
    go_wp2_with fail
    refine (Ad.strings_TrimPrefix s _ w).mono ?_
    rintro e w1 ⟨rfl, hw⟩
    subst w1
    have e46 : ({ data := #[46] } : ByteArray).data.toList = [46] := rfl
    rw [e46, HT.out]
    go_wp2_with fail
    refine (Ad.clone_walk _ hsz _).mono ?_
    rintro e w2 ⟨rfl, hk⟩
    go_wp2
    go_ret2
    refine ⟨?_, Keep.of_below hk⟩
    rw [HE.out]
    rfl

/-! ### What is wrong -/
def faultC (p : Se) (t : ByteArray) (long : Bool) : Nat := if long = true ∨ odd (ns t) = true then 500 else if p.size < p.body.length + t.size + 1 then 552 else 0
set_option maxHeartbeats 4000000 in
set_option maxRecDepth 100000 in
theorem pfaultW {F : Nat → Prop} {w : World} {g : Nat} {p : Se} (h : PS F w g p) (hE : Env w) (hok : Ok p) (t : ByteArray) (ht : t.size ≤ 1000) (long : Bool) :
    Calls Tryz.prog 87 #[.pointer (some ⟨g, 0, none⟩), .string t, .bool long] w fun e w' => e = .returned (.int .i64 (faultC p t long : Int)) ∧ Keep (fun _ => False) w w' := by
  cases long with
  | true =>
    have HF : Hid (faultC p t true = 500) := Lib.hid (by rw [faultC, if_pos (.inl rfl)])
    clear h hE hok
    go_enter Tryz.func87, Tryz.ntmps87
    go_wp2
    go_ret
    exact ⟨by rw [HF.out]; rfl, Keep.refl _ _⟩
  | false =>
    obtain ⟨lv, ev, rv, bv, o, xs, h⟩ := h
    obtain ⟨x, cap, rfl, hcap, _, _⟩ := h.body.shape
    obtain ⟨_, c1, _, _, _, _, _, _, _, _, c10, _, _⟩ := h.cells
    have hs := hok.size
    have hb := hok.body
    obtain ⟨n, hn⟩ : ∃ n, n = p.body.length := ⟨_, rfl⟩
    rw [← hn] at c10 hb
    have HN := Lib.hid hn
    have HCN := Lib.hid (containsC t w (by omega))
    cases ho : odd (ns t) with
    | true =>
      have HF : Hid (faultC p t false = 500) := Lib.hid (by rw [faultC, if_pos (.inr ho)])
      rw [ho] at HCN
      clear h hE hok ho hn
      go_enter Tryz.func87, Tryz.ntmps87
      go_wp2_with fail
      refine HCN.out.mono ?_
      rintro e w1 ⟨rfl, hk⟩
      have HK := Lib.hid hk
      clear hk
      go_wp2
      go_ret
      exact ⟨by rw [HF.out]; rfl, HK.out⟩
    | false =>
      rw [ho] at HCN
      by_cases hz : (p.size : Int) < (n : Int) + (t.size : Int) + 1
      · have HF : Hid (faultC p t false = 552) := Lib.hid (by rw [faultC, if_neg (by rw [ho]; simp), if_pos (by have := HN.out; omega)])
        clear h hE hok ho hn
        go_enter Tryz.func87, Tryz.ntmps87
        go_wp2_with fail
        refine HCN.out.mono ?_
        rintro e w1 ⟨rfl, hk⟩
        have HK := Lib.hid hk
        have d1 := hk.cell c1 (fun h => h)
        have d10 := hk.cell c10 (fun h => h)
        clear hk
        go_wp2
        go_quiet (fail)
        go_wp2
        go_ret
        exact ⟨by rw [HF.out]; rfl, HK.out.drewN _⟩
      · have HF : Hid (faultC p t false = 0) := Lib.hid (by rw [faultC, if_neg (by rw [ho]; simp), if_neg (by have := HN.out; omega)])
        clear h hE hok ho hn
        go_enter Tryz.func87, Tryz.ntmps87
        go_wp2_with fail
        refine HCN.out.mono ?_
        rintro e w1 ⟨rfl, hk⟩
        have HK := Lib.hid hk
        have d1 := hk.cell c1 (fun h => h)
        have d10 := hk.cell c10 (fun h => h)
        clear hk
        go_wp2
        go_quiet (fail)
        go_wp2
        go_ret
        exact ⟨by rw [HF.out]; rfl, HK.out.drewN _⟩

/-! ### A body's end -/
section
variable {F : Nat → Prop} {w w' : World} {g : Nat} {p : Se} {lv ev rv bv : Value} {o : Own} {xs : List Value}
theorem cells_kept (p : Se) (lv ev rv bv u : Value) : ((((((((pCells p lv ev rv bv).setIfInBounds 4 u).setIfInBounds 5 (.int .i64 0)).setIfInBounds 6 (.int .i64 0)).setIfInBounds 7 (.int .i64 0)).setIfInBounds 8 (.string { data := #[] })).setIfInBounds 9 (.slice none 0 0)).setIfInBounds 10 (.slice none 0 0)).setIfInBounds 2 (.int .i64 5) = pCells p.kept lv u nilV nilV := by
  simp only [pCells, List.setIfInBounds_toArray, List.set_cons_zero, List.set_cons_succ]
  rfl
/-- The mail is told, and is its taker's from then on. -/
theorem PSat.kept (h : PSat F w g p lv ev rv bv o xs) (h6 : p.st ≠ 6) {y : Option Addr} {m cap : Nat} {q' : Option Nat} (hA : At w' g 68 (pCells p.kept lv (.slice y m cap) nilV nilV)) (hM : MidG 46 8 w' (.slice y m cap) q' (p.out.length + 1) (xs ++ evCells 2 nobody p.frm rv bv)) (k : Keep (fun i => i = g ∨ o.qe = some i) w w') (hN : New w o.qe q') :
    ∃ F', PS F' w' g p.kept ∧ Keep F w w' ∧ More F F' w := by
  have h1 := h.neg
  have h2 := h.ner
  have h3 := h.neb
  have h4 := h.nel
  have h5 := h.neL
  have hrc := (h.rc.txt rfl).keep (R' := fun b => PRd F g o b ∨ o.qr = some b ∨ o.qb = some b) k (fun b _ hb => ⟨fun e => e.elim (h1 b (.inr (.inl hb))) (h2 b hb).1, .inr (.inl hb)⟩)
  have hbd := (h.body.byv).keep (R' := fun b => PRd F g o b ∨ o.qr = some b ∨ o.qb = some b) k (fun b _ hb => ⟨fun e => e.elim (h1 b (.inr (.inr (.inl hb)))) (h3 b hb).1, .inr (.inr hb)⟩)
  have hev : EvAt (fun b => PRd F g o b ∨ o.qr = some b ∨ o.qb = some b) w' (.keep p.frm p.rcpts p.body) (evCells 2 nobody p.frm rv bv) := ⟨rv, bv, rfl, hrc, hbd⟩
  obtain ⟨F', H1, H2, H3⟩ := h.turn (p' := p.kept) (lv' := lv) (ev' := .slice y m cap) (rv' := nilV) (bv' := nilV) (o' := { o with qe := q', qr := none, qb := none }) (xs' := xs ++ evCells 2 nobody p.frm rv bv) (R1 := fun b => PRd F g o b ∨ o.qr = some b ∨ o.qb = some b) k (fun i _ e => e.elim .inl (fun e => .inr (.inl e))) hA
    (by rw [show p.kept.out.length = p.out.length + 1 by simp [Se.kept]]; exact hM)
    (EvsAt.snoc hev (h.evs.keepW k (fun b _ hR => ⟨fun e => e.elim hR.2.1 (fun e => hR.2.2 (.inl e)), .inl hR⟩)))
    (MidG.empty _ _ _ _) (Mid.empty _ _) (by
      have hL := h.lin.keep k (fun b hb e => e.elim (h1 b (.inr (.inr (.inr (.inr hb))))) (h5 b hb).1) (fun b hb e => e.elim (h1 b (.inr (.inr (.inr (.inl hb))))) (h4 b hb).1)
      rcases hL with ⟨e6, _⟩ | ⟨_, hx⟩
      · exact absurd e6 h6
      · exact .inr ⟨by show 5 ≠ 6; omega, hx⟩)
    (fun i hi => by cases hi) (fun i hi => by
      rcases hi with hi | hi | hi | hi | hi
      · rcases hN i hi with e | e
        · exact .inl (.inl e)
        · exact .inr e
      · cases hi
      · cases hi
      · exact .inl (.inr (.inr (.inr (.inl hi))))
      · exact .inl (.inr (.inr (.inr (.inr hi))))) (fun i _ hR => by
      have hF : F i := by
        rcases hR with hR | hR | hR
        · exact hR.1
        · exact h.own i (.inr (.inl hR))
        · exact h.own i (.inr (.inr (.inl hR)))
      have hlt := h.flt i hF
      refine ⟨.inl hF, ?_, fun hi => ?_⟩
      · rcases hR with hR | hR | hR
        · exact hR.2.1
        · exact h1 i (.inr (.inl hR))
        · exact h1 i (.inr (.inr (.inl hR)))
      · have hq : o.qe = some i → False := fun e => by
          rcases hR with hR | hR | hR
          · exact hR.2.2 (.inl e)
          · exact (h2 i hR).1 e
          · exact (h3 i hR).1 e
        rcases hi with hi | hi | hi | hi | hi
        · rcases hN i hi with e | e
          · exact hq e
          · omega
        · cases hi
        · cases hi
        · rcases hR with hR | hR | hR
          · exact hR.2.2 (.inr (.inr (.inr (.inl hi))))
          · exact (h2 i hR).2.2.1 hi
          · exact (h3 i hR).2.2.1 hi
        · rcases hR with hR | hR | hR
          · exact hR.2.2 (.inr (.inr (.inr (.inr hi))))
          · exact (h2 i hR).2.2.2 hi
          · exact (h3 i hR).2.2.2 hi)
  exact ⟨F', ⟨_, _, _, _, _, _, H1⟩, H2, H3⟩
/-- The body's row has grown. -/
theorem PSat.grown {X : World} {v : Value} {q : Option Nat} {bs : List Nat} (h : PSat F w g p lv ev rv bv o xs) (k : Keep (fun i => o.qb = some i) w X) (hM : Mid X v q bs) (hN : New w o.qb q) :
    X.cell? ⟨g, 10, none⟩ = some bv ∧ X.frozen? ⟨g, 10, none⟩ = false ∧ ∃ F', PSat F' (X.setCell ⟨g, 10, none⟩ v) g { p with body := bs } lv ev rv v { o with qb := q } xs ∧ Keep F w (X.setCell ⟨g, 10, none⟩ v) ∧ More F F' w := by
  have h1 := h.neg
  have h2 := h.nee
  have h3 := h.ner
  have h4 := h.nel
  have h5 := h.neL
  have hA := h.row.keep k (fun e => h1 g (.inr (.inr (.inl e))) rfl)
  have kg : Keep (fun i => i = g) X (X.setCell ⟨g, 10, none⟩ v) := (Keep.refl (fun i => i = g) X).setCell (p := ⟨g, 10, none⟩) (fun _ => rfl) _
  have kk : Keep (fun i => i = g ∨ o.qb = some i) w (X.setCell ⟨g, 10, none⟩ v) := (k.mono (fun _ _ e => .inr e)).trans kg (fun _ _ e => .inl e)
  have hlq : ∀ i, q = some i → o.qe ≠ some i ∧ o.qr ≠ some i ∧ o.ql ≠ some i ∧ o.gl ≠ some i := fun i hi => by
    rcases hN i hi with e | e
    · have := h.neb i e; exact this
    · have hx : ∀ {z : Option Nat}, (z = some i → o.has i) → z ≠ some i := fun hz ez => by have := h.flt i (h.own i (hz ez)); omega
      exact ⟨hx .inl, hx (fun e => .inr (.inl e)), hx (fun e => .inr (.inr (.inr (.inl e)))), hx (fun e => .inr (.inr (.inr (.inr e))))⟩
  obtain ⟨F', H1, H2, H3⟩ := h.turn (p' := { p with body := bs }) (lv' := lv) (ev' := ev) (rv' := rv) (bv' := v) (o' := { o with qb := q }) (xs' := xs) (R1 := PRd F g o) kk (fun i _ e => e.elim .inl (fun e => .inr (.inr (.inr (.inl e))))) (hA.put 10 v)
    (h.out.keep kk (fun b hb e => e.elim (h1 b (.inl hb)) (h2 b hb).2.1)) (h.evs.keepW kk (fun b _ hR => ⟨fun e => e.elim hR.2.1 (fun e => hR.2.2 (.inr (.inr (.inl e)))), hR⟩))
    (h.rc.keep kk (fun b hb e => e.elim (h1 b (.inr (.inl hb))) (h3 b hb).2.1)) (hM.keep kg (fun b hb e => hM.ne hA (by decide) (by rw [hb, e]))) (h.lin.keep kk (fun b hb e => e.elim (h1 b (.inr (.inr (.inr (.inr hb))))) (h5 b hb).2.2.1) (fun b hb e => e.elim (h1 b (.inr (.inr (.inr (.inl hb))))) (h4 b hb).2.2.1))
    (fun i hi => (hlq i hi).2.2.1) (fun i hi => by
      rcases hi with hi | hi | hi | hi
      · exact .inl (.inl hi)
      · exact .inl (.inr (.inl hi))
      · rcases hN i hi with e | e
        · exact .inl (.inr (.inr (.inl e)))
        · exact .inr e
      · exact .inl (.inr (.inr (.inr hi)))) (fun i _ hR => ⟨.inl hR.1, hR.2.1, fun hi => by
      rcases hi with hi | hi | hi | hi
      · exact hR.2.2 (.inl hi)
      · exact hR.2.2 (.inr (.inl hi))
      · rcases hN i hi with e | e
        · exact hR.2.2 (.inr (.inr (.inl e)))
        · have := h.flt i hR.1; omega
      · exact hR.2.2 (.inr (.inr (.inr hi)))⟩)
  exact ⟨hA.cell 10, hA.frozen 10, F', H1, H2, H3⟩
end
set_option maxHeartbeats 4000000 in
set_option maxRecDepth 100000 in
theorem pendBody {F : Nat → Prop} {w : World} {g : Nat} {p : Se} (h : PS F w g p) (hE : Env w) (hok : Ok p) (h6 : p.st ≠ 6) (hl : p.out.length + 2 ≤ 1000000) :
    Calls Tryz.prog 86 #[.pointer (some ⟨g, 0, none⟩)] w (PDid F g p.pend w) := by
  have N0 := Lib.hid (PNow.start h hE)
  by_cases hb : (p.bad : Int) = 0
  · obtain ⟨lv, ev, rv, bv, o, xs, h⟩ := h
    obtain ⟨ex, ec, rfl, _⟩ := h.out.shape
    obtain ⟨rx, rc, rfl, _⟩ := h.rc.shape
    obtain ⟨bx, bc, rfl, _, _, _⟩ := h.body.shape
    obtain ⟨_, _, c2, _, c4, c5, c6, c7, c8, c9, c10, c11, fz⟩ := h.cells
    have HS : Hid (p.pend = p.kept) := Lib.hid (by rw [Se.pend, if_pos (by omega)])
    have H := Lib.hid h
    have H6 := Lib.hid h6
    clear h hE hok h6 fz
    go_enter Tryz.func86, Tryz.ntmps86
    go_wp2_with fail
    refine (tellRaw H.out.row rfl H.out.out (by omega) 2 nobody p.frm rx bx _ rc _ bc).mono ?_
    rintro e w' ⟨rfl, y, m, cap', q', hA, hM, hK, hN⟩
    have d5 := hA.cell 5
    have d6 := hA.cell 6
    have d7 := hA.cell 7
    have d8 := hA.cell 8
    have d9 := hA.cell 9
    have d10 := hA.cell 10
    have d2 := hA.cell 2
    have g2 := hA.frozen 2
    have g5 := hA.frozen 5
    have g6 := hA.frozen 6
    have g7 := hA.frozen 7
    have g8 := hA.frozen 8
    have g9 := hA.frozen 9
    have g10 := hA.frozen 10
    have HA := Lib.hid hA
    have HM := Lib.hid hM
    have HK := Lib.hid hK
    have HN := Lib.hid hN
    clear hA hM hK hN
    simp [pCells] at d2 d5 d6 d7 d8 d9 d10
    go_wp2
    go_end0
    have hA2 := ((((((HA.out.put 5 (.int .i64 0)).put 6 (.int .i64 0)).put 7 (.int .i64 0)).put 8 (.string { data := #[] })).put 9 (.slice none 0 0)).put 10 (.slice none 0 0)).put 2 (.int .i64 5)
    rw [cells_kept] at hA2
    have kg : Keep (fun i => i = g) w' (((((((w'.setCell ⟨g, 5, none⟩ (.int .i64 0)).setCell ⟨g, 6, none⟩ (.int .i64 0)).setCell ⟨g, 7, none⟩ (.int .i64 0)).setCell ⟨g, 8, none⟩ (.string { data := #[] })).setCell ⟨g, 9, none⟩ (.slice none 0 0)).setCell ⟨g, 10, none⟩ (.slice none 0 0)).setCell ⟨g, 2, none⟩ (.int .i64 5)) :=
      (((((((Keep.refl (fun k => k = g) w').setCell (p := ⟨g, 5, none⟩) (fun _ => rfl) _).setCell (p := ⟨g, 6, none⟩) (fun _ => rfl) _).setCell (p := ⟨g, 7, none⟩) (fun _ => rfl) _).setCell (p := ⟨g, 8, none⟩) (fun _ => rfl) _).setCell (p := ⟨g, 9, none⟩) (fun _ => rfl) _).setCell (p := ⟨g, 10, none⟩) (fun _ => rfl) _).setCell (p := ⟨g, 2, none⟩) (fun _ => rfl) _
    rw [HS.out]
    exact ⟨rfl, H.out.kept H6.out hA2 (HM.out.keep kg (fun b hb e => HM.out.ne HA.out (by decide) (by rw [hb, e]))) (HK.out.trans kg (fun _ _ e => .inl e)) HN.out⟩
  · have HS : Hid (p.pend = p.reset.say (reply p.bad)) := Lib.hid (by rw [Se.pend, if_neg (by omega)])
    obtain ⟨_, _, _, _, c11, _⟩ := N0.out.cells
    have hbd : p.bad ≤ 1000000 := by rcases hok.bad with e | e | e <;> omega
    have H6 := Lib.hid h6
    clear h hE hok h6
    go_enter Tryz.func86, Tryz.ntmps86
    go_wp2_with fail
    refine (preset N0.out.rs H6.out).mono ?_
    rintro e w1 hd
    obtain ⟨rfl, F1, hN1⟩ := N0.out.did hd
    have N1 := Lib.hid hN1
    clear hd hN1
    go_wp2_with fail
    refine (preply N1.out.rs N1.out.env p.bad hbd (by show p.out.length ≤ 1000000; omega)).mono ?_
    rintro e w2 hd
    obtain ⟨rfl, F2, hN2⟩ := N1.out.did hd
    have N2 := Lib.hid hN2
    clear hd hN2
    go_wp2_with fail
    (try simp only [Exit.inBlock, Exit.then])
    first | go_end0 | refine bodyPost_ret (results_none rfl _ _ _) rfl ?_
    rw [HS.out]
    exact N2.out.done
end Go.Proofs.YtcjljldknekhiaaGreatDoor.Ln
end

section
/-
  What the program's bodyLine returns.
-/
namespace Go.Proofs.YtcjljldknekhiaaGreatDoor.Ln
open Go.RowKit
set_option linter.unusedVariables false
set_option linter.unusedSimpArgs false

theorem fault_is {p : Se} {l : List Nat} (hl : l.length ≤ 1000) (hb : ∀ c ∈ l, c < 256) : faultC p (str (unT l)) false = pfault p l := by
  unfold faultC pfault
  rw [ns_str (unT_lt hb), str_size]
  have e : (false = true ∨ odd (unT l) = true) ↔ (1000 < l.length ∨ odd (unT l) = true) := by
    constructor
    · rintro (h | h)
      · cases h
      · exact .inr h
    · rintro (h | h)
      · omega
      · exact .inr h
  by_cases h : odd (unT l) = true
  · rw [if_pos (.inr h), if_pos (.inr h)]
  · have n1 : ¬ (false = true ∨ odd (unT l) = true) := by simp [h]
    have n2 : ¬ (1000 < l.length ∨ odd (unT l) = true) := by simp [h]; omega
    rw [if_neg n1, if_neg n2]
theorem unE_long {l : List Nat} (h : 1000 < l.length) : unE l = false := by
  unfold unE
  rw [beq_eq_false_iff_ne]
  rintro rfl
  simp at h
theorem fault_le (p : Se) (t : ByteArray) (b : Bool) : faultC p t b ≤ 1000 := by
  unfold faultC
  split; · omega
  split <;> omega
/-- The cells of what is wrong. -/
theorem cells_bad (p : Se) (lv ev rv bv : Value) (n : Nat) : ((pCells p lv ev rv bv).setIfInBounds 11 (.int .i64 (n : Int))).setIfInBounds 10 (.slice none 0 0) = pCells { p with bad := n, body := [] } lv ev rv nilV := by
  simp only [pCells, List.setIfInBounds_toArray, List.set_cons_zero, List.set_cons_succ]
  rfl

set_option maxHeartbeats 4000000 in
set_option maxRecDepth 100000 in
theorem bodyC {F : Nat → Prop} {w : World} {g : Nat} {p : Se} (h : PS F w g p) (hE : Env w) (hok : Ok p) (h4 : p.st = 4) (hl : p.out.length + 2 ≤ 1000000) (s : ByteArray) (hs : s.size ≤ 1000) (long : Bool) (l : List Nat) (hb : ∀ c ∈ l, c < 256)
    (hc : (long = false ∧ s = str l) ∨ (long = true ∧ s = { data := #[] } ∧ 1000 < l.length)) :
    Calls Tryz.prog 67 #[.pointer (some ⟨g, 0, none⟩), .string s, .bool long] w (PDid F g (p.ptext l) w) := by
  have hE1 : unE (ns s) = unE l := by
    rcases hc with ⟨_, e⟩ | ⟨_, e, h1⟩
    · rw [e, ns_str hb]
    · rw [e, unE_long h1]; decide
  have N0 := Lib.hid (PNow.start h hE)
  have HU := Lib.hid (fun W => punstuff s W hs)
  have HOK := Lib.hid hok
  cases hEl : unE l with
  | true =>
    have HS : Hid (p.ptext l = p.pend) := Lib.hid (by rw [Se.ptext, if_pos hEl])
    rw [hE1, hEl] at HU
    clear h hE hok hc hE1 hEl
    go_enter Tryz.func67, Tryz.ntmps67
    go_wp2_with fail
    refine (HU.out _).mono ?_
    rintro e w1 ⟨rfl, hk⟩
    have N1 := Lib.hid (N0.out.quiet hk)
    clear hk
    go_wp2_with fail
    refine (pendBody N1.out.rs N1.out.env HOK.out (by omega) hl).mono ?_
    rintro e w2 hd
    obtain ⟨rfl, F2, hN2⟩ := N1.out.did hd
    have N2 := Lib.hid hN2
    clear hd hN2
    go_wp2_with fail
    (try simp only [Exit.inBlock, Exit.then])
    first | go_end0 | refine bodyPost_ret (results_none rfl _ _ _) rfl ?_
    rw [HS.out]
    exact N2.out.done
  | false =>
    rw [hE1, hEl] at HU
    by_cases hbad : (p.bad : Int) = 0
    · have HT : Hid (faultC p (str (unT (ns s))) long = pfault p l) := Lib.hid (by
        rcases hc with ⟨e1, e2⟩ | ⟨e1, e2, e3⟩
        · rw [e1, e2, ns_str hb]
          refine fault_is ?_ hb
          rw [e2, str_size] at hs
          exact hs
        · rw [e1, faultC, if_pos (.inl rfl), pfault, if_pos (.inl e3)])
      have HS : Hid (p.ptext l = if pfault p l = 0 then { p with body := p.body ++ unT l ++ [10] } else { p with bad := pfault p l, body := [] }) := Lib.hid (by
        rw [Se.ptext, if_neg (by rw [hEl]; simp), if_pos (by omega)])
      have htz : (str (unT (ns s))).size ≤ 1000 := by
        rw [str_size]
        have := ns_length s
        have := unT_len (ns s)
        omega
      have HTX : Hid (pfault p l = 0 → ns (str (unT (ns s))) = unT l) := Lib.hid (fun h0 => by
        rcases hc with ⟨e1, e2⟩ | ⟨e1, e2, e3⟩
        · rw [e2, ns_str hb, ns_str (unT_lt hb)]
        · rw [pfault, if_pos (.inl e3)] at h0; cases h0)
      have hfl := fault_le p (str (unT (ns s))) long
      obtain ⟨c0, c1, c2, _, c11, fz⟩ := N0.out.cells
      have hbl := hok.body
      have hsz := hok.size
      obtain ⟨T, hT⟩ : ∃ T, T = str (unT (ns s)) := ⟨_, rfl⟩
      rw [← hT] at HU HT htz HTX hfl
      obtain ⟨c, hcd⟩ : ∃ c, c = pfault p l := ⟨_, rfl⟩
      rw [← hcd] at HT HS HTX
      rw [HT.out] at hfl
      have HFW := Lib.hid (fun F' W (a : PS F' W g p) (b : Env W) => pfaultW a b hok T htz long)
      rw [HT.out] at HFW
      clear h hE hok hc hE1 hEl hT hcd fz
      by_cases hc0 : (c : Int) = 0
      · obtain rfl : c = 0 := by omega
        have HS' : Hid (p.ptext l = { p with body := p.body ++ unT l ++ [10] }) := Lib.hid (by rw [HS.out, if_pos rfl])
        have HN : Hid (ns T = unT l) := Lib.hid (HTX.out rfl)
        go_enter Tryz.func67, Tryz.ntmps67
        go_wp2_with fail
        refine (HU.out _).mono ?_
        rintro e w1 ⟨rfl, hk⟩
        have N1 := Lib.hid (N0.out.quiet hk)
        obtain ⟨_, _, _, _, d11, fz1⟩ := N1.out.cells
        clear hk fz1
        go_wp2_with fail
        refine (HFW.out _ _ N1.out.rs N1.out.env).mono ?_
        rintro e w2 ⟨rfl, hk⟩
        have N2 := Lib.hid (N1.out.quiet hk)
        obtain ⟨_, _, _, _, e11, fz2⟩ := N2.out.cells
        have g11 := fz2 11
        obtain ⟨F3, hN3⟩ := N2.out.put (p' := p) 11 (.int .i64 0) (fun lv ev rv bv => by
          have hz : p.bad = 0 := by omega
          show pCells { p with bad := 0 } lv ev rv bv = _
          rw [show ({ p with bad := 0 } : Se) = p by rw [← hz]]) rfl rfl rfl rfl Iff.rfl
        have N3 := Lib.hid hN3
        obtain ⟨lv, ev, rv, bv, o, xs, h3⟩ := hN3.rs
        obtain ⟨bx, bc, rfl, _, _, _⟩ := h3.body.shape
        obtain ⟨_, _, _, _, _, _, _, _, _, _, i10, i11, fz3⟩ := h3.cells
        have H3 := Lib.hid h3
        obtain ⟨n, hn⟩ : ∃ n, n = p.body.length := ⟨_, rfl⟩
        rw [← hn] at i10
        have HNN := Lib.hid hn
        have HM3 : Hid (Mid (w2.setCell ⟨g, 11, none⟩ (.int .i64 0)) (.slice bx n bc) o.qb p.body) := Lib.hid (by rw [hn]; exact h3.body)
        clear hk hN3 fz2 h3 fz3 hn d11 c0 c1 c2 c11
        go_wp2_with (first
          | (refine wpList_append_bstr (by rfl) (.tmp 42) (.tmp 43) (by rfl) (.slice bx n bc) o.qb p.body (by rfl) HM3.out T (by rfl) (by have := HOK.out.body; have := HOK.out.size; omega) ?_
             intro y k cap q4 w4 hM4 hK4 hN4
             obtain ⟨x10, z10, F4, hP4, hk4, hm4⟩ := H3.out.grown hK4 hM4 hN4
             have N4 := Lib.hid (N3.out.on ⟨_, _, _, _, _, _, hP4⟩ hk4 hm4)
             have H4 := Lib.hid hP4
             have HM4 := Lib.hid (hP4.body.keep ((Keep.refl (fun _ => False) _).alloc (.cells #[.int .u8 10] 5)) (fun _ _ h => h))
             have hB4 := one10 (w4.setCell ⟨g, 10, none⟩ (.slice y k cap))
             rw [show (w4.setCell ⟨g, 10, none⟩ (.slice y k cap)).heap.size = w4.heap.size by simp [World.setCell]] at hB4
             have HB4 := Lib.hid hB4
             have hlt4 : g < (w4.setCell ⟨g, 10, none⟩ (.slice y k cap)).heap.size := hP4.flt g hP4.fg
             have f10 := hP4.row.frozen 10
             clear hM4 hK4 hN4 hP4 hk4 hm4 hB4)
          | (refine wpList_append_mid (by rfl) (.tmp 53) (.tmp 54) (by rfl) (.slice y k cap) q4 (p.body ++ ns T) (by rfl) HM4.out (fun b => b = w4.heap.size) (some ⟨w4.heap.size, 0, none⟩) 1 1 [10] (by rfl) rfl HB4.out (by have h1 := HOK.out.body; have h2 := HOK.out.size; have h3 := ns_length T; simp; omega) ?_
             intro y5 k5 cap5 q5 w5 hM5 hK5 hN5
             obtain ⟨x105, z105, F5, hP5, hk5, hm5⟩ := H4.out.grown ((((Keep.refl (fun _ => False) _).alloc (.cells #[.int .u8 10] 5)).mono (fun _ _ h => h.elim)).trans hK5 (fun _ _ h => h)) hM5 (fun i hi => (hN5 i hi).imp id (fun h => Nat.le_trans ((Keep.refl (fun _ => False) (w4.setCell ⟨g, 10, none⟩ (.slice y k cap))).alloc (.cells #[.int .u8 10] 5)).size h))
             have N5 := Lib.hid (N4.out.on ⟨_, _, _, _, _, _, hP5⟩ hk5 hm5)
             clear hM5 hK5 hN5 hP5 hk5 hm5))
        (try simp only [Exit.inBlock, Exit.then])
        first | go_end0 | refine bodyPost_ret (results_none rfl _ _ _) rfl ?_
        rw [HS'.out]
        have hfin := N5.out
        rw [HN.out] at hfin
        exact hfin.done
      · have HS' : Hid (p.ptext l = { p with bad := c, body := [] }) := Lib.hid (by rw [HS.out, if_neg (by omega)])
        go_enter Tryz.func67, Tryz.ntmps67
        go_wp2_with fail
        refine (HU.out _).mono ?_
        rintro e w1 ⟨rfl, hk⟩
        have N1 := Lib.hid (N0.out.quiet hk)
        obtain ⟨_, _, _, _, d11, fz1⟩ := N1.out.cells
        clear hk fz1
        go_wp2_with fail
        refine (HFW.out _ _ N1.out.rs N1.out.env).mono ?_
        rintro e w2 ⟨rfl, hk⟩
        have N2 := Lib.hid (N1.out.quiet hk)
        obtain ⟨lv, ev, rv, bv, o, xs, h3⟩ := N2.out.rs
        obtain ⟨_, _, _, _, _, _, _, _, _, _, i10, i11, fz3⟩ := h3.cells
        have g10 := fz3 10
        have g11 := fz3 11
        have H3 := Lib.hid h3
        clear hk h3 fz3 d11 c0 c1 c2 c11
        go_wp2
        (try simp only [Exit.inBlock, Exit.then])
        first | go_end0 | refine bodyPost_ret (results_none rfl _ _ _) rfl ?_
        have hA := (H3.out.row.put 11 (.int .i64 (c : Int))).put 10 (.slice none 0 0)
        rw [cells_bad] at hA
        obtain ⟨F5, a5, b5, m5⟩ := H3.out.put (p' := { p with bad := c, body := [] }) (lv' := lv) (rv' := rv) (bv' := nilV) (((Keep.refl (fun k => k = g) w2).setCell (p := ⟨g, 11, none⟩) (fun _ => rfl) _).setCell (p := ⟨g, 10, none⟩) (fun _ => rfl) _) hA rfl (.inl ⟨rfl, rfl⟩) (.inr ⟨rfl, rfl⟩) (.inl ⟨rfl, rfl, Iff.rfl⟩)
        rw [HS'.out]
        exact (N2.out.on a5 b5 m5).done
    · have HS : Hid (p.ptext l = p) := Lib.hid (by rw [Se.ptext, if_neg (by rw [hEl]; simp), if_neg (by omega)])
      clear h hE hok hc hE1 hEl
      go_enter Tryz.func67, Tryz.ntmps67
      go_wp2_with fail
      refine (HU.out _).mono ?_
      rintro e w1 ⟨rfl, hk⟩
      have N1 := Lib.hid (N0.out.quiet hk)
      obtain ⟨_, _, _, _, d11, fz1⟩ := N1.out.cells
      clear hk fz1
      go_wp2
      (try simp only [Exit.inBlock, Exit.then])
      first | go_end0 | refine bodyPost_ret (results_none rfl _ _ _) rfl ?_
      rw [HS.out]
      exact N1.out.done
end Go.Proofs.YtcjljldknekhiaaGreatDoor.Ln
end

section
/-
  What the program's rcpt, obey and command return.
-/
namespace Go.Proofs.YtcjljldknekhiaaGreatDoor.Ln
open Go.RowKit
set_option linter.unusedVariables false
set_option linter.unusedSimpArgs false

theorem step_append_str {w : World} {ops : Array Oper} {o : Oper} {a : Act} {K : Act → World → Prop} {Q : Exit → Act → World → Prop} {E : Prop} (hgd : o.guard = none) (s t : Operand)
    (ho : o.op = .call { callee := .builtin .append, args := #[s, t], argTypes := #[36, 36] })
    (v : Value) (q : Option Nat) (n : Nat) (xs : List Value) (hs : a.eval s = v) (hM : MidG 9 1 w v q n xs) (ad : Addr) (x : ByteArray) (hx : a.eval t = .slice (some ad) 1 1) (hc : w.cell? ad = some (.string x)) (hl : n ≤ 1000000)
    (hK : ∀ y k cap q' w', MidG 9 1 w' (.slice y k cap) q' (n + 1) (xs ++ [.string x]) → Keep (fun k => q = some k) w w' → New w q q' → K (a.put o.dst (.slice y k cap)) w') :
    if Region.wanted o (yielded ops a.tmps) = true then Oper.wp Tryz.prog o a w K Q else E := by
  have hw : Region.wanted o (yielded ops a.tmps) = true := by simp [Region.wanted, hgd]
  rw [if_pos hw]
  obtain ⟨y, k, cap, q', w', hr, h2, h3, h4⟩ := app_one hM ad x hc o.type hl
  unfold Oper.wp execOp
  simp only [ho, resolve, invoke, builtin, Sem.run_bind, Sem.run_pure, Result.andThen_ok, List.map_toArray, List.map_cons, List.map_nil, hs, hx, hr]
  exact hK y k cap q' w' h2 h3 h4
section
variable {F : Nat → Prop} {w w' : World} {g : Nat} {p p' : Se} {lv ev rv bv : Value} {o : Own} {xs : List Value}
/-- One recipient more. -/
theorem PSat.rcpted (h : PSat F w g p lv ev rv bv o xs) {a : ByteArray} {y : Option Addr} {m cap : Nat} {q' : Option Nat} (hA : At w' g 68 (pCells { p with st := 3, rcpts := p.rcpts ++ [a] } lv ev (.slice y m cap) bv)) (hM : MidG 9 1 w' (.slice y m cap) q' (p.rcpts.length + 1) (strV p.rcpts ++ [.string a])) (k : Keep (fun i => i = g ∨ o.qr = some i) w w') (hN : New w o.qr q') (h6 : p.st ≠ 6) :
    ∃ F', PS F' w' g { p with st := 3, rcpts := p.rcpts ++ [a] } ∧ Keep F w w' ∧ More F F' w := by
  have h1 := h.neg
  have h2 := h.nee
  have h3 := h.neb
  have h4 := h.nel
  have h5 := h.neL
  obtain ⟨F', H1, H2, H3⟩ := h.turn (p' := { p with st := 3, rcpts := p.rcpts ++ [a] }) (lv' := lv) (ev' := ev) (rv' := .slice y m cap) (bv' := bv) (o' := { o with qr := q' }) (xs' := xs) (R1 := PRd F g o) k (fun i _ e => e.elim .inl (fun e => .inr (.inr (.inl e)))) hA
    (h.out.keep k (fun b hb e => e.elim (h1 b (.inl hb)) (h2 b hb).1))
    (h.evs.keepW k (fun b _ hR => ⟨fun e => e.elim hR.2.1 (fun e => hR.2.2 (.inr (.inl e))), hR⟩))
    (by rw [show (p.rcpts ++ [a]).length = p.rcpts.length + 1 by simp, show strV (p.rcpts ++ [a]) = strV p.rcpts ++ [.string a] by simp [strV]]; exact hM) (h.body.keep k (fun b hb e => e.elim (h1 b (.inr (.inr (.inl hb)))) (h3 b hb).2.1))
    (by
      have hL := h.lin.keep k (fun b hb e => e.elim (h1 b (.inr (.inr (.inr (.inr hb))))) (h5 b hb).2.1) (fun b hb e => e.elim (h1 b (.inr (.inr (.inr (.inl hb))))) (h4 b hb).2.1)
      rcases hL with ⟨e6, _⟩ | ⟨_, hx⟩
      · exact absurd e6 h6
      · exact .inr ⟨by show 3 ≠ 6; omega, hx⟩)
    h.nbl (fun i hi => by
      rcases hi with hi | hi | hi
      · exact .inl (.inl hi)
      · rcases hN i hi with e | e
        · exact .inl (.inr (.inl e))
        · exact .inr e
      · exact .inl (.inr (.inr hi))) (fun i _ hR => ⟨.inl hR.1, hR.2.1, fun hi => by
      rcases hi with hi | hi | hi
      · exact hR.2.2 (.inl hi)
      · rcases hN i hi with e | e
        · exact hR.2.2 (.inr (.inl e))
        · have := h.flt i hR.1; omega
      · exact hR.2.2 (.inr (.inr hi))⟩)
  exact ⟨F', ⟨_, _, _, _, _, _, H1⟩, H2, H3⟩
end
def Se.rcptC (p : Se) : Nat := if p.st < 2 then 503 else if 8 ≤ p.rcpts.length then 452 else 250
def Se.rcptS (p : Se) (a : ByteArray) : Se := if p.st < 2 then p else if 8 ≤ p.rcpts.length then p else { p with st := 3, rcpts := p.rcpts ++ [a] }
theorem rcpt_parts (p : Se) (v : VC) : (p.rcptS v.arg).say (reply p.rcptC) = p.rcpt v := by
  unfold Se.rcptS Se.rcptC Se.rcpt
  split; · rfl
  split <;> rfl
theorem cells_rcpt (p : Se) (lv ev rv bv u : Value) (a : ByteArray) : ((pCells p lv ev rv bv).setIfInBounds 9 u).setIfInBounds 2 (.int .i64 3) = pCells { p with st := 3, rcpts := p.rcpts ++ [a] } lv ev u bv := by
  simp only [pCells, List.setIfInBounds_toArray, List.set_cons_zero, List.set_cons_succ]
  rfl

set_option maxHeartbeats 4000000 in
set_option maxRecDepth 100000 in
theorem prcpt {F : Nat → Prop} {w : World} {g : Nat} {p : Se} (h : PS F w g p) (hE : Env w) (n a : ByteArray) (z : Int) (h3 : p.st ≤ 3) :
    Calls Tryz.prog 117 #[.pointer (some ⟨g, 0, none⟩), verbV n a z] w (PCode F g (p.rcptS a) p.rcptC w) := by
  unfold verbV
  have hk1 : Keep (fun _ => False) w (w.alloc (.cells #[.string n, .string a, .int .i64 z] 58)) := (Keep.refl (fun _ => False) w).alloc _
  have N1 := Lib.hid ((PNow.start h hE).quiet hk1)
  obtain ⟨lv, ev, rv, bv, o, xs, hP0⟩ := h
  have hP := hP0.other hk1 (fun _ _ h => h)
  obtain ⟨x, cap, rfl, hcap⟩ := hP.rc.shape
  obtain ⟨_, _, c2, _, _, _, _, _, _, c9, _, _, fz⟩ := hP.cells
  have f2 := fz 2
  have f9 := fz 9
  have hA1 : At (w.alloc (.cells #[.string n, .string a, .int .i64 z] 58)) w.heap.size 58 #[.string n, .string a, .int .i64 z] := At.new _ _ _
  have v1 := hA1.cell 1
  simp at v1
  have hlt : g < w.heap.size := hP0.flt g hP0.fg
  obtain ⟨L, hL⟩ : ∃ L, L = p.rcpts.length := ⟨_, rfl⟩
  have HP := Lib.hid hP
  have HL := Lib.hid hL
  rw [← hL] at c9
  have HK1 := Lib.hid hk1
  have h3' : (p.st : Int) ≤ 3 := by omega
  clear hE fz hA1 hP hP0 hL hk1 hcap
  by_cases h1 : (p.st : Int) < 2
  · have e1 : Hid (p.rcptS a = p) := Lib.hid (by rw [Se.rcptS, if_pos (by omega)])
    have e2 : Hid (p.rcptC = 503) := Lib.hid (by rw [Se.rcptC, if_pos (by omega)])
    have b2 : ((p.st : Int) != 2) = true := by rw [bne_iff_ne]; omega
    have b3 : ((p.st : Int) != 3) = true := by rw [bne_iff_ne]; omega
    go_enter Tryz.func117, Tryz.ntmps117
    go_wp2
    go_ret
    rw [e1.out, e2.out]
    exact N1.out.coded
  · by_cases h8 : (8 : Int) ≤ (L : Int)
    · have e1 : Hid (p.rcptS a = p) := Lib.hid (by rw [Se.rcptS, if_neg (by omega), if_pos (by have := HL.out; omega)])
      have e2 : Hid (p.rcptC = 452) := Lib.hid (by rw [Se.rcptC, if_neg (by omega), if_pos (by have := HL.out; omega)])
      by_cases n2 : (p.st : Int) = 2
      · rw [n2] at c2
        go_enter Tryz.func117, Tryz.ntmps117
        go_wp2
        go_ret
        rw [e1.out, e2.out]
        exact N1.out.coded
      · have n3 : (p.st : Int) = 3 := by omega
        rw [n3] at c2
        clear n2
        go_enter Tryz.func117, Tryz.ntmps117
        go_wp2
        go_ret
        rw [e1.out, e2.out]
        exact N1.out.coded
    · have e1 : Hid (p.rcptS a = { p with st := 3, rcpts := p.rcpts ++ [a] }) := Lib.hid (by rw [Se.rcptS, if_neg (by omega), if_neg (by have := HL.out; omega)])
      have e2 : Hid (p.rcptC = 250) := Lib.hid (by rw [Se.rcptC, if_neg (by omega), if_neg (by have := HL.out; omega)])
      have hk2 : Keep (fun _ => False) (w.alloc (.cells #[.string n, .string a, .int .i64 z] 58)) (((w.alloc (.cells #[.string n, .string a, .int .i64 z] 58)).alloc (.cells #[.string a] 9)).drew) := (((Keep.refl (fun _ => False) _).alloc _)).drew
      have HP2 := Lib.hid (HP.out.other hk2 (fun _ _ h => h))
      have HM2 : Hid (MidG 9 1 (((w.alloc (.cells #[.string n, .string a, .int .i64 z] 58)).alloc (.cells #[.string a] 9)).drew) (.slice x L cap) o.qr L (strV p.rcpts)) := Lib.hid (by rw [HL.out]; exact HP2.out.rc)
      have HC2 : Hid ((((w.alloc (.cells #[.string n, .string a, .int .i64 z] 58)).alloc (.cells #[.string a] 9)).drew).cell? ⟨w.heap.size + 1, 0, none⟩ = some (.string a)) := Lib.hid (by
        have := (At.new (w.alloc (.cells #[.string n, .string a, .int .i64 z] 58)) 9 #[.string a]).cell 0
        rw [show (w.alloc (.cells #[.string n, .string a, .int .i64 z] 58)).heap.size = w.heap.size + 1 by simp] at this
        exact this)
      have HK2 := Lib.hid hk2
      have hst : (p.st : Int) = 2 ∨ (p.st : Int) = 3 := by omega
      have HST := Lib.hid hst
      clear hk2
      rcases hst with n2 | n2
      all_goals
        rw [n2] at c2
        go_enter Tryz.func117, Tryz.ntmps117
        go_wp2
        go_region_law
          ((refine step_append_str (by rfl) (.tmp 29) (.tmp 32) (by rfl) (.slice x L cap) o.qr L (strV p.rcpts) (by rfl) HM2.out ⟨w.heap.size + 1, 0, none⟩ a (by rfl) HC2.out (by omega) ?_
            ; intro y m cap2 q' w2 hM3 hK3 hN3; have hA3 := HP2.out.row.keep hK3 (fun e => HP2.out.neg g (.inr (.inl e)) rfl); have d9 := hA3.cell 9; have g9 := hA3.frozen 9; have d2 : (w2.setCell ⟨g, 9, none⟩ (.slice y m cap2)).cell? ⟨g, 2, none⟩ = some (.int .i64 (p.st : Int)) := (hA3.put 9 (.slice y m cap2)).cell 2; have g2 := (hA3.put 9 (.slice y m cap2)).frozen 2; have HA3 := Lib.hid hA3; have HM3 := Lib.hid hM3; have HK3 := Lib.hid hK3; have HN3 := Lib.hid hN3; clear hA3 hM3 hK3 hN3; simp [pCells] at d9))
        all_goals
          go_wp2
          go_ret
          rw [e1.out, e2.out]
          have hA5 := (HA3.out.put 9 (.slice y m cap2)).put 2 (.int .i64 3)
          rw [cells_rcpt p _ _ _ _ _ a] at hA5
          have kg : Keep (fun i => i = g) w2 ((w2.setCell ⟨g, 9, none⟩ (.slice y m cap2)).setCell ⟨g, 2, none⟩ (.int .i64 3)) := ((Keep.refl (fun i => i = g) w2).setCell (p := ⟨g, 9, none⟩) (fun _ => rfl) _).setCell (p := ⟨g, 2, none⟩) (fun _ => rfl) _
          obtain ⟨F', a1, a2, a3⟩ := HP.out.rcpted (a := a) (q' := q') hA5 (by rw [← HL.out]; exact HM3.out.keep kg (fun b hb e => HM3.out.ne HA3.out (by decide) (by rw [hb, e]))) (((HK2.out.mono (fun _ _ h => h.elim)).trans HK3.out (fun i _ e => .inr e)).trans kg (fun i _ e => .inl e)) (fun i hi => (HN3.out i hi).imp id (fun h1 => Nat.le_trans HK2.out.size h1)) (by omega)
          exact (N1.out.on a1 a2 a3).coded
end Go.Proofs.YtcjljldknekhiaaGreatDoor.Ln
end
