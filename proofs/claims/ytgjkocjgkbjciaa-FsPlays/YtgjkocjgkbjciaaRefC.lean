/-
  What the document's 'Do' returns and does: sync, rename, unlink, dirsync.
-/
import Derived.Test.YtgjkocjgkbjciaaRefB
import Derived.Test.YtgjkocjgkbjciaaSim
namespace Go.Proofs.Ytgjkocjgkbjciaa.Fs
open Go.RowKit Go.Maps
set_option linter.unusedVariables false
set_option linter.unusedSimpArgs false

def RW (w : World) (T : Nat → Prop) (r : Nat) (t : St) (E : Nat) (e : Ending) (w' : World) : Prop := e = .returned (.int .i64 (E : Int)) ∧ Ref w' (Up T w w') r t ∧ Keep T w w'
theorem RW.same {w w' : World} {T : Nat → Prop} {r : Nat} {s : St} {E : Nat} (h : Ref w T r s) (k : Keep (fun _ => False) w w') : RW w T r s E (.returned (.int .i64 (E : Int))) w' :=
  ⟨rfl, (h.keep k (fun _ _ h => h)).mono (fun i _ h => .inl h), k.mono (fun i _ h => h.elim)⟩
/-- Nothing of the disk has turned but what 'power' turns. -/
theorem RW.burnt {w w' : World} {T : Nat → Prop} {r : Nat} {s : St} {E : Nat} {vs vl vf : Value} {fl : FL} (hp : RP w' T r (burnS s) vs vl vf fl) (hG : Good s) (hR : Rising s.sure) (k : Keep (· = r) w w') : RW w T r (burnS s) E (.returned (.int .i64 (E : Int))) w' :=
  ⟨rfl, ⟨⟨vs, vl, vf, fl, hp.mono (fun b _ h => .inl h)⟩, burn_good hG, by rw [burn_sure]; exact hR⟩, k.mono (fun b _ e => by rw [e]; exact hp.inT)⟩
theorem set_at {xs : List Value} {k : Nat} {u : Value} (h : xs[k]? = some u) : xs.set k u = xs := by
  obtain ⟨hk, he⟩ := List.getElem?_eq_some_iff.1 h
  rw [← he]
  exact List.set_getElem_self hk
/-- One file has turned. -/
theorem RP.store {w w' : World} {T T' : Nat → Prop} {r g n cap i : Nat} {s : St} {vs vl : Value} {fl : FL} {p q : Value × File} (h : RP w T r s vs vl (.slice (some ⟨g, 0, none⟩) n cap) fl) (hi : fl[i]? = some p) (hT : ∀ b, b < w.heap.size → T b → T' b)
    (hr : Row w' T' 69 2 (.slice (some ⟨g, 0, none⟩) n cap) s.files.length (fileCells (fl.set i q))) (k : Keep (· = g) w w') (ho : Own w' q.1 q.2.bytes) (hb : ∀ b, q.1.ownBlock = some b → T' b) : RP w' T' r (setFile s i q.2) vs vl (.slice (some ⟨g, 0, none⟩) n cap) (fl.set i q) := by
  have hm := h.mono hT
  obtain ⟨cs, hg⟩ := owns_at h.files.1 (b := g) rfl
  refine ⟨hm.fs.keep k (fun e => At.ne hm.fs hg (by decide) e), hm.inT, hm.sure.keep k (fun b cs' _ hb' e => At.ne hb' hg (by decide) e), hm.loose.keep k (fun b cs' _ hb' e => At.ne hb' hg (by decide) e), ?_, ?_, fun x hx => ?_⟩
  · show Row w' T' 69 2 _ (s.files.set i q.2).length _
    rw [List.length_set]
    exact hr
  · show (fl.set i q).map (·.2) = s.files.set i q.2
    rw [List.map_set, h.same]
  · rcases List.mem_or_eq_of_mem_set hx with hx | hx
    · refine ⟨(hm.own x hx).1.keep k (fun b hb' e => ?_), (hm.own x hx).2⟩
      have := (hm.own x hx).1.ne hg (by decide)
      rw [hb', e] at this
      exact this rfl
    · rw [hx]; exact ⟨ho, hb⟩
/-- The loose changes have grown by one. -/
theorem RP.chg {w w1 w' : World} {T : Nat → Prop} {r : Nat} {s : St} {vs vl vl' vf : Value} {fl : FL} {c : Chg} (h : RP w T r s vs vl vf fl) (k : Keep (fun b => vl.ownBlock = some b ∨ b = r) w w') (hf : At w' r 31 #[vs, vl', vf, .int .i64 (s.room : Int), .int .i64 (fuseI s), .bool s.down])
    (hr : Row w' (Up T w w') 71 4 vl' (s.loose.length + 1) (chgCells s.loose ++ chgL c)) : RP w' (Up T w w') r { s with loose := s.loose ++ [c] } vs vl' vf fl := by
  have hm := h.mono (T' := Up T w w') (fun b _ h => .inl h)
  have hne : ∀ {t : TypeId} {b : Nat} {cs : Array Value}, t ≠ 71 → t ≠ 31 → At w b t cs → ¬ (vl.ownBlock = some b ∨ b = r) := fun h1 h2 hb e => by
    rcases e with e | e
    · obtain ⟨cs', h'⟩ := owns_at h.loose.1 e
      exact At.ne hb h' h1 rfl
    · subst e
      exact At.ne hb h.fs h2 rfl
  refine ⟨hf, hm.inT, hm.sure.keep k (fun b cs _ hb => hne (by decide) (by decide) hb), ?_, hm.files.keep k (fun b cs _ hb => hne (by decide) (by decide) hb), h.same, fun p hp => ⟨(hm.own p hp).1.keep k (fun b hb => ?_), (hm.own p hp).2⟩⟩
  · show Row w' (Up T w w') 71 4 vl' (s.loose ++ [c]).length (chgCells (s.loose ++ [c]))
    rw [List.length_append, chgCells_append]
    have : chgCells [c] = chgL c := by simp [chgCells]
    rw [this]
    exact hr
  · obtain ⟨cs, h5⟩ := owns_at (hm.own p hp).1.1 hb
    exact hne (by decide) (by decide) h5
/-- The same, as the walks meet it. -/
theorem RP.grown {w2 w5 : World} {T : Nat → Prop} {r k cap : Nat} {y : Option Addr} {s : St} {vs vl vf : Value} {fl : FL} {c : Chg} {cs : Array Value} (h : RP w2 T r s vs vl vf fl) (hR5 : Row w5 (Up T (w2.alloc (.cells cs 71)) w5) 71 4 (.slice y k cap) (s.loose.length + 1) (chgCells s.loose ++ chgL c)) (k5 : Keep (fun b => vl.ownBlock = some b) (w2.alloc (.cells cs 71)) w5) :
    RP (w5.setCell ⟨r, 1, none⟩ (.slice y k cap)) (Up T w2 (w5.setCell ⟨r, 1, none⟩ (.slice y k cap))) r { s with loose := s.loose ++ [c] } vs (.slice y k cap) vf fl ∧ Keep (fun b => vl.ownBlock = some b ∨ b = r) w2 (w5.setCell ⟨r, 1, none⟩ (.slice y k cap)) := by
  have hA4 : At (w2.alloc (.cells cs 71)) r 31 _ := h.fs.alloc _
  have hA5 := hA4.keep k5 (fun e => by
    obtain ⟨cs', h'⟩ := owns_at h.loose.1 e
    exact At.ne h.fs h' (by decide) rfl)
  have kk : Keep (fun b => vl.ownBlock = some b ∨ b = r) w2 (w5.setCell ⟨r, 1, none⟩ (.slice y k cap)) :=
    (((Keep.refl _ w2).alloc _).trans (k5.mono (T := fun b => vl.ownBlock = some b ∨ b = r) (fun _ _ h => .inl h)) (fun _ _ h => h)).setCell (p := ⟨r, 1, none⟩) (fun _ => .inr rfl) _
  have hsz : w2.heap.size ≤ (w2.alloc (.cells cs 71)).heap.size := by simp
  have hs5 : (w5.setCell ⟨r, 1, none⟩ (.slice y k cap)).heap.size = w5.heap.size := by simp [World.setCell]
  refine ⟨h.chg (w1 := w5) kk (hA5.put 1 _) ?_, kk⟩
  have hR6 := hR5.keep ((Keep.refl (· = r) w5).setCell (p := ⟨r, 1, none⟩) (fun _ => rfl) (.slice y k cap)) (fun b cs' _ hb e => At.ne hb hA5 (by decide) e)
  refine hR6.mono (fun b _ hb => ?_)
  rcases hb with hb | ⟨h1, h2⟩
  · exact .inl hb
  · exact .inr ⟨by omega, by omega⟩

set_option maxHeartbeats 4000000 in
set_option maxRecDepth 100000 in
theorem refSync (r : Nat) (T : Nat → Prop) (s : St) (hb : s.bulk + 2 ≤ 1000000) (A B : ByteArray) (hA : A.size ≤ 9223372036854775807) (v5 : Value) (w : World) (h : Ref w T r s) :
    Calls Try.prog 15 #[.pointer (some ⟨r, 0, none⟩), .int .i64 3, .string A, .string B, v5] w (RW w T r (syncS s (nm A)) (syncE s (nm A))) := by
  have HGd := Lib.hid (show Good (syncS s (nm A)) from by have := do_good h.2.1 ⟨3, 0, 0, A, B, []⟩ hb (by simp); simpa [doS] using this)
  have HRd := Lib.hid (show Rising (syncS s (nm A)).sure from by have := do_rising h.2.2 ⟨3, 0, 0, A, B, []⟩; simpa [doS] using this)
  have cN := refName A hA w
  have cH := refHas r T s A w h
  have HRf := Lib.hid h
  obtain ⟨⟨vs, vl, vf, fl, hp⟩, hG, hRi⟩ := h
  have c5 := hp.fs.cell 5
  simp at c5
  obtain ⟨V, hV⟩ : ∃ V, V = isNm (nm A) := ⟨_, rfl⟩
  rw [← hV] at cN
  obtain ⟨D, hD⟩ : ∃ D, D = s.down := ⟨_, rfl⟩
  rw [← hD] at c5
  have HV := Lib.hid hV
  have HD := Lib.hid hD
  have HP := Lib.hid hp
  have HG := Lib.hid hG
  have HRi := Lib.hid hRi
  clear hV hD hp hG hRi
  cases V
  · have RD : Hid (readyE s [nm A] = 1) := by show _ = _; simp [readyE, ← HV.out]
    go_enter Try.func15, Try.ntmps15
    go_wp2_with (first | (go_at_call 17; refine cN.mono ?_; rintro e w' ⟨rfl, rfl⟩))
    go_ret
    have e1 : syncE s (nm A) = 1 := by simp [syncE, findE, RD.out]
    have e2 : syncS s (nm A) = s := by simp [syncS, findE, RD.out]
    rw [e1, e2]
    exact RW.same HRf.out (Keep.refl _ _)
  · cases D
    · have RD : Hid (readyE s [nm A] = 0) := by show _ = _; simp [readyE, ← HV.out, ← HD.out]
      rcases hget : get s.now (nm A) with _ | i
      · rw [hget] at cH
        simp only [hasI] at cH
        have HGe := Lib.hid hget
        clear hget
        go_enter Try.func15, Try.ntmps15
        go_wp2_with (first | (go_at_call 17; refine cN.mono ?_; rintro e w' ⟨rfl, rfl⟩))
        refine cH.mono ?_
        rintro e w1 ⟨rfl, k1⟩
        have HK1 := Lib.hid k1
        clear k1 cH cN
        go_wp2
        go_ret
        have e1 : syncE s (nm A) = 4 := by simp [syncE, findE, RD.out, HGe.out]
        have e2 : syncS s (nm A) = s := by simp [syncS, findE, RD.out, HGe.out]
        rw [e1, e2]
        exact RW.same HRf.out HK1.out
      · rw [hget] at cH
        simp only [hasI] at cH
        have HGe := Lib.hid hget
        have hil : i < s.files.length := HG.out.now.lt _ (get_mem hget)
        have HIL := Lib.hid hil
        clear hget hil
        have FE : Hid (findE s (nm A) = 0) := by show _ = _; simp [findE, RD.out, HGe.out]
        rcases burnE_cases s with hB | hB
        · go_enter Try.func15, Try.ntmps15
          go_wp2_with (first | (go_at_call 17; refine cN.mono ?_; rintro e w' ⟨rfl, rfl⟩))
          refine cH.mono ?_
          rintro e w1 ⟨rfl, k1⟩
          have HK1 := Lib.hid k1
          clear k1 cH cN
          go_wp2
          go_region
          have HPq : Hid (RP w1.drew T r s vs vl vf fl) := HP.out.keep (HK1.out.drew) (fun _ _ h => h)
          have cP := refPower r T s vs vl vf fl w1.drew HPq.out HG.out
          rw [hB] at cP
          have HB := Lib.hid hB
          clear hB c5
          go_wp2_with fail
          refine cP.mono ?_
          rintro e w2 ⟨rfl, hp2, k2, z2⟩
          have HP2 := Lib.hid hp2
          have HK2 : Hid (Keep (· = r) w w2) := ((HK1.out.drew).mono (fun _ _ h => h.elim)).trans k2 (fun _ _ h => h)
          have HZ2 := Lib.hid z2
          clear hp2 k2 z2 cP
          obtain ⟨v, hv, hO⟩ := HP2.out.fat (i := i) (by rw [burn_files]; exact HIL.out)
          obtain ⟨g, cap, hvf, hnc, _, ⟨cs, hat⟩, hcell⟩ := row_cells HP2.out.files (by rw [burn_files]; have := HIL.out; omega)
          subst hvf
          have f2 := HP2.out.fs.cell 2
          have hr0 := hcell _ _ (fileCells_at hv).1
          have hr1 := hcell _ _ (fileCells_at hv).2
          have hfr := hat.frozen (i * 2 + 1)
          obtain ⟨y, cy, hvy, _⟩ := hO.shape
          simp at f2
          subst hvy
          obtain ⟨N, hN⟩ : ∃ N, N = (burnS s).files.length := ⟨_, rfl⟩
          rw [← hN] at f2
          have hiN : (i : Int) < (N : Int) := by have := HIL.out; rw [burn_files] at hN; omega
          obtain ⟨B, hB2⟩ : ∃ B, B = ((burnS s).file i).bytes.length := ⟨_, rfl⟩
          rw [← hB2] at hr0
          have HV2 := Lib.hid hv
          have HBl := Lib.hid hB2
          have HOw := Lib.hid hO
          have hgl := hat.lt
          clear hv hO hat hcell hN hB2
          go_wp2
          go_region
          go_wp2
          go_ret
          have e1 : syncE s (nm A) = 0 := by simp [syncE, FE.out, HB.out]
          have e2 : syncS s (nm A) = setFile (burnS s) i ⟨((burnS s).file i).bytes, ((burnS s).file i).bytes.length⟩ := by simp [syncS, FE.out, HB.out, HGe.out, burn_file]
          have hgd := HGd.out
          have hrd := HRd.out
          rw [e2] at hgd hrd
          rw [e1, e2]
          have kp := keep_put (w := w2.drew) (r := g) (i * 2 + 1) (.int .i64 (B : Int))
          have h2d := HP2.out.keep (w' := w2.drew) ((Keep.refl (fun _ => False) w2).drew) (fun _ _ h => h)
          have hrow := (h2d.files).put (x := none) (i * 2 + 1) (.int .i64 (B : Int))
          have hfc : (fileCells fl).set (i * 2 + 1) (.int .i64 (B : Int)) = fileCells (fl.set i (.slice y B cy, ⟨((burnS s).file i).bytes, ((burnS s).file i).bytes.length⟩)) := by
            have hv' := HV2.out
            rw [← HBl.out] at hv'
            rw [fileCells_set hv', set_at (fileCells_at hv').1, HBl.out]
          rw [hfc] at hrow
          have hv' := HV2.out
          rw [← HBl.out] at hv'
          have hO' := HOw.out
          rw [← HBl.out] at hO'
          obtain ⟨cs', hat'⟩ := owns_at HP2.out.files.1 (b := g) rfl
          have hbT : ∀ b, (Value.slice y B cy).ownBlock = some b → T b := fun b hb => by
            have := (HP2.out.own _ (List.mem_of_getElem? HV2.out)).2
            rw [← HBl.out] at this
            exact this b hb
          have hst := h2d.store (T' := Up T w (w2.drew.setCell ⟨g, i * 2 + 1, none⟩ (.int .i64 (B : Int)))) (q := (.slice y B cy, ⟨((burnS s).file i).bytes, ((burnS s).file i).bytes.length⟩)) hv' (fun b _ h => .inl h) (hrow.mono (fun b _ h => .inl h)) kp (hO'.keep (S := (· = g)) ((Keep.refl (· = g) w2).drew.setCell (p := ⟨g, i * 2 + 1, none⟩) (fun _ => rfl) _) (fun b hb e => hO'.ne hat' (by decide) (e ▸ hb))) (fun b hb => .inl (hbT b hb))
          refine ⟨rfl, ⟨⟨_, _, _, _, hst⟩, hgd, hrd⟩, ?_⟩
          exact (HK2.out.mono (T := T) (fun b _ e => by rw [e]; exact HP2.out.inT)).trans ((Keep.refl T w2).drew.trans (kp.mono (T := T) (fun b _ e => by rw [e]; exact HP2.out.files.2 g rfl)) (fun _ _ h => h)) (fun _ _ h => h)
        · go_enter Try.func15, Try.ntmps15
          go_wp2_with (first | (go_at_call 17; refine cN.mono ?_; rintro e w' ⟨rfl, rfl⟩))
          refine cH.mono ?_
          rintro e w1 ⟨rfl, k1⟩
          have HK1 := Lib.hid k1
          clear k1 cH cN
          go_wp2
          go_region
          have HPq : Hid (RP w1.drew T r s vs vl vf fl) := HP.out.keep (HK1.out.drew) (fun _ _ h => h)
          have cP := refPower r T s vs vl vf fl w1.drew HPq.out HG.out
          rw [hB] at cP
          have HB := Lib.hid hB
          clear hB c5
          go_wp2_with fail
          refine cP.mono ?_
          rintro e w2 ⟨rfl, hp2, k2, z2⟩
          have HP2 := Lib.hid hp2
          have HK2 : Hid (Keep (· = r) w w2) := ((HK1.out.drew).mono (fun _ _ h => h.elim)).trans k2 (fun _ _ h => h)
          have HZ2 := Lib.hid z2
          clear hp2 k2 z2 cP
          go_wp2
          go_ret
          have e1 : syncE s (nm A) = 2 := by simp [syncE, FE.out, HB.out]
          have e2 : syncS s (nm A) = burnS s := by simp [syncS, FE.out, HB.out]
          rw [e1, e2]
          exact RW.burnt HP2.out HG.out HRi.out HK2.out
    · have RD : Hid (readyE s [nm A] = 2) := by show _ = _; simp [readyE, ← HV.out, ← HD.out]
      go_enter Try.func15, Try.ntmps15
      go_wp2_with (first | (go_at_call 17; refine cN.mono ?_; rintro e w' ⟨rfl, rfl⟩))
      go_ret
      have e1 : syncE s (nm A) = 2 := by simp [syncE, findE, RD.out]
      have e2 : syncS s (nm A) = s := by simp [syncS, findE, RD.out]
      rw [e1, e2]
      exact RW.same HRf.out (Keep.refl _ _)

end Go.Proofs.Ytgjkocjgkbjciaa.Fs
