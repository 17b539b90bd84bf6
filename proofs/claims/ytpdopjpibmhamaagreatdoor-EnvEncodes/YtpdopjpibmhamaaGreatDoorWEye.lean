/-
  What the document's own reader, the eye, answers to 'Num' and 'Bytes': the same as the program's.
-/
import Derived.Test.YtpdopjpibmhamaaGreatDoorWRef
namespace Go.Proofs.YtpdopjpibmhamaaGreatDoor.Ln
open Go.RowKit

/-- The eye in block p stands at s; what it reads lies in a block of P. -/
def Ey (P : Nat → Prop) (w : World) (p : Nat) : Option (List Nat) → Prop
  | none => ∃ x n cap, n ≤ cap ∧ At w p 55 #[.slice x n cap, .bool true]
  | some bs => ∃ x n cap, n = bs.length ∧ n ≤ cap ∧ At w p 55 #[.slice x n cap, .bool false] ∧ Bytes P w x bs
theorem Ey.at {P : Nat → Prop} {w : World} {p : Nat} {s : Option (List Nat)} (h : Ey P w p s) : ∃ cs, At w p 55 cs := by
  rcases s with _ | bs
  · obtain ⟨x, n, cap, _, h⟩ := h
    exact ⟨_, h⟩
  · obtain ⟨x, n, cap, _, _, h, _⟩ := h
    exact ⟨_, h⟩
theorem Ey.keep {P S : Nat → Prop} {w w' : World} {p : Nat} {s : Option (List Nat)} (h : Ey P w p s) (k : Keep S w w') (hp : ¬ S p) (hs : ∀ b, b < w.heap.size → P b → ¬ S b) : Ey P w' p s := by
  rcases s with _ | bs
  · obtain ⟨x, n, cap, h1, h⟩ := h
    exact ⟨x, n, cap, h1, h.keep k hp⟩
  · obtain ⟨x, n, cap, h1, h2, h3, h4⟩ := h
    exact ⟨x, n, cap, h1, h2, h3.keep k hp, h4.keep k hs⟩
/-- What the eye's 'Num' answers. -/
def EyNum (P : Nat → Prop) (p : Nat) (s : Option (List Nat)) (w : World) (e : Ending) (w' : World) : Prop :=
  e = .returned (.int .i64 ((numV s : Nat) : Int)) ∧ Ey P w' p (numS s) ∧ Keep (· = p) w w' ∧ w'.heap.size = w.heap.size

theorem mul256 (X : Nat) (h : X < 72057594037927936) : IntKind.u64.wrap ((X : Int) * 256) = (X : Int) * 256 := by
  simp only [IntKind.wrap, IntKind.bits, IntKind.signed]
  simp
  omega
theorem add256 (X c : Nat) (h : X < 72057594037927936) (hc : c < 256) : IntKind.u64.wrap ((X : Int) * 256 + (c : Int)) = ((X * 256 + c : Nat) : Int) := by
  simp only [IntKind.wrap, IntKind.bits, IntKind.signed]
  simp
  omega

set_option maxHeartbeats 1000000 in
theorem eyNum (P : Nat → Prop) (p : Nat) (hP : ¬ P p) (s : Option (List Nat)) (w : World) (h : Ey P w p s) : Calls Tryz.prog 36 #[.pointer (some ⟨p, 0, none⟩)] w (EyNum P p s w) := by
  rcases s with _ | bs
  · obtain ⟨x, n, cap, hnc, hA⟩ := h
    have c0 := hA.cell 0
    have c1 := hA.cell 1
    have f1 := hA.frozen 1
    simp at c0 c1
    have HA := Lib.hid hA
    clear hA
    go_enter Tryz.func36, Tryz.ntmps36
    go_wp2
    go_ret
    exact ⟨rfl, ⟨x, n, cap, hnc, HA.out.put 1 (.bool true)⟩, (Keep.refl (· = p) w).setCell (p := ⟨p, 1, none⟩) (fun _ => rfl) _, by simp [World.setCell]⟩
  · obtain ⟨x, n, cap, hn, hnc, hA, hB⟩ := h
    have c0 := hA.cell 0
    have c1 := hA.cell 1
    have f0 := hA.frozen 0
    have f1 := hA.frozen 1
    simp at c0 c1
    have HA := Lib.hid hA
    have HB := Lib.hid hB
    have HN := Lib.hid hn
    clear hA hB hn
    by_cases h8 : (n : Int) < 8
    · have HO : Hid (numOk (some bs) = false) := by show _ = _; exact numOk_short (by have := HN.out; omega)
      go_enter Tryz.func36, Tryz.ntmps36
      go_wp2
      go_ret
      refine ⟨?_, ?_, (Keep.refl (· = p) w).setCell (p := ⟨p, 1, none⟩) (fun _ => rfl) _, by simp [World.setCell]⟩
      · rw [numV_no HO.out]; rfl
      · rw [numS_no HO.out]; exact ⟨x, n, cap, hnc, HA.out.put 1 (.bool true)⟩
    · have HL : Hid (8 ≤ bs.length) := by show 8 ≤ bs.length; have := HN.out; omega
      have c8 : (8 : Int) ≤ (n : Int) := by omega
      obtain ⟨y, s3, s4, hy⟩ := wcut_drop x n cap 8 (by omega) hnc
      have s5 : ∀ w, (Instr.slice 23 (.slice x n cap) (some (.int .i64 8)) none none).run Tryz.prog w = .ok (.slice y (n - 8) (cap - 8)) w := s3
      have s6 : ∀ w, (Instr.sliceAt 23 (.slice x n cap) (some (.int .i64 8)) none none).run Tryz.prog w = .ok (.slice y (n - 8) (cap - 8)) w := s4
      have HY := Lib.hid hy
      clear hy s3 s4
      go_enter Tryz.func36, Tryz.ntmps36
      go_wp2
      go_loop [3, 4] (fun t i => ∃ k X : Nat, k ≤ 8 ∧ X < 18446744073709551616 ∧ i = .int .i64 (k : Int) ∧ t = .int .u64 (X : Int) ∧ Hid (X = val (bs.take k))) (fun _ i => 8 - (intOf i).toNat)
      case atStart => exact ⟨0, 0, by omega, by omega, rfl, rfl, rfl⟩
      case round =>
        obtain ⟨k, X, hk8, hX, rfl, rfl, HX⟩ := hrel
        by_cases hlt : (k : Int) < 8
        · have hXs : X < 72057594037927936 := by rw [HX.out]; exact val_take_small bs HB.out.1 k (by omega)
          obtain ⟨b, off, _, rfl, hcell⟩ := HB.out.at k (by have := HL.out; omega)
          obtain ⟨c, hc⟩ : ∃ c, c = bs.getD k 0 := ⟨_, rfl⟩
          rw [← hc] at hcell
          have hcl : c < 256 := by rw [hc]; exact getD_lt HB.out.1 k (by have := HL.out; omega)
          have e1 := mul256 X hXs
          have e2 := add256 X c hXs hcl
          have HC := Lib.hid hc
          clear hc
          have k0 : (0 : Int) ≤ (k : Int) := by omega
          have k1 : (k : Int) < (n : Int) := by omega
          go_wp2
          go_round
          case rel =>
            refine ⟨k + 1, X * 256 + c, by omega, by omega, by go_num, by go_num, ?_⟩
            show X * 256 + c = val (bs.take (k + 1))
            rw [val_take_succ bs k (by have := HL.out; omega), ← HX.out, ← HC.out]
          case measure => simp [intOf]; omega
        · have hk8' : k = 8 := by omega
          have HXX : Hid (X = val (bs.take 8)) := by show X = _; rw [HX.out, hk8']
          clear hk8'
          by_cases hle : (X : Int) ≤ 4611686018427387904
          · have hn : numOk (some bs) = true := numOk_of HL.out (by rw [← HXX.out]; unfold top; omega)
            have HN2 := Lib.hid hn
            clear hn
            have hgt : ¬ ((4611686018427387904 : Int) < (X : Int)) := by omega
            go_wp2
            go_ret
            obtain ⟨bs', h1, _, _, h2, h3⟩ := numOk_some HN2.out
            injection h1 with h1
            subst h1
            have k := (Keep.refl (· = p) w).setCell (p := ⟨p, 0, none⟩) (fun _ => rfl) (.slice y (n - 8) (cap - 8))
            refine ⟨?_, ?_, k, by simp [World.setCell]⟩
            · rw [h2, ← HXX.out]; rfl
            · rw [h3]
              exact ⟨y, n - 8, cap - 8, by rw [List.length_drop, HN.out], by omega, HA.out.put 0 _, (HY.out P w bs HN.out.symm HB.out).keep k (fun b _ hb e => hP (e ▸ hb))⟩
          · have hn : numOk (some bs) = false := numOk_great HL.out (by rw [← HXX.out]; unfold top; omega)
            have HO := Lib.hid hn
            clear hn
            have hgt : (4611686018427387904 : Int) < (X : Int) := by omega
            go_wp2
            go_ret
            refine ⟨?_, ?_, (Keep.refl (· = p) w).setCell (p := ⟨p, 1, none⟩) (fun _ => rfl) _, by simp [World.setCell]⟩
            · rw [numV_no HO.out]; rfl
            · rw [numS_no HO.out]; exact ⟨x, n, cap, hnc, HA.out.put 1 (.bool true)⟩

theorem own_cap {w : World} {x : Option Addr} {n cap : Nat} {bs : List Nat} (h : Own w (.slice x n cap) bs) : n ≤ cap := by
  rcases h.1.2 with ⟨hv, h0⟩ | ⟨g, cap', cur, hv, _, _, hnc, _⟩
  · injection hv with _ e2 e3
    omega
  · injection hv with _ e2 e3
    omega
/-- What the eye's 'Bytes' answers. -/
def EyByt (P : Nat → Prop) (p : Nat) (s : Option (List Nat)) (w : World) (e : Ending) (w' : World) : Prop :=
  ∃ x n cap, n = (bytV s).length ∧ n ≤ cap ∧ e = .returned (.slice x n cap) ∧ Bytes (fun b => w.heap.size ≤ b) w' x (bytV s) ∧ Ey P w' p (bytS s) ∧ Keep (· = p) w w'
theorem info42 : (Tryz.prog.info? 55).map (fun i => (i.zero, i.size)) = some (some (.agg #[.slice none 0 0, .bool false]), 2) := by kernel_rfl

set_option maxHeartbeats 1000000 in
theorem eyByt (P : Nat → Prop) (p : Nat) (hP : ¬ P p) (hlt : ∀ b, P b → b < p) (s : Option (List Nat)) (hl : (s.getD []).length ≤ 1000000) (w : World) (h : Ey P w p s) : Calls Tryz.prog 35 #[.pointer (some ⟨p, 0, none⟩)] w (EyByt P p s w) := by
  have hnp : ¬ P w.heap.size := fun hb => by
    obtain ⟨cs, hc⟩ := h.at
    have := hc.lt
    have := hlt _ hb
    omega
  obtain ⟨x, n, cap, b, HBB, hnc, hA, hE⟩ : ∃ x n cap b, Hid (b = s.isNone) ∧ n ≤ cap ∧ At w p 55 #[.slice x n cap, .bool b] ∧ Ey P (w.alloc (.cells #[.slice x n cap, .bool b] 55)) w.heap.size s := by
    rcases s with _ | bs
    · obtain ⟨x, n, cap, h1, h2⟩ := h
      exact ⟨x, n, cap, true, rfl, h1, h2, x, n, cap, h1, At.new w 55 _⟩
    · obtain ⟨x, n, cap, h1, h2, h3, h4⟩ := h
      exact ⟨x, n, cap, false, rfl, h2, h3, x, n, cap, h1, h2, At.new w 55 _, h4.quiet ((Keep.refl _ w).alloc _)⟩
  clear h
  have c0 := hA.cell 0
  have c1 := hA.cell 1
  have hplt := hA.lt
  simp at c0 c1
  have HA := Lib.hid hA
  have HE := Lib.hid hE
  clear hA hE
  go_enter Tryz.func35, Tryz.ntmps35
  go_wp2_with fail
  refine (eyNum P w.heap.size hnp s _ HE.out).mono ?_
  rintro e w1 ⟨rfl, hE1, hk1, hsz1⟩
  simp at hsz1
  have HSZ := Lib.hid hsz1
  clear hsz1 c0 c1
  have hA1 := (HA.out.alloc _).keep hk1 (show ¬ p = w.heap.size by omega)
  have hkw : Keep (fun k => k = p) w w1 := ((Keep.refl (fun k => k = p) w).alloc _).trans hk1 (fun k hk h => by have : k = w.heap.size := h; omega)
  have d0 := hA1.cell 0
  have d1 := hA1.cell 1
  have g0 := hA1.frozen 0
  have g1 := hA1.frozen 1
  simp at d0 d1
  have HA1 := Lib.hid hA1
  have HK1 := Lib.hid hk1
  clear hA1 hk1
  cases hok : numOk s with
  | false =>
    have HO := Lib.hid hok
    rw [numS_no hok] at hE1
    rw [numV_no hok]
    obtain ⟨x1, n1, cap1, hnc1, hB1⟩ := hE1
    have b0 := hB1.cell 0
    have b1 := hB1.cell 1
    simp at b0 b1
    clear hB1 hok
    go_wp2
    go_ret
    have hb := bytOk_no HO.out
    refine ⟨none, 0, 0, ?_, Nat.le_refl _, rfl, ?_, ?_, hkw.setCell (p := ⟨p, 1, none⟩) (fun _ => rfl) _⟩
    · rw [bytV_no hb]; rfl
    · rw [bytV_no hb]; exact Bytes.nil _ _ _
    · rw [bytS_no hb]
      exact ⟨x, n, cap, hnc, HA1.out.put 1 (.bool true)⟩
  | true =>
    obtain ⟨bs, rfl, h8, _, hNV, hNS⟩ := numOk_some hok
    obtain ⟨N, hN⟩ : ∃ N, N = numV (some bs) := ⟨_, rfl⟩
    have hNle : N ≤ 4611686018427387904 := by rw [hN]; exact numV_le _
    rw [← hN]
    rw [hNS] at hE1
    obtain ⟨x1, n1, cap1, hn1, hnc1, hB1, hY1⟩ := hE1
    have b0 := hB1.cell 0
    have b1 := hB1.cell 1
    have hB1lt := hB1.lt
    simp at b0 b1
    have HN := Lib.hid hN
    have HNS := Lib.hid hNS
    have HN1 := Lib.hid hn1
    have HB1 := Lib.hid hB1
    have HY1 := Lib.hid hY1
    have hl' : Hid (bs.length ≤ 1000000) := hl
    clear hN hNS hNV hn1 hB1 hY1 hok hl h8
    by_cases hle : (N : Int) ≤ (n1 : Int)
    · have hgt : ¬ ((n1 : Int) < (N : Int)) := by omega
      have HLE : Hid (N ≤ (bs.drop 8).length) := by show N ≤ _; have := HN1.out; omega
      obtain ⟨s1, s2⟩ := wcut_pre x1 n1 cap1 N (by omega)
      obtain ⟨y, s3, s4, hy⟩ := wcut_drop x1 n1 cap1 N (by omega) hnc1
      have HY := Lib.hid hy
      have hn1l : n1 ≤ 1000000 := by have := HN1.out; have := hl'.out; simp at *; omega
      clear hy
      go_wp2_with
        (at_builtin
         refine wpList_append_bytes (by rfl) (.tmp 22) (.tmp 26) (by rfl) (.slice (some ⟨w1.heap.size, 0, none⟩) 0 0) [] (by rfl) (Own.of_at (At.new w1 5 _) (by simp) (by decide)) P x1 N cap1 ((bs.drop 8).take N) (by rfl) (by rw [List.length_take, Nat.min_eq_left HLE.out])
            ((HY1.out.take N).quiet ((Keep.refl _ w1).alloc _)) (by simp; omega) ?_
         intro y2 n2 cap2 w2 hn2 hO2 hk2 hnew2
         have hk12 : Keep (fun _ => False) w1 w2 := (((Keep.refl (fun _ => False) w1).alloc _)).trans hk2 (fun k hk h => by injection h with h; simp at h; omega)
         have hA2 := HA1.out.keep hk12 (fun h => h)
         have hB2 := HB1.out.keep hk12 (fun h => h)
         have m0 := hA2.cell 0
         have m1 := hA2.cell 1
         have p0 := hA2.frozen 0
         have q0 := hB2.cell 0
         have q1 := hB2.cell 1
         simp at m0 m1 q0 q1
         have HA2 := Lib.hid hA2
         have HO2 := Lib.hid hO2
         have HK12 := Lib.hid hk12
         have HW2 := Lib.hid hnew2
         clear hA2 hB2 hO2 hk2 hk12 hnew2)
      go_ret
      have hkk := ((hkw.trans HK12.out (fun _ _ h => h.elim)).setCell (p := ⟨p, 0, none⟩) (fun _ => rfl) (.slice y (n1 - N) (cap1 - N)))
      have hk3 := (Keep.refl (fun k => k = p) w2).setCell (p := ⟨p, 0, none⟩) (fun _ => rfl) (.slice y (n1 - N) (cap1 - N))
      have eV : bytV (some bs) = (bs.drop 8).take N := by rw [bytV, ← HN.out, HNS.out, takeV_ok HLE.out]
      have eS : bytS (some bs) = some ((bs.drop 8).drop N) := by rw [bytS, ← HN.out, HNS.out, takeS_ok HLE.out]
      obtain ⟨x3, cap3, e3, hB3⟩ := HO2.out.shape
      rw [List.nil_append] at hB3 e3
      injection e3 with e1 e2 e3
      subst e1
      refine ⟨y2, n2, cap2, by rw [eV]; exact e2, own_cap HO2.out, rfl, ?_, ?_, hkk⟩
      · rw [eV]
        refine Bytes.keep (hB3.mono (Q := fun b => w1.heap.size ≤ b) ?_) hk3 ?_ |>.mono ?_
        · intro k hk h
          rcases HW2.out k h with h | h
          · injection h with h
            simp at h
            omega
          · simp at h
            omega
        · intro k hk h e
          omega
        · intro k hk h
          have := hkw.size
          omega
      · rw [eS]
        refine ⟨y, n1 - N, cap1 - N, by rw [List.length_drop, HN1.out], by omega, ?_, ?_⟩
        · have := HA2.out.put 0 (.slice y (n1 - N) (cap1 - N))
          rw [HBB.out] at this
          exact this
        · exact ((HY.out P w1 _ HN1.out.symm HY1.out).quiet HK12.out).keep hk3 (fun k _ h e => hP (e ▸ h))
    · have hgt : (n1 : Int) < (N : Int) := by omega
      have HO : Hid (bytOk (some bs) = false) := by show _ = _; rw [bytOk, ← HN.out, HNS.out]; exact takeOk_no (by have := HN1.out; omega)
      go_wp2
      go_ret
      have hb := HO.out
      refine ⟨none, 0, 0, ?_, Nat.le_refl _, rfl, ?_, ?_, hkw.setCell (p := ⟨p, 1, none⟩) (fun _ => rfl) _⟩
      · rw [bytV_no hb]; rfl
      · rw [bytV_no hb]; exact Bytes.nil _ _ _
      · rw [bytS_no hb]
        exact ⟨x, n, cap, hnc, HA1.out.put 1 (.bool true)⟩

end Go.Proofs.YtpdopjpibmhamaaGreatDoor.Ln
