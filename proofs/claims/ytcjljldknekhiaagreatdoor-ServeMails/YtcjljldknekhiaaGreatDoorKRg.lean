/-
  What the document's own Answer, Go and New return, given what its text and command do.
-/
import Derived.Test.YtcjljldknekhiaaGreatDoorKg2
import Derived.Test.YtcjljldknekhiaaGreatDoorKg9
import Derived.Test.YtcjljldknekhiaaGreatDoorKRef
namespace Go.Proofs.YtcjljldknekhiaaGreatDoor.Ln
open Go.RowKit
set_option linter.unusedVariables false
set_option linter.unusedSimpArgs false

theorem bodyless {F : Nat → Prop} {w : World} {g : Nat} {s : Se} (h : RS F w g s) : ∃ x c, w.cell? ⟨g, 3, none⟩ = some (.slice x s.out.length c) := by
  obtain ⟨wv, ov, rv, bv, qo, qb, xs, h⟩ := h
  obtain ⟨x, c, hv, _⟩ := h.out.shape
  exact ⟨x, c, by rw [h.cells.2.2.2.1, hv]⟩
/-- What Answer answers. -/
def Answered (F : Nat → Prop) (g : Nat) (s : Se) (code : Int) (w : World) (e : Ending) (w' : World) : Prop := e = .returned (.bool (ansOk s code)) ∧ ∃ F', Now F w g F' w' (s.answer code)
theorem ans_no {F : Nat → Prop} {g : Nat} {s : Se} {code : Int} {w : World} (h : ansOk s code = false) (N : Now F w g F w s) : Answered F g s code w (.returned (.bool false)) w := by
  refine ⟨by rw [h], F, ?_⟩
  have : s.answer code = s := by rw [Se.answer, h]; rfl
  rw [this]
  exact N

set_option maxHeartbeats 4000000 in
set_option maxRecDepth 100000 in
theorem refAnswer {F : Nat → Prop} {w : World} {g : Nat} {s : Se} (h : RS F w g s) (hok : Ok s) (ho : s.out.length ≤ 1000000) (code : Int) (hc : (Lit.int .i64 code).wf = true) :
    Calls Tryz.prog 14 #[.pointer (some ⟨g, 0, none⟩), .int .i64 code] w (Answered F g s code w) := by
  have b := bounds_i64 hc
  obtain ⟨ox, oc, c3⟩ := bodyless h
  have N1 := Lib.hid (Now.start h)
  obtain ⟨_, _, c4, _, _, _⟩ := N1.out.cells
  have hst := hok.st
  have HOK := Lib.hid hok
  obtain ⟨no, hno⟩ : ∃ no, no = s.out.length := ⟨_, rfl⟩
  rw [← hno] at c3
  have HO := Lib.hid ho
  have HNO := Lib.hid hno
  clear h hok ho hno
  by_cases h5 : (s.st : Int) = 5
  · by_cases h0 : (0 : Int) < (no : Int)
    · have HX := Lib.hid (show ansOk s code = false from decide_eq_false (fun h => by have h1 := h.2.1; have h2 := HNO.out; rw [h1] at h2; simp at h2; omega))
      go_enter Tryz.func14, Tryz.ntmps14
      go_wp2
      go_ret
      exact ans_no HX.out N1.out
    · have hz : s.out = [] := List.eq_nil_of_length_eq_zero (by have := HNO.out; omega)
      have HZ := Lib.hid hz
      clear hz
      by_cases h2 : code < 200
      · have HX := Lib.hid (show ansOk s code = false from decide_eq_false (fun h => by have := h.2.2.1; omega))
        go_enter Tryz.func14, Tryz.ntmps14
        go_wp2
        go_ret
        exact ans_no HX.out N1.out
      · by_cases h6 : 599 < code
        · have HX := Lib.hid (show ansOk s code = false from decide_eq_false (fun h => by have := h.2.2.2; omega))
          go_enter Tryz.func14, Tryz.ntmps14
          go_wp2
          go_ret
          exact ans_no HX.out N1.out
        · have HX := Lib.hid (show ansOk s code = true from decide_eq_true ⟨by omega, HZ.out, by omega, by omega⟩)
          by_cases h3 : code < 300
          · have HA := Lib.hid (show s.answer code = (s.say (reply 250)).reset by rw [Se.answer, HX.out, if_pos rfl, if_pos h3])
            go_enter Tryz.func14, Tryz.ntmps14
            go_wp2_with fail
            refine (refText 250 (by decide) (by decide) _).mono ?_
            rintro e w2 ⟨rfl, hk2⟩
            have N2 := Lib.hid (N1.out.quiet hk2)
            clear hk2
            go_wp2_with fail
            refine (refSay N2.out.rs _ HO.out).mono ?_
            rintro e w3 hd
            obtain ⟨rfl, F3, hN3⟩ := N2.out.did hd
            have N3 := Lib.hid hN3
            clear hd hN3
            go_wp2_with fail
            refine (refReset N3.out.rs (by simp only [Se.say]; omega)).mono ?_
            rintro e w4 hd
            obtain ⟨rfl, F4, hN4⟩ := N3.out.did hd
            have N4 := Lib.hid hN4
            clear hd hN4
            go_wp2
            go_ret
            exact ⟨by rw [HX.out]; rfl, F4, by rw [HA.out]; exact N4.out⟩
          · have HA := Lib.hid (show s.answer code = (s.say (reply code.toNat)).reset by rw [Se.answer, HX.out, if_pos rfl, if_neg h3])
            obtain ⟨n, hn⟩ : ∃ n : Nat, code = (n : Int) := ⟨code.toNat, by omega⟩
            subst hn
            rw [Int.toNat_natCast] at HA
            go_enter Tryz.func14, Tryz.ntmps14
            go_wp2_with fail
            refine (refText n (by omega) (by omega) _).mono ?_
            rintro e w2 ⟨rfl, hk2⟩
            have N2 := Lib.hid (N1.out.quiet hk2)
            clear hk2
            go_wp2_with fail
            refine (refSay N2.out.rs _ HO.out).mono ?_
            rintro e w3 hd
            obtain ⟨rfl, F3, hN3⟩ := N2.out.did hd
            have N3 := Lib.hid hN3
            clear hd hN3
            go_wp2_with fail
            refine (refReset N3.out.rs (by simp only [Se.say]; omega)).mono ?_
            rintro e w4 hd
            obtain ⟨rfl, F4, hN4⟩ := N3.out.did hd
            have N4 := Lib.hid hN4
            clear hd hN4
            go_wp2
            go_ret
            exact ⟨by rw [HX.out]; rfl, F4, by rw [HA.out]; exact N4.out⟩
  · have HX := Lib.hid (show ansOk s code = false from decide_eq_false (fun h => by have := h.1; omega))
    go_enter Tryz.func14, Tryz.ntmps14
    go_wp2
    go_ret
    exact ans_no HX.out N1.out

/-! ### Go -/
def TextC : Prop := ∀ (F : Nat → Prop) (w : World) (g : Nat) (s : Se), RS F w g s → Ok s → ∀ (l : ByteArray), l.size ≤ 900000 → s.out.length + 2 ≤ 1000000 →
  Calls Tryz.prog 37 #[.pointer (some ⟨g, 0, none⟩), .string l] w (Did F g (s.text (ns l)) w)
def CmdC (V : ByteArray → VC) : Prop := ∀ (F : Nat → Prop) (w : World) (g : Nat) (s : Se), RS F w g s → Ok s → s.host.size ≤ 100000 → ∀ (l : ByteArray), l.size ≤ 900000 → s.out.length + 2 ≤ 1000000 →
  Calls Tryz.prog 38 #[.pointer (some ⟨g, 0, none⟩), .string l] w (Did F g (s.command V l) w)
/-- How much waits, by the cell. -/
def wlen (w : World) (g : Nat) : Nat := match w.cell? ⟨g, 2, none⟩ with
  | some (.slice _ n _) => n
  | _ => 0
/-- How far Go is. -/
structure GoAt (V : ByteArray → VC) (F : Nat → Prop) (w : World) (g : Nat) (s : Se) (F' : Nat → Prop) (w' : World) (s' : Se) : Prop where
  now : Now F w g F' w' s'
  ok : Ok s'
  go : s'.go V = s.go V
  host : s'.host = s.host
  sum : s'.out.length + s'.wait.length ≤ 900000
theorem GoAt.wait {V : ByteArray → VC} {F F' : Nat → Prop} {w w' : World} {g : Nat} {s s' : Se} (h : GoAt V F w g s F' w' s') : ∃ x c, w'.cell? ⟨g, 2, none⟩ = some (.slice x s'.wait.length c) ∧ s'.wait.length ≤ c ∧ Bytes (fun _ => True) w' x s'.wait := by
  obtain ⟨wv, ov, rv, bv, qo, qb, xs, hR⟩ := h.now.rs
  obtain ⟨x, c, hv, hc, hB⟩ := hR.wait
  exact ⟨x, c, by rw [hR.cells.2.2.1, hv], hc, hB.mono (fun _ _ _ => trivial)⟩
/-- A line was cut off what waits. -/
theorem GoAt.cut {V : ByteArray → VC} {F F' : Nat → Prop} {w w' X : World} {g i : Nat} {s s' : Se} (h : GoAt V F w g s F' w' s') (k : Keep (fun _ => False) w' X) {v : Value} {q : Option Nat} (hM : Mid X v q (s'.wait.drop (i + 2))) (hq : ∀ b, q = some b → w'.heap.size ≤ b) :
    (∃ u, X.cell? ⟨g, 2, none⟩ = some u) ∧ X.frozen? ⟨g, 2, none⟩ = false ∧ ∃ F2, Now F w g F2 (X.setCell ⟨g, 2, none⟩ v) (s'.cut i) := by
  obtain ⟨wv, ov, rv, bv, qo, qb, xs, hR⟩ := h.now.rs
  have k0 : Keep (fun k => qb = some k) w' X := k.mono (fun _ _ e => e.elim)
  obtain ⟨hc, hf, F2, h1, h2, h3⟩ := hR.turn k0 (s' := s'.cut i) (i := 2) (u := v) (wv' := v) (rv' := rv) (bv' := bv) (qb' := qb) (by rfl) rfl (hR.body.keep k (fun _ _ h => h)) (New.refl _ _) (R1 := fun b => Rd F' g qo qb b ∨ q = some b) (fun b hb => by
      rcases hb with hb | hb
      · exact ⟨.inl hb, hb.2.2.2⟩
      · exact ⟨.inr ⟨hq b hb, hM.lt b hb⟩, fun e => by have := hq b hb; have := hR.flt b (hR.fb b e); omega⟩)
    (hM.byv.keep (Keep.refl (fun _ => False) X) (fun b _ hb => ⟨fun h => h, .inr hb⟩)) (hR.rc.keep k (fun b _ hb => ⟨fun h => h, .inl hb⟩))
  exact ⟨⟨wv, hc 2⟩, hf, F2, ⟨_, _, _, _, _, _, _, h1⟩, keep_more h.now.kp h2 h.now.more, h.now.more.trans h3 h.now.kp.size⟩

theorem new_none {w : World} {q : Option Nat} {o : Obj} (h : New (w.alloc o) none q) : ∀ b, q = some b → w.heap.size ≤ b := fun b hb => by
  rcases h b hb with e | e
  · cases e
  · simp at e; omega
theorem now_wlen {F F' : Nat → Prop} {w w' : World} {g : Nat} {s : Se} (h : Now F w g F' w' s) : wlen w' g = s.wait.length := by
  obtain ⟨wv, ov, rv, bv, qo, qb, xs, hR⟩ := h.rs
  obtain ⟨x, c, hv, hc, hB⟩ := hR.wait
  have := hR.cells.2.2.1
  rw [hv] at this
  simp only [wlen, this]
theorem GoAt.next {V : ByteArray → VC} {F F' F2 : Nat → Prop} {w w' w2 : World} {g i : Nat} {s s' : Se} (h : GoAt V F w g s F' w' s') (h5 : s'.st < 5) (hp : pos s'.wait = some i) (N : Now F w g F2 w2 ((s'.cut i).line V (s'.wait.take i))) : GoAt V F w g s F2 w2 ((s'.cut i).line V (s'.wait.take i)) := by
  have h1 := out_line V (s'.cut i) (s'.wait.take i)
  have h2 := line_wait V (s'.cut i) (s'.wait.take i)
  have h3 := pos_lt hp
  have h4 := h.sum
  have h6 : (s'.cut i).wait.length = s'.wait.length - (i + 2) := by simp [Se.cut]
  have h7 : (s'.cut i).out = s'.out := rfl
  refine ⟨N, (h.ok.cut i).line V _, ?_, ?_, ?_⟩
  · rw [← h.go, go_some h5 hp]
  · rw [line_host]; exact h.host
  · rw [h2, h6]
    rw [h7] at h1
    omega

set_option maxHeartbeats 4000000 in
set_option maxRecDepth 100000 in
theorem refGo {V : ByteArray → VC} (hT : TextC) (hC : CmdC V) {F : Nat → Prop} {w : World} {g : Nat} {s : Se} (h : RS F w g s) (hok : Ok s) (hh : s.host.size ≤ 100000) (hs : s.out.length + s.wait.length ≤ 900000) :
    Calls Tryz.prog 16 #[.pointer (some ⟨g, 0, none⟩)] w (Did F g (s.go V) w) := by
  have HT := Lib.hid hT
  have HC := Lib.hid hC
  have H0 : Hid (GoAt V F w g s F w s) := Lib.hid ⟨Now.start h, hok, rfl, rfl, hs⟩
  clear h hok hT hC hs
  go_enter Tryz.func16, Tryz.ntmps16
  go_wp2
  go_loopw [] (fun wr => ∃ (F' : Nat → Prop) (s' : Se), Hid (GoAt V F w g s F' wr s')) (fun wr => wlen wr g)
  case atStart => exact ⟨F, s, H0⟩
  case round =>
    obtain ⟨F', s', HG⟩ := hrel
    obtain ⟨x, c, c2, hc, hB⟩ := HG.out.wait
    obtain ⟨_, _, c4, _, _, _⟩ := HG.out.now.cells
    have hst := HG.out.ok.st
    have hsum := HG.out.sum
    have hwl : wlen wr g = s'.wait.length := by simp only [wlen, c2]
    obtain ⟨n, hn⟩ : ∃ n, n = s'.wait.length := ⟨_, rfl⟩
    rw [← hn] at c2 hc hsum hwl
    have HN := Lib.hid hn
    have HB := Lib.hid hB
    have HW := Lib.hid hwl
    clear hn hB hwl
    by_cases h5 : (s'.st : Int) < 5
    · have hline := line HN.out hc HB.out (by omega)
      cases hp : pos s'.wait with
      | none =>
        rw [lineT_none hp, lineN_none hp] at hline
        have HL := Lib.hid hline
        have HE := Lib.hid (show s'.go V = s' from go_none hp)
        clear hp hline
        go_wp2_with fail
        refine HL.out.mono ?_
        rintro e w2 ⟨rfl, hw⟩
        obtain rfl : wr = w2 := hw.symm
        go_wp2
        (try simp only [Exit.inBlock, Exit.then])
        first | go_end0 | refine bodyPost_ret (results_none rfl _ _ _) rfl ?_
        have := HG.out.now.done
        rw [← HG.out.go, HE.out]
        exact this
      | some i =>
        rw [lineT_some hp, lineN_some hp] at hline
        have hi := pos_lt hp
        have HP := Lib.hid hp
        have HL := Lib.hid hline
        obtain ⟨j, hj⟩ : ∃ j, j = i + 2 := ⟨_, rfl⟩
        rw [← hj] at HL
        have hjn : j ≤ n := by have := HN.out; omega
        have hj0 : ¬ ((j : Int) = 0) := by omega
        obtain ⟨s1, s2⟩ := cut_drop x n c j hjn hc
        obtain ⟨x', hx'⟩ : ∃ x', x' = (if c = j then x else x.map (fun a => a.add j)) := ⟨_, rfl⟩
        rw [← hx'] at s1 s2
        have hB2 : Bytes (fun _ => True) wr x' (s'.wait.drop j) := by
          rw [hx']
          have := HB.out.mid c j s'.wait.length (by have := HN.out; omega) (Nat.le_refl _) (by have := HN.out; omega)
          rw [List.take_length] at this
          exact this
        have hlen : (s'.wait.drop j).length = n - j := by rw [List.length_drop, ← HN.out]
        have HB2 := Lib.hid hB2
        have HLEN := Lib.hid hlen
        have HJ := Lib.hid hj
        have f2 : ∀ k, wr.frozen? ⟨g, k, none⟩ = false := (HG.out.now.cells).2.2.2.2.2
        have a2 : (wr.alloc (.cells #[] 5)).cell? ⟨g, 2, none⟩ = some (.slice x n c) := ((Keep.refl (fun _ => False) wr).alloc _).cell c2 (fun h => h)
        clear hp hline hi hj hx' hB2 hlen
        have hnsi : ns (str (s'.wait.take i)) = s'.wait.take i := ns_str (fun c hc => HB.out.1 c (List.mem_of_mem_take hc))
        have hsz : (str (s'.wait.take i)).size ≤ 900000 := by rw [str_size, List.length_take]; have := HN.out; omega
        have hob : (s'.cut i).out.length + 2 ≤ 1000000 := by show s'.out.length + 2 ≤ 1000000; omega
        have hhc : (s'.cut i).host.size ≤ 100000 := by show s'.host.size ≤ 100000; rw [HG.out.host]; exact hh
        have HNS := Lib.hid hnsi
        have HSZ := Lib.hid hsz
        have HOB := Lib.hid hob
        have HHC := Lib.hid hhc
        clear hnsi hsz hob hhc
        by_cases h4 : (s'.st : Int) = 4
        · go_wp2_with fail
          refine HL.out.mono ?_
          rintro e w2 ⟨rfl, hw⟩
          obtain rfl : wr = w2 := hw.symm
          go_wp2_with (refine wpList_append_mid (by rfl) _ _ (by rfl) (.slice (some ⟨wr.heap.size, 0, none⟩) 0 0) none [] (by rfl) (Mid.empty _ _) (fun _ => True) x' (n - j) (c - j) (s'.wait.drop j) (by rfl) HLEN.out (HB2.out.quiet ((Keep.refl _ _).alloc _)) (by simp; omega) ?_; intro y k cap q X hM hK hNw; have hKX := Keep.trans (S := fun _ => False) ((Keep.refl _ wr).alloc _) hK (fun _ _ e => by cases e); rw [HJ.out] at hM; obtain ⟨⟨u2, d2⟩, df2, F2, hN2⟩ := HG.out.cut (i := i) hKX (by simpa using hM) (new_none hNw); have d4 : (X.setCell ⟨g, 2, none⟩ (.slice y k cap)).cell? ⟨g, 4, none⟩ = some (.int .i64 (s'.st : Int)) := hN2.cells.2.2.1; have N2 := Lib.hid hN2; clear hM hK hNw hKX hN2)
          refine (HT.out F2 _ g _ N2.out.rs (HG.out.ok.cut i) _ HSZ.out HOB.out).mono ?_
          rintro e w5 hd
          obtain ⟨rfl, F5, hN5⟩ := N2.out.did hd
          have hG5 := HG.out.next (by omega) HP.out (show Now F w g F5 w5 ((s'.cut i).line V (s'.wait.take i)) by rw [Se.line, if_pos (show (s'.cut i).st = 4 from by show s'.st = 4; omega), ← HNS.out, HNS.out]; rw [HNS.out] at hN5; exact hN5)
          have hm5 : wlen w5 g < wlen wr g := by
            rw [now_wlen hG5.now, line_wait, HW.out]
            have := pos_lt HP.out
            have := HN.out
            simp [Se.cut]
            omega
          have HG5 := Lib.hid hG5
          have HM5 := Lib.hid hm5
          clear hd hN5 hG5 hm5
          go_wp2
          go_roundw
          case rel => exact ⟨F5, _, HG5⟩
          case measure => exact HM5.out
        · go_wp2_with fail
          refine HL.out.mono ?_
          rintro e w2 ⟨rfl, hw⟩
          obtain rfl : wr = w2 := hw.symm
          go_wp2_with (refine wpList_append_mid (by rfl) _ _ (by rfl) (.slice (some ⟨wr.heap.size, 0, none⟩) 0 0) none [] (by rfl) (Mid.empty _ _) (fun _ => True) x' (n - j) (c - j) (s'.wait.drop j) (by rfl) HLEN.out (HB2.out.quiet ((Keep.refl _ _).alloc _)) (by simp; omega) ?_; intro y k cap q X hM hK hNw; have hKX := Keep.trans (S := fun _ => False) ((Keep.refl _ wr).alloc _) hK (fun _ _ e => by cases e); rw [HJ.out] at hM; obtain ⟨⟨u2, d2⟩, df2, F2, hN2⟩ := HG.out.cut (i := i) hKX (by simpa using hM) (new_none hNw); have d4 : (X.setCell ⟨g, 2, none⟩ (.slice y k cap)).cell? ⟨g, 4, none⟩ = some (.int .i64 (s'.st : Int)) := hN2.cells.2.2.1; have N2 := Lib.hid hN2; clear hM hK hNw hKX hN2)
          refine (HC.out F2 _ g _ N2.out.rs (HG.out.ok.cut i) HHC.out _ HSZ.out HOB.out).mono ?_
          rintro e w5 hd
          obtain ⟨rfl, F5, hN5⟩ := N2.out.did hd
          have hG5 := HG.out.next (by omega) HP.out (show Now F w g F5 w5 ((s'.cut i).line V (s'.wait.take i)) by rw [Se.line, if_neg (show ¬ (s'.cut i).st = 4 from by show ¬ s'.st = 4; omega)]; exact hN5)
          have hm5 : wlen w5 g < wlen wr g := by
            rw [now_wlen hG5.now, line_wait, HW.out]
            have := pos_lt HP.out
            have := HN.out
            simp [Se.cut]
            omega
          have HG5 := Lib.hid hG5
          have HM5 := Lib.hid hm5
          clear hd hN5 hG5 hm5
          go_wp2
          go_roundw
          case rel => exact ⟨F5, _, HG5⟩
          case measure => exact HM5.out
    · have HE := Lib.hid (show s'.go V = s' from go_over (by omega))
      go_wp2
      (try simp only [Exit.inBlock, Exit.then])
      first | go_end0 | refine bodyPost_ret (results_none rfl _ _ _) rfl ?_
      have := HG.out.now.done
      rw [← HG.out.go, HE.out]
      exact this
end Go.Proofs.YtcjljldknekhiaaGreatDoor.Ln
