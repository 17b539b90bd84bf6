/-
  What the program's say, remark, reply and reset return.
-/
import Derived.Test.YtcjljldknekhiaaGreatDoorPt
import Derived.Lib.AppendIntMem
namespace Go.Proofs.YtcjljldknekhiaaGreatDoor.Ln
open Go.RowKit
set_option linter.unusedVariables false
set_option linter.unusedSimpArgs false

/-! ### Numbers as text -/
theorem dig_dec : ∀ n : Nat, Lib.decDigits n = (dig n).map UInt8.ofNat := by
  intro n
  induction n using Nat.strongRecOn with
  | _ n ih =>
    rw [Lib.decDigits, dig]
    by_cases h : n < 10
    · rw [dif_pos h, if_pos h]; rfl
    · rw [dif_neg h, if_neg h, ih (n / 10) (by omega), List.map_append]; rfl
theorem itoa_str (n : Nat) : (⟨(Lib.itoa (n : Int)).toArray⟩ : ByteArray) = str (dig n) := by
  apply ByteArray.ext
  apply Array.ext'
  rw [Lib.itoa_nonneg, dig_dec]
  simp [str, strOfNums, Function.comp_def]
theorem itoaC (n : Nat) (hn : n ≤ 1000000) (w : World) (hE : Env w) : Calls Tryz.prog 28 #[.int .i64 (n : Int)] w fun e w' => e = .returned (.string (str (dig n))) ∧ Keep (fun _ => False) w w' := by
  refine (Ad.strconv_Itoa (n : Int) (by omega) (by omega) w hE.2).mono ?_
  rintro e w' ⟨rfl, k, os, rfl⟩
  exact ⟨by rw [itoa_str], Keep.of_below (Lib.below_grow _ w (Nat.le_refl _) k os)⟩
theorem dig_size (n : Nat) (hn : n ≤ 1000000) : (str (dig n)).size ≤ 9 := by
  rw [str_size]
  by_cases h : n = 0
  · subst h; rw [dig]; simp
  · rw [← front_pos (by omega)]; exact dig_len 9 n (by omega)

/-! ### An event is told -/
section
variable {F : Nat → Prop} {w w' : World} {g : Nat} {p : Se} {lv ev rv bv : Value} {o : Own} {xs : List Value}
theorem PSat.tell (h : PSat F w g p lv ev rv bv o xs) {e : Ev} {cs : List Value} (he : ∀ R W, EvAt R W e cs) {y : Option Addr} {m cap : Nat} {q' : Option Nat} (hA : At w' g 68 ((pCells p lv ev rv bv).setIfInBounds 4 (.slice y m cap))) (hM : MidG 46 8 w' (.slice y m cap) q' (p.out.length + 1) (xs ++ cs)) (k : Keep (fun i => i = g ∨ o.qe = some i) w w') (hN : New w o.qe q') :
    ∃ F', PS F' w' g { p with out := p.out ++ [e] } ∧ Keep F w w' ∧ More F F' w := by
  have h1 := h.neg
  have h2 := h.ner
  have h3 := h.neb
  have h4 := h.nel
  have h5 := h.neL
  obtain ⟨F', H1, H2, H3⟩ := h.turn (p' := { p with out := p.out ++ [e] }) (lv' := lv) (ev' := .slice y m cap) (rv' := rv) (bv' := bv) (o' := { o with qe := q' }) (xs' := xs ++ cs) (R1 := PRd F g o) k (fun i _ e => e.elim .inl (fun e => .inr (.inl e))) hA
    (by rw [show (p.out ++ [e]).length = p.out.length + 1 by simp]; exact hM)
    (EvsAt.snoc (he _ _) (h.evs.keepW k (fun b _ hR => ⟨fun e => e.elim hR.2.1 (fun e => hR.2.2 (.inl e)), hR⟩)))
    (h.rc.keep k (fun b hb e => e.elim (h1 b (.inr (.inl hb))) (h2 b hb).1)) (h.body.keep k (fun b hb e => e.elim (h1 b (.inr (.inr (.inl hb)))) (h3 b hb).1)) (h.lin.keep k (fun b hb e => e.elim (h1 b (.inr (.inr (.inr (.inr hb))))) (h5 b hb).1) (fun b hb e => e.elim (h1 b (.inr (.inr (.inr (.inl hb))))) (h4 b hb).1))
    h.nbl (fun i hi => by
      rcases hi with hi | hi
      · rcases hN i hi with e | e
        · exact .inl (.inl e)
        · exact .inr e
      · exact .inl (.inr hi)) (fun i _ hR => ⟨.inl hR.1, hR.2.1, fun hi => by
      rcases hi with hi | hi
      · rcases hN i hi with e | e
        · exact hR.2.2 (.inl e)
        · have := h.flt i hR.1; omega
      · exact hR.2.2 (.inr hi)⟩)
  exact ⟨F', ⟨_, _, _, _, _, _, H1⟩, H2, H3⟩
end

set_option maxHeartbeats 1000000 in
theorem psay {F : Nat → Prop} {w : World} {g : Nat} {p : Se} (h : PS F w g p) (t : ByteArray) (hl : p.out.length ≤ 1000000) :
    Calls Tryz.prog 27 #[.pointer (some ⟨g, 0, none⟩), .string t] w (PDid F g (p.say t) w) := by
  obtain ⟨lv, ev, rv, bv, o, xs, h⟩ := h
  obtain ⟨x, cap, rfl, hc⟩ := h.out.shape
  have H := Lib.hid h
  clear h
  go_enter Tryz.func27, Tryz.ntmps27
  go_wp2_with fail
  refine (tellRaw H.out.row rfl H.out.out hl 1 t nobody none none 0 0 0 0).mono ?_
  rintro e w' ⟨rfl, y, m, cap', q', hA, hM, hK, hN⟩
  have HX := Lib.hid (H.out.tell (e := .say t) (fun _ _ => rfl) hA hM hK hN)
  clear hA hM hK hN
  go_wp2_with fail
  go_end0
  exact ⟨rfl, HX.out⟩
/-- The last event of all. -/
theorem ptellShut {F : Nat → Prop} {w : World} {g : Nat} {p : Se} (h : PS F w g p) (hl : p.out.length ≤ 1000000) :
    Calls Tryz.prog 48 #[.pointer (some ⟨g, 0, none⟩), evV 3 nobody nobody nilV nilV] w (PDid F g { p with out := p.out ++ [.shut] } w) := by
  obtain ⟨lv, ev, rv, bv, o, xs, h⟩ := h
  obtain ⟨x, cap, rfl, hc⟩ := h.out.shape
  refine (tellRaw h.row rfl h.out hl 3 nobody nobody none none 0 0 0 0).mono ?_
  rintro e w' ⟨rfl, y, m, cap', q', hA, hM, hK, hN⟩
  exact ⟨rfl, h.tell (e := .shut) (fun _ _ => rfl) hA hM hK hN⟩

/-! ### Replies -/
def rem (n : Nat) : List Nat := if n = 250 then [111, 107] else if n = 221 then [98, 121, 101] else if n = 354 then [103, 111, 32, 111, 110] else [110, 111]
theorem tail_rem (n : Nat) : tailOf n = [32] ++ rem n ++ [13, 10] := by
  unfold tailOf rem
  split; · rfl
  split; · rfl
  split <;> rfl
theorem rem_size (n : Nat) : (str (rem n)).size ≤ 5 := by
  rw [str_size]
  unfold rem
  split; · decide
  split; · decide
  split <;> decide
set_option maxHeartbeats 1000000 in
theorem premark (n : Nat) (w : World) (hn : n ≤ 1000000) : Calls Tryz.prog 51 #[.int .i64 (n : Int)] w fun e w' => e = .returned (.string (str (rem n))) ∧ w' = w := by
  by_cases h250 : (n : Int) = 250
  · obtain rfl : n = 250 := by omega
    go_enter Tryz.func51, Tryz.ntmps51
    go_wp2
    go_ret
    exact ⟨rfl, rfl⟩
  · by_cases h221 : (n : Int) = 221
    · obtain rfl : n = 221 := by omega
      go_enter Tryz.func51, Tryz.ntmps51
      go_wp2
      go_ret
      exact ⟨rfl, rfl⟩
    · by_cases h354 : (n : Int) = 354
      · obtain rfl : n = 354 := by omega
        go_enter Tryz.func51, Tryz.ntmps51
        go_wp2
        go_ret
        exact ⟨rfl, rfl⟩
      · go_enter Tryz.func51, Tryz.ntmps51
        go_wp2
        go_ret
        refine ⟨?_, rfl⟩
        rw [rem, if_neg (by omega), if_neg (by omega), if_neg (by omega)]
        rfl
theorem reply_parts (n : Nat) : ((str (dig n) ++ ({ data := #[32] } : ByteArray)) ++ str (rem n)) ++ ({ data := #[13, 10] } : ByteArray) = reply n := by
  have e1 : ({ data := #[32] } : ByteArray) = str [32] := rfl
  have e2 : ({ data := #[13, 10] } : ByteArray) = str [13, 10] := rfl
  rw [e1, e2, str_append, str_append, str_append, reply, tail_rem]
  simp

set_option maxHeartbeats 1000000 in
theorem preply {F : Nat → Prop} {w : World} {g : Nat} {p : Se} (h : PS F w g p) (hE : Env w) (n : Nat) (hn : n ≤ 1000000) (hl : p.out.length ≤ 1000000) :
    Calls Tryz.prog 33 #[.pointer (some ⟨g, 0, none⟩), .int .i64 (n : Int)] w (PDid F g (p.say (reply n)) w) := by
  have N0 := Lib.hid (PNow.start h hE)
  have HP := Lib.hid (reply_parts n)
  have hd := dig_size n hn
  have hr := rem_size n
  have HI := Lib.hid (fun W e => itoaC n hn W e)
  have HR := Lib.hid (fun W => premark n W hn)
  clear h hE
  generalize str (dig n) = D at HP HI hd
  generalize str (rem n) = E at HP HR hr
  go_enter Tryz.func33, Tryz.ntmps33
  go_wp2_with fail
  refine (HI.out _ N0.out.env).mono ?_
  rintro e w1 ⟨rfl, hk1⟩
  have N1 := Lib.hid (N0.out.quiet hk1)
  clear hk1
  go_wp2_with fail
  refine (HR.out _).mono ?_
  rintro e w2 ⟨rfl, rfl⟩
  go_wp2_with fail
  refine (psay N1.out.rs _ hl).mono ?_
  rintro e w3 hd3
  rw [HP.out] at hd3
  obtain ⟨rfl, F3, hN3⟩ := N1.out.did hd3
  have N3 := Lib.hid hN3
  clear hd3 hN3
  go_wp2_with fail
  go_end0
  exact N3.out.done
end Go.Proofs.YtcjljldknekhiaaGreatDoor.Ln
