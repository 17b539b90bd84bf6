/-
  Several texts in one: E1 E2.
-/
import Derived.Test.YtimoebicacnihaaGreatDoorKEBase
import Derived.Test.YtimoebicacnihaaGreatDoorKg3
import Derived.Test.YtimoebicacnihaaGreatDoorKg5

section
/-
  What the program's Good returns, for every mail.
-/
namespace Go.Proofs.YtimoebicacnihaaGreatDoor.Ln
open Go.RowKit
set_option linter.unusedVariables false
set_option linter.unusedSimpArgs false

set_option maxHeartbeats 2000000 in
theorem goodNumbersC (m : Ml) (rx : Option Addr) (rn rc : Nat) (bx : Option Addr) (bn bc : Nat) (w : World) :
    Calls Tryz.prog 54 #[.agg (mlC m rx rn rc bx bn bc)] w (Quiet (.bool (numsB m)) w) := by
  obtain ⟨i, p, b, f, L, B⟩ := m
  have HQ : Hid (∀ (q : Bool), q = numsB ⟨i, p, b, f, L, B⟩ → ∀ w', Keep (fun _ => False) w w' → Quiet (.bool (numsB ⟨i, p, b, f, L, B⟩)) w (.returned (.bool q)) w') := Lib.hid (fun q hq w' k => quiet_of (by rw [hq]) k)
  have k0 := keep_new w (.cells (mlC ⟨i, p, b, f, L, B⟩ rx rn rc bx bn bc) 25)
  have K0 := Lib.hid k0
  clear k0
  unfold mlC at K0 ⊢
  simp only at K0 ⊢
  by_cases h1 : (1 : Int) ≤ i
  · by_cases h2 : i ≤ 999999999
    · by_cases h3 : (0 : Int) ≤ p
      · by_cases h4 : p < i
        · by_cases h5 : (0 : Int) ≤ b
          · by_cases h6 : b ≤ 1099511627776
            · have HV : Hid (true = numsB ⟨i, p, b, f, L, B⟩) := Lib.hid (by simp [numsB, h1, h2, h3, h4, h5, h6])
              go_enter Tryz.func54, Tryz.ntmps54
              go_wp2
              go_ret
              exact HQ.out _ HV.out _ K0.out
            · have HV : Hid (false = numsB ⟨i, p, b, f, L, B⟩) := Lib.hid (by simp [numsB, h6])
              have d : decide (b ≤ 1099511627776) = false := decide_eq_false h6
              clear h6
              go_enter Tryz.func54, Tryz.ntmps54
              go_wp2
              go_ret
              exact HQ.out _ HV.out _ K0.out
          · have HV : Hid (false = numsB ⟨i, p, b, f, L, B⟩) := Lib.hid (by simp [numsB, h5])
            have d : decide ((0 : Int) ≤ b) = false := decide_eq_false h5
            clear h5
            go_enter Tryz.func54, Tryz.ntmps54
            go_wp2
            go_ret
            exact HQ.out _ HV.out _ K0.out
        · have HV : Hid (false = numsB ⟨i, p, b, f, L, B⟩) := Lib.hid (by simp [numsB, h4])
          have d : decide (p < i) = false := decide_eq_false h4
          clear h4
          go_enter Tryz.func54, Tryz.ntmps54
          go_wp2
          go_ret
          exact HQ.out _ HV.out _ K0.out
      · have HV : Hid (false = numsB ⟨i, p, b, f, L, B⟩) := Lib.hid (by simp [numsB, h3])
        have d : decide ((0 : Int) ≤ p) = false := decide_eq_false h3
        clear h3
        go_enter Tryz.func54, Tryz.ntmps54
        go_wp2
        go_ret
        exact HQ.out _ HV.out _ K0.out
    · have HV : Hid (false = numsB ⟨i, p, b, f, L, B⟩) := Lib.hid (by simp [numsB, h2])
      have d : decide (i ≤ 999999999) = false := decide_eq_false h2
      clear h2
      go_enter Tryz.func54, Tryz.ntmps54
      go_wp2
      go_ret
      exact HQ.out _ HV.out _ K0.out
  · have HV : Hid (false = numsB ⟨i, p, b, f, L, B⟩) := Lib.hid (by simp [numsB, h1])
    have d : decide ((1 : Int) ≤ i) = false := decide_eq_false h1
    clear h1
    go_enter Tryz.func54, Tryz.ntmps54
    go_wp2
    go_ret
    exact HQ.out _ HV.out _ K0.out

set_option maxHeartbeats 2000000 in
theorem goodRcptsC (hB : BoxC) {P : Nat → Prop} {w : World} (hE : Env w) {x : Option Addr} {n c : Nat} {L : List ByteArray} (hn : n = L.length) (h : TxP P w x L) :
    Calls Tryz.prog 56 #[.slice x n c] w (Quiet (.bool (rcptsB L)) w) := by
  have HB := Lib.hid hB
  have HE := Lib.hid hE
  have HN := Lib.hid hn
  have HX := Lib.hid h
  clear hB hE hn h
  by_cases h1 : (n : Int) < 1
  · have HV : Hid (rcptsB L = false) := Lib.hid (by have := HN.out; simp [rcptsB]; omega)
    go_enter Tryz.func56, Tryz.ntmps56
    go_wp2
    go_ret
    exact ⟨by rw [HV.out]; rfl, Keep.refl _ _⟩
  have d1 : decide ((n : Int) < 1) = false := decide_eq_false h1
  by_cases h8 : (8 : Int) < (n : Int)
  · have HV : Hid (rcptsB L = false) := Lib.hid (by have := HN.out; simp [rcptsB]; omega)
    clear h1
    go_enter Tryz.func56, Tryz.ntmps56
    go_wp2
    go_ret
    exact ⟨by rw [HV.out]; rfl, Keep.refl _ _⟩
  have d8 : decide ((8 : Int) < (n : Int)) = false := decide_eq_false h8
  have HL : Hid (1 ≤ n ∧ n ≤ 8) := Lib.hid (by omega)
  have hn8 : n ≤ 8 := by omega
  clear h1 h8
  go_enter Tryz.func56, Tryz.ntmps56
  go_wp2
  go_loopw [15] (fun i wr => ∃ k : Nat, k ≤ n ∧ i = .int .i64 (k : Int) ∧ Hid (Keep (fun _ => False) w wr ∧ ∀ j (hj : j < L.length), j < k → boxB L[j] = true)) (fun i _ => n - (intOf i).toNat)
  case atStart => exact ⟨0, by omega, rfl, Keep.refl _ _, fun j _ h => absurd h (Nat.not_lt_zero _)⟩
  case round =>
    obtain ⟨k, hk, rfl, HR⟩ := hrel
    by_cases hlt : (k : Int) < (n : Int)
    · have hkl : k < L.length := by have := HN.out; omega
      obtain ⟨b, off, _, _, hx, hc⟩ := HX.out.at k hkl
      subst hx
      have c1 := HR.out.1.cell hc (fun h => h)
      obtain ⟨s, hs⟩ : ∃ s, s = L[k] := ⟨_, rfl⟩
      rw [← hs] at c1
      have HS : Hid (∀ h : k < L.length, s = L[k]) := Lib.hid (fun _ => hs)
      have HKL := Lib.hid hkl
      have k0 : (0 : Int) ≤ (k : Int) := by omega
      clear hc hs
      clear hkl
      go_wp2_with fail
      refine (HB.out s wr (HE.out.quiet HR.out.1)).mono ?_
      rintro e w1 ⟨rfl, hk1⟩
      have HK1 := Lib.hid hk1
      clear hk1
      cases hb : boxB s with
      | true =>
        have HBB := Lib.hid hb
        clear hb
        go_wp2
        go_roundw
        case rel => exact ⟨k + 1, by omega, by go_num, HR.out.1.trans HK1.out (fun _ _ h => h), fun j hj h => by
          rcases Nat.lt_or_ge j k with h2 | h2
          · exact HR.out.2 j hj h2
          · obtain rfl : j = k := by omega
            rw [← HS.out hj]; exact HBB.out⟩
        case measure => simp [intOf]; omega
      | false =>
        have HBB := Lib.hid hb
        clear hb
        go_wp2
        go_ret
        have hv : rcptsB L = false := by
          have hm : (L.all boxB) = false := by
            rw [List.all_eq_false]
            exact ⟨L[k]'HKL.out, List.getElem_mem _, by rw [← HS.out HKL.out, HBB.out]; simp⟩
          simp [rcptsB, hm]
        exact ⟨by rw [hv]; rfl, HR.out.1.trans HK1.out (fun _ _ h => h)⟩
    · have HEQ : Hid (k = n) := Lib.hid (by omega)
      go_wp2
      go_ret
      have hv : rcptsB L = true := by
        have hm : (L.all boxB) = true := by
          rw [List.all_eq_true]
          intro s hs
          obtain ⟨j, hj, rfl⟩ := List.getElem_of_mem hs
          exact HR.out.2 j hj (by have := HEQ.out; have := HN.out; omega)
        have a := HL.out
        have b := HN.out
        simp [rcptsB, hm]
        omega
      exact ⟨by rw [hv]; rfl, HR.out.1⟩

set_option maxHeartbeats 1000000 in
theorem goodBodyC (hL : LinesC) {P : Nat → Prop} {w : World} (hE : Env w) {x : Option Addr} {n c : Nat} {B : List Nat} (hn : n = B.length) (hc : n ≤ c) (h : Bytes P w x B) :
    Calls Tryz.prog 57 #[.slice x n c] w (Quiet (.bool (textB B)) w) := by
  have HL := Lib.hid hL
  have HE := Lib.hid hE
  have HN := Lib.hid hn
  have HX := Lib.hid h
  clear hL hE hn h
  by_cases h8 : (8192 : Int) < (n : Int)
  · have HV : Hid (textB B = false) := Lib.hid (by have := HN.out; simp [textB]; omega)
    go_enter Tryz.func57, Tryz.ntmps57
    go_wp2
    go_ret
    exact ⟨by rw [HV.out]; rfl, Keep.refl _ _⟩
  · have h8' : n ≤ 8192 := by omega
    go_enter Tryz.func57, Tryz.ntmps57
    go_wp2_with fail
    refine (HL.out x n c B P w HN.out hc h8' HX.out HE.out).mono ?_
    rintro e w1 ⟨⟨v, rfl⟩, hk1⟩
    go_wp2
    go_ret
    have hv : textB B = bodyB B := by have := HN.out; simp [textB]; omega
    exact ⟨by rw [hv]; rfl, hk1⟩

set_option maxHeartbeats 4000000 in
theorem goodC (hB : BoxC) (hL : LinesC) {P : Nat → Prop} {w : World} (hE : Env w) {m : Ml} {rx : Option Addr} {rn rc : Nat} {bx : Option Addr} {bn bc : Nat} (h : MlAt P w m rx rn rc bx bn bc) :
    Calls Tryz.prog 42 #[.agg (mlC m rx rn rc bx bn bc)] w (Quiet (.bool (goodM m)) w) := by
  have k0 := keep_new w (.cells (mlC m rx rn rc bx bn bc) 25)
  have HNB := Lib.hid (fun W => goodNumbersC m rx rn rc bx bn bc W)
  have HA : Hid (At (w.alloc (.cells (mlC m rx rn rc bx bn bc) 25)) w.heap.size 25 (mlC m rx rn rc bx bn bc)) := Lib.hid (At.new w _ _)
  have H := Lib.hid (h.quiet k0)
  have HE := Lib.hid (hE.quiet k0)
  have K0 := Lib.hid k0
  have HB := Lib.hid hB
  have HL := Lib.hid hL
  clear h hE k0 hB hL
  obtain ⟨nb, hnb⟩ : ∃ nb, nb = numsB m := ⟨_, rfl⟩
  obtain ⟨fb, hfb⟩ : ∃ fb, fb = boxB m.frm := ⟨_, rfl⟩
  obtain ⟨rb, hrb⟩ : ∃ rb, rb = rcptsB m.rcpts := ⟨_, rfl⟩
  obtain ⟨tb, htb⟩ : ∃ tb, tb = textB m.body := ⟨_, rfl⟩
  have HV : Hid (goodM m = (nb && ((decide (m.frm.size = 0) || fb) && (rb && tb)))) := Lib.hid (by rw [hnb, hfb, hrb, htb]; rfl)
  have HNB2 : Hid (∀ W, Calls Tryz.prog 54 #[.agg #[.int .i64 m.id, .int .i64 m.parent, .int .i64 m.born, .string m.frm, .slice rx rn rc, .slice bx bn bc]] W (Quiet (.bool nb) W)) := Lib.hid (by rw [hnb]; exact HNB.out)
  have HFB : Hid (∀ W, Env W → Calls Tryz.prog 55 #[.string m.frm] W (Quiet (.bool fb) W)) := Lib.hid (by rw [hfb]; exact fun W h => HB.out m.frm W h)
  have HRB : Hid (∀ W, Env W → Keep (fun _ => False) (w.alloc (.cells (mlC m rx rn rc bx bn bc) 25)) W → Calls Tryz.prog 56 #[.slice rx rn rc] W (Quiet (.bool rb) W)) := Lib.hid (by rw [hrb]; exact fun W h k => goodRcptsC HB.out h H.out.hrn (H.out.rs.quiet k))
  have HTB : Hid (∀ W, Env W → Keep (fun _ => False) (w.alloc (.cells (mlC m rx rn rc bx bn bc) 25)) W → Calls Tryz.prog 57 #[.slice bx bn bc] W (Quiet (.bool tb) W)) := Lib.hid (by rw [htb]; exact fun W h k => goodBodyC HL.out h H.out.hbn H.out.bl (H.out.bs.quiet k))
  clear hnb hfb hrb htb HNB
  obtain ⟨i, p, b, f, L, B⟩ := m
  unfold mlC at *
  simp only at *
  go_enter Tryz.func42, Tryz.ntmps42
  go_wp2_with fail
  refine (HNB2.out _).mono ?_
  rintro e w1 ⟨rfl, hk1⟩
  have K1 := Lib.hid hk1
  have KA1 := Lib.hid (K0.out.trans hk1 (fun _ _ h => h))
  have HA1 := Lib.hid (HA.out.keep hk1 (fun h => h))
  obtain ⟨q3, q4, q5⟩ : w1.cell? ⟨w.heap.size, 3, none⟩ = some (.string f) ∧ w1.cell? ⟨w.heap.size, 4, none⟩ = some (.slice rx rn rc) ∧ w1.cell? ⟨w.heap.size, 5, none⟩ = some (.slice bx bn bc) := ⟨HA1.out.cell 3, HA1.out.cell 4, HA1.out.cell 5⟩
  have E1 := Lib.hid (HE.out.quiet hk1)
  clear hk1
  cases nb with
  | false =>
    go_wp2
    go_ret
    exact ⟨by rw [HV.out]; rfl, KA1.out⟩
  | true =>
    by_cases hf : f.size = 0
    · obtain rfl : f = { data := #[] } := by
        apply ByteArray.ext
        apply Array.eq_empty_of_size_eq_zero
        exact hf
      go_wp2_with fail
      refine (HRB.out w1 E1.out K1.out).mono ?_
      rintro e w2 ⟨rfl, hk2⟩
      have K2 := Lib.hid (K1.out.trans hk2 (fun _ _ h => h))
      have KA2 := Lib.hid (KA1.out.trans hk2 (fun _ _ h => h))
      have q5' := hk2.cell q5 (fun h => h)
      have E2 := Lib.hid (E1.out.quiet hk2)
      clear hk2 q3 q4 q5
      cases rb with
      | false =>
        go_wp2
        go_ret
        exact ⟨by rw [HV.out]; first | rfl | (simp; done) | (simp; rfl), KA2.out⟩
      | true =>
        go_wp2_with fail
        refine (HTB.out w2 E2.out K2.out).mono ?_
        rintro e w3 ⟨rfl, hk3⟩
        go_wp2
        go_ret
        exact ⟨by rw [HV.out]; first | rfl | (simp; done) | (simp; rfl), KA2.out.trans hk3 (fun _ _ h => h)⟩
    · have HD : Hid (decide (f.size = 0) = false) := Lib.hid (decide_eq_false hf)
      have hne : (f.toList == []) = false := by
        rw [beq_eq_false_iff_ne]
        intro h
        apply hf
        rw [Lib.toList_data] at h
        have := congrArg List.length h
        simpa using this
      have hne2 : ¬ f = { data := #[] } := fun h => hf (by rw [h]; rfl)
      clear hf
      go_wp2_with fail
      refine (HFB.out w1 E1.out).mono ?_
      rintro e w2 ⟨rfl, hk2⟩
      have K2 := Lib.hid (K1.out.trans hk2 (fun _ _ h => h))
      have KA2 := Lib.hid (KA1.out.trans hk2 (fun _ _ h => h))
      have q4' := hk2.cell q4 (fun h => h)
      have q5' := hk2.cell q5 (fun h => h)
      have E2 := Lib.hid (E1.out.quiet hk2)
      clear hk2 q3 q4 q5
      cases fb with
      | false =>
        go_wp2
        go_ret
        exact ⟨by rw [HV.out, HD.out]; rfl, KA2.out⟩
      | true =>
        go_wp2_with fail
        refine (HRB.out w2 E2.out K2.out).mono ?_
        rintro e w3 ⟨rfl, hk3⟩
        have K3 := Lib.hid (K2.out.trans hk3 (fun _ _ h => h))
        have KA3 := Lib.hid (KA2.out.trans hk3 (fun _ _ h => h))
        have q5'' := hk3.cell q5' (fun h => h)
        have E3 := Lib.hid (E2.out.quiet hk3)
        clear hk3 q4' q5'
        cases rb with
        | false =>
          go_wp2
          go_ret
          exact ⟨by rw [HV.out]; first | rfl | (simp; done) | (simp; rfl), KA3.out⟩
        | true =>
          go_wp2_with fail
          refine (HTB.out w3 E3.out K3.out).mono ?_
          rintro e w4 ⟨rfl, hk4⟩
          go_wp2
          go_ret
          exact ⟨by rw [HV.out]; first | rfl | (simp; done) | (simp; rfl), KA3.out.trans hk4 (fun _ _ h => h)⟩
end Go.Proofs.YtimoebicacnihaaGreatDoor.Ln
end

section
/-
  What the program's content, checksum and Encode return, for every mail.
-/
namespace Go.Proofs.YtimoebicacnihaaGreatDoor.Ln
open Go.RowKit
set_option linter.unusedVariables false
set_option linter.unusedSimpArgs false

/-! ### A string's bytes -/
theorem conv_str (A : ByteArray) (w : World) : ∃ cap w1, (convert 9 23 (.string A)).run Tryz.prog w = .ok (.slice (some ⟨w.heap.size, 0, none⟩) A.size cap) w1 ∧ Bytes (fun b => b = w.heap.size) w1 (some ⟨w.heap.size, 0, none⟩) (ns A) ∧ Keep (fun _ => False) w w1 := by
  refine ⟨_, _, run_bytes_of_string w 9 23 5 A Tryz.underlying9 Tryz.underlying23 Tryz.underlying5, ⟨ns_lt A, .inr ⟨w.heap.size, 0, rfl, rfl, fun i hi => ?_⟩⟩, (Keep.refl _ w).drew.alloc _⟩
  have hi' : i < A.size := by rwa [ns_length] at hi
  refine (cell_of_row _ _ (0 + i) _ _ _ (heap_alloc_new w.drew _)).trans ?_
  rw [Nat.zero_add]
  have hi2 : i < A.data.size := hi'
  unfold bytesRow
  rw [Array.getElem?_append_left (by simpa using hi2)]
  simp [ns, Array.getElem?_eq_getElem hi2]

/-! ### A writer of the call's own -/
theorem encs_take (L : List ByteArray) (k : Nat) (h : k < L.length) : encs (L.take (k + 1)) = encs (L.take k) ++ enc (ns L[k]) := by
  rw [List.take_succ_eq_append_getElem h, encs_append]
  simp [encs]
theorem encs_small {L : List ByteArray} (h : ∀ s ∈ L, boxB s = true) (hl : L.length ≤ 8) (k : Nat) : (encs (L.take k)).length ≤ 600 := by
  have key : ∀ L : List ByteArray, (∀ s ∈ L, boxB s = true) → (encs L).length ≤ 72 * L.length := fun L => by
    induction L with
    | nil => intro _; simp [encs]
    | cons r L ih =>
      intro hL
      have h1 := ih fun s hs => hL s (List.mem_cons_of_mem _ hs)
      have h2 := box_size (hL r (by simp))
      rw [encs_cons, List.length_append, enc_length, ns_length, List.length_cons]
      omega
  have := key (L.take k) (fun s hs => h s (List.mem_of_mem_take hs))
  rw [List.length_take] at this
  omega
def head5 (m : Ml) : List Nat := num8 m.id.toNat ++ num8 m.parent.toNat ++ num8 m.born.toNat ++ enc (ns m.frm) ++ num8 m.rcpts.length
theorem content_head (m : Ml) : content m = head5 m ++ encs m.rcpts ++ enc m.body := by simp [content, head5]
theorem head5_small {m : Ml} (h : Fine m) : (head5 m).length ≤ 200 := by
  have f : m.frm.size ≤ 64 := by rcases h.frm with h | h; omega; exact box_size h
  simp only [head5, List.length_append, num8_length, enc_length, ns_length]
  omega

/-! ### The checksum -/
theorem Bytes.crc {P : Nat → Prop} {w : World} {x : Option Addr} {bs : List Nat} (h : Bytes P w x bs) : Crc.Bytes w x bs := by
  refine ⟨h.1, ?_⟩
  rcases h.2 with h0 | ⟨b, off, _, hx, hc⟩
  · exact .inl h0
  · exact .inr ⟨b, off, hx, hc⟩
theorem sumC {P : Nat → Prop} {w : World} (x : Option Addr) (n cap : Nat) (bs : List Nat) (hn : n = bs.length) (hl : n ≤ 1000000) (h : Bytes P w x bs) :
    Calls Tryz.prog 64 #[.slice x n cap] w fun e w' => e = .returned (.int .u32 ((Crc.sum bs : Nat) : Int)) ∧ Keep (fun _ => False) w w' := by
  subst hn
  exact (Crc.sumOf x cap bs (by omega) w h.crc).mono fun e w' ⟨he, hb⟩ => ⟨he, Keep.of_below hb⟩
set_option maxHeartbeats 2000000 in
theorem checksumC {P : Nat → Prop} {w : World} (x : Option Addr) (n cap : Nat) (bs : List Nat) (hn : n = bs.length) (hl : n ≤ 1000000) (h : Bytes P w x bs) :
    Calls Tryz.prog 51 #[.slice x n cap] w (Copy (sum4 bs) w) := by
  have HC := Lib.hid (sumC x n cap bs hn hl h)
  have hs := Crc.sum_lt bs
  have HS4 : Hid (sum4 bs = [Crc.sum bs / 16777216, Crc.sum bs / 65536 % 256, Crc.sum bs / 256 % 256, Crc.sum bs % 256]) := Lib.hid rfl
  obtain ⟨s, hse⟩ : ∃ s, s = Crc.sum bs := ⟨_, rfl⟩
  rw [← hse] at HC hs HS4
  have s0 : (0 : Int) ≤ (s : Int) := by omega
  have s1 : (s : Int) ≤ 4294967295 := by omega
  clear h hn hse
  go_enter Tryz.func51, Tryz.ntmps51
  go_wp2_with fail
  refine HC.out.mono ?_
  rintro e w1 ⟨rfl, hk1⟩
  go_wp2
  go_ret
  refine ⟨w1.heap.size, 4, rfl, hk1.size, rfl, ?_, hk1.alloc _⟩
  have e4 : (cellsOf (sum4 bs)).toArray = #[.int .u8 ((s : Int) / 16777216), .int .u8 ((s : Int) / 65536 % 256), .int .u8 ((s : Int) / 256 % 256), .int .u8 ((s : Int) % 256)] := by
    rw [HS4.out]
    simp [cellsOf]
  rw [e4]
  exact At.new w1 5 _

/-! ### Encode -/
end Go.Proofs.YtimoebicacnihaaGreatDoor.Ln
end
