/-
  What the program's Stuff returns, for all bytes.
-/
import Derived.Test.YtgocmapnnbpceaaLns
namespace Go.Proofs.Ytgocmapnnbpceaa.Ln
open Go.RowKit Go.Shelf
set_option linter.unusedVariables false
set_option linter.unusedSimpArgs false

theorem prefix_point {l : List Nat} (h : ∀ c ∈ l, c < 256) : Lib.hasPrefix (str l).data.toList [46] = (l.head? == some 46) := by
  cases l with
  | nil => rfl
  | cons c t =>
    have hc := u8_beq (h c (by simp)) (show 46 < 256 by omega)
    have e : (str (c :: t)).data.toList = UInt8.ofNat c :: (str t).data.toList := by simp [str, strOfNums]
    have e46 : (46 : UInt8) = UInt8.ofNat 46 := rfl
    rw [e, Lib.hasPrefix]
    simp only [List.isPrefixOf, List.head?_cons]
    rw [e46, hc]
    simp
theorem stuffs_take_count (L : List (List Nat)) (k : Nat) : (stuffs (L.take k)).length ≤ 3 * (joinL L).length := by
  have h1 := stuffs_count (L.take k)
  have h2 : joinL L = joinL (L.take k) ++ joinL (L.drop k) := by rw [← joinL_append, List.take_append_drop]
  have h3 := congrArg List.length h2
  rw [List.length_append] at h3
  omega
theorem text_count {L : List (List Nat)} {k : Nat} (hk : k < L.length) : (L.getD k []).length ≤ (joinL L).length := by
  have h2 : joinL L = joinL (L.take k) ++ joinL (L.drop k) := by rw [← joinL_append, List.take_append_drop]
  rw [List.drop_eq_getElem_cons hk] at h2
  have h3 := congrArg List.length h2
  simp only [joinL, List.length_append, List.length_cons] at h3
  have e : L.getD k [] = L[k] := by simp [hk]
  rw [e]
  omega
theorem stuffs_next {L : List (List Nat)} {k : Nat} (hk : k < L.length) : stuffs (L.take (k + 1)) = stuffs (L.take k) ++ stuffT (L.getD k []) ++ [13, 10] := by
  have e : L.getD k [] = L[k] := by simp [hk]
  rw [List.take_succ_eq_append_getElem hk, stuffs_snoc, e]
theorem getD_mem {L : List (List Nat)} {k : Nat} (hk : k < L.length) : L.getD k [] ∈ L := by
  have e : L.getD k [] = L[k] := by simp [hk]
  rw [e]
  exact List.getElem_mem _
theorem lines_lt {bs : List Nat} (h : ∀ c ∈ bs, c < 256) : ∀ l ∈ linesOf bs, ∀ c ∈ l, c < 256 := fun l hl c hc => h c (linesOf_mem hl c hc).2
theorem ns_1310 : ns { data := #[13, 10] } = [13, 10] := rfl
theorem ns_46 : ns { data := #[46] } = [46] := rfl

/-- What Stuff answers. -/
def Stuffed (bs : List Nat) (w : World) (e : Ending) (w' : World) : Prop :=
  e = .returned (.tuple #[.string (str (if bodyB bs = true then stuffM (linesOf bs) else [])), .bool (bodyB bs)]) ∧ Keep (fun _ => False) w w'

set_option maxHeartbeats 4000000 in
set_option maxRecDepth 100000 in
theorem stuff {P : Nat → Prop} {w : World} {x : Option Addr} {n cap : Nat} {bs : List Nat} (hn : n = bs.length) (hcap : n ≤ cap) (hB : Bytes P w x bs) (hl : n ≤ 100000) (m : Int) (hm : w.cell? ⟨0, 0, none⟩ = some (.int .i64 m)) :
    Calls Try.prog 8 #[.slice x n cap] w (Stuffed bs w) := by
  have HB := Lib.hid hB
  have HN := Lib.hid hn
  have HM := Lib.hid hm
  clear hB hn hm
  go_enter Try.func8, Try.ntmps8
  go_wp2_with fail
  refine (lines HN.out hcap HB.out hl m HM.out).mono ?_
  rintro e w1 ⟨v, rfl, hT, hk⟩
  have HK := Lib.hid hk
  clear hk
  cases hb : bodyB bs with
  | false =>
    have HBB := Lib.hid hb
    clear hT hb
    go_wp2
    go_ret2
    refine ⟨?_, HK.out⟩
    rw [HBB.out]
    rfl
  | true =>
    rw [if_pos hb] at hT
    have HBB := Lib.hid hb
    obtain ⟨L, hL⟩ : ∃ L, L = linesOf bs := ⟨_, rfl⟩
    have HJ : Hid ((joinL L).length ≤ 100000) := by
      show _ ≤ _
      rw [hL, ← (bodyB_body hb).2, ← HN.out]
      exact hl
    have HLt : Hid (∀ l ∈ L, ∀ c ∈ l, c < 256) := by show ∀ l ∈ L, _; rw [hL]; exact lines_lt HB.out.1
    rw [← hL] at hT
    have HL := Lib.hid hL
    obtain ⟨tx, tc, rfl, htc, _⟩ := hT.shape
    have HT := Lib.hid hT
    have hLn : L.length ≤ 100000 := by have := joinL_count L; have := HJ.out; omega
    obtain ⟨N, hN⟩ : ∃ N, N = L.length := ⟨_, rfl⟩
    rw [← hN] at HT htc hLn ⊢
    have HNN := Lib.hid hN
    clear hT hb hL hN
    go_wp2
    go_loopw [18] (fun z wr => ∃ (k : Nat), k ≤ N ∧ z = .int .i64 (k : Int) ∧ Hid (Bld w1.heap.size w1.heap.size wr (stuffs (L.take k))) ∧ Hid (Keep (fun _ => False) w1 wr)) (fun z _ => N - (intOf z).toNat)
    case atStart => exact ⟨0, Nat.zero_le _, rfl, Bld.new w1, (Keep.refl _ w1).alloc _⟩
    case round =>
      obtain ⟨k, hk, rfl, HBd, HK1⟩ := hrel
      have hsz := stuffs_take_count L k
      have hj := HJ.out
      by_cases h0 : (k : Int) < (N : Int)
      · have hkL : k < L.length := by have := HNN.out; omega
        obtain ⟨g, rfl, c0⟩ := (HT.out.quiet HK1.out).cell k hkL
        have hnx := stuffs_next hkL
        have htc2 := text_count hkL
        have hlt := HLt.out _ (getD_mem hkL)
        obtain ⟨l, hl'⟩ : ∃ l, l = L.getD k [] := ⟨_, rfl⟩
        rw [← hl'] at c0 hnx htc2 hlt
        have hpx := prefix_point hlt
        have HNX := Lib.hid hnx
        have HLT := Lib.hid hlt
        clear hnx hlt hl' hkL
        by_cases hh : l.head? = some 46
        · have HS : Hid (stuffT l = 46 :: l) := by show _ = _; rw [stuffT, if_pos hh]
          rw [hh] at hpx
          have HPX := Lib.hid hpx
          clear hpx hh
          go_wp2_with fail
          refine (strings_HasPrefix _ _ _).mono ?_
          rintro e w2 ⟨he, hw⟩
          have hw' := hw.symm
          subst hw'
          have e46 : ({ data := #[46] } : ByteArray).data.toList = [46] := rfl
          rw [e46, HPX.out] at he
          subst he
          go_wp2_with fail
          refine (HBd.out.write { data := #[46] } (by show _ + 1 ≤ _; omega)).mono ?_
          rintro e w3 ⟨rfl, hb3, hw3⟩
          rw [ns_46] at hb3
          have HB3 := Lib.hid hb3
          have HK3 := Lib.hid (HK1.out.trans (T := fun k => w1.heap.size ≤ k) ⟨hw3.os, hw3.tape, hw3.output, hw3.size, fun k hk hs => hw3.block k (by omega)⟩ (fun i hi h => by omega))
          clear hb3 hw3
          go_wp2_with fail
          refine (HB3.out.write (str l) (by rw [str_size, List.length_append]; show _ + 1 + _ ≤ _; omega)).mono ?_
          rintro e w4 ⟨rfl, hb4, hw4⟩
          rw [ns_str HLT.out] at hb4
          have HB4 := Lib.hid hb4
          have HK4 := Lib.hid (HK3.out.trans (T := fun k => w1.heap.size ≤ k) ⟨hw4.os, hw4.tape, hw4.output, hw4.size, fun k hk hs => hw4.block k (by omega)⟩ (fun i hi h => by omega))
          clear hb4 hw4
          go_wp2_with fail
          refine (HB4.out.write { data := #[13, 10] } (by rw [List.length_append, List.length_append]; show _ + 1 + _ + 2 ≤ _; omega)).mono ?_
          rintro e w5 ⟨rfl, hb5, hw5⟩
          rw [ns_1310] at hb5
          have HB5 := Lib.hid hb5
          have HK5 := Lib.hid (HK4.out.trans (T := fun k => w1.heap.size ≤ k) ⟨hw5.os, hw5.tape, hw5.output, hw5.size, fun k hk hs => hw5.block k (by omega)⟩ (fun i hi h => by omega))
          clear hb5 hw5
          go_wp2
          go_roundw
          case rel => exact ⟨k + 1, by omega, by go_num, by rw [HNX.out, HS.out]; have := HB5.out; exact Lib.hid (by simpa using this), HK5.out⟩
          case measure => simp [intOf]; omega
        · have HS : Hid (stuffT l = l) := by show _ = _; rw [stuffT, if_neg hh]
          have hpx' : (l.head? == some 46) = false := by rw [beq_eq_false_iff_ne]; exact hh
          rw [hpx'] at hpx
          have HPX := Lib.hid hpx
          clear hpx hh hpx'
          go_wp2_with fail
          refine (strings_HasPrefix _ _ _).mono ?_
          rintro e w2 ⟨he, hw⟩
          have hw' := hw.symm
          subst hw'
          have e46 : ({ data := #[46] } : ByteArray).data.toList = [46] := rfl
          rw [e46, HPX.out] at he
          subst he
          go_wp2_with fail
          refine (HBd.out.write (str l) (by rw [str_size]; omega)).mono ?_
          rintro e w4 ⟨rfl, hb4, hw4⟩
          rw [ns_str HLT.out] at hb4
          have HB4 := Lib.hid hb4
          have HK4 := Lib.hid (HK1.out.trans (T := fun k => w1.heap.size ≤ k) ⟨hw4.os, hw4.tape, hw4.output, hw4.size, fun k hk hs => hw4.block k (by omega)⟩ (fun i hi h => by omega))
          clear hb4 hw4
          go_wp2_with fail
          refine (HB4.out.write { data := #[13, 10] } (by rw [List.length_append]; show _ + _ + 2 ≤ _; omega)).mono ?_
          rintro e w5 ⟨rfl, hb5, hw5⟩
          rw [ns_1310] at hb5
          have HB5 := Lib.hid hb5
          have HK5 := Lib.hid (HK4.out.trans (T := fun k => w1.heap.size ≤ k) ⟨hw5.os, hw5.tape, hw5.output, hw5.size, fun k hk hs => hw5.block k (by omega)⟩ (fun i hi h => by omega))
          clear hb5 hw5
          go_wp2
          go_roundw
          case rel => exact ⟨k + 1, by omega, by go_num, by rw [HNX.out, HS.out]; exact HB5.out, HK5.out⟩
          case measure => simp [intOf]; omega
      · have hkL : L.take k = L := List.take_of_length_le (by have := HNN.out; omega)
        rw [hkL] at HBd hsz
        clear hkL
        go_wp2_with fail
        refine (HBd.out.write { data := #[46] } (by show _ + 1 ≤ _; omega)).mono ?_
        rintro e w3 ⟨rfl, hb3, hw3⟩
        rw [ns_46] at hb3
        have HB3 := Lib.hid hb3
        have HK3 := Lib.hid (HK1.out.trans (T := fun k => w1.heap.size ≤ k) ⟨hw3.os, hw3.tape, hw3.output, hw3.size, fun k hk hs => hw3.block k (by omega)⟩ (fun i hi h => by omega))
        clear hb3 hw3
        go_wp2_with fail
        refine (HB3.out.write { data := #[13, 10] } (by rw [List.length_append]; show _ + 1 + 2 ≤ _; omega)).mono ?_
        rintro e w4 ⟨rfl, hb4, hw4⟩
        rw [ns_1310] at hb4
        have HB4 := Lib.hid hb4
        have HK4 := Lib.hid (HK3.out.trans (T := fun k => w1.heap.size ≤ k) ⟨hw4.os, hw4.tape, hw4.output, hw4.size, fun k hk hs => hw4.block k (by omega)⟩ (fun i hi h => by omega))
        clear hb4 hw4
        have e : stuffs L ++ [46] ++ [13, 10] = stuffM L := by simp [stuffM]
        rw [e] at HB4
        go_wp2_with fail
        refine (HB4.out.read (stuffM_lt HLt.out)).mono ?_
        rintro e w5 ⟨rfl, hw5⟩
        have HK5 := Lib.hid (HK4.out.trans (T := fun k => w1.heap.size ≤ k) ⟨hw5.os, hw5.tape, hw5.output, hw5.size, fun k hk hs => hw5.block k (by omega)⟩ (fun i hi h => by omega))
        clear hw5
        go_wp2
        go_ret2
        refine ⟨?_, HK.out.trans HK5.out (fun _ _ h => h)⟩
        rw [HBB.out, if_pos rfl, ← HL.out]
        rfl
end Go.Proofs.Ytgocmapnnbpceaa.Ln
