/-
  Stage 13: the library's variables as they are laid; numbers as text and back; what Name and number return.
-/
import Derived.Test.YtlpeiejohgchmaaDoorShelf
import Derived.Test.YtlpeiejohgchmaaDoorDMem
import Derived.Test.YtlpeiejohgchmaaDoorIMath
import Derived.Lib.Hide
import Derived.Lib.AtoiTie
import Derived.Lib.ItoaMem
import Derived.Lib.AppendIntMem
import Derived.Laws.Strings
namespace Go.Proofs.YtlpeiejohgchmaaDoor.Fs
open Go.RowKit
set_option linter.unusedVariables false
set_option linter.unusedSimpArgs false

/-! ### The library's variables -/
/-- The library's table of tens is laid, its two errors are there. -/
def Glob (w : World) : Prop := 5 ≤ w.heap.size ∧ Lib.TabIs Tryd.prog w "internal/strconv.uint64pow10" .u64 Lib.pow10Tab ∧
  (∃ tp p, w.var? Tryd.prog "strconv.ErrSyntax" = some #[.iface tp p]) ∧ (∃ tp p, w.var? Tryd.prog "strconv.ErrRange" = some #[.iface tp p])
theorem var_same {n : String} {g : Nat} {w w' : World} {cs : Array Value} (hg : Tryd.prog.globalNamed n = some g) (hb : ∀ t fr, w.heap[g]? = some (.cells cs t fr) → w'.heap[g]? = some (.cells cs t fr)) (h : w.var? Tryd.prog n = some cs) : w'.var? Tryd.prog n = some cs := by
  unfold World.var? at *
  simp only [hg, Option.bind_some] at h ⊢
  split at h
  · rename_i c t fr e
    cases h
    rw [hb _ _ e]
  · cases h
theorem Glob.same {w w' : World} (h : Glob w) (hs : w.heap.size ≤ w'.heap.size) (hb : ∀ g cs t fr, g < 5 → w.heap[g]? = some (.cells cs t fr) → w'.heap[g]? = some (.cells cs t fr)) : Glob w' := by
  obtain ⟨h1, h2, ⟨t3, p3, h3⟩, ⟨t4, p4, h4⟩⟩ := h
  exact ⟨Nat.le_trans h1 hs, var_same (g := 0) (by kernel_rfl) (fun t fr => hb 0 _ t fr (by decide)) h2, ⟨t3, p3, var_same (g := 1) (by kernel_rfl) (fun t fr => hb 1 _ t fr (by decide)) h3⟩, ⟨t4, p4, var_same (g := 2) (by kernel_rfl) (fun t fr => hb 2 _ t fr (by decide)) h4⟩⟩
theorem Glob.keep {S : Nat → Prop} {w w' : World} (h : Glob w) (k : Keep S w w') (hS : ∀ i, i < 5 → ¬ S i) : Glob w' :=
  h.same k.size fun g cs t fr hg e => (k.block g (by have := h.1; omega) (hS g hg)).trans e
theorem Glob.quiet {w w' : World} (h : Glob w) (k : Keep (fun _ => False) w w') : Glob w' := h.keep k fun _ _ h => h
theorem Glob.below {B : Nat} {w w' : World} (h : Glob w) (k : Below B w w') (hB : 5 ≤ B) : Glob w' :=
  h.same k.size fun g cs t fr hg e => (k.block g (by omega)).trans e

/-! ### Numbers as text, and back -/
theorem nD10 {u : Nat} (h1 : 1000000000 ≤ u) (h2 : u < 10000000000) : Lib.nDigits u = 10 := by
  rw [Lib.nDigits_big (by omega), Lib.nDigits_big (by omega), Lib.nDigits_big (by omega), Lib.nDigits_big (by omega), Lib.nDigits_big (by omega), Lib.nDigits_big (by omega), Lib.nDigits_big (by omega), Lib.nDigits_big (by omega), Lib.nDigits_big (by omega), Lib.nDigits_small (by omega)]
theorem dec10 {N : Nat} (h : N ≤ 999999999) : Lib.decDigits (1000000000 + N) = 49 :: dig9 N := by
  rw [Lib.decDigits_eq, nD10 (by omega) (by omega)]
  have e : ∀ k, k < 9 → Lib.dg (1000000000 + N) k = digAt N k := fun k hk => by
    unfold digAt
    show UInt8.ofNat (48 + (1000000000 + N) / 10 ^ k % 10) = _
    congr 2
    rcases k with _ | _ | _ | _ | _ | _ | _ | _ | _ | k <;> (try simp only [Nat.reduceAdd, Nat.reducePow]) <;> omega
  have e9 : Lib.dg (1000000000 + N) 9 = 49 := by
    show UInt8.ofNat (48 + (1000000000 + N) / 10 ^ 9 % 10) = _
    have : (1000000000 + N) / 10 ^ 9 % 10 = 1 := by simp only [Nat.reducePow]; omega
    rw [this]
    rfl
  show [_, _, _, _, _, _, _, _, _, _] = _
  simp only [Nat.reduceSub]
  rw [e9, e 8 (by decide), e 7 (by decide), e 6 (by decide), e 5 (by decide), e 4 (by decide), e 3 (by decide), e 2 (by decide), e 1 (by decide), e 0 (by decide)]
  rfl
theorem digitVal_digAt (n i : Nat) : Lib.digitVal (digAt n i) = some (n / 10 ^ i % 10) := by
  unfold Lib.digitVal
  rw [digAt_val]
  have := Nat.mod_lt (n / 10 ^ i) (show 0 < 10 by decide)
  rw [if_pos (by omega)]
  congr 1
  omega
theorem digAt_ne (n i : Nat) (c : UInt8) (hc : c.toNat < 48) : (digAt n i == c) = false := by
  have h := digAt_val n i
  cases e : (digAt n i == c) with
  | false => rfl
  | true =>
    rw [eq_of_beq e] at h
    omega
theorem decNat_dig9 {n : Nat} (h : n ≤ 999999999) : Lib.decNat (dig9 n) = some n := by
  unfold Lib.decNat
  rw [if_neg (by simp [dig9])]
  simp only [dig9, Lib.decFrom, digitVal_digAt]
  congr 1
  simp only [Nat.reducePow]
  omega
theorem atoi_dig9 {n : Nat} (h : n ≤ 999999999) : Lib.atoi (dig9 n) = some (n : Int) := by
  have h1 := digAt_ne n 8 45 (by decide)
  have h2 := digAt_ne n 8 43 (by decide)
  have h3 := decNat_dig9 h
  unfold dig9 at h3 ⊢
  simp only [Lib.atoi, h1, h2, h3]
  rfl
theorem atoiAll_dig9 {n : Nat} (h : n ≤ 999999999) : Lib.atoiAll (dig9 n) = .ok (n : Int) := by
  rw [Lib.atoiAll_short _ (by simp [dig9]), atoi_dig9 h]
  rfl

/-! ### Names -/
/-- The text of a name. -/
def sN (n : Nat) : ByteArray := ⟨(nameN n).toArray⟩
/-- What Name answers of any number. -/
def nameT (n : Int) : ByteArray := if 0 ≤ n ∧ n ≤ 999999999 then sN n.toNat else { data := #[] }
theorem nameT_none {a : Int} (h : a < 0 ∨ 999999999 < a) : nameT a = { data := #[] } := by
  unfold nameT
  rw [if_neg (by omega)]
theorem nameT_nat {N : Nat} (h : N ≤ 999999999) : nameT (N : Int) = sN N := by
  unfold nameT
  rw [if_pos (by omega)]
  rfl
theorem nm_sN (N : Nat) : nm (sN N) = nameN N := by simp [nm, sN]
theorem sN_size (N : Nat) : (sN N).size = 14 := rfl
theorem trim_name (n : Nat) : Lib.trimPrefix (nameN n) preN = dig9 n := rfl
theorem num_ok {A : ByteArray} {v : Int} (h : Lib.atoiAll (Lib.trimPrefix (nm A) preN) = .ok v) (hn : nameT v = A) : ∃ n : Nat, v = n ∧ numN (nm A) = some n := by
  by_cases hv : 0 ≤ v ∧ v ≤ 999999999
  · refine ⟨v.toNat, by omega, ?_⟩
    rw [← hn, show nameT v = sN v.toNat by unfold nameT; rw [if_pos hv], nm_sN]
    exact numN_name (by omega)
  · rw [← hn, nameT_none (by omega)] at h
    cases h
theorem num_no {A : ByteArray} {n : Nat} (h : numN (nm A) = some n) : Lib.atoiAll (Lib.trimPrefix (nm A) preN) = .ok (n : Int) ∧ nameT (n : Int) = A := by
  obtain ⟨h1, h2⟩ := numN_some h
  refine ⟨by rw [h1, trim_name]; exact atoiAll_dig9 h2, ?_⟩
  rw [nameT_nat h2]
  apply ByteArray.ext
  apply Array.ext'
  show (nameN n).toArray.toList = nm A
  rw [h1]
theorem trim_len (l p : List UInt8) : (Lib.trimPrefix l p).length ≤ l.length := by
  unfold Lib.trimPrefix
  split
  · simp
  · exact Nat.le_refl _
def NamesC : Prop := ∀ (n : Int) (w : World), Glob w → -9223372036854775808 ≤ n → n ≤ 9223372036854775807 → Calls Tryd.prog 9 #[.int .i64 n] w fun e w' => e = .returned (.string (nameT n)) ∧ Keep (fun _ => False) w w'
set_option maxRecDepth 100000 in
set_option maxHeartbeats 2000000 in
theorem nameC : NamesC := fun n w hG h1 h2 => by
  by_cases h0 : n < 0
  · rw [nameT_none (.inl h0)]
    go_enter Tryd.func9, Tryd.ntmps9
    go_wp2
    go_ret
    exact ⟨rfl, Keep.refl _ _⟩
  · by_cases h9 : 999999999 < n
    · rw [nameT_none (.inr h9)]
      go_enter Tryd.func9, Tryd.ntmps9
      go_wp2
      go_ret
      exact ⟨rfl, Keep.refl _ _⟩
    · obtain ⟨N, rfl⟩ : ∃ N : Nat, n = (N : Int) := ⟨n.toNat, by omega⟩
      have hN : N ≤ 999999999 := by omega
      rw [nameT_nat hN]
      obtain ⟨T, hT⟩ : ∃ T : ByteArray, T = ⟨(Lib.itoa (1000000000 + (N : Int))).toArray⟩ := ⟨_, rfl⟩
      have hTd : T.data.toList = 49 :: dig9 N := by
        rw [hT, show (1000000000 : Int) + (N : Int) = ((1000000000 + N : Nat) : Int) by omega, Lib.itoa_nonneg, dec10 hN]
      have hTs : T.size = 10 := by
        show T.data.size = 10
        rw [← Array.length_toList, hTd]
        rfl
      have hTe : ({ data := #[110, 101, 120, 116, 45] } : ByteArray) ++ T.extract 1 10 = sN N := by
        apply ByteArray.ext
        rw [ByteArray.data_append, ByteArray.data_extract]
        apply Array.ext'
        rw [Array.toList_append, Array.toList_extract, hTd]
        rfl
      have cI := strconv_Itoa (1000000000 + (N : Int)) (by omega) (by omega) w hG.2.1
      rw [← hT] at cI
      have HTe := Lib.hid hTe
      clear hT hTd hTe hG h1 h2
      go_enter Tryd.func9, Tryd.ntmps9
      go_wp2_with fail
      refine cI.mono ?_
      rintro e w1 ⟨rfl, k, os, rfl⟩
      have hk : Keep (fun _ => False) w (Sort.grow (w.drewN k) os) := Keep.of_below (Lib.below_grow _ w (Nat.le_refl _) k os)
      obtain ⟨w2, hw2⟩ : ∃ w2, w2 = Sort.grow (w.drewN k) os := ⟨_, rfl⟩
      rw [← hw2] at hk ⊢
      have HK := Lib.hid hk
      have hes : (T.extract 1 10).size = 9 := by rw [ByteArray.size_extract]; omega
      clear cI hw2 hk
      go_wp2
      go_ret
      exact ⟨by first | rfl | (rw [HTe.out]; rfl), HK.out⟩

/-! ### number -/
def numT (a : Nm) : Value := .tuple #[.int .i64 (((numN a).getD 0 : Nat) : Int), .bool (numN a).isSome]
def NumC : Prop := ∀ (A : ByteArray) (w : World), A.size ≤ 1000 → Glob w → Calls Tryd.prog 34 #[.string A] w fun e w' => e = .returned (numT (nm A)) ∧ Below w.heap.size w w'
set_option maxRecDepth 100000 in
set_option maxHeartbeats 2000000 in
theorem numberC : NumC := fun A w hA hG => by
  obtain ⟨T, hT⟩ : ∃ T : ByteArray, T = ⟨(Lib.trimPrefix (nm A) preN).toArray⟩ := ⟨_, rfl⟩
  have hTl : T.data.toList = Lib.trimPrefix (nm A) preN := by rw [hT]
  have hTs : T.size ≤ 1000 := by
    show T.data.size ≤ 1000
    rw [← Array.length_toList, hTl]
    refine Nat.le_trans (trim_len _ _) ?_
    show A.data.toList.length ≤ 1000
    rw [Array.length_toList]
    exact hA
  have cT : Calls Tryd.prog 45 #[.string A, .string { data := #[110, 101, 120, 116, 45] }] w fun e w' => e = .returned (.string T) ∧ w' = w := by
    rw [hT]
    exact strings_TrimPrefix A { data := #[110, 101, 120, 116, 45] } w
  cases hE : Lib.atoiAll T.data.toList with
  | ok v =>
    obtain ⟨b1, b2⟩ := Lib.atoiAll_bounds hE
    have cA := strconv_Atoi_ok T (by omega) v hE w
    rw [hTl] at hE
    by_cases hn : nameT v = A
    · obtain ⟨n, rfl, hnum⟩ := num_ok hE hn
      have hr : numT (nm A) = .tuple #[.int .i64 (n : Int), .bool true] := by rw [numT, hnum]; rfl
      rw [hr]
      have HG := Lib.hid hG
      have HN := Lib.hid hn
      clear hr hnum hn hE hT hTl hG
      go_enter Tryd.func34, Tryd.ntmps34
      go_wp2_with fail
      refine cT.mono ?_
      rintro e w1 ⟨rfl, rfl⟩
      go_wp2_with fail
      refine cA.mono ?_
      rintro e w2 ⟨rfl, hw2⟩
      have hk : Below w1.heap.size w1 w2 := by
        rcases hw2 with rfl | ⟨t, rfl⟩
        · exact Below.refl _ _
        · exact Lib.bytesWorld_below _ _ _
      have HK := Lib.hid hk
      have cN := nameC (n : Int) w2 (HG.out.quiet (Keep.of_below hk)) b1 b2
      rw [HN.out] at cN
      clear hw2 hk cA cT
      go_wp2_with fail
      refine cN.mono ?_
      rintro e w3 ⟨rfl, k3⟩
      have HK3 := Lib.hid k3
      clear k3 cN
      go_wp2
      go_ret2
      exact ⟨rfl, HK.out.trans (HK3.out.below HK.out.size fun _ h => h.elim)⟩
    · have hnum : numN (nm A) = none := by
        cases hx : numN (nm A) with
        | none => rfl
        | some n =>
          obtain ⟨e1, e2⟩ := num_no hx
          rw [e1] at hE
          cases hE
          exact absurd e2 hn
      have hr : numT (nm A) = .tuple #[.int .i64 0, .bool false] := by rw [numT, hnum]; rfl
      rw [hr]
      obtain ⟨M, hM⟩ : ∃ M, M = nameT v := ⟨_, rfl⟩
      rw [← hM] at hn
      have hne : (M.toList == A.toList) = false := by
        cases e : (M.toList == A.toList) with
        | false => rfl
        | true =>
          have := eq_of_beq e
          rw [ByteArray.toList_eq, ByteArray.toList_eq] at this
          exact absurd (ByteArray.ext (Array.ext' this)) hn
      have HM := Lib.hid hM
      have HG := Lib.hid hG
      clear hr hnum hn hE hT hTl hG hM
      go_enter Tryd.func34, Tryd.ntmps34
      go_wp2_with fail
      refine cT.mono ?_
      rintro e w1 ⟨rfl, rfl⟩
      go_wp2_with fail
      refine cA.mono ?_
      rintro e w2 ⟨rfl, hw2⟩
      have hk : Below w1.heap.size w1 w2 := by
        rcases hw2 with rfl | ⟨t, rfl⟩
        · exact Below.refl _ _
        · exact Lib.bytesWorld_below _ _ _
      have HK := Lib.hid hk
      have cN := nameC v w2 (HG.out.quiet (Keep.of_below hk)) b1 b2
      rw [← HM.out] at cN
      clear hw2 hk cA cT
      go_wp2_with fail
      refine cN.mono ?_
      rintro e w3 ⟨rfl, k3⟩
      have HK3 := Lib.hid k3
      clear k3 cN
      go_wp2
      go_ret2
      exact ⟨rfl, HK.out.trans (HK3.out.below HK.out.size fun _ h => h.elim)⟩
  | «syntax» =>
    have hnum : numN (nm A) = none := by
      cases hx : numN (nm A) with
      | none => rfl
      | some n =>
        rw [hTl, (num_no hx).1] at hE
        cases hE
    have hr : numT (nm A) = .tuple #[.int .i64 0, .bool false] := by rw [numT, hnum]; rfl
    rw [hr]
    obtain ⟨tp, p, hv⟩ := hG.2.2.1
    have cA := strconv_Atoi_syntax_var T (by omega) hE tp p w hv
    clear hr hnum hE hT hTl hG hv
    go_enter Tryd.func34, Tryd.ntmps34
    go_wp2_with fail
    refine cT.mono ?_
    rintro e w1 ⟨rfl, rfl⟩
    go_wp2_with fail
    refine cA.mono ?_
    rintro e w2 ⟨N, rfl, _, _, hk⟩
    have HK := Lib.hid hk
    clear hk cA cT
    go_wp2
    go_ret2
    exact ⟨rfl, HK.out⟩
  | range =>
    have hnum : numN (nm A) = none := by
      cases hx : numN (nm A) with
      | none => rfl
      | some n =>
        rw [hTl, (num_no hx).1] at hE
        cases hE
    have hr : numT (nm A) = .tuple #[.int .i64 0, .bool false] := by rw [numT, hnum]; rfl
    rw [hr]
    obtain ⟨tp, p, hv⟩ := hG.2.2.2
    have cA := strconv_Atoi_range_var T (by omega) hE tp p w hv
    clear hr hnum hE hT hTl hG hv
    go_enter Tryd.func34, Tryd.ntmps34
    go_wp2_with fail
    refine cT.mono ?_
    rintro e w1 ⟨rfl, rfl⟩
    go_wp2_with fail
    refine cA.mono ?_
    rintro e w2 ⟨N, rfl, _, _, hk⟩
    have HK := Lib.hid hk
    clear hk cA cT
    go_wp2
    go_ret2
    exact ⟨rfl, HK.out⟩
end Go.Proofs.YtlpeiejohgchmaaDoor.Fs
