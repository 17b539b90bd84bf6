/-
  A slice of bytes that came in, as the laws' frames hand it over, read as a row of natural numbers below 256.
-/
import Derived.Test.YtkohgbmmjcpfmaaAns
import Derived.Test.YtkohgbmmjcpfmaaRef
import Derived.ArgAppend
import Derived.Laws.MakeOwn
import Derived.Laws.Cover1
import Derived.ProofKit
import Derived.OpenShut
namespace Go.Proofs.Ytkohgbmmjcpfmaa.Crc
open Go.RowKit Go.ChangeShapes Go.WideShapes

theorem wf_u8 {n : Int} (h : (Lit.int .u8 n).wf = true) : 0 ≤ n ∧ n < 256 := by
  have := bounds_u8 h
  omega

theorem bytes_of {w : World} {a : Option Addr} {len cap : Nat} {zs : List Int}
    (h : (a = none ∧ len = 0 ∧ cap = 0 ∧ zs = []) ∨
      ∃ x, a = some x ∧ len ≤ cap ∧ cap ≤ maxLen ∧ zs.length = cap ∧ (∀ i, i < zs.length → w.cell? (x.add i) = some (.int .u8 (zs.getD i 0))) ∧ ∀ n ∈ zs, (Lit.int .u8 n).wf = true) :
    ∃ bs : List Nat, bs.length = len ∧ Bytes w a bs := by
  rcases h with ⟨rfl, rfl, rfl, rfl⟩ | ⟨x, rfl, hl, hm, hz, hcell, hwz⟩
  · exact ⟨[], rfl, by simp, .inl rfl⟩
  · refine ⟨(zs.take len).map Int.toNat, by simp; omega, ?_, ?_⟩
    · intro c hc
      obtain ⟨z, hz1, rfl⟩ := List.mem_map.1 hc
      have := wf_u8 (hwz z (List.mem_of_mem_take hz1))
      omega
    · by_cases h0 : len = 0
      · left; simp [h0]
      · right
        obtain ⟨b, off, spot⟩ := x
        have hc0 := hcell 0 (by omega)
        have hspot : spot = none := by simpa [Addr.add] using World.cell?_spot hc0
        subst hspot
        refine ⟨b, off, rfl, fun i hi => ?_⟩
        have hi' : i < len := by simpa [hz, Nat.min_eq_left hl] using hi
        have hc := hcell i (by omega)
        rw [Addr.add_mid] at hc
        rw [hc]
        have hiz : i < zs.length := by omega
        have hw := wf_u8 (hwz zs[i] (List.getElem_mem _))
        have e1 : zs.getD i 0 = zs[i] := by simp [hiz]
        have e2 : ((zs.take len).map Int.toNat).getD i 0 = zs[i].toNat := by simp [hiz, hi']
        rw [e1, e2]
        congr 2
        omega

theorem info5 : (Try.prog.info? 5).map (fun i => (i.zero, i.size, i.bytes)) = some (some (.int .u8 0), 1, 1) := by kernel_rfl

/-- The bytes as cells. -/
def cellsOf (bs : List Nat) : List Value := bs.map fun (c : Nat) => Value.int .u8 (c : Int)
theorem cellsOf_length (bs : List Nat) : (cellsOf bs).length = bs.length := by simp [cellsOf]
/-- The bytes as cells to be appended. -/
theorem news_at (w : World) (b off : Nat) (bs : List Nat) (h : ∀ i, i < bs.length → w.cell? ⟨b, off + i, none⟩ = some (.int .u8 ((bs.getD i 0 : Nat) : Int))) :
    ∀ j u, (cellsOf bs)[j]? = some u → w.cell? ((⟨b, off, none⟩ : Addr).add j) = some u := by
  intro j u hu
  rw [Addr.add_mid]
  rw [cellsOf, List.getElem?_map] at hu
  cases hj : bs[j]? with
  | none => simp [hj] at hu
  | some c =>
    have hl : j < bs.length := (List.getElem?_eq_some_iff.1 hj).1
    rw [h j hl]
    have e : bs.getD j 0 = c := by simp [hj]
    rw [e]
    simpa [hj] using hu
theorem news_one (bs : List Nat) : ∀ u ∈ (cellsOf bs), u.oneCell' = true := by
  intro u hu
  obtain ⟨c, _, rfl⟩ := List.mem_map.1 hu
  rfl

/-- What an append to an empty slice left: a row of the call's own. -/
theorem own_open {w : World} {base n : Nat} {v : Value} {bs : List Nat} (h : w.ownsRow base 5 1 v (0 + n) ([] ++ cellsOf bs)) (hn : 0 < n) :
    ∃ g cap, v = .slice (some ⟨g, 0, none⟩) n cap ∧ base ≤ g ∧ (∀ i, i < n → w.cell? ⟨g, i, none⟩ = some (.int .u8 ((bs.getD i 0 : Nat) : Int))) ∧ ∀ i, w.frozen? ⟨g, i, none⟩ = false := by
  obtain ⟨hl, ⟨_, h0⟩ | ⟨g, cap, cur, hv, hg, hheap, hnc, _, hcs, htake⟩⟩ := h
  · omega
  · rw [Nat.zero_add] at hv
    refine ⟨g, cap, hv, hg, fun i hi => ?_, fun i => frozen_of_row w g i cur 5 hheap⟩
    rw [cell_of_row w g i cur 5 (0, 0) hheap]
    have hb : bs.length = n := by simpa [cellsOf_length] using hl
    have e : (cur.toList.take ((0 + n) * 1))[i]? = (cellsOf bs)[i]? := by rw [htake]; rfl
    rw [List.getElem?_take] at e
    simp only [Nat.zero_add, Nat.mul_one, if_pos hi] at e
    rw [← Array.getElem?_toList, e]
    have hib : i < bs.length := by omega
    simp [cellsOf, hib]

/-- The bytes, of which the first i of the five from k on are laid over by those of x. -/
def mix (bs : List Nat) (k x i j : Nat) : Nat := bs.getD j 0 ^^^ (if k ≤ j ∧ j < k + i then x / 2 ^ (8 * (j - k)) % 256 else 0)
theorem mix_zero (bs : List Nat) (k x j : Nat) : mix bs k x 0 j = bs.getD j 0 := by
  unfold mix
  rw [if_neg (by omega), Nat.xor_zero]
theorem mix_at (bs : List Nat) (k x i : Nat) : mix bs k x i (k + i) = bs.getD (k + i) 0 := by
  unfold mix
  rw [if_neg (by omega), Nat.xor_zero]
theorem mix_next (bs : List Nat) (k x i : Nat) : mix bs k x (i + 1) (k + i) = bs.getD (k + i) 0 ^^^ (x / 2 ^ (8 * i) % 256) := by
  unfold mix
  rw [if_pos (by omega), Nat.add_sub_cancel_left]
theorem mix_other (bs : List Nat) (k x i j : Nat) (h : k + i ≠ j) : mix bs k x (i + 1) j = mix bs k x i j := by
  unfold mix
  have : (k ≤ j ∧ j < k + (i + 1)) ↔ (k ≤ j ∧ j < k + i) := by omega
  simp only [this]
theorem shl_lt (T s : Nat) (hT : T < 4294967296) (hs : s < 8) : T * 2 ^ s < 1099511627776 := by
  have hp : 2 ^ s ≤ 2 ^ 7 := Nat.pow_le_pow_right (by omega) (by omega)
  have : T * 2 ^ s ≤ T * 2 ^ 7 := Nat.mul_le_mul_left _ hp
  omega
theorem shl_u64 (T s : Nat) (hT : T < 4294967296) (hs : s < 8) : IntKind.u64.wrap ((T : Int) * 2 ^ s) = ((T * 2 ^ s : Nat) : Int) := by
  have h := shl_lt T s hT hs
  have e : (T : Int) * 2 ^ s = ((T * 2 ^ s : Nat) : Int) := by simp
  rw [e]
  simp only [IntKind.wrap, IntKind.bits, IntKind.signed]
  generalize T * 2 ^ s = y at h
  simp
  omega

theorem xor_mix (c x i : Nat) (hc : c < 256) : bits .xor .u8 (c : Int) ((x : Int) / 2 ^ (8 * i) % 256) = ((c ^^^ (x / 2 ^ (8 * i) % 256) : Nat) : Int) := by
  have := u8_xor_nat c (x / 2 ^ (8 * i) % 256) hc (by omega)
  rw [← this]
  congr 1
theorem mix_step {wr : World} {g k i c x : Nat} {bs : List Nat} {v : Value} (hc : wr.cell? ⟨g, k + i, none⟩ = some v) (hcd : c = bs.getD (k + i) 0)
    (h : ∀ j, j < bs.length → wr.cell? ⟨g, j, none⟩ = some (.int .u8 ((mix bs k x i j : Nat) : Int))) :
    ∀ j, j < bs.length → (wr.setCell ⟨g, k + i, none⟩ (.int .u8 ((c ^^^ (x / 2 ^ (8 * i) % 256) : Nat) : Int))).cell? ⟨g, j, none⟩ = some (.int .u8 ((mix bs k x (i + 1) j : Nat) : Int)) := by
  intro j hj
  by_cases e : k + i = j
  · subst e
    rw [World.cell?_setCell_same _ _ _ hc, mix_next, hcd]
  · rw [World.cell?_setCell_other _ _ _ _ (fun h => e (by injection h)), mix_other _ _ _ _ _ e]
    exact h j hj

/-- The row behind all five. -/
def mixed (bs : List Nat) (k x : Nat) : List Nat := (List.range bs.length).map (mix bs k x 5)
theorem mixed_length (bs : List Nat) (k x : Nat) : (mixed bs k x).length = bs.length := by simp [mixed]
theorem mix_lt {bs : List Nat} (hb : ∀ c ∈ bs, c < 256) (k x i j : Nat) (hj : j < bs.length) : mix bs k x i j < 256 := by
  unfold mix
  refine xor_lt8 (getD_lt hb j hj) ?_
  split <;> omega
theorem mixed_lt {bs : List Nat} (hb : ∀ c ∈ bs, c < 256) (k x : Nat) : ∀ c ∈ mixed bs k x, c < 256 := by
  intro c hc
  obtain ⟨j, hj, rfl⟩ := List.mem_map.1 hc
  exact mix_lt hb k x 5 j (by simpa using hj)
theorem mixed_bytes {wr : World} {g k x : Nat} {bs : List Nat} (hb : ∀ c ∈ bs, c < 256) (h : ∀ j, j < bs.length → wr.cell? ⟨g, j, none⟩ = some (.int .u8 ((mix bs k x 5 j : Nat) : Int))) :
    Bytes wr (some ⟨g, 0, none⟩) (mixed bs k x) := by
  refine ⟨mixed_lt hb k x, .inr ⟨g, 0, rfl, fun i hi => ?_⟩⟩
  rw [mixed_length] at hi
  rw [Nat.zero_add, h i hi]
  simp [mixed, hi]
theorem mixed_tells {bs : List Nat} (hb : ∀ c ∈ bs, c < 256) {k x T s : Nat} (hk : k + 4 < bs.length) (hx : x = T * 2 ^ (s % 8)) (hT : T < 4294967296) (hT0 : ¬ T = 0) :
    ((((sum bs : Nat) : Int)) != ((sum (mixed bs k x) : Nat) : Int)) = true := by
  have h : sum bs ≠ sum (mixed bs k x) := by
    refine sum_tells bs (mixed bs k x) k T (s % 8) (bs.length - k - 5) (mixed_length bs k x).symm hb (mixed_lt hb k x) hT hT0 (by omega) ?_
    rw [← hx]
    apply List.ext_getElem
    · simp [mixed_length]; omega
    · intro j h1 h2
      have hj : j < bs.length := by simpa [mixed_length] using h1
      have e : bs.getD j 0 = bs[j] := by simp [hj]
      have hl : (List.zipWith (· ^^^ ·) bs (mixed bs k x))[j] = (if k ≤ j ∧ j < k + 5 then x / 2 ^ (8 * (j - k)) % 256 else 0) := by
        rw [List.getElem_zipWith]
        have : (mixed bs k x)[j]'(by rw [mixed_length]; exact hj) = mix bs k x 5 j := by simp [mixed]
        rw [this]
        unfold mix
        rw [e, ← Nat.xor_assoc, Nat.xor_self, Nat.zero_xor]
      rw [hl]
      by_cases c1 : j < k
      · rw [if_neg (by omega)]
        rw [List.getElem_append_left (by simp; omega), List.getElem_append_left (by simpa using c1)]
        simp
      · by_cases c2 : j < k + 5
        · rw [if_pos (by omega)]
          rw [List.getElem_append_left (by simp; omega), List.getElem_append_right (by simp; omega)]
          obtain ⟨d, rfl⟩ : ∃ d, j = k + d := ⟨j - k, by omega⟩
          have hd : d < 5 := by omega
          simp only [List.length_replicate, Nat.add_sub_cancel_left]
          match d, hd with
          | 0, _ => simp
          | 1, _ => simp
          | 2, _ => simp
          | 3, _ => simp
          | 4, _ => simp
        · rw [if_neg (by omega)]
          rw [List.getElem_append_right (by simp; omega)]
          simp
  simp
  omega

/-- 'Sum' at a slice whose length is said apart. -/
theorem sumLen (x : Option Addr) (n cap : Nat) (bs : List Nat) (hn : bs.length = n) (hl : bs.length ≤ 4611686018427387904) (w : World) (h : Bytes w x bs) :
    Calls Try.prog 8 #[.slice x n cap] w fun e w' => e = .returned (.int .u32 ((sum bs : Nat) : Int)) ∧ Below w.heap.size w w' := by
  subst hn
  exact sumOf x cap bs hl w h

/-- The least of three lengths. -/
theorem min3 (a b c : Nat) : ∃ N : Nat, N ≤ a ∧ N ≤ b ∧ N ≤ c ∧ ∀ w, (Builtin.min_ #[3, 3, 3] 3 #[.int .i64 (a : Int), .int .i64 (b : Int), .int .i64 (c : Int)]).run Try.prog w = .ok (.int .i64 (N : Int)) w := by
  refine ⟨min (min a b) c, by omega, by omega, by omega, fun w => ?_⟩
  rw [run_min_int3]
  congr 2
  split <;> split <;> omega
/-- 'make([]byte, n)'. -/
theorem make_u8 (N : Nat) (hN : N ≤ 2000) : ∀ w, (Instr.makeSlice 22 (.int .i64 (N : Int)) (.int .i64 (N : Int))).run Try.prog w = .ok (.slice (some ⟨w.heap.size, 0, none⟩) N N) (w.alloc (.cells (madeCells #[.int .u8 0] N) 5)) := by
  intro w
  obtain ⟨i0, hi, hz0, hz1, hz2⟩ := info_parts info5
  have h := run_make (P := Try.prog) w 22 5 i0 (.int .u8 0) Try.underlying22 hi hz0 .i64 .i64 N N (by omega) (by omega) (by rw [hz2]; omega) (by omega)
  rw [hz1] at h
  simpa [Value.cells] using h

theorem len_le_cap {w : World} {a : Option Addr} {len cap : Nat} {zs : List Int}
    (h : (a = none ∧ len = 0 ∧ cap = 0 ∧ zs = []) ∨
      ∃ x, a = some x ∧ len ≤ cap ∧ cap ≤ maxLen ∧ zs.length = cap ∧ (∀ i, i < zs.length → w.cell? (x.add i) = some (.int .u8 (zs.getD i 0))) ∧ ∀ n ∈ zs, (Lit.int .u8 n).wf = true) : len ≤ cap := by
  rcases h with ⟨rfl, rfl, rfl, rfl⟩ | ⟨x, rfl, hl, _⟩
  · exact Nat.le_refl _
  · exact hl
/-- 'a[:n]' of a slice of bytes. -/
theorem slice_pre (a : Option Addr) (len cap N : Nat) (hN : N ≤ cap) :
    ∃ a', (∀ w, (Instr.slice 22 (.slice a len cap) none (some (.int .i64 (N : Int))) none).run Try.prog w = .ok (.slice a' N cap) w) ∧
      (∀ w, (Instr.sliceAt 22 (.slice a len cap) none (some (.int .i64 (N : Int))) none).run Try.prog w = .ok (.slice a' N cap) w) ∧ ∀ b off, a = some ⟨b, off, none⟩ → a' = a := by
  obtain ⟨i0, hi, hz0, hz1, hz2⟩ := info_parts info5
  have h1 : (N : Int) ≤ (cap : Int) := by omega
  have r : ∀ w, (Instr.slice 22 (.slice a len cap) none (some (.int .i64 (N : Int))) none).run Try.prog w = .ok (.slice (if cap = 0 then a else a.map (·.add 0)) N cap) w := by
    intro w
    have hb : (Instr.sliceBound (.int .i64 (N : Int)) cap .sliceAcap).run Try.prog w = .ok N w := by
      simp [Instr.sliceBound, asIntOf, h1]
    simp [Instr.slice, run_underlying Try.underlying22, Instr.sliceBounds, hb, sizeOf, typeInfo, hi]
  refine ⟨_, r, fun w => ?_, ?_⟩
  · rw [← r w]
    simp [Instr.sliceAt, run_underlying Try.underlying22]
  · rintro b off rfl
    by_cases hc : cap = 0
    · simp [hc]
    · simp [hc, Addr.add_mid]
/-- The first n bytes of a slice. -/
theorem Bytes.pre {w : World} {a a' : Option Addr} {bs : List Nat} (h : Bytes w a bs) (N : Nat) (ha : ∀ b off, a = some ⟨b, off, none⟩ → a' = a) : Bytes w a' (bs.take N) := by
  refine ⟨fun c hc => h.1 c (List.mem_of_mem_take hc), ?_⟩
  rcases h.2 with h0 | ⟨b, off, hx, hc⟩
  · left; simp [h0]
  · right
    refine ⟨b, off, by rw [ha b off hx, hx], fun i hi => ?_⟩
    have hi' : i < N ∧ i < bs.length := by simp at hi; omega
    rw [hc i hi'.2]
    have : (bs.take N).getD i 0 = bs.getD i 0 := by simp [hi'.1]
    rw [this]
theorem Bytes.at {w : World} {x : Option Addr} {bs : List Nat} (h : Bytes w x bs) (i : Nat) (hi : i < bs.length) :
    ∃ b off, x = some ⟨b, off, none⟩ ∧ w.cell? ⟨b, off + i, none⟩ = some (.int .u8 ((bs.getD i 0 : Nat) : Int)) := by
  rcases h.2 with h0 | ⟨b, off, hx, hc⟩
  · subst h0; simp at hi
  · exact ⟨b, off, hx, hc i hi⟩
theorem Bytes.drew {w : World} {a : Option Addr} {bs : List Nat} (h : Bytes w a bs) : Bytes w.drew a bs := h

/-- Three rows laid over one another, as far as the loop has come. -/
def lay3 (xa xb xc : List Nat) (i j : Nat) : Nat := if j < i then xa.getD j 0 ^^^ xb.getD j 0 ^^^ xc.getD j 0 else 0
theorem lay3_step {wr : World} {g i N a b c : Nat} {xa xb xc : List Nat} {v : Value} (hc : wr.cell? ⟨g, i, none⟩ = some v) (ha : a = xa.getD i 0) (hb : b = xb.getD i 0) (hcc : c = xc.getD i 0)
    (h : ∀ j, j < N → wr.cell? ⟨g, j, none⟩ = some (.int .u8 ((lay3 xa xb xc i j : Nat) : Int))) :
    ∀ j, j < N → (wr.setCell ⟨g, i, none⟩ (.int .u8 ((a ^^^ b ^^^ c : Nat) : Int))).cell? ⟨g, j, none⟩ = some (.int .u8 ((lay3 xa xb xc (i + 1) j : Nat) : Int)) := by
  intro j hj
  by_cases e : i = j
  · subst e
    rw [World.cell?_setCell_same _ _ _ hc, ha, hb, hcc]
    simp [lay3]
  · rw [World.cell?_setCell_other _ _ _ _ (fun h => e (by injection h)), h j hj]
    have : (j < i + 1) ↔ (j < i) := by omega
    simp [lay3, this]
theorem lay3_start (w : World) (N : Nat) (xa xb xc : List Nat) : ∀ j, j < N → (w.alloc (.cells (madeCells #[.int .u8 0] N) 5)).cell? ⟨w.heap.size, j, none⟩ = some (.int .u8 ((lay3 xa xb xc 0 j : Nat) : Int)) := by
  intro j hj
  rw [World.cell?_alloc_at _ _ _ _ rfl]
  simp [madeCells, lay3, hj]
  rw [Nat.mod_one]
  rfl
/-- The row that the loop has made. -/
def laid (xa xb xc : List Nat) (N : Nat) : List Nat := List.zipWith (· ^^^ ·) (List.zipWith (· ^^^ ·) (xa.take N) (xb.take N)) (xc.take N)
theorem laid_length {xa xb xc : List Nat} {N : Nat} (ha : N ≤ xa.length) (hb : N ≤ xb.length) (hc : N ≤ xc.length) : (laid xa xb xc N).length = N := by
  simp [laid]; omega
theorem laid_lt {xa xb xc : List Nat} {N : Nat} (ha : ∀ c ∈ xa, c < 256) (hb : ∀ c ∈ xb, c < 256) (hc : ∀ c ∈ xc, c < 256) : ∀ c ∈ laid xa xb xc N, c < 256 := by
  intro x hx
  obtain ⟨i, hi, rfl⟩ := List.getElem_of_mem hx
  simp only [laid, List.getElem_zipWith]
  exact xor_lt8 (xor_lt8 (ha _ (List.mem_of_mem_take (List.getElem_mem _))) (hb _ (List.mem_of_mem_take (List.getElem_mem _)))) (hc _ (List.mem_of_mem_take (List.getElem_mem _)))
theorem laid_bytes {wr : World} {g N : Nat} {xa xb xc : List Nat} (la : N ≤ xa.length) (lb : N ≤ xb.length) (lc : N ≤ xc.length) (ha : ∀ c ∈ xa, c < 256) (hb : ∀ c ∈ xb, c < 256) (hc : ∀ c ∈ xc, c < 256)
    (h : ∀ j, j < N → wr.cell? ⟨g, j, none⟩ = some (.int .u8 ((lay3 xa xb xc N j : Nat) : Int))) : Bytes wr (some ⟨g, 0, none⟩) (laid xa xb xc N) := by
  refine ⟨laid_lt ha hb hc, .inr ⟨g, 0, rfl, fun i hi => ?_⟩⟩
  have hl := laid_length la lb lc
  have hiN : i < N := by omega
  rw [Nat.zero_add, h i hiN]
  have e : (laid xa xb xc N).getD i 0 = lay3 xa xb xc N i := by
    have e1 : (laid xa xb xc N).getD i 0 = (laid xa xb xc N)[i] := by simp [hi]
    rw [e1]
    have q1 : i < xa.length := by omega
    have q2 : i < xb.length := by omega
    have q3 : i < xc.length := by omega
    simp [laid, lay3, hiN, q1, q2, q3]
  rw [e]
theorem laid_sum {xa xb xc : List Nat} {N : Nat} (la : N ≤ xa.length) (lb : N ≤ xb.length) (lc : N ≤ xc.length) (ha : ∀ c ∈ xa, c < 256) (hb : ∀ c ∈ xb, c < 256) (hc : ∀ c ∈ xc, c < 256) :
    sum (laid xa xb xc N) = sum (xa.take N) ^^^ sum (xb.take N) ^^^ sum (xc.take N) :=
  sum_three _ _ _ (by simp; omega) (by simp; omega) (fun c h => ha c (List.mem_of_mem_take h)) (fun c h => hb c (List.mem_of_mem_take h)) (fun c h => hc c (List.mem_of_mem_take h))

end Go.Proofs.Ytkohgbmmjcpfmaa.Crc
