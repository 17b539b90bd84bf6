/-
  The plain words of stage 11: marks, their bytes, the marks that any bytes begin with, the fates that marks make. Nothing of the program is imported.
-/
import Derived.Test.YtcplemamcgonkaaHS
namespace Go.Proofs.Ytcplemamcgonkaa.Ln
set_option linter.unusedVariables false
set_option linter.unusedSimpArgs false

/-! ### Marks -/
structure Mk where
  kind : Int
  rcpt : Int
  n : Int
def goodK (k : Mk) : Bool := decide (1 ≤ k.kind ∧ k.kind ≤ 5 ∧ 0 ≤ k.rcpt ∧ k.rcpt ≤ 7 ∧ 0 ≤ k.n ∧ k.n ≤ 1099511627776)
theorem goodK_iff {k : Mk} : goodK k = true ↔ 1 ≤ k.kind ∧ k.kind ≤ 5 ∧ 0 ≤ k.rcpt ∧ k.rcpt ≤ 7 ∧ 0 ≤ k.n ∧ k.n ≤ 1099511627776 := decide_eq_true_iff
def three (k : Mk) : List Nat := num8 k.kind.toNat ++ (num8 k.rcpt.toNat ++ num8 k.n.toNat)
def markB (k : Mk) : List Nat := three k ++ sum4 (three k)
def s3 (bs : List Nat) : Option (List Nat) := numS (numS (numS (some bs)))
def readK (bs : List Nat) : Mk := ⟨(numV (some bs) : Nat), (numV (numS (some bs)) : Nat), (numV (numS (numS (some bs))) : Nat)⟩
def firstB (b : List Nat) : Bool := decide (28 ≤ b.length) && (decide ((b.drop 24).take 4 = sum4 (b.take 24)) && (doneB (s3 (b.take 24)) && goodK (readK (b.take 24))))
def marksN : Nat → List Nat → List Mk
  | 0, _ => []
  | f + 1, b => if firstB b = true then readK (b.take 24) :: marksN f (b.drop 28) else []
def marksM (b : List Nat) : List Mk := marksN 4096 b
def flatK (L : List Mk) : List Nat := (L.map markB).flatten

theorem three_length (k : Mk) : (three k).length = 24 := by simp [three, num8_length]
theorem three_lt (k : Mk) : ∀ c ∈ three k, c < 256 := by
  intro c hc
  simp only [three, List.mem_append] at hc
  rcases hc with h | h | h <;> exact num8_lt _ c h
theorem markB_length (k : Mk) : (markB k).length = 28 := by rw [markB, List.length_append, three_length, sum4_length]
theorem markB_lt (k : Mk) : ∀ c ∈ markB k, c < 256 := by
  intro c hc
  rcases List.mem_append.1 hc with h | h
  · exact three_lt k c h
  · exact sum4_lt _ c h
theorem flatK_cons (k : Mk) (L : List Mk) : flatK (k :: L) = markB k ++ flatK L := rfl
theorem flatK_append (A B : List Mk) : flatK (A ++ B) = flatK A ++ flatK B := by simp [flatK]
theorem flatK_length : ∀ L : List Mk, (flatK L).length = 28 * L.length
  | [] => rfl
  | k :: L => by rw [flatK_cons, List.length_append, markB_length, flatK_length L, List.length_cons]; omega
theorem flatK_lt (L : List Mk) : ∀ c ∈ flatK L, c < 256 := by
  intro c hc
  obtain ⟨l, hl, hc⟩ := List.mem_flatten.1 hc
  obtain ⟨k, _, rfl⟩ := List.mem_map.1 hl
  exact markB_lt k c hc

theorem num8_val {bs : List Nat} (h : bs.length = 8) (hb : ∀ c ∈ bs, c < 256) : num8 (val bs) = bs := by
  match bs, h with
  | [a, b, c, d, e, f, g, i], _ =>
    simp only [List.mem_cons, List.not_mem_nil, or_false, forall_eq_or_imp, forall_eq] at hb
    obtain ⟨ha, hb, hc, hd, he, hf, hg, hi⟩ := hb
    have hv : val [a, b, c, d, e, f, g, i] = a * 72057594037927936 + b * 281474976710656 + c * 1099511627776 + d * 4294967296 + e * 16777216 + f * 65536 + g * 256 + i := by
      simp only [val, List.foldl_cons, List.foldl_nil]
      omega
    have hr : List.range 8 = [0, 1, 2, 3, 4, 5, 6, 7] := rfl
    simp only [num8, hr, List.map_cons, List.map_nil, dig, hv, List.cons.injEq, and_true]
    refine ⟨?_, ?_, ?_, ?_, ?_, ?_, ?_, ?_⟩ <;> (simp only [Nat.reduceSub, Nat.reduceMul, Nat.reducePow, Nat.sub_zero]; omega)
theorem s3_some {bs r : List Nat} (h : s3 bs = some r) : 24 ≤ bs.length ∧ r = bs.drop 24 ∧ val (bs.take 8) ≤ top ∧ readK bs = ⟨(val (bs.take 8) : Nat), (val ((bs.drop 8).take 8) : Nat), (val ((bs.drop 16).take 8) : Nat)⟩ := by
  have key : ∀ s : Option (List Nat), (numS s).isSome = true → numOk s = true := fun s hs => by
    cases hk : numOk s with
    | true => rfl
    | false => rw [numS_no hk] at hs; cases hs
  have k3 : numOk (numS (numS (some bs))) = true := key _ (by unfold s3 at h; rw [h]; rfl)
  obtain ⟨b2, e2, l2, t2, v2, r2⟩ := numOk_some k3
  have k2 : numOk (numS (some bs)) = true := key _ (by rw [e2]; rfl)
  obtain ⟨b1, e1, l1, t1, v1, r1⟩ := numOk_some k2
  have k1 : numOk (some bs) = true := key _ (by rw [e1]; rfl)
  obtain ⟨b0, e0, l0, t0, v0, r0⟩ := numOk_some k1
  cases e0
  rw [r0] at e1
  cases e1
  rw [r1] at e2
  cases e2
  unfold s3 at h
  rw [r2] at h
  cases h
  refine ⟨by simp at l2; omega, by simp, t0, ?_⟩
  rw [readK, v0, v1, v2]
  simp
/-- What was read without a fault is what stood there. -/
theorem three_read {bs : List Nat} (hl : bs.length = 24) (hb : ∀ c ∈ bs, c < 256) {r : List Nat} (h : s3 bs = some r) : three (readK bs) = bs ∧ r = [] := by
  obtain ⟨_, hr, _, e⟩ := s3_some h
  refine ⟨?_, by rw [hr]; exact List.drop_of_length_le (by omega)⟩
  rw [e]
  simp only [three, Int.toNat_natCast]
  rw [num8_val (by simp [hl]) (fun c hc => hb c (List.mem_of_mem_take hc)), num8_val (by simp [hl]) (fun c hc => hb c (List.mem_of_mem_drop (List.mem_of_mem_take hc))), num8_val (by simp [hl]) (fun c hc => hb c (List.mem_of_mem_drop (List.mem_of_mem_take hc)))]
  have e3 : (bs.drop 16).take 8 = bs.drop 16 := List.take_of_length_le (by simp [hl])
  rw [e3, show bs.drop 16 = (bs.drop 8).drop 8 by simp, List.take_append_drop, List.take_append_drop]
theorem good_top {k : Mk} (h : goodK k = true) : (0 ≤ k.kind ∧ k.kind.toNat ≤ top) ∧ (0 ≤ k.rcpt ∧ k.rcpt.toNat ≤ top) ∧ (0 ≤ k.n ∧ k.n.toNat ≤ top) := by
  have := goodK_iff.1 h
  unfold top
  omega
theorem read_three {k : Mk} (h : goodK k = true) : s3 (three k) = some [] ∧ readK (three k) = k := by
  obtain ⟨⟨a0, a1⟩, ⟨b0, b1⟩, c0, c1⟩ := good_top h
  obtain ⟨_, v1, r1⟩ := num_back k.kind.toNat a1 (num8 k.rcpt.toNat ++ num8 k.n.toNat)
  obtain ⟨_, v2, r2⟩ := num_back k.rcpt.toNat b1 (num8 k.n.toNat)
  obtain ⟨_, v3, r3⟩ := num_back k.n.toNat c1 []
  rw [List.append_nil] at v3 r3
  refine ⟨by unfold s3 three; rw [r1, r2, r3], ?_⟩
  unfold readK three
  rw [r1, r2, v1, v2, v3]
  obtain ⟨x, y, z⟩ := k
  simp only [Mk.mk.injEq]
  simp only at a0 b0 c0
  omega

/-! ### The first mark of any bytes -/
theorem first_short {b : List Nat} (h : ¬ 28 ≤ b.length) : firstB b = false := by simp [firstB, h]
theorem first_mark {k : Mk} (h : goodK k = true) (r : List Nat) : firstB (markB k ++ r) = true ∧ readK ((markB k ++ r).take 24) = k ∧ (markB k ++ r).drop 28 = r := by
  have e1 : (markB k ++ r).take 24 = three k := by rw [markB, List.append_assoc, List.take_append_of_le_length (by rw [three_length]; omega), List.take_of_length_le (by rw [three_length]; omega)]
  have e2 : (markB k ++ r).drop 24 = sum4 (three k) ++ r := by rw [markB, List.append_assoc]; exact List.drop_left' (three_length k)
  have e3 : (markB k ++ r).drop 28 = r := List.drop_left' (markB_length k)
  obtain ⟨h1, h2⟩ := read_three h
  refine ⟨?_, by rw [e1, h2], e3⟩
  rw [firstB, e1, e2, h1, h2, h, List.take_append_of_le_length (by rw [sum4_length]; omega), List.take_of_length_le (by rw [sum4_length]; omega)]
  simp [doneB, markB_length]
theorem first_bad {b : List Nat} (h : s3 (b.take 24) = none) : firstB b = false := by simp [firstB, h, doneB]
theorem first_not {b : List Nat} (h : goodK (readK (b.take 24)) = false) : firstB b = false := by simp [firstB, h]
theorem first_same {b r : List Nat} (hl : 28 ≤ b.length) (hb : ∀ c ∈ b, c < 256) (h : s3 (b.take 24) = some r) (hg : goodK (readK (b.take 24)) = true) : firstB b = decide (markB (readK (b.take 24)) = b.take 28) := by
  obtain ⟨e1, e2⟩ := three_read (bs := b.take 24) (by simp; omega) (fun c hc => hb c (List.mem_of_mem_take hc)) h
  have e4 : b.take 28 = b.take 24 ++ (b.drop 24).take 4 := by rw [show (28 : Nat) = 24 + 4 from rfl, List.take_add]
  have e5 : doneB (some r) = true := by rw [e2]; rfl
  rw [firstB, h, hg, e5, markB, e1, e4, decide_eq_true hl, Bool.true_and, Bool.and_self, Bool.and_true]
  rw [Bool.eq_iff_iff, decide_eq_true_iff, decide_eq_true_iff, List.append_right_inj]
  exact eq_comm
theorem first_parts {b : List Nat} (h : firstB b = true) : 28 ≤ b.length ∧ (b.drop 24).take 4 = sum4 (b.take 24) ∧ doneB (s3 (b.take 24)) = true ∧ goodK (readK (b.take 24)) = true := by
  simp only [firstB, Bool.and_eq_true, decide_eq_true_iff] at h
  exact h

/-! ### The marks that bytes begin with -/
structure Seen (b : List Nat) (L : List Mk) : Prop where
  n : L.length ≤ 4096
  l : 28 * L.length ≤ b.length
  e : L ++ marksN (4096 - L.length) (b.drop (28 * L.length)) = marksM b
theorem seen_nil (b : List Nat) : Seen b [] := ⟨by simp, by simp, by simp [marksM]⟩
theorem Seen.more {b : List Nat} {L : List Mk} (h : Seen b L) (hl : L.length < 4096) (hf : firstB (b.drop (28 * L.length)) = true) : Seen b (L ++ [readK ((b.drop (28 * L.length)).take 24)]) := by
  have h28 := (first_parts hf).1
  rw [List.length_drop] at h28
  refine ⟨by simp; omega, by simp; omega, ?_⟩
  rw [← h.e, show 4096 - L.length = (4096 - (L.length + 1)) + 1 by omega, marksN, if_pos hf, List.append_assoc]
  simp only [List.length_append, List.length_cons, List.length_nil, List.drop_drop, List.singleton_append]
  rw [show 28 * L.length + 28 = 28 * (L.length + (0 + 1)) by omega]
theorem Seen.stop {b : List Nat} {L : List Mk} (h : Seen b L) (hf : firstB (b.drop (28 * L.length)) = false) : marksM b = L := by
  rw [← h.e]
  cases hn : 4096 - L.length with
  | zero => simp [marksN]
  | succ f => simp [marksN, hf]
theorem Seen.full {b : List Nat} {L : List Mk} (h : Seen b L) (hl : ¬ L.length < 4096) : marksM b = L := by
  rw [← h.e, show 4096 - L.length = 0 by omega]
  simp [marksN]
theorem marksN_torn : ∀ (L : List Mk) (f n : Nat), (∀ k ∈ L, goodK k = true) → L.length ≤ f → marksN f ((flatK L).take n) = L.take (n / 28)
  | [], f, n, _, _ => by
    cases f with
    | zero => simp [marksN]
    | succ f => simp [marksN, flatK, firstB]
  | k :: L, 0, n, _, hf => by simp at hf
  | k :: L, f + 1, n, hg, hf => by
    by_cases hn : 28 ≤ n
    · have e : (flatK (k :: L)).take n = markB k ++ (flatK L).take (n - 28) := by
        rw [flatK_cons, List.take_append, markB_length, List.take_of_length_le (by rw [markB_length]; omega)]
      obtain ⟨h1, h2, h3⟩ := first_mark (hg k (by simp)) ((flatK L).take (n - 28))
      rw [e, marksN, if_pos h1, h2, h3, marksN_torn L f (n - 28) (fun k hk => hg k (List.mem_cons_of_mem _ hk)) (by simp at hf; omega), show n / 28 = (n - 28) / 28 + 1 by omega, List.take_succ_cons]
    · rw [marksN, first_short (by rw [List.length_take]; omega), show n / 28 = 0 by omega]
      rfl
theorem marksM_torn (L : List Mk) (n : Nat) (hg : ∀ k ∈ L, goodK k = true) (hl : L.length ≤ 4096) : marksM ((flatK L).take n) = L.take (n / 28) := marksN_torn L 4096 n hg hl

/-! ### Fates -/
structure Ft where
  st : Int
  tries : Int
  next : Int
  crashes : Int
  op : Bool
def ft0 : Ft := ⟨0, 0, 0, 0, false⟩
def stepF (f : Ft) (k : Mk) : Ft :=
  if f.st ≠ 0 then f else if k.kind = 1 then ⟨f.st, f.tries, f.next, f.crashes, true⟩
  else ⟨if k.kind = 2 then 1 else if k.kind = 3 then 2 else f.st, if f.op = true ∧ k.kind ≠ 5 then f.tries + 1 else f.tries, if k.kind = 4 then k.n else f.next, if k.kind = 5 then f.crashes + 1 else f.crashes, false⟩
def putF (F : List Ft) (k : Mk) : List Ft := if goodK k = true ∧ k.rcpt < F.length then F.set k.rcpt.toNat (stepF (F.getD k.rcpt.toNat ft0) k) else F
def fatesM (n : Nat) (L : List Mk) : List Ft := L.foldl putF (List.replicate n ft0)
theorem putF_length (F : List Ft) (k : Mk) : (putF F k).length = F.length := by
  unfold putF
  split <;> simp
theorem foldF_length : ∀ (L : List Mk) (F : List Ft), (L.foldl putF F).length = F.length
  | [], F => rfl
  | k :: L, F => by rw [List.foldl_cons, foldF_length L, putF_length]
theorem fatesM_length (n : Nat) (L : List Mk) : (fatesM n L).length = n := by rw [fatesM, foldF_length, List.length_replicate]
theorem fatesM_snoc (n : Nat) (L : List Mk) (k : Mk) : fatesM n (L ++ [k]) = putF (fatesM n L) k := by simp [fatesM, List.foldl_append]
theorem fatesM_filter (n : Nat) (L : List Mk) : fatesM n (L.filter goodK) = fatesM n L := by
  have key : ∀ (L : List Mk) (F : List Ft), (L.filter goodK).foldl putF F = L.foldl putF F := fun L => by
    induction L with
    | nil => intro F; rfl
    | cons k L ih =>
      intro F
      cases h : goodK k with
      | true => rw [List.filter_cons_of_pos h, List.foldl_cons, List.foldl_cons, ih]
      | false =>
        rw [List.filter_cons_of_neg (by simp [h]), List.foldl_cons, ih]
        congr 1
        simp [putF, h]
  exact key L _
theorem putF_get (F : List Ft) (k : Mk) (i : Nat) (hi : i < F.length) : (putF F k).getD i ft0 = if goodK k = true ∧ k.rcpt = (i : Int) then stepF (F.getD i ft0) k else F.getD i ft0 := by
  unfold putF
  by_cases h : goodK k = true ∧ k.rcpt < F.length
  · rw [if_pos h]
    have hg := goodK_iff.1 h.1
    by_cases e : k.rcpt = (i : Int)
    · rw [if_pos ⟨h.1, e⟩, e]
      simp [hi]
    · rw [if_neg (fun h => e h.2)]
      have : ¬ k.rcpt.toNat = i := by omega
      simp [List.getElem?_set_ne this]
  · rw [if_neg h, if_neg (fun h' => h ⟨h'.1, by omega⟩)]
/-- A recipient's fate is what its own good marks make. -/
theorem fatesM_own (n : Nat) (L : List Mk) (i : Nat) (hi : i < n) : (fatesM n L).getD i ft0 = (L.filter fun k => goodK k && decide (k.rcpt = (i : Int))).foldl stepF ft0 := by
  have key : ∀ (L : List Mk) (F : List Ft), i < F.length → (L.foldl putF F).getD i ft0 = (L.filter fun k => goodK k && decide (k.rcpt = (i : Int))).foldl stepF (F.getD i ft0) := fun L => by
    induction L with
    | nil => intro F _; rfl
    | cons k L ih =>
      intro F hF
      rw [List.foldl_cons, ih _ (by rw [putF_length]; exact hF), putF_get F k i hF]
      by_cases h : goodK k = true ∧ k.rcpt = (i : Int)
      · rw [if_pos h, List.filter_cons_of_pos (by simp [h.1, h.2]), List.foldl_cons]
      · rw [if_neg h, List.filter_cons_of_neg (by simp; intro h1; exact fun h2 => h ⟨h1, h2⟩)]
  have := key L (List.replicate n ft0) (by simpa using hi)
  rw [fatesM, this]
  simp [hi]
theorem fatesM_apart (n : Nat) (L : List Mk) (i : Nat) (hi : i < n) : (fatesM n (L.filter fun k => decide (k.rcpt = (i : Int)))).getD i ft0 = (fatesM n L).getD i ft0 := by
  rw [fatesM_own n _ i hi, fatesM_own n L i hi, List.filter_filter]
  congr 1
  refine List.filter_congr fun k _ => ?_
  cases goodK k <;> simp
def Later (f g : Ft) : Prop := (f.st ≠ 0 → g = f) ∧ f.tries ≤ g.tries ∧ f.crashes ≤ g.crashes
theorem Later.refl (f : Ft) : Later f f := ⟨fun _ => rfl, Int.le_refl _, Int.le_refl _⟩
theorem later_step (f : Ft) (k : Mk) : Later f (stepF f k) := by
  unfold stepF Later
  by_cases h : f.st ≠ 0
  · rw [if_pos h]
    exact Later.refl f
  · rw [if_neg h]
    refine ⟨fun h' => absurd h' h, ?_, ?_⟩
    · split
      · exact Int.le_refl _
      · simp only []
        split <;> omega
    · split
      · exact Int.le_refl _
      · simp only []
        split <;> omega
theorem Later.trans {f g h : Ft} (a : Later f g) (b : Later g h) : Later f h := ⟨fun hf => by
  have e := a.1 hf
  rw [e] at b
  exact b.1 hf, Int.le_trans a.2.1 b.2.1, Int.le_trans a.2.2 b.2.2⟩
theorem later_fold : ∀ (L : List Mk) (f : Ft), Later f (L.foldl stepF f)
  | [], f => Later.refl f
  | k :: L, f => (later_step f k).trans (later_fold L _)
theorem fatesM_later (n : Nat) (A B : List Mk) (i : Nat) (hi : i < n) : Later ((fatesM n A).getD i ft0) ((fatesM n (A ++ B)).getD i ft0) := by
  rw [fatesM_own n A i hi, fatesM_own n (A ++ B) i hi, List.filter_append, List.foldl_append]
  exact later_fold _ _
structure Small (c : Nat) (f : Ft) : Prop where
  t0 : 0 ≤ f.tries
  t1 : f.tries ≤ (c : Int)
  c0 : 0 ≤ f.crashes
  c1 : f.crashes ≤ (c : Int)
theorem Small.step {c : Nat} {f : Ft} (h : Small c f) (k : Mk) : Small (c + 1) (stepF f k) := by
  obtain ⟨a, b, d, e⟩ := h
  unfold stepF
  split
  · exact ⟨a, by omega, d, by omega⟩
  · split
    · exact ⟨a, by simp only []; omega, d, by simp only []; omega⟩
    · refine ⟨?_, ?_, ?_, ?_⟩ <;> (simp only []; split <;> omega)
theorem small_fold : ∀ (L : List Mk) (c : Nat) (f : Ft), Small c f → Small (c + L.length) (L.foldl stepF f)
  | [], c, f, h => h
  | k :: L, c, f, h => by
    have := small_fold L (c + 1) _ (h.step k)
    rw [List.length_cons, show c + (L.length + 1) = c + 1 + L.length by omega]
    exact this
theorem Small.mono {c d : Nat} {f : Ft} (h : Small c f) (hl : c ≤ d) : Small d f := ⟨h.t0, by have := h.t1; omega, h.c0, by have := h.c1; omega⟩
theorem fatesM_small (n : Nat) (L : List Mk) (i : Nat) (hi : i < n) : Small L.length ((fatesM n L).getD i ft0) := by
  rw [fatesM_own n L i hi]
  exact (small_fold _ 0 ft0 ⟨by decide, by decide, by decide, by decide⟩).mono (by rw [Nat.zero_add]; exact List.length_filter_le _ _)
end Go.Proofs.Ytcplemamcgonkaa.Ln
