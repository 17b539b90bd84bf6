/-
  Stage 13: Open.
-/
import Derived.Test.YtlpeiejohgchmaaDoorI1
import Derived.RangeFuncFrom
import Derived.Test.YtlpeiejohgchmaaDoorIR
import Derived.Test.YtlpeiejohgchmaaDoorINfr
namespace Go.Proofs.YtlpeiejohgchmaaDoor.Fs
open Go.RowKit Go.Shelf Go.Sort
set_option linter.unusedVariables false
set_option linter.unusedSimpArgs false
attribute [local go_sem] Oper.semAt_some

/-! ### The last of rising numbers is the greatest -/
theorem fold_lt : ∀ (l r : Nm) (u v : Nat), l.length = r.length → l.all isDig = true → r.all isDig = true → u < v → l.foldl (fun v c => v * 10 + (c.toNat - 48)) u < r.foldl (fun v c => v * 10 + (c.toNat - 48)) v
  | [], [], u, v, _, _, _, h => h
  | [], _ :: _, _, _, e, _, _, _ => by cases e
  | _ :: _, [], _, _, e, _, _, _ => by cases e
  | a :: l, b :: r, u, v, e, hl, hr, h => by
    simp only [List.all_cons, Bool.and_eq_true] at hl hr
    have h1 : a.toNat ≤ 57 := by have := hl.1; simp only [isDig, Bool.and_eq_true, decide_eq_true_eq] at this; exact this.2
    exact fold_lt l r _ _ (by simpa using e) hl.2 hr.2 (show u * 10 + (a.toNat - 48) < v * 10 + (b.toNat - 48) by omega)
theorem fold_before : ∀ (l r : Nm) (u : Nat), l.length = r.length → l.all isDig = true → r.all isDig = true → bytesBefore l r = true → l.foldl (fun v c => v * 10 + (c.toNat - 48)) u < r.foldl (fun v c => v * 10 + (c.toNat - 48)) u
  | [], [], _, _, _, _, h => by simp [bytesBefore] at h
  | [], _ :: _, _, e, _, _, _ => by cases e
  | _ :: _, [], _, e, _, _, _ => by cases e
  | a :: l, b :: r, u, e, hl, hr, h => by
    simp only [List.all_cons, Bool.and_eq_true] at hl hr
    have h1 : 48 ≤ a.toNat := by have := hl.1; simp only [isDig, Bool.and_eq_true, decide_eq_true_eq] at this; exact this.1
    simp only [bytesBefore, Bool.or_eq_true, Bool.and_eq_true, decide_eq_true_eq, beq_iff_eq] at h
    rcases h with h | ⟨rfl, h⟩
    · have h2 : a.toNat < b.toNat := h
      exact fold_lt l r _ _ (by simpa using e) hl.2 hr.2 (show u * 10 + (a.toNat - 48) < u * 10 + (b.toNat - 48) by omega)
    · exact fold_before l r _ (by simpa using e) hl.2 hr.2 h
theorem before_pre (p l r : Nm) (h : bytesBefore (p ++ l) (p ++ r) = true) : bytesBefore l r = true := by
  induction p with
  | nil => exact h
  | cons a p ih =>
    simp only [List.cons_append, bytesBefore, Bool.or_eq_true, Bool.and_eq_true, decide_eq_true_eq, beq_iff_eq] at h
    rcases h with h | ⟨_, h⟩
    · exact absurd h (UInt8.lt_irrefl a)
    · exact ih h
theorem num_before {a b : Nm} {n m : Nat} (ha : numN a = some n) (hb : numN b = some m) (h : bytesBefore a b = true) : n < m := by
  unfold numN at ha hb
  split at ha
  · rename_i h1
    split at hb
    · rename_i h2
      obtain rfl := Option.some.inj ha
      obtain rfl := Option.some.inj hb
      have e1 : a = preN ++ a.drop 5 := by rw [← h1.2.1, List.take_append_drop]
      have e2 : b = preN ++ b.drop 5 := by rw [← h2.2.1, List.take_append_drop]
      rw [e1, e2] at h
      exact fold_before _ _ 0 (by rw [List.length_drop, List.length_drop, h1.1, h2.1]) h1.2.2 h2.2.2 (before_pre _ _ _ h)
    · cases hb
  · cases ha
theorem nums_rising {d : Dir} (h : d.Pairwise (fun p q => bytesBefore p.1 q.1 = true)) : (numsD d).Pairwise (· < ·) := by
  unfold numsD
  rw [List.pairwise_filterMap, List.pairwise_map]
  exact h.imp fun {p q} hpq n hn m hm => num_before hn hm hpq
theorem last_most : ∀ (l : List Nat) (m : Nat), l.Pairwise (· < ·) → (∀ x ∈ l, m ≤ x) → l.foldl (fun _ x => x) m = l.foldl max m
  | [], _, _, _ => rfl
  | y :: l, m, h, hm => by
    have h1 : max m y = y := Nat.max_eq_right (hm y (List.mem_cons_self ..))
    rw [List.foldl_cons, List.foldl_cons, h1]
    rw [List.pairwise_cons] at h
    exact last_most l y h.2 fun x hx => Nat.le_of_lt (h.1 x hx)
theorem now_rising {w : World} {S : Nat → Prop} {f : Nat} {s : St} (h : Disk w S f s) : s.now.Pairwise (fun p q => bytesBefore p.1 q.1 = true) := by
  obtain ⟨⟨L, hp⟩, _⟩ := h
  have hn := hp.now
  cases hL : L.now with
  | none =>
    rw [hL] at hn
    rw [hn.empty]
    exact List.Pairwise.nil
  | some b =>
    rw [hL] at hn
    exact dir_rising hn.owns.2

/-! ### What Open makes -/
def idsC (f : Nat) (last most : Int) (nm : ByteArray) : Array Value := #[.pointer (some ⟨f, 0, none⟩), .int .i64 last, .int .i64 most, .string nm]
def lastI (xs : List I9) : Int := xs.foldl (fun _ x => ((x.1 : Nat) : Int)) 0
def lastT (xs : List I9) : ByteArray := xs.foldl (fun _ x => sN x.1) { data := #[] }
theorem lastI_snoc (xs : List I9) (x : I9) : lastI (xs ++ [x]) = ((x.1 : Nat) : Int) := by simp [lastI]
theorem lastT_snoc (xs : List I9) (x : I9) : lastT (xs ++ [x]) = sN x.1 := by simp [lastT]
theorem lastI_fold : ∀ (xs : List I9) (m : Nat), xs.foldl (fun _ x => ((x.1 : Nat) : Int)) (m : Int) = (((xs.map (·.1)).foldl (fun _ x => x) m : Nat) : Int)
  | [], _ => rfl
  | x :: xs, m => by rw [List.foldl_cons, List.map_cons, List.foldl_cons]; exact lastI_fold xs x.1
theorem lastI_most {s : St} (h : s.now.Pairwise (fun p q => bytesBefore p.1 q.1 = true)) : lastI (nums9 s) = (mostD s.now : Int) := by
  have e := lastI_fold (nums9 s) 0
  have e2 : (nums9 s).map (·.1) = numsD s.now := by rw [nums9, num9_map]; rfl
  rw [e2, last_most _ 0 (nums_rising h) (fun x _ => Nat.zero_le _)] at e
  exact e
theorem lastT_fold : ∀ (xs : List I9) (m : Nat), xs.foldl (fun _ x => sN x.1) (sN m) = sN ((xs.map (·.1)).foldl (fun _ x => x) m)
  | [], _ => rfl
  | x :: xs, m => by rw [List.foldl_cons, List.map_cons, List.foldl_cons]; exact lastT_fold xs x.1
theorem lastT_most {s : St} (h : s.now.Pairwise (fun p q => bytesBefore p.1 q.1 = true)) : lastT (nums9 s) = if (openX s).has then sN (openX s).most else { data := #[] } := by
  have e2 : (nums9 s).map (·.1) = numsD s.now := by rw [nums9, num9_map]; rfl
  have e3 : mostD s.now = (numsD s.now).foldl (fun _ x => x) 0 := (last_most _ 0 (nums_rising h) (fun x _ => Nat.zero_le _)).symm
  show _ = if (!(numsD s.now).isEmpty) = true then sN (mostD s.now) else _
  rw [e3, ← e2]
  cases nums9 s with
  | nil => rfl
  | cons x l => exact lastT_fold l x.1
theorem KeepsOthers.of_below {w w' : World} (k : Below w.heap.size w w') : KeepsOthers w w' := ⟨k.size, fun i o hi _ => (k.block i (Array.getElem?_eq_some_iff.1 hi).1).trans hi⟩
theorem at_kept {W W' : World} {row : Option Nat} {g : Nat} {t : TypeId} {cs : Array Value} (h : At W g t cs) (hg : W.grownBy W' row) (hrow : ∀ r, row = some r → ∃ o : Obj, W.heap[r]? = some o ∧ o.isCells = false) : At W' g t cs := (grownBy_keeps_cells hg hrow h rfl).trans h
theorem cells_kept {W W' : World} {row : Option Nat} {g : Nat} {cs : Array Value} {t : TypeId} {fr : Nat × Nat} (h : W.heap[g]? = some (.cells cs t fr)) (hg : W.grownBy W' row) (hrow : ∀ r, row = some r → ∃ o : Obj, W.heap[r]? = some o ∧ o.isCells = false) : W'.heap[g]? = some (.cells cs t fr) := (grownBy_keeps_cells hg hrow h rfl).trans h
theorem glob_kept {W W' : World} {row : Option Nat} (h : Glob W) (hg : W.grownBy W' row) (hrow : ∀ r, row = some r → ∃ o : Obj, W.heap[r]? = some o ∧ o.isCells = false) : Glob W' :=
  h.same hg.size fun g cs t fr _ e => cells_kept e hg hrow
/-- The end of a round of Open's loop. -/
theorem round_end {w W W2 : World} {f B X : Nat} {l0 m0 : Int} {t0 : ByteArray} (hB : At W B 28 #[.pointer (some ⟨X, 0, none⟩)]) (hX : At W X 50 (idsC f l0 m0 t0)) (hw : Below w.heap.size w W) (hXw : w.heap.size ≤ X) (hBX : ¬ B = X) (hb : Below W.drew.heap.size W.drew W2) (n : Int) (t : ByteArray) :
    KeepsOthers W ((W2.setCell ⟨X, 2, none⟩ (.int .i64 n)).setCell ⟨X, 3, none⟩ (.string t)) ∧ KC X W ((W2.setCell ⟨X, 2, none⟩ (.int .i64 n)).setCell ⟨X, 3, none⟩ (.string t)) ∧
    (At ((W2.setCell ⟨X, 2, none⟩ (.int .i64 n)).setCell ⟨X, 3, none⟩ (.string t)) B 28 #[.pointer (some ⟨X, 0, none⟩)] ∧ At ((W2.setCell ⟨X, 2, none⟩ (.int .i64 n)).setCell ⟨X, 3, none⟩ (.string t)) X 50 (idsC f l0 n t)) ∧ Below w.heap.size w ((W2.setCell ⟨X, 2, none⟩ (.int .i64 n)).setCell ⟨X, 3, none⟩ (.string t)) := by
  have k : Keep (fun b => b = X) W2 ((W2.setCell ⟨X, 2, none⟩ (.int .i64 n)).setCell ⟨X, 3, none⟩ (.string t)) := ((Keep.refl (fun b => b = X) W2).setCell (p := ⟨X, 2, none⟩) (fun _ => rfl) _).setCell (p := ⟨X, 3, none⟩) (fun _ => rfl) _
  have hkc : KC X W ((W2.setCell ⟨X, 2, none⟩ (.int .i64 n)).setCell ⟨X, 3, none⟩ (.string t)) := ⟨Nat.le_trans hb.size k.size, fun g cs ty fr hg ha => by
    have hl : g < W.heap.size := (Array.getElem?_eq_some_iff.1 ha).1
    have h1 : W2.heap[g]? = some (.cells cs ty fr) := (hb.block g hl).trans ha
    exact (k.block g (Nat.lt_of_lt_of_le hl hb.size) hg).trans h1⟩
  refine ⟨(KeepsOthers.drew W).trans ((KeepsOthers.of_below hb).trans ((KeepsOthers.setCell _ _ _).trans (KeepsOthers.setCell _ _ _))), hkc, ⟨hkc.at hB hBX, ?_⟩, ?_⟩
  · have h1 : At W2 X 50 (idsC f l0 m0 t0) := At.below (w := W.drew) hX hb hX.lt
    exact (h1.put 2 (.int .i64 n)).put 3 (.string t)
  · have h2 : Below w.heap.size W.drew W2 := hb.mono (by have := hw.size; exact this)
    exact (((hw.trans ((Below.refl _ W).drew)).trans h2).setCell (p := ⟨X, 2, none⟩) hXw _).setCell (p := ⟨X, 3, none⟩) hXw _
set_option maxRecDepth 100000 in
set_option maxHeartbeats 4000000 in
theorem openUp {f : Nat} {S : Nat → Prop} {s : St} {w : World} (h : Disk w S f s) (hd : s.down = false) (hsh : ShortD s.now) (hG : Glob w) :
    Calls Tryd.prog 12 #[.pointer (some ⟨f, 0, none⟩)] w fun e w' => ∃ X, w.heap.size ≤ X ∧ e = .returned (.tuple #[.pointer (some ⟨X, 0, none⟩), .int .i64 0]) ∧ At w' X 50 (idsC f (lastI (nums9 s)) (lastI (nums9 s)) (lastT (nums9 s))) ∧ Below w.heap.size w w' := by
  have HD := Lib.hid (down f S s w h)
  rw [hd] at HD
  have HDK := Lib.hid h
  have HSH := Lib.hid hsh
  have HGG := Lib.hid hG
  have HDN := Lib.hid hd
  have hfl : f < w.heap.size := by obtain ⟨⟨L, hp⟩, _⟩ := h; exact hp.fs.lt
  have h5 : 5 ≤ w.heap.size := hG.1
  clear h hsh hG hd
  refine (callsIn_wide (n := 6)).1 ?_
  refine callsIn_of_wp_marks Tryd.func12 rfl trivial ?_ rfl
  simp only [Tryd.ntmps12, List.size_toArray, List.length_cons, List.length_nil, Nat.reduceAdd, Nat.reduceSub, Array.replicate_succ, Array.replicate_zero, List.push_toArray, List.append_toArray, List.nil_append, List.cons_append]
  have h20 : Fence.wide.fn 21 := trivial
  have h21 : Fence.wide.fn 22 := trivial
  gi_wp2_with (first
    | (gi_at_call 21; refine (callsIn_wide.2 HD.out).mono ?_; rintro e w' ⟨rfl, rfl⟩)
    | (gi_at_call 22; refine (makerC _ _).mono ?_; rintro e w3 ⟨rfl, rfl⟩))
  obtain ⟨W1, hW1⟩ : ∃ W1, W1 = (w.alloc (.cells #[.pointer (some ⟨f, 0, none⟩), .int .i64 0, .int .i64 0, .string { data := #[] }] 50)).alloc (.cells #[.pointer (some ⟨w.heap.size, 0, none⟩)] 28) := ⟨_, rfl⟩
  rw [← hW1]
  have hs1 : W1.heap.size = w.heap.size + 2 := by rw [hW1]; simp
  have hX1 : At W1 w.heap.size 50 (idsC f 0 0 { data := #[] }) := by rw [hW1]; exact (At.new w _ _).alloc _
  have hB1 : At W1 (w.heap.size + 1) 28 #[.pointer (some ⟨w.heap.size, 0, none⟩)] := by
    rw [hW1]
    have h := At.new (w.alloc (.cells #[.pointer (some ⟨f, 0, none⟩), .int .i64 0, .int .i64 0, .string { data := #[] }] 50)) 28 #[.pointer (some ⟨w.heap.size, 0, none⟩)]
    rw [World.size_alloc] at h
    exact h
  have hw1 : Below w.heap.size w W1 := by rw [hW1]; exact ((Below.refl _ w).alloc (Nat.le_refl _) _).alloc (by simp) _
  have k1 : Keep (fun _ => False) w (W1.alloc (.cells #[.pointer (some ⟨f, 0, none⟩)] 26)) := Keep.of_below (hw1.alloc (by omega) _)
  have hcB : (W1.alloc (.cells #[.pointer (some ⟨f, 0, none⟩)] 26)).cell? ⟨W1.heap.size, 0, none⟩ = some (.pointer (some ⟨f, 0, none⟩)) := (At.new W1 26 #[.pointer (some ⟨f, 0, none⟩)]).cell 0
  rw [show w.heap.size + 1 + 1 = W1.heap.size by omega]
  have HS1 := Lib.hid hs1
  clear hs1 hW1
  refine wpIn_rangeFunc_ownF (n := 6) rfl (by decide) (gf := 33) (lb := #[.pointer (some ⟨W1.heap.size, 0, none⟩)]) rfl trivial (enters_of Tryd.func33 (by kernel_rfl) rfl)
    (iterC W1.heap.size w.heap.size _ h5 (by have := HS1.out; simp; omega) (HDK.out.keep k1 (fun _ _ h => h)) HDN.out HSH.out (HGG.out.quiet k1) hcB) (fun h k => h.trans k) (fun W l o o' _ h hc _ => kc_b W l o o' h hc) (Below.refl _ _) (fun _ => rfl)
    (fun pre W => (At W (w.heap.size + 1) 28 #[.pointer (some ⟨w.heap.size, 0, none⟩)] ∧ At W w.heap.size 50 (idsC f 0 (lastI pre) (lastT pre)) ∧ Glob W) ∧ Below w.heap.size w W)
    (fun _ _ _ => False)
    (OwnFrom.and (Go.Own.from (fun s A B row hs hg hr => ⟨at_kept hs.1 hg hr, at_kept hs.2.1 hg hr, glob_kept hs.2.2 hg hr⟩) _) (ownFrom_below (Nat.le_refl _) (by have := HS1.out; simp; omega)))
    (fun _ _ _ _ _ hs _ _ => hs)
    ⟨⟨hB1.alloc _, hX1.alloc _, HGG.out.quiet k1⟩, hw1.alloc (by have := HS1.out; omega) _⟩
    (fun x => { tmps := #[.pointer (some ⟨f, 0, none⟩), undef, .pointer none, .int .i64 0, .pointer (some ⟨w.heap.size + 1, 0, none⟩), .int .i64 ((x.1 : Nat) : Int), .pointer (some ⟨f, 0, none⟩), .bool false, .pointer (some ⟨f, 0, none⟩), .bool false, .pointer (some ⟨f, 0, none⟩), .agg #[.pointer (some ⟨f, 0, none⟩), .int .i64 0, .int .i64 0, .string { data := #[] }], .pointer (some ⟨w.heap.size, 0, none⟩), .pointer (some ⟨f, 0, none⟩), .func (.func 33) #[] #[.pointer (some ⟨W1.heap.size, 0, none⟩)], .int .i64 ((x.1 : Nat) : Int), undef, undef, undef, undef, undef, undef, undef, undef, undef, undef, undef, undef, undef, undef, undef, undef, undef], defers := [] }) ?assign ?body ?done ?stop
  case assign =>
    intro l x W K hK
    gi_wp2
    exact hK
  case body =>
    rintro l pre x W ⟨⟨hB, hX, hGW⟩, hw⟩ _
    have cB := hB.cell 0
    have fB := hB.frozen 0
    have x0 := hX.cell 0
    have x2 := hX.cell 2
    have x3 := hX.cell 3
    have y2 := hX.frozen 2
    have y3 := hX.frozen 3
    simp [idsC] at cB x0 x2 x3
    have HBW := Lib.hid hB
    have HXW := Lib.hid hX
    have HGW := Lib.hid hGW
    have HW := Lib.hid hw
    clear hB hX hw hGW hX1 hB1 hw1 k1 hcB
    have cN := nameC ((x.1 : Nat) : Int) W.drew (HGW.out.quiet ((Keep.refl _ W).drew)) (by omega) (by have := x.2; omega)
    rw [nameT_nat x.2] at cN
    gi_wp2_with fail
    refine wpIn_region_held_round (fun w' => w'.cell? ⟨w.heap.size + 1, 0, none⟩ = some (.pointer (some ⟨w.heap.size, 0, none⟩))) (by kernel_rfl) (by kernel_rfl) (by rintro ⟨_, _, h⟩; exact h) ?_ (fun hHeld => ?_)
    · exact cB
    refine wpAnyH_take (i := 0) (v := ?_) rfl (by kernel_rfl) (by kernel_rfl) (by kernel_rfl) (fun _ _ _ h => h) (Or.inl ⟨by rfl, ?_⟩) (by assumption) ?_
    rotate_left
    · (intro wS hSw; (try dsimp only at hSw); (try simp only [List.getElem_toArray, List.getElem_cons_succ, List.getElem_cons_zero]); go_simp; try (with_reducible rfl))
    try simp only [Act.put, List.getElem_toArray, List.getElem_cons_succ, List.getElem_cons_zero, List.setIfInBounds_toArray, List.set_cons_zero, List.set_cons_succ]
    refine wpAnyH_take (i := 1) (v := ?_) rfl (by kernel_rfl) (by kernel_rfl) (by kernel_rfl) (fun _ _ _ h => h) (Or.inl ⟨by rfl, ?_⟩) (by assumption) ?_
    rotate_left
    · (intro wS hSw; (try dsimp only at hSw); (try simp only [List.getElem_toArray, List.getElem_cons_succ, List.getElem_cons_zero]); go_simp; try (with_reducible rfl))
    try simp only [Act.put, List.getElem_toArray, List.getElem_cons_succ, List.getElem_cons_zero, List.setIfInBounds_toArray, List.set_cons_zero, List.set_cons_succ]
    refine wpAnyH_take (i := 2) (v := ?_) rfl (by kernel_rfl) (by kernel_rfl) (by kernel_rfl) (fun _ _ _ h => h) (Or.inl ⟨by rfl, ?_⟩) (by assumption) ?_
    rotate_left
    · (intro wS hSw; (try dsimp only at hSw); (try simp only [List.getElem_toArray, List.getElem_cons_succ, List.getElem_cons_zero]); go_simp; try (with_reducible rfl))
    try simp only [Act.put, List.getElem_toArray, List.getElem_cons_succ, List.getElem_cons_zero, List.setIfInBounds_toArray, List.set_cons_zero, List.set_cons_succ]
    refine wpAnyH_take (i := 3) (v := ?_) rfl (by kernel_rfl) (by kernel_rfl) (by kernel_rfl) (fun _ _ _ h => h) (Or.inl ⟨by rfl, ?_⟩) (by assumption) ?_
    rotate_left
    · (intro wS hSw; (try dsimp only at hSw); (try simp only [List.getElem_toArray, List.getElem_cons_succ, List.getElem_cons_zero]); go_simp; try (with_reducible rfl))
    try simp only [Act.put, List.getElem_toArray, List.getElem_cons_succ, List.getElem_cons_zero, List.setIfInBounds_toArray, List.set_cons_zero, List.set_cons_succ]
    refine wpAnyH_ready (rs := [4]) (by kernel_rfl) (by simp) ?_
    refine AllReadyH.cons rfl (fun K hK => ?_) AllReadyH.nil
    go_simp
    refine cN.mono ?_
    rintro e W2 ⟨rfl, kN⟩
    have hb : Below W.drew.heap.size W.drew W2 := kN.below (Nat.le_refl _) (fun _ h => h.elim)
    have HB2 := Lib.hid hb
    have hB2 := At.below (w := W.drew) HBW.out hb HBW.out.lt
    have hX2 := At.below (w := W.drew) HXW.out hb HXW.out.lt
    have hG2 := HGW.out.quiet (((Keep.refl (fun _ => False) W).drew).trans kN (fun _ _ h => h))
    have HG2 := Lib.hid hG2
    have cB2 := hB2.cell 0
    have x22 := hX2.cell 2
    have x32 := hX2.cell 3
    have y22 := hX2.frozen 2
    have y32 := hX2.frozen 3
    simp [idsC] at cB2 x22 x32
    clear hb hB2 hX2 hG2 kN cN
    go_wp2_with fail
    refine hK.out _ _ cB2 (fun hHeld => ?_)
    clear hK K
    try simp only [Act.put, List.getElem_toArray, List.getElem_cons_succ, List.getElem_cons_zero, List.setIfInBounds_toArray, List.set_cons_zero, List.set_cons_succ]
    refine wpAnyH_take (i := 5) (v := ?_) rfl (by kernel_rfl) (by kernel_rfl) (by kernel_rfl) (fun _ _ _ h => h) (Or.inl ⟨by rfl, ?_⟩) (by assumption) ?_
    rotate_left
    · (intro wS hSw; (try dsimp only at hSw); (try simp only [List.getElem_toArray, List.getElem_cons_succ, List.getElem_cons_zero]); go_simp; try (with_reducible rfl))
    try simp only [Act.put, List.getElem_toArray, List.getElem_cons_succ, List.getElem_cons_zero, List.setIfInBounds_toArray, List.set_cons_zero, List.set_cons_succ]
    refine wpAnyH_take (i := 6) (v := ?_) rfl (by kernel_rfl) (by kernel_rfl) (by kernel_rfl) (fun _ _ _ h => h) (Or.inl ⟨by rfl, ?_⟩) (by assumption) ?_
    rotate_left
    · (intro wS hSw; (try dsimp only at hSw); (try simp only [List.getElem_toArray, List.getElem_cons_succ, List.getElem_cons_zero]); go_simp; try (with_reducible rfl))
    try simp only [Act.put, List.getElem_toArray, List.getElem_cons_succ, List.getElem_cons_zero, List.setIfInBounds_toArray, List.set_cons_zero, List.set_cons_succ]
    refine wpAnyH_ready (rs := [7]) (by kernel_rfl) (by simp) ?_
    refine AllReadyH.cons rfl (fun K hK => ?_) AllReadyH.nil
    go_simp
    refine hK.out _ _ ((World.cell?_setCell_far _ _ _ _ (by show w.heap.size ≠ w.heap.size + 1; omega)).trans cB2) (fun hHeld => ?_)
    clear hK K
    try simp only [Act.put, List.getElem_toArray, List.getElem_cons_succ, List.getElem_cons_zero, List.setIfInBounds_toArray, List.set_cons_zero, List.set_cons_succ]
    refine wpAnyH_take (i := 8) (v := ?_) rfl (by kernel_rfl) (by kernel_rfl) (by kernel_rfl) (fun _ _ _ h => h) (Or.inl ⟨by rfl, ?_⟩) (by assumption) ?_
    rotate_left
    · (intro wS hSw; (try dsimp only at hSw); (try simp only [List.getElem_toArray, List.getElem_cons_succ, List.getElem_cons_zero]); go_simp; try (with_reducible rfl))
    try simp only [Act.put, List.getElem_toArray, List.getElem_cons_succ, List.getElem_cons_zero, List.setIfInBounds_toArray, List.set_cons_zero, List.set_cons_succ]
    refine wpAnyH_take (i := 9) (v := ?_) rfl (by kernel_rfl) (by kernel_rfl) (by kernel_rfl) (fun _ _ _ h => h) (Or.inl ⟨by rfl, ?_⟩) (by assumption) ?_
    rotate_left
    · (intro wS hSw; (try dsimp only at hSw); (try simp only [List.getElem_toArray, List.getElem_cons_succ, List.getElem_cons_zero]); go_simp; try (with_reducible rfl))
    try simp only [Act.put, List.getElem_toArray, List.getElem_cons_succ, List.getElem_cons_zero, List.setIfInBounds_toArray, List.set_cons_zero, List.set_cons_succ]
    refine wpAnyH_ready (rs := [10]) (by kernel_rfl) (by simp) ?_
    refine AllReadyH.cons rfl (fun K hK => ?_) AllReadyH.nil
    go_simp
    refine hK.out _ _ ((World.cell?_setCell_far _ _ _ _ (by show w.heap.size ≠ w.heap.size + 1; omega)).trans ((World.cell?_setCell_far _ _ _ _ (by show w.heap.size ≠ w.heap.size + 1; omega)).trans cB2)) (fun hHeld => ?_)
    clear hK K
    try simp only [Act.put, List.getElem_toArray, List.getElem_cons_succ, List.getElem_cons_zero, List.setIfInBounds_toArray, List.set_cons_zero, List.set_cons_succ]
    refine wpAnyH_done (by kernel_rfl) ?_ _
    have hend := round_end HBW.out HXW.out HW.out (Nat.le_refl _) (by omega) HB2.out ((x.1 : Nat) : Int) (sN x.1)
    show _ ∧ _ ∧ (_ ∧ _ ∧ _) ∧ _
    refine ⟨hend.1, hend.2.1, ⟨hend.2.2.1.1, ?_, hend.2.1.glob h5 HGW.out⟩, hend.2.2.2⟩
    rw [lastI_snoc, lastT_snoc]
    exact hend.2.2.1.2
  case done =>
    rintro D0 ys W hD hys ⟨⟨hB, hX, hGW⟩, hw⟩ hK
    have cB := hB.cell 0
    have fB := hB.frozen 0
    have x0 := hX.cell 0
    have x1 := hX.cell 1
    have x2 := hX.cell 2
    have y1 := hX.frozen 1
    simp [idsC] at cB x0 x1 x2
    have HBW := Lib.hid hB
    have HXW := Lib.hid hX
    have HW := Lib.hid hw
    have HK := Lib.hid hK
    have HYS := Lib.hid hys
    clear hB hX hw hK hys hGW hX1 hB1 hw1 k1 hcB
    gi_wp2_with fail
    gi_region
    gi_wp2_with fail
    have hK' : ((W.setCell ⟨w.heap.size, 1, none⟩ (.int .i64 (lastI ys))).drew).heap[D0]? = some (Obj.deferred (some [])) := (KeepsOthers.setCell W ⟨w.heap.size, 1, none⟩ (.int .i64 (lastI ys))).same D0 _ HK.out rfl
    have hD0 : w.heap.size ≤ D0 := by have : W1.heap.size + 1 ≤ D0 := by simpa using hD
                                      have := HS1.out
                                      omega
    refine ⟨by simp, .inl ⟨_, _, rfl, run_takeDeferred hK', ?_⟩⟩
    rw [← HYS.out]
    refine ⟨_, results_tmp2 rfl _ _ _, _, Nat.le_refl _, rfl, ?_, ?_⟩
    · exact at_kept ((HXW.out.put 1 (.int .i64 (lastI ys))).drew) (row := some D0) (grownBy_putObj' _ D0 (.deferred none)) (fun r e => by cases e; exact ⟨_, hK', rfl⟩)
    · exact ((HW.out.setCell (p := ⟨w.heap.size, 1, none⟩) (Nat.le_refl _) _).trans ((Below.refl _ _).drew)).trans (belowK_b (w := w) (Nat.le_refl _) _ D0 _ _ hD0 hK' rfl rfl)
  case stop =>
    rintro D0 c0 pre W _ _ h _
    exact h.elim
end Go.Proofs.YtlpeiejohgchmaaDoor.Fs
