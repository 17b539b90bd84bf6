/-
  The law of long lines: two thousand letters; the replies' first three bytes.
-/
import Derived.Test.YtcjljldknekhiaaGreatDoorKQf
import Derived.Laws.MakeOwn
import Derived.Laws.OwnMore
namespace Go.Proofs.YtcjljldknekhiaaGreatDoor.Ln
open Go.RowKit
set_option linter.unusedVariables false
set_option linter.unusedSimpArgs false

theorem make_xs : ∀ w, (Instr.makeSlice 34 (.int .i64 2000) (.int .i64 2000)).run Tryz.prog w = .ok (.slice (some ⟨w.heap.size, 0, none⟩) 2000 2000) (w.alloc (.cells (madeCells #[.int .u8 0] 2000) 5)) := by
  intro w
  obtain ⟨i0, hi, hz0, hz1, hz2⟩ := info_parts info5
  have h := run_make (P := Tryz.prog) w 34 5 i0 (.int .u8 0) Tryz.underlying34 hi hz0 .i64 .i64 2000 2000 (by omega) (by omega) (by rw [hz2]; omega) (by omega)
  rw [hz1] at h
  simpa [Value.cells] using h
/-- The first I of the letters are laid. -/
def Xs (w : World) (xb I : Nat) : Prop := ∃ cs, At w xb 5 cs ∧ cs.size = 2000 ∧ (∀ j, j < 2000 → ∃ v, cs[j]? = some (.int .u8 v)) ∧ ∀ j, j < I → cs[j]? = some (.int .u8 120)
theorem Xs.start (w : World) : Xs (w.alloc (.cells (madeCells #[.int .u8 0] 2000) 5)) w.heap.size 0 := by
  refine ⟨_, At.new w _ _, size_madeCells _ _, fun j hj => ⟨0, ?_⟩, fun j h => absurd h (Nat.not_lt_zero _)⟩
  rw [← Array.getElem?_toList, toList_madeCells_one, List.getElem?_replicate, if_pos hj]
theorem Xs.at {w : World} {xb I : Nat} (h : Xs w xb I) {i : Nat} (hi : i < 2000) : (∃ v, w.cell? ⟨xb, i, none⟩ = some (.int .u8 v)) ∧ w.frozen? ⟨xb, i, none⟩ = false := by
  obtain ⟨cs, hA, hs, hv, hx⟩ := h
  obtain ⟨v, hv⟩ := hv i hi
  exact ⟨⟨v, by rw [hA.cell, hv]⟩, hA.frozen i⟩
theorem Xs.put {w : World} {xb I : Nat} (h : Xs w xb I) (hi : I < 2000) : Xs (w.setCell ⟨xb, I, none⟩ (.int .u8 120)) xb (I + 1) := by
  obtain ⟨cs, hA, hs, hv, hx⟩ := h
  have key : ∀ j, (cs.setIfInBounds I (.int .u8 120))[j]? = if I = j then some (.int .u8 120) else cs[j]? := fun j => by
    rw [Array.getElem?_setIfInBounds, hs]
    split
    · first | rfl | rw [if_pos hi]
    · rfl
  refine ⟨_, hA.put I _, by simpa using hs, fun j hj => ?_, fun j hj => ?_⟩
  · rw [key j]
    split
    · exact ⟨120, rfl⟩
    · exact hv j hj
  · rw [key j]
    split
    · rfl
    · exact hx j (by omega)
theorem Xs.keep {S : Nat → Prop} {w w' : World} {xb I : Nat} (h : Xs w xb I) (k : Keep S w w') (hs : ¬ S xb) : Xs w' xb I := by
  obtain ⟨cs, hA, h⟩ := h
  exact ⟨cs, hA.keep k hs, h⟩
theorem Xs.lt {w : World} {xb I : Nat} (h : Xs w xb I) : xb < w.heap.size := by
  obtain ⟨cs, hA, h⟩ := h
  exact hA.lt
theorem xs_take (n : Nat) (h : n ≤ 2000) : (xs 2000).take n = xs n := by rw [xs, List.take_replicate, Nat.min_eq_left h]; rfl
theorem Xs.bytes {w : World} {xb : Nat} (h : Xs w xb 2000) : Bytes (· = xb) w (some ⟨xb, 0, none⟩) (xs 2000) := by
  obtain ⟨cs, hA, hs, hv, hx⟩ := h
  refine ⟨fun c hc => by rw [xs, List.mem_replicate] at hc; omega, .inr ⟨xb, 0, rfl, rfl, fun i hi => ?_⟩⟩
  have hi' : i < 2000 := by rwa [xs_len] at hi
  rw [Nat.zero_add, hA.cell, hx i hi']
  have : (xs 2000).getD i 0 = 120 := by rw [List.getD_eq_getElem?_getD, xs, List.getElem?_replicate, if_pos hi']; rfl
  rw [this]
  rfl
/-- A text of so many of them. -/
theorem xs_str {w : World} {xb : Nat} (h : Xs w xb 2000) (n : Nat) (hn : n ≤ 2000) : (convert 34 9 (.slice (some ⟨xb, 0, none⟩) n 2000)).run Tryz.prog w = .ok (.string (str (xs n))) w := by
  have := run_str (h.bytes.take n) n 2000 (by rw [List.length_take, xs_len]; omega)
  rwa [xs_take n hn] at this
theorem xs_str_size (n : Nat) : (str (xs n)).size = n := by rw [str_size, xs_len]
theorem ns_append (a b : ByteArray) : ns (a ++ b) = ns a ++ ns b := by simp [ns]
theorem ns_xs (n : Nat) : ns (str (xs n)) = xs n := ns_str (fun c hc => by rw [xs, List.mem_replicate] at hc; omega)
theorem fedA_is (k : Int) : ns (({ data := #[78, 79, 79, 80, 32] } ++ str (xs (507 + k).toNat)) ++ { data := #[13, 10, 72, 69, 76, 79, 32, 97, 13, 10, 77, 65, 73, 76, 32, 70, 82, 79, 77, 58, 60, 97, 64, 98, 62, 13, 10, 82, 67, 80, 84, 32, 84, 79, 58, 60, 97, 64, 98, 62, 13, 10, 68, 65, 84, 65, 13, 10] }) = fedA k := by
  rw [ns_append, ns_append, ns_xs]
  show ([78, 79, 79, 80, 32] ++ xs (507 + k).toNat) ++ [13, 10, 72, 69, 76, 79, 32, 97, 13, 10, 77, 65, 73, 76, 32, 70, 82, 79, 77, 58, 60, 97, 64, 98, 62, 13, 10, 82, 67, 80, 84, 32, 84, 79, 58, 60, 97, 64, 98, 62, 13, 10, 68, 65, 84, 65, 13, 10] = _
  simp [fedA, lNOOP, lHELO, lMAIL, lRCPT, lDATA]
theorem fedB_is (k : Int) (d : Bool) (T : ByteArray) (hT : ns T = txtOf k d) : ns (((T ++ { data := #[13, 10] }) ++ str (xs 490)) ++ { data := #[13, 10, 46, 13, 10] }) = fedB k d := by
  rw [ns_append, ns_append, ns_append, ns_xs, hT]
  show ((txtOf k d ++ [13, 10]) ++ xs 490) ++ [13, 10, 46, 13, 10] = _
  simp [fedB]
theorem txt_dot (k : Int) : ns ({ data := #[46] } ++ str (xs (999 + k).toNat)) = txtOf k true := by
  rw [ns_append, ns_xs]
  rfl
theorem txt_plain (k : Int) : ns (str (xs (1000 + k).toNat)) = txtOf k false := by rw [ns_xs]; rfl

/-! ### The replies -/
theorem reply500 : reply 500 = { data := #[53, 48, 48, 32, 110, 111, 13, 10] } := by
  have : dig 500 = [53, 48, 48] := by
    rw [dig, if_neg (by decide), dig, if_neg (by decide), dig, if_pos (by decide)]
    rfl
  rw [reply, this]
  rfl
theorem reply354 : reply 354 = { data := #[51, 53, 52, 32, 103, 111, 32, 111, 110, 13, 10] } := by
  have : dig 354 = [51, 53, 52] := by
    rw [dig, if_neg (by decide), dig, if_neg (by decide), dig, if_pos (by decide)]
    rfl
  rw [reply, this]
  rfl
def w250 : ByteArray := { data := #[50, 53, 48] }
def w500 : ByteArray := { data := #[53, 48, 48] }
def w354 : ByteArray := { data := #[51, 53, 52] }
def first (k : Int) : ByteArray := if 0 < k then w500 else w250
def wants (k : Int) : List ByteArray := [first k, w250, w250, w250, w354]
def says (k : Int) : List ByteArray := [reply (one k), reply 250, reply 250, reply 250, reply 354]
def Rr (k : Int) (d : Bool) (i : Nat) : Se := { (if 0 < k then LS [] [] 1 nobody [] [] 0 else LS [] [] 5 ab [ab] (bodyK k d) 0) with out := (outA k).drop i ++ [lastOf k d] }
theorem three (t w : ByteArray) (h1 : 3 ≤ t.size) (h2 : t.extract 0 3 = w) : 3 ≤ t.size ∧ t.extract 0 3 = w := ⟨h1, h2⟩
theorem first_says (k : Int) (d : Bool) (i : Nat) (hi : i < 5) : ∃ t v L, (Rr k d i).out = .say t :: L ∧ (Rr k d i).pop = Rr k d (i + 1) ∧ (wants k)[i]? = some v ∧ 3 ≤ t.size ∧ t.size ≤ 1000 ∧ t.extract 0 3 = v := by
  have h250 : 3 ≤ (reply 250).size ∧ (reply 250).size ≤ 1000 ∧ (reply 250).extract 0 3 = w250 := by rw [reply250]; exact ⟨by decide, by decide, by kernel_rfl⟩
  have h354 : 3 ≤ (reply 354).size ∧ (reply 354).size ≤ 1000 ∧ (reply 354).extract 0 3 = w354 := by rw [reply354]; exact ⟨by decide, by decide, by kernel_rfl⟩
  have h500 : 3 ≤ (reply 500).size ∧ (reply 500).size ≤ 1000 ∧ (reply 500).extract 0 3 = w500 := by rw [reply500]; exact ⟨by decide, by decide, by kernel_rfl⟩
  have h1 : 3 ≤ (reply (one k)).size ∧ (reply (one k)).size ≤ 1000 ∧ (reply (one k)).extract 0 3 = first k := by
    unfold one first
    split
    · exact h500
    · exact h250
  rcases i with _ | _ | _ | _ | _ | i
  · exact ⟨_, _, _, rfl, rfl, rfl, h1⟩
  · exact ⟨_, _, _, rfl, rfl, rfl, h250⟩
  · exact ⟨_, _, _, rfl, rfl, rfl, h250⟩
  · exact ⟨_, _, _, rfl, rfl, rfl, h250⟩
  · exact ⟨_, _, _, rfl, rfl, rfl, h354⟩
  · omega
theorem long_Rr (k : Int) (d : Bool) (hk : k = -1 ∨ k = 0 ∨ k = 1) : (((Se.new { data := #[109, 120] } 1500).pop.fed (fedA k)).fed (fedB k d)).go V9 = Rr k d 0 := long_go k d hk
theorem Rr_last (k : Int) (d : Bool) : (Rr k d 5).out = [lastOf k d] := rfl
theorem fedA_length (k : Int) : (fedA k).length = 5 + (507 + k).toNat + 48 := by
  simp only [fedA, lNOOP, lHELO, lMAIL, lRCPT, lDATA, List.length_append, List.length_cons, List.length_nil, xs_len]
theorem fedB_length (k : Int) (d : Bool) : (fedB k d).length = (txtOf k d).length + 2 + 490 + 5 := by
  simp only [fedB, List.length_append, List.length_cons, List.length_nil, xs_len]
/-- All was fed. -/
theorem long_fed {s : Se} {k : Int} {d : Bool} (hk : k = -1 ∨ k = 0 ∨ k = 1) (hg : s.go V9 = (Se.new { data := #[109, 120] } 1500).pop) : ((s.fed (fedA k)).fed (fedB k d)).go V9 = Rr k d 0 := by
  rw [← long_Rr k d hk, fed_fed, fed_fed, ← fed_go V9 _ _ s rfl, hg]
theorem fedA_len (k : Int) (hk : k ≤ 1) : (fedA k).length ≤ 1000 := by
  simp only [fedA, lNOOP, lHELO, lMAIL, lRCPT, lDATA, List.length_append, List.length_cons, List.length_nil, xs_len]
  omega
theorem fedB_len (k : Int) (d : Bool) (hk : k ≤ 1) : (fedB k d).length ≤ 2000 := by
  have : (txtOf k d).length ≤ 1001 := by unfold txtOf; split <;> simp only [List.length_cons, xs_len] <;> omega
  simp only [fedB, List.length_append, List.length_cons, List.length_nil, xs_len]
  omega
theorem bodyK_len (k : Int) (h0 : -1 ≤ k) : ((bodyK k false).length : Int) = 1000 + k + 492 := by
  have : (bodyK k false).length = (1000 + k).toNat + 1 + 490 + 1 := by simp [bodyK, xs_len]
  omega
/-! ### The law's second loop -/
structure Long (w0 wr : World) (g wb : Nat) (F : Nat → Prop) (k : Int) (d : Bool) (I : Nat) (s : Se) : Prop where
  one : One w0 wr g F s
  gd : Gd s
  go : s.go V9 = Rr k d I
  row : At wr wb 9 ((wants k).map Value.string).toArray
  nf : ∀ i, F i → i ≠ wb
section
variable {w0 wr w' : World} {g wb : Nat} {F F' : Nat → Prop} {k : Int} {d : Bool} {I J : Nat} {s s' : Se}
theorem Long.next (h : Long w0 wr g wb F k d I s) (a : VS F' w' g s') (kp : Keep F wr w') (m : More F F' wr) (gd : Gd s') (hg : s'.go V9 = Rr k d J) : Long w0 w' g wb F' k d J s' :=
  ⟨h.one.next a kp m, gd, hg, h.row.keep kp (fun e => h.nf _ e rfl), fun i hi => by
    rcases m i hi with e | e
    · exact h.nf i e
    · have := h.row.lt; omega⟩
theorem Long.quiet (h : Long w0 wr g wb F k d I s) (kp : Keep (fun _ => False) wr w') : Long w0 w' g wb F k d I s := ⟨h.one.quiet kp, h.gd, h.go, h.row.keep kp (fun e => e), h.nf⟩
theorem Long.want (h : Long w0 wr g wb F k d I s) {j : Nat} {v : ByteArray} (hv : (wants k)[j]? = some v) : wr.cell? ⟨wb, j, none⟩ = some (.string v) := by
  rw [h.row.cell]
  simp [hv]
end
theorem keep_is {E : Nat → Prop} {w : World} {f : ByteArray} {r : List ByteArray} {b : List Nat} {k : Int} {u g : ByteArray} {rx bx : Option Addr} {rn rc bn bc : Nat} (h : EvAt E w (.keep f r b) (evCells k u g (.slice rx rn rc) (.slice bx bn bc))) : k = 2 ∧ bn = b.length := by
  obtain ⟨rfl, _, _, _, ⟨x, c, hv, _⟩⟩ := h.parts
  injection hv with _ h2 _
  exact ⟨rfl, h2⟩
end Go.Proofs.YtcjljldknekhiaaGreatDoor.Ln
