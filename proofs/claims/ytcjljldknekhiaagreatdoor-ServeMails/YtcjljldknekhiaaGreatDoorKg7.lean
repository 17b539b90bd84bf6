/-
  Several texts in one: ACell ALaw AVm AV1 AV2.
-/
import Derived.Test.YtcjljldknekhiaaGreatDoorKg5
import Derived.Laws.IdiomStrings
import Derived.Test.YtcjljldknekhiaaGreatDoorKg4
import Derived.Lib.Atoi
import Derived.Maps.Keyed
import Derived.Carry
import Derived.Laws.StructEq

section
/-
  A row of bytes of the call's own: made of a string, written into, made a string again.
-/
namespace Go.Proofs.YtcjljldknekhiaaGreatDoor.Ad
open Go.RowKit
set_option linter.unusedVariables false
set_option linter.unusedSimpArgs false

/-! ### A row of bytes that is written into -/
def URow (w : World) (B : Nat) (l : List UInt8) : Prop := ∀ j (hj : j < l.length), w.cell? ⟨B, j, none⟩ = some (.int .u8 ((l[j]'hj).toNat : Int)) ∧ w.frozen? ⟨B, j, none⟩ = false
theorem URow.put {w : World} {B : Nat} {l : List UInt8} (h : URow w B l) (k : Nat) (hk : k < l.length) (c : UInt8) : URow (w.setCell ⟨B, k, none⟩ (.int .u8 (c.toNat : Int))) B (l.set k c) := by
  intro j hj
  rw [List.length_set] at hj
  have hf : (w.setCell ⟨B, k, none⟩ (.int .u8 (c.toNat : Int))).frozen? ⟨B, j, none⟩ = w.frozen? ⟨B, j, none⟩ := World.frozen?_setCell ..
  refine ⟨?_, hf.trans (h j hj).2⟩
  by_cases e : k = j
  · subst e
    rw [World.cell?_setCell_same _ _ _ (h k hk).1]
    simp
  · rw [World.cell?_setCell_other _ _ _ _ (by intro e2; injection e2 with _ e3; exact e e3), (h j hj).1]
    simp [e]
theorem bytes_some (s : ByteArray) (w : World) : ∃ cap w1, (convert 9 34 (.string s)).run Tryz.prog w = .ok (.slice (some ⟨w.heap.size, 0, none⟩) s.size cap) w1 ∧ URow w1 w.heap.size s.data.toList ∧ Below w.heap.size w w1 := by
  refine ⟨_, _, run_bytes_of_string w 9 34 5 s Tryz.underlying9 Tryz.underlying34 Tryz.underlying5, ?_, ?_⟩
  · intro j hj
    generalize grownCap w s.size 0 5 = cap
    have hj' : j < s.size := by rw [len_size] at hj; exact hj
    have hsz : s.size ≤ (bytesRow s cap).size := by
      simp [bytesRow]
    have e0 : (bytesRow s cap)[j]? = some (.int .u8 ((s.data.toList[j]'hj).toNat : Int)) := by
      unfold bytesRow
      rw [Array.getElem?_append_left (by simpa using hj')]
      have hj2 : j < s.data.size := hj'
      simp only [Array.getElem?_map, Array.getElem?_eq_getElem hj2, Option.map_some]
      rfl
    have eh : (w.drew.alloc (.cells (bytesRow s cap) 5 ((bytesRow s cap).size, (bytesRow s cap).size + 1))).heap[w.heap.size]? = some (.cells (bytesRow s cap) 5 ((bytesRow s cap).size, (bytesRow s cap).size + 1)) := by
      show (w.heap.push _)[w.heap.size]? = _
      simp
    constructor
    · unfold World.cell?
      simp only [eh]
      simpa using e0
    · unfold World.frozen?
      simp only [eh]
      simp
      omega
  · exact (Below.refl _ w).drew.alloc (Nat.le_refl _) _
theorem bytes_back (w : World) (B cap : Nat) (l : List UInt8) (h : URow w B l) : (convert 34 9 (.slice (some ⟨B, 0, none⟩) l.length cap)).run Tryz.prog w = .ok (.string (bs l)) w :=
  run_convert_bytes_back w 34 9 5 ⟨B, 0, none⟩ cap l Tryz.underlying34 Tryz.underlying5 Tryz.underlying9 (fun j hj => by
    rw [show (⟨B, 0, none⟩ : Addr).add j = ⟨B, j, none⟩ by unfold Addr.add; split <;> simp_all]
    exact (h j hj).1)

/-! ### Small, Great -/
def mix (f : UInt8 → UInt8) (k : Nat) (l : List UInt8) : List UInt8 := (l.take k).map f ++ l.drop k
theorem mix_length (f : UInt8 → UInt8) (k : Nat) (l : List UInt8) : (mix f k l).length = l.length := by
  simp [mix]
  omega
theorem mix_at (f : UInt8 → UInt8) {k : Nat} {l : List UInt8} (h : k < l.length) : (mix f k l)[k]'(by rw [mix_length]; exact h) = l[k] := by
  unfold mix
  rw [List.getElem_append_right (by rw [List.length_map, List.length_take]; omega)]
  simp [Nat.min_eq_left (Nat.le_of_lt h)]
theorem mix_next (f : UInt8 → UInt8) {k : Nat} {l : List UInt8} (h : k < l.length) : mix f (k + 1) l = (mix f k l).set k (f l[k]) := by
  unfold mix
  rw [List.take_succ_eq_append_getElem h, List.map_append, List.set_append_right _ _ (by rw [List.length_map, List.length_take]; omega), List.drop_eq_getElem_cons h, show k - ((l.take k).map f).length = 0 by rw [List.length_map, List.length_take]; omega, List.append_assoc]
  rfl
theorem mix_same (f : UInt8 → UInt8) {k : Nat} {l : List UInt8} (h : k < l.length) (e : f l[k] = l[k]) : mix f (k + 1) l = mix f k l := by
  unfold mix
  rw [List.take_succ_eq_append_getElem h, List.map_append, List.drop_eq_getElem_cons h, List.append_assoc]
  show _ ++ f l[k] :: _ = _
  rw [e]
  rfl

theorem lower_in (c : UInt8) (h1 : 65 ≤ c.toNat) (h2 : c.toNat ≤ 90) : (lower c).toNat = c.toNat + 32 := by
  have h := lower_nat c (by omega)
  rw [show greatZ c.toNat = true by simp [greatZ]; omega] at h
  simp only [if_true] at h
  omega
theorem lower_out (c : UInt8) (h : ¬ (65 ≤ c.toNat ∧ c.toNat ≤ 90)) : lower c = c := by
  unfold lower
  rw [if_neg (by simp [greatZ]; omega)]
theorem upper_in (c : UInt8) (h1 : 97 ≤ c.toNat) (h2 : c.toNat ≤ 122) : (upper c).toNat = c.toNat - 32 := by
  unfold upper
  rw [if_pos (by simp; omega), UInt8.toNat_sub]
  simp
  omega
theorem upper_out (c : UInt8) (h : ¬ (97 ≤ c.toNat ∧ c.toNat ≤ 122)) : upper c = c := by
  unfold upper
  rw [if_neg (by simp; omega)]

end Go.Proofs.YtcjljldknekhiaaGreatDoor.Ad
end

section
/-
  Mailboxes in plain words, further: a local part byte by byte, letters' cases, what is joined.
-/
namespace Go.Proofs.YtcjljldknekhiaaGreatDoor.Ad
set_option linter.unusedVariables false
set_option linter.unusedSimpArgs false

def sgn : List UInt8 := [46, 95, 43, 45]
/-- The byte at k, in a local part. -/
def at0 (l : List UInt8) (k : Nat) : UInt8 := l[k]?.getD 0
def edge (l : List UInt8) (k : Nat) : Bool := decide (k = 0) || (decide (k + 1 = l.length) || (at0 l (k - 1) == 46))
def goodAt (l : List UInt8) (k : Nat) : Bool := !((at0 l k == 46) && edge l k) && (plain (at0 l k) || sgn.contains (at0 l k))

theorem at0_lt {l : List UInt8} {k : Nat} (h : k < l.length) : at0 l k = l[k] := by
  simp [at0, h]

theorem occ_two (l : List UInt8) (j : Nat) : Lib.occAt l [46, 46] j = true ↔ l[j]? = some 46 ∧ l[j + 1]? = some 46 := by
  unfold Lib.occAt
  rw [show l[j]? = (l.drop j)[0]? by simp, show l[j + 1]? = (l.drop j)[1]? by simp]
  match l.drop j with
  | [] => simp
  | [x] => simp [List.isPrefixOf]
  | x :: y :: r =>
    simp [List.isPrefixOf]
    exact ⟨fun h => ⟨h.1.symm, h.2.symm⟩, fun h => ⟨h.1.symm, h.2.symm⟩⟩

theorem contains_two (l : List UInt8) : Lib.contains l [46, 46] = true ↔ ∃ j : Nat, l[j]? = some (46 : UInt8) ∧ l[j + 1]? = some (46 : UInt8) := by
  unfold Lib.contains
  rw [decide_eq_true_eq]
  rcases Lib.index_spec l [46, 46] with ⟨h1, h2⟩ | ⟨i, h1, h2, h3, h4⟩
  · refine ⟨fun h => by omega, ?_⟩
    rintro ⟨j, hj⟩
    have hl : j < l.length := (List.getElem?_eq_some_iff.1 hj.1).1
    have := h2 j (by omega)
    rw [(occ_two l j).2 hj] at this
    cases this
  · refine ⟨fun _ => ⟨i, (occ_two l i).1 h3⟩, fun _ => by omega⟩

theorem loc_good (l : List UInt8) : loc l = true ↔ fits l = true ∧ ∀ k, k < l.length → goodAt l k = true := by
  unfold loc
  simp only [Bool.and_eq_true, Bool.not_eq_true', hasEnd, Bool.or_eq_false_iff, prefix_one, suffix_one]
  constructor
  · rintro ⟨h1, ⟨h2, h3⟩, h4, h5⟩
    refine ⟨h1, fun k hk => ?_⟩
    unfold madeOf at h5
    rw [List.all_eq_true] at h5
    have h6 := h5 l[k] (List.getElem_mem hk)
    unfold goodAt
    rw [Bool.and_eq_true]
    refine ⟨?_, by rw [at0_lt hk]; exact h6⟩
    rw [Bool.not_eq_true', Bool.and_eq_false_iff]
    by_cases he : at0 l k = 46
    · right
      rw [at0_lt hk] at he
      unfold edge
      simp only [Bool.or_eq_false_iff, decide_eq_false_iff_not]
      refine ⟨?_, ?_, ?_⟩
      · rintro rfl
        rw [List.head?_eq_getElem?, List.getElem?_eq_getElem hk, he] at h2
        simp at h2
      · intro e
        rw [List.getLast?_eq_getElem?, show l.length - 1 = k by omega, List.getElem?_eq_getElem hk, he] at h3
        simp at h3
      · rw [beq_eq_false_iff_ne]
        intro e
        by_cases h0 : k = 0
        · subst h0
          rw [List.head?_eq_getElem?, List.getElem?_eq_getElem hk, he] at h2
          simp at h2
        · have hlt : k - 1 < l.length := by omega
          rw [at0_lt hlt] at e
          have : Lib.contains l [46, 46] = true := (contains_two l).2 ⟨k - 1, by rw [List.getElem?_eq_getElem hlt, e], by rw [show k - 1 + 1 = k by omega, List.getElem?_eq_getElem hk, he]⟩
          rw [this] at h4
          cases h4
    · left
      rw [beq_eq_false_iff_ne]
      exact he
  · rintro ⟨h1, h2⟩
    refine ⟨h1, ⟨?_, ?_⟩, ?_, ?_⟩
    · rw [beq_eq_false_iff_ne]
      intro e
      rw [List.head?_eq_getElem?] at e
      obtain ⟨hk, he⟩ := List.getElem?_eq_some_iff.1 e
      have := h2 0 hk
      simp [goodAt, at0_lt hk, he, edge] at this
    · rw [beq_eq_false_iff_ne]
      intro e
      rw [List.getLast?_eq_getElem?] at e
      obtain ⟨hk, he⟩ := List.getElem?_eq_some_iff.1 e
      have := h2 _ hk
      simp [goodAt, at0_lt hk, he, edge] at this
      omega
    · cases hc : Lib.contains l [46, 46] with
      | false => rfl
      | true =>
        obtain ⟨j, hj, hj1⟩ := (contains_two l).1 hc
        obtain ⟨hk, he⟩ := List.getElem?_eq_some_iff.1 hj
        obtain ⟨hk1, he1⟩ := List.getElem?_eq_some_iff.1 hj1
        have := h2 _ hk1
        simp [goodAt, at0_lt hk1, he1, edge, at0_lt hk, he] at this
    · unfold madeOf
      rw [List.all_eq_true]
      intro x hx
      obtain ⟨k, hk, rfl⟩ := List.getElem_of_mem hx
      have := h2 k hk
      unfold goodAt at this
      rw [Bool.and_eq_true, at0_lt hk] at this
      exact this.2
theorem loc_false {l : List UInt8} {k : Nat} (hk : k < l.length) (h : goodAt l k = false) : loc l = false := by
  cases hl : loc l with
  | false => rfl
  | true => exact absurd (((loc_good l).1 hl).2 k hk) (by rw [h]; decide)
theorem loc_all {l : List UInt8} (h : ∀ k, k < l.length → goodAt l k = true) : loc l = fits l := by
  cases hf : fits l with
  | true => exact (loc_good l).2 ⟨hf, h⟩
  | false =>
    unfold loc
    rw [hf, Bool.false_and]

/-! ### A label, byte by byte -/
def okLab (c : UInt8) : Bool := plain c || (c == 45)
theorem okLab_eq (c : UInt8) : (plain c || ([45] : List UInt8).contains c) = okLab c := by
  unfold okLab
  rw [List.contains_cons, List.contains_nil, Bool.or_false]
theorem label_eq (l : List UInt8) : label l = (fits l && ((!(at0 l 0 == 45) && !(at0 l (l.length - 1) == 45)) && l.all okLab)) := by
  unfold label madeOf hasEnd
  rw [prefix_one, suffix_one]
  have e : (fun c => plain c || ([45] : List UInt8).contains c) = okLab := funext okLab_eq
  rw [e]
  match l with
  | [] => rfl
  | x :: r =>
    have h1 : ((x :: r).head? == some 45) = (at0 (x :: r) 0 == 45) := by simp [at0]
    have h2 : ((x :: r).getLast? == some 45) = (at0 (x :: r) ((x :: r).length - 1) == 45) := by
      rw [List.getLast?_eq_getElem?, List.getElem?_eq_getElem (by simp), at0_lt (by simp)]
      simp
    rw [h1, h2, Bool.not_or]

/-! ### Letters' cases -/
structure Tame (f : UInt8 → UInt8) : Prop where
  plain : ∀ c, plain (f c) = plain c
  same : ∀ c, Ad.plain c = false → f c = c
theorem Tame.eq {f : UInt8 → UInt8} (h : Tame f) {s : UInt8} (hs : Ad.plain s = false) (c : UInt8) : f c = s ↔ c = s := by
  cases hc : Ad.plain c with
  | false => rw [h.same c hc]
  | true =>
    have := h.plain c
    rw [hc] at this
    constructor
    · rintro rfl
      rw [hs] at this
      cases this
    · rintro rfl
      rw [hs] at hc
      cases hc
theorem Tame.beq {f : UInt8 → UInt8} (h : Tame f) {s : UInt8} (hs : Ad.plain s = false) (c : UInt8) : (f c == s) = (c == s) := by
  have := h.eq hs c
  cases e : (c == s) with
  | true => rw [beq_iff_eq] at e ⊢; exact this.2 e
  | false => rw [beq_eq_false_iff_ne] at e ⊢; exact fun e2 => e (this.1 e2)
theorem tame_lower : Tame lower where
  plain c := by
    unfold lower
    split
    · rename_i h
      simp [greatZ] at h
      have : (c + 32).toNat = c.toNat + 32 := by rw [UInt8.toNat_add]; simp; omega
      unfold Ad.plain
      rw [this]
      rw [show plainZ ((c.toNat + 32 : Nat) : Int) = true by simp [plainZ]; omega, show plainZ (c.toNat : Int) = true by simp [plainZ]; omega]
    · rfl
  same c h := by
    unfold lower
    rw [if_neg]
    intro hg
    simp [greatZ] at hg
    simp [Ad.plain, plainZ] at h
    omega
theorem tame_upper : Tame upper where
  plain c := by
    unfold upper
    split
    · rename_i h
      simp at h
      have : (c - 32).toNat = c.toNat - 32 := by rw [UInt8.toNat_sub]; simp; omega
      unfold Ad.plain
      rw [this]
      rw [show plainZ ((c.toNat - 32 : Nat) : Int) = true by simp [plainZ]; omega, show plainZ (c.toNat : Int) = true by simp [plainZ]; omega]
    · rfl
  same c h := by
    unfold upper
    rw [if_neg]
    intro hg
    simp at hg
    simp [Ad.plain, plainZ] at h
    omega
theorem lower_lower (c : UInt8) : lower (lower c) = lower c := by
  by_cases h : greatZ c.toNat = true
  · have e : lower c = c + 32 := by unfold lower; rw [if_pos h]
    rw [e]
    unfold lower
    rw [if_neg]
    intro h2
    simp [greatZ] at h h2
    have : (c + 32).toNat = c.toNat + 32 := by rw [UInt8.toNat_add]; simp; omega
    omega
  · have e : lower c = c := by unfold lower; rw [if_neg h]
    rw [e, e]
theorem lower_upper (c : UInt8) : lower (upper c) = lower c := by
  by_cases h : 97 ≤ c.toNat ∧ c.toNat ≤ 122
  · have e : upper c = c - 32 := by unfold upper; rw [if_pos (decide_eq_true h)]
    have e2 : (c - 32).toNat = c.toNat - 32 := by rw [UInt8.toNat_sub]; simp; omega
    have e3 : lower c = c := by unfold lower; rw [if_neg (by simp [greatZ]; omega)]
    rw [e, e3]
    unfold lower
    rw [if_pos (by rw [e2]; simp [greatZ]; omega)]
    apply UInt8.toNat_inj.1
    rw [UInt8.toNat_add, e2]
    simp
    omega
  · have e : upper c = c := by unfold upper; rw [if_neg (by simpa using h)]
    rw [e]
theorem small_small (l : List UInt8) : small (small l) = small l := by
  simp [small, lower_lower]
theorem small_great (l : List UInt8) : small (great l) = small l := by
  simp [small, great, lower_upper]

theorem Tame.head {f : UInt8 → UInt8} (h : Tame f) {s : UInt8} (hs : Ad.plain s = false) (l : List UInt8) : ((l.map f).head? == some s) = (l.head? == some s) := by
  cases l with
  | nil => rfl
  | cons x r => simpa using h.beq hs x
theorem Tame.last {f : UInt8 → UInt8} (h : Tame f) {s : UInt8} (hs : Ad.plain s = false) (l : List UInt8) : ((l.map f).getLast? == some s) = (l.getLast? == some s) := by
  rw [← List.head?_reverse, ← List.head?_reverse, ← List.map_reverse]
  exact h.head hs _
theorem Tame.made {f : UInt8 → UInt8} (h : Tame f) {g : List UInt8} (hg : ∀ s ∈ g, Ad.plain s = false) (l : List UInt8) : madeOf g (l.map f) = madeOf g l := by
  unfold madeOf
  rw [List.all_map]
  congr 1
  funext c
  simp only [Function.comp]
  cases hc : Ad.plain c with
  | true => rw [h.plain, hc, Bool.true_or, Bool.true_or]
  | false => rw [h.same c hc, hc]
theorem Tame.label {f : UInt8 → UInt8} (h : Tame f) (l : List UInt8) : label (l.map f) = label l := by
  unfold Ad.label hasEnd
  rw [prefix_one, prefix_one, suffix_one, suffix_one, h.head (by decide), h.last (by decide), h.made (by decide)]
  simp [fits]
theorem Tame.cuts {f : UInt8 → UInt8} (h : Tame f) {s : UInt8} (hs : Ad.plain s = false) : ∀ l : List UInt8, cuts s (l.map f) = (cuts s l).map (·.map f)
  | [] => rfl
  | x :: r => by
    have ih := Tame.cuts h hs r
    have hx := h.eq hs x
    rw [List.map_cons]
    unfold Ad.cuts
    by_cases e : x = s
    · rw [if_pos (hx.2 e), if_pos e, ih]
      rfl
    · rw [if_neg (fun e2 => e (hx.1 e2)), if_neg e, ih]
      obtain ⟨q, t, e3⟩ := List.exists_cons_of_ne_nil (cuts_ne s r)
      rw [e3]
      rfl
theorem Tame.domain {f : UInt8 → UInt8} (h : Tame f) (l : List UInt8) : domain (l.map f) = domain l := by
  unfold Ad.domain
  rw [h.cuts (by decide), List.all_map, List.length_map]
  congr 2
  funext p
  exact h.label p
theorem Tame.at0 {f : UInt8 → UInt8} (h : Tame f) (l : List UInt8) (k : Nat) : Ad.at0 (l.map f) k = f (Ad.at0 l k) := by
  unfold Ad.at0
  rw [List.getElem?_map]
  cases l[k]? with
  | none => exact (h.same 0 (by decide)).symm
  | some c => rfl
theorem Tame.good {f : UInt8 → UInt8} (h : Tame f) (l : List UInt8) (k : Nat) : goodAt (l.map f) k = goodAt l k := by
  unfold goodAt edge
  rw [h.at0, h.at0, h.beq (by decide), h.beq (by decide), List.length_map]
  congr 1
  cases hc : Ad.plain (Ad.at0 l k) with
  | true => rw [h.plain, hc, Bool.true_or, Bool.true_or]
  | false => rw [h.same _ hc, hc]
theorem Tame.loc {f : UInt8 → UInt8} (h : Tame f) (l : List UInt8) : loc (l.map f) = loc l := by
  have e : Ad.loc (l.map f) = true ↔ Ad.loc l = true := by
    rw [loc_good, loc_good]
    simp only [List.length_map, h.good]
    simp [fits]
  cases hl : Ad.loc l with
  | true => exact e.2 hl
  | false => exact Bool.eq_false_iff.2 fun h2 => by rw [e.1 h2] at hl; cases hl

/-! ### A mailbox out of its parts -/
theorem loc_at {l : List UInt8} (h : loc l = true) : (64 : UInt8) ∉ l := by
  intro hm
  obtain ⟨k, hk, e⟩ := List.getElem_of_mem hm
  have := ((loc_good l).1 h).2 k hk
  simp only [goodAt, at0_lt hk, e, Bool.and_eq_true] at this
  exact absurd this.2 (by decide)
theorem parts_join {a b : List UInt8} (h : (64 : UInt8) ∉ a) : ahead (a ++ 64 :: b) = a ∧ behind (a ++ 64 :: b) = b ∧ (a ++ 64 :: b).contains 64 = true := by
  have hlt : a.length < (a ++ 64 :: b).length := by simp
  have e1 : (a ++ 64 :: b)[a.length]'hlt = (64 : UInt8) := by simp
  have e2 : (a ++ 64 :: b).take a.length = a := by simp
  have e3 : (a ++ 64 :: b).drop (a.length + 1) = b := by
    rw [List.drop_append]
    simp
  have := ahead_hit hlt e1 (by rw [e2]; exact h)
  rw [e2, e3] at this
  exact this
theorem isBox_join {a b : List UInt8} (ha : loc a = true) : isBox (a ++ 64 :: b) = (decide (a.length + 1 + b.length ≤ 64) && domain b) := by
  obtain ⟨e1, e2, e3⟩ := parts_join (b := b) (loc_at ha)
  unfold isBox
  rw [e1, e2, e3, ha]
  simp only [Bool.true_and, List.length_append, List.length_cons]
  congr 2
  exact propext ⟨fun h => by omega, fun h => by omega⟩
theorem box_parts {l : List UInt8} (h : isBox l = true) : loc (ahead l) = true ∧ domain (behind l) = true ∧ (ahead l).length + 1 + (behind l).length = l.length ∧ l.length ≤ 64 := by
  simp only [isBox, Bool.and_eq_true, decide_eq_true_eq] at h
  obtain ⟨h1, h2, h3, h4⟩ := h
  refine ⟨h3, h4, ?_, h1⟩
  rcases indexByte_cases 64 l with ⟨_, h5⟩ | ⟨i, _, h5, h6, h7⟩
  · rw [List.contains_iff_mem] at h2
    exact absurd h2 h5
  · obtain ⟨e1, e2, _⟩ := ahead_hit h5 h6 h7
    rw [e1, e2, List.length_take, List.length_drop]
    omega
/-- What is parsed is parsed to itself. -/
theorem parse_fixed {l : List UInt8} (h : isBox l = true) : isBox (parseM l) = true ∧ parseM (parseM l) = parseM l ∧ splitM (parseM l) = (ahead l, small (behind l)) ∧ parseM l = ahead l ++ 64 :: small (behind l) ∧ domain (small (behind l)) = true ∧ (parseM l).length ≤ 64 := by
  obtain ⟨h1, h2, h3, h4⟩ := box_parts h
  have e : parseM l = ahead l ++ 64 :: small (behind l) := by rw [parseM, h]; rfl
  have hd : domain (small (behind l)) = true := by
    unfold small
    rw [tame_lower.domain]
    exact h2
  have hl : (small (behind l)).length = (behind l).length := by simp [small]
  have hb : isBox (ahead l ++ 64 :: small (behind l)) = true := by
    rw [isBox_join h1, hd, hl, decide_eq_true (by omega)]
    rfl
  obtain ⟨p1, p2, _⟩ := parts_join (b := small (behind l)) (loc_at h1)
  rw [e]
  refine ⟨hb, ?_, ?_, rfl, hd, ?_⟩
  · rw [parseM, hb, p1, p2, small_small]
    rfl
  · rw [splitM, hb, p1, p2, small_small]
    rfl
  · simp only [List.length_append, List.length_cons, hl]
    omega
/-- A mailbox of a local part and a domain, in whatever cases. -/
theorem parse_join {a b : List UInt8} (ha : loc a = true) (hb : domain b = true) (hl : a.length + 1 + b.length ≤ 64) : isBox (a ++ 64 :: b) = true ∧ parseM (a ++ 64 :: b) = a ++ 64 :: small b := by
  have hbx : isBox (a ++ 64 :: b) = true := by
    rw [isBox_join ha, hb, decide_eq_true hl]
    rfl
  obtain ⟨p1, p2, _⟩ := parts_join (b := b) (loc_at ha)
  refine ⟨hbx, ?_⟩
  rw [parseM, hbx, p1, p2]
  rfl

/-! ### Domains joined -/
theorem cuts_join (c : UInt8) : ∀ a b : List UInt8, cuts c (a ++ c :: b) = cuts c a ++ cuts c b
  | [], b => by
    show cuts c (c :: b) = [] :: cuts c b
    rw [cuts, if_pos rfl]
  | x :: a, b => by
    have ih := cuts_join c a b
    show cuts c (x :: (a ++ c :: b)) = _
    rw [cuts, cuts, ih]
    by_cases e : x = c
    · rw [if_pos e, if_pos e]
      rfl
    · rw [if_neg e, if_neg e]
      obtain ⟨q, t, e3⟩ := List.exists_cons_of_ne_nil (cuts_ne c a)
      rw [e3]
      rfl
theorem domain_point (a : List UInt8) : domain (a ++ [46]) = false := by
  unfold domain
  rw [cuts_join, List.all_append, show (cuts 46 []).all label = false by decide, Bool.and_false, Bool.and_false]
theorem point_domain (a : List UInt8) : domain (46 :: a) = false := by
  unfold domain
  rw [show (46 : UInt8) :: a = [] ++ 46 :: a from rfl, cuts_join, List.all_append, show (cuts 46 []).all label = false by decide, Bool.false_and, Bool.and_false]
theorem domain_nil : domain [] = false := by decide
end Go.Proofs.YtcjljldknekhiaaGreatDoor.Ad
end

section
/-
  Commands in plain words: names, keys, options, sizes, over lists of bytes.
-/
namespace Go.Proofs.YtcjljldknekhiaaGreatDoor.Ad
set_option linter.unusedVariables false

/-- Ahead of the first of a sign, and behind it. -/
def ahd (c : UInt8) (l : List UInt8) : List UInt8 := l.takeWhile (· != c)
def bhd (c : UInt8) (l : List UInt8) : List UInt8 := l.drop ((ahd c l).length + 1)
theorem ahd_nil (c : UInt8) : ahd c [] = [] := rfl
theorem ahd_same (c : UInt8) (r : List UInt8) : ahd c (c :: r) = [] := by simp [ahd]
theorem bhd_same (c : UInt8) (r : List UInt8) : bhd c (c :: r) = r := by simp [bhd, ahd_same]
theorem ahd_cons {c x : UInt8} (h : x ≠ c) (r : List UInt8) : ahd c (x :: r) = x :: ahd c r := by
  have hx : (x != c) = true := by simpa using h
  rw [ahd, List.takeWhile_cons, hx, if_pos rfl]
  rfl
theorem bhd_cons {c x : UInt8} (h : x ≠ c) (r : List UInt8) : bhd c (x :: r) = bhd c r := by
  rw [bhd, ahd_cons h]
  rfl
theorem contains_cons {c x : UInt8} (h : x ≠ c) (r : List UInt8) : (x :: r).contains c = r.contains c := by
  have : (c == x) = false := by simpa using fun e => h e.symm
  rw [List.contains_cons, this, Bool.false_or]
theorem ahd_append (c : UInt8) : ∀ {a : List UInt8} (b : List UInt8), c ∉ a → ahd c (a ++ b) = a ++ ahd c b ∧ bhd c (a ++ b) = bhd c b ∧ (a ++ b).contains c = b.contains c
  | [], b, _ => ⟨rfl, rfl, rfl⟩
  | x :: a, b, h => by
    simp only [List.mem_cons, not_or] at h
    have hx : x ≠ c := fun e => h.1 e.symm
    obtain ⟨h1, h2, h3⟩ := ahd_append c b h.2
    rw [List.cons_append, ahd_cons hx, bhd_cons hx, contains_cons hx, h1, h2, h3]
    exact ⟨rfl, rfl, rfl⟩
theorem ahd_at (c : UInt8) {a : List UInt8} (b : List UInt8) (h : c ∉ a) : ahd c (a ++ c :: b) = a ∧ bhd c (a ++ c :: b) = b ∧ (a ++ c :: b).contains c = true := by
  obtain ⟨h1, h2, h3⟩ := ahd_append c (c :: b) h
  rw [h1, h2, h3, ahd_same, bhd_same]
  simp
theorem ahd_miss (c : UInt8) {a : List UInt8} (h : c ∉ a) : ahd c a = a ∧ bhd c a = [] ∧ a.contains c = false := by
  obtain ⟨h1, h2, h3⟩ := ahd_append c [] h
  rw [List.append_nil] at h1 h2 h3
  rw [h1, h2, h3, ahd_nil]
  simp [bhd]
theorem not_mem_ahd (c : UInt8) : ∀ l : List UInt8, c ∉ ahd c l
  | [] => by simp [ahd]
  | x :: r => by
    by_cases h : x = c
    · subst h; rw [ahd_same]; simp
    · rw [ahd_cons h]
      simp only [List.mem_cons, not_or]
      exact ⟨fun e => h e.symm, not_mem_ahd c r⟩
theorem split_ahd (c : UInt8) (l : List UInt8) : (l.contains c = true ∧ l = ahd c l ++ c :: bhd c l) ∨ (l.contains c = false ∧ c ∉ l ∧ l = ahd c l ∧ bhd c l = []) := by
  induction l with
  | nil => exact .inr ⟨rfl, by simp, rfl, rfl⟩
  | cons x r ih =>
    by_cases h : x = c
    · subst h
      exact .inl ⟨by simp, by rw [ahd_same, bhd_same]; rfl⟩
    · rw [ahd_cons h, bhd_cons h, contains_cons h]
      rcases ih with ⟨h1, h2⟩ | ⟨h1, h2, h3, h4⟩
      · exact .inl ⟨h1, by rw [List.cons_append, ← h2]⟩
      · exact .inr ⟨h1, by simp only [List.mem_cons, not_or]; exact ⟨fun e => h e.symm, h2⟩, by rw [← h3], h4⟩
theorem ahd_len (c : UInt8) (l : List UInt8) : (ahd c l).length ≤ l.length := (List.takeWhile_sublist _).length_le
theorem bhd_len (c : UInt8) (l : List UInt8) : (bhd c l).length ≤ l.length := by rw [bhd, List.length_drop]; omega
theorem cut_ahd (c : UInt8) (l : List UInt8) : Lib.cut l [c] = (ahd c l, bhd c l, l.contains c) := by
  rcases indexByte_cases c l with ⟨h1, h2⟩ | ⟨i, h1, h2, h3, h4⟩
  · obtain ⟨e1, e2, e3⟩ := ahd_miss c h2
    rw [Lib.cut, Lib.index_one, h1, e1, e2, e3]
    rfl
  · have hl : l = l.take i ++ c :: l.drop (i + 1) := by
      rw [← h3, ← List.drop_eq_getElem_cons h2, List.take_append_drop]
    obtain ⟨e1, e2, e3⟩ := ahd_at c (l.drop (i + 1)) h4
    rw [← hl] at e1 e2 e3
    rw [Lib.cut, Lib.index_one, h1, if_pos (by omega), e1, e2, e3]
    rfl
theorem cuts_ahd (c : UInt8) (l : List UInt8) : cuts c l = ahd c l :: (if l.contains c then cuts c (bhd c l) else []) := by
  rcases split_ahd c l with ⟨h1, h2⟩ | ⟨h1, h2, h3, h4⟩
  · have := cuts_join c (ahd c l) (bhd c l)
    rw [← h2, cuts_miss c (not_mem_ahd c l)] at this
    rw [this, h1]
    rfl
  · rw [cuts_miss c h2, h1, ← h3]
    rfl

/-! ### Letters' case -/
theorem great_length (l : List UInt8) : (great l).length = l.length := by simp [great]
theorem great_append (a b : List UInt8) : great (a ++ b) = great a ++ great b := by simp [great]
theorem upper_blank (c : UInt8) : upper c = 32 ↔ c = 32 := tame_upper.eq (by decide) c
theorem great_blank (l : List UInt8) : (32 : UInt8) ∈ great l ↔ (32 : UInt8) ∈ l := by
  rw [great, List.mem_map]
  constructor
  · rintro ⟨c, hc, e⟩
    rw [upper_blank] at e
    exact e ▸ hc
  · intro h
    exact ⟨32, h, (upper_blank 32).2 rfl⟩

/-! ### Keys -/
def keyed (key l : List UInt8) : Bool := decide (key.length ≤ l.length) && (great (l.take key.length) == key)
theorem keyed_len {key l : List UInt8} (h : keyed key l = true) : key.length ≤ l.length := by
  simp only [keyed, Bool.and_eq_true, decide_eq_true_eq] at h
  exact h.1
theorem keyed_great {key l : List UInt8} (h : keyed key l = true) : great (l.take key.length) = key := by
  simp only [keyed, Bool.and_eq_true, beq_iff_eq] at h
  exact h.2
theorem keyed_append {key k : List UInt8} (h : great k = key) (b : List UInt8) : keyed key (k ++ b) = true ∧ (k ++ b).drop key.length = b := by
  have hl : key.length = k.length := by rw [← h, great_length]
  constructor
  · rw [keyed, hl, List.take_left, h]
    simp
  · rw [hl, List.drop_left]
theorem keyed_word {key : List UInt8} (hk : (32 : UInt8) ∉ key) (l : List UInt8) : keyed key (ahd 32 l) = keyed key l := by
  cases h : keyed key l with
  | true =>
    have h1 := keyed_great h
    have hn : (32 : UInt8) ∉ l.take key.length := fun hm => hk (by rw [← h1]; exact (great_blank _).2 hm)
    have := (ahd_append 32 (l.drop key.length) hn).1
    rw [List.take_append_drop] at this
    rw [this]
    have hl := keyed_len h
    refine (keyed_append ?_ _).1
    exact h1
  | false =>
    cases h' : keyed key (ahd 32 l) with
    | false => rfl
    | true =>
      exfalso
      have hle := keyed_len h'
      have hp : (ahd 32 l) <+: l := List.takeWhile_prefix _
      obtain ⟨t, ht⟩ := hp
      have := keyed_great h'
      rw [← ht, keyed, List.take_append_of_le_length hle, this] at h
      simp at h
      omega
theorem keyed_parts {key l : List UInt8} (hk : (32 : UInt8) ∉ key) (h : keyed key l = true) :
    (ahd 32 l).drop key.length = ahd 32 (l.drop key.length) ∧ bhd 32 l = bhd 32 (l.drop key.length) ∧ l.contains 32 = (l.drop key.length).contains 32 := by
  have h1 := keyed_great h
  have hl := keyed_len h
  have hn : (32 : UInt8) ∉ l.take key.length := fun hm => hk (by rw [← h1]; exact (great_blank _).2 hm)
  obtain ⟨e1, e2, e3⟩ := ahd_append 32 (l.drop key.length) hn
  rw [List.take_append_drop] at e1 e2 e3
  refine ⟨?_, e2, e3⟩
  rw [e1, List.drop_append, List.drop_eq_nil_of_le (by simp; omega)]
  simp [Nat.min_eq_left hl]

/-! ### Numbers -/
def isDig (c : UInt8) : Bool := decide (48 ≤ c.toNat ∧ c.toNat ≤ 57)
def isNum (l : List UInt8) : Bool := decide (1 ≤ l.length) && (decide (l.length ≤ 9) && l.all isDig)
def numFrom (n : Nat) : List UInt8 → Nat
  | [] => n
  | c :: r => numFrom (n * 10 + (c.toNat - 48)) r
def num (l : List UInt8) : Nat := numFrom 0 l
theorem numFrom_append (n : Nat) : ∀ a b : List UInt8, numFrom n (a ++ b) = numFrom (numFrom n a) b
  | [], b => rfl
  | x :: a, b => by
    rw [List.cons_append]
    exact numFrom_append _ a b
theorem numFrom_le : ∀ (l : List UInt8) (n : Nat), l.all isDig = true → numFrom n l + 1 ≤ (n + 1) * 10 ^ l.length
  | [], n, _ => by
    show n + 1 ≤ (n + 1) * 1
    omega
  | c :: r, n, h => by
    simp only [List.all_cons, Bool.and_eq_true, isDig, decide_eq_true_eq] at h
    have h1 := numFrom_le r (n * 10 + (c.toNat - 48)) h.2
    have h2 : (n * 10 + (c.toNat - 48) + 1) * 10 ^ r.length ≤ (n + 1) * 10 * 10 ^ r.length := Nat.mul_le_mul_right _ (by omega)
    rw [Nat.mul_assoc, ← Nat.pow_succ'] at h2
    exact Nat.le_trans h1 h2
theorem num_lt {l : List UInt8} (h : isNum l = true) : num l < 1000000000 := by
  simp only [isNum, Bool.and_eq_true, decide_eq_true_eq] at h
  have h1 := numFrom_le l 0 h.2.2
  have h2 : 10 ^ l.length ≤ 1000000000 := Nat.le_trans (Nat.pow_le_pow_right (by decide) h.2.1) (by decide)
  rw [num]
  omega
theorem digit_val {c : UInt8} (h : isDig c = true) : Lib.digitVal c = some (c.toNat - 48) := by
  simp only [isDig, decide_eq_true_eq] at h
  unfold Lib.digitVal
  simp
  omega
theorem decFrom_num : ∀ (l : List UInt8) (n : Nat), l.all isDig = true → Lib.decFrom n l = some (numFrom n l)
  | [], n, _ => rfl
  | c :: r, n, h => by
    simp only [List.all_cons, Bool.and_eq_true] at h
    unfold Lib.decFrom
    rw [digit_val h.1]
    exact decFrom_num r _ h.2
theorem atoi_num {l : List UInt8} (h : isNum l = true) : Lib.atoi l = some (num l : Int) := by
  have h' := h
  simp only [isNum, Bool.and_eq_true, decide_eq_true_eq] at h'
  match l, h'.1, h'.2.2 with
  | b :: r, _, h3 =>
    have hb : isDig b = true := by
      simp only [List.all_cons, Bool.and_eq_true] at h3
      exact h3.1
    simp only [isDig, decide_eq_true_eq] at hb
    have e1 : (b == 45) = false := by
      rw [beq_eq_false_iff_ne]
      rintro rfl
      revert hb
      decide
    have e2 : (b == 43) = false := by
      rw [beq_eq_false_iff_ne]
      rintro rfl
      revert hb
      decide
    show (if (b == 45) = true then _ else if (b == 43) = true then _ else Option.map (fun (m : Nat) => (m : Int)) (Lib.decNat (b :: r))) = _
    rw [e1, e2]
    simp only [Bool.false_eq_true, if_false, Lib.decNat, List.isEmpty_cons]
    rw [decFrom_num _ _ h3]
    rfl

/-! ### Options -/
def kFrom : List UInt8 := [70, 82, 79, 77, 58]
def kTo : List UInt8 := [84, 79, 58]
def kSize : List UInt8 := [83, 73, 90, 69, 61]
def sizeGo (size code : Int) : List (List UInt8) → Int × Int
  | [] => if code = 0 then (size, 0) else (0, code)
  | o :: r => if keyed kSize o then (if size = -1 ∧ isNum (o.drop 5) = true then sizeGo (num (o.drop 5)) code r else (0, 501)) else sizeGo size 555 r
def sizeM (l : List UInt8) : Int × Int := sizeGo (-1) 0 (cuts 32 l)

/-! ### Commands -/
structure Out where
  arg : List UInt8
  size : Int
  code : Int
def bad (c : Int) : Out := ⟨[], 0, c⟩
def helloM (r : List UInt8) : Out := if domain r then ⟨small r, -1, 0⟩ else bad 501
def aloneM (b : Bool) : Out := if b then bad 501 else ⟨[], -1, 0⟩
def vrfyM (r : List UInt8) : Out := if r = [] then bad 501 else ⟨[], -1, 0⟩
def noopM : Out := ⟨[], -1, 0⟩
/-- What stands behind a key up to the next blank. -/
def wordM (key r : List UInt8) : List UInt8 := (ahd 32 r).drop key.length
def pathOk (key r : List UInt8) : Bool := keyed key (ahd 32 r) && isPath (wordM key r)
def mailM (r : List UInt8) : Out :=
  if pathOk kFrom r then
    (if r.contains 32 then (if (sizeM (bhd 32 r)).2 = 0 then ⟨pathM (wordM kFrom r), (sizeM (bhd 32 r)).1, 0⟩ else bad (sizeM (bhd 32 r)).2) else ⟨pathM (wordM kFrom r), -1, 0⟩)
  else bad 501
def rcptM (r : List UInt8) : Out :=
  if pathOk kTo r && !(pathM (wordM kTo r)).isEmpty then (if r.contains 32 then bad 555 else ⟨pathM (wordM kTo r), -1, 0⟩) else bad 501

def nHelo : List UInt8 := [72, 69, 76, 79]
def nEhlo : List UInt8 := [69, 72, 76, 79]
def nMail : List UInt8 := [77, 65, 73, 76]
def nRcpt : List UInt8 := [82, 67, 80, 84]
def nData : List UInt8 := [68, 65, 84, 65]
def nRset : List UInt8 := [82, 83, 69, 84]
def nQuit : List UInt8 := [81, 85, 73, 84]
def nNoop : List UInt8 := [78, 79, 79, 80]
def nVrfy : List UInt8 := [86, 82, 70, 89]
/-- Which of the nine. -/
inductive Kind where
  | hello | mail | rcpt | alone | noop | vrfy
def kind (n : List UInt8) : Option Kind :=
  if n = nHelo then some .hello else if n = nEhlo then some .hello else if n = nMail then some .mail else if n = nRcpt then some .rcpt
  else if n = nData then some .alone else if n = nRset then some .alone else if n = nQuit then some .alone else if n = nNoop then some .noop
  else if n = nVrfy then some .vrfy else none
def outM : Kind → List UInt8 → Bool → Out
  | .hello, r, _ => helloM r
  | .mail, r, _ => mailM r
  | .rcpt, r, _ => rcptM r
  | .alone, _, b => aloneM b
  | .noop, _, _ => noopM
  | .vrfy, r, _ => vrfyM r
/-- A command's name, argument, size; and a code. -/
structure Cmd where
  name : List UInt8
  arg : List UInt8
  size : Int
  code : Int
def noCmd (c : Int) : Cmd := ⟨[], [], 0, c⟩
def cmdOf (n : List UInt8) (o : Out) : Cmd := if o.code = 0 then ⟨n, o.arg, o.size, 0⟩ else noCmd o.code
def verbN (n r : List UInt8) (b : Bool) : Cmd :=
  match kind n with
  | none => noCmd 500
  | some k => cmdOf n (outM k r b)
def verbM (l : List UInt8) : Cmd := verbN (great (ahd 32 l)) (bhd 32 l) (l.contains 32)

/-! ### No code of a known name is 500 -/
theorem sizeGo_code : ∀ (L : List (List UInt8)) (s c : Int), (c = 0 ∨ c = 555) → ((sizeGo s c L).2 = 0 ∨ (sizeGo s c L).2 = 501 ∨ (sizeGo s c L).2 = 555)
  | [], s, c, h => by
    unfold sizeGo
    rcases h with rfl | rfl <;> simp
  | o :: r, s, c, h => by
    unfold sizeGo
    split
    · split
      · exact sizeGo_code r _ _ h
      · simp
    · exact sizeGo_code r _ _ (.inr rfl)
theorem sizeM_code (l : List UInt8) : (sizeM l).2 ≠ 500 := by
  rcases sizeGo_code (cuts 32 l) (-1) 0 (.inl rfl) with h | h | h <;> (rw [sizeM, h]; decide)
theorem outM_code (k : Kind) (r : List UInt8) (b : Bool) : (outM k r b).code ≠ 500 := by
  cases k with
  | hello => simp only [outM, helloM]; split <;> simp [bad]
  | mail =>
    have := sizeM_code (bhd 32 r)
    simp only [outM, mailM]
    split
    · split
      · split
        · simp
        · simpa [bad] using this
      · simp
    · simp [bad]
  | rcpt => simp only [outM, rcptM]; (split <;> (try split)) <;> simp [bad]
  | alone => simp only [outM, aloneM]; split <;> simp [bad]
  | noop => simp [outM, noopM]
  | vrfy => simp only [outM, vrfyM]; split <;> simp [bad]
theorem cmdOf_code (n : List UInt8) (o : Out) : (cmdOf n o).code = o.code := by
  unfold cmdOf
  split
  · rename_i h; exact h.symm
  · rfl
theorem verbN_known {n : List UInt8} {k : Kind} (h : kind n = some k) (r : List UInt8) (b : Bool) : (verbN n r b).code ≠ 500 := by
  unfold verbN
  rw [h]
  show (cmdOf n (outM k r b)).code ≠ 500
  rw [cmdOf_code]
  exact outM_code k r b
theorem verbN_other {n : List UInt8} (h : kind n = none) (r : List UInt8) (b : Bool) : verbN n r b = noCmd 500 := by
  unfold verbN
  rw [h]

/-! ### Cases of letters -/
theorem pathOk_key {key k k' : List UInt8} (hk : (32 : UInt8) ∉ key) (h : great k = key) (h' : great k' = key) (x : List UInt8) :
    pathOk key (k ++ x) = pathOk key (k' ++ x) ∧ wordM key (k ++ x) = wordM key (k' ++ x) ∧ (k ++ x).contains 32 = (k' ++ x).contains 32 ∧ bhd 32 (k ++ x) = bhd 32 (k' ++ x) := by
  have n1 : (32 : UInt8) ∉ k := fun hm => hk (h ▸ (great_blank k).2 hm)
  have n2 : (32 : UInt8) ∉ k' := fun hm => hk (h' ▸ (great_blank k').2 hm)
  obtain ⟨a1, a2, a3⟩ := ahd_append 32 x n1
  obtain ⟨b1, b2, b3⟩ := ahd_append 32 x n2
  rw [pathOk, pathOk, wordM, wordM, a1, a2, a3, b1, b2, b3, (keyed_append h _).1, (keyed_append h' _).1, (keyed_append h _).2, (keyed_append h' _).2]
  exact ⟨rfl, rfl, rfl, rfl⟩
theorem outM_key {k : Kind} {key a a' : List UInt8} (hk : (k = .mail ∧ key = kFrom) ∨ (k = .rcpt ∧ key = kTo) ∨ (a = [] ∧ a' = [])) (h : great a = key) (h' : great a' = key) (x : List UInt8) (b : Bool) : outM k (a ++ x) b = outM k (a' ++ x) b := by
  rcases hk with ⟨rfl, rfl⟩ | ⟨rfl, rfl⟩ | ⟨rfl, rfl⟩
  · obtain ⟨e1, e2, e3, e4⟩ := pathOk_key (key := kFrom) (by decide) h h' x
    show mailM _ = mailM _
    rw [mailM, mailM, e1, e2, e3, e4]
  · obtain ⟨e1, e2, e3, e4⟩ := pathOk_key (key := kTo) (by decide) h h' x
    show rcptM _ = rcptM _
    rw [rcptM, rcptM, e1, e2, e3]
  · rfl
/-- A name, then a blank and a key or not: in any case of letters the same. -/
theorem verbM_blank {n n' a a' key : List UInt8} {k : Kind} (hn : great n' = great n) (hb : (32 : UInt8) ∉ n) (hk : kind (great n) = some k) (hkey : (k = .mail ∧ key = kFrom) ∨ (k = .rcpt ∧ key = kTo) ∨ (a = [] ∧ a' = [])) (h : great a = key) (h' : great a' = key) (x : List UInt8) :
    verbM (n ++ 32 :: (a ++ x)) = verbM (n' ++ 32 :: (a' ++ x)) := by
  have hb' : (32 : UInt8) ∉ n' := fun hm => hb ((great_blank n).1 (hn ▸ (great_blank n').2 hm))
  obtain ⟨a1, a2, a3⟩ := ahd_at 32 (a ++ x) hb
  obtain ⟨b1, b2, b3⟩ := ahd_at 32 (a' ++ x) hb'
  rw [verbM, verbM, a1, a2, a3, b1, b2, b3, hn, verbN, verbN, hk]
  show cmdOf _ (outM k (a ++ x) true) = cmdOf _ (outM k (a' ++ x) true)
  rw [outM_key hkey h h' x]
theorem verbM_bare {n n' : List UInt8} (hn : great n' = great n) (hb : (32 : UInt8) ∉ n) (x : List UInt8) : verbM (n ++ x) = verbM (n' ++ x) := by
  have hb' : (32 : UInt8) ∉ n' := fun hm => hb ((great_blank n).1 (hn ▸ (great_blank n').2 hm))
  obtain ⟨a1, a2, a3⟩ := ahd_append 32 x hb
  obtain ⟨b1, b2, b3⟩ := ahd_append 32 x hb'
  rw [verbM, verbM, a1, a2, a3, b1, b2, b3, great_append, great_append, hn]
end Go.Proofs.YtcjljldknekhiaaGreatDoor.Ad
end

section
/-
  The program's great and small.
-/
namespace Go.Proofs.YtcjljldknekhiaaGreatDoor.Ad
open Go.RowKit
set_option linter.unusedVariables false
set_option linter.unusedSimpArgs false

set_option maxHeartbeats 4000000 in
set_option maxRecDepth 100000 in
theorem vgreat_walk (s : ByteArray) (hs : s.size ≤ 9223372036854775807) (w : World) : Calls Tryz.prog 111 #[.string s] w fun e w' => e = .returned (.string (bs (s.data.toList.map upper))) ∧ Below w.heap.size w w' := by
  obtain ⟨cap, w1, hconv, hrow, hb1⟩ := bytes_some s w
  have hlen := len_size s
  obtain ⟨l, hl⟩ : ∃ l, s.data.toList = l := ⟨_, rfl⟩
  rw [hl] at hrow hlen ⊢
  clear hl
  obtain ⟨n, hn⟩ : ∃ n, s.size = n := ⟨_, rfl⟩
  rw [hn] at hconv hlen hs
  obtain ⟨B, hB⟩ : ∃ B, w.heap.size = B := ⟨_, rfl⟩
  have hBw : B ≤ w.heap.size := by omega
  rw [hB] at hconv hrow hb1 ⊢
  go_enter Tryz.func111, Tryz.ntmps111
  go_wp2
  go_loopw [10] (fun z wr => ∃ k : Nat, k ≤ n ∧ z = .int .i64 (k : Int) ∧ URow wr B (mix upper k l) ∧ Below B w wr) (fun z _ => n - (Lib.intOf z).toNat)
  case atStart => exact ⟨0, by omega, rfl, by simpa [mix] using hrow, hb1⟩
  case round =>
    obtain ⟨k, hk, rfl, hR, hbr⟩ := hrel
    have hml := mix_length upper k l
    by_cases hlt : (k : Int) < (n : Int)
    · have hkl : k < l.length := by omega
      obtain ⟨hc, hf⟩ := hR k (by omega)
      rw [mix_at upper hkl] at hc
      have hput := fun c => hR.put k (by omega) c
      have hnext := mix_next upper hkl
      have hsame := mix_same upper hkl
      have hlt8 := l[k].toNat_lt
      obtain ⟨c, hcq⟩ : ∃ c, l[k] = c := ⟨_, rfl⟩
      rw [hcq] at hc hnext hsame hlt8
      clear hcq
      by_cases h1 : 97 ≤ (c.toNat : Int)
      · by_cases h2 : (c.toNat : Int) ≤ 122
        · have hfc : (upper c).toNat = c.toNat - 32 := upper_in c (by omega) (by omega)
          have hput1 := hput (upper c)
          rw [← hnext] at hput1
          have hv : ((upper c).toNat : Int) = (c.toNat : Int) - 97 + 65 := by omega
          rw [hv] at hput1
          have hbr2 := hbr.setCell (p := ⟨B, k, none⟩) (Nat.le_refl _) (.int .u8 ((c.toNat : Int) - 97 + 65))
          clear hput hnext hsame hR hv hfc
          go_wp2
          go_roundw
          case rel => exact ⟨k + 1, by omega, by simp, hput1, hbr2⟩
          case measure =>
            simp [Lib.intOf]
            omega
        · have hfc : upper c = c := upper_out c (by omega)
          rw [← hsame hfc] at hR
          clear hput hnext hsame
          go_wp2
          go_roundw
          case rel => exact ⟨k + 1, by omega, by simp, hR, hbr⟩
          case measure =>
            simp [Lib.intOf]
            omega
      · have hfc : upper c = c := upper_out c (by omega)
        rw [← hsame hfc] at hR
        clear hput hnext hsame
        go_wp2
        go_roundw
        case rel => exact ⟨k + 1, by omega, by simp, hR, hbr⟩
        case measure =>
          simp [Lib.intOf]
          omega
    · have hkn : k = n := by omega
      have hmx : mix upper k l = l.map upper := by
        unfold mix
        rw [List.take_of_length_le (by omega), List.drop_of_length_le (by omega), List.append_nil]
      rw [hmx] at hR
      have hback := bytes_back wr B cap (l.map upper) hR
      rw [List.length_map, hlen] at hback
      go_wp2
      go_ret
      exact ⟨rfl, hbr⟩

set_option maxHeartbeats 4000000 in
set_option maxRecDepth 100000 in
theorem vsmall_walk (s : ByteArray) (hs : s.size ≤ 9223372036854775807) (w : World) : Calls Tryz.prog 155 #[.string s] w fun e w' => e = .returned (.string (bs (s.data.toList.map lower))) ∧ Below w.heap.size w w' := by
  obtain ⟨cap, w1, hconv, hrow, hb1⟩ := bytes_some s w
  have hlen := len_size s
  obtain ⟨l, hl⟩ : ∃ l, s.data.toList = l := ⟨_, rfl⟩
  rw [hl] at hrow hlen ⊢
  clear hl
  obtain ⟨n, hn⟩ : ∃ n, s.size = n := ⟨_, rfl⟩
  rw [hn] at hconv hlen hs
  obtain ⟨B, hB⟩ : ∃ B, w.heap.size = B := ⟨_, rfl⟩
  have hBw : B ≤ w.heap.size := by omega
  rw [hB] at hconv hrow hb1 ⊢
  go_enter Tryz.func155, Tryz.ntmps155
  go_wp2
  go_loopw [10] (fun z wr => ∃ k : Nat, k ≤ n ∧ z = .int .i64 (k : Int) ∧ URow wr B (mix lower k l) ∧ Below B w wr) (fun z _ => n - (Lib.intOf z).toNat)
  case atStart => exact ⟨0, by omega, rfl, by simpa [mix] using hrow, hb1⟩
  case round =>
    obtain ⟨k, hk, rfl, hR, hbr⟩ := hrel
    have hml := mix_length lower k l
    by_cases hlt : (k : Int) < (n : Int)
    · have hkl : k < l.length := by omega
      obtain ⟨hc, hf⟩ := hR k (by omega)
      rw [mix_at lower hkl] at hc
      have hput := fun c => hR.put k (by omega) c
      have hnext := mix_next lower hkl
      have hsame := mix_same lower hkl
      have hlt8 := l[k].toNat_lt
      obtain ⟨c, hcq⟩ : ∃ c, l[k] = c := ⟨_, rfl⟩
      rw [hcq] at hc hnext hsame hlt8
      clear hcq
      by_cases h1 : 65 ≤ (c.toNat : Int)
      · by_cases h2 : (c.toNat : Int) ≤ 90
        · have hfc : (lower c).toNat = c.toNat + 32 := lower_in c (by omega) (by omega)
          have hput1 := hput (lower c)
          rw [← hnext] at hput1
          have hv : ((lower c).toNat : Int) = (c.toNat : Int) - 65 + 97 := by omega
          rw [hv] at hput1
          have hbr2 := hbr.setCell (p := ⟨B, k, none⟩) (Nat.le_refl _) (.int .u8 ((c.toNat : Int) - 65 + 97))
          clear hput hnext hsame hR hv hfc
          go_wp2
          go_roundw
          case rel => exact ⟨k + 1, by omega, by simp, hput1, hbr2⟩
          case measure =>
            simp [Lib.intOf]
            omega
        · have hfc : lower c = c := lower_out c (by omega)
          rw [← hsame hfc] at hR
          clear hput hnext hsame
          go_wp2
          go_roundw
          case rel => exact ⟨k + 1, by omega, by simp, hR, hbr⟩
          case measure =>
            simp [Lib.intOf]
            omega
      · have hfc : lower c = c := lower_out c (by omega)
        rw [← hsame hfc] at hR
        clear hput hnext hsame
        go_wp2
        go_roundw
        case rel => exact ⟨k + 1, by omega, by simp, hR, hbr⟩
        case measure =>
          simp [Lib.intOf]
          omega
    · have hkn : k = n := by omega
      have hmx : mix lower k l = l.map lower := by
        unfold mix
        rw [List.take_of_length_le (by omega), List.drop_of_length_le (by omega), List.append_nil]
      rw [hmx] at hR
      have hback := bytes_back wr B cap (l.map lower) hR
      rw [List.length_map, hlen] at hback
      go_wp2
      go_ret
      exact ⟨rfl, hbr⟩
end Go.Proofs.YtcjljldknekhiaaGreatDoor.Ad
end

section
/-
  The program's map of parsers, and the parsers that look at nothing.
-/
namespace Go.Proofs.YtcjljldknekhiaaGreatDoor.Ad
open Go.RowKit
set_option linter.unusedVariables false
set_option linter.unusedSimpArgs false

/-- What a parser answers. -/
def outV (o : Out) : Value := .tuple #[.string (bs o.arg), .int .i64 o.size, .int .i64 o.code]

set_option maxHeartbeats 4000000 in
set_option maxRecDepth 100000 in
theorem alone_walk (s : ByteArray) (b : Bool) (w : World) : Calls Tryz.prog 142 #[.string s, .bool b] w fun e w' => e = .returned (outV (aloneM b)) ∧ w' = w := by
  cases b <;>
  · go_enter Tryz.func142, Tryz.ntmps142
    go_wp2
    go_ret3
    exact ⟨rfl, rfl⟩

set_option maxHeartbeats 4000000 in
set_option maxRecDepth 100000 in
theorem noop_walk (s : ByteArray) (b : Bool) (w : World) : Calls Tryz.prog 143 #[.string s, .bool b] w fun e w' => e = .returned (outV noopM) ∧ w' = w := by
  go_enter Tryz.func143, Tryz.ntmps143
  go_wp2
  go_ret3
  exact ⟨rfl, rfl⟩

theorem empty_list {s : ByteArray} (h : s.data.toList = []) : s = { data := #[] } := by rw [← bs_of s, h]; rfl

set_option maxHeartbeats 4000000 in
set_option maxRecDepth 100000 in
theorem vrfy_walk (s : ByteArray) (b : Bool) (w : World) : Calls Tryz.prog 144 #[.string s, .bool b] w fun e w' => e = .returned (outV (vrfyM s.data.toList)) ∧ w' = w := by
  by_cases h : s.data.toList = []
  · have h' := empty_list h
    subst h'
    go_enter Tryz.func144, Tryz.ntmps144
    go_wp2
    go_ret3
    exact ⟨rfl, rfl⟩
  · rw [vrfyM, if_neg h]
    have hne : (s.toList == []) = false := by
      rw [ByteArray.toList_eq, beq_eq_false_iff_ne]
      exact h
    clear h
    go_enter Tryz.func144, Tryz.ntmps144
    go_wp2
    go_ret3
    exact ⟨rfl, rfl⟩

/-! ### The map -/
def fnV (n : Nat) : Value := .func (.func n) #[] #[]
theorem put_run (w : World) (es : Array MapEntry) (c : Nat) (K : ByteArray) (v : Value) (hf : Instr.findNow .string (.string K) es.toList 0 = some none) :
    (Instr.mapUpdate 143 (.map (some w.heap.size)) (.string K) v).run Tryz.prog (w.alloc (.map es c)) = .ok () (w.alloc (.map (es.push ⟨.string K, v, c⟩) (c + 1))) := by
  have hb := (MapKept.heap_alloc w (.map es c)).1
  have hk : ∀ W e, (Instr.checkKey e 10000 9 (.string K)).run Tryz.prog W = .ok () W := fun W e => MapKept.run_checkKey (d := .string) (k := .string K) Tryz.underlying9 trivial e 9999
  have hfk : ∀ W, (Instr.findKey 9 (.string K) es.toList).run Tryz.prog W = .ok none W := fun W => by
    simp [Instr.findKey, run_underlying Tryz.underlying9, hf, Result.andThen]
  simp [Instr.mapUpdate, run_underlying Tryz.underlying143, MapKept.run_getObj_map hb, hk, hfk, MapKept.run_setObj_map _ hb, Result.andThen]
  have e : ∀ (H : Array Obj) (a b : Obj), (H.push a).setIfInBounds H.size b = H.push b := fun H a b => by
    apply Array.ext_getElem?
    intro i
    rw [Array.getElem?_setIfInBounds, Array.getElem?_push, Array.getElem?_push, Array.size_push]
    by_cases h : i = H.size
    · subst h; simp
    · rw [if_neg (fun e => h e.symm), if_neg h, if_neg h]
  rw [show (w.alloc (.map es c)).heap = w.heap.push (.map es c) from rfl, e]
  rfl
def tab : List MapEntry := [⟨.string (bs nHelo), fnV 139, 0⟩, ⟨.string (bs nEhlo), fnV 139, 1⟩, ⟨.string (bs nMail), fnV 140, 2⟩, ⟨.string (bs nRcpt), fnV 141, 3⟩, ⟨.string (bs nData), fnV 142, 4⟩, ⟨.string (bs nRset), fnV 142, 5⟩, ⟨.string (bs nQuit), fnV 142, 6⟩, ⟨.string (bs nNoop), fnV 143, 7⟩, ⟨.string (bs nVrfy), fnV 144, 8⟩]
def tabN (n : Nat) : Array MapEntry := (tab.take n).toArray
theorem put_tab (w : World) (n : Nat) (hn : n < 9) (K : ByteArray) (v : Value) (hK : tab[n]? = some ⟨.string K, v, n⟩) (hf : Instr.findNow .string (.string K) (tab.take n) 0 = some none) :
    (Instr.mapUpdate 143 (.map (some w.heap.size)) (.string K) v).run Tryz.prog (w.alloc (.map (tabN n) n)) = .ok () (w.alloc (.map (tabN (n + 1)) (n + 1))) := by
  have h := put_run w (tabN n) n K v hf
  have e : (tabN n).push ⟨.string K, v, n⟩ = tabN (n + 1) := by
    unfold tabN
    rw [List.push_toArray, List.take_add_one, hK]
    rfl
  rw [e] at h
  exact h

set_option maxHeartbeats 4000000 in
set_option maxRecDepth 100000 in
theorem parsers_walk (w : World) : Calls Tryz.prog 112 #[] w fun e w' => e = .returned (.map (some w.heap.size)) ∧ w' = w.alloc (.map (tabN 9) 9) := by
  have hmk : (Instr.makeMap 143 none).run Tryz.prog w = .ok (.map (some w.heap.size)) (w.alloc (.map (tabN 0) 0)) := by
    simp [Instr.makeMap, Result.andThen]
    rfl
  have h0 := put_tab w 0 (by decide) (bs nHelo) (fnV 139) rfl rfl
  have h1 := put_tab w 1 (by decide) (bs nEhlo) (fnV 139) rfl rfl
  have h2 := put_tab w 2 (by decide) (bs nMail) (fnV 140) rfl rfl
  have h3 := put_tab w 3 (by decide) (bs nRcpt) (fnV 141) rfl rfl
  have h4 := put_tab w 4 (by decide) (bs nData) (fnV 142) rfl rfl
  have h5 := put_tab w 5 (by decide) (bs nRset) (fnV 142) rfl rfl
  have h6 := put_tab w 6 (by decide) (bs nQuit) (fnV 142) rfl rfl
  have h7 := put_tab w 7 (by decide) (bs nNoop) (fnV 143) rfl rfl
  have h8 := put_tab w 8 (by decide) (bs nVrfy) (fnV 144) rfl rfl
  simp only [bs, nHelo, nEhlo, nMail, nRcpt, nData, nRset, nQuit, nNoop, nVrfy, fnV] at h0 h1 h2 h3 h4 h5 h6 h7 h8
  generalize tabN = T at hmk h0 h1 h2 h3 h4 h5 h6 h7 h8 ⊢
  go_enter Tryz.func112, Tryz.ntmps112
  go_wp2
  go_ret
  exact ⟨rfl, rfl⟩

/-! ### What is found there -/
def kindFn : Kind → Nat
  | .hello => 139
  | .mail => 140
  | .rcpt => 141
  | .alone => 142
  | .noop => 143
  | .vrfy => 144
theorem beq_bs (l k : List UInt8) : (bs l == bs k) = decide (l = k) := by
  rw [beq_toListBytes, ByteArray.toList_eq, ByteArray.toList_eq, bs_data, bs_data]
  by_cases h : l = k
  · subst h; simp
  · rw [decide_eq_false h, beq_eq_false_iff_ne]
    exact h
theorem find_kind (l : List UInt8) : (kind l = none ∧ Instr.findNow .string (.string (bs l)) tab 0 = some none) ∨ ∃ k i, kind l = some k ∧ Instr.findNow .string (.string (bs l)) tab 0 = some (some (i, fnV (kindFn k))) := by
  unfold kind tab
  simp only [Instr.findNow, Instr.sameNow, beq_bs]
  by_cases h0 : l = nHelo
  · refine .inr ⟨.hello, 0, ?_, ?_⟩
    · rw [if_pos h0]
    · rw [decide_eq_true h0]
      rfl
  by_cases h1 : l = nEhlo
  · refine .inr ⟨.hello, 1, ?_, ?_⟩
    · rw [if_neg h0, if_pos h1]
    · rw [decide_eq_false h0, decide_eq_true h1]
      rfl
  by_cases h2 : l = nMail
  · refine .inr ⟨.mail, 2, ?_, ?_⟩
    · rw [if_neg h0, if_neg h1, if_pos h2]
    · rw [decide_eq_false h0, decide_eq_false h1, decide_eq_true h2]
      rfl
  by_cases h3 : l = nRcpt
  · refine .inr ⟨.rcpt, 3, ?_, ?_⟩
    · rw [if_neg h0, if_neg h1, if_neg h2, if_pos h3]
    · rw [decide_eq_false h0, decide_eq_false h1, decide_eq_false h2, decide_eq_true h3]
      rfl
  by_cases h4 : l = nData
  · refine .inr ⟨.alone, 4, ?_, ?_⟩
    · rw [if_neg h0, if_neg h1, if_neg h2, if_neg h3, if_pos h4]
    · rw [decide_eq_false h0, decide_eq_false h1, decide_eq_false h2, decide_eq_false h3, decide_eq_true h4]
      rfl
  by_cases h5 : l = nRset
  · refine .inr ⟨.alone, 5, ?_, ?_⟩
    · rw [if_neg h0, if_neg h1, if_neg h2, if_neg h3, if_neg h4, if_pos h5]
    · rw [decide_eq_false h0, decide_eq_false h1, decide_eq_false h2, decide_eq_false h3, decide_eq_false h4, decide_eq_true h5]
      rfl
  by_cases h6 : l = nQuit
  · refine .inr ⟨.alone, 6, ?_, ?_⟩
    · rw [if_neg h0, if_neg h1, if_neg h2, if_neg h3, if_neg h4, if_neg h5, if_pos h6]
    · rw [decide_eq_false h0, decide_eq_false h1, decide_eq_false h2, decide_eq_false h3, decide_eq_false h4, decide_eq_false h5, decide_eq_true h6]
      rfl
  by_cases h7 : l = nNoop
  · refine .inr ⟨.noop, 7, ?_, ?_⟩
    · rw [if_neg h0, if_neg h1, if_neg h2, if_neg h3, if_neg h4, if_neg h5, if_neg h6, if_pos h7]
    · rw [decide_eq_false h0, decide_eq_false h1, decide_eq_false h2, decide_eq_false h3, decide_eq_false h4, decide_eq_false h5, decide_eq_false h6, decide_eq_true h7]
      rfl
  by_cases h8 : l = nVrfy
  · refine .inr ⟨.vrfy, 8, ?_, ?_⟩
    · rw [if_neg h0, if_neg h1, if_neg h2, if_neg h3, if_neg h4, if_neg h5, if_neg h6, if_neg h7, if_pos h8]
    · rw [decide_eq_false h0, decide_eq_false h1, decide_eq_false h2, decide_eq_false h3, decide_eq_false h4, decide_eq_false h5, decide_eq_false h6, decide_eq_false h7, decide_eq_true h8]
      rfl
  refine .inl ⟨?_, ?_⟩
  · rw [if_neg h0, if_neg h1, if_neg h2, if_neg h3, if_neg h4, if_neg h5, if_neg h6, if_neg h7, if_neg h8]
  · rw [decide_eq_false h0, decide_eq_false h1, decide_eq_false h2, decide_eq_false h3, decide_eq_false h4, decide_eq_false h5, decide_eq_false h6, decide_eq_false h7, decide_eq_false h8]
theorem look_some {w : World} {b : Nat} (hb : w.heap[b]? = some (.map (tabN 9) 9)) {l : List UInt8} {k : Kind} (hk : kind l = some k) : (Instr.lookup 143 (.map (some b)) (.string (bs l)) true).run Tryz.prog w = .ok (.tuple #[fnV (kindFn k), .bool true]) w := by
  rcases find_kind l with ⟨h, _⟩ | ⟨k', i, h, hf⟩
  · rw [h] at hk; cases hk
  · rw [h] at hk; cases hk
    have hc : ∀ W e, (Instr.checkKey e 10000 9 (.string (bs l))).run Tryz.prog W = .ok () W := fun W e => MapKept.run_checkKey (d := .string) (k := .string (bs l)) Tryz.underlying9 trivial e 9999
    have hfk : ∀ W, (Instr.findKey 9 (.string (bs l)) (tabN 9).toList).run Tryz.prog W = .ok (some (i, fnV (kindFn k))) W := fun W => by
      rw [show (tabN 9).toList = tab from rfl]
      simp [Instr.findKey, run_underlying Tryz.underlying9, hf, Result.andThen]
    simp [Instr.lookup, run_underlying Tryz.underlying143, MapKept.run_getObj_map hb, hc, hfk, Result.andThen]
theorem look_none {w : World} {b : Nat} (hb : w.heap[b]? = some (.map (tabN 9) 9)) {l : List UInt8} (hk : kind l = none) : (Instr.lookup 143 (.map (some b)) (.string (bs l)) true).run Tryz.prog w = .ok (.tuple #[.nilFunc, .bool false]) w := by
  rcases find_kind l with ⟨_, hf⟩ | ⟨k', i, h, hf⟩
  · have hc : ∀ W e, (Instr.checkKey e 10000 9 (.string (bs l))).run Tryz.prog W = .ok () W := fun W e => MapKept.run_checkKey (d := .string) (k := .string (bs l)) Tryz.underlying9 trivial e 9999
    have hfk : ∀ W, (Instr.findKey 9 (.string (bs l)) (tabN 9).toList).run Tryz.prog W = .ok none W := fun W => by
      rw [show (tabN 9).toList = tab from rfl]
      simp [Instr.findKey, run_underlying Tryz.underlying9, hf, Result.andThen]
    have hz : ∀ W, (zeroValue (Tryz.prog.mapElemOf 143)).run Tryz.prog W = .ok .nilFunc W := fun W => by
      go_simp
    simp [Instr.lookup, run_underlying Tryz.underlying143, MapKept.run_getObj_map hb, hc, hfk, hz, Result.andThen]
  · rw [h] at hk; cases hk
end Go.Proofs.YtcjljldknekhiaaGreatDoor.Ad
end
