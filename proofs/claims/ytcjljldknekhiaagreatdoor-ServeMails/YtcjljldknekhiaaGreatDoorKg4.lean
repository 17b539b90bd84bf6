/-
  Several texts in one: AFrame AMath ARunes AShelf2 Py Mb.
-/
import Derived.Test.YtcjljldknekhiaaGreatDoorKAShelf
import Derived.Handed
import Derived.SizedLaws
import Derived.Stop.Joined
import Derived.Lib.Split
import Derived.Lib.IndexMore
import Derived.Lib.CutLaws
import Derived.Lib.IndexBytes
import Derived.WalkKit
import Derived.WalkLawsBesides
import Derived.BigCall
import Derived.WalkMore
import Derived.RegionTactic
import Derived.ChangeAlike
import Derived.Deep.QuietTactic
import Derived.BigQuiet
import Derived.Deep.RegionHeld3
import Derived.Laws.Runes
import Derived.Handy
import Derived.Lib.OthersKept
import Derived.Lib.RuneBytes
import Derived.Shelf.Strings.Builder1
import Derived.Shelf.Strings.Builder2
import Derived.Shelf.Strings.OnBuilder
import Derived.Shelf.Small.Utf8
import Derived.Shelf.Small.Strs
import Derived.Shelf.Small.Wraps
import Derived.Shelf.Strings.BuilderF
import Derived.Shelf.Strings.BuilderK
import Derived.Shelf.Strings.BuilderRune
import Derived.Shelf.Utf8.AppendRune
import Derived.Shelf.Strconv.Atoi
import Derived.Shelf.Strconv.Itoa0
import Derived.Shelf.Strconv.Itoa1
import Derived.Shelf.LaysM
import Derived.Shelf.Strconv.Itoa2
import Derived.Shelf.Strconv.Itoa3
import Derived.Shelf.Strconv.Clone
import Derived.Shelf.Strings.Search1
import Derived.Shelf.Strings.Search2
import Derived.Shelf.Strings.Search3
import Derived.Shelf.Strings.Cut
import Derived.Shelf.Strings.Count
import Derived.Shelf.Strings.Shaped
import Derived.Shelf.Strings.Prefix
import Derived.Shelf.Strings.Split
import Derived.Shelf.Strings.SplitShaped
import Derived.Shelf.Unicode.Latin
import Derived.Shelf.Strings.Runes
import Derived.Shelf.Strings.IndexAny
import Derived.Shelf.Strings.AsciiSet
import Derived.Shelf.Strings.IndexAnyAll
import Derived.Shelf.Unicode.DecodeSlow
import Derived.Shelf.Unicode.CaseLookup
import Derived.Shelf.Unicode.CaseConvert
import Derived.Shelf.Unicode.CaseTo
import Derived.Shelf.Unicode.CaseLaid
import Derived.Shelf.Bytes.SlIndexSmall
import Derived.Shelf.Bytes.SlIndexAt
import Derived.Shelf.Bytes.SlSearch0
import Derived.Shelf.Bytes.SlSearch1
import Derived.Shelf.Bytes.SlSearch2
import Derived.Shelf.Bytes.SlIndexWhole
import Derived.Shelf.Bytes.SlCut
import Derived.Shelf.Bytes.Small
import Derived.Shelf.Bytes.IndexByte
import Derived.Test.YtcjljldknekhiaaGreatDoorKg3
import Derived.Laws.RangeAny
import Derived.Test.YtcjljldknekhiaaGreatDoorKg2

section
/-
  The frame of a law that lists variables, with the world's shape handed on; that the variable MaxLen holds some number.
-/
namespace Go.Proofs.YtcjljldknekhiaaGreatDoor.Ad
open Go.RowKit
set_option linter.unusedVariables false

/-- A listed row's wrap: what is listed, and the first world's shape, for the contract. -/
theorem wrap {H : Type} {enc : TypeId × Value → H} {a : Assume} {C : Checked} {os : Os} {f : FuncId} {fn : Func} {s : ChangeSpec} {conds : List PathCond} {apart fresh handsOn again : Bool} {X : World → Array Value → Prop}
    (hX : ∀ (w w' : World) (args : Array Value), w.heap = w'.heap → X w args → X w' args)
    (own : ownKnob C.prog.godebug = none) (started : os.Started) (noInit : C.prog.inits.idxOf? f = none) (hfn : C.prog.funcs[f]? = some fn)
    (witness : ∃ (w : World) (tape : Tape) (i : Input), w.os = os ∧ (w.forCall tape i).Shaped C.prog ∧ i.vars = [] ∧ Input.okWide C.prog (w.forCall tape i) .any w.heap.size f i ∧
      ((s.pre enc C.prog fn conds apart (w.forCall tape i).memory i.args ∧ X (w.forCall tape i).memory i.args) ∧ sizedMet enc C.prog fn (OpenSpec.ofChange s) apart (w.forCall tape i).memory i.args) ∧ a.holds C.prog (lone (Frame.enter C.prog f i.args .normal) [] (w.forCall tape i)))
    (contract : ∀ (W : World) (base : Nat) (args : Array Value) (ds gs : List (DataW H)) (before : List MemPlace),
      (∀ (j : Nat) t v, fn.params[j]? = some t → args[j]? = some v → Value.okWide C.prog W .any base t v) →
      DataW.Whole enc C.prog fn.params.toList s.vars apart W args.toList ds gs before → W.ShapedOpen C.prog →
      Calls C.prog f args W fun e W' => ∃ v, e = .returned v ∧ s.post enc C.prog fn apart fresh handsOn again W args v W') :
    ReturnsInHanded a C os f .any (fun w args => (s.pre enc C.prog fn conds apart w args ∧ X w args) ∧ sizedMet enc C.prog fn (OpenSpec.ofChange s) apart w args) (s.post enc C.prog fn apart fresh handsOn again) := by
  refine returnsInHanded_of_calls own started noInit witness ?_
  intro w tape i _ shape _ ok pre _
  obtain ⟨_, _, _, fn', hfn', _, _, _, _, hval⟩ := ok
  cases Option.some.inj (hfn'.symm.trans hfn)
  obtain ⟨⟨⟨ds, gs, before, hw, _⟩, _⟩, _⟩ := pre
  refine (contract (w.forCall tape i) w.heap.size i.args ds gs before hval (DataW.Whole.of_heap (w' := w.forCall tape i) (by rfl) hw) shape).mono fun e W' ⟨v, he, hp⟩ => ?_
  subst he
  exact ChangeSpec.post_blind hp

/-- The library's MaxLen holds some number. -/
theorem maxLen_some (w : World) (h : w.ShapedOpen Tryz.prog) : ∃ m, w.cell? ⟨2, 0, none⟩ = some (.int .i64 m) :=
  Go.Proofs.cell_of_shapedOpen_int (zero := #[.int .i64 0]) (t := 3) h (of_decide_eq_true (by kernel_rfl)) (by kernel_rfl) rfl (by kernel_rfl) (by kernel_rfl) Tryz.underlying3
end Go.Proofs.YtcjljldknekhiaaGreatDoor.Ad
end

section
/-
  Mailboxes in plain words: labels, domains, local parts, mailboxes, paths, over lists of bytes.
-/
namespace Go.Proofs.YtcjljldknekhiaaGreatDoor.Ad
set_option linter.unusedVariables false

/-- A letter or a digit, as a number. -/
def plainZ (r : Int) : Bool := decide (97 ≤ r ∧ r ≤ 122) || (decide (65 ≤ r ∧ r ≤ 90) || decide (48 ≤ r ∧ r ≤ 57))
def greatZ (r : Int) : Bool := decide (65 ≤ r ∧ r ≤ 90)
def plain (c : UInt8) : Bool := plainZ c.toNat
def lower (c : UInt8) : UInt8 := if greatZ c.toNat then c + 32 else c
def upper (c : UInt8) : UInt8 := if decide (97 ≤ c.toNat ∧ c.toNat ≤ 122) then c - 32 else c
def small (l : List UInt8) : List UInt8 := l.map lower
def great (l : List UInt8) : List UInt8 := l.map upper
/-- Letters, digits and some signs alone. -/
def madeOf (signs l : List UInt8) : Bool := l.all fun c => plain c || signs.contains c
def fits (l : List UInt8) : Bool := decide (1 ≤ l.length) && decide (l.length ≤ 32)
def hasEnd (l p : List UInt8) : Bool := Lib.hasPrefix l p || Lib.hasSuffix l p
def label (l : List UInt8) : Bool := fits l && (!hasEnd l [45] && madeOf [45] l)
def loc (l : List UInt8) : Bool := fits l && (!hasEnd l [46] && (!Lib.contains l [46, 46] && madeOf [46, 95, 43, 45] l))
/-- The pieces between a sign. -/
def cuts (c : UInt8) : List UInt8 → List (List UInt8)
  | [] => [[]]
  | x :: r => if x = c then [] :: cuts c r else (x :: (cuts c r).headD []) :: (cuts c r).tail
def domain (l : List UInt8) : Bool := decide (l.length ≤ 64) && (cuts 46 l).all label
/-- Ahead of the first @, and behind it. -/
def ahead (l : List UInt8) : List UInt8 := l.takeWhile (· != 64)
def behind (l : List UInt8) : List UInt8 := l.drop ((ahead l).length + 1)
def isBox (l : List UInt8) : Bool := decide (l.length ≤ 64) && (l.contains 64 && (loc (ahead l) && domain (behind l)))
def splitM (l : List UInt8) : List UInt8 × List UInt8 := if isBox l then (ahead l, small (behind l)) else ([], [])
def parseM (l : List UInt8) : List UInt8 := if isBox l then ahead l ++ 64 :: small (behind l) else []
/-- What stands between the first and the last byte. -/
def inner (l : List UInt8) : List UInt8 := (l.drop 1).dropLast
def isAngled (l : List UInt8) : Bool := decide (2 ≤ l.length) && (l.head? == some 60 && l.getLast? == some 62)
def isPath (l : List UInt8) : Bool := isAngled l && (decide (l.length = 2) || isBox (inner l))
def pathM (l : List UInt8) : List UInt8 := if isAngled l && !decide (l.length = 2) then parseM (inner l) else []

/-! ### Where a byte is first -/
theorem indexByte_cases (c : UInt8) : ∀ l : List UInt8, (Lib.indexByte l c = -1 ∧ c ∉ l) ∨ ∃ i : Nat, Lib.indexByte l c = i ∧ ∃ h : i < l.length, l[i] = c ∧ c ∉ l.take i
  | [] => .inl ⟨rfl, by simp⟩
  | x :: l => by
    by_cases hx : x = c
    · refine .inr ⟨0, ?_, by simp, by simpa using hx, by simp⟩
      simp [Lib.indexByte, hx]
    · have hb : (x == c) = false := by simpa using hx
      rcases indexByte_cases c l with ⟨h1, h2⟩ | ⟨i, h1, h2, h3, h4⟩
      · left
        refine ⟨?_, ?_⟩
        · unfold Lib.indexByte
          rw [hb, h1]
          rfl
        · simp only [List.mem_cons, not_or]
          exact ⟨fun e => hx e.symm, h2⟩
      · right
        refine ⟨i + 1, ?_, by simp; omega, by simpa using h3, ?_⟩
        · unfold Lib.indexByte
          have hne : ((i : Int) == -1) = false := by rw [beq_eq_false_iff_ne]; omega
          rw [hb, h1]
          simp only [Bool.false_eq_true, if_false, hne]
          omega
        · simp only [List.take_succ_cons, List.mem_cons, not_or]
          exact ⟨fun e => hx e.symm, h4⟩

/-! ### Pieces -/
theorem cuts_ne (c : UInt8) : ∀ l, cuts c l ≠ []
  | [] => by simp [cuts]
  | x :: r => by
    unfold cuts
    split <;> simp
theorem cuts_miss (c : UInt8) : ∀ {l : List UInt8}, c ∉ l → cuts c l = [l]
  | [], _ => rfl
  | x :: r, h => by
    simp only [List.mem_cons, not_or] at h
    unfold cuts
    rw [if_neg (fun e => h.1 e.symm), cuts_miss c h.2]
    rfl
theorem cuts_hit (c : UInt8) : ∀ {i : Nat} {l : List UInt8} (h : i < l.length), l[i] = c → c ∉ l.take i → cuts c l = l.take i :: cuts c (l.drop (i + 1))
  | _, [], h, _, _ => by simp at h
  | 0, x :: r, h, e, _ => by
    simp only [List.getElem_cons_zero] at e
    rw [show cuts c (x :: r) = if x = c then [] :: cuts c r else (x :: (cuts c r).headD []) :: (cuts c r).tail from rfl, if_pos e]
    rfl
  | i + 1, x :: r, h, e, hn => by
    simp only [List.take_succ_cons, List.mem_cons, not_or] at hn
    simp only [List.length_cons] at h
    have ih := cuts_hit c (i := i) (l := r) (by omega) (by simpa using e) hn.2
    rw [show cuts c (x :: r) = if x = c then [] :: cuts c r else (x :: (cuts c r).headD []) :: (cuts c r).tail from rfl, if_neg (fun e => hn.1 e.symm), ih]
    rfl
theorem split_cuts (c : UInt8) : ∀ (n : Nat) (l : List UInt8), l.length ≤ n → Lib.split l [c] = cuts c l ∧ (Lib.split l [c]).length = Lib.count l [c] + 1
  | n, l, hn => by
    unfold Lib.split
    rcases indexByte_cases c l with ⟨h1, h2⟩ | ⟨i, h1, h2, h3, h4⟩
    · have hi : Lib.index l [c] = -1 := by rw [Lib.index_one]; exact h1
      rw [Lib.count_miss hi, cuts_miss c h2]
      exact ⟨rfl, rfl⟩
    · have hi : Lib.index l [c] = i := by rw [Lib.index_one]; exact h1
      rw [Lib.count_hit (by simp) hi, cuts_hit c h2 h3 h4, Nat.add_comm 1]
      match n, hn with
      | 0, hn => omega
      | n + 1, hn =>
        obtain ⟨e1, e2⟩ := split_cuts c n (l.drop (i + 1)) (by simp; omega)
        unfold Lib.split at e1 e2
        have hne : ((i : Int) == -1) = false := by rw [beq_eq_false_iff_ne]; omega
        unfold Lib.splitK
        rw [hi]
        simp only [hne, Bool.false_eq_true, if_false, List.length_cons, List.length_nil, Int.toNat_natCast, Nat.add_zero, Nat.zero_add]
        rw [e1]
        rw [e1] at e2
        exact ⟨rfl, by omega⟩
theorem mem_cuts (c : UInt8) : ∀ {l : List UInt8} {x : UInt8}, x ∈ l → x = c ∨ ∃ p ∈ cuts c l, x ∈ p
  | [], x, h => by simp at h
  | y :: r, x, h => by
    simp only [List.mem_cons] at h
    unfold cuts
    by_cases hy : y = c
    · rw [if_pos hy]
      rcases h with h | h
      · exact .inl (h.trans hy)
      · rcases mem_cuts c h with h | ⟨p, hp, hx⟩
        · exact .inl h
        · exact .inr ⟨p, List.mem_cons_of_mem _ hp, hx⟩
    · rw [if_neg hy]
      obtain ⟨q, t, e⟩ := List.exists_cons_of_ne_nil (cuts_ne c r)
      rw [e]
      rcases h with h | h
      · exact .inr ⟨_, List.mem_cons_self .., by rw [h]; exact List.mem_cons_self ..⟩
      · rcases mem_cuts c h with h | ⟨p, hp, hx⟩
        · exact .inl h
        · rw [e] at hp
          rcases List.mem_cons.1 hp with h | h
          · subst h
            exact .inr ⟨_, List.mem_cons_self .., List.mem_cons_of_mem _ hx⟩
          · exact .inr ⟨p, List.mem_cons_of_mem _ h, hx⟩
theorem plain_low {c : UInt8} (h : plain c = true) : c.toNat < 128 := by
  simp [plain, plainZ] at h
  omega
theorem label_low {l : List UInt8} (h : label l = true) : ∀ x ∈ l, x.toNat < 128 := by
  intro x hx
  simp only [label, Bool.and_eq_true, madeOf, List.all_eq_true] at h
  have := h.2.2 x hx
  simp only [Bool.or_eq_true] at this
  rcases this with h | h
  · exact plain_low h
  · have : x = 45 := by simpa using h
    subst this
    decide
theorem domain_low {l : List UInt8} (h : domain l = true) : ∀ x ∈ l, x.toNat < 128 := by
  intro x hx
  simp only [domain, Bool.and_eq_true, List.all_eq_true] at h
  rcases mem_cuts 46 hx with rfl | ⟨p, hp, hxp⟩
  · decide
  · exact label_low (h.2 p hp) x hxp

/-! ### The first @ -/
theorem ahead_miss {l : List UInt8} (h : (64 : UInt8) ∉ l) : isBox l = false := by
  simp [isBox, h]
theorem ahead_hit : ∀ {i : Nat} {l : List UInt8} (h : i < l.length), l[i] = (64 : UInt8) → (64 : UInt8) ∉ l.take i → ahead l = l.take i ∧ behind l = l.drop (i + 1) ∧ l.contains 64 = true := by
  intro i l h e hn
  have ha : ∀ {i : Nat} {l : List UInt8} (h : i < l.length), l[i] = (64 : UInt8) → (64 : UInt8) ∉ l.take i → ahead l = l.take i := by
    intro i
    induction i with
    | zero =>
      intro l h e hn
      match l, h, e with
      | x :: r, h, e =>
        simp only [List.getElem_cons_zero] at e
        simp [ahead, e]
    | succ i ih =>
      intro l h e hn
      match l, h, e, hn with
      | x :: r, h, e, hn =>
        simp only [List.take_succ_cons, List.mem_cons, not_or] at hn
        simp only [List.length_cons] at h
        have := ih (l := r) (by omega) (by simpa using e) hn.2
        unfold ahead at this ⊢
        have hx : (x != 64) = true := by simpa using fun e => hn.1 e.symm
        rw [List.takeWhile_cons, hx, if_pos rfl, this]
        rfl
  have ea := ha h e hn
  refine ⟨ea, ?_, ?_⟩
  · rw [behind, ea, List.length_take, Nat.min_eq_left (by omega)]
  · rw [List.contains_iff_mem, ← e]
    exact List.getElem_mem h
theorem isBox_hit {i : Nat} {l : List UInt8} (h : i < l.length) (e : l[i] = (64 : UInt8)) (hn : (64 : UInt8) ∉ l.take i) : isBox l = (decide (l.length ≤ 64) && (loc (l.take i) && domain (l.drop (i + 1)))) := by
  obtain ⟨e1, e2, e3⟩ := ahead_hit h e hn
  rw [isBox, e1, e2, e3, Bool.true_and]

/-! ### Between < and > -/
theorem prefix_one (l : List UInt8) (c : UInt8) : Lib.hasPrefix l [c] = (l.head? == some c) := by
  cases l with
  | nil => rfl
  | cons x r =>
    simp only [Lib.hasPrefix, List.isPrefixOf, List.head?_cons, Bool.and_true]
    rw [Bool.beq_comm]
    rfl
theorem suffix_one (l : List UInt8) (c : UInt8) : Lib.hasSuffix l [c] = (l.getLast? == some c) := by
  rw [← List.head?_reverse, ← prefix_one]
  rfl
theorem angled (l : List UInt8) : isAngled l = (Lib.hasPrefix l [60] && Lib.hasSuffix (Lib.trimPrefix l [60]) [62]) := by
  rw [prefix_one, suffix_one, Lib.trimPrefix, prefix_one, isAngled]
  match l with
  | [] => rfl
  | [x] =>
    cases hx : (([x] : List UInt8).head? == some 60) <;> simp
  | x :: y :: r =>
    cases hx : ((x :: y :: r).head? == some 60) with
    | false => simp
    | true =>
      simp [List.getLast?_cons_cons]
theorem inner_angled {l : List UInt8} (h : isAngled l = true) : inner l = Lib.trimSuffix (Lib.trimPrefix l [60]) [62] := by
  have h2 := h
  rw [angled, Bool.and_eq_true] at h2
  unfold Lib.trimSuffix
  rw [if_pos h2.2]
  unfold Lib.trimPrefix
  rw [if_pos h2.1, inner, List.dropLast_eq_take]
  rfl
end Go.Proofs.YtcjljldknekhiaaGreatDoor.Ad
end

section
/-
  Runes: what is a letter or a digit; texts of some signs alone.
-/
namespace Go.Proofs.YtcjljldknekhiaaGreatDoor.Ad
open Go.RowKit
set_option linter.unusedVariables false

set_option maxHeartbeats 4000000 in
set_option maxRecDepth 100000 in
theorem isGreat_walk (r : Int) (w : World) : Calls Tryz.prog 129 #[.int .i32 r] w fun e w' => e = .returned (.bool (greatZ r)) ∧ w' = w := by
  by_cases h1 : 65 ≤ r
  · go_enter Tryz.func129, Tryz.ntmps129
    go_wp2
    go_ret
    refine ⟨?_, rfl⟩
    first | (simp [greatZ]; done) | (simp [greatZ]; omega)
  · go_enter Tryz.func129, Tryz.ntmps129
    go_wp2
    go_ret
    refine ⟨?_, rfl⟩
    first | (simp [greatZ]; done) | (simp [greatZ]; omega)

set_option maxHeartbeats 4000000 in
set_option maxRecDepth 100000 in
theorem isPlain_walk (r : Int) (w : World) : Calls Tryz.prog 96 #[.int .i32 r] w fun e w' => e = .returned (.bool (plainZ r)) ∧ w' = w := by
  by_cases h1 : 97 ≤ r ∧ r ≤ 122
  · have hv : plainZ r = true := by simp [plainZ]; omega
    rw [hv]
    go_enter Tryz.func96, Tryz.ntmps96
    go_wp2_with (go_at_call 129; refine (isGreat_walk r _).mono ?_; rintro e w' ⟨rfl, rfl⟩)
    go_ret
    exact ⟨rfl, rfl⟩
  · cases h3 : greatZ r with
    | true =>
      have hv : plainZ r = true := by simp [greatZ] at h3; simp [plainZ]; omega
      rw [hv]
      by_cases h2 : 97 ≤ r
      · exact absurd h3 (by simp [greatZ]; omega)
      · go_enter Tryz.func96, Tryz.ntmps96
        go_wp2_with (go_at_call 129; refine (isGreat_walk r _).mono ?_; rintro e w' ⟨rfl, rfl⟩; rw [h3])
        go_ret
        exact ⟨rfl, rfl⟩
    | false =>
      have hv : plainZ r = decide (48 ≤ r ∧ r ≤ 57) := by
        have e1 : decide (97 ≤ r ∧ r ≤ 122) = false := decide_eq_false h1
        unfold greatZ at h3
        rw [plainZ, e1, h3]; rfl
      rw [hv]
      by_cases h2 : 97 ≤ r <;> by_cases h4 : 48 ≤ r
      · have h5 : 122 < r := by omega
        go_enter Tryz.func96, Tryz.ntmps96
        go_wp2_with (go_at_call 129; refine (isGreat_walk r _).mono ?_; rintro e w' ⟨rfl, rfl⟩; rw [h3])
        go_ret
        exact ⟨by simp [h4]; omega, rfl⟩
      · omega
      · go_enter Tryz.func96, Tryz.ntmps96
        go_wp2_with (go_at_call 129; refine (isGreat_walk r _).mono ?_; rintro e w' ⟨rfl, rfl⟩; rw [h3])
        go_ret
        exact ⟨by simp [h4], rfl⟩
      · go_enter Tryz.func96, Tryz.ntmps96
        go_wp2_with (go_at_call 129; refine (isGreat_walk r _).mono ?_; rintro e w' ⟨rfl, rfl⟩; rw [h3])
        go_ret
        exact ⟨by simp; omega, rfl⟩

/-! ### A rune that is not ASCII's, in a text that is -/
theorem width_pos (s : ByteArray) (pos : Nat) (h : pos < s.size) : 1 ≤ (Utf8.decode s pos).2 := by
  by_cases ha : (s[pos]'h).toNat < 128
  · rw [decode_ascii s pos h ha]
    exact Nat.le_refl _
  · exact (decode_high s pos h (by omega)).2

set_option maxHeartbeats 4000000 in
set_option maxRecDepth 100000 in
theorem indexRune_error (s : ByteArray) (w : World) (ha : ∀ k (h : k < s.size), (s[k]'h).toNat < 128) :
    Calls Tryz.prog 130 #[.string s, .int .i32 65533] w fun e w' => e = .returned (.int .i64 (-1)) ∧ Below w.heap.size w w' := by
  go_enter Tryz.func130, Tryz.ntmps130
  go_wp2
  go_loopw [] (fun wr => ∃ pos, wr.heap[w.heap.size]? = some (.stringIter s pos) ∧ Below w.heap.size w wr) (fun wr => s.size - wr.iterPos w.heap.size)
  case atStart =>
    refine ⟨0, ?_, (Below.refl _ w).alloc (Nat.le_refl _) _⟩
    have := World.iter_heap w s 0
    simpa using this
  case round =>
    obtain ⟨pos, hit, hbw⟩ := hrel
    by_cases hp : pos < s.size
    · have hnx : ∀ ty, (Instr.next (.pointer (some ⟨w.heap.size, 0, none⟩)) true ty).run Tryz.prog wr = _ := fun ty => Lib.run_next_any_at wr w.heap.size s pos ty hit hp
      have ea := decode_ascii s pos hp (ha pos hp)
      have hl := ha pos hp
      have hwd := width_pos s pos hp
      have hit2 := Lib.iterAt_heap wr w.heap.size s pos (pos + 1) hit
      have hbw2 := Lib.below_iterAt hbw (k := w.heap.size) (by omega) s (pos + 1)
      go_wp2
      go_roundw
      case rel => exact ⟨_, hit2, hbw2⟩
      case measure =>
        simp only [World.iterPos, hit2, hit]
        omega
    · have hnx : ∀ ty, (Instr.next (.pointer (some ⟨w.heap.size, 0, none⟩)) true ty).run Tryz.prog wr = _ := fun ty => Lib.run_next_end_at wr w.heap.size s pos ty hit hp
      go_wp2
      go_ret
      exact ⟨rfl, hbw⟩

/-- The bytes of a rune that is not ASCII's: two to four, the last one above 127. -/
def HighEnd (E : ByteArray) : Prop := 2 ≤ E.size ∧ E.size ≤ 4 ∧ ∀ h : E.size - 1 < E.size, 128 ≤ (E[E.size - 1]'h).toNat
theorem encode_high (r : Int) (h0 : 128 ≤ r) : HighEnd (Utf8.encode r) := by
  have hc : 128 ≤ (if Utf8.valid r then r.toNat else Utf8.runeError) := by
    split
    · omega
    · decide
  unfold Utf8.encode
  generalize (if Utf8.valid r then r.toNat else Utf8.runeError) = c at hc
  have hlast : ∀ c : Nat, 128 ≤ (UInt8.ofNat (128 + c % 64)).toNat := fun c => by
    rw [UInt8.toNat_ofNat']
    omega
  simp only
  rw [if_neg (by omega)]
  split
  · exact ⟨(by show 2 ≤ 2; decide), (by show 2 ≤ 4; decide), fun h => hlast c⟩
  · split
    · exact ⟨(by show 2 ≤ 3; decide), (by show 3 ≤ 4; decide), fun h => hlast c⟩
    · exact ⟨(by show 2 ≤ 4; decide), (by show 4 ≤ 4; decide), fun h => hlast c⟩

set_option maxHeartbeats 4000000 in
set_option maxRecDepth 100000 in
/-- A rune that is not ASCII's is not in a text of one byte. -/
theorem indexRune_one (r : Int) (w : World) (h0 : 128 ≤ r) (h1 : r ≠ 65533) :
    Calls Tryz.prog 130 #[.string { data := #[45] }, .int .i32 r] w fun e w' => e = .returned (.int .i64 (-1)) ∧ Below w.heap.size w w' := by
  obtain ⟨l2, l4, hl⟩ := encode_high r h0
  have l3 : ¬ ((Utf8.encode r).size : Int) - 1 < 1 := by omega
  cases hv : Lib.validRune r with
  | false =>
    go_enter Tryz.func130, Tryz.ntmps130
    go_wp2_with (go_at_call 151; refine (utf8_ValidRune r _).mono ?_; rintro e w' ⟨rfl, rfl⟩; rw [hv])
    go_ret
    exact ⟨rfl, Below.refl _ _⟩
  | true =>
    go_enter Tryz.func130, Tryz.ntmps130
    go_wp2_with (go_at_call 151; refine (utf8_ValidRune r _).mono ?_; rintro e w' ⟨rfl, rfl⟩; rw [hv])
    go_step3
    go_wp2
    go_rounds 1
    rw [Exit.noGoto_ret]
    go_ret
    exact ⟨rfl, Below.refl _ _⟩

/-- .. nor in the signs of a local part. -/
def HighEnds (E : ByteArray) : Prop := (∃ a d : UInt8, E = { data := #[a, d] } ∧ 128 ≤ d.toNat) ∨ (∃ a b d : UInt8, E = { data := #[a, b, d] } ∧ 128 ≤ d.toNat) ∨ (∃ a b c d : UInt8, E = { data := #[a, b, c, d] } ∧ 128 ≤ d.toNat)
theorem encode_ends (r : Int) (h0 : 128 ≤ r) : HighEnds (Utf8.encode r) := by
  have hc : 128 ≤ (if Utf8.valid r then r.toNat else Utf8.runeError) := by
    split
    · omega
    · decide
  unfold Utf8.encode
  generalize (if Utf8.valid r then r.toNat else Utf8.runeError) = c at hc
  have hlast : ∀ c : Nat, 128 ≤ (UInt8.ofNat (128 + c % 64)).toNat := fun c => by
    rw [UInt8.toNat_ofNat']
    omega
  simp only
  rw [if_neg (by omega)]
  split
  · exact .inl ⟨_, _, rfl, hlast c⟩
  · split
    · exact .inr (.inl ⟨_, _, _, rfl, hlast c⟩)
    · exact .inr (.inr ⟨_, _, _, _, rfl, hlast c⟩)
theorem indexByte_high (d : UInt8) (hd : 128 ≤ d.toNat) : ∀ l : List UInt8, (∀ x ∈ l, x.toNat < 128) → Lib.indexByte l d = -1
  | [], _ => rfl
  | x :: l, h => by
    have hx := h x (List.mem_cons_self ..)
    have hne : (x == d) = false := by
      rw [beq_eq_false_iff_ne]
      rintro rfl
      omega
    unfold Lib.indexByte
    rw [hne, indexByte_high d hd l (fun y hy => h y (List.mem_cons_of_mem _ hy))]
    rfl

set_option maxHeartbeats 4000000 in
set_option maxRecDepth 100000 in
theorem indexRune_four (r : Int) (w : World) (h0 : 128 ≤ r) (h1 : r ≠ 65533) :
    Calls Tryz.prog 130 #[.string { data := #[46, 95, 43, 45] }, .int .i32 r] w fun e w' => e = .returned (.int .i64 (-1)) ∧ Below w.heap.size w w' := by
  cases hv : Lib.validRune r with
  | false =>
    go_enter Tryz.func130, Tryz.ntmps130
    go_wp2_with (go_at_call 151; refine (utf8_ValidRune r _).mono ?_; rintro e w' ⟨rfl, rfl⟩; rw [hv])
    go_ret
    exact ⟨rfl, Below.refl _ _⟩
  | true =>
    rcases encode_ends r h0 with ⟨a, d, hE, hd⟩ | ⟨a, b, d, hE, hd⟩ | ⟨a, b, c, d, hE, hd⟩
    · have n2 : ¬ (((({ data := #[46, 95, 43, 45] } : ByteArray)[1]'(show 1 < 4 by decide)).toNat : Int) = ((({ data := #[a, d] } : ByteArray)[1]'(show 1 < 2 by decide)).toNat : Int)) := by
        show ¬ ((95 : Int) = (d.toNat : Int))
        omega
      have hw2 : IntKind.i64.wrap 2 = 2 := by decide
      have hc : ∀ W, Calls Tryz.prog 150 #[.string (({ data := #[46, 95, 43, 45] } : ByteArray).extract 2 4), .int .u8 ((({ data := #[a, d] } : ByteArray)[1]'(show 1 < 2 by decide)).toNat : Int)] W fun e w' => e = .returned (.int .i64 (-1)) ∧ w' = W := fun W => by
        have := strings_IndexByte (({ data := #[46, 95, 43, 45] } : ByteArray).extract 2 4) (d.toNat : Int) W
        rw [show ((d.toNat : Int).toNat.toUInt8) = d by simp, indexByte_high d hd _ (by decide)] at this
        exact this
      go_enter Tryz.func130, Tryz.ntmps130
      go_wp2_with (go_at_call 151; refine (utf8_ValidRune r _).mono ?_; rintro e w' ⟨rfl, rfl⟩; rw [hv])
      go_step3
      go_wp2
      refine wp_loop_rounds 1 ?_
      rw [rounds_succ]
      go_wp2_with fail
      go_step3
      go_wp2
      go_region
      go_wp2
      · go_region_held3 (fun _ => True) (exact trivial) (first | (go_at_call 150; refine (hc _).mono ?_; rintro e w1 ⟨rfl, rfl⟩))
        go_wp2
        rw [Exit.noGoto_ret]
        go_wp2
        rw [Exit.noGoto_ret]
        go_ret
        exact ⟨rfl, ((Below.refl _ _).drew).drew⟩
    · have n2 : ¬ (((({ data := #[46, 95, 43, 45] } : ByteArray)[2]'(show 2 < 4 by decide)).toNat : Int) = ((({ data := #[a, b, d] } : ByteArray)[2]'(show 2 < 3 by decide)).toNat : Int)) := by
        show ¬ ((43 : Int) = (d.toNat : Int))
        omega
      have hw2 : IntKind.i64.wrap 3 = 3 := by decide
      have hc : ∀ W, Calls Tryz.prog 150 #[.string (({ data := #[46, 95, 43, 45] } : ByteArray).extract 3 4), .int .u8 ((({ data := #[a, b, d] } : ByteArray)[2]'(show 2 < 3 by decide)).toNat : Int)] W fun e w' => e = .returned (.int .i64 (-1)) ∧ w' = W := fun W => by
        have := strings_IndexByte (({ data := #[46, 95, 43, 45] } : ByteArray).extract 3 4) (d.toNat : Int) W
        rw [show ((d.toNat : Int).toNat.toUInt8) = d by simp, indexByte_high d hd _ (by decide)] at this
        exact this
      go_enter Tryz.func130, Tryz.ntmps130
      go_wp2_with (go_at_call 151; refine (utf8_ValidRune r _).mono ?_; rintro e w' ⟨rfl, rfl⟩; rw [hv])
      go_step3
      go_wp2
      refine wp_loop_rounds 1 ?_
      rw [rounds_succ]
      go_wp2_with fail
      go_step3
      go_wp2
      go_region
      go_wp2
      · go_region_held3 (fun _ => True) (exact trivial) (first | (go_at_call 150; refine (hc _).mono ?_; rintro e w1 ⟨rfl, rfl⟩))
        go_wp2
        rw [Exit.noGoto_ret]
        go_wp2
        rw [Exit.noGoto_ret]
        go_ret
        exact ⟨rfl, ((Below.refl _ _).drew).drew⟩
    · have n2 : ¬ (((({ data := #[46, 95, 43, 45] } : ByteArray)[3]'(show 3 < 4 by decide)).toNat : Int) = ((({ data := #[a, b, c, d] } : ByteArray)[3]'(show 3 < 4 by decide)).toNat : Int)) := by
        show ¬ ((45 : Int) = (d.toNat : Int))
        omega
      have hw2 : IntKind.i64.wrap 4 = 4 := by decide
      have hc : ∀ W, Calls Tryz.prog 150 #[.string ByteArray.empty, .int .u8 ((({ data := #[a, b, c, d] } : ByteArray)[3]'(show 3 < 4 by decide)).toNat : Int)] W fun e w' => e = .returned (.int .i64 (-1)) ∧ w' = W := fun W => by
        have := strings_IndexByte ByteArray.empty (d.toNat : Int) W
        rw [show ((d.toNat : Int).toNat.toUInt8) = d by simp, indexByte_high d hd _ (by decide)] at this
        exact this
      go_enter Tryz.func130, Tryz.ntmps130
      go_wp2_with (go_at_call 151; refine (utf8_ValidRune r _).mono ?_; rintro e w' ⟨rfl, rfl⟩; rw [hv])
      go_step3
      go_wp2
      refine wp_loop_rounds 1 ?_
      rw [rounds_succ]
      go_wp2_with fail
      go_step3
      go_wp2
      go_region
      go_wp2
      · go_region_held3 (fun _ => True) (exact trivial) (first | (go_at_call 150; refine (hc _).mono ?_; rintro e w1 ⟨rfl, rfl⟩))
        go_wp2
        rw [Exit.noGoto_ret]
        go_wp2
        rw [Exit.noGoto_ret]
        go_ret
        exact ⟨rfl, ((Below.refl _ _).drew).drew⟩
end Go.Proofs.YtcjljldknekhiaaGreatDoor.Ad
end

section
/-
  The library's functions at this program's numbers, as the shelf lays them: tables of numbers, and that the functions are those.
-/
namespace Go.Proofs.YtcjljldknekhiaaGreatDoor.Ad
open Go.Shelf Go.RowKit Go.Lib
set_option linter.unusedVariables false
def lays153_ren : Go.Shelf.Ren := ⟨fun | 153 => 137 | 152 => 130 | 226 => 152 | 227 => 153 | 228 => 154 | 137 => 150 | 119 => 151 | 224 => 122 | 225 => 148 | 217 => 147 | 266 => 158 | n => n, fun | 9 => 9 | 3 => 3 | 4 => 4 | 5 => 5 | 21 => 21 | 117 => 170 | 116 => 169 | 0 => 0 | 46 => 136 | 124 => 177 | n => n, fun | n => n⟩
theorem lays153 : Go.Proofs.Lays.n153 Tryz.prog lays153_ren := {
  mixed := by kernel_rfl
  f119 := Tryz.func151.trans (congrArg some (by kernel_rfl))
  f137 := Tryz.func150.trans (congrArg some (by kernel_rfl))
  f152 := Tryz.func130.trans (congrArg some (by kernel_rfl))
  f153 := Tryz.func137.trans (congrArg some (by kernel_rfl))
  f217 := Tryz.func147.trans (congrArg some (by kernel_rfl))
  f224 := Tryz.func122.trans (congrArg some (by kernel_rfl))
  f225 := Tryz.func148.trans (congrArg some (by kernel_rfl))
  f226 := Tryz.func152.trans (congrArg some (by kernel_rfl))
  f227 := Tryz.func153.trans (congrArg some (by kernel_rfl))
  f228 := Tryz.func154.trans (congrArg some (by kernel_rfl))
  f266 := Tryz.func158.trans (congrArg some (by kernel_rfl))
  t0 := Tryz.underlying0
  a0 := Tryz.isAgg0
  z0 := Tryz.sizeOf0
  v0 := Tryz.zeroValue0
  t3 := Tryz.underlying3
  a3 := Tryz.isAgg3
  z3 := Tryz.sizeOf3
  v3 := Tryz.zeroValue3
  t4 := Tryz.underlying4
  a4 := Tryz.isAgg4
  z4 := Tryz.sizeOf4
  v4 := Tryz.zeroValue4
  t5 := Tryz.underlying5
  a5 := Tryz.isAgg5
  z5 := Tryz.sizeOf5
  v5 := Tryz.zeroValue5
  t9 := Tryz.underlying9
  a9 := Tryz.isAgg9
  z9 := Tryz.sizeOf9
  v9 := Tryz.zeroValue9
  t21 := Tryz.underlying21
  a21 := Tryz.isAgg21
  z21 := Tryz.sizeOf21
  v21 := Tryz.zeroValue21
  t46 := Tryz.underlying136
  a46 := Tryz.isAgg136
  z46 := Tryz.sizeOf136
  v46 := Tryz.zeroValue136
  t116 := Tryz.underlying169
  a116 := Tryz.isAgg169
  z116 := Tryz.sizeOf169
  t117 := Tryz.underlying170
  a117 := Tryz.isAgg170
  z117 := Tryz.sizeOf170
  v117 := Tryz.zeroValue170
  t124 := Tryz.underlying177
  a124 := Tryz.isAgg177
  z124 := Tryz.sizeOf177
  v124 := Tryz.zeroValue177 }
open Go.RowKit Go.Lib in
theorem strings_IndexAny_long (hv116 : ∀ w, (zeroValue 169).run Tryz.prog w = .ok (.agg (Array.replicate 256 (.bool false))) w) (s chars : ByteArray) (w : World) (h2 : 2 ≤ chars.size) (h8 : 8 < s.size) (hs : s.size < 4294967281) (hcs : chars.size < 4294967281) (hascii : ∀ (j : Nat) b, chars.data.toList[j]? = some b → b.toNat < 128) :
    Calls Tryz.prog 137 #[.string s, .string chars] w fun e w' => e = .returned (.int .i64 (Lib.indexAny s.data.toList chars.data.toList)) ∧ w' = ((w.alloc (.cells (Lib.setCells chars.data.toList) 169)).alloc (.cells (Lib.setCells chars.data.toList) 169)) := Any.strings_IndexAny_long lays153 hv116 (by kernel_rfl) s chars w h2 h8 hs hcs hascii

end Go.Proofs.YtcjljldknekhiaaGreatDoor.Ad
end

section
/-
  Is an end of a line in a text, whatever its bytes? What the library's ContainsAny answers of 13 and 10.
-/
namespace Go.Proofs.YtcjljldknekhiaaGreatDoor.Ln
open Go.RowKit
set_option linter.unusedVariables false
set_option linter.unusedSimpArgs false

theorem below_more {B C : Nat} {a b : World} (h : Below C a b) (hB : B ≤ C) : Below B a b := ⟨h.os, h.tape, h.output, h.size, fun k hk => h.block k (Nat.lt_of_lt_of_le hk hB)⟩
def crlf : ByteArray := { data := #[13, 10] }

set_option maxHeartbeats 4000000 in
set_option maxRecDepth 100000 in
/-- A rune that is not ASCII's is none of the two. -/
theorem indexRune_two (r : Int) (w : World) (h0 : 128 ≤ r) (h1 : r ≠ 65533) :
    Calls Tryz.prog 130 #[.string { data := #[13, 10] }, .int .i32 r] w fun e w' => e = .returned (.int .i64 (-1)) ∧ Below w.heap.size w w' := by
  cases hv : Lib.validRune r with
  | false =>
    go_enter Tryz.func130, Tryz.ntmps130
    go_wp2_with (go_at_call 151; refine (Ad.utf8_ValidRune r _).mono ?_; rintro e w' ⟨rfl, rfl⟩; rw [hv])
    go_ret
    exact ⟨rfl, Below.refl _ _⟩
  | true =>
    rcases Ad.encode_ends r h0 with ⟨a, d, hE, hd⟩ | ⟨a, b, d, hE, hd⟩ | ⟨a, b, c, d, hE, hd⟩
    · have n2 : ¬ (((({ data := #[13, 10] } : ByteArray)[1]'(show 1 < 2 by decide)).toNat : Int) = ((({ data := #[a, d] } : ByteArray)[1]'(show 1 < 2 by decide)).toNat : Int)) := by
        show ¬ ((10 : Int) = (d.toNat : Int))
        omega
      have hw2 : IntKind.i64.wrap 2 = 2 := by decide
      have hc : ∀ W, Calls Tryz.prog 150 #[.string ByteArray.empty, .int .u8 ((({ data := #[a, d] } : ByteArray)[1]'(show 1 < 2 by decide)).toNat : Int)] W fun e w' => e = .returned (.int .i64 (-1)) ∧ w' = W := fun W => by
        have := Ad.strings_IndexByte ByteArray.empty (d.toNat : Int) W
        rw [show ((d.toNat : Int).toNat.toUInt8) = d by simp, Ad.indexByte_high d hd _ (by decide)] at this
        exact this
      go_enter Tryz.func130, Tryz.ntmps130
      go_wp2_with (go_at_call 151; refine (Ad.utf8_ValidRune r _).mono ?_; rintro e w' ⟨rfl, rfl⟩; rw [hv])
      go_step3
      go_wp2
      refine wp_loop_rounds 1 ?_
      rw [rounds_succ]
      go_wp2_with fail
      go_step3
      go_wp2
      go_region
      go_wp2
      · go_region_held3 (fun _ => True) (exact trivial) (first | (go_at_call 150; refine (hc _).mono ?_; rintro e w1 ⟨rfl, rfl⟩))
        go_wp2
        rw [Exit.noGoto_ret]
        go_wp2
        rw [Exit.noGoto_ret]
        go_ret
        exact ⟨rfl, ((Below.refl _ _).drew).drew⟩
    · go_enter Tryz.func130, Tryz.ntmps130
      go_wp2_with (go_at_call 151; refine (Ad.utf8_ValidRune r _).mono ?_; rintro e w' ⟨rfl, rfl⟩; rw [hv])
      go_step3
      go_wp2
      go_rounds 1
      rw [Exit.noGoto_ret]
      go_ret
      exact ⟨rfl, Below.refl _ _⟩
    · go_enter Tryz.func130, Tryz.ntmps130
      go_wp2_with (go_at_call 151; refine (Ad.utf8_ValidRune r _).mono ?_; rintro e w' ⟨rfl, rfl⟩; rw [hv])
      go_step3
      go_wp2
      go_rounds 1
      rw [Exit.noGoto_ret]
      go_ret
      exact ⟨rfl, Below.refl _ _⟩
/-- A rune of a text: is it one of the two? -/
theorem indexRune_any (r : Int) (w : World) (h0 : 0 ≤ r) :
    Calls Tryz.prog 130 #[.string { data := #[13, 10] }, .int .i32 r] w fun e w' => ∃ k : Int, e = .returned (.int .i64 k) ∧ (0 ≤ k ↔ r = 13 ∨ r = 10) ∧ Below w.heap.size w w' := by
  by_cases h : r < 128
  · refine (Ad.strings_IndexRune_ascii { data := #[13, 10] } r w h0 h).mono ?_
    rintro e w' ⟨rfl, rfl⟩
    refine ⟨_, rfl, ?_, Below.refl _ _⟩
    obtain ⟨n, rfl⟩ : ∃ n : Nat, r = (n : Int) := ⟨r.toNat, by omega⟩
    have hn : n < 128 := by omega
    rw [Int.toNat_natCast]
    show 0 ≤ Lib.indexByte [13, 10] n.toUInt8 ↔ _
    by_cases h13 : n = 13
    · subst h13; decide
    · by_cases h10 : n = 10
      · subst h10; decide
      · have e1 : ((13 : UInt8) == n.toUInt8) = false := by
          rw [beq_eq_false_iff_ne]
          intro e
          have := congrArg UInt8.toNat e
          simp at this
          omega
        have e2 : ((10 : UInt8) == n.toUInt8) = false := by
          rw [beq_eq_false_iff_ne]
          intro e
          have := congrArg UInt8.toNat e
          simp at this
          omega
        have e3 : Lib.indexByte [13, 10] n.toUInt8 = -1 := by
          simp [Lib.indexByte, e1, e2]
        rw [e3]
        constructor
        · intro hx; omega
        · intro hx; omega
  · by_cases h1 : r = 65533
    · subst h1
      refine (Ad.indexRune_error { data := #[13, 10] } w (by
        intro k hk
        have hk2 : k < 2 := hk
        match k, hk2 with
        | 0, _ => show (13 : UInt8).toNat < 128; decide
        | 1, _ => show (10 : UInt8).toNat < 128; decide)).mono ?_
      rintro e w' ⟨rfl, hb⟩
      exact ⟨-1, rfl, by omega, hb⟩
    · refine (indexRune_two r w (by omega) h1).mono ?_
      rintro e w' ⟨rfl, hb⟩
      exact ⟨-1, rfl, by omega, hb⟩

/-! ### Runes and bytes -/
theorem decode_conts (s : ByteArray) (pos k : Nat) (hk : 1 ≤ k) (hd : k < (Utf8.decode s pos).2) : pos + k < s.size ∧ 128 ≤ (s.get! (pos + k)).toNat := by
  unfold Utf8.decode at hd
  simp only at hd
  split at hd
  · simp only at hd; omega
  split at hd
  · rename_i h
    simp only [Bool.and_eq_true, decide_eq_true_eq, beq_iff_eq] at h
    split at hd
    · simp only at hd
      obtain rfl : k = 1 := by omega
      exact ⟨h.2.1, by have := h.2.2; omega⟩
    · simp only at hd; omega
  split at hd
  · rename_i h
    simp only [Bool.and_eq_true, decide_eq_true_eq, beq_iff_eq] at h
    split at hd
    · simp only at hd
      rcases (by omega : k = 1 ∨ k = 2) with rfl | rfl
      · exact ⟨h.1.2.1, by have := h.1.2.2; omega⟩
      · exact ⟨h.2.1, by have := h.2.2; omega⟩
    · simp only at hd; omega
  split at hd
  · rename_i h
    simp only [Bool.and_eq_true, decide_eq_true_eq, beq_iff_eq] at h
    split at hd
    · simp only at hd
      rcases (by omega : k = 1 ∨ k = 2 ∨ k = 3) with rfl | rfl | rfl
      · exact ⟨h.1.1.2.1, by have := h.1.1.2.2; omega⟩
      · exact ⟨h.1.2.1, by have := h.1.2.2; omega⟩
      · exact ⟨h.2.1, by have := h.2.2; omega⟩
    · simp only at hd; omega
  · simp only at hd; omega
/-- Up to there no byte is one of the two. -/
def Clean (s : ByteArray) (n : Nat) : Prop := ∀ j, j < n → j < s.size → (s.get! j).toNat ≠ 10 ∧ (s.get! j).toNat ≠ 13
theorem ns_at (s : ByteArray) (j : Nat) (h : j < s.size) : (ns s)[j]? = some (s.get! j).toNat := by
  have hd : j < s.data.size := h
  simp [ns, ByteArray.get!, Array.getElem?_eq_getElem hd, getElem!_pos s.data j hd]
theorem odd_clean {s : ByteArray} (h : Clean s s.size) : odd (ns s) = false := by
  rw [odd, List.any_eq_false]
  intro c hc
  obtain ⟨j, hj, e⟩ := List.getElem_of_mem hc
  have hj' : j < s.size := by rw [ns_length] at hj; exact hj
  have h1 := ns_at s j hj'
  rw [List.getElem?_eq_getElem hj, e] at h1
  injection h1 with h1
  have := h j hj' hj'
  simp
  omega
theorem odd_hit {s : ByteArray} (j : Nat) (h : j < s.size) (hc : (s.get! j).toNat = 10 ∨ (s.get! j).toNat = 13) : odd (ns s) = true := by
  rw [odd, List.any_eq_true]
  refine ⟨(s.get! j).toNat, ?_, ?_⟩
  · exact List.mem_of_getElem? (ns_at s j h)
  · rcases hc with e | e <;> simp [e]
theorem get_is (s : ByteArray) (j : Nat) (h : j < s.size) : s.get! j = s[j]'h := by
  simp [ByteArray.get!, getElem!_pos, h]
  rfl

set_option maxHeartbeats 4000000 in
set_option maxRecDepth 100000 in
theorem indexAny_short (s : ByteArray) (w : World) (h8 : s.size ≤ 8) :
    Calls Tryz.prog 137 #[.string s, .string { data := #[13, 10] }] w fun e w' => ∃ k : Int, e = .returned (.int .i64 k) ∧ decide (0 ≤ k) = odd (ns s) ∧ Below w.heap.size w w' := by
  have hl : (s.size : Int) ≤ 8 := by omega
  have hn : ¬ ((8 : Int) < (s.size : Int)) := by omega
  have hdc : decide ((8 : Int) < (s.size : Int)) = false := by rw [decide_eq_false_iff_not]; exact hn
  go_enter Tryz.func137, Tryz.ntmps137
  go_wp2_with (go_at_call 152; refine (Ad.strings_shouldUseASCIISet _ _).mono ?_; rintro e w' ⟨rfl, hw⟩; subst w'; rw [hdc])
  go_loopw [] (fun wr => ∃ pos, wr.heap[w.heap.size]? = some (.stringIter s pos) ∧ Below w.heap.size w wr ∧ Hid (Clean s pos)) (fun wr => s.size - wr.iterPos w.heap.size)
  case atStart =>
    refine ⟨0, ?_, (Below.refl _ w).alloc (Nat.le_refl _) _, fun j hj => by omega⟩
    have := World.iter_heap w s 0
    simpa using this
  case round =>
    obtain ⟨pos, hit, hbw, HC⟩ := hrel
    by_cases hp : pos < s.size
    · have hnx : ∀ ty, (Instr.next (.pointer (some ⟨w.heap.size, 0, none⟩)) true ty).run Tryz.prog wr = _ := fun ty => Lib.run_next_any_at wr w.heap.size s pos ty hit hp
      obtain ⟨R, D, hRD, hR0, hD1, hgood, hbad⟩ : ∃ R D : Nat, Utf8.decode s pos = (R, D) ∧ 0 ≤ (R : Int) ∧ 1 ≤ D ∧ (¬ ((R : Int) = 13 ∨ (R : Int) = 10) → Clean s (pos + D)) ∧ (((R : Int) = 13 ∨ (R : Int) = 10) → odd (ns s) = true) := by
        refine ⟨(Utf8.decode s pos).1, (Utf8.decode s pos).2, rfl, by omega, ?_, ?_, ?_⟩
        · exact Ad.width_pos s pos hp
        · intro hne j hj hjs
          by_cases hjp : j < pos
          · exact HC.out j hjp hjs
          · by_cases hj0 : j = pos
            · subst hj0
              by_cases ha : (s[j]'hp).toNat < 128
              · rw [decode_ascii s j hp ha] at hne
                rw [get_is s j hp]
                simp only at hne
                omega
              · rw [get_is s j hp]
                omega
            · obtain ⟨k, rfl⟩ : ∃ k, j = pos + k := ⟨j - pos, by omega⟩
              have := (decode_conts s pos k (by omega) (by omega)).2
              omega
        · intro hx
          by_cases ha : (s[pos]'hp).toNat < 128
          · rw [decode_ascii s pos hp ha] at hx
            refine odd_hit pos hp ?_
            rw [get_is s pos hp]
            simp only at hx
            omega
          · have := (decode_high s pos hp (by omega)).1
            omega
      rw [hRD] at hnx
      have hit2 := Lib.iterAt_heap wr w.heap.size s pos (pos + D) hit
      have hbw2 := Lib.below_iterAt hbw (k := w.heap.size) (by omega) s (pos + D)
      have HG := Lib.hid hgood
      have HB := Lib.hid hbad
      have HX := Lib.hid (fun W => indexRune_any (R : Int) W hR0)
      have HIT2 := Lib.hid hit2
      have HBW2 := Lib.hid hbw2
      clear hgood hbad hRD hit2 hbw2
      go_wp2_with fail
      refine (HX.out _).mono ?_
      rintro e w2 ⟨k, rfl, hk, hb2⟩
      have HK := Lib.hid hk
      have HB2 := Lib.hid hb2
      have HIT3 : Hid (w2.heap[w.heap.size]? = some (.stringIter s (pos + D))) := Lib.hid ((hb2.block w.heap.size (by
        rcases Nat.lt_or_ge w.heap.size (wr.iterAt w.heap.size s (pos + D)).heap.size with h' | h'
        · exact h'
        · have := HIT2.out; rw [Array.getElem?_eq_none h'] at this; cases this)).trans HIT2.out)
      clear hk hb2
      by_cases hk0 : 0 ≤ k
      · have HO := Lib.hid (HB.out (HK.out.1 hk0))
        go_wp2
        go_ret
        refine ⟨(pos : Int), rfl, ?_, ?_⟩
        · rw [HO.out]; simp
        · exact HBW2.out.trans (below_more HB2.out HBW2.out.size)
      · have HG2 := Lib.hid (HG.out (fun hx => hk0 (HK.out.2 hx)))
        go_wp2
        go_roundw
        case rel => exact ⟨pos + D, HIT3.out, HBW2.out.trans (below_more HB2.out HBW2.out.size), HG2.out⟩
        case measure =>
          simp only [World.iterPos, HIT3.out, hit]
          omega
    · have hnx : ∀ ty, (Instr.next (.pointer (some ⟨w.heap.size, 0, none⟩)) true ty).run Tryz.prog wr = _ := fun ty => Lib.run_next_end_at wr w.heap.size s pos ty hit hp
      have HO := Lib.hid (odd_clean (s := s) (fun j hj hjs => HC.out j (by omega) hjs))
      go_wp2
      go_ret
      exact ⟨-1, rfl, by rw [HO.out]; rfl, hbw⟩

/-! ### ContainsAny -/
theorem indexAny_odd : ∀ l : List UInt8, decide (0 ≤ Lib.indexAny l [13, 10]) = odd (l.map UInt8.toNat)
  | [] => rfl
  | c :: l => by
    have ih := indexAny_odd l
    have hge := Lib.indexAny_ge [13, 10] l
    unfold Lib.indexAny
    by_cases hc : ([13, 10] : List UInt8).contains c = true
    · rw [if_pos hc]
      have : c = 13 ∨ c = 10 := by simpa using hc
      rcases this with rfl | rfl <;> simp [odd]
    · rw [if_neg hc]
      have hn : c ≠ 13 ∧ c ≠ 10 := by
        simp only [List.contains_cons, List.contains_nil, Bool.or_false, Bool.or_eq_true, beq_iff_eq, not_or] at hc
        exact hc
      have h1 : c.toNat ≠ 13 := fun e => hn.1 (UInt8.toNat_inj.1 e)
      have h2 : c.toNat ≠ 10 := fun e => hn.2 (UInt8.toNat_inj.1 e)
      have e1 : odd ((c :: l).map UInt8.toNat) = odd (l.map UInt8.toNat) := by
        simp [odd, h1, h2]
      rw [e1, ← ih]
      by_cases hm : (Lib.indexAny l [13, 10] == -1) = true
      · rw [if_pos hm]
        have : Lib.indexAny l [13, 10] = -1 := by simpa using hm
        rw [this]
      · rw [if_neg hm]
        have : Lib.indexAny l [13, 10] ≠ -1 := by simpa using hm
        rw [decide_eq_true (by omega), decide_eq_true (by omega)]
theorem zero169 : ∀ w, (zeroValue 169).run Tryz.prog w = .ok (.agg (Array.replicate 256 (.bool false))) w := fun w => by
  go_simp
  kernel_rfl
set_option maxHeartbeats 1000000 in
theorem containsC (s : ByteArray) (w : World) (hs : s.size ≤ 100000) :
    Calls Tryz.prog 109 #[.string s, .string { data := #[13, 10] }] w fun e w' => e = .returned (.bool (odd (ns s))) ∧ Keep (fun _ => False) w w' := by
  have hc : Calls Tryz.prog 137 #[.string s, .string { data := #[13, 10] }] w fun e w' => ∃ k : Int, e = .returned (.int .i64 k) ∧ decide (0 ≤ k) = odd (ns s) ∧ Below w.heap.size w w' := by
    by_cases h8 : s.size ≤ 8
    · exact indexAny_short s w h8
    · refine (Ad.strings_IndexAny_long zero169 s { data := #[13, 10] } w (by decide) (by omega) (by omega) (by decide) (by
        intro j b hb
        match j, hb with
        | 0, hb => have : (13 : UInt8) = b := by simpa using hb
                   subst this; decide
        | 1, hb => have : (10 : UInt8) = b := by simpa using hb
                   subst this; decide
        | (j + 2), hb => simp at hb)).mono ?_
      rintro e w' ⟨rfl, rfl⟩
      exact ⟨_, rfl, indexAny_odd _, ((Below.refl _ w).alloc (Nat.le_refl _) _).alloc (by simp) _⟩
  have HC := Lib.hid hc
  clear hc
  go_enter Tryz.func109, Tryz.ntmps109
  go_wp2_with fail
  refine HC.out.mono ?_
  rintro e w1 ⟨k, rfl, hk, hb⟩
  have HK := Lib.hid hk
  have HB := Lib.hid hb
  clear hk hb
  go_wp2
  go_ret
  refine ⟨?_, Keep.of_below HB.out⟩
  rw [← HK.out]
  rfl
end Go.Proofs.YtcjljldknekhiaaGreatDoor.Ln
end

section
/-
  An append of a string's bytes; one byte more; small words.
-/
namespace Go.Proofs.YtcjljldknekhiaaGreatDoor.Ln
open Go.RowKit
set_option linter.unusedVariables false
set_option linter.unusedSimpArgs false

theorem Mid.toG {w : World} {v : Value} {q : Option Nat} {bs : List Nat} (h : Mid w v q bs) : MidG 5 1 w v q bs.length (cellsOf bs) := by
  obtain ⟨hb, x, cap, hv, hc, h0⟩ := h
  refine ⟨by rw [cellsOf_length, Nat.mul_one], cellsOf_one bs, x, cap, hv, hc, ?_⟩
  rcases h0 with h0 | ⟨g, off, cur, hx, hq, hA, h1, h2⟩
  · exact .inl h0
  · exact .inr ⟨g, off, cur, hx, hq, hA, by rw [Nat.mul_one]; exact h1, fun i hi => by rw [cellsOf_length] at hi; rw [h2 i hi, cellsOf_at bs i hi]⟩
theorem MidG.toM {w : World} {v : Value} {q : Option Nat} {n : Nat} {bs : List Nat} (hb : ∀ c ∈ bs, c < 256) (h : MidG 5 1 w v q n (cellsOf bs)) : Mid w v q bs := by
  obtain ⟨hl, _, x, cap, hv, hc, h0⟩ := h
  rw [cellsOf_length, Nat.mul_one] at hl
  subst hl
  refine ⟨hb, x, cap, hv, hc, ?_⟩
  rcases h0 with h0 | ⟨g, off, cur, hx, hq, hA, h1, h2⟩
  · exact .inl h0
  · exact .inr ⟨g, off, cur, hx, hq, hA, by rw [Nat.mul_one] at h1; exact h1, fun i hi => by rw [h2 i (by rw [cellsOf_length]; exact hi), cellsOf_at bs i hi]⟩
/-- An append of a string's bytes. -/
theorem wpList_append_bstr {w : World} {ops : Array Oper} {rest : List Oper} {o : Oper} {a : Act} {Q : Exit → Act → World → Prop} (hgd : o.guard = none) (s t : Operand)
    (ho : o.op = .call { callee := .builtin .append, args := #[s, t], argTypes := #[34, 9] })
    (v : Value) (q : Option Nat) (bs : List Nat) (hs : a.eval s = v) (hM : Mid w v q bs) (A : ByteArray) (hx : a.eval t = .string A) (hl : bs.length + A.size ≤ 1000000000)
    (hK : ∀ y k cap q' w', Mid w' (.slice y k cap) q' (bs ++ ns A) → Keep (fun k => q = some k) w w' → New w q q' → wpList Tryz.prog ops Q rest (a.put o.dst (.slice y k cap)) w') :
    wpList Tryz.prog ops Q (o :: rest) a w := by
  obtain ⟨i0, hi, hz0, hz1, hz2⟩ := info_parts info5
  refine wpList_plain hgd fun K hK' => ?_
  have hM' : MidG 5 i0.size w v q bs.length (cellsOf bs) := by rw [hz1]; exact hM.toG
  have hsrc : Src Tryz.prog i0.size 9 (.string A) A.size (byteCells A) w := by rw [hz1]; exact Src.ofString w Tryz.underlying9 A
  obtain ⟨y, k, cap, q', w', hr, h2, h3, h4⟩ := run_append_midG (t := 34) o.type Tryz.underlying34 hi hz0 (by rw [hz1]; rfl) (by rw [hz1]; decide) (by rw [hz2]; decide) w v q bs.length (cellsOf bs) hM' _ A.size _ hsrc hl
  have e : cellsOf bs ++ byteCells A = cellsOf (bs ++ ns A) := by simp [cellsOf, byteCells, ns]
  rw [hz1, e] at h2
  have h2' := MidG.toM (fun c hc => by
    rcases List.mem_append.1 hc with hc | hc
    · exact hM.1 c hc
    · exact ns_lt A c hc) h2
  unfold Oper.wp execOp
  simp only [ho, resolve, invoke, builtin, Sem.run_bind, Sem.run_pure, Result.andThen_ok, List.map_toArray, List.map_cons, List.map_nil, hs, hx, hr]
  exact hK' _ _ (hK y k cap q' w' h2' h3 h4)
theorem one10 (w : World) : Bytes (fun b => b = w.heap.size) (w.alloc (.cells #[.int .u8 10] 5)) (some ⟨w.heap.size, 0, none⟩) [10] := by
  refine ⟨by simp, .inr ⟨w.heap.size, 0, rfl, rfl, fun i hi => ?_⟩⟩
  have : i = 0 := by simpa using hi
  subst this
  exact cell_of_row _ _ 0 _ _ (0, 0) (heap_alloc_new w _)
def nX : ByteArray := { data := #[120] }
theorem clamp_cell {z : Int} : ((clampS z : Nat) : Int) = min (max z 1) 8192 := by unfold clampS; omega
end Go.Proofs.YtcjljldknekhiaaGreatDoor.Ln
end
