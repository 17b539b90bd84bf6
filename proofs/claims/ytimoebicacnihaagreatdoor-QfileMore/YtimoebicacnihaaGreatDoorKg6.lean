/-
  Several texts in one: AFrame ARunes AMade ABuild AProg1 AProg2.
-/
import Derived.Test.YtimoebicacnihaaGreatDoorKAShelf
import Derived.Handed
import Derived.SizedLaws
import Derived.Stop.Joined
import Derived.Test.YtimoebicacnihaaGreatDoorKg2
import Derived.WalkKit
import Derived.WalkLawsBesides
import Derived.BigCall
import Derived.WalkMore
import Derived.RegionTactic
import Derived.ChangeAlike
import Derived.Deep.QuietTactic
import Derived.BigQuiet
import Derived.Deep.RegionHeld3
import Derived.Laws.Runes
import Derived.Handy
import Derived.Lib.OthersKept
import Derived.Lib.RuneBytes
import Derived.Lib.Builder
import Derived.Lib.FrozenHead2
import Derived.Lib.Hide

section
/-
  The frame of a law that lists variables, with the world's shape handed on; that the variable MaxLen holds some number.
-/
namespace Go.Proofs.YtimoebicacnihaaGreatDoor.Ad
open Go.RowKit
set_option linter.unusedVariables false

/-- A listed row's wrap: what is listed, and the first world's shape, for the contract. -/
theorem wrap {H : Type} {enc : TypeId × Value → H} {a : Assume} {C : Checked} {os : Os} {f : FuncId} {fn : Func} {s : ChangeSpec} {conds : List PathCond} {apart fresh handsOn again : Bool} {X : World → Array Value → Prop}
    (hX : ∀ (w w' : World) (args : Array Value), w.heap = w'.heap → X w args → X w' args)
    (own : ownKnob C.prog.godebug = none) (started : os.Started) (noInit : C.prog.inits.idxOf? f = none) (hfn : C.prog.funcs[f]? = some fn)
    (witness : ∃ (w : World) (tape : Tape) (i : Input), w.os = os ∧ (w.forCall tape i).Shaped C.prog ∧ i.vars = [] ∧ Input.okWide C.prog (w.forCall tape i) .any w.heap.size f i ∧
      ((s.pre enc C.prog fn conds apart (w.forCall tape i).memory i.args ∧ X (w.forCall tape i).memory i.args) ∧ sizedMet enc C.prog fn (OpenSpec.ofChange s) apart (w.forCall tape i).memory i.args) ∧ a.holds C.prog (lone (Frame.enter C.prog f i.args .normal) [] (w.forCall tape i)))
    (contract : ∀ (W : World) (base : Nat) (args : Array Value) (ds gs : List (DataW H)) (before : List MemPlace),
      (∀ (j : Nat) t v, fn.params[j]? = some t → args[j]? = some v → Value.okWide C.prog W .any base t v) →
      DataW.Whole enc C.prog fn.params.toList s.vars apart W args.toList ds gs before → W.ShapedOpen C.prog →
      Calls C.prog f args W fun e W' => ∃ v, e = .returned v ∧ s.post enc C.prog fn apart fresh handsOn again W args v W') :
    ReturnsInHanded a C os f .any (fun w args => (s.pre enc C.prog fn conds apart w args ∧ X w args) ∧ sizedMet enc C.prog fn (OpenSpec.ofChange s) apart w args) (s.post enc C.prog fn apart fresh handsOn again) := by
  refine returnsInHanded_of_calls own started noInit witness ?_
  intro w tape i _ shape _ ok pre _
  obtain ⟨_, _, _, fn', hfn', _, _, _, _, hval⟩ := ok
  cases Option.some.inj (hfn'.symm.trans hfn)
  obtain ⟨⟨⟨ds, gs, before, hw, _⟩, _⟩, _⟩ := pre
  refine (contract (w.forCall tape i) w.heap.size i.args ds gs before hval (DataW.Whole.of_heap (w' := w.forCall tape i) (by rfl) hw) shape).mono fun e W' ⟨v, he, hp⟩ => ?_
  subst he
  exact ChangeSpec.post_blind hp

/-- The library's MaxLen holds some number. -/
theorem maxLen_some (w : World) (h : w.ShapedOpen Tryz.prog) : ∃ m, w.cell? ⟨0, 0, none⟩ = some (.int .i64 m) :=
  Go.Proofs.cell_of_shapedOpen_int (zero := #[.int .i64 0]) (t := 3) h (of_decide_eq_true (by kernel_rfl)) (by kernel_rfl) rfl (by kernel_rfl) (by kernel_rfl) Tryz.underlying3
end Go.Proofs.YtimoebicacnihaaGreatDoor.Ad
end

section
/-
  Runes: what is a letter or a digit; texts of some signs alone.
-/
namespace Go.Proofs.YtimoebicacnihaaGreatDoor.Ad
open Go.RowKit
set_option linter.unusedVariables false

set_option maxHeartbeats 4000000 in
set_option maxRecDepth 100000 in
theorem isGreat_walk (r : Int) (w : World) : Calls Tryz.prog 92 #[.int .i32 r] w fun e w' => e = .returned (.bool (greatZ r)) ∧ w' = w := by
  by_cases h1 : 65 ≤ r
  · go_enter Tryz.func92, Tryz.ntmps92
    go_wp2
    go_ret
    refine ⟨?_, rfl⟩
    first | (simp [greatZ]; done) | (simp [greatZ]; omega)
  · go_enter Tryz.func92, Tryz.ntmps92
    go_wp2
    go_ret
    refine ⟨?_, rfl⟩
    first | (simp [greatZ]; done) | (simp [greatZ]; omega)

set_option maxHeartbeats 4000000 in
set_option maxRecDepth 100000 in
theorem isPlain_walk (r : Int) (w : World) : Calls Tryz.prog 102 #[.int .i32 r] w fun e w' => e = .returned (.bool (plainZ r)) ∧ w' = w := by
  by_cases h1 : 97 ≤ r ∧ r ≤ 122
  · have hv : plainZ r = true := by simp [plainZ]; omega
    rw [hv]
    go_enter Tryz.func102, Tryz.ntmps102
    go_wp2_with (go_at_call 92; refine (isGreat_walk r _).mono ?_; rintro e w' ⟨rfl, rfl⟩)
    go_ret
    exact ⟨rfl, rfl⟩
  · cases h3 : greatZ r with
    | true =>
      have hv : plainZ r = true := by simp [greatZ] at h3; simp [plainZ]; omega
      rw [hv]
      by_cases h2 : 97 ≤ r
      · exact absurd h3 (by simp [greatZ]; omega)
      · go_enter Tryz.func102, Tryz.ntmps102
        go_wp2_with (go_at_call 92; refine (isGreat_walk r _).mono ?_; rintro e w' ⟨rfl, rfl⟩; rw [h3])
        go_ret
        exact ⟨rfl, rfl⟩
    | false =>
      have hv : plainZ r = decide (48 ≤ r ∧ r ≤ 57) := by
        have e1 : decide (97 ≤ r ∧ r ≤ 122) = false := decide_eq_false h1
        unfold greatZ at h3
        rw [plainZ, e1, h3]; rfl
      rw [hv]
      by_cases h2 : 97 ≤ r <;> by_cases h4 : 48 ≤ r
      · have h5 : 122 < r := by omega
        go_enter Tryz.func102, Tryz.ntmps102
        go_wp2_with (go_at_call 92; refine (isGreat_walk r _).mono ?_; rintro e w' ⟨rfl, rfl⟩; rw [h3])
        go_ret
        exact ⟨by simp [h4]; omega, rfl⟩
      · omega
      · go_enter Tryz.func102, Tryz.ntmps102
        go_wp2_with (go_at_call 92; refine (isGreat_walk r _).mono ?_; rintro e w' ⟨rfl, rfl⟩; rw [h3])
        go_ret
        exact ⟨by simp [h4], rfl⟩
      · go_enter Tryz.func102, Tryz.ntmps102
        go_wp2_with (go_at_call 92; refine (isGreat_walk r _).mono ?_; rintro e w' ⟨rfl, rfl⟩; rw [h3])
        go_ret
        exact ⟨by simp; omega, rfl⟩

/-! ### A rune that is not ASCII's, in a text that is -/
theorem width_pos (s : ByteArray) (pos : Nat) (h : pos < s.size) : 1 ≤ (Utf8.decode s pos).2 := by
  by_cases ha : (s[pos]'h).toNat < 128
  · rw [decode_ascii s pos h ha]
    exact Nat.le_refl _
  · exact (decode_high s pos h (by omega)).2

set_option maxHeartbeats 4000000 in
set_option maxRecDepth 100000 in
theorem indexRune_error (s : ByteArray) (w : World) (ha : ∀ k (h : k < s.size), (s[k]'h).toNat < 128) :
    Calls Tryz.prog 113 #[.string s, .int .i32 65533] w fun e w' => e = .returned (.int .i64 (-1)) ∧ Below w.heap.size w w' := by
  go_enter Tryz.func113, Tryz.ntmps113
  go_wp2
  go_loopw [] (fun wr => ∃ pos, wr.heap[w.heap.size]? = some (.stringIter s pos) ∧ Below w.heap.size w wr) (fun wr => s.size - wr.iterPos w.heap.size)
  case atStart =>
    refine ⟨0, ?_, (Below.refl _ w).alloc (Nat.le_refl _) _⟩
    have := World.iter_heap w s 0
    simpa using this
  case round =>
    obtain ⟨pos, hit, hbw⟩ := hrel
    by_cases hp : pos < s.size
    · have hnx : ∀ ty, (Instr.next (.pointer (some ⟨w.heap.size, 0, none⟩)) true ty).run Tryz.prog wr = _ := fun ty => Lib.run_next_any_at wr w.heap.size s pos ty hit hp
      have ea := decode_ascii s pos hp (ha pos hp)
      have hl := ha pos hp
      have hwd := width_pos s pos hp
      have hit2 := Lib.iterAt_heap wr w.heap.size s pos (pos + 1) hit
      have hbw2 := Lib.below_iterAt hbw (k := w.heap.size) (by omega) s (pos + 1)
      go_wp2
      go_roundw
      case rel => exact ⟨_, hit2, hbw2⟩
      case measure =>
        simp only [World.iterPos, hit2, hit]
        omega
    · have hnx : ∀ ty, (Instr.next (.pointer (some ⟨w.heap.size, 0, none⟩)) true ty).run Tryz.prog wr = _ := fun ty => Lib.run_next_end_at wr w.heap.size s pos ty hit hp
      go_wp2
      go_ret
      exact ⟨rfl, hbw⟩

/-- The bytes of a rune that is not ASCII's: two to four, the last one above 127. -/
def HighEnd (E : ByteArray) : Prop := 2 ≤ E.size ∧ E.size ≤ 4 ∧ ∀ h : E.size - 1 < E.size, 128 ≤ (E[E.size - 1]'h).toNat
theorem encode_high (r : Int) (h0 : 128 ≤ r) : HighEnd (Utf8.encode r) := by
  have hc : 128 ≤ (if Utf8.valid r then r.toNat else Utf8.runeError) := by
    split
    · omega
    · decide
  unfold Utf8.encode
  generalize (if Utf8.valid r then r.toNat else Utf8.runeError) = c at hc
  have hlast : ∀ c : Nat, 128 ≤ (UInt8.ofNat (128 + c % 64)).toNat := fun c => by
    rw [UInt8.toNat_ofNat']
    omega
  simp only
  rw [if_neg (by omega)]
  split
  · exact ⟨(by show 2 ≤ 2; decide), (by show 2 ≤ 4; decide), fun h => hlast c⟩
  · split
    · exact ⟨(by show 2 ≤ 3; decide), (by show 3 ≤ 4; decide), fun h => hlast c⟩
    · exact ⟨(by show 2 ≤ 4; decide), (by show 4 ≤ 4; decide), fun h => hlast c⟩

set_option maxHeartbeats 4000000 in
set_option maxRecDepth 100000 in
/-- A rune that is not ASCII's is not in a text of one byte. -/
theorem indexRune_one (r : Int) (w : World) (h0 : 128 ≤ r) (h1 : r ≠ 65533) :
    Calls Tryz.prog 113 #[.string { data := #[45] }, .int .i32 r] w fun e w' => e = .returned (.int .i64 (-1)) ∧ Below w.heap.size w w' := by
  obtain ⟨l2, l4, hl⟩ := encode_high r h0
  have l3 : ¬ ((Utf8.encode r).size : Int) - 1 < 1 := by omega
  cases hv : Lib.validRune r with
  | false =>
    go_enter Tryz.func113, Tryz.ntmps113
    go_wp2_with (go_at_call 121; refine (utf8_ValidRune r _).mono ?_; rintro e w' ⟨rfl, rfl⟩; rw [hv])
    go_ret
    exact ⟨rfl, Below.refl _ _⟩
  | true =>
    go_enter Tryz.func113, Tryz.ntmps113
    go_wp2_with (go_at_call 121; refine (utf8_ValidRune r _).mono ?_; rintro e w' ⟨rfl, rfl⟩; rw [hv])
    go_step3
    go_wp2
    go_rounds 1
    rw [Exit.noGoto_ret]
    go_ret
    exact ⟨rfl, Below.refl _ _⟩

/-- .. nor in the signs of a local part. -/
def HighEnds (E : ByteArray) : Prop := (∃ a d : UInt8, E = { data := #[a, d] } ∧ 128 ≤ d.toNat) ∨ (∃ a b d : UInt8, E = { data := #[a, b, d] } ∧ 128 ≤ d.toNat) ∨ (∃ a b c d : UInt8, E = { data := #[a, b, c, d] } ∧ 128 ≤ d.toNat)
theorem encode_ends (r : Int) (h0 : 128 ≤ r) : HighEnds (Utf8.encode r) := by
  have hc : 128 ≤ (if Utf8.valid r then r.toNat else Utf8.runeError) := by
    split
    · omega
    · decide
  unfold Utf8.encode
  generalize (if Utf8.valid r then r.toNat else Utf8.runeError) = c at hc
  have hlast : ∀ c : Nat, 128 ≤ (UInt8.ofNat (128 + c % 64)).toNat := fun c => by
    rw [UInt8.toNat_ofNat']
    omega
  simp only
  rw [if_neg (by omega)]
  split
  · exact .inl ⟨_, _, rfl, hlast c⟩
  · split
    · exact .inr (.inl ⟨_, _, _, rfl, hlast c⟩)
    · exact .inr (.inr ⟨_, _, _, _, rfl, hlast c⟩)
theorem indexByte_high (d : UInt8) (hd : 128 ≤ d.toNat) : ∀ l : List UInt8, (∀ x ∈ l, x.toNat < 128) → Lib.indexByte l d = -1
  | [], _ => rfl
  | x :: l, h => by
    have hx := h x (List.mem_cons_self ..)
    have hne : (x == d) = false := by
      rw [beq_eq_false_iff_ne]
      rintro rfl
      omega
    unfold Lib.indexByte
    rw [hne, indexByte_high d hd l (fun y hy => h y (List.mem_cons_of_mem _ hy))]
    rfl

set_option maxHeartbeats 4000000 in
set_option maxRecDepth 100000 in
theorem indexRune_four (r : Int) (w : World) (h0 : 128 ≤ r) (h1 : r ≠ 65533) :
    Calls Tryz.prog 113 #[.string { data := #[46, 95, 43, 45] }, .int .i32 r] w fun e w' => e = .returned (.int .i64 (-1)) ∧ Below w.heap.size w w' := by
  cases hv : Lib.validRune r with
  | false =>
    go_enter Tryz.func113, Tryz.ntmps113
    go_wp2_with (go_at_call 121; refine (utf8_ValidRune r _).mono ?_; rintro e w' ⟨rfl, rfl⟩; rw [hv])
    go_ret
    exact ⟨rfl, Below.refl _ _⟩
  | true =>
    rcases encode_ends r h0 with ⟨a, d, hE, hd⟩ | ⟨a, b, d, hE, hd⟩ | ⟨a, b, c, d, hE, hd⟩
    · have n2 : ¬ (((({ data := #[46, 95, 43, 45] } : ByteArray)[1]'(show 1 < 4 by decide)).toNat : Int) = ((({ data := #[a, d] } : ByteArray)[1]'(show 1 < 2 by decide)).toNat : Int)) := by
        show ¬ ((95 : Int) = (d.toNat : Int))
        omega
      have hw2 : IntKind.i64.wrap 2 = 2 := by decide
      have hc : ∀ W, Calls Tryz.prog 120 #[.string (({ data := #[46, 95, 43, 45] } : ByteArray).extract 2 4), .int .u8 ((({ data := #[a, d] } : ByteArray)[1]'(show 1 < 2 by decide)).toNat : Int)] W fun e w' => e = .returned (.int .i64 (-1)) ∧ w' = W := fun W => by
        have := strings_IndexByte (({ data := #[46, 95, 43, 45] } : ByteArray).extract 2 4) (d.toNat : Int) W
        rw [show ((d.toNat : Int).toNat.toUInt8) = d by simp, indexByte_high d hd _ (by decide)] at this
        exact this
      go_enter Tryz.func113, Tryz.ntmps113
      go_wp2_with (go_at_call 121; refine (utf8_ValidRune r _).mono ?_; rintro e w' ⟨rfl, rfl⟩; rw [hv])
      go_step3
      go_wp2
      refine wp_loop_rounds 1 ?_
      rw [rounds_succ]
      go_wp2_with fail
      go_step3
      go_wp2
      go_region
      go_wp2
      · go_region_held3 (fun _ => True) (exact trivial) (first | (go_at_call 120; refine (hc _).mono ?_; rintro e w1 ⟨rfl, rfl⟩))
        go_wp2
        rw [Exit.noGoto_ret]
        go_wp2
        rw [Exit.noGoto_ret]
        go_ret
        exact ⟨rfl, ((Below.refl _ _).drew).drew⟩
    · have n2 : ¬ (((({ data := #[46, 95, 43, 45] } : ByteArray)[2]'(show 2 < 4 by decide)).toNat : Int) = ((({ data := #[a, b, d] } : ByteArray)[2]'(show 2 < 3 by decide)).toNat : Int)) := by
        show ¬ ((43 : Int) = (d.toNat : Int))
        omega
      have hw2 : IntKind.i64.wrap 3 = 3 := by decide
      have hc : ∀ W, Calls Tryz.prog 120 #[.string (({ data := #[46, 95, 43, 45] } : ByteArray).extract 3 4), .int .u8 ((({ data := #[a, b, d] } : ByteArray)[2]'(show 2 < 3 by decide)).toNat : Int)] W fun e w' => e = .returned (.int .i64 (-1)) ∧ w' = W := fun W => by
        have := strings_IndexByte (({ data := #[46, 95, 43, 45] } : ByteArray).extract 3 4) (d.toNat : Int) W
        rw [show ((d.toNat : Int).toNat.toUInt8) = d by simp, indexByte_high d hd _ (by decide)] at this
        exact this
      go_enter Tryz.func113, Tryz.ntmps113
      go_wp2_with (go_at_call 121; refine (utf8_ValidRune r _).mono ?_; rintro e w' ⟨rfl, rfl⟩; rw [hv])
      go_step3
      go_wp2
      refine wp_loop_rounds 1 ?_
      rw [rounds_succ]
      go_wp2_with fail
      go_step3
      go_wp2
      go_region
      go_wp2
      · go_region_held3 (fun _ => True) (exact trivial) (first | (go_at_call 120; refine (hc _).mono ?_; rintro e w1 ⟨rfl, rfl⟩))
        go_wp2
        rw [Exit.noGoto_ret]
        go_wp2
        rw [Exit.noGoto_ret]
        go_ret
        exact ⟨rfl, ((Below.refl _ _).drew).drew⟩
    · have n2 : ¬ (((({ data := #[46, 95, 43, 45] } : ByteArray)[3]'(show 3 < 4 by decide)).toNat : Int) = ((({ data := #[a, b, c, d] } : ByteArray)[3]'(show 3 < 4 by decide)).toNat : Int)) := by
        show ¬ ((45 : Int) = (d.toNat : Int))
        omega
      have hw2 : IntKind.i64.wrap 4 = 4 := by decide
      have hc : ∀ W, Calls Tryz.prog 120 #[.string ByteArray.empty, .int .u8 ((({ data := #[a, b, c, d] } : ByteArray)[3]'(show 3 < 4 by decide)).toNat : Int)] W fun e w' => e = .returned (.int .i64 (-1)) ∧ w' = W := fun W => by
        have := strings_IndexByte ByteArray.empty (d.toNat : Int) W
        rw [show ((d.toNat : Int).toNat.toUInt8) = d by simp, indexByte_high d hd _ (by decide)] at this
        exact this
      go_enter Tryz.func113, Tryz.ntmps113
      go_wp2_with (go_at_call 121; refine (utf8_ValidRune r _).mono ?_; rintro e w' ⟨rfl, rfl⟩; rw [hv])
      go_step3
      go_wp2
      refine wp_loop_rounds 1 ?_
      rw [rounds_succ]
      go_wp2_with fail
      go_step3
      go_wp2
      go_region
      go_wp2
      · go_region_held3 (fun _ => True) (exact trivial) (first | (go_at_call 120; refine (hc _).mono ?_; rintro e w1 ⟨rfl, rfl⟩))
        go_wp2
        rw [Exit.noGoto_ret]
        go_wp2
        rw [Exit.noGoto_ret]
        go_ret
        exact ⟨rfl, ((Below.refl _ _).drew).drew⟩
end Go.Proofs.YtimoebicacnihaaGreatDoor.Ad
end

section
/-
  Texts of letters, digits and some signs alone.
-/
namespace Go.Proofs.YtimoebicacnihaaGreatDoor.Ad
open Go.RowKit
set_option linter.unusedVariables false
set_option linter.unusedSimpArgs false

/-- The two lists of signs that are asked for. -/
def Signs (g : ByteArray) : Prop := g = { data := #[45] } ∨ g = { data := #[46, 95, 43, 45] }
def signB (g : ByteArray) (r : Int) : Bool := decide (r < 128) && g.data.toList.contains r.toNat.toUInt8
theorem indexByte_contains (c : UInt8) : ∀ l : List UInt8, decide (0 ≤ Lib.indexByte l c) = l.contains c
  | [] => rfl
  | x :: l => by
    have ih := indexByte_contains c l
    have hg := Lib.indexByte_ge l c
    unfold Lib.indexByte
    rw [List.contains_cons, Bool.beq_comm, ← ih]
    cases hx : (c == x) with
    | true =>
      rw [Bool.beq_comm] at hx
      simp [hx]
    | false =>
      rw [Bool.beq_comm] at hx
      simp only [hx, Bool.false_eq_true, if_false, Bool.false_or]
      split
      · rename_i h
        rw [beq_iff_eq] at h
        rw [h]
      · rename_i h
        have hne : Lib.indexByte l c ≠ -1 := fun e => h (by rw [e]; rfl)
        rw [decide_eq_decide]
        omega

set_option maxHeartbeats 4000000 in
set_option maxRecDepth 100000 in
theorem containsRune_walk (g : ByteArray) (hg : Signs g) (r : Int) (h0 : 0 ≤ r) (w : World) :
    Calls Tryz.prog 103 #[.string g, .int .i32 r] w fun e w' => e = .returned (.bool (signB g r)) ∧ Below w.heap.size w w' := by
  by_cases h1 : r < 128
  · refine (strings_ContainsRune_ascii g r w h0 h1).mono ?_
    rintro e w' ⟨rfl, rfl⟩
    refine ⟨?_, Below.refl _ _⟩
    rw [indexByte_contains, signB, decide_eq_true h1, Bool.true_and]
  · have hc : Calls Tryz.prog 113 #[.string g, .int .i32 r] w fun e w' => e = .returned (.int .i64 (-1)) ∧ Below w.heap.size w w' := by
      by_cases h2 : r = 65533
      · subst h2
        refine indexRune_error g w ?_
        rcases hg with rfl | rfl
        · decide
        · decide
      · rcases hg with rfl | rfl
        · exact indexRune_one r w (by omega) h2
        · exact indexRune_four r w (by omega) h2
    rw [signB, decide_eq_false h1, Bool.false_and]
    go_enter Tryz.func103, Tryz.ntmps103
    go_wp2_with (go_at_call 113; refine hc.mono ?_; rintro e w1 ⟨rfl, hb⟩)
    go_ret
    exact ⟨rfl, hb⟩

/-! ### isMadeOf -/
def okB (g : ByteArray) (c : UInt8) : Bool := plain c || g.data.toList.contains c
theorem madeOf_take {g : ByteArray} {l : List UInt8} {k : Nat} (h : k < l.length) (ht : madeOf g.data.toList (l.take k) = true) (hk : okB g l[k] = true) : madeOf g.data.toList (l.take (k + 1)) = true := by
  unfold madeOf at *
  rw [List.take_succ_eq_append_getElem h, List.all_append, ht]
  simp only [List.all_cons, List.all_nil, Bool.and_true, Bool.true_and]
  exact hk
theorem madeOf_false {g : ByteArray} {l : List UInt8} {k : Nat} (h : k < l.length) (hk : okB g l[k] = false) : madeOf g.data.toList l = false := by
  unfold madeOf
  rw [List.all_eq_false]
  exact ⟨l[k], List.getElem_mem h, by unfold okB at hk; rw [hk]; decide⟩
theorem okB_low (g : ByteArray) (c : UInt8) (h : c.toNat < 128) : okB g c = (plainZ (c.toNat : Int) || signB g (c.toNat : Int)) := by
  have e : (c.toNat : Int).toNat.toUInt8 = c := by simp
  rw [okB, signB, e, decide_eq_true (by omega), Bool.true_and]
  rfl
theorem okB_high (g : ByteArray) (hg : Signs g) (c : UInt8) (h : 128 ≤ c.toNat) : okB g c = false := by
  have h1 : plain c = false := by
    simp [plain, plainZ]
    omega
  have h2 : ∀ x ∈ g.data.toList, x.toNat < 128 := by rcases hg with rfl | rfl <;> decide
  rw [okB, h1, Bool.false_or]
  cases hc : g.data.toList.contains c with
  | false => rfl
  | true =>
    rw [List.contains_iff_mem] at hc
    have := h2 c hc
    omega

theorem plainZ_high (r : Int) (h : 128 ≤ r) : plainZ r = false := by
  simp [plainZ]
  omega

set_option maxHeartbeats 4000000 in
set_option maxRecDepth 100000 in
theorem isMadeOf_walk (s g : ByteArray) (hg : Signs g) (w : World) :
    Calls Tryz.prog 88 #[.string s, .string g] w fun e w' => e = .returned (.bool (madeOf g.data.toList s.data.toList)) ∧ Below w.heap.size w w' := by
  have hsz : s.data.toList.length = s.size := Array.length_toList
  go_enter Tryz.func88, Tryz.ntmps88
  go_wp2
  go_loopw [] (fun wr => ∃ pos, wr.heap[w.heap.size]? = some (.stringIter s pos) ∧ Below w.heap.size w wr ∧ pos ≤ s.size ∧ madeOf g.data.toList (s.data.toList.take pos) = true) (fun wr => s.size - wr.iterPos w.heap.size)
  case atStart =>
    refine ⟨0, ?_, (Below.refl _ w).alloc (Nat.le_refl _) _, by omega, rfl⟩
    have := World.iter_heap w s 0
    simpa using this
  case round =>
    obtain ⟨pos, hit, hbw, hle, hall⟩ := hrel
    by_cases hp : pos < s.size
    · have hnx : ∀ ty, (Instr.next (.pointer (some ⟨w.heap.size, 0, none⟩)) true ty).run Tryz.prog wr = _ := fun ty => Lib.run_next_any_at wr w.heap.size s pos ty hit hp
      have hgt : s.data.toList[pos]'(by omega) = s[pos]'hp := by simp [ByteArray.getElem_eq_getElem_data]
      have hlt : w.heap.size < wr.heap.size := (Array.getElem?_eq_some_iff.1 hit).1
      by_cases hl : (s[pos]'hp).toNat < 128
      · have ea := decode_ascii s pos hp hl
        have hit2 := Lib.iterAt_heap wr w.heap.size s pos (pos + 1) hit
        have hbw2 := Lib.below_iterAt hbw (k := w.heap.size) (by omega) s (pos + 1)
        have hsi := Lib.iterAt_size wr w.heap.size s (pos + 1)
        have hok := okB_low g (s[pos]'hp) hl
        cases hpl : plainZ ((s[pos]'hp).toNat : Int) with
        | true =>
          rw [hpl, Bool.true_or] at hok
          go_wp2_with (go_at_call 102; refine (isPlain_walk _ _).mono ?_; rintro e w1 ⟨rfl, rfl⟩; rw [hpl])
          go_roundw
          case rel => exact ⟨pos + 1, hit2, hbw2, by omega, madeOf_take (by omega) hall (by rw [hgt]; exact hok)⟩
          case measure =>
            simp only [World.iterPos, hit2, hit]
            omega
        | false =>
          rw [hpl, Bool.false_or] at hok
          cases hsg : signB g ((s[pos]'hp).toNat : Int) with
          | true =>
            rw [hsg] at hok
            go_wp2_with (first | (go_at_call 102; refine (isPlain_walk _ _).mono ?_; rintro e w1 ⟨rfl, rfl⟩; rw [hpl]) | (go_at_call 103; refine (containsRune_walk g hg _ (by omega) _).mono ?_; rintro e w1 ⟨rfl, hb1⟩; rw [hsg]))
            go_roundw
            case rel => exact ⟨pos + 1, (hb1.block _ (by omega)).trans hit2, hbw2.trans (hb1.mono (by omega)), by omega, madeOf_take (by omega) hall (by rw [hgt]; exact hok)⟩
            case measure =>
              simp only [World.iterPos, (hb1.block _ (by omega)).trans hit2, hit]
              omega
          | false =>
            rw [hsg] at hok
            go_wp2_with (first | (go_at_call 102; refine (isPlain_walk _ _).mono ?_; rintro e w1 ⟨rfl, rfl⟩; rw [hpl]) | (go_at_call 103; refine (containsRune_walk g hg _ (by omega) _).mono ?_; rintro e w1 ⟨rfl, hb1⟩; rw [hsg]))
            go_ret
            refine ⟨?_, hbw2.trans (hb1.mono (by omega))⟩
            rw [madeOf_false (g := g) (k := pos) (by omega) (by rw [hgt]; exact hok)]
            rfl
      · have hd := decode_high s pos hp (by omega)
        have hpl : plainZ ((Utf8.decode s pos).1 : Int) = false := plainZ_high _ (by omega)
        have hsg : signB g ((Utf8.decode s pos).1 : Int) = false := by rw [signB, decide_eq_false (by omega), Bool.false_and]
        have hbw2 := Lib.below_iterAt hbw (k := w.heap.size) (by omega) s (pos + (Utf8.decode s pos).2)
        have hsi := Lib.iterAt_size wr w.heap.size s (pos + (Utf8.decode s pos).2)
        have hok := okB_high g hg (s[pos]'hp) (by omega)
        go_wp2_with (first | (go_at_call 102; refine (isPlain_walk _ _).mono ?_; rintro e w1 ⟨rfl, rfl⟩; rw [hpl]) | (go_at_call 103; refine (containsRune_walk g hg _ (by omega) _).mono ?_; rintro e w1 ⟨rfl, hb1⟩; rw [hsg]))
        go_ret
        refine ⟨?_, hbw2.trans (hb1.mono (by omega))⟩
        rw [madeOf_false (g := g) (k := pos) (by omega) (by rw [hgt]; exact hok)]
        rfl
    · have hnx : ∀ ty, (Instr.next (.pointer (some ⟨w.heap.size, 0, none⟩)) true ty).run Tryz.prog wr = _ := fun ty => Lib.run_next_end_at wr w.heap.size s pos ty hit hp
      go_wp2
      go_ret
      rw [List.take_of_length_le (by omega)] at hall
      rw [hall]
      exact ⟨rfl, hbw⟩
end Go.Proofs.YtimoebicacnihaaGreatDoor.Ad
end

section
/-
  A text in small letters, by a Builder.
-/
namespace Go.Proofs.YtimoebicacnihaaGreatDoor.Ad
open Go.RowKit Go.Shelf
set_option linter.unusedVariables false
set_option linter.unusedSimpArgs false

/-! ### The Builder's own check -/
theorem sizeBuilder : (Tryz.prog.info? 114).map (·.size) = some 2 := by kernel_rfl
theorem liesBuilder : liesAt Tryz.prog Tryz.prog.depth 114 (2 / Tryz.prog.cellsOf 114) 0 114 1 = true := by kernel_rfl

set_option maxHeartbeats 4000000 in
set_option maxRecDepth 100000 in
theorem copyCheck_fresh (b : Nat) (w : World) (h0 : w.cell? ⟨b, 0, none⟩ = some (.pointer none)) (hsh : w.shape? b = some (114, 2)) (hfz : w.frozen? ⟨b, 0, none⟩ = false) :
    Calls Tryz.prog 105 #[.pointer (some ⟨b, 0, none⟩)] w fun e w' => e = .returned (.tuple #[]) ∧ w' = w.setCell ⟨b, 0, none⟩ (.pointer (some ⟨b, 0, none⟩)) := by
  obtain ⟨j, hj, hjs⟩ := Option.map_eq_some_iff.1 sizeBuilder
  go_enter Tryz.func105, Tryz.ntmps105
  go_wp2
  rw [Lib.run_to_unsafe w ⟨b, 0, none⟩ Tryz.underlying112 Tryz.underlying132 hj (by rw [hjs]; decide) hsh (Nat.zero_lt_succ 1)]
  simp only [Result.andThen]
  rw [Oper.upon_value]
  go_wp2
  rw [run_callFunc_extern Tryz.func116 (by kernel_rfl) (by kernel_rfl) (by kernel_rfl) (e := Extern.AbiNoEscape.same) (by kernel_rfl)]
  rw [Lib.run_noEscape]
  simp only [Result.andThen]
  rw [Oper.upon_value]
  go_wp2
  rw [Lib.run_from_unsafe w ⟨b, 0, none⟩ Tryz.underlying132 Tryz.underlying112 hj hsh liesBuilder]
  simp only [Result.andThen]
  rw [Oper.upon_value]
  go_wp2
  go_end0
  exact ⟨rfl, rfl⟩

set_option maxHeartbeats 4000000 in
set_option maxRecDepth 100000 in
theorem copyCheck_used (b : Nat) (w : World) (h0 : w.cell? ⟨b, 0, none⟩ = some (.pointer (some ⟨b, 0, none⟩))) :
    Calls Tryz.prog 105 #[.pointer (some ⟨b, 0, none⟩)] w fun e w' => e = .returned (.tuple #[]) ∧ w' = w := by
  obtain ⟨j, hj, _⟩ := Option.map_eq_some_iff.1 sizeBuilder
  go_enter Tryz.func105, Tryz.ntmps105
  go_wp2
  rw [Lib.run_neq_ptr_same w _ Tryz.underlying112 hj]
  go_wp2
  go_end0
  exact ⟨rfl, rfl⟩

theorem copyCheck_walk (B b : Nat) (bs : List Value) (w : World) (h : Lib.IsBuilderF 114 5 B b bs w) :
    Calls Tryz.prog 105 #[.pointer (some ⟨b, 0, none⟩)] w fun e w' => e = .returned (.tuple #[]) ∧ (Lib.BuilderAtF 114 5 B b (.pointer (some ⟨b, 0, none⟩)) bs w' ∧ Below B w w' ∧ Lib.OthersKept 5 (some b) w w') := by
  rcases h with h | h
  · refine (copyCheck_fresh b w h.cell0 h.shape h.frozen0).mono ?_
    rintro e w' ⟨rfl, rfl⟩
    exact ⟨rfl, h.used _, (Below.refl B w).setCell (p := ⟨b, 0, none⟩) h.1 _, (Lib.OthersKept.refl _ _ w).setCell ⟨b, 0, none⟩ rfl _⟩
  · refine (copyCheck_used b w h.cell0).mono ?_
    rintro e w' ⟨rfl, rfl⟩
    exact ⟨rfl, h, Below.refl B _, Lib.OthersKept.refl _ _ _⟩

set_option maxHeartbeats 4000000 in
set_option maxRecDepth 100000 in
/-- A rune of ASCII's is written. -/
theorem writeRune_walk (B b : Nat) (bs : List Value) (r : Int) (hr0 : 0 ≤ r) (hr1 : r ≤ 127) (w : World) (h : Lib.IsBuilderF 114 5 B b bs w) (hlen : bs.length + 4 ≤ 140737488355328) (hBw : B ≤ w.heap.size) :
    Calls Tryz.prog 93 #[.pointer (some ⟨b, 0, none⟩), .int .i32 r] w fun e w' => e = .returned (.tuple #[.int .i64 1, .nilIface]) ∧ (Lib.IsBuilderF 114 5 B b (bs ++ [.int .u8 r]) w' ∧ Below B w w' ∧ Lib.OthersKept 5 (some b) w w') := by
  have er : Lib.runeCells r = [.int .u8 r] := by simp [Lib.runeCells, Lib.encodeRuneZ_one hr0 hr1]
  go_enter Tryz.func93, Tryz.ntmps93
  go_wp2_with (go_at_call 105; refine (copyCheck_walk B b bs _ h).mono ?_)
  rintro e w1 ⟨rfl, h1, hb1, hk1⟩
  obtain ⟨hB, v, hbk, hown, hne⟩ := h1
  obtain ⟨ao, cap, rfl⟩ : ∃ ao cap, v = .slice ao bs.length cap := by
    rcases hown.2 with ⟨hv, h0⟩ | ⟨g, cap, cur, fz, hv, _⟩
    · exact ⟨none, 0, by rw [hv, h0]⟩
    · exact ⟨_, _, hv⟩
  have c0 : w1.cell? ⟨b, 0, none⟩ = some (.pointer (some ⟨b, 0, none⟩)) := by rw [Lib.cell_of_heap hbk]; rfl
  have c1 : w1.cell? ⟨b, 1, none⟩ = some (.slice ao bs.length cap) := by rw [Lib.cell_of_heap hbk]; rfl
  go_wp2_with (go_at_call 106; refine (utf8_AppendRune_row B _ bs.length bs r (by omega) (by omega) _ hown hlen (by have := hb1.size; omega)).mono ?_)
  rw [er]
  rintro e w2 ⟨v', rfl, hown', o, hgrow⟩
  have hlt : b < w1.heap.size := by
    rcases Nat.lt_or_ge b w1.heap.size with h' | h'
    · exact h'
    · simp [Array.getElem?_eq_none h'] at hbk
  have hb2 : w2.heap[b]? = some (.cells #[.pointer (some ⟨b, 0, none⟩), .slice ao bs.length cap] 114 (0, 0)) := by
    rw [hgrow.block b (by simp; omega) (fun e => hne e.symm), Lib.alloc_old w1 _ b hlt]
    exact hbk
  have d0 : w2.cell? ⟨b, 0, none⟩ = some (.pointer (some ⟨b, 0, none⟩)) := by rw [Lib.cell_of_heap hb2]; rfl
  have d1 : w2.cell? ⟨b, 1, none⟩ = some (.slice ao bs.length cap) := by rw [Lib.cell_of_heap hb2]; rfl
  have f1 : w2.frozen? ⟨b, 1, none⟩ = false := Lib.frozen_of_heap hb2 1
  obtain ⟨g, cap', rfl⟩ : ∃ g cap', v' = .slice (some ⟨g, 0, none⟩) (bs.length + 1) cap' := by
    rcases hown'.2 with ⟨_, h0⟩ | ⟨g, cap', cur, fz, hv, _⟩
    · simp at h0
    · exact ⟨g, cap', hv⟩
  go_wp2
  go_ret2
  refine ⟨?_, ?_, ?_, ((hk1.alloc _).grown hgrow (Lib.ownsRowF_kind (hown.alloc _))).setCell ⟨b, 1, none⟩ rfl _⟩
  · have e : ((bs.length : Int) + 1 - (bs.length : Int)) = 1 := by omega
    simp [e]
  · exact .inr (Lib.BuilderAtF.put (T := 114) (e := 5) hB hb2 (bs' := bs ++ [.int .u8 r]) (by simpa using hown') (by decide))
  · exact ((hb1.alloc (by have := hb1.size; omega) _).grown hgrow (by have := hb1.size; simp; omega) (fun k hk => (hown.lt k hk).1)).setCell (p := ⟨b, 1, none⟩) hB _

/-! ### small -/
theorem lower_nat (c : UInt8) (h : c.toNat < 128) : ((lower c).toNat : Int) = if greatZ c.toNat then (c.toNat : Int) + 32 else c.toNat := by
  unfold lower
  cases hg : greatZ c.toNat with
  | false => rfl
  | true =>
    simp only [if_true]
    simp [greatZ] at hg
    rw [UInt8.toNat_add]
    simp
    omega
theorem byteCells_one (c : UInt8) : Lib.byteCells [c] = [.int .u8 (c.toNat : Int)] := rfl

set_option maxHeartbeats 4000000 in
set_option maxRecDepth 100000 in
theorem small_walk (s : ByteArray) (w : World) (hs : s.size ≤ 1000) (ha : ∀ k (h : k < s.size), (s[k]'h).toNat < 128) :
    Calls Tryz.prog 81 #[.string s] w fun e w' => e = .returned (.string ⟨(small s.data.toList).toArray⟩) ∧ Below w.heap.size w w' := by
  have hsz : s.data.toList.length = s.size := Array.length_toList
  go_enter Tryz.func81, Tryz.ntmps81
  go_wp2
  go_loopw [] (fun wr => ∃ (pos : Nat), Lib.IsBuilderF 114 5 w.heap.size w.heap.size (Lib.byteCells (small (s.data.toList.take pos))) wr ∧ wr.heap[w.heap.size + 1]? = some (.stringIter s pos) ∧ Below w.heap.size w wr ∧ pos ≤ s.size) (fun wr => s.size - wr.iterPos (w.heap.size + 1))
  case atStart =>
    refine ⟨0, (Lib.IsBuilderF.of (Lib.fresh_isBuilder 114 5 w)).alloc _, ?_, ((Below.refl _ w).alloc (Nat.le_refl _) _).alloc (by simp) _, by omega⟩
    have := World.iter_heap (w.alloc (.cells #[.pointer none, .slice none 0 0] 114)) s 0
    simpa using this
  case round =>
    obtain ⟨pos, hI, hit, hbw, hle⟩ := hrel
    have hlt : w.heap.size + 1 < wr.heap.size := (Array.getElem?_eq_some_iff.1 hit).1
    by_cases hp : pos < s.size
    · have hnx : ∀ ty, (Instr.next (.pointer (some ⟨w.heap.size + 1, 0, none⟩)) true ty).run Tryz.prog wr = _ := fun ty => Lib.run_next_any_at wr (w.heap.size + 1) s pos ty hit hp
      have hgt : s.data.toList[pos]'(by omega) = s[pos]'hp := by simp [ByteArray.getElem_eq_getElem_data]
      have hl := ha pos hp
      have ea := decode_ascii s pos hp hl
      have hI2 := hI.iterAt hit (pos + 1)
      have hit2 := Lib.iterAt_heap wr (w.heap.size + 1) s pos (pos + 1) hit
      have hbw2 := Lib.below_iterAt hbw (k := w.heap.size + 1) (by omega) s (pos + 1)
      have hsz2 : w.heap.size ≤ (wr.iterAt (w.heap.size + 1) s (pos + 1)).heap.size := by rw [Lib.iterAt_size]; omega
      have hlow := lower_nat (s[pos]'hp) hl
      have htk : Lib.byteCells (small (s.data.toList.take (pos + 1))) = Lib.byteCells (small (s.data.toList.take pos)) ++ [.int .u8 ((lower (s[pos]'hp)).toNat : Int)] := by
        rw [List.take_succ_eq_append_getElem (by omega), hgt, small, List.map_append, Lib.byteCells_append]
        rfl
      have hln : (Lib.byteCells (small (s.data.toList.take pos))).length + 4 ≤ 140737488355328 := by
        rw [Lib.byteCells_length, small, List.length_map, List.length_take]
        omega
      cases hg : greatZ ((s[pos]'hp).toNat : Int) with
      | true =>
        rw [hg] at hlow
        have hg' : 65 ≤ ((s[pos]'hp).toNat : Int) ∧ ((s[pos]'hp).toNat : Int) ≤ 90 := by simpa [greatZ] using hg
        simp only [if_true] at hlow
        rw [hlow] at htk
        go_wp2_with (first | (go_at_call 92; refine (isGreat_walk _ _).mono ?_; rintro e w1 ⟨rfl, rfl⟩; rw [hg]) | (go_at_call 93; refine (writeRune_walk w.heap.size w.heap.size _ _ (by omega) (by omega) _ hI2 hln hsz2).mono ?_))
        rintro e W1 ⟨rfl, h1, b1, k1⟩
        go_wp2
        go_roundw
        case rel =>
          refine ⟨pos + 1, ?_, k1.iter hit2 (by omega), hbw2.trans b1, by omega⟩
          rw [htk]
          exact h1
        case measure =>
          simp only [World.iterPos, k1.iter hit2 (by omega), hit]
          omega
      | false =>
        rw [hg] at hlow
        simp only [Bool.false_eq_true, if_false] at hlow
        rw [hlow] at htk
        go_wp2_with (first | (go_at_call 92; refine (isGreat_walk _ _).mono ?_; rintro e w1 ⟨rfl, rfl⟩; rw [hg]) | (go_at_call 93; refine (writeRune_walk w.heap.size w.heap.size _ _ (by omega) (by omega) _ hI2 hln hsz2).mono ?_))
        rintro e W1 ⟨rfl, h1, b1, k1⟩
        go_wp2
        go_roundw
        case rel =>
          refine ⟨pos + 1, ?_, k1.iter hit2 (by omega), hbw2.trans b1, by omega⟩
          rw [htk]
          exact h1
        case measure =>
          simp only [World.iterPos, k1.iter hit2 (by omega), hit]
          omega
    · have hnx : ∀ ty, (Instr.next (.pointer (some ⟨w.heap.size + 1, 0, none⟩)) true ty).run Tryz.prog wr = _ := fun ty => Lib.run_next_end_at wr (w.heap.size + 1) s pos ty hit hp
      rw [List.take_of_length_le (by omega)] at hI
      go_wp2_with (go_at_call 94; refine (Builder_String_any_k w.heap.size w.heap.size _ _ hI (by omega)).mono ?_)
      rintro e W1 ⟨rfl, _, b1, _⟩
      go_wp2
      go_ret
      exact ⟨rfl, hbw.trans b1⟩
end Go.Proofs.YtimoebicacnihaaGreatDoor.Ad
end

section
/-
  The program's labels, local parts and domains.
-/
namespace Go.Proofs.YtimoebicacnihaaGreatDoor.Ad
open Go.RowKit
set_option linter.unusedVariables false
set_option linter.unusedSimpArgs false

theorem len_size (s : ByteArray) : s.data.toList.length = s.size := Array.length_toList

set_option maxHeartbeats 4000000 in
set_option maxRecDepth 100000 in
theorem fits_walk (s : ByteArray) (w : World) : Calls Tryz.prog 85 #[.string s] w fun e w' => e = .returned (.bool (fits s.data.toList)) ∧ w' = w := by
  rw [fits, len_size]
  by_cases h : (1 : Int) ≤ (s.size : Int)
  · go_enter Tryz.func85, Tryz.ntmps85
    go_wp2
    go_ret
    refine ⟨?_, rfl⟩
    rw [decide_eq_true (show 1 ≤ s.size by omega), Bool.true_and]
    simp
    omega
  · go_enter Tryz.func85, Tryz.ntmps85
    go_wp2
    go_ret
    refine ⟨?_, rfl⟩
    rw [decide_eq_false (show ¬ 1 ≤ s.size by omega), Bool.false_and]
    rfl

set_option maxHeartbeats 4000000 in
set_option maxRecDepth 100000 in
theorem hasEnd_walk (s g : ByteArray) (hs : s.size ≤ 9223372036854775807) (w : World) : Calls Tryz.prog 86 #[.string s, .string g] w fun e w' => e = .returned (.bool (hasEnd s.data.toList g.data.toList)) ∧ w' = w := by
  rw [hasEnd]
  cases h : Lib.hasPrefix s.data.toList g.data.toList with
  | true =>
    go_enter Tryz.func86, Tryz.ntmps86
    go_wp2_with (go_at_call 99; refine (strings_HasPrefix _ _ _).mono ?_; rintro e w' ⟨rfl, rfl⟩; rw [h])
    go_ret
    exact ⟨rfl, rfl⟩
  | false =>
    go_enter Tryz.func86, Tryz.ntmps86
    go_wp2_with (first | (go_at_call 99; refine (strings_HasPrefix _ _ _).mono ?_; rintro e w' ⟨rfl, rfl⟩; rw [h]) | (go_at_call 100; refine (strings_HasSuffix _ _ _ hs).mono ?_; rintro e w' ⟨rfl, rfl⟩))
    go_ret
    exact ⟨rfl, rfl⟩

set_option maxHeartbeats 4000000 in
set_option maxRecDepth 100000 in
theorem isLabel_walk (s : ByteArray) (hs : s.size ≤ 9223372036854775807) (w : World) : Calls Tryz.prog 90 #[.string s] w fun e w' => e = .returned (.bool (label s.data.toList)) ∧ Below w.heap.size w w' := by
  rw [label]
  cases h1 : fits s.data.toList with
  | false =>
    go_enter Tryz.func90, Tryz.ntmps90
    go_wp2_with (go_at_call 85; refine (fits_walk _ _).mono ?_; rintro e w' ⟨rfl, rfl⟩; rw [h1])
    go_ret
    exact ⟨rfl, Below.refl _ _⟩
  | true =>
    cases h2 : hasEnd s.data.toList [45] with
    | true =>
      go_enter Tryz.func90, Tryz.ntmps90
      go_wp2_with (first | (go_at_call 85; refine (fits_walk _ _).mono ?_; rintro e w' ⟨rfl, rfl⟩; rw [h1]) | (go_at_call 86; refine (hasEnd_walk _ _ hs _).mono ?_; rintro e w' ⟨rfl, rfl⟩; rw [show hasEnd s.data.toList ({ data := #[45] } : ByteArray).data.toList = true from h2]))
      go_ret
      exact ⟨rfl, Below.refl _ _⟩
    | false =>
      go_enter Tryz.func90, Tryz.ntmps90
      go_wp2_with (first | (go_at_call 85; refine (fits_walk _ _).mono ?_; rintro e w' ⟨rfl, rfl⟩; rw [h1]) | (go_at_call 86; refine (hasEnd_walk _ _ hs _).mono ?_; rintro e w' ⟨rfl, rfl⟩; rw [show hasEnd s.data.toList ({ data := #[45] } : ByteArray).data.toList = false from h2]) | (go_at_call 88; refine (isMadeOf_walk _ _ (.inl rfl) _).mono ?_; rintro e w1 ⟨rfl, hb⟩))
      go_ret
      exact ⟨rfl, hb⟩

set_option maxHeartbeats 4000000 in
set_option maxRecDepth 100000 in
theorem isLocal_walk (s : ByteArray) (hs : s.size ≤ 1000) (m : Int) (w : World) (hm : w.cell? ⟨0, 0, none⟩ = some (.int .i64 m)) : Calls Tryz.prog 78 #[.string s] w fun e w' => e = .returned (.bool (loc s.data.toList)) ∧ Below w.heap.size w w' := by
  rw [loc]
  have c2 : ∀ W, Calls Tryz.prog 86 #[.string s, .string { data := #[46] }] W fun e w' => e = .returned (.bool (hasEnd s.data.toList [46])) ∧ w' = W := fun W => hasEnd_walk s { data := #[46] } (by omega) W
  have c3 : ∀ W, W.cell? ⟨0, 0, none⟩ = some (.int .i64 m) → Calls Tryz.prog 87 #[.string s, .string { data := #[46, 46] }] W fun e w' => e = .returned (.bool (Lib.contains s.data.toList [46, 46])) ∧ w' = W := fun W h => strings_Contains s { data := #[46, 46] } m W (by omega) h
  cases h1 : fits s.data.toList with
  | false =>
    go_enter Tryz.func78, Tryz.ntmps78
    go_wp2_with (go_at_call 85; refine (fits_walk _ _).mono ?_; rintro e w' ⟨rfl, rfl⟩; rw [h1])
    go_ret
    exact ⟨rfl, Below.refl _ _⟩
  | true =>
    cases h2 : hasEnd s.data.toList [46] with
    | true =>
      go_enter Tryz.func78, Tryz.ntmps78
      go_wp2_with (first | (go_at_call 85; refine (fits_walk _ _).mono ?_; rintro e w' ⟨rfl, rfl⟩; rw [h1]) | (go_at_call 86; refine (c2 _).mono ?_; rintro e w' ⟨rfl, rfl⟩; rw [h2]))
      go_ret
      exact ⟨rfl, Below.refl _ _⟩
    | false =>
      cases h3 : Lib.contains s.data.toList [46, 46] with
      | true =>
        go_enter Tryz.func78, Tryz.ntmps78
        go_wp2_with (first | (go_at_call 85; refine (fits_walk _ _).mono ?_; rintro e w' ⟨rfl, rfl⟩; rw [h1]) | (go_at_call 86; refine (c2 _).mono ?_; rintro e w' ⟨rfl, rfl⟩; rw [h2]) | (go_at_call 87; refine (c3 _ hm).mono ?_; rintro e w' ⟨rfl, rfl⟩; rw [h3]))
        go_ret
        exact ⟨rfl, Below.refl _ _⟩
      | false =>
        go_enter Tryz.func78, Tryz.ntmps78
        go_wp2_with (first | (go_at_call 85; refine (fits_walk _ _).mono ?_; rintro e w' ⟨rfl, rfl⟩; rw [h1]) | (go_at_call 86; refine (c2 _).mono ?_; rintro e w' ⟨rfl, rfl⟩; rw [h2]) | (go_at_call 87; refine (c3 _ hm).mono ?_; rintro e w' ⟨rfl, rfl⟩; rw [h3]) | (go_at_call 88; refine (isMadeOf_walk _ _ (.inr rfl) _).mono ?_; rintro e w1 ⟨rfl, hb⟩))
        go_ret
        exact ⟨rfl, hb⟩

/-! ### Domain -/
/-- What Split answers, at a point. -/
def dots (s : ByteArray) : List ByteArray := Lib.splitB { data := #[46] } 0 (Lib.countB s { data := #[46] }) s
theorem dots_data (s : ByteArray) : (dots s).map (·.data.toList) = cuts 46 s.data.toList := by
  unfold dots
  rw [Lib.splitB_data]
  exact (split_cuts 46 _ s.data.toList (Nat.le_refl _)).1
theorem dots_length (s : ByteArray) : (dots s).length = Lib.countB s { data := #[46] } + 1 := by
  have h := congrArg List.length (dots_data s)
  rw [List.length_map] at h
  rw [h, ← (split_cuts 46 _ s.data.toList (Nat.le_refl _)).1]
  exact (split_cuts 46 _ s.data.toList (Nat.le_refl _)).2
theorem dots_label (s : ByteArray) : (dots s).all (fun p => label p.data.toList) = (cuts 46 s.data.toList).all label := by
  rw [← dots_data, List.all_map]
  rfl
theorem cuts_short (c : UInt8) : ∀ (l : List UInt8), (cuts c l).length ≤ l.length + 1 ∧ ∀ p ∈ cuts c l, p.length ≤ l.length
  | [] => by simp [cuts]
  | x :: r => by
    obtain ⟨h1, h2⟩ := cuts_short c r
    obtain ⟨q, t, e⟩ := List.exists_cons_of_ne_nil (cuts_ne c r)
    unfold cuts
    split
    · refine ⟨by simp; omega, fun p hp => ?_⟩
      rcases List.mem_cons.1 hp with rfl | hp
      · simp
      · have := h2 p hp
        simp
        omega
    · rw [e] at h1 h2 ⊢
      refine ⟨by simp at h1 ⊢; omega, fun p hp => ?_⟩
      rcases List.mem_cons.1 hp with rfl | hp
      · have := h2 q (List.mem_cons_self ..)
        simp
        omega
      · have := h2 p (List.mem_cons_of_mem _ hp)
        simp
        omega

set_option maxHeartbeats 4000000 in
set_option maxRecDepth 100000 in
theorem domain_walk (s : ByteArray) (m : Int) (w : World) (hm : w.cell? ⟨0, 0, none⟩ = some (.int .i64 m)) : Calls Tryz.prog 79 #[.string s] w fun e w' => e = .returned (.bool (domain s.data.toList)) ∧ Below w.heap.size w w' := by
  rw [domain, len_size]
  by_cases h : (64 : Int) < (s.size : Int)
  · rw [decide_eq_false (show ¬ s.size ≤ 64 by omega), Bool.false_and]
    go_enter Tryz.func79, Tryz.ntmps79
    go_wp2
    go_ret
    exact ⟨rfl, Below.refl _ _⟩
  · rw [decide_eq_true (show s.size ≤ 64 by omega), Bool.true_and, ← dots_label]
    have hn := dots_length s
    have hcs := cuts_short 46 s.data.toList
    rw [← dots_data, List.length_map, len_size] at hcs
    obtain ⟨N, hN⟩ : ∃ N, N = Lib.countB s { data := #[46] } + 1 := ⟨_, rfl⟩
    have hNs : N ≤ 65 := by omega
    have hNd : (dots s).length = N := by omega
    clear hn
    obtain ⟨D, hD⟩ : ∃ D, (dots s).all (fun p => label p.data.toList) = D := ⟨_, rfl⟩
    rw [hD]
    have HD := Lib.hid hD
    clear hD
    have c1 : ∀ W, W.cell? ⟨0, 0, none⟩ = some (.int .i64 m) → Calls Tryz.prog 89 #[.string s, .string { data := #[46] }] W fun e w' => e = .returned (.slice (some ⟨W.heap.size, 0, none⟩) N N) ∧ w' = W.alloc (.cells ((dots s).map Value.string).toArray 9) := fun W hW => by
      rw [hN]
      exact strings_Split s { data := #[46] } m W (by omega) hW (by decide)
    clear hN
    go_enter Tryz.func79, Tryz.ntmps79
    go_wp2_with fail
    refine (c1 _ hm).mono ?_
    rintro e w1 ⟨rfl, hw1⟩
    have hcell : ∀ k (hk : k < (dots s).length), w1.cell? ⟨w.heap.size, k, none⟩ = some (.string ((dots s)[k]'hk)) := fun k hk => by
      rw [hw1, World.cell?_alloc_new]
      simp [hk]
    have hb0 : Below w.heap.size w w1 := by rw [hw1]; exact (Below.refl _ w).alloc (Nat.le_refl _) _
    have hs1 : w.heap.size < w1.heap.size := by rw [hw1]; simp
    clear hw1
    go_wp2
    go_loopw [11] (fun z wr => ∃ k : Nat, k ≤ N ∧ z = .int .i64 (k : Int) ∧ ((dots s).take k).all (fun p => label p.data.toList) = true ∧ Below w1.heap.size w1 wr) (fun z _ => N - (Lib.intOf z).toNat)
    case atStart => exact ⟨0, by omega, rfl, rfl, Below.refl _ _⟩
    case round =>
      obtain ⟨k, hk, rfl, hall, hbr⟩ := hrel
      by_cases hlt : (k : Int) < (N : Int)
      · have hkl : k < (dots s).length := by omega
        have hc := (hbr.cell (p := ⟨w.heap.size, k, none⟩) hs1).trans (hcell k hkl)
        have hps : ((dots s)[k]'hkl).size ≤ 64 := by
          have := hcs.2 _ (List.mem_map_of_mem (f := fun p : ByteArray => p.data.toList) (List.getElem_mem hkl))
          rw [len_size] at this
          omega
        cases hl : label ((dots s)[k]'hkl).data.toList with
        | true =>
          go_wp2_with (go_at_call 90; refine (isLabel_walk _ (by omega) _).mono ?_; rintro e w2 ⟨rfl, hb2⟩; rw [hl])
          go_roundw
          case rel =>
            refine ⟨k + 1, by omega, by simp, ?_, hbr.trans (hb2.mono hbr.size)⟩
            rw [List.take_succ_eq_append_getElem hkl, List.all_append, hall]
            simp [hl]
          case measure =>
            simp [Lib.intOf]
            omega
        | false =>
          go_wp2_with (go_at_call 90; refine (isLabel_walk _ (by omega) _).mono ?_; rintro e w2 ⟨rfl, hb2⟩; rw [hl])
          go_ret
          refine ⟨?_, hb0.trans ((hbr.trans (hb2.mono hbr.size)).mono (by omega))⟩
          rw [← HD.out, show (dots s).all (fun p => label p.data.toList) = false from List.all_eq_false.2 ⟨_, List.getElem_mem hkl, by rw [hl]; decide⟩]
          rfl
      · have hkN : k = N := by omega
        rw [List.take_of_length_le (by omega)] at hall
        have hDt : D = true := HD.out.symm.trans hall
        subst hDt
        go_wp2
        go_ret
        exact ⟨rfl, hb0.trans (hbr.mono (by omega))⟩
end Go.Proofs.YtimoebicacnihaaGreatDoor.Ad
end

section
/-
  The program's Split, Parse and Path.
-/
namespace Go.Proofs.YtimoebicacnihaaGreatDoor.Ad
open Go.RowKit
set_option linter.unusedVariables false
set_option linter.unusedSimpArgs false

def bs (l : List UInt8) : ByteArray := ⟨l.toArray⟩
theorem bs_data (l : List UInt8) : (bs l).data.toList = l := rfl
theorem bs_size (l : List UInt8) : (bs l).size = l.length := rfl
theorem bs_of (s : ByteArray) : bs s.data.toList = s := rfl
theorem bs_append (a b : List UInt8) : bs a ++ bs b = bs (a ++ b) := by
  apply ByteArray.ext
  rw [ByteArray.data_append]
  simp [bs]
theorem cell_below {w w' : World} {m : Int} (hm : w.cell? ⟨0, 0, none⟩ = some (.int .i64 m)) (hb : Below w.heap.size w w') : w'.cell? ⟨0, 0, none⟩ = some (.int .i64 m) := by
  rw [hb.cell (p := ⟨0, 0, none⟩) ?_, hm]
  rcases Nat.lt_or_ge 0 w.heap.size with h | h
  · exact h
  · have : w.heap[0]? = none := Array.getElem?_eq_none h
    simp [World.cell?, this] at hm

set_option maxHeartbeats 4000000 in
set_option maxRecDepth 100000 in
theorem clone_walk (s : ByteArray) (hs : s.size ≤ 1000) (w : World) : Calls Tryz.prog 80 #[.string s] w fun e w' => e = .returned (.string s) ∧ Below w.heap.size w w' := by
  go_enter Tryz.func80, Tryz.ntmps80
  go_wp2_with (go_at_call 91; refine (stringslite_Clone s _ (by omega)).mono ?_; rintro e w' ⟨rfl, hb⟩)
  go_ret
  exact ⟨rfl, hb⟩

/-- What Split answers. -/
def splitV (l : List UInt8) : Value := .tuple #[.string (bs (splitM l).1), .string (bs (splitM l).2), .bool (isBox l)]
theorem splitV_none {l : List UInt8} (h : isBox l = false) : splitV l = .tuple #[.string { data := #[] }, .string { data := #[] }, .bool false] := by
  rw [splitV, splitM, h]
  rfl

set_option maxHeartbeats 800000 in
set_option maxRecDepth 100000 in
theorem split_walk (s : ByteArray) (m : Int) (w : World) (hm : w.cell? ⟨0, 0, none⟩ = some (.int .i64 m)) : Calls Tryz.prog 71 #[.string s] w fun e w' => e = .returned (splitV s.data.toList) ∧ Below w.heap.size w w' := by
  by_cases h : (64 : Int) < (s.size : Int)
  · rw [splitV_none (by rw [isBox, len_size, decide_eq_false (by omega), Bool.false_and])]
    go_enter Tryz.func71, Tryz.ntmps71
    go_wp2
    go_ret3
    exact ⟨rfl, Below.refl _ _⟩
  · have hlen := len_size s
    rcases indexByte_cases 64 s.data.toList with ⟨h1, h2⟩ | ⟨i, h1, h2, h3, h4⟩
    · rw [splitV_none (ahead_miss h2)]
      have c1 : ∀ W, W.cell? ⟨0, 0, none⟩ = some (.int .i64 m) → Calls Tryz.prog 77 #[.string s, .string { data := #[64] }] W fun e w' => e = .returned (.tuple #[.string s, .string { data := #[] }, .bool false]) ∧ Below W.heap.size W w' := fun W hW => by
        have hc : Lib.cut s.data.toList [64] = (s.data.toList, [], false) := by
          rw [Lib.cut, Lib.index_one, h1]
          rfl
        refine (strings_Cut s { data := #[64] } m W (by omega) hW).mono ?_
        rintro e w' ⟨rfl, n, rfl⟩
        refine ⟨?_, ?_⟩
        · rw [show Lib.cut s.data.toList ({ data := #[64] } : ByteArray).data.toList = _ from hc]
        · exact ⟨rfl, rfl, rfl, Nat.le_refl _, fun _ _ => rfl⟩
      go_enter Tryz.func71, Tryz.ntmps71
      go_wp2_with (go_at_call 77; refine (c1 _ hm).mono ?_; rintro e w1 ⟨rfl, hb1⟩)
      go_ret3
      exact ⟨rfl, hb1⟩
    · have hbox := isBox_hit h2 h3 h4
      obtain ⟨e1, e2, e3⟩ := ahead_hit h2 h3 h4
      rw [decide_eq_true (show s.data.toList.length ≤ 64 by omega), Bool.true_and] at hbox
      obtain ⟨la, hla⟩ : ∃ la, la = s.data.toList.take i := ⟨_, rfl⟩
      obtain ⟨lb, hlb⟩ : ∃ lb, lb = s.data.toList.drop (i + 1) := ⟨_, rfl⟩
      have hsa : la.length ≤ 64 := by rw [hla, List.length_take]; omega
      have hsb : lb.length ≤ 64 := by rw [hlb, List.length_drop]; omega
      have c1 : ∀ W, W.cell? ⟨0, 0, none⟩ = some (.int .i64 m) → Calls Tryz.prog 77 #[.string s, .string { data := #[64] }] W fun e w' => e = .returned (.tuple #[.string (bs la), .string (bs lb), .bool true]) ∧ Below W.heap.size W w' := fun W hW => by
        have hc : Lib.cut s.data.toList [64] = (la, lb, true) := by
          rw [Lib.cut, Lib.index_one, h1, if_pos (by omega), hla, hlb]
          rfl
        refine (strings_Cut s { data := #[64] } m W (by omega) hW).mono ?_
        rintro e w' ⟨rfl, n, rfl⟩
        refine ⟨?_, ?_⟩
        · rw [show Lib.cut s.data.toList ({ data := #[64] } : ByteArray).data.toList = _ from hc]
          rfl
        · exact ⟨rfl, rfl, rfl, Nat.le_refl _, fun _ _ => rfl⟩
      rw [← hla, ← hlb] at hbox
      rw [← hla] at e1
      rw [← hlb] at e2
      have c2 : ∀ W, W.cell? ⟨0, 0, none⟩ = some (.int .i64 m) → Calls Tryz.prog 78 #[.string (bs la)] W fun e w' => e = .returned (.bool (loc la)) ∧ Below W.heap.size W w' := fun W hW => by
        have c := isLocal_walk (bs la) (by rw [bs_size]; omega) m W hW
        rw [bs_data] at c
        exact c
      have c3 : ∀ W, W.cell? ⟨0, 0, none⟩ = some (.int .i64 m) → Calls Tryz.prog 79 #[.string (bs lb)] W fun e w' => e = .returned (.bool (domain lb)) ∧ Below W.heap.size W w' := fun W hW => by
        have c := domain_walk (bs lb) m W hW
        rw [bs_data] at c
        exact c
      cases hl : loc la with
      | false =>
        rw [splitV_none (by rw [hbox, hl, Bool.false_and])]
        clear hla hlb e1 e2 e3 hbox h1 h2 h3 h4
        go_enter Tryz.func71, Tryz.ntmps71
        go_wp2_with fail
        refine (c1 _ hm).mono ?_
        rintro e w1 ⟨rfl, hb1⟩
        have hm1 := cell_below hm hb1
        go_wp2_with fail
        refine (c2 _ hm1).mono ?_
        rintro e w2 ⟨rfl, hb2⟩
        have hm2 := cell_below hm1 hb2
        rw [hl]
        go_wp2
        go_ret3
        exact ⟨rfl, hb1.trans (hb2.mono hb1.size)⟩
      | true =>
        cases hd : domain lb with
        | false =>
          rw [splitV_none (by rw [hbox, hl, hd]; rfl)]
          clear hla hlb e1 e2 e3 hbox h1 h2 h3 h4
          go_enter Tryz.func71, Tryz.ntmps71
          go_wp2_with fail
          refine (c1 _ hm).mono ?_
          rintro e w1 ⟨rfl, hb1⟩
          have hm1 := cell_below hm hb1
          go_wp2_with fail
          refine (c2 _ hm1).mono ?_
          rintro e w2 ⟨rfl, hb2⟩
          have hm2 := cell_below hm1 hb2
          rw [hl]
          go_wp2_with fail
          refine (c3 _ hm2).mono ?_
          rintro e w3 ⟨rfl, hb3⟩
          rw [hd]
          go_wp2
          go_ret3
          have hb := hb1.trans (hb2.mono hb1.size)
          exact ⟨rfl, hb.trans (hb3.mono hb.size)⟩
        | true =>
          have hsp : splitV s.data.toList = .tuple #[.string (bs la), .string (bs (small lb)), .bool true] := by
            rw [splitV, splitM, hbox, hl, hd, e1, e2]
            rfl
          rw [hsp]
          have hlow := domain_low hd
          have c4 : ∀ W, Calls Tryz.prog 81 #[.string (bs lb)] W fun e w' => e = .returned (.string (bs (small lb))) ∧ Below W.heap.size W w' := fun W => by
            have c := small_walk (bs lb) W (by rw [bs_size]; omega) (fun k hk => hlow _ (by
              have h := Array.getElem_mem_toList (xs := (bs lb).data) (i := k) hk
              rw [bs_data] at h
              exact h))
            rw [bs_data] at c
            exact c
          clear hla hlb e1 e2 e3 hbox h1 h2 h3 h4
          go_enter Tryz.func71, Tryz.ntmps71
          go_wp2_with fail
          refine (c1 _ hm).mono ?_
          rintro e w1 ⟨rfl, hb1⟩
          have hm1 := cell_below hm hb1
          go_wp2_with fail
          refine (c2 _ hm1).mono ?_
          rintro e w2 ⟨rfl, hb2⟩
          have hm2 := cell_below hm1 hb2
          rw [hl]
          go_wp2_with fail
          refine (c3 _ hm2).mono ?_
          rintro e w3 ⟨rfl, hb3⟩
          rw [hd]
          go_wp2_with fail
          refine (clone_walk _ (by rw [bs_size]; omega) _).mono ?_
          rintro e w4 ⟨rfl, hb4⟩
          go_wp2_with fail
          refine (c4 _).mono ?_
          rintro e w5 ⟨rfl, hb5⟩
          go_wp2
          go_ret3
          have hb := hb1.trans (hb2.mono hb1.size)
          have hb' := hb.trans (hb3.mono hb.size)
          have hb'' := hb'.trans (hb4.mono hb'.size)
          exact ⟨rfl, hb''.trans (hb5.mono hb''.size)⟩

/-! ### Parse, Path -/
def parseV (l : List UInt8) : Value := .tuple #[.string (bs (parseM l)), .bool (isBox l)]
theorem parseV_none {l : List UInt8} (h : isBox l = false) : parseV l = .tuple #[.string { data := #[] }, .bool false] := by
  rw [parseV, parseM, h]
  rfl
theorem parseV_some {l : List UInt8} (h : isBox l = true) : parseV l = .tuple #[.string (bs (splitM l).1 ++ { data := #[64] } ++ bs (splitM l).2), .bool true] := by
  rw [parseV, parseM, splitM, h, show ({ data := #[64] } : ByteArray) = bs [64] from rfl, bs_append, bs_append]
  simp
theorem isBox_len {l : List UInt8} (h : isBox l = true) : l.length ≤ 64 := by
  simp only [isBox, Bool.and_eq_true, decide_eq_true_eq] at h
  exact h.1
theorem ahead_len (l : List UInt8) : (ahead l).length ≤ l.length := (List.takeWhile_sublist _).length_le
theorem splitM_len {l : List UInt8} (h : isBox l = true) : (splitM l).1.length ≤ 64 ∧ (splitM l).2.length ≤ 64 := by
  have h1 := isBox_len h
  have h2 := ahead_len l
  rw [splitM, h]
  simp only [if_true, small, List.length_map, behind, List.length_drop]
  omega

set_option maxHeartbeats 4000000 in
set_option maxRecDepth 100000 in
theorem parse_walk (s : ByteArray) (m : Int) (w : World) (hm : w.cell? ⟨0, 0, none⟩ = some (.int .i64 m)) : Calls Tryz.prog 65 #[.string s] w fun e w' => e = .returned (parseV s.data.toList) ∧ Below w.heap.size w w' := by
  have c1 := split_walk s m w hm
  cases hb : isBox s.data.toList with
  | false =>
    rw [splitV_none hb] at c1
    rw [parseV_none hb]
    go_enter Tryz.func65, Tryz.ntmps65
    go_wp2_with (go_at_call 71; refine c1.mono ?_; rintro e w1 ⟨rfl, hb1⟩)
    go_ret2
    exact ⟨rfl, hb1⟩
  | true =>
    have hl := splitM_len hb
    rw [splitV, hb] at c1
    rw [parseV_some hb]
    obtain ⟨a, ha⟩ : ∃ a, a = bs (splitM s.data.toList).1 := ⟨_, rfl⟩
    obtain ⟨b, hb'⟩ : ∃ b, b = bs (splitM s.data.toList).2 := ⟨_, rfl⟩
    have la : a.size ≤ 64 := by rw [ha, bs_size]; exact hl.1
    have lb : b.size ≤ 64 := by rw [hb', bs_size]; exact hl.2
    rw [← ha, ← hb'] at c1 ⊢
    clear ha hb' hl
    go_enter Tryz.func65, Tryz.ntmps65
    go_wp2_with (go_at_call 71; refine c1.mono ?_; rintro e w1 ⟨rfl, hb1⟩)
    go_ret2
    exact ⟨rfl, hb1⟩

end Go.Proofs.YtimoebicacnihaaGreatDoor.Ad
end
