/-
  The program's Parse.
-/
import Derived.Test.YtcjljldknekhiaaGreatDoorAV5
import Derived.Laws.ResultCell
import Derived.Laws.Rows
namespace Go.Proofs.YtcjljldknekhiaaGreatDoor.Ad
open Go.RowKit
set_option linter.unusedVariables false
set_option linter.unusedSimpArgs false

/-- What Parse answers. -/
def cells3 (a b : ByteArray) (n : Int) : Array Value := #[.string a, .string b, .int .i64 n]
def cmdV (c : Cmd) : Value := .tuple #[.agg (cells3 (bs c.name) (bs c.arg) c.size), .int .i64 c.code]

theorem kind_walk (k : Kind) (s : ByteArray) (hs : s.size < 4294967281) (b : Bool) (m : Int) (w : World) (hm : w.cell? ⟨2, 0, none⟩ = some (.int .i64 m)) : Calls Tryz.prog (kindFn k) #[.string s, .bool b] w fun e w' => e = .returned (outV (outM k s.data.toList b)) ∧ Below w.heap.size w w' := by
  cases k with
  | hello => exact hello_walk s (by omega) b m w hm
  | mail => exact mail_walk s hs b m w hm
  | rcpt => exact rcpt_walk s hs b m w hm
  | alone =>
    refine (alone_walk s b w).mono ?_
    rintro e w' ⟨rfl, rfl⟩
    exact ⟨rfl, Below.refl _ _⟩
  | noop =>
    refine (noop_walk s b w).mono ?_
    rintro e w' ⟨rfl, rfl⟩
    exact ⟨rfl, Below.refl _ _⟩
  | vrfy =>
    refine (vrfy_walk s b w).mono ?_
    rintro e w' ⟨rfl, rfl⟩
    exact ⟨rfl, Below.refl _ _⟩

theorem info24 : (Tryz.prog.info? 58).map (·.size) = some 3 := by kernel_rfl

theorem one3 (a b : ByteArray) (n : Int) : (cells3 a b n).all (·.oneCell') = true := by simp [cells3, Value.oneCell']
theorem step_row {ops : Array Oper} {rest : List Oper} {o : Oper} {a : Act} {w : World} {Q : Exit → Act → World → Prop} (hgd : o.guard = none) (x y : Operand) (ho : o.op = .store 58 x y)
    (g : Nat) (A B : ByteArray) (n : Int) (hx : a.eval x = .pointer (some ⟨g, 0, none⟩)) (hy : a.eval y = .agg #[.string A, .string B, .int .i64 n])
    (A' B' : ByteArray) (n' : Int) (hg : w.heap[g]? = some (.cells (cells3 A' B' n') 58 (0, 0)))
    (h : wpList Tryz.prog ops Q rest (a.put o.dst undef) (w.setRow g (cells3 A B n))) : wpList Tryz.prog ops Q (o :: rest) a w :=
  wpList_store_row hgd 58 x y ho g (cells3 A B n) hx hy 58 _ hg info24 rfl (one3 _ _ _) h
/-- A Verb's three cells. -/
def Row3 (w : World) (g : Nat) (a b : ByteArray) (n : Int) : Prop := w.heap[g]? = some (.cells (cells3 a b n) 58 (0, 0))
theorem Row3.keep {w w' : World} {g : Nat} {a b : ByteArray} {n : Int} (h : Row3 w g a b n) {B : Nat} (hg : g < B) (k : Below B w w') : Row3 w' g a b n := (k.block g hg).trans h
theorem Row3.lt {w : World} {g : Nat} {a b : ByteArray} {n : Int} (h : Row3 w g a b n) : g < w.heap.size := (Array.getElem?_eq_some_iff.1 h).1
theorem row3_new (w : World) (a b : ByteArray) (n : Int) : Row3 (w.alloc (.cells #[.string a, .string b, .int .i64 n] 58)) w.heap.size a b n := heap_alloc_new _ _
theorem Row3.set {w : World} {g : Nat} {a b : ByteArray} {n : Int} (h : Row3 w g a b n) (a' b' : ByteArray) (n' : Int) : Row3 (w.setRow g (cells3 a' b' n')) g a' b' n' := setRow_heap w g _ _ _ _ h
theorem below_setRow {B : Nat} {w w' : World} (h : Below B w w') {g : Nat} (hg : B ≤ g) (cs : Array Value) : Below B w (w'.setRow g cs) :=
  ⟨h.os, h.tape, h.output, by rw [size_setRow]; exact h.size, fun k hk => (setRow_other w' g k cs (by omega)).trans (h.block k hk)⟩
theorem ret_row {fn : Func} {p u : Tmp} (h : fn.results = #[.cell p 58, .tmp u]) (tmps : Array Value) (w : World) (g : Nat) (a b : ByteArray) (n : Int) (hp : tmps.getD p undef = .pointer (some ⟨g, 0, none⟩)) (hg : Row3 w g a b n) :
    (results fn tmps).run Tryz.prog w = .ok (.tuple #[.agg (cells3 a b n), tmps.getD u undef]) w := by
  rw [results_cell_tmp h, hp]
  have := run_loadVar_row (P := Tryz.prog) w g 58 58 (cells3 a b n) (0, 0) _ hg Tryz.underlying58 rfl info24
  simp [asAddr, this, Result.andThen]

set_option maxHeartbeats 4000000 in
set_option maxRecDepth 100000 in
theorem vparse_walk (s : ByteArray) (hs : s.size < 4294967281) (m : Int) (w : World) (hm : w.cell? ⟨2, 0, none⟩ = some (.int .i64 m)) : Calls Tryz.prog 88 #[.string s] w fun e w' => e = .returned (cmdV (verbM s.data.toList)) ∧ Below w.heap.size w w' := by
  have c1 := fun W h => cut_blank s hs m W h
  have hal := ahd_len 32 s.data.toList
  have hbl := bhd_len 32 s.data.toList
  rw [len_size] at hal hbl
  have c2 := fun W => vgreat_walk (bs (ahd 32 s.data.toList)) (by rw [bs_size]; omega) W
  rw [bs_data, show (ahd 32 s.data.toList).map upper = great (ahd 32 s.data.toList) from rfl] at c2
  have c4 := fun k W h => kind_walk k (bs (bhd 32 s.data.toList)) (by rw [bs_size]; omega) (s.data.toList.contains 32) m W h
  rw [bs_data] at c4
  rw [verbM]
  generalize great (ahd 32 s.data.toList) = n at c2 ⊢
  have hb0 := (Below.refl w.heap.size w).alloc (Nat.le_refl _) (.cells #[.string { data := #[] }, .string { data := #[] }, .int .i64 0] 58)
  have hr0 := row3_new w { data := #[] } { data := #[] } 0
  have hm0 := cell_below hm hb0
  have hlt : w.heap.size < (w.alloc (.cells #[.string { data := #[] }, .string { data := #[] }, .int .i64 0] 58)).heap.size := hr0.lt
  generalize bs (ahd 32 s.data.toList) = X at c1 c2
  cases hk : kind n with
  | none =>
    rw [verbN_other hk]
    show Calls _ _ _ _ (fun e w' => e = .returned (.tuple #[.agg (cells3 { data := #[] } { data := #[] } 0), .int .i64 500]) ∧ _)
    have c3 := fun W => parsers_walk W
    have hl := fun W b h => @look_none W b h n hk
    generalize bs n = A at c2 hl
    generalize bs (bhd 32 s.data.toList) = Y at c1
    generalize s.data.toList.contains 32 = Z at c1
    clear c4 hk
    have C1 := Lib.hid c1
    have C2 := Lib.hid c2
    have C3 := Lib.hid c3
    have HL := Lib.hid hl
    have HB0 := Lib.hid hb0
    have HR0 := Lib.hid hr0
    have HM0 := Lib.hid hm0
    have HLT := Lib.hid hlt
    clear c1 c2 c3 hl hb0 hr0 hm0 hlt
    go_enter Tryz.func88, Tryz.ntmps88
    go_wp2_with fail
    refine (C1.out _ HM0.out).mono ?_
    rintro e w1 ⟨rfl, hb1⟩
    have HB1 := Lib.hid (HB0.out.trans (hb1.mono HB0.out.size))
    have HR1 := Lib.hid (HR0.out.keep HLT.out hb1)
    clear hb1
    go_wp2_with fail
    refine (C2.out _).mono ?_
    rintro e w2 ⟨rfl, hb2⟩
    have HB2 := Lib.hid (HB1.out.trans (hb2.mono HB1.out.size))
    have HR2 := Lib.hid (HR1.out.keep HR1.out.lt hb2)
    clear hb2
    go_wp2_with fail
    refine (C3.out _).mono ?_
    rintro e w3 ⟨rfl, hw3⟩
    have hb3 : Below w2.heap.size w2 w3 := by rw [hw3]; exact (Below.refl _ w2).alloc (Nat.le_refl _) _
    have hmap : w3.heap[w2.heap.size]? = some (.map (tabN 9) 9) := by rw [hw3]; exact (MapKept.heap_alloc _ _).1
    have HB3 := Lib.hid (HB2.out.trans (hb3.mono HB2.out.size))
    have HR3 := Lib.hid (HR2.out.keep HR2.out.lt hb3)
    have hlk := HL.out _ _ hmap
    clear hb3 hmap hw3
    go_wp2_with (refine step_row (by rfl) (.tmp 2) (.tmp 29) (by rfl) w.heap.size { data := #[] } { data := #[] } 0 (by rfl) (by rfl) _ _ _ HR3.out ?_)
    (try simp only [Exit.inBlock, Exit.then])
    refine bodyPost_ret (ret_row (fn := Tryz.f88) (p := 2) (u := 3) rfl _ _ w.heap.size { data := #[] } { data := #[] } 0 rfl (HR3.out.set _ _ _)) rfl ?_
    exact ⟨rfl, below_setRow HB3.out (Nat.le_refl _) _⟩
  | some k =>
    have hv : verbN n (bhd 32 s.data.toList) (s.data.toList.contains 32) = cmdOf n (outM k (bhd 32 s.data.toList) (s.data.toList.contains 32)) := by
      rw [verbN, hk]
    rw [hv]
    clear hv
    have c3 := fun W => parsers_walk W
    have hl := fun W b h => @look_some W b h n k hk
    have c4' := c4 k
    clear c4 hk
    generalize outM k (bhd 32 s.data.toList) (s.data.toList.contains 32) = o at c4' ⊢
    generalize bs (bhd 32 s.data.toList) = Y at c1 c4'
    generalize s.data.toList.contains 32 = Z at c1 c4'
    obtain ⟨oa, oz, oc⟩ := o
    unfold cmdOf
    unfold outV at c4'
    unfold fnV at hl
    simp only [] at c4'
    have C1 := Lib.hid c1
    have C2 := Lib.hid c2
    have C3 := Lib.hid c3
    have C4 := Lib.hid c4'
    have HL := Lib.hid hl
    have HB0 := Lib.hid hb0
    have HR0 := Lib.hid hr0
    have HM0 := Lib.hid hm0
    have HLT := Lib.hid hlt
    clear c1 c2 c3 c4' hl hb0 hr0 hm0 hlt
    have HM : ∀ W, Below w.heap.size w W → W.cell? ⟨2, 0, none⟩ = some (.int .i64 m) := fun W h => cell_below hm h
    by_cases h0 : oc = 0
    · subst h0
      show Calls _ _ _ _ (fun e w' => e = .returned (.tuple #[.agg (cells3 (bs n) (bs oa) oz), .int .i64 0]) ∧ _)
      generalize bs oa = V at C4 ⊢
      generalize bs n = A at C2 HL ⊢
      cases k <;>
      · go_enter Tryz.func88, Tryz.ntmps88
        go_wp2_with fail
        refine (C1.out _ HM0.out).mono ?_
        rintro e w1 ⟨rfl, hb1⟩
        have HB1 := Lib.hid (HB0.out.trans (hb1.mono HB0.out.size))
        have HR1 := Lib.hid (HR0.out.keep HLT.out hb1)
        clear hb1
        go_wp2_with fail
        refine (C2.out _).mono ?_
        rintro e w2 ⟨rfl, hb2⟩
        have HB2 := Lib.hid (HB1.out.trans (hb2.mono HB1.out.size))
        have HR2 := Lib.hid (HR1.out.keep HR1.out.lt hb2)
        clear hb2
        go_wp2_with fail
        refine (C3.out _).mono ?_
        rintro e w3 ⟨rfl, hw3⟩
        have hb3 : Below w2.heap.size w2 w3 := by rw [hw3]; exact (Below.refl _ w2).alloc (Nat.le_refl _) _
        have hmap : w3.heap[w2.heap.size]? = some (.map (tabN 9) 9) := by rw [hw3]; exact (MapKept.heap_alloc _ _).1
        have HB3 := Lib.hid (HB2.out.trans (hb3.mono HB2.out.size))
        have HR3 := Lib.hid (HR2.out.keep HR2.out.lt hb3)
        have hlk := HL.out _ _ hmap
        unfold kindFn at hlk
        simp only [] at hlk
        clear hb3 hmap hw3
        go_wp2_with fail
        refine (C4.out _ (HM _ HB3.out)).mono ?_
        rintro e w4 ⟨rfl, hb4⟩
        have HB4 := Lib.hid (HB3.out.trans (hb4.mono HB3.out.size))
        have HR4 := Lib.hid (HR3.out.keep HR3.out.lt hb4)
        clear hb4
        go_wp2_with (refine step_row (by rfl) (.tmp 2) (.tmp 45) (by rfl) w.heap.size A V oz (by rfl) (by rfl) _ _ _ HR4.out ?_)
        (try simp only [Exit.inBlock, Exit.then])
        refine bodyPost_ret (ret_row (fn := Tryz.f88) (p := 2) (u := 3) rfl _ _ w.heap.size A V oz rfl (HR4.out.set _ _ _)) rfl ?_
        exact ⟨rfl, below_setRow HB4.out (Nat.le_refl _) _⟩
    · rw [if_neg h0]
      show Calls _ _ _ _ (fun e w' => e = .returned (.tuple #[.agg (cells3 { data := #[] } { data := #[] } 0), .int .i64 oc]) ∧ _)
      have h1 : (oc != 0) = true := by rw [bne_iff_ne]; exact h0
      generalize bs oa = V at C4
      generalize bs n = A at C2 HL
      cases k <;>
      · go_enter Tryz.func88, Tryz.ntmps88
        go_wp2_with fail
        refine (C1.out _ HM0.out).mono ?_
        rintro e w1 ⟨rfl, hb1⟩
        have HB1 := Lib.hid (HB0.out.trans (hb1.mono HB0.out.size))
        have HR1 := Lib.hid (HR0.out.keep HLT.out hb1)
        clear hb1
        go_wp2_with fail
        refine (C2.out _).mono ?_
        rintro e w2 ⟨rfl, hb2⟩
        have HB2 := Lib.hid (HB1.out.trans (hb2.mono HB1.out.size))
        have HR2 := Lib.hid (HR1.out.keep HR1.out.lt hb2)
        clear hb2
        go_wp2_with fail
        refine (C3.out _).mono ?_
        rintro e w3 ⟨rfl, hw3⟩
        have hb3 : Below w2.heap.size w2 w3 := by rw [hw3]; exact (Below.refl _ w2).alloc (Nat.le_refl _) _
        have hmap : w3.heap[w2.heap.size]? = some (.map (tabN 9) 9) := by rw [hw3]; exact (MapKept.heap_alloc _ _).1
        have HB3 := Lib.hid (HB2.out.trans (hb3.mono HB2.out.size))
        have HR3 := Lib.hid (HR2.out.keep HR2.out.lt hb3)
        have hlk := HL.out _ _ hmap
        unfold kindFn at hlk
        simp only [] at hlk
        clear hb3 hmap hw3
        go_wp2_with fail
        refine (C4.out _ (HM _ HB3.out)).mono ?_
        rintro e w4 ⟨rfl, hb4⟩
        have HB4 := Lib.hid (HB3.out.trans (hb4.mono HB3.out.size))
        have HR4 := Lib.hid (HR3.out.keep HR3.out.lt hb4)
        clear hb4
        go_wp2_with (refine step_row (by rfl) (.tmp 2) (.tmp 40) (by rfl) w.heap.size { data := #[] } { data := #[] } 0 (by rfl) (by rfl) _ _ _ HR4.out ?_)
        (try simp only [Exit.inBlock, Exit.then])
        refine bodyPost_ret (ret_row (fn := Tryz.f88) (p := 2) (u := 3) rfl _ _ w.heap.size { data := #[] } { data := #[] } 0 rfl (HR4.out.set _ _ _)) rfl ?_
        exact ⟨rfl, below_setRow HB4.out (Nat.le_refl _) _⟩
end Go.Proofs.YtcjljldknekhiaaGreatDoor.Ad
