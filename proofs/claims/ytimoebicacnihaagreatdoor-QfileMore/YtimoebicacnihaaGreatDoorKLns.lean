/-
  What the program's Lines returns, for all bytes: the library's Cut at a byte 10, and its IndexByte; a row of texts.
-/
import Derived.Test.YtimoebicacnihaaGreatDoorKLShelf
import Derived.Test.YtimoebicacnihaaGreatDoorKg1
import Derived.Lib.SlBytesConst
namespace Go.Proofs.YtimoebicacnihaaGreatDoor.Ln
open Go.RowKit Go.Shelf
set_option linter.unusedVariables false
set_option linter.unusedSimpArgs false

/-! ### Where the first 10 stands -/
def pos10 : List Nat → Option Nat
  | [] => none
  | c :: t => if c = 10 then some 0 else (pos10 t).map (· + 1)
theorem pos10_none : ∀ {R : List Nat}, pos10 R = none → ∀ c ∈ R, c ≠ 10
  | [], _, c, hc => by simp at hc
  | d :: t, h, c, hc => by
    unfold pos10 at h
    split at h
    · cases h
    · rename_i hd
      have ht : pos10 t = none := by simpa using h
      rcases List.mem_cons.1 hc with rfl | hc
      · exact hd
      · exact pos10_none ht c hc
theorem pos10_some : ∀ {R : List Nat} {i : Nat}, pos10 R = some i → i < R.length ∧ R = R.take i ++ 10 :: R.drop (i + 1) ∧ ∀ c ∈ R.take i, c ≠ 10
  | [], i, h => by simp [pos10] at h
  | d :: t, i, h => by
    unfold pos10 at h
    split at h
    · rename_i hd
      obtain rfl : 0 = i := by simpa using h
      subst hd
      exact ⟨by simp, by simp, by simp⟩
    · rename_i hd
      cases hp : pos10 t with
      | none => rw [hp] at h; cases h
      | some k =>
        rw [hp] at h
        obtain rfl : k + 1 = i := by simpa using h
        obtain ⟨h1, h2, h3⟩ := pos10_some hp
        refine ⟨by simp; omega, ?_, fun c hc => ?_⟩
        · simp only [List.take_succ_cons, List.drop_succ_cons, List.cons_append]
          rw [← h2]
        · simp only [List.take_succ_cons] at hc
          rcases List.mem_cons.1 hc with rfl | hc
          · exact hd
          · exact h3 c hc
theorem u8_beq {x k : Nat} (hx : x < 256) (hk : k < 256) : (UInt8.ofNat k == UInt8.ofNat x) = (x == k) := by
  rw [Bool.eq_iff_iff, beq_iff_eq, beq_iff_eq]
  constructor
  · intro he
    have := congrArg UInt8.toNat he
    simp at this
    omega
  · rintro rfl; rfl
theorem index_10 : ∀ {R : List Nat}, (∀ c ∈ R, c < 256) → Lib.index (Lib.bytesOf (R.map fun (c : Nat) => (c : Int))) [10] = match pos10 R with | none => -1 | some i => (i : Int)
  | [], _ => rfl
  | c :: t, h => by
    have ih := index_10 (R := t) (fun x hx => h x (List.mem_cons_of_mem _ hx))
    have e : Lib.bytesOf ((c :: t).map fun (c : Nat) => (c : Int)) = UInt8.ofNat c :: Lib.bytesOf (t.map fun (c : Nat) => (c : Int)) := by simp [Lib.bytesOf]
    have hp : ([10] : List UInt8).isPrefixOf (UInt8.ofNat c :: Lib.bytesOf (t.map fun (c : Nat) => (c : Int))) = (c == 10) := by
      have hc := u8_beq (h c (by simp)) (show 10 < 256 by omega)
      have e10 : (10 : UInt8) = UInt8.ofNat 10 := rfl
      simp only [List.isPrefixOf]
      rw [e10, hc]
      simp
    rw [e]
    unfold Lib.index pos10
    rw [hp, ih]
    by_cases h10 : c = 10
    · subst h10
      simp
    · simp only [beq_iff_eq, h10, if_false]
      cases pos10 t with
      | none => rfl
      | some i =>
        have : ((i : Int) == -1) = false := by rw [beq_eq_false_iff_ne]; omega
        simp [this]
theorem bytes_nums {bs : List Nat} (h : ∀ c ∈ bs, c < 256) : ∀ x ∈ (bs.map fun (c : Nat) => (c : Int)), 0 ≤ x ∧ x < 256 := fun x hx => by
  obtain ⟨c, hc, rfl⟩ := List.mem_map.1 hx
  have := h c hc
  omega
theorem Bytes.inn {P : Nat → Prop} {w : World} {x : Option Addr} {bs : List Nat} (h : Bytes P w x bs) : Lib.BytesIn w x bs.length (bs.map fun (c : Nat) => (c : Int)) := fun hn => by
  rcases h.2 with h0 | ⟨b, off, _, hx, hc⟩
  · subst h0; simp at hn
  · refine ⟨b, off, hx, fun i hi => ?_⟩
    rw [hc i hi]
    simp [hi]
theorem Keep.drewN {S : Nat → Prop} {a w : World} (h : Keep S a w) (n : Nat) : Keep S a (w.drewN n) := ⟨h.os, h.tape, h.output, h.size, h.block⟩
theorem bytes_mark (w : World) (bs : List Nat) (hb : ∀ c ∈ bs, c < 256) (fr : Nat × Nat) : Bytes (fun b => b = w.heap.size) (w.alloc (.cells (cellsOf bs).toArray 5 fr)) (some ⟨w.heap.size, 0, none⟩) bs := by
  refine ⟨hb, .inr ⟨w.heap.size, 0, rfl, rfl, fun i hi => ?_⟩⟩
  rw [cell_of_row _ _ (0 + i) _ _ fr (heap_alloc_new _ _), Nat.zero_add, ← cellsOf_at bs i hi]
  simp

/-! ### The library's Cut, at 10; its IndexByte -/
theorem cut_any {P : Nat → Prop} {w : World} {a : Addr} {n cap : Nat} {R : List Nat} (hB : Bytes P w (some a) R) (hn : n = R.length) (hcap : n ≤ cap) (hs : n < 4294967281) {Q : Nat → Prop} (p2 : Option Addr) (c2 : Nat) (h2 : Bytes Q w p2 [10]) (m : Int) (hm : w.cell? ⟨0, 0, none⟩ = some (.int .i64 m)) :
    Calls Tryz.prog 72 #[.slice (some a) n cap, .slice p2 1 c2] w fun e w' => e = .returned (Lib.cutV (some a) n cap 1 (match pos10 R with | none => -1 | some i => (i : Int))) ∧ ∃ k, w' = w.drewN k := by
  subst hn
  have hcon := bytes_Cut_all (some a) p2 R.length cap 1 c2 (R.map fun (c : Nat) => (c : Int)) [10] m w (by simp) rfl (bytes_nums hB.1) (by simp) hB.inn h2.inn (fun e => by cases e) hcap hs (by omega) hm
  have e10 : Lib.bytesOf [10] = [10] := rfl
  rw [e10, index_10 hB.1] at hcon
  exact hcon
theorem cut_none {P : Nat → Prop} {w : World} {a : Addr} {n cap : Nat} {R : List Nat} (hp : pos10 R = none) (hB : Bytes P w (some a) R) (hn : n = R.length) (hcap : n ≤ cap) (hs : n < 4294967281) {Q : Nat → Prop} (p2 : Option Addr) (c2 : Nat) (h2 : Bytes Q w p2 [10]) (m : Int) (hm : w.cell? ⟨0, 0, none⟩ = some (.int .i64 m)) :
    Calls Tryz.prog 72 #[.slice (some a) n cap, .slice p2 1 c2] w fun e w' => e = .returned (.tuple #[.slice (some a) n cap, .slice none 0 0, .bool false]) ∧ ∃ k, w' = w.drewN k := by
  have h := cut_any hB hn hcap hs p2 c2 h2 m hm
  rw [hp] at h
  exact h
theorem cut_some {P : Nat → Prop} {w : World} {a : Addr} {n cap i : Nat} {R : List Nat} (hp : pos10 R = some i) (hB : Bytes P w (some a) R) (hn : n = R.length) (hcap : n ≤ cap) (hs : n < 4294967281) {Q : Nat → Prop} (p2 : Option Addr) (c2 : Nat) (h2 : Bytes Q w p2 [10]) (m : Int) (hm : w.cell? ⟨0, 0, none⟩ = some (.int .i64 m)) :
    Calls Tryz.prog 72 #[.slice (some a) n cap, .slice p2 1 c2] w fun e w' => ∃ y n' c', e = .returned (.tuple #[.slice (some a) i cap, .slice y n' c', .bool true]) ∧ n' = (R.drop (i + 1)).length ∧ n' ≤ c' ∧ (∀ (v : World) (S : Nat → Prop), Bytes S v (some a) R → Bytes S v y (R.drop (i + 1))) ∧ ∃ k, w' = w.drewN k := by
  refine (cut_any hB hn hcap hs p2 c2 h2 m hm).mono ?_
  rintro e w' ⟨rfl, hk⟩
  have hl := (pos10_some hp).1
  rw [hp]
  have h0 : (0 : Int) ≤ (i : Int) := by omega
  simp only [Lib.cutV, h0, if_true, Int.toNat_natCast, Lib.fromV]
  refine ⟨_, _, _, rfl, by simp; omega, by omega, fun v S hS => ?_, hk⟩
  have := hS.mid cap (i + 1) R.length (by omega) (Nat.le_refl _) (by omega)
  rw [List.take_length] at this
  exact this
theorem indexByte_contains (c : UInt8) : ∀ l : List UInt8, decide (0 ≤ Lib.indexByte l c) = l.contains c
  | [] => rfl
  | x :: l => by
    have ih := indexByte_contains c l
    have hg := Lib.indexByte_ge l c
    unfold Lib.indexByte
    rw [List.contains_cons, Bool.beq_comm, ← ih]
    cases hx : (c == x) with
    | true =>
      rw [Bool.beq_comm] at hx
      simp [hx]
    | false =>
      rw [Bool.beq_comm] at hx
      simp only [hx, Bool.false_eq_true, if_false, Bool.false_or]
      split
      · rename_i h
        rw [beq_iff_eq] at h
        rw [h]
      · rename_i h
        have hne : Lib.indexByte l c ≠ -1 := fun e => h (by rw [e]; rfl)
        rw [decide_eq_decide]
        omega
/-- Whether a text has a 13. -/
theorem has13 {P : Nat → Prop} {w : World} {b off i cap : Nat} {t : List Nat} (hi : i = t.length) (hB : Bytes P w (some ⟨b, off, none⟩) t) :
    Calls Tryz.prog 73 #[.slice (some ⟨b, off, none⟩) i cap, .int .u8 13] w fun e w' => (∃ z : Int, e = .returned (.int .i64 z) ∧ (0 ≤ z ↔ 13 ∈ t)) ∧ w' = w := by
  subst hi
  refine (bytes_IndexByte b off t.length cap (t.map fun (c : Nat) => (c : Int)) 13 w (by simp) (fun j hj => ?_)).mono ?_
  · rcases hB.2 with h0 | ⟨b', off', _, hx, hc⟩
    · subst h0; simp at hj
    · injection hx with hx
      injection hx with e1 e2
      subst e1 e2
      rw [hc j hj]
      simp [hj]
  · rintro e w' ⟨rfl, hw⟩
    refine ⟨⟨_, rfl, ?_⟩, hw⟩
    have h := indexByte_contains 13 (Lib.bytesOf (t.map fun (c : Nat) => (c : Int)))
    have e13 : (13 : Int).toNat.toUInt8 = 13 := rfl
    have h' : (0 ≤ Lib.indexByte (Lib.bytesOf (t.map fun (c : Nat) => (c : Int))) 13) ↔ 13 ∈ Lib.bytesOf (t.map fun (c : Nat) => (c : Int)) := by
      rw [← List.contains_iff_mem, ← h, decide_eq_true_iff]
    rw [e13, h']
    simp only [Lib.bytesOf, List.map_map, List.mem_map]
    constructor
    · rintro ⟨c, hc, e⟩
      have hc256 := hB.1 c hc
      have := congrArg UInt8.toNat e
      simp at this
      have : c = 13 := by omega
      rw [← this]
      exact hc
    · intro h13
      exact ⟨13, h13, rfl⟩

/-! ### A row of texts -/
def strs (L : List (List Nat)) : List Value := L.map fun l => .string (str l)
/-- v is a row of these texts, made from block B on. -/
def Txt (B : Nat) (w : World) (v : Value) (L : List (List Nat)) : Prop := w.ownsRow B 9 1 v L.length (strs L)
theorem info9 : (Tryz.prog.info? 9).map (fun i => (i.zero, i.size, i.bytes)) = some (some (.string ByteArray.empty), 1, 16) := by kernel_rfl
section
variable {B : Nat} {w w' : World} {v : Value} {L : List (List Nat)}
theorem Txt.nil (B : Nat) (w : World) : Txt B w (.slice none 0 0) [] := World.ownsRow_nil _ _ _ _
theorem Txt.keep {S : Nat → Prop} (h : Txt B w v L) (k : Keep S w w') (hs : ∀ b, B ≤ b → ¬ S b) : Txt B w' v L := by
  refine ⟨h.1, ?_⟩
  rcases h.2 with h0 | ⟨g, cap, cur, hv, hb, hg, hr⟩
  · exact .inl h0
  · have hlt : g < w.heap.size := by
      rcases Nat.lt_or_ge g w.heap.size with h' | h'
      · exact h'
      · simp [Array.getElem?_eq_none h'] at hg
    exact .inr ⟨g, cap, cur, hv, hb, (k.block g hlt (hs g hb)).trans hg, hr⟩
theorem Txt.quiet (h : Txt B w v L) (k : Keep (fun _ => False) w w') : Txt B w' v L := h.keep k (fun _ _ h => h)
theorem Txt.shape (h : Txt B w v L) : ∃ x cap, v = .slice x L.length cap ∧ L.length ≤ cap ∧ (∀ k, v.ownBlock = some k → B ≤ k) := by
  have hlt := h.lt
  rcases h.2 with ⟨hv, h0⟩ | ⟨g, cap, cur, hv, hb, hg, hle, _⟩
  · exact ⟨none, 0, by rw [hv, h0], by omega, fun k hk => (hlt k hk).1⟩
  · exact ⟨_, cap, hv, hle, fun k hk => (hlt k hk).1⟩
theorem Txt.cell {x : Option Addr} {n cap : Nat} (h : Txt B w (.slice x n cap) L) (i : Nat) (hi : i < L.length) : ∃ g, x = some ⟨g, 0, none⟩ ∧ w.cell? ⟨g, i, none⟩ = some (.string (str (L.getD i []))) := by
  have hc := @World.ownsRow.cells _ _ _ _ _ _ _ h
  rcases h.2 with ⟨_, h0⟩ | ⟨g, cap', cur, hv, _⟩
  · omega
  · injection hv with e1 e2 e3
    subst e1
    refine ⟨g, rfl, ?_⟩
    have := hc (g := g) rfl i (.string (str (L.getD i []))) (by simp [strs, hi])
    rw [Addr.add_mid, Nat.zero_add] at this
    exact this
end

/-! ### Lines -/
structure LnAt (bs : List Nat) (D : List (List Nat)) (R : List Nat) (n : Nat) : Prop where
  len : n = R.length
  all : bs = joinL D ++ R
  cl : ∀ l ∈ D, clean l
theorem LnAt.start (bs : List Nat) : LnAt bs [] bs bs.length := ⟨rfl, rfl, by simp⟩
theorem LnAt.count {bs : List Nat} {D : List (List Nat)} {R : List Nat} {n : Nat} (h : LnAt bs D R n) : D.length ≤ bs.length ∧ n ≤ bs.length := by
  have := joinL_count D
  have h1 := congrArg List.length h.all
  rw [List.length_append] at h1
  have := h.len
  omega
theorem LnAt.next {bs : List Nat} {D : List (List Nat)} {R : List Nat} {n i : Nat} (h : LnAt bs D R n) (hp : pos10 R = some i) (h13 : ¬ 13 ∈ R.take i) : LnAt bs (D ++ [R.take i]) (R.drop (i + 1)) (R.drop (i + 1)).length := by
  obtain ⟨h1, h2, h3⟩ := pos10_some hp
  refine ⟨rfl, ?_, body_snoc h.cl (fun c hc => ⟨h3 c hc, fun e => h13 (e ▸ hc)⟩)⟩
  rw [joinL_snoc, h.all]
  conv => lhs; rw [h2]
  simp
theorem LnAt.bad0 {bs : List Nat} {D : List (List Nat)} {R : List Nat} {n : Nat} (h : LnAt bs D R n) (hn : 0 < n) (hp : pos10 R = none) : bodyB bs = false := by
  refine bodyB_false h.cl h.all (.inl ⟨fun e => ?_, pos10_none hp⟩)
  have := h.len
  rw [e] at this
  simp at this
  omega
theorem LnAt.bad13 {bs : List Nat} {D : List (List Nat)} {R : List Nat} {n i : Nat} (h : LnAt bs D R n) (hp : pos10 R = some i) (h13 : 13 ∈ R.take i) : bodyB bs = false := by
  obtain ⟨h1, h2, h3⟩ := pos10_some hp
  exact bodyB_false h.cl h.all (.inr ⟨_, _, h2, h3, h13⟩)
theorem LnAt.done {bs : List Nat} {D : List (List Nat)} {R : List Nat} {n : Nat} (h : LnAt bs D R n) (hn : n = 0) : bodyB bs = true ∧ linesOf bs = D := by
  have hR : R = [] := List.eq_nil_of_length_eq_zero (by have := h.len; omega)
  have hb : Body D bs := ⟨h.cl, by rw [h.all, hR, List.append_nil]⟩
  exact ⟨body_bodyB hb, body_lines hb⟩

def slen : Value → Nat
  | .slice _ n _ => n
  | _ => 0
/-- What Lines answers. -/
def Lined (bs : List Nat) (w : World) (e : Ending) (w' : World) : Prop :=
  ∃ v, e = .returned (.tuple #[v, .bool (bodyB bs)]) ∧ Txt w.heap.size w' v (if bodyB bs = true then linesOf bs else []) ∧ Keep (fun _ => False) w w'
theorem lined_bad {bs : List Nat} {w w' : World} (hb : bodyB bs = false) (hk : Keep (fun _ => False) w w') : Lined bs w (.returned (.tuple #[.slice none 0 0, .bool false])) w' :=
  ⟨_, by rw [hb], by rw [hb]; exact Txt.nil _ _, hk⟩
theorem lined_good {bs : List Nat} {w w' : World} {v : Value} {D : List (List Nat)} (hb : bodyB bs = true ∧ linesOf bs = D) (hT : Txt w.heap.size w' v D) (hk : Keep (fun _ => False) w w') : Lined bs w (.returned (.tuple #[v, .bool true])) w' :=
  ⟨_, by rw [hb.1], by rw [hb.1, hb.2]; exact hT, hk⟩

set_option maxHeartbeats 4000000 in
set_option maxRecDepth 100000 in
theorem lines {P : Nat → Prop} {w : World} {x : Option Addr} {n cap : Nat} {bs : List Nat} (hn : n = bs.length) (hcap : n ≤ cap) (hB : Bytes P w x bs) (hl : n ≤ 100000) (m : Int) (hm : w.cell? ⟨0, 0, none⟩ = some (.int .i64 m)) :
    Calls Tryz.prog 66 #[.slice x n cap] w (Lined bs w) := by
  obtain ⟨i0, hi, hz0, hz1, hz2⟩ := info_parts info9
  have HB := Lib.hid (hB.mono (Q := fun b => b < w.heap.size) (fun b h _ => h))
  have HN := Lib.hid hn
  have HM := Lib.hid hm
  have HI := Lib.hid hi
  have HZ0 := Lib.hid hz0
  have HZ1 := Lib.hid hz1
  have HZ2 := Lib.hid hz2
  clear hB hn hm hi hz0 hz1 hz2
  go_enter Tryz.func66, Tryz.ntmps66
  go_wp2
  go_loopw [0, 4] (fun u v wr => ∃ (D : List (List Nat)) (R : List Nat) (y : Option Addr) (k c : Nat) (ao : Option Addr) (cv : Nat), u = .slice y k c ∧ v = .slice ao D.length cv ∧ k ≤ c ∧ k ≤ 100000 ∧ Hid (LnAt bs D R k) ∧ Hid (Bytes (fun b => b < w.heap.size) w y R) ∧ Hid (Txt w.heap.size wr v D) ∧ Hid (Keep (fun _ => False) w wr)) (fun u _ _ => slen u)
  case atStart => exact ⟨[], bs, x, n, cap, none, 0, rfl, rfl, hcap, hl, by have := LnAt.start bs; rw [← HN.out] at this; exact this, HB, Txt.nil _ _, Keep.refl _ _⟩
  case round =>
    obtain ⟨D, R, y, k, c, ao, cv, rfl, rfl, hkc, hk1, HL, HR, HT, HK⟩ := hrel
    by_cases h0 : (0 : Int) < (k : Int)
    · obtain ⟨b, off, _, rfl, _⟩ := HR.out.at 0 (by have := HL.out.len; omega)
      have hK1 : Keep (fun _ => False) w (wr.alloc (.cells #[.int .u8 10] 5 (1, 2))) := HK.out.alloc _
      have hS1 : Bytes (fun b => b = wr.heap.size) (wr.alloc (.cells #[.int .u8 10] 5 (1, 2))) (some ⟨wr.heap.size, 0, none⟩) [10] := bytes_mark wr [10] (by decide) (1, 2)
      have kc : (convert 23 23 (.slice (some ⟨wr.heap.size, 0, none⟩) 1 1)).run Tryz.prog (wr.alloc (.cells #[.int .u8 10] 5)) = .ok (.slice (some ⟨wr.heap.size, 0, none⟩) 1 1) (wr.alloc (.cells #[.int .u8 10] 5 (1, 2))) :=
        Lib.run_convert_bytes_const (P := Tryz.prog) wr 23 5 #[.int .u8 10] 1 1 Tryz.underlying23 Tryz.underlying5
      have HK1 := Lib.hid hK1
      have HS1 := Lib.hid hS1
      clear hK1 hS1
      cases hp : pos10 R with
      | none =>
        have HP := Lib.hid hp
        clear hp
        go_wp2_with fail
        refine (cut_none HP.out (HR.out.quiet HK1.out) HL.out.len hkc (by omega) _ _ HS1.out m (HK1.out.cell HM.out (fun h => h))).mono ?_
        rintro e w1 ⟨rfl, q, hw⟩
        have HK2 : Hid (Keep (fun _ => False) w w1) := by rw [hw]; exact HK1.out.drewN q
        clear hw
        go_wp2
        go_ret2
        exact lined_bad (HL.out.bad0 (by omega) HP.out) HK2.out
      | some i =>
        have hil := (pos10_some hp).1
        have HP := Lib.hid hp
        have hik : i < k := by have := HL.out.len; omega
        clear hp hil
        go_wp2_with fail
        refine (cut_some HP.out (HR.out.quiet HK1.out) HL.out.len hkc (by omega) _ _ HS1.out m (HK1.out.cell HM.out (fun h => h))).mono ?_
        rintro e w1 ⟨y', n', c', rfl, hn', hc', hB', q, hw⟩
        have hK2 : Keep (fun _ => False) w w1 := by rw [hw]; exact HK1.out.drewN q
        have hT2 : Txt w.heap.size w1 (.slice ao D.length cv) D := HT.out.quiet (by rw [hw]; exact ((Keep.refl (fun _ => False) wr).alloc _).drewN q)
        have hR2 := HR.out.quiet hK2
        have hti : i = (R.take i).length := by have := HL.out.len; simp; omega
        have hs := run_str (hR2.take i) i c hti.symm
        have HK2 := Lib.hid hK2
        have HT2 := Lib.hid hT2
        have HR2 := Lib.hid hR2
        have HN' := Lib.hid hn'
        have HB' := Lib.hid (hB' w _ HR.out)
        have HTI := Lib.hid hti
        clear hw hK2 hT2 hR2 hn' hB' hti
        go_wp2_with fail
        refine (has13 HTI.out (HR2.out.take i)).mono ?_
        rintro e w2 ⟨⟨z, rfl, hz⟩, hw⟩
        have hw' := hw.symm
        subst hw'
        have HZ := Lib.hid hz
        clear hz
        by_cases hz0 : 0 ≤ z
        · go_wp2
          go_ret2
          exact lined_bad (HL.out.bad13 HP.out (HZ.out.1 hz0)) HK2.out
        · have HL2 := Lib.hid (HL.out.next HP.out (fun h => hz0 (HZ.out.2 h)))
          have hcount := HL.out.count
          have hnb := HN.out
          have hz0' : ¬ (z ≥ 0) := hz0
          have hszw := HK2.out.size
          go_wp2_with (at_builtin; refine wpList_append_own _ rfl _ _ 22 rfl w.heap.size 9 i0 (.string ByteArray.empty) 1 16 Tryz.underlying22 HI.out HZ0.out HZ1.out HZ2.out rfl (by decide) _ _ _ rfl (World.ownsRow.alloc HT2.out _) ⟨w1.heap.size, 0, none⟩ 1 1 [.string (str (R.take i))] rfl rfl (cell_one_new _ _ _) (fun x hx => by simp at hx; subst hx; rfl) (by unfold maxLen; omega) (by omega) (by simp; omega) ?_; intro v' w3 hown' hgrow3 hnil3)
          obtain ⟨g3, cap3, hv3⟩ : ∃ g3 cap3, v' = .slice (some ⟨g3, 0, none⟩) (D.length + 1) cap3 := by
            rcases hown'.2 with ⟨_, h⟩ | ⟨g3, cap3, _, h, _⟩
            · omega
            · exact ⟨g3, cap3, h⟩
          subst hv3
          have hT3 : Txt w.heap.size w3 (.slice (some ⟨g3, 0, none⟩) (D.length + 1) cap3) (D ++ [R.take i]) := by
            unfold Txt
            rw [strs, List.map_append, List.length_append]
            exact hown'
          have hK3 : Keep (fun _ => False) w w3 := ((HK2.out.mono (T := fun k => w.heap.size ≤ k) (fun _ _ h => h.elim)).alloc _ |>.grown hgrow3 (fun k hk _ => (World.ownsRow.lt HT2.out k hk).1)).mono (fun i hi h => by omega)
          have HT3 := Lib.hid hT3
          have HK3 := Lib.hid hK3
          clear hown' hgrow3 hnil3 hT3 hK3
          go_wp2
          go_roundw
          case rel => exact ⟨D ++ [R.take i], R.drop (i + 1), y', n', c', some ⟨g3, 0, none⟩, cap3, rfl, by simp, hc', by have := HN'.out; have := HL.out.len; rw [List.length_drop] at *; omega, by have := HL2.out; rw [← HN'.out] at this; exact this, HB', HT3.out, HK3.out⟩
          case measure =>
            have := HN'.out
            have := HL.out.len
            rw [List.length_drop] at *
            simp [slen]
            omega
    · go_wp2
      go_ret2
      exact lined_good (HL.out.done (by omega)) HT.out HK.out
end Go.Proofs.YtimoebicacnihaaGreatDoor.Ln
