/-
  Several texts in one: LShelf LProg1 Ps Pt Pu Pv.
-/
import Derived.Test.YtcjljldknekhiaaGreatDoorKAShelf
import Derived.Test.YtcjljldknekhiaaGreatDoorKg1
import Derived.Lib.SlBytesConst
import Derived.Test.YtcjljldknekhiaaGreatDoorKg2
import Derived.Deep.RegionLaw
import Derived.BigRegion
import Derived.Lib.AppendIntMem
import Derived.BigQuiet
import Derived.Deep.RegionHeld3

section
/-
  What the library's bytes.Cut returns at an end of a line, for a slice into a row of the call's own.
-/
namespace Go.Proofs.YtcjljldknekhiaaGreatDoor.Ln
open Go.Shelf Go.RowKit
set_option linter.unusedVariables false
theorem Keep.drewN {S : Nat → Prop} {a w : World} (h : Keep S a w) (n : Nat) : Keep S a (w.drewN n) := ⟨h.os, h.tape, h.output, h.size, h.block⟩
theorem Bytes.inn {P : Nat → Prop} {w : World} {x : Option Addr} {bs : List Nat} (h : Bytes P w x bs) : Lib.BytesIn w x bs.length (bs.map fun (c : Nat) => (c : Int)) := fun hn => by
  rcases h.2 with h0 | ⟨b, off, _, hx, hc⟩
  · subst h0; simp at hn
  · refine ⟨b, off, hx, fun i hi => ?_⟩
    rw [hc i hi]
    simp [hi]
theorem bytes_nums {bs : List Nat} (h : ∀ c ∈ bs, c < 256) : ∀ x ∈ (bs.map fun (c : Nat) => (c : Int)), 0 ≤ x ∧ x < 256 := fun x hx => by
  obtain ⟨c, hc, rfl⟩ := List.mem_map.1 hx
  have := h c hc
  omega

theorem cut_any {w : World} {x : Option Addr} {n cap : Nat} {q : Option Nat} {bs : List Nat} (hM : Mid w (.slice x n cap) q bs) (hs : n < 4294967281) {P : Nat → Prop} (p2 : Option Addr) (c2 : Nat) (h2 : Bytes P w p2 [13, 10]) (m : Int) (hm : w.cell? ⟨2, 0, none⟩ = some (.int .i64 m)) :
    Calls Tryz.prog 69 #[.slice x n cap, .slice p2 2 c2] w fun e w' => e = .returned (Lib.cutV x n cap 2 (match pos bs with | none => -1 | some i => (i : Int))) ∧ ∃ k, w' = w.drewN k := by
  obtain ⟨x', cap', e, hc, h0, hB⟩ := hM.shape
  injection e with e1 e2 e3
  subst e1 e2 e3
  have hcon := Ad.bytes_Cut_all x p2 bs.length cap 2 c2 (bs.map fun (c : Nat) => (c : Int)) [13, 10] m w (by simp) rfl (bytes_nums hM.1) (by simp) hB.inn h2.inn h0 hc hs (by omega) hm
  have hi := index_pos hM.1
  have e10 : Lib.bytesOf [13, 10] = [13, 10] := rfl
  rw [e10, hi] at hcon
  exact hcon
theorem cut_none {w : World} {x : Option Addr} {n cap : Nat} {q : Option Nat} {bs : List Nat} (hM : Mid w (.slice x n cap) q bs) (hp : pos bs = none) (hs : n < 4294967281) {P : Nat → Prop} (p2 : Option Addr) (c2 : Nat) (h2 : Bytes P w p2 [13, 10]) (m : Int) (hm : w.cell? ⟨2, 0, none⟩ = some (.int .i64 m)) :
    Calls Tryz.prog 69 #[.slice x n cap, .slice p2 2 c2] w fun e w' => e = .returned (.tuple #[.slice x n cap, .slice none 0 0, .bool false]) ∧ Keep (fun _ => False) w w' := by
  refine (cut_any hM hs p2 c2 h2 m hm).mono ?_
  rintro e w' ⟨rfl, k, rfl⟩
  rw [hp]
  exact ⟨rfl, (Keep.refl _ _).drewN k⟩
theorem cut_some {w : World} {x : Option Addr} {n cap : Nat} {q : Option Nat} {bs : List Nat} {i : Nat} (hM : Mid w (.slice x n cap) q bs) (hp : pos bs = some i) (hs : n < 4294967281) {P : Nat → Prop} (p2 : Option Addr) (c2 : Nat) (h2 : Bytes P w p2 [13, 10]) (m : Int) (hm : w.cell? ⟨2, 0, none⟩ = some (.int .i64 m)) :
    Calls Tryz.prog 69 #[.slice x n cap, .slice p2 2 c2] w fun e w' => ∃ y n' c' q', e = .returned (.tuple #[.slice x i cap, .slice y n' c', .bool true]) ∧ Mid w' (.slice y n' c') q' (bs.drop (i + 2)) ∧ (q' = q ∨ q' = none) ∧ Keep (fun _ => False) w w' := by
  refine (cut_any hM hs p2 c2 h2 m hm).mono ?_
  rintro e w' ⟨rfl, k, rfl⟩
  have hl := pos_lt hp
  obtain ⟨q', h1, h3⟩ := hM.drop (i + 2) (by rw [hM.len]; exact hl)
  have hk : Keep (fun _ => False) w (w.drewN k) := (Keep.refl _ _).drewN k
  refine ⟨_, _, _, q', ?_, h1.keep hk (fun _ _ h => h), h3, hk⟩
  rw [hp]
  have : (0 : Int) ≤ (i : Int) := by omega
  simp only [Lib.cutV, this, if_true, Int.toNat_natCast, Lib.fromV]
end Go.Proofs.YtcjljldknekhiaaGreatDoor.Ln
end

section
/-
  What the program's Feed, Held and Next return, for every stream; what the document's own Line returns, for all bytes.
-/
namespace Go.Proofs.YtcjljldknekhiaaGreatDoor.Ln
open Go.RowKit
set_option linter.unusedVariables false
set_option linter.unusedSimpArgs false

/-- The stream in block g has the bytes bs; its row lies in block q (none: it has no room); both from block B on. -/
structure Lin (B : Nat) (w : World) (g : Nat) (q : Option Nat) (bs : List Nat) : Prop where
  row : ∃ v, At w g 65 #[v] ∧ Mid w v q bs
  lo : B ≤ g
  low : ∀ k, q = some k → B ≤ k ∧ k ≠ g
section
variable {B : Nat} {w w' : World} {g : Nat} {q : Option Nat} {bs : List Nat}
theorem Lin.lt (h : Lin B w g q bs) : g < w.heap.size := by obtain ⟨v, hA, _⟩ := h.row; exact hA.lt
theorem Lin.qlt (h : Lin B w g q bs) : ∀ k, q = some k → k < w.heap.size := by obtain ⟨v, _, hM⟩ := h.row; exact hM.lt
theorem Lin.keep {S : Nat → Prop} (h : Lin B w g q bs) (k : Keep S w w') (hg : ¬ S g) (hq : ∀ b, q = some b → ¬ S b) : Lin B w' g q bs := by
  obtain ⟨v, hA, hM⟩ := h.row
  exact ⟨⟨v, hA.keep k hg, hM.keep k hq⟩, h.lo, h.low⟩
theorem Lin.new (w : World) (B : Nat) (hB : B ≤ w.heap.size) : Lin B (w.alloc (.cells #[.slice none 0 0] 65)) w.heap.size none [] :=
  ⟨⟨_, At.new w 65 _, Mid.empty _ _⟩, hB, fun k h => by cases h⟩
end

/-- What Feed answers. -/
def Fed (B g : Nat) (q : Option Nat) (bs : List Nat) (w : World) (e : Ending) (w' : World) : Prop :=
  e = .returned (.tuple #[]) ∧ ∃ q', Lin B w' g q' bs ∧ Keep (fun k => k = g ∨ q = some k) w w' ∧ New w q q'

set_option maxHeartbeats 1000000 in
theorem feed {B : Nat} {w : World} {g : Nat} {q : Option Nat} {bs : List Nat} (h : Lin B w g q bs) {P : Nat → Prop} (x : Option Addr) (m c : Nat) (cs : List Nat) (hm : cs.length = m) (hB : Bytes P w x cs) (hl : bs.length + m ≤ 1099511627776) :
    Calls Tryz.prog 35 #[.pointer (some ⟨g, 0, none⟩), .slice x m c] w (Fed B g q (bs ++ cs) w) := by
  obtain ⟨v, hA, hM⟩ := h.row
  have c0 := hA.cell 0
  simp at c0
  have HA := Lib.hid hA
  have HM := Lib.hid hM
  have HB := Lib.hid hB
  have H := Lib.hid h
  clear hA hM hB h
  go_enter Tryz.func35, Tryz.ntmps35
  go_wp2_with (refine wpList_append_mid (by rfl) _ _ (by rfl) v q bs (by rfl) HM.out P x m c cs (by rfl) hm HB.out hl ?_; intro y n cap q' w1 hM1 hK1 hN1; have HM1 := Lib.hid hM1; have HK1 := Lib.hid hK1; have HN1 := Lib.hid hN1; have hA1 := HA.out.keep hK1 (fun e => (HM.out.ne HA.out (by decide)) e); have c1 := hA1.cell 0; have f1 := hA1.frozen 0; have HA1 := Lib.hid hA1; clear hM1 hK1 hN1 hA1; simp at c1)
  go_end0
  have hg := H.out.lt
  have hne : ∀ k, q' = some k → k ≠ g := fun k hk e => HM1.out.ne HA1.out (by decide) (by rw [← e]; exact hk)
  refine ⟨rfl, q', ⟨⟨_, HA1.out.put 0 _, HM1.out.keep ((Keep.refl (· = g) w1).setCell (p := ⟨g, 0, none⟩) (fun _ => rfl) _) (fun b hb e => hne b hb e)⟩, H.out.lo, fun k hk => ⟨?_, hne k hk⟩⟩, ?_, HN1.out⟩
  · rcases HN1.out k hk with h1 | h1
    · exact (H.out.low k h1).1
    · have := H.out.lo
      omega
  · exact (HK1.out.mono (fun _ _ e => .inr e)).setCell (p := ⟨g, 0, none⟩) (fun _ => .inl rfl) _

set_option maxHeartbeats 1000000 in
theorem feed_nil (w : World) (x : Option Addr) (m c : Nat) : Calls Tryz.prog 35 #[.pointer none, .slice x m c] w fun e w' => e = .returned (.tuple #[]) ∧ w' = w := by
  go_enter Tryz.func35, Tryz.ntmps35
  go_wp2
  (try simp only [Exit.inBlock, Exit.then]); refine bodyPost_ret (results_none rfl _ _ _) rfl ?_
  exact ⟨rfl, rfl⟩

/-- What Next answers. -/
def Nexted (B g : Nat) (q : Option Nat) (bs : List Nat) (most : Int) (w : World) (e : Ending) (w' : World) : Prop :=
  e = .returned (.tuple #[.string (str (nextT bs most)), .bool (nextL bs most), .bool (nextK bs)]) ∧ ∃ q', Lin B w' g q' (nextS bs) ∧ Keep (fun k => k = g) w w' ∧ New w q q'

set_option maxHeartbeats 1000000 in
theorem next_nil (w : World) (most : Int) : Calls Tryz.prog 56 #[.pointer none, .int .i64 most] w fun e w' => e = .returned (.tuple #[.string { data := #[] }, .bool false, .bool false]) ∧ w' = w := by
  go_enter Tryz.func56, Tryz.ntmps56
  go_wp2
  go_ret3
  exact ⟨rfl, rfl⟩

theorem bytes_mark (w : World) (bs : List Nat) (hb : ∀ c ∈ bs, c < 256) (fr : Nat × Nat) : Bytes (fun b => b = w.heap.size) (w.alloc (.cells (cellsOf bs).toArray 5 fr)) (some ⟨w.heap.size, 0, none⟩) bs := by
  refine ⟨hb, .inr ⟨w.heap.size, 0, rfl, rfl, fun i hi => ?_⟩⟩
  rw [cell_of_row _ _ (0 + i) _ _ fr (heap_alloc_new _ _), Nat.zero_add, ← cellsOf_at bs i hi]
  simp

/-- The stream behind a line was cut off. -/
theorem nexted_mem {B : Nat} {w W w1 : World} {g : Nat} {q q' : Option Nat} {bs : List Nat} {i : Nat} {x y : Option Addr} {n cap n' c' : Nat} (h : Lin B w g q bs) (hA1 : At W g 65 #[.slice x n cap]) (hM1 : Mid W (.slice x n cap) q bs) (hK1 : Keep (fun k => k = g) w W)
    (hM2 : Mid w1 (.slice y n' c') q' (bs.drop (i + 2))) (hq2 : q' = q ∨ q' = none) (hk2 : Keep (fun _ => False) W w1) (hp : pos bs = some i) :
    w1.cell? ⟨g, 0, none⟩ = some (.slice x n cap) ∧ w1.frozen? ⟨g, 0, none⟩ = false ∧
    (convert 34 9 (.slice x i cap)).run Tryz.prog (w1.setCell ⟨g, 0, none⟩ (.slice y n' c')) = .ok (.string (str (bs.take i))) (w1.setCell ⟨g, 0, none⟩ (.slice y n' c')) ∧
    Lin B (w1.setCell ⟨g, 0, none⟩ (.slice y n' c')) g q' (bs.drop (i + 2)) ∧ Keep (fun k => k = g) w (w1.setCell ⟨g, 0, none⟩ (.slice y n' c')) ∧ New w q q' := by
  have hA2 := hA1.keep hk2 (fun h => h)
  have k3 : Keep (fun k => k = g) w1 (w1.setCell ⟨g, 0, none⟩ (.slice y n' c')) := (Keep.refl (fun k => k = g) w1).setCell (p := ⟨g, 0, none⟩) (fun _ => rfl) _
  have hgq : ∀ b, q = some b → ¬ b = g := fun b hb => (h.low b hb).2
  have hlow : ∀ b, q' = some b → q = some b := fun b hb => by
    rcases hq2 with e | e
    · rw [← e]; exact hb
    · rw [e] at hb; cases hb
  have c2 := hA2.cell 0
  have hl := pos_lt hp
  refine ⟨by simpa using c2, hA2.frozen 0, run_str (((hM1.bytes.quiet hk2).keep k3 (fun b _ hb => hgq b hb)).take i) i cap (by simp; omega), ⟨⟨_, hA2.put 0 _, hM2.keep k3 (fun b hb => hgq b (hlow b hb))⟩, h.lo, fun b hb => h.low b (hlow b hb)⟩, (hK1.trans hk2 (fun _ _ h => h.elim)).trans k3 (fun _ _ h => h), fun k hk => .inl (hlow k hk)⟩

set_option maxHeartbeats 4000000 in
set_option maxRecDepth 100000 in
theorem next {B : Nat} {w : World} {g : Nat} {q : Option Nat} {bs : List Nat} (h : Lin B w g q bs) (most : Int) (hmost : (Lit.int .i64 most).wf = true) (hl : bs.length ≤ 4294967280) (m : Int) (hm : w.cell? ⟨2, 0, none⟩ = some (.int .i64 m)) :
    Calls Tryz.prog 56 #[.pointer (some ⟨g, 0, none⟩), .int .i64 most] w (Nexted B g q bs most w) := by
  obtain ⟨v, hA, hM⟩ := h.row
  obtain ⟨x, cap, rfl, hcap, hx0, hB0⟩ := hM.shape
  have c0 := hA.cell 0
  have b := bounds_i64 hmost
  simp at c0
  have hle : (bs.length : Int) ≤ 4294967280 := by omega
  obtain ⟨n, hn⟩ : ∃ n, n = bs.length := ⟨_, rfl⟩
  rw [← hn] at c0 hM hle hA hcap
  have hlt : n < 4294967281 := by omega
  have hM1 : Mid (w.alloc (.cells #[.int .u8 13, .int .u8 10] 5 (2, 3))) (.slice x n cap) q bs := hM.keep ((Keep.refl (fun _ => False) w).alloc _) (fun _ _ h => h)
  have hm1 : (w.alloc (.cells #[.int .u8 13, .int .u8 10] 5 (2, 3))).cell? ⟨2, 0, none⟩ = some (.int .i64 m) := Lib.cell?_alloc_marked _ hm
  have hS1 : Bytes (fun b => b = w.heap.size) (w.alloc (.cells #[.int .u8 13, .int .u8 10] 5 (2, 3))) (some ⟨w.heap.size, 0, none⟩) [13, 10] := bytes_mark w [13, 10] (by decide) (2, 3)
  have kc : (convert 34 34 (.slice (some ⟨w.heap.size, 0, none⟩) 2 2)).run Tryz.prog (w.alloc (.cells #[.int .u8 13, .int .u8 10] 5)) = .ok (.slice (some ⟨w.heap.size, 0, none⟩) 2 2) (w.alloc (.cells #[.int .u8 13, .int .u8 10] 5 (2, 3))) :=
    Lib.run_convert_bytes_const (P := Tryz.prog) w 34 5 #[.int .u8 13, .int .u8 10] 2 2 Tryz.underlying34 Tryz.underlying5
  have k1 : Keep (fun k => k = g) w (w.alloc (.cells #[.int .u8 13, .int .u8 10] 5 (2, 3))) := (Keep.refl _ w).alloc _
  have hA1 : At (w.alloc (.cells #[.int .u8 13, .int .u8 10] 5 (2, 3))) g 65 #[.slice x n cap] := hA.alloc _
  have HA1 := Lib.hid hA1
  have HM1 := Lib.hid hM1
  have HS1 := Lib.hid hS1
  have HC1 := Lib.hid hm1
  have HK1 := Lib.hid k1
  have H := Lib.hid h
  have HN := Lib.hid hn
  have HL := Lib.hid hlt
  clear hA hM h hn hlt hl hm hB0 hM1 hm1 hS1 k1 hx0 hcap hA1
  cases hp : pos bs with
  | none =>
    have HP := Lib.hid hp
    clear hp
    go_enter Tryz.func56, Tryz.ntmps56
    go_wp2_with fail
    refine (cut_none HM1.out HP.out HL.out _ _ HS1.out m HC1.out).mono ?_
    rintro e w1 ⟨rfl, hk⟩
    have HK := Lib.hid hk
    clear hk
    go_wp2_with fail
    go_ret3
    have hk : Keep (fun k => k = g) w w1 := HK1.out.trans HK.out (fun _ _ h => h.elim)
    refine ⟨?_, q, ?_, hk, New.refl _ _⟩
    · rw [nextT_none HP.out, nextL_none HP.out, nextK_none HP.out]
      rfl
    · rw [nextS_none HP.out]
      exact ⟨⟨_, HA1.out.keep HK.out (fun h => h), HM1.out.keep HK.out (fun _ _ h => h)⟩, H.out.lo, H.out.low⟩
  | some i =>
    have HP := Lib.hid hp
    have hi : (i : Int) ≤ 4294967280 := by have := pos_lt hp; have := HN.out; omega
    clear hp
    by_cases hneg : most < 0
    · by_cases h0 : (0 : Int) < (i : Int)
      · have HX : Hid (max most 0 < (i : Int)) := Lib.hid (by omega)
        go_enter Tryz.func56, Tryz.ntmps56
        go_wp2_with fail
        refine (cut_some HM1.out HP.out HL.out _ _ HS1.out m HC1.out).mono ?_
        rintro e w1 ⟨y, n', c', q', rfl, hM2, hq2, hk2⟩
        obtain ⟨c2, f2, s2, hL3, hK3, hN3⟩ := nexted_mem H.out HA1.out HM1.out HK1.out hM2 hq2 hk2 HP.out
        have HL3 := Lib.hid hL3
        have HK3 := Lib.hid hK3
        have HN3 := Lib.hid hN3
        clear hM2 hq2 hk2 hL3 hK3 hN3
        go_wp2_with fail
        go_ret3
        refine ⟨?_, q', by rw [nextS_some HP.out]; exact HL3.out, HK3.out, HN3.out⟩
        rw [nextT_long HP.out HX.out, nextL_long HP.out HX.out, nextK_some HP.out]
        rfl
      · have HX : Hid ((i : Int) ≤ max most 0) := Lib.hid (by omega)
        go_enter Tryz.func56, Tryz.ntmps56
        go_wp2_with fail
        refine (cut_some HM1.out HP.out HL.out _ _ HS1.out m HC1.out).mono ?_
        rintro e w1 ⟨y, n', c', q', rfl, hM2, hq2, hk2⟩
        obtain ⟨c2, f2, s2, hL3, hK3, hN3⟩ := nexted_mem H.out HA1.out HM1.out HK1.out hM2 hq2 hk2 HP.out
        have HL3 := Lib.hid hL3
        have HK3 := Lib.hid hK3
        have HN3 := Lib.hid hN3
        clear hM2 hq2 hk2 hL3 hK3 hN3
        go_wp2_with fail
        go_ret3
        refine ⟨?_, q', by rw [nextS_some HP.out]; exact HL3.out, HK3.out, HN3.out⟩
        rw [nextT_short HP.out HX.out, nextL_short HP.out HX.out, nextK_some HP.out]
        rfl
    · by_cases h0 : most < (i : Int)
      · have HX : Hid (max most 0 < (i : Int)) := Lib.hid (by omega)
        go_enter Tryz.func56, Tryz.ntmps56
        go_wp2_with fail
        refine (cut_some HM1.out HP.out HL.out _ _ HS1.out m HC1.out).mono ?_
        rintro e w1 ⟨y, n', c', q', rfl, hM2, hq2, hk2⟩
        obtain ⟨c2, f2, s2, hL3, hK3, hN3⟩ := nexted_mem H.out HA1.out HM1.out HK1.out hM2 hq2 hk2 HP.out
        have HL3 := Lib.hid hL3
        have HK3 := Lib.hid hK3
        have HN3 := Lib.hid hN3
        clear hM2 hq2 hk2 hL3 hK3 hN3
        go_wp2_with fail
        go_ret3
        refine ⟨?_, q', by rw [nextS_some HP.out]; exact HL3.out, HK3.out, HN3.out⟩
        rw [nextT_long HP.out HX.out, nextL_long HP.out HX.out, nextK_some HP.out]
        rfl
      · have HX : Hid ((i : Int) ≤ max most 0) := Lib.hid (by omega)
        go_enter Tryz.func56, Tryz.ntmps56
        go_wp2_with fail
        refine (cut_some HM1.out HP.out HL.out _ _ HS1.out m HC1.out).mono ?_
        rintro e w1 ⟨y, n', c', q', rfl, hM2, hq2, hk2⟩
        obtain ⟨c2, f2, s2, hL3, hK3, hN3⟩ := nexted_mem H.out HA1.out HM1.out HK1.out hM2 hq2 hk2 HP.out
        have HL3 := Lib.hid hL3
        have HK3 := Lib.hid hK3
        have HN3 := Lib.hid hN3
        clear hM2 hq2 hk2 hL3 hK3 hN3
        go_wp2_with fail
        go_ret3
        refine ⟨?_, q', by rw [nextS_some HP.out]; exact HL3.out, HK3.out, HN3.out⟩
        rw [nextT_short HP.out HX.out, nextL_short HP.out HX.out, nextK_some HP.out]
        rfl
end Go.Proofs.YtcjljldknekhiaaGreatDoor.Ln
end

section
/-
  The program's session in memory: its twelve cells, its rows, its stream; what may turn it, and what it leaves alone.
-/
namespace Go.Proofs.YtcjljldknekhiaaGreatDoor.Ln
open Go.RowKit
set_option linter.unusedVariables false
set_option linter.unusedSimpArgs false

/-! ### The library's variables -/
/-- The library's MaxLen holds some number, its table of tens is laid. -/
def Env (w : World) : Prop := (∃ m, w.cell? ⟨2, 0, none⟩ = some (.int .i64 m)) ∧ Lib.TabIs Tryz.prog w "internal/strconv.uint64pow10" .u64 Lib.pow10Tab
theorem Env.keep {S : Nat → Prop} {w w' : World} (h : Env w) (k : Keep S w w') (hS : ∀ i, i < 9 → ¬ S i) : Env w' := by
  obtain ⟨⟨m, hm⟩, ht⟩ := h
  refine ⟨⟨m, k.cell hm (hS 2 (by omega))⟩, ?_⟩
  have hg : Tryz.prog.globalNamed "internal/strconv.uint64pow10" = some 1 := by kernel_rfl
  unfold Lib.TabIs World.var? at *
  simp only [hg, Option.bind_some] at ht ⊢
  have hlt : 1 < w.heap.size := by
    rcases Nat.lt_or_ge 1 w.heap.size with h' | h'
    · exact h'
    · rw [Array.getElem?_eq_none h'] at ht; simp at ht
  rw [k.block 1 hlt (hS 1 (by omega))]
  exact ht
theorem Env.quiet {w w' : World} (h : Env w) (k : Keep (fun _ => False) w w') : Env w' := h.keep k (fun _ _ h => h)

/-! ### Which blocks are which -/
def AtT (w : World) (k : Nat) (t : TypeId) : Prop := ∃ cs, At w k t cs
theorem AtT.same {w : World} {k : Nat} {t t' : TypeId} (h : AtT w k t) (h' : AtT w k t') (hne : t ≠ t') : False := by
  obtain ⟨_, h⟩ := h
  obtain ⟨_, h'⟩ := h'
  exact At.ne h h' hne rfl
theorem MidG.att {e : TypeId} {size : Nat} {w : World} {v : Value} {q : Option Nat} {n : Nat} {xs : List Value} (h : MidG e size w v q n xs) (k : Nat) (hk : q = some k) : AtT w k e := by
  obtain ⟨_, _, x, cap, _, _, ⟨_, h0⟩ | ⟨g, off, cur, _, hq, hA, _⟩⟩ := h
  · rw [h0] at hk; cases hk
  · rw [hq] at hk; cases hk; exact ⟨_, hA⟩
theorem Mid.att {w : World} {v : Value} {q : Option Nat} {bs : List Nat} (h : Mid w v q bs) (k : Nat) (hk : q = some k) : AtT w k 5 := by
  obtain ⟨_, x, cap, _, _, ⟨_, h0⟩ | ⟨g, off, cur, _, hq, hA, _⟩⟩ := h
  · rw [h0] at hk; cases hk
  · rw [hq] at hk; cases hk; exact ⟨_, hA⟩

/-! ### A session -/
/-- The blocks that it may write, beside its own: its rows of events, recipients, a body; its stream's row, its stream. -/
structure Own where
  qe : Option Nat
  qr : Option Nat
  qb : Option Nat
  ql : Option Nat
  gl : Option Nat
def Own.has (o : Own) (k : Nat) : Prop := o.qe = some k ∨ o.qr = some k ∨ o.qb = some k ∨ o.ql = some k ∨ o.gl = some k
/-- What of F is only read. -/
def PRd (F : Nat → Prop) (g : Nat) (o : Own) (k : Nat) : Prop := F k ∧ k ≠ g ∧ ¬ o.has k
def pCells (p : Se) (lv ev rv bv : Value) : Array Value := #[.string p.host, .int .i64 (p.size : Int), .int .i64 (p.st : Int), lv, ev, .int .i64 0, .int .i64 0, .int .i64 0, .string p.frm, rv, bv, .int .i64 (p.bad : Int)]
/-- Its stream: none, when it is over. -/
def LinO (w : World) (st : Nat) (lv : Value) (gl ql : Option Nat) (bs : List Nat) : Prop :=
  (st = 6 ∧ lv = .pointer none ∧ gl = none ∧ ql = none) ∨ (st ≠ 6 ∧ ∃ k, lv = .pointer (some ⟨k, 0, none⟩) ∧ gl = some k ∧ Lin 0 w k ql bs)
structure PSat (F : Nat → Prop) (w : World) (g : Nat) (p : Se) (lv ev rv bv : Value) (o : Own) (xs : List Value) : Prop where
  row : At w g 68 (pCells p lv ev rv bv)
  fg : F g
  flt : ∀ k, F k → k < w.heap.size
  lo : ∀ k, F k → 9 ≤ k
  own : ∀ k, o.has k → F k
  out : MidG 46 8 w ev o.qe p.out.length xs
  evs : EvsAt (PRd F g o) w p.out xs
  rc : MidG 9 1 w rv o.qr p.rcpts.length (strV p.rcpts)
  body : Mid w bv o.qb p.body
  lin : LinO w p.st lv o.gl o.ql p.wait
  nbl : ∀ k, o.qb = some k → o.ql ≠ some k
def PS (F : Nat → Prop) (w : World) (g : Nat) (p : Se) : Prop := ∃ lv ev rv bv o xs, PSat F w g p lv ev rv bv o xs
def PDid (F : Nat → Prop) (g : Nat) (p : Se) (w : World) (e : Ending) (w' : World) : Prop :=
  e = .returned (.tuple #[]) ∧ ∃ F', PS F' w' g p ∧ Keep F w w' ∧ More F F' w

theorem LinO.keep {S : Nat → Prop} {w w' : World} {st : Nat} {lv : Value} {gl ql : Option Nat} {bs : List Nat} (h : LinO w st lv gl ql bs) (k : Keep S w w') (hg : ∀ b, gl = some b → ¬ S b) (hq : ∀ b, ql = some b → ¬ S b) : LinO w' st lv gl ql bs := by
  rcases h with h | ⟨h6, b, hv, hb, hL⟩
  · exact .inl h
  · exact .inr ⟨h6, b, hv, hb, hL.keep k (hg b hb) hq⟩
theorem LinO.attg {w : World} {st : Nat} {lv : Value} {gl ql : Option Nat} {bs : List Nat} (h : LinO w st lv gl ql bs) (k : Nat) (hk : gl = some k) : AtT w k 65 := by
  rcases h with ⟨_, _, h0, _⟩ | ⟨_, b, _, hb, hL⟩
  · rw [h0] at hk; cases hk
  · rw [hb] at hk; cases hk
    obtain ⟨v, hA, _⟩ := hL.row
    exact ⟨_, hA⟩
theorem LinO.attq {w : World} {st : Nat} {lv : Value} {gl ql : Option Nat} {bs : List Nat} (h : LinO w st lv gl ql bs) (k : Nat) (hk : ql = some k) : AtT w k 5 := by
  rcases h with ⟨_, _, _, h0⟩ | ⟨_, b, _, hb, hL⟩
  · rw [h0] at hk; cases hk
  · obtain ⟨v, _, hM⟩ := hL.row
    exact hM.att k hk
theorem AtT.lt {w : World} {k : Nat} {t : TypeId} (h : AtT w k t) : k < w.heap.size := by obtain ⟨_, h⟩ := h; exact h.lt

section
variable {F S : Nat → Prop} {w w' : World} {g : Nat} {p p' : Se} {lv ev rv bv lv' ev' rv' bv' : Value} {o o' : Own} {xs xs' : List Value}
theorem PSat.attg (h : PSat F w g p lv ev rv bv o xs) : AtT w g 68 := ⟨_, h.row⟩
theorem PSat.neg (h : PSat F w g p lv ev rv bv o xs) : ∀ k, o.has k → k ≠ g := by
  rintro k hk rfl
  rcases hk with hk | hk | hk | hk | hk
  · exact (h.out.att k hk).same h.attg (by decide)
  · exact (h.rc.att k hk).same h.attg (by decide)
  · exact (h.body.att k hk).same h.attg (by decide)
  · exact (h.lin.attq k hk).same h.attg (by decide)
  · exact (h.lin.attg k hk).same h.attg (by decide)
theorem PSat.nee (h : PSat F w g p lv ev rv bv o xs) : ∀ k, o.qe = some k → o.qr ≠ some k ∧ o.qb ≠ some k ∧ o.ql ≠ some k ∧ o.gl ≠ some k := fun k hk =>
  ⟨fun e => (h.out.att k hk).same (h.rc.att k e) (by decide), fun e => (h.out.att k hk).same (h.body.att k e) (by decide), fun e => (h.out.att k hk).same (h.lin.attq k e) (by decide), fun e => (h.out.att k hk).same (h.lin.attg k e) (by decide)⟩
theorem PSat.ner (h : PSat F w g p lv ev rv bv o xs) : ∀ k, o.qr = some k → o.qe ≠ some k ∧ o.qb ≠ some k ∧ o.ql ≠ some k ∧ o.gl ≠ some k := fun k hk =>
  ⟨fun e => (h.rc.att k hk).same (h.out.att k e) (by decide), fun e => (h.rc.att k hk).same (h.body.att k e) (by decide), fun e => (h.rc.att k hk).same (h.lin.attq k e) (by decide), fun e => (h.rc.att k hk).same (h.lin.attg k e) (by decide)⟩
theorem PSat.neb (h : PSat F w g p lv ev rv bv o xs) : ∀ k, o.qb = some k → o.qe ≠ some k ∧ o.qr ≠ some k ∧ o.ql ≠ some k ∧ o.gl ≠ some k := fun k hk =>
  ⟨fun e => (h.body.att k hk).same (h.out.att k e) (by decide), fun e => (h.body.att k hk).same (h.rc.att k e) (by decide), h.nbl k hk, fun e => (h.body.att k hk).same (h.lin.attg k e) (by decide)⟩
theorem PSat.nel (h : PSat F w g p lv ev rv bv o xs) : ∀ k, o.ql = some k → o.qe ≠ some k ∧ o.qr ≠ some k ∧ o.qb ≠ some k ∧ o.gl ≠ some k := fun k hk =>
  ⟨fun e => (h.lin.attq k hk).same (h.out.att k e) (by decide), fun e => (h.lin.attq k hk).same (h.rc.att k e) (by decide), fun e => h.nbl k e hk, fun e => (h.lin.attq k hk).same (h.lin.attg k e) (by decide)⟩
theorem PSat.neL (h : PSat F w g p lv ev rv bv o xs) : ∀ k, o.gl = some k → o.qe ≠ some k ∧ o.qr ≠ some k ∧ o.qb ≠ some k ∧ o.ql ≠ some k := fun k hk =>
  ⟨fun e => (h.lin.attg k hk).same (h.out.att k e) (by decide), fun e => (h.lin.attg k hk).same (h.rc.att k e) (by decide), fun e => (h.lin.attg k hk).same (h.body.att k e) (by decide), fun e => (h.lin.attg k hk).same (h.lin.attq k e) (by decide)⟩
theorem PSat.other (h : PSat F w g p lv ev rv bv o xs) (k : Keep S w w') (hS : ∀ i, F i → ¬ S i) : PSat F w' g p lv ev rv bv o xs :=
  ⟨h.row.keep k (hS g h.fg), h.fg, fun i hi => Nat.lt_of_lt_of_le (h.flt i hi) k.size, h.lo, h.own, h.out.keep k (fun b hb => hS b (h.own b (.inl hb))), h.evs.keepW k (fun b _ hR => ⟨hS b hR.1, hR⟩),
    h.rc.keep k (fun b hb => hS b (h.own b (.inr (.inl hb)))), h.body.keep k (fun b hb => hS b (h.own b (.inr (.inr (.inl hb))))), h.lin.keep k (fun b hb => hS b (h.own b (.inr (.inr (.inr (.inr hb)))))) (fun b hb => hS b (h.own b (.inr (.inr (.inr (.inl hb)))))), h.nbl⟩
/-- The twelve cells. -/
theorem PSat.cells (h : PSat F w g p lv ev rv bv o xs) : w.cell? ⟨g, 0, none⟩ = some (.string p.host) ∧ w.cell? ⟨g, 1, none⟩ = some (.int .i64 (p.size : Int)) ∧ w.cell? ⟨g, 2, none⟩ = some (.int .i64 (p.st : Int)) ∧ w.cell? ⟨g, 3, none⟩ = some lv ∧ w.cell? ⟨g, 4, none⟩ = some ev ∧
    w.cell? ⟨g, 5, none⟩ = some (.int .i64 0) ∧ w.cell? ⟨g, 6, none⟩ = some (.int .i64 0) ∧ w.cell? ⟨g, 7, none⟩ = some (.int .i64 0) ∧ w.cell? ⟨g, 8, none⟩ = some (.string p.frm) ∧ w.cell? ⟨g, 9, none⟩ = some rv ∧ w.cell? ⟨g, 10, none⟩ = some bv ∧ w.cell? ⟨g, 11, none⟩ = some (.int .i64 (p.bad : Int)) ∧ ∀ i, w.frozen? ⟨g, i, none⟩ = false :=
  ⟨h.row.cell 0, h.row.cell 1, h.row.cell 2, h.row.cell 3, h.row.cell 4, h.row.cell 5, h.row.cell 6, h.row.cell 7, h.row.cell 8, h.row.cell 9, h.row.cell 10, h.row.cell 11, h.row.frozen⟩
/-- The session is turned into another one. -/
theorem PSat.turn (h : PSat F w g p lv ev rv bv o xs) (k : Keep S w w') (hS : ∀ i, i < w.heap.size → S i → i = g ∨ o.has i) (row : At w' g 68 (pCells p' lv' ev' rv' bv'))
    (out : MidG 46 8 w' ev' o'.qe p'.out.length xs') {R1 : Nat → Prop} (evs : EvsAt R1 w' p'.out xs') (rc : MidG 9 1 w' rv' o'.qr p'.rcpts.length (strV p'.rcpts)) (body : Mid w' bv' o'.qb p'.body) (lin : LinO w' p'.st lv' o'.gl o'.ql p'.wait)
    (nbl : ∀ k, o'.qb = some k → o'.ql ≠ some k) (hn : ∀ i, o'.has i → o.has i ∨ w.heap.size ≤ i) (hR : ∀ i, i < w'.heap.size → R1 i → (F i ∨ w.heap.size ≤ i) ∧ i ≠ g ∧ ¬ o'.has i) :
    ∃ F', PSat F' w' g p' lv' ev' rv' bv' o' xs' ∧ Keep F w w' ∧ More F F' w := by
  have h9 : 9 ≤ w.heap.size := by have := h.lo g h.fg; have := h.flt g h.fg; omega
  have hlt : ∀ i, o'.has i → i < w'.heap.size := by
    rintro i (hi | hi | hi | hi | hi)
    · exact (out.att i hi).lt
    · exact (rc.att i hi).lt
    · exact (body.att i hi).lt
    · exact (lin.attq i hi).lt
    · exact (lin.attg i hi).lt
  refine ⟨fun i => F i ∨ (w.heap.size ≤ i ∧ i < w'.heap.size), ⟨row, .inl h.fg, ?_, ?_, ?_, out, ?_, rc, body, lin, nbl⟩, ?_, ?_⟩
  · rintro i (hi | hi)
    · exact Nat.lt_of_lt_of_le (h.flt i hi) k.size
    · exact hi.2
  · rintro i (hi | hi)
    · exact h.lo i hi
    · omega
  · intro i hi
    rcases hn i hi with h1 | h1
    · exact .inl (h.own i h1)
    · exact .inr ⟨h1, hlt i hi⟩
  · refine evs.keepW (Keep.refl (fun _ => False) w') (fun b hb hR1 => ⟨fun h => h, ?_, (hR b hb hR1).2.1, (hR b hb hR1).2.2⟩)
    rcases (hR b hb hR1).1 with h1 | h1
    · exact .inl h1
    · exact .inr ⟨h1, hb⟩
  · refine k.mono (fun i hi hSi => ?_)
    rcases hS i hi hSi with h1 | h1
    · rw [h1]; exact h.fg
    · exact h.own i h1
  · rintro i (hi | hi)
    · exact .inl hi
    · exact .inr hi.1
/-- Its cells are set, its rows stay, or go. -/
theorem PSat.put (h : PSat F w g p lv ev rv bv o xs) (k : Keep (fun i => i = g) w w') (row : At w' g 68 (pCells p' lv' ev rv' bv')) (ho : p'.out = p.out) (hr : (rv' = rv ∧ p'.rcpts = p.rcpts) ∨ (rv' = nilV ∧ p'.rcpts = [])) (hb : (bv' = bv ∧ p'.body = p.body) ∨ (bv' = nilV ∧ p'.body = []))
    (hl : (lv' = lv ∧ p'.wait = p.wait ∧ (p'.st = 6 ↔ p.st = 6)) ∨ (lv' = .pointer none ∧ p'.st = 6)) : ∃ F', PS F' w' g p' ∧ Keep F w w' ∧ More F F' w := by
  have hne := h.neg
  have kk : ∀ b, o.has b → ¬ b = g := fun b hb e => hne b hb e
  have rc' : ∃ q, MidG 9 1 w' rv' q p'.rcpts.length (strV p'.rcpts) ∧ (q = o.qr ∨ q = none) := by
    rcases hr with ⟨rfl, e⟩ | ⟨rfl, e⟩
    · rw [e]; exact ⟨o.qr, h.rc.keep k (fun b hb => kk b (.inr (.inl hb))), .inl rfl⟩
    · rw [e]; exact ⟨none, MidG.empty _ _ _ _, .inr rfl⟩
  have body' : ∃ q, Mid w' bv' q p'.body ∧ (q = o.qb ∨ q = none) := by
    rcases hb with ⟨rfl, e⟩ | ⟨rfl, e⟩
    · rw [e]; exact ⟨o.qb, h.body.keep k (fun b hb => kk b (.inr (.inr (.inl hb)))), .inl rfl⟩
    · rw [e]; exact ⟨none, Mid.empty _ _, .inr rfl⟩
  have lin' : ∃ gl ql, LinO w' p'.st lv' gl ql p'.wait ∧ ((gl = o.gl ∧ ql = o.ql) ∨ (gl = none ∧ ql = none)) := by
    rcases hl with ⟨rfl, e, hst⟩ | ⟨rfl, hst⟩
    · have hL := h.lin.keep k (fun b hb => kk b (.inr (.inr (.inr (.inr hb))))) (fun b hb => kk b (.inr (.inr (.inr (.inl hb)))))
      refine ⟨o.gl, o.ql, ?_, .inl ⟨rfl, rfl⟩⟩
      rw [e]
      rcases hL with ⟨h6, hx⟩ | ⟨h6, hx⟩
      · exact .inl ⟨hst.2 h6, hx⟩
      · exact .inr ⟨fun e => h6 (hst.1 e), hx⟩
    · exact ⟨none, none, .inl ⟨hst, rfl, rfl, rfl⟩, .inr ⟨rfl, rfl⟩⟩
  obtain ⟨qr, hrc, eqr⟩ := rc'
  obtain ⟨qb, hbd, eqb⟩ := body'
  obtain ⟨gl, ql, hln, eql⟩ := lin'
  have hsub : ∀ i, (Own.mk o.qe qr qb ql gl).has i → o.has i := by
    rintro i (hi | hi | hi | hi | hi)
    · exact .inl hi
    · rcases eqr with e | e
      · exact .inr (.inl (e ▸ hi))
      · rw [show qr = none from e] at hi; cases hi
    · rcases eqb with e | e
      · exact .inr (.inr (.inl (e ▸ hi)))
      · rw [show qb = none from e] at hi; cases hi
    · rcases eql with ⟨_, e⟩ | ⟨_, e⟩
      · exact .inr (.inr (.inr (.inl (e ▸ hi))))
      · rw [show ql = none from e] at hi; cases hi
    · rcases eql with ⟨e, _⟩ | ⟨e, _⟩
      · exact .inr (.inr (.inr (.inr (e ▸ hi))))
      · rw [show gl = none from e] at hi; cases hi
  obtain ⟨F', h1, h2, h3⟩ := h.turn (o' := Own.mk o.qe qr qb ql gl) (xs' := xs) (R1 := PRd F g o) k (fun i _ e => .inl e) row (by rw [ho]; exact h.out.keep k (fun b hb => kk b (.inl hb))) (by rw [ho]; exact h.evs.keepW k (fun b _ hR => ⟨hR.2.1, hR⟩)) hrc hbd hln (by
      intro i hi hj
      have h1 := hsub i (.inr (.inr (.inl hi)))
      rcases eqb with e | e
      · rcases eql with ⟨_, e2⟩ | ⟨_, e2⟩
        · exact h.nbl i (e ▸ hi) (e2 ▸ hj)
        · rw [show ql = none from e2] at hj; cases hj
      · rw [show qb = none from e] at hi; cases hi) (fun i hi => .inl (hsub i hi)) (fun i _ hR => ⟨.inl hR.1, hR.2.1, fun e => hR.2.2 (hsub i e)⟩)
  exact ⟨F', ⟨_, _, _, _, _, _, h1⟩, h2, h3⟩
end
theorem PS.other {F S : Nat → Prop} {w w' : World} {g : Nat} {p : Se} (h : PS F w g p) (k : Keep S w w') (hS : ∀ i, F i → ¬ S i) : PS F w' g p := by
  obtain ⟨lv, ev, rv, bv, o, xs, h⟩ := h
  exact ⟨lv, ev, rv, bv, o, xs, h.other k hS⟩
theorem PS.quiet {F : Nat → Prop} {w w' : World} {g : Nat} {p : Se} (h : PS F w g p) (k : Keep (fun _ => False) w w') : PS F w' g p := h.other k (fun _ _ h => h)
theorem PS.lt {F : Nat → Prop} {w : World} {g : Nat} {p : Se} (h : PS F w g p) : ∀ k, F k → k < w.heap.size := by
  obtain ⟨_, _, _, _, _, _, h⟩ := h
  exact h.flt
theorem PS.lo {F : Nat → Prop} {w : World} {g : Nat} {p : Se} (h : PS F w g p) : ∀ k, F k → 9 ≤ k := by
  obtain ⟨_, _, _, _, _, _, h⟩ := h
  exact h.lo
theorem PS.env {F : Nat → Prop} {w w' : World} {g : Nat} {p : Se} (h : PS F w g p) (e : Env w) (k : Keep F w w') : Env w' := e.keep k (fun i hi hF => by have := h.lo i hF; omega)

/-- From w on: the session in block g is p now, and nothing else has turned. -/
structure PNow (F : Nat → Prop) (w : World) (g : Nat) (F' : Nat → Prop) (w' : World) (p : Se) : Prop where
  rs : PS F' w' g p
  kp : Keep F w w'
  more : More F F' w
  env : Env w'
section
variable {F F' : Nat → Prop} {w w' w'' : World} {g : Nat} {p p' : Se}
theorem PNow.start (h : PS F w g p) (e : Env w) : PNow F w g F w p := ⟨h, Keep.refl _ _, More.refl _ _, e⟩
theorem PNow.quiet (h : PNow F w g F' w' p) (k : Keep (fun _ => False) w' w'') : PNow F w g F' w'' p := ⟨h.rs.quiet k, h.kp.trans k (fun _ _ h => h.elim), h.more, h.env.quiet k⟩
theorem PNow.on (h : PNow F w g F' w' p) {F'' : Nat → Prop} (h1 : PS F'' w'' g p') (h2 : Keep F' w' w'') (h3 : More F' F'' w') : PNow F w g F'' w'' p' :=
  ⟨h1, keep_more h.kp h2 h.more, h.more.trans h3 h.kp.size, h.rs.env h.env h2⟩
theorem PNow.did {e : Ending} (h : PNow F w g F' w' p) (d : PDid F' g p' w' e w'') : e = .returned (.tuple #[]) ∧ ∃ F'', PNow F w g F'' w'' p' := by
  obtain ⟨he, F'', h1, h2, h3⟩ := d
  exact ⟨he, F'', h.on h1 h2 h3⟩
theorem PNow.done (h : PNow F w g F' w' p) : PDid F g p w (.returned (.tuple #[])) w' := ⟨rfl, F', h.rs, h.kp, h.more⟩
/-- Its plain cells. -/
theorem PNow.cells (h : PNow F w g F' w' p) : w'.cell? ⟨g, 0, none⟩ = some (.string p.host) ∧ w'.cell? ⟨g, 1, none⟩ = some (.int .i64 (p.size : Int)) ∧ w'.cell? ⟨g, 2, none⟩ = some (.int .i64 (p.st : Int)) ∧ w'.cell? ⟨g, 8, none⟩ = some (.string p.frm) ∧ w'.cell? ⟨g, 11, none⟩ = some (.int .i64 (p.bad : Int)) ∧ ∀ i, w'.frozen? ⟨g, i, none⟩ = false := by
  obtain ⟨lv, ev, rv, bv, o, xs, h1⟩ := h.rs
  obtain ⟨c0, c1, c2, c3, c4, c5, c6, c7, c8, c9, c10, c11, fz⟩ := h1.cells
  exact ⟨c0, c1, c2, c8, c11, fz⟩
end
end Go.Proofs.YtcjljldknekhiaaGreatDoor.Ln
end

section
/-
  What the program's tell returns, at memory's level; an append of events in a region that draws its order.
-/
namespace Go.Proofs.YtcjljldknekhiaaGreatDoor.Ln
open Go.RowKit
set_option linter.unusedVariables false
set_option linter.unusedSimpArgs false

theorem run_append_ev (ty : TypeId) {w : World} {v : Value} {q : Option Nat} {n : Nat} {xs : List Value} (hM : MidG 46 8 w v q n xs) (ad : Addr) (cs : List Value) (hcs : cs.length = 8) (hn : ∀ j u, cs[j]? = some u → w.cell? (ad.add j) = some u) (h1 : ∀ u ∈ cs, u.oneCell' = true) (hl : n ≤ 1000000) :
    ∃ y k cap q' w', (Builtin.append_ #[35, 35] ty #[v, .slice (some ad) 1 1]).run Tryz.prog w = .ok (.slice y k cap) w' ∧ MidG 46 8 w' (.slice y k cap) q' (n + 1) (xs ++ cs) ∧ Keep (fun k => q = some k) w w' ∧ New w q q' := by
  obtain ⟨i0, z, hi, hz, hzs, h8, hby⟩ := infoEv
  have hM' : MidG 46 i0.size w v q n xs := by rw [h8]; exact hM
  have hsrc : Src Tryz.prog i0.size 35 (.slice (some ad) 1 1) 1 cs w := Src.ofSlice w Tryz.underlying35 ad 1 1 cs (by rw [h8, hcs]) hn h1
  obtain ⟨y, k, cap, q', w', hr, h2, h3, h4⟩ := run_append_midG (t := 35) ty Tryz.underlying35 hi hz hzs (by rw [h8]; decide) hby w v q n xs hM' _ 1 cs hsrc (by omega)
  rw [h8] at h2
  exact ⟨y, k, cap, q', w', hr, h2, h3, h4⟩
theorem step_append_ev {w : World} {ops : Array Oper} {o : Oper} {a : Act} {K : Act → World → Prop} {Q : Exit → Act → World → Prop} {E : Prop} (hgd : o.guard = none) (s t : Operand)
    (ho : o.op = .call { callee := .builtin .append, args := #[s, t], argTypes := #[35, 35] })
    (v : Value) (q : Option Nat) (n : Nat) (xs : List Value) (hs : a.eval s = v) (hM : MidG 46 8 w v q n xs) (ad : Addr) (cs : List Value) (hx : a.eval t = .slice (some ad) 1 1) (hcs : cs.length = 8) (hn : ∀ j u, cs[j]? = some u → w.cell? (ad.add j) = some u) (h1 : ∀ u ∈ cs, u.oneCell' = true) (hl : n ≤ 1000000)
    (hK : ∀ y k cap q' w', MidG 46 8 w' (.slice y k cap) q' (n + 1) (xs ++ cs) → Keep (fun k => q = some k) w w' → New w q q' → K (a.put o.dst (.slice y k cap)) w') :
    if Region.wanted o (yielded ops a.tmps) = true then Oper.wp Tryz.prog o a w K Q else E := by
  have hw : Region.wanted o (yielded ops a.tmps) = true := by simp [Region.wanted, hgd]
  rw [if_pos hw]
  obtain ⟨y, k, cap, q', w', hr, h2, h3, h4⟩ := run_append_ev o.type hM ad cs hcs hn h1 hl
  unfold Oper.wp execOp
  simp only [ho, resolve, invoke, builtin, Sem.run_bind, Sem.run_pure, Result.andThen_ok, List.map_toArray, List.map_cons, List.map_nil, hs, hx, hr]
  exact hK y k cap q' w' h2 h3 h4

theorem evCells_one (k : Int) (t f : ByteArray) (rx bx : Option Addr) (rn rc bn bc : Nat) : ∀ u ∈ evCells k t f (.slice rx rn rc) (.slice bx bn bc), u.oneCell' = true := by
  intro u hu
  simp only [evCells, List.mem_cons, List.not_mem_nil, or_false] at hu
  rcases hu with rfl | rfl | rfl | rfl | rfl | rfl | rfl | rfl <;> rfl

/-- What tell answers. -/
def Told (g : Nat) (qe : Option Nat) (C : Array Value) (n : Nat) (xs cs : List Value) (w : World) (e : Ending) (w' : World) : Prop :=
  e = .returned (.tuple #[]) ∧ ∃ y m cap q', At w' g 68 (C.setIfInBounds 4 (.slice y m cap)) ∧ MidG 46 8 w' (.slice y m cap) q' (n + 1) (xs ++ cs) ∧ Keep (fun i => i = g ∨ qe = some i) w w' ∧ New w qe q'
def evV (k : Int) (t f : ByteArray) (rv bv : Value) : Value := .agg #[.int .i64 k, .string t, .int .i64 0, .int .i64 0, .int .i64 0, .string f, rv, bv]

set_option maxHeartbeats 4000000 in
set_option maxRecDepth 100000 in
theorem tellRaw {w : World} {g : Nat} {C : Array Value} {qe : Option Nat} {n : Nat} {xs : List Value} {x : Option Addr} {c : Nat} (hA : At w g 68 C) (h4 : C[4]? = some (.slice x n c)) (hM : MidG 46 8 w (.slice x n c) qe n xs) (hl : n ≤ 1000000)
    (k : Int) (t f : ByteArray) (rx bx : Option Addr) (rn rc bn bc : Nat) :
    Calls Tryz.prog 48 #[.pointer (some ⟨g, 0, none⟩), evV k t f (.slice rx rn rc) (.slice bx bn bc)] w (Told g qe C n xs (evCells k t f (.slice rx rn rc) (.slice bx bn bc)) w) := by
  unfold evV
  obtain ⟨A1, hA1⟩ : ∃ A1 : List Value, A1 = evCells k t f (.slice rx rn rc) (.slice bx bn bc) := ⟨_, rfl⟩
  have hlt := hA.lt
  have c4 : w.cell? ⟨g, 4, none⟩ = some (.slice x n c) := by rw [hA.cell]; exact h4
  have hk2 : Keep (fun _ => False) w (((w.alloc (.cells (evCells k t f (.slice rx rn rc) (.slice bx bn bc)).toArray 46)).alloc (.cells (evCells k t f (.slice rx rn rc) (.slice bx bn bc)).toArray 46)).drew) := (((Keep.refl (fun _ => False) w).alloc _).alloc _).drew
  have HM2 := Lib.hid (hM.keep hk2 (fun _ _ h => h))
  have HA2 := Lib.hid (hA.keep hk2 (fun h => h))
  have HK2 := Lib.hid hk2
  have HNE := Lib.hid (hM.ne hA (by decide))
  have HN : Hid (∀ j u, (evCells k t f (.slice rx rn rc) (.slice bx bn bc))[j]? = some u → (((w.alloc (.cells (evCells k t f (.slice rx rn rc) (.slice bx bn bc)).toArray 46)).alloc (.cells (evCells k t f (.slice rx rn rc) (.slice bx bn bc)).toArray 46)).drew).cell? ((⟨w.heap.size + 1, 0, none⟩ : Addr).add j) = some u) := Lib.hid (fun j u hu => by
    have h0 := cells_new (w.alloc (.cells (evCells k t f (.slice rx rn rc) (.slice bx bn bc)).toArray 46)) 46 (evCells k t f (.slice rx rn rc) (.slice bx bn bc)) j u hu
    rw [show (w.alloc (.cells (evCells k t f (.slice rx rn rc) (.slice bx bn bc)).toArray 46)).heap.size = w.heap.size + 1 by simp] at h0
    exact h0)
  have H4 := Lib.hid h4
  have c4' : (w.alloc (.cells (evCells k t f (.slice rx rn rc) (.slice bx bn bc)).toArray 46)).cell? ⟨g, 4, none⟩ = some (.slice x n c) := Lib.cell?_alloc_marked _ c4
  clear hM hA hk2 h4 hA1 A1
  go_enter Tryz.func48, Tryz.ntmps48
  go_wp2
  go_region_law
    ((refine step_append_ev (by rfl) (.tmp 8) (.tmp 10) (by rfl) (.slice x n c) qe n xs (by rfl) HM2.out ⟨w.heap.size + 1, 0, none⟩ (evCells k t f (.slice rx rn rc) (.slice bx bn bc)) (by rfl) (by rfl) HN.out (evCells_one _ _ _ _ _ _ _ _ _) hl ?_
      ; intro y m cap q' w2 hM3 hK3 hN3; have hA3 := HA2.out.keep hK3 HNE.out; have d4 : w2.cell? ⟨g, 4, none⟩ = some (.slice x n c) := (by rw [hA3.cell]; exact H4.out); have f4 := hA3.frozen 4; have HA3 := Lib.hid hA3; have HM3 := Lib.hid hM3; have HK3 := Lib.hid hK3; have HN3 := Lib.hid hN3; clear hA3 hM3 hK3 hN3))
  all_goals
    go_wp2
    go_end0
    refine ⟨rfl, y, m, cap, q', HA3.out.put 4 _, ?_, ?_, fun i hi => ?_⟩
    · exact HM3.out.keep ((Keep.refl (fun i => i = g) w2).setCell (p := ⟨g, 4, none⟩) (fun _ => rfl) _) (fun b hb e => HM3.out.ne HA3.out (by decide) (by rw [hb, e]))
    · refine ((HK2.out.mono (fun _ _ h => h.elim)).trans (T := fun i => qe = some i) HK3.out (fun i _ e => .inr e)).setCell (p := ⟨g, 4, none⟩) (fun _ => .inl rfl) _
    · rcases HN3.out i hi with h1 | h1
      · exact .inl h1
      · exact .inr (Nat.le_trans HK2.out.size h1)
end Go.Proofs.YtcjljldknekhiaaGreatDoor.Ln
end

section
/-
  What the program's say, remark, reply and reset return.
-/
namespace Go.Proofs.YtcjljldknekhiaaGreatDoor.Ln
open Go.RowKit
set_option linter.unusedVariables false
set_option linter.unusedSimpArgs false

/-! ### Numbers as text -/
theorem dig_dec : ∀ n : Nat, Lib.decDigits n = (dig n).map UInt8.ofNat := by
  intro n
  induction n using Nat.strongRecOn with
  | _ n ih =>
    rw [Lib.decDigits, dig]
    by_cases h : n < 10
    · rw [dif_pos h, if_pos h]; rfl
    · rw [dif_neg h, if_neg h, ih (n / 10) (by omega), List.map_append]; rfl
theorem itoa_str (n : Nat) : (⟨(Lib.itoa (n : Int)).toArray⟩ : ByteArray) = str (dig n) := by
  apply ByteArray.ext
  apply Array.ext'
  rw [Lib.itoa_nonneg, dig_dec]
  simp [str, strOfNums, Function.comp_def]
theorem itoaC (n : Nat) (hn : n ≤ 1000000) (w : World) (hE : Env w) : Calls Tryz.prog 28 #[.int .i64 (n : Int)] w fun e w' => e = .returned (.string (str (dig n))) ∧ Keep (fun _ => False) w w' := by
  refine (Ad.strconv_Itoa (n : Int) (by omega) (by omega) w hE.2).mono ?_
  rintro e w' ⟨rfl, k, os, rfl⟩
  exact ⟨by rw [itoa_str], Keep.of_below (Lib.below_grow _ w (Nat.le_refl _) k os)⟩
theorem dig_size (n : Nat) (hn : n ≤ 1000000) : (str (dig n)).size ≤ 9 := by
  rw [str_size]
  by_cases h : n = 0
  · subst h; rw [dig]; simp
  · rw [← front_pos (by omega)]; exact dig_len 9 n (by omega)

/-! ### An event is told -/
section
variable {F : Nat → Prop} {w w' : World} {g : Nat} {p : Se} {lv ev rv bv : Value} {o : Own} {xs : List Value}
theorem PSat.tell (h : PSat F w g p lv ev rv bv o xs) {e : Ev} {cs : List Value} (he : ∀ R W, EvAt R W e cs) {y : Option Addr} {m cap : Nat} {q' : Option Nat} (hA : At w' g 68 ((pCells p lv ev rv bv).setIfInBounds 4 (.slice y m cap))) (hM : MidG 46 8 w' (.slice y m cap) q' (p.out.length + 1) (xs ++ cs)) (k : Keep (fun i => i = g ∨ o.qe = some i) w w') (hN : New w o.qe q') :
    ∃ F', PS F' w' g { p with out := p.out ++ [e] } ∧ Keep F w w' ∧ More F F' w := by
  have h1 := h.neg
  have h2 := h.ner
  have h3 := h.neb
  have h4 := h.nel
  have h5 := h.neL
  obtain ⟨F', H1, H2, H3⟩ := h.turn (p' := { p with out := p.out ++ [e] }) (lv' := lv) (ev' := .slice y m cap) (rv' := rv) (bv' := bv) (o' := { o with qe := q' }) (xs' := xs ++ cs) (R1 := PRd F g o) k (fun i _ e => e.elim .inl (fun e => .inr (.inl e))) hA
    (by rw [show (p.out ++ [e]).length = p.out.length + 1 by simp]; exact hM)
    (EvsAt.snoc (he _ _) (h.evs.keepW k (fun b _ hR => ⟨fun e => e.elim hR.2.1 (fun e => hR.2.2 (.inl e)), hR⟩)))
    (h.rc.keep k (fun b hb e => e.elim (h1 b (.inr (.inl hb))) (h2 b hb).1)) (h.body.keep k (fun b hb e => e.elim (h1 b (.inr (.inr (.inl hb)))) (h3 b hb).1)) (h.lin.keep k (fun b hb e => e.elim (h1 b (.inr (.inr (.inr (.inr hb))))) (h5 b hb).1) (fun b hb e => e.elim (h1 b (.inr (.inr (.inr (.inl hb))))) (h4 b hb).1))
    h.nbl (fun i hi => by
      rcases hi with hi | hi
      · rcases hN i hi with e | e
        · exact .inl (.inl e)
        · exact .inr e
      · exact .inl (.inr hi)) (fun i _ hR => ⟨.inl hR.1, hR.2.1, fun hi => by
      rcases hi with hi | hi
      · rcases hN i hi with e | e
        · exact hR.2.2 (.inl e)
        · have := h.flt i hR.1; omega
      · exact hR.2.2 (.inr hi)⟩)
  exact ⟨F', ⟨_, _, _, _, _, _, H1⟩, H2, H3⟩
end

set_option maxHeartbeats 1000000 in
theorem psay {F : Nat → Prop} {w : World} {g : Nat} {p : Se} (h : PS F w g p) (t : ByteArray) (hl : p.out.length ≤ 1000000) :
    Calls Tryz.prog 27 #[.pointer (some ⟨g, 0, none⟩), .string t] w (PDid F g (p.say t) w) := by
  obtain ⟨lv, ev, rv, bv, o, xs, h⟩ := h
  obtain ⟨x, cap, rfl, hc⟩ := h.out.shape
  have H := Lib.hid h
  clear h
  go_enter Tryz.func27, Tryz.ntmps27
  go_wp2_with fail
  refine (tellRaw H.out.row rfl H.out.out hl 1 t nobody none none 0 0 0 0).mono ?_
  rintro e w' ⟨rfl, y, m, cap', q', hA, hM, hK, hN⟩
  have HX := Lib.hid (H.out.tell (e := .say t) (fun _ _ => rfl) hA hM hK hN)
  clear hA hM hK hN
  go_wp2_with fail
  go_end0
  exact ⟨rfl, HX.out⟩
/-- The last event of all. -/
theorem ptellShut {F : Nat → Prop} {w : World} {g : Nat} {p : Se} (h : PS F w g p) (hl : p.out.length ≤ 1000000) :
    Calls Tryz.prog 48 #[.pointer (some ⟨g, 0, none⟩), evV 3 nobody nobody nilV nilV] w (PDid F g { p with out := p.out ++ [.shut] } w) := by
  obtain ⟨lv, ev, rv, bv, o, xs, h⟩ := h
  obtain ⟨x, cap, rfl, hc⟩ := h.out.shape
  refine (tellRaw h.row rfl h.out hl 3 nobody nobody none none 0 0 0 0).mono ?_
  rintro e w' ⟨rfl, y, m, cap', q', hA, hM, hK, hN⟩
  exact ⟨rfl, h.tell (e := .shut) (fun _ _ => rfl) hA hM hK hN⟩

/-! ### Replies -/
def rem (n : Nat) : List Nat := if n = 250 then [111, 107] else if n = 221 then [98, 121, 101] else if n = 354 then [103, 111, 32, 111, 110] else [110, 111]
theorem tail_rem (n : Nat) : tailOf n = [32] ++ rem n ++ [13, 10] := by
  unfold tailOf rem
  split; · rfl
  split; · rfl
  split <;> rfl
theorem rem_size (n : Nat) : (str (rem n)).size ≤ 5 := by
  rw [str_size]
  unfold rem
  split; · decide
  split; · decide
  split <;> decide
set_option maxHeartbeats 1000000 in
theorem premark (n : Nat) (w : World) (hn : n ≤ 1000000) : Calls Tryz.prog 51 #[.int .i64 (n : Int)] w fun e w' => e = .returned (.string (str (rem n))) ∧ w' = w := by
  by_cases h250 : (n : Int) = 250
  · obtain rfl : n = 250 := by omega
    go_enter Tryz.func51, Tryz.ntmps51
    go_wp2
    go_ret
    exact ⟨rfl, rfl⟩
  · by_cases h221 : (n : Int) = 221
    · obtain rfl : n = 221 := by omega
      go_enter Tryz.func51, Tryz.ntmps51
      go_wp2
      go_ret
      exact ⟨rfl, rfl⟩
    · by_cases h354 : (n : Int) = 354
      · obtain rfl : n = 354 := by omega
        go_enter Tryz.func51, Tryz.ntmps51
        go_wp2
        go_ret
        exact ⟨rfl, rfl⟩
      · go_enter Tryz.func51, Tryz.ntmps51
        go_wp2
        go_ret
        refine ⟨?_, rfl⟩
        rw [rem, if_neg (by omega), if_neg (by omega), if_neg (by omega)]
        rfl
theorem reply_parts (n : Nat) : ((str (dig n) ++ ({ data := #[32] } : ByteArray)) ++ str (rem n)) ++ ({ data := #[13, 10] } : ByteArray) = reply n := by
  have e1 : ({ data := #[32] } : ByteArray) = str [32] := rfl
  have e2 : ({ data := #[13, 10] } : ByteArray) = str [13, 10] := rfl
  rw [e1, e2, str_append, str_append, str_append, reply, tail_rem]
  simp

set_option maxHeartbeats 1000000 in
theorem preply {F : Nat → Prop} {w : World} {g : Nat} {p : Se} (h : PS F w g p) (hE : Env w) (n : Nat) (hn : n ≤ 1000000) (hl : p.out.length ≤ 1000000) :
    Calls Tryz.prog 33 #[.pointer (some ⟨g, 0, none⟩), .int .i64 (n : Int)] w (PDid F g (p.say (reply n)) w) := by
  have N0 := Lib.hid (PNow.start h hE)
  have HP := Lib.hid (reply_parts n)
  have hd := dig_size n hn
  have hr := rem_size n
  have HI := Lib.hid (fun W e => itoaC n hn W e)
  have HR := Lib.hid (fun W => premark n W hn)
  clear h hE
  generalize str (dig n) = D at HP HI hd
  generalize str (rem n) = E at HP HR hr
  go_enter Tryz.func33, Tryz.ntmps33
  go_wp2_with fail
  refine (HI.out _ N0.out.env).mono ?_
  rintro e w1 ⟨rfl, hk1⟩
  have N1 := Lib.hid (N0.out.quiet hk1)
  clear hk1
  go_wp2_with fail
  refine (HR.out _).mono ?_
  rintro e w2 ⟨rfl, rfl⟩
  go_wp2_with fail
  refine (psay N1.out.rs _ hl).mono ?_
  rintro e w3 hd3
  rw [HP.out] at hd3
  obtain ⟨rfl, F3, hN3⟩ := N1.out.did hd3
  have N3 := Lib.hid hN3
  clear hd3 hN3
  go_wp2_with fail
  go_end0
  exact N3.out.done
end Go.Proofs.YtcjljldknekhiaaGreatDoor.Ln
end

section
/-
  What the program's reset, greet, offer, quit, sender, rcpt and data return.
-/
namespace Go.Proofs.YtcjljldknekhiaaGreatDoor.Ln
open Go.RowKit
set_option linter.unusedVariables false
set_option linter.unusedSimpArgs false

/-- One cell of the session is set. -/
theorem PNow.put {F F' : Nat → Prop} {w w' : World} {g : Nat} {p p' : Se} (h : PNow F w g F' w' p) (i : Nat) (u : Value) (he : ∀ lv ev rv bv, (pCells p lv ev rv bv).setIfInBounds i u = pCells p' lv ev rv bv) (ho : p'.out = p.out) (hb : p'.body = p.body) (hw : p'.wait = p.wait) (hr : p'.rcpts = p.rcpts) (h6 : p'.st = 6 ↔ p.st = 6) :
    ∃ F'', PNow F w g F'' (w'.setCell ⟨g, i, none⟩ u) p' := by
  obtain ⟨lv, ev, rv, bv, o, xs, h1⟩ := h.rs
  have hA := h1.row.put i u
  rw [he] at hA
  obtain ⟨F'', a, b, c⟩ := h1.put (p' := p') ((Keep.refl (fun k => k = g) w').setCell (p := ⟨g, i, none⟩) (fun _ => rfl) u) hA ho (.inl ⟨rfl, hr⟩) (.inl ⟨rfl, hb⟩) (.inl ⟨rfl, hw, h6⟩)
  exact ⟨F'', h.on a b c⟩

theorem cells_reset (p : Se) (lv ev rv bv : Value) : ((((((((pCells p lv ev rv bv).setIfInBounds 2 (.int .i64 (p.reset.st : Int))).setIfInBounds 5 (.int .i64 0)).setIfInBounds 6 (.int .i64 0)).setIfInBounds 7 (.int .i64 0)).setIfInBounds 8 (.string { data := #[] })).setIfInBounds 9 (.slice none 0 0)).setIfInBounds 10 (.slice none 0 0)).setIfInBounds 11 (.int .i64 0) = pCells p.reset lv ev nilV nilV := by
  simp only [pCells, List.setIfInBounds_toArray, List.set_cons_zero, List.set_cons_succ]
  rfl
set_option maxHeartbeats 1000000 in
theorem preset {F : Nat → Prop} {w : World} {g : Nat} {p : Se} (h : PS F w g p) (h6 : p.st ≠ 6) :
    Calls Tryz.prog 32 #[.pointer (some ⟨g, 0, none⟩)] w (PDid F g p.reset w) := by
  obtain ⟨lv, ev, rv, bv, o, xs, h⟩ := h
  obtain ⟨c0, c1, c2, c3, c4, c5, c6, c7, c8, c9, c10, c11, fz⟩ := h.cells
  have H := Lib.hid h
  have H6 := Lib.hid h6
  have HE : Hid (min (p.st : Int) 1 = ((p.reset.st : Nat) : Int)) := Lib.hid (by simp only [Se.reset]; split <;> omega)
  clear h h6
  go_enter Tryz.func32, Tryz.ntmps32
  go_wp2
  go_end0
  rw [HE.out]
  have hA := (((((((H.out.row.put 2 (.int .i64 (p.reset.st : Int))).put 5 (.int .i64 0)).put 6 (.int .i64 0)).put 7 (.int .i64 0)).put 8 (.string { data := #[] })).put 9 (.slice none 0 0)).put 10 (.slice none 0 0)).put 11 (.int .i64 0)
  rw [cells_reset] at hA
  refine ⟨rfl, H.out.put (p' := p.reset) (lv' := lv) (rv' := nilV) (bv' := nilV) ?_ hA rfl (.inr ⟨rfl, rfl⟩) (.inr ⟨rfl, rfl⟩) (.inl ⟨rfl, rfl, ?_⟩)⟩
  · exact (((((((((Keep.refl (fun k => k = g) w).setCell (p := ⟨g, 2, none⟩) (fun _ => rfl) _).setCell (p := ⟨g, 5, none⟩) (fun _ => rfl) _).setCell (p := ⟨g, 6, none⟩) (fun _ => rfl) _).setCell (p := ⟨g, 7, none⟩) (fun _ => rfl) _).setCell (p := ⟨g, 8, none⟩) (fun _ => rfl) _).setCell (p := ⟨g, 9, none⟩) (fun _ => rfl) _).setCell (p := ⟨g, 10, none⟩) (fun _ => rfl) _).setCell (p := ⟨g, 11, none⟩) (fun _ => rfl) _)
  · have := H6.out
    simp only [Se.reset]
    split <;> omega

set_option maxHeartbeats 1000000 in
theorem pgreet {F : Nat → Prop} {w : World} {g : Nat} {p : Se} (h : PS F w g p) (hE : Env w) (h6 : p.st ≠ 6) :
    Calls Tryz.prog 113 #[.pointer (some ⟨g, 0, none⟩)] w (PDid F g (p.reset.to 1) w) := by
  have N0 := Lib.hid (PNow.start h hE)
  have H6 := Lib.hid h6
  clear h hE h6
  go_enter Tryz.func113, Tryz.ntmps113
  go_wp2_with fail
  refine (preset N0.out.rs H6.out).mono ?_
  rintro e w1 hd
  obtain ⟨rfl, F1, hN1⟩ := N0.out.did hd
  have N1 := Lib.hid hN1
  obtain ⟨_, _, c2, _, _, fz⟩ := hN1.cells
  have f2 := fz 2
  clear hd hN1 fz
  go_wp2
  go_end0
  obtain ⟨F2, hN2⟩ := N1.out.put (p' := p.reset.to 1) 2 (.int .i64 1) (fun _ _ _ _ => rfl) rfl rfl rfl rfl (by
    have := H6.out
    simp only [Se.reset, Se.to]
    split <;> omega)
  exact hN2.done

/-- A call that answers a code. -/
def PCode (F : Nat → Prop) (g : Nat) (p : Se) (c : Nat) (w : World) (e : Ending) (w' : World) : Prop :=
  e = .returned (.int .i64 (c : Int)) ∧ ∃ F', PS F' w' g p ∧ Keep F w w' ∧ More F F' w
theorem PNow.code {F F' : Nat → Prop} {w w' w'' : World} {g : Nat} {p p' : Se} {c : Nat} {e : Ending} (h : PNow F w g F' w' p) (d : PCode F' g p' c w' e w'') : e = .returned (.int .i64 (c : Int)) ∧ ∃ F'', PNow F w g F'' w'' p' := by
  obtain ⟨he, F'', h1, h2, h3⟩ := d
  exact ⟨he, F'', h.on h1 h2 h3⟩
theorem PNow.coded {F F' : Nat → Prop} {w w' : World} {g : Nat} {p : Se} {c : Nat} (h : PNow F w g F' w' p) : PCode F g p c w (.returned (.int .i64 (c : Int))) w' := ⟨rfl, F', h.rs, h.kp, h.more⟩
def Se.dataC (p : Se) : Nat := if p.st ≠ 3 then 503 else 354
def Se.dataS (p : Se) : Se := if p.st ≠ 3 then p else p.to 4
theorem data_parts (p : Se) : p.dataS.say (reply p.dataC) = p.data := by
  unfold Se.dataS Se.dataC Se.data
  split <;> rfl
set_option maxHeartbeats 1000000 in
theorem pdata {F : Nat → Prop} {w : World} {g : Nat} {p : Se} (h : PS F w g p) (hE : Env w) :
    Calls Tryz.prog 118 #[.pointer (some ⟨g, 0, none⟩)] w (PCode F g p.dataS p.dataC w) := by
  have N0 := Lib.hid (PNow.start h hE)
  obtain ⟨_, _, c2, _, _, fz⟩ := (PNow.start h hE).cells
  have f2 := fz 2
  clear h hE fz
  by_cases h3 : (p.st : Int) = 3
  · have e1 : Hid (p.dataS = p.to 4) := Lib.hid (by rw [Se.dataS, if_neg (by omega)])
    have e2 : Hid (p.dataC = 354) := Lib.hid (by rw [Se.dataC, if_neg (by omega)])
    go_enter Tryz.func118, Tryz.ntmps118
    go_wp2
    go_ret
    obtain ⟨F2, hN2⟩ := N0.out.put (p' := p.to 4) 2 (.int .i64 4) (fun _ _ _ _ => rfl) rfl rfl rfl rfl (by simp only [Se.to]; omega)
    rw [e1.out, e2.out]
    exact hN2.coded
  · have e1 : Hid (p.dataS = p) := Lib.hid (by rw [Se.dataS, if_pos (by omega)])
    have e2 : Hid (p.dataC = 503) := Lib.hid (by rw [Se.dataC, if_pos (by omega)])
    go_enter Tryz.func118, Tryz.ntmps118
    go_wp2
    go_ret
    rw [e1.out, e2.out]
    exact N0.out.coded

set_option maxHeartbeats 1000000 in
theorem pquit {F : Nat → Prop} {w : World} {g : Nat} {p : Se} (h : PS F w g p) (hE : Env w) (h6 : p.st ≠ 6) (hl : p.out.length + 2 ≤ 1000000) :
    Calls Tryz.prog 115 #[.pointer (some ⟨g, 0, none⟩)] w (PDid F g p.reset.quit w) := by
  have N0 := Lib.hid (PNow.start h hE)
  have H6 := Lib.hid h6
  clear h hE h6
  go_enter Tryz.func115, Tryz.ntmps115
  go_wp2_with fail
  refine (preset N0.out.rs H6.out).mono ?_
  rintro e w1 hd
  obtain ⟨rfl, F1, hN1⟩ := N0.out.did hd
  obtain ⟨lv, ev, rv, bv, o, xs, h1⟩ := hN1.rs
  obtain ⟨_, _, c2, c3, _, _, _, _, _, _, _, _, fz⟩ := h1.cells
  have f2 := fz 2
  have f3 := fz 3
  obtain ⟨F2, a2, b2, m2⟩ := h1.put (p' := p.reset.to 6) (lv' := .pointer none) (rv' := rv) (bv' := bv) (((Keep.refl (fun k => k = g) w1).setCell (p := ⟨g, 2, none⟩) (fun _ => rfl) (.int .i64 6)).setCell (p := ⟨g, 3, none⟩) (fun _ => rfl) (.pointer none)) ((h1.row.put 2 _).put 3 _) rfl (.inl ⟨rfl, rfl⟩) (.inl ⟨rfl, rfl⟩) (.inr ⟨rfl, rfl⟩)
  have N2 := Lib.hid (hN1.on a2 b2 m2)
  clear hd hN1 fz h1 a2 b2 m2
  go_wp2_with fail
  refine (preply N2.out.rs N2.out.env 221 (by decide) (by show p.out.length ≤ 1000000; omega)).mono ?_
  rintro e w3 hd
  obtain ⟨rfl, F3, hN3⟩ := N2.out.did hd
  have N3 := Lib.hid hN3
  clear hd hN3
  go_wp2_with fail
  refine (ptellShut N3.out.rs (by show (p.out ++ [_]).length ≤ 1000000; simp; omega)).mono ?_
  rintro e w4 hd
  obtain ⟨rfl, F4, hN4⟩ := N3.out.did hd
  have N4 := Lib.hid hN4
  clear hd hN4
  go_wp2_with fail
  go_end0
  exact N4.out.done

theorem ehlo_parts (H : ByteArray) (D : ByteArray) : (((((({ data := #[50, 53, 48, 45] } : ByteArray) ++ H) ++ ({ data := #[13, 10] } : ByteArray)) ++ ({ data := #[50, 53, 48, 45, 83, 73, 90, 69, 32] } : ByteArray)) ++ D) ++ ({ data := #[13, 10] } : ByteArray)) ++ ({ data := #[50, 53, 48, 32, 80, 73, 80, 69, 76, 73, 78, 73, 78, 71] } : ByteArray) ++ ({ data := #[13, 10] } : ByteArray) =
    { data := #[50, 53, 48, 45] } ++ H ++ { data := #[13, 10, 50, 53, 48, 45, 83, 73, 90, 69, 32] } ++ D ++ { data := #[13, 10, 50, 53, 48, 32, 80, 73, 80, 69, 76, 73, 78, 73, 78, 71, 13, 10] } := by
  apply ByteArray.ext
  apply Array.ext'
  simp
set_option maxHeartbeats 4000000 in
set_option maxRecDepth 100000 in
theorem poffer {F : Nat → Prop} {w : World} {g : Nat} {p : Se} (h : PS F w g p) (hE : Env w) (hz : p.size ≤ 8192) (hh : p.host.size ≤ 100000) :
    Calls Tryz.prog 114 #[.pointer (some ⟨g, 0, none⟩)] w fun e w' => e = .returned (.string (ehlo p.host p.size)) ∧ Keep (fun _ => False) w w' := by
  have N0 := Lib.hid (PNow.start h hE)
  obtain ⟨e0, e1, _, _, _, _⟩ := (PNow.start h hE).cells
  have HI := Lib.hid (fun W e => itoaC p.size (by omega) W e)
  have hd := dig_size p.size (by omega)
  have HP := Lib.hid (ehlo_parts p.host (str (dig p.size)))
  obtain ⟨D, hD⟩ : ∃ D, D = str (dig p.size) := ⟨_, rfl⟩
  rw [← hD] at HI hd HP
  have HD := Lib.hid hD
  clear h hE hD
  have hq1 : ¬ (9223372036854775807 < 4 + p.host.size) := by omega
  have hq2 : ¬ (9223372036854775807 < 4 + p.host.size + 2) := by omega
  have hq3 : ¬ (9223372036854775807 < 4 + p.host.size + 2 + 9) := by omega
  have hq4 : ¬ (9223372036854775807 < 4 + p.host.size + 2 + 9 + D.size) := by omega
  have hq5 : ¬ (9223372036854775807 < 4 + p.host.size + 2 + 9 + D.size + 2) := by omega
  have hq6 : ¬ (9223372036854775807 < 4 + p.host.size + 2 + 9 + D.size + 2 + 14) := by omega
  have hq7 : ¬ (9223372036854775807 < 4 + p.host.size + 2 + 9 + D.size + 2 + 14 + 2) := by omega
  go_enter Tryz.func114, Tryz.ntmps114
  go_wp2_with fail
  refine wp_region_noPanic ?_
  refine wp_region_held_drew (S := fun w' => w'.cell? ⟨g, 0, none⟩ = some (.string p.host) ∧ w'.cell? ⟨g, 1, none⟩ = some (.int .i64 (p.size : Int))) (by kernel_rfl) ⟨e0, e1⟩ (fun hHeld => ?_)
  refine wpAnyH_take (i := 0) (v := ?_) rfl (by kernel_rfl) (by kernel_rfl) (by kernel_rfl) (fun _ _ _ h => h) (Or.inl ⟨by rfl, ?_⟩) (by assumption) ?_
  rotate_left
  · (intro wS hSw; (try dsimp only at hSw); obtain ⟨hS1, hS2⟩ := hSw; (try simp only [List.getElem_toArray, List.getElem_cons_succ, List.getElem_cons_zero]); go_simp; try (with_reducible rfl))
  try simp only [Act.put, List.getElem_toArray, List.getElem_cons_succ, List.getElem_cons_zero, List.setIfInBounds_toArray, List.set_cons_zero, List.set_cons_succ]
  refine wpAnyH_take (i := 1) (v := ?_) rfl (by kernel_rfl) (by kernel_rfl) (by kernel_rfl) (fun _ _ _ h => h) (Or.inl ⟨by rfl, ?_⟩) (by assumption) ?_
  rotate_left
  · (intro wS hSw; (try dsimp only at hSw); obtain ⟨hS1, hS2⟩ := hSw; (try simp only [List.getElem_toArray, List.getElem_cons_succ, List.getElem_cons_zero]); go_simp; try (with_reducible rfl))
  try simp only [Act.put, List.getElem_toArray, List.getElem_cons_succ, List.getElem_cons_zero, List.setIfInBounds_toArray, List.set_cons_zero, List.set_cons_succ]
  refine wpAnyH_take (i := 2) (v := ?_) rfl (by kernel_rfl) (by kernel_rfl) (by kernel_rfl) (fun _ _ _ h => h) (Or.inl ⟨by rfl, ?_⟩) (by assumption) ?_
  rotate_left
  · (intro wS hSw; (try dsimp only at hSw); obtain ⟨hS1, hS2⟩ := hSw; (try simp only [List.getElem_toArray, List.getElem_cons_succ, List.getElem_cons_zero]); go_simp; try (with_reducible rfl))
  try simp only [Act.put, List.getElem_toArray, List.getElem_cons_succ, List.getElem_cons_zero, List.setIfInBounds_toArray, List.set_cons_zero, List.set_cons_succ]
  refine wpAnyH_take (i := 3) (v := ?_) rfl (by kernel_rfl) (by kernel_rfl) (by kernel_rfl) (fun _ _ _ h => h) (Or.inl ⟨by rfl, ?_⟩) (by assumption) ?_
  rotate_left
  · (intro wS hSw; (try dsimp only at hSw); obtain ⟨hS1, hS2⟩ := hSw; (try simp only [List.getElem_toArray, List.getElem_cons_succ, List.getElem_cons_zero]); go_simp; try (with_reducible rfl))
  try simp only [Act.put, List.getElem_toArray, List.getElem_cons_succ, List.getElem_cons_zero, List.setIfInBounds_toArray, List.set_cons_zero, List.set_cons_succ]
  refine wpAnyH_take (i := 4) (v := ?_) rfl (by kernel_rfl) (by kernel_rfl) (by kernel_rfl) (fun _ _ _ h => h) (Or.inl ⟨by rfl, ?_⟩) (by assumption) ?_
  rotate_left
  · (intro wS hSw; (try dsimp only at hSw); obtain ⟨hS1, hS2⟩ := hSw; (try simp only [List.getElem_toArray, List.getElem_cons_succ, List.getElem_cons_zero]); go_simp; try (with_reducible rfl))
  try simp only [Act.put, List.getElem_toArray, List.getElem_cons_succ, List.getElem_cons_zero, List.setIfInBounds_toArray, List.set_cons_zero, List.set_cons_succ]
  refine wpAnyH_take (i := 5) (v := ?_) rfl (by kernel_rfl) (by kernel_rfl) (by kernel_rfl) (fun _ _ _ h => h) (Or.inl ⟨by rfl, ?_⟩) (by assumption) ?_
  rotate_left
  · (intro wS hSw; (try dsimp only at hSw); obtain ⟨hS1, hS2⟩ := hSw; (try simp only [List.getElem_toArray, List.getElem_cons_succ, List.getElem_cons_zero]); go_simp; try (with_reducible rfl))
  try simp only [Act.put, List.getElem_toArray, List.getElem_cons_succ, List.getElem_cons_zero, List.setIfInBounds_toArray, List.set_cons_zero, List.set_cons_succ]
  refine wpAnyH_take (i := 6) (v := ?_) rfl (by kernel_rfl) (by kernel_rfl) (by kernel_rfl) (fun _ _ _ h => h) (Or.inl ⟨by rfl, ?_⟩) (by assumption) ?_
  rotate_left
  · (intro wS hSw; (try dsimp only at hSw); obtain ⟨hS1, hS2⟩ := hSw; (try simp only [List.getElem_toArray, List.getElem_cons_succ, List.getElem_cons_zero]); go_simp; try (with_reducible rfl))
  try simp only [Act.put, List.getElem_toArray, List.getElem_cons_succ, List.getElem_cons_zero, List.setIfInBounds_toArray, List.set_cons_zero, List.set_cons_succ]
  refine wpAnyH_take (i := 7) (v := ?_) rfl (by kernel_rfl) (by kernel_rfl) (by kernel_rfl) (fun _ _ _ h => h) (Or.inl ⟨by rfl, ?_⟩) (by assumption) ?_
  rotate_left
  · (intro wS hSw; (try dsimp only at hSw); obtain ⟨hS1, hS2⟩ := hSw; (try simp only [List.getElem_toArray, List.getElem_cons_succ, List.getElem_cons_zero]); go_simp; try (with_reducible rfl))
  try simp only [Act.put, List.getElem_toArray, List.getElem_cons_succ, List.getElem_cons_zero, List.setIfInBounds_toArray, List.set_cons_zero, List.set_cons_succ]
  refine wpAnyH_take (i := 8) (v := ?_) rfl (by kernel_rfl) (by kernel_rfl) (by kernel_rfl) (fun _ _ _ h => h) (Or.inl ⟨by rfl, ?_⟩) (by assumption) ?_
  rotate_left
  · (intro wS hSw; (try dsimp only at hSw); obtain ⟨hS1, hS2⟩ := hSw; (try simp only [List.getElem_toArray, List.getElem_cons_succ, List.getElem_cons_zero]); go_simp; try (with_reducible rfl))
  try simp only [Act.put, List.getElem_toArray, List.getElem_cons_succ, List.getElem_cons_zero, List.setIfInBounds_toArray, List.set_cons_zero, List.set_cons_succ]
  refine wpAnyH_take (i := 9) (v := ?_) rfl (by kernel_rfl) (by kernel_rfl) (by kernel_rfl) (fun _ _ _ h => h) (Or.inl ⟨by rfl, ?_⟩) (by assumption) ?_
  rotate_left
  · (intro wS hSw; (try dsimp only at hSw); obtain ⟨hS1, hS2⟩ := hSw; (try simp only [List.getElem_toArray, List.getElem_cons_succ, List.getElem_cons_zero]); go_simp; try (with_reducible rfl))
  try simp only [Act.put, List.getElem_toArray, List.getElem_cons_succ, List.getElem_cons_zero, List.setIfInBounds_toArray, List.set_cons_zero, List.set_cons_succ]
  refine wpAnyH_take (i := 10) (v := ?_) rfl (by kernel_rfl) (by kernel_rfl) (by kernel_rfl) (fun _ _ _ h => h) (Or.inl ⟨by rfl, ?_⟩) (by assumption) ?_
  rotate_left
  · (intro wS hSw; (try dsimp only at hSw); obtain ⟨hS1, hS2⟩ := hSw; (try simp only [List.getElem_toArray, List.getElem_cons_succ, List.getElem_cons_zero]); go_simp; try (with_reducible rfl))
  try simp only [Act.put, List.getElem_toArray, List.getElem_cons_succ, List.getElem_cons_zero, List.setIfInBounds_toArray, List.set_cons_zero, List.set_cons_succ]
  refine wpAnyH_ready (rs := [11]) (by kernel_rfl) (by simp) ?_
  refine AllReadyH.cons rfl (fun K hK => ?_) AllReadyH.nil
  go_simp
  refine (HI.out _ (N0.out.env.quiet ((Keep.refl (fun _ => False) w).drew))).mono ?_
  rintro e w4 ⟨rfl, hk4⟩
  have HK4 := Lib.hid (((Keep.refl (fun _ => False) w).drew).trans hk4 (fun _ _ h => h))
  have e04 := HK4.out.cell e0 (fun h => h)
  have e14 := HK4.out.cell e1 (fun h => h)
  clear hk4
  go_wp2_with fail
  refine hK.out _ _ ⟨e04, e14⟩ (fun hHeld => ?_)
  clear hK K
  try simp only [Act.put, List.getElem_toArray, List.getElem_cons_succ, List.getElem_cons_zero, List.setIfInBounds_toArray, List.set_cons_zero, List.set_cons_succ]
  refine wpAnyH_take (i := 12) (v := ?_) rfl (by kernel_rfl) (by kernel_rfl) (by kernel_rfl) (fun _ _ _ h => h) (Or.inl ⟨by rfl, ?_⟩) (by assumption) ?_
  rotate_left
  · (intro wS hSw; (try dsimp only at hSw); obtain ⟨hS1, hS2⟩ := hSw; (try simp only [List.getElem_toArray, List.getElem_cons_succ, List.getElem_cons_zero]); go_simp; try (with_reducible rfl))
  try simp only [Act.put, List.getElem_toArray, List.getElem_cons_succ, List.getElem_cons_zero, List.setIfInBounds_toArray, List.set_cons_zero, List.set_cons_succ]
  refine wpAnyH_take (i := 13) (v := ?_) rfl (by kernel_rfl) (by kernel_rfl) (by kernel_rfl) (fun _ _ _ h => h) (Or.inl ⟨by rfl, ?_⟩) (by assumption) ?_
  rotate_left
  · (intro wS hSw; (try dsimp only at hSw); obtain ⟨hS1, hS2⟩ := hSw; (try simp only [List.getElem_toArray, List.getElem_cons_succ, List.getElem_cons_zero]); go_simp; try (with_reducible rfl))
  try simp only [Act.put, List.getElem_toArray, List.getElem_cons_succ, List.getElem_cons_zero, List.setIfInBounds_toArray, List.set_cons_zero, List.set_cons_succ]
  refine wpAnyH_take (i := 14) (v := ?_) rfl (by kernel_rfl) (by kernel_rfl) (by kernel_rfl) (fun _ _ _ h => h) (Or.inl ⟨by rfl, ?_⟩) (by assumption) ?_
  rotate_left
  · (intro wS hSw; (try dsimp only at hSw); obtain ⟨hS1, hS2⟩ := hSw; (try simp only [List.getElem_toArray, List.getElem_cons_succ, List.getElem_cons_zero]); go_simp; try (with_reducible rfl))
  try simp only [Act.put, List.getElem_toArray, List.getElem_cons_succ, List.getElem_cons_zero, List.setIfInBounds_toArray, List.set_cons_zero, List.set_cons_succ]
  refine wpAnyH_take (i := 15) (v := ?_) rfl (by kernel_rfl) (by kernel_rfl) (by kernel_rfl) (fun _ _ _ h => h) (Or.inl ⟨by rfl, ?_⟩) (by assumption) ?_
  rotate_left
  · (intro wS hSw; (try dsimp only at hSw); obtain ⟨hS1, hS2⟩ := hSw; (try simp only [List.getElem_toArray, List.getElem_cons_succ, List.getElem_cons_zero]); go_simp; try (with_reducible rfl))
  try simp only [Act.put, List.getElem_toArray, List.getElem_cons_succ, List.getElem_cons_zero, List.setIfInBounds_toArray, List.set_cons_zero, List.set_cons_succ]
  refine wpAnyH_take (i := 16) (v := ?_) rfl (by kernel_rfl) (by kernel_rfl) (by kernel_rfl) (fun _ _ _ h => h) (Or.inl ⟨by rfl, ?_⟩) (by assumption) ?_
  rotate_left
  · (intro wS hSw; (try dsimp only at hSw); obtain ⟨hS1, hS2⟩ := hSw; (try simp only [List.getElem_toArray, List.getElem_cons_succ, List.getElem_cons_zero]); go_simp; try (with_reducible rfl))
  try simp only [Act.put, List.getElem_toArray, List.getElem_cons_succ, List.getElem_cons_zero, List.setIfInBounds_toArray, List.set_cons_zero, List.set_cons_succ]
  refine wpAnyH_done (by kernel_rfl) ?_ _
  refine NoPanic.normal ?_
  go_wp2
  go_ret
  refine ⟨?_, HK4.out⟩
  rw [ehlo, ← HD.out, ← HP.out]
  rfl

/-! ### MAIL and RCPT -/
def Se.mailC (p : Se) (z : Int) : Nat := if p.st ≠ 1 then 503 else if (p.size : Int) < z then 552 else 250
def Se.mailS (p : Se) (a : ByteArray) (z : Int) : Se := if p.st ≠ 1 then p else if (p.size : Int) < z then p else { p with st := 2, frm := a }
theorem mail_parts (p : Se) (v : VC) : (p.mailS v.arg v.size).say (reply (p.mailC v.size)) = p.mail v := by
  unfold Se.mailS Se.mailC Se.mail
  split; · rfl
  split <;> rfl
def verbV (n a : ByteArray) (z : Int) : Value := .agg #[.string n, .string a, .int .i64 z]
set_option maxHeartbeats 4000000 in
theorem psender {F : Nat → Prop} {w : World} {g : Nat} {p : Se} (h : PS F w g p) (hE : Env w) (n a : ByteArray) (z : Int) :
    Calls Tryz.prog 116 #[.pointer (some ⟨g, 0, none⟩), verbV n a z] w (PCode F g (p.mailS a z) (p.mailC z) w) := by
  unfold verbV
  have hk1 : Keep (fun _ => False) w (w.alloc (.cells #[.string n, .string a, .int .i64 z] 58)) := (Keep.refl (fun _ => False) w).alloc _
  have N1 := Lib.hid ((PNow.start h hE).quiet hk1)
  obtain ⟨_, c1, c2, c8, _, fz⟩ := N1.out.cells
  have f2 := fz 2
  have f8 := fz 8
  have hA1 : At (w.alloc (.cells #[.string n, .string a, .int .i64 z] 58)) w.heap.size 58 #[.string n, .string a, .int .i64 z] := At.new _ _ _
  have v1 := hA1.cell 1
  have v2 := hA1.cell 2
  simp at v1 v2
  clear h hE fz hk1 hA1
  by_cases h1 : (p.st : Int) = 1
  · by_cases h2 : (p.size : Int) < z
    · have e1 : Hid (p.mailS a z = p) := Lib.hid (by rw [Se.mailS, if_neg (by omega), if_pos h2])
      have e2 : Hid (p.mailC z = 552) := Lib.hid (by rw [Se.mailC, if_neg (by omega), if_pos h2])
      go_enter Tryz.func116, Tryz.ntmps116
      go_wp2
      go_quiet (fail)
      go_wp2
      go_ret
      rw [e1.out, e2.out]
      exact (N1.out.quiet ((Keep.refl (fun _ => False) _).drewN _)).coded
    · have e1 : Hid (p.mailS a z = { p with st := 2, frm := a }) := Lib.hid (by rw [Se.mailS, if_neg (by omega), if_neg h2])
      have e2 : Hid (p.mailC z = 250) := Lib.hid (by rw [Se.mailC, if_neg (by omega), if_neg h2])
      have HST := Lib.hid h1
      go_enter Tryz.func116, Tryz.ntmps116
      go_wp2
      go_quiet (fail)
      go_wp2
      go_ret
      obtain ⟨F2, hN2⟩ := (N1.out.quiet ((Keep.refl (fun _ => False) _).drewN _)).put (p' := { p with frm := a }) 8 (.string a) (fun _ _ _ _ => rfl) rfl rfl rfl rfl Iff.rfl
      obtain ⟨F3, hN3⟩ := hN2.put (p' := { p with frm := a, st := 2 }) 2 (.int .i64 2) (fun _ _ _ _ => rfl) rfl rfl rfl rfl (by have := HST.out; simp only; omega)
      rw [e1.out, e2.out]
      exact hN3.coded
  · have e1 : Hid (p.mailS a z = p) := Lib.hid (by rw [Se.mailS, if_pos (by omega)])
    have e2 : Hid (p.mailC z = 503) := Lib.hid (by rw [Se.mailC, if_pos (by omega)])
    go_enter Tryz.func116, Tryz.ntmps116
    go_wp2
    go_ret
    rw [e1.out, e2.out]
    exact N1.out.coded
end Go.Proofs.YtcjljldknekhiaaGreatDoor.Ln
end
