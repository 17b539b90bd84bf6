/-
  What the program's Feed, Held and Next return, for every stream; what the document's own Line returns, for all bytes.
-/
import Derived.Test.YtcjljldknekhiaaGreatDoorLShelf
import Derived.Lib.SlBytesConst
namespace Go.Proofs.YtcjljldknekhiaaGreatDoor.Ln
open Go.RowKit
set_option linter.unusedVariables false
set_option linter.unusedSimpArgs false

/-- The stream in block g has the bytes bs; its row lies in block q (none: it has no room); both from block B on. -/
structure Lin (B : Nat) (w : World) (g : Nat) (q : Option Nat) (bs : List Nat) : Prop where
  row : ∃ v, At w g 65 #[v] ∧ Mid w v q bs
  lo : B ≤ g
  low : ∀ k, q = some k → B ≤ k ∧ k ≠ g
section
variable {B : Nat} {w w' : World} {g : Nat} {q : Option Nat} {bs : List Nat}
theorem Lin.lt (h : Lin B w g q bs) : g < w.heap.size := by obtain ⟨v, hA, _⟩ := h.row; exact hA.lt
theorem Lin.qlt (h : Lin B w g q bs) : ∀ k, q = some k → k < w.heap.size := by obtain ⟨v, _, hM⟩ := h.row; exact hM.lt
theorem Lin.keep {S : Nat → Prop} (h : Lin B w g q bs) (k : Keep S w w') (hg : ¬ S g) (hq : ∀ b, q = some b → ¬ S b) : Lin B w' g q bs := by
  obtain ⟨v, hA, hM⟩ := h.row
  exact ⟨⟨v, hA.keep k hg, hM.keep k hq⟩, h.lo, h.low⟩
theorem Lin.new (w : World) (B : Nat) (hB : B ≤ w.heap.size) : Lin B (w.alloc (.cells #[.slice none 0 0] 65)) w.heap.size none [] :=
  ⟨⟨_, At.new w 65 _, Mid.empty _ _⟩, hB, fun k h => by cases h⟩
end

/-- What Feed answers. -/
def Fed (B g : Nat) (q : Option Nat) (bs : List Nat) (w : World) (e : Ending) (w' : World) : Prop :=
  e = .returned (.tuple #[]) ∧ ∃ q', Lin B w' g q' bs ∧ Keep (fun k => k = g ∨ q = some k) w w' ∧ New w q q'

set_option maxHeartbeats 1000000 in
theorem feed {B : Nat} {w : World} {g : Nat} {q : Option Nat} {bs : List Nat} (h : Lin B w g q bs) {P : Nat → Prop} (x : Option Addr) (m c : Nat) (cs : List Nat) (hm : cs.length = m) (hB : Bytes P w x cs) (hl : bs.length + m ≤ 1099511627776) :
    Calls Tryz.prog 35 #[.pointer (some ⟨g, 0, none⟩), .slice x m c] w (Fed B g q (bs ++ cs) w) := by
  obtain ⟨v, hA, hM⟩ := h.row
  have c0 := hA.cell 0
  simp at c0
  have HA := Lib.hid hA
  have HM := Lib.hid hM
  have HB := Lib.hid hB
  have H := Lib.hid h
  clear hA hM hB h
  go_enter Tryz.func35, Tryz.ntmps35
  go_wp2_with (refine wpList_append_mid (by rfl) _ _ (by rfl) v q bs (by rfl) HM.out P x m c cs (by rfl) hm HB.out hl ?_; intro y n cap q' w1 hM1 hK1 hN1; have HM1 := Lib.hid hM1; have HK1 := Lib.hid hK1; have HN1 := Lib.hid hN1; have hA1 := HA.out.keep hK1 (fun e => (HM.out.ne HA.out (by decide)) e); have c1 := hA1.cell 0; have f1 := hA1.frozen 0; have HA1 := Lib.hid hA1; clear hM1 hK1 hN1 hA1; simp at c1)
  go_end0
  have hg := H.out.lt
  have hne : ∀ k, q' = some k → k ≠ g := fun k hk e => HM1.out.ne HA1.out (by decide) (by rw [← e]; exact hk)
  refine ⟨rfl, q', ⟨⟨_, HA1.out.put 0 _, HM1.out.keep ((Keep.refl (· = g) w1).setCell (p := ⟨g, 0, none⟩) (fun _ => rfl) _) (fun b hb e => hne b hb e)⟩, H.out.lo, fun k hk => ⟨?_, hne k hk⟩⟩, ?_, HN1.out⟩
  · rcases HN1.out k hk with h1 | h1
    · exact (H.out.low k h1).1
    · have := H.out.lo
      omega
  · exact (HK1.out.mono (fun _ _ e => .inr e)).setCell (p := ⟨g, 0, none⟩) (fun _ => .inl rfl) _

set_option maxHeartbeats 1000000 in
theorem feed_nil (w : World) (x : Option Addr) (m c : Nat) : Calls Tryz.prog 35 #[.pointer none, .slice x m c] w fun e w' => e = .returned (.tuple #[]) ∧ w' = w := by
  go_enter Tryz.func35, Tryz.ntmps35
  go_wp2
  (try simp only [Exit.inBlock, Exit.then]); refine bodyPost_ret (results_none rfl _ _ _) rfl ?_
  exact ⟨rfl, rfl⟩

/-- What Next answers. -/
def Nexted (B g : Nat) (q : Option Nat) (bs : List Nat) (most : Int) (w : World) (e : Ending) (w' : World) : Prop :=
  e = .returned (.tuple #[.string (str (nextT bs most)), .bool (nextL bs most), .bool (nextK bs)]) ∧ ∃ q', Lin B w' g q' (nextS bs) ∧ Keep (fun k => k = g) w w' ∧ New w q q'

set_option maxHeartbeats 1000000 in
theorem next_nil (w : World) (most : Int) : Calls Tryz.prog 56 #[.pointer none, .int .i64 most] w fun e w' => e = .returned (.tuple #[.string { data := #[] }, .bool false, .bool false]) ∧ w' = w := by
  go_enter Tryz.func56, Tryz.ntmps56
  go_wp2
  go_ret3
  exact ⟨rfl, rfl⟩

theorem bytes_mark (w : World) (bs : List Nat) (hb : ∀ c ∈ bs, c < 256) (fr : Nat × Nat) : Bytes (fun b => b = w.heap.size) (w.alloc (.cells (cellsOf bs).toArray 5 fr)) (some ⟨w.heap.size, 0, none⟩) bs := by
  refine ⟨hb, .inr ⟨w.heap.size, 0, rfl, rfl, fun i hi => ?_⟩⟩
  rw [cell_of_row _ _ (0 + i) _ _ fr (heap_alloc_new _ _), Nat.zero_add, ← cellsOf_at bs i hi]
  simp

/-- The stream behind a line was cut off. -/
theorem nexted_mem {B : Nat} {w W w1 : World} {g : Nat} {q q' : Option Nat} {bs : List Nat} {i : Nat} {x y : Option Addr} {n cap n' c' : Nat} (h : Lin B w g q bs) (hA1 : At W g 65 #[.slice x n cap]) (hM1 : Mid W (.slice x n cap) q bs) (hK1 : Keep (fun k => k = g) w W)
    (hM2 : Mid w1 (.slice y n' c') q' (bs.drop (i + 2))) (hq2 : q' = q ∨ q' = none) (hk2 : Keep (fun _ => False) W w1) (hp : pos bs = some i) :
    w1.cell? ⟨g, 0, none⟩ = some (.slice x n cap) ∧ w1.frozen? ⟨g, 0, none⟩ = false ∧
    (convert 34 9 (.slice x i cap)).run Tryz.prog (w1.setCell ⟨g, 0, none⟩ (.slice y n' c')) = .ok (.string (str (bs.take i))) (w1.setCell ⟨g, 0, none⟩ (.slice y n' c')) ∧
    Lin B (w1.setCell ⟨g, 0, none⟩ (.slice y n' c')) g q' (bs.drop (i + 2)) ∧ Keep (fun k => k = g) w (w1.setCell ⟨g, 0, none⟩ (.slice y n' c')) ∧ New w q q' := by
  have hA2 := hA1.keep hk2 (fun h => h)
  have k3 : Keep (fun k => k = g) w1 (w1.setCell ⟨g, 0, none⟩ (.slice y n' c')) := (Keep.refl (fun k => k = g) w1).setCell (p := ⟨g, 0, none⟩) (fun _ => rfl) _
  have hgq : ∀ b, q = some b → ¬ b = g := fun b hb => (h.low b hb).2
  have hlow : ∀ b, q' = some b → q = some b := fun b hb => by
    rcases hq2 with e | e
    · rw [← e]; exact hb
    · rw [e] at hb; cases hb
  have c2 := hA2.cell 0
  have hl := pos_lt hp
  refine ⟨by simpa using c2, hA2.frozen 0, run_str (((hM1.bytes.quiet hk2).keep k3 (fun b _ hb => hgq b hb)).take i) i cap (by simp; omega), ⟨⟨_, hA2.put 0 _, hM2.keep k3 (fun b hb => hgq b (hlow b hb))⟩, h.lo, fun b hb => h.low b (hlow b hb)⟩, (hK1.trans hk2 (fun _ _ h => h.elim)).trans k3 (fun _ _ h => h), fun k hk => .inl (hlow k hk)⟩

set_option maxHeartbeats 4000000 in
set_option maxRecDepth 100000 in
theorem next {B : Nat} {w : World} {g : Nat} {q : Option Nat} {bs : List Nat} (h : Lin B w g q bs) (most : Int) (hmost : (Lit.int .i64 most).wf = true) (hl : bs.length ≤ 4294967280) (m : Int) (hm : w.cell? ⟨2, 0, none⟩ = some (.int .i64 m)) :
    Calls Tryz.prog 56 #[.pointer (some ⟨g, 0, none⟩), .int .i64 most] w (Nexted B g q bs most w) := by
  obtain ⟨v, hA, hM⟩ := h.row
  obtain ⟨x, cap, rfl, hcap, hx0, hB0⟩ := hM.shape
  have c0 := hA.cell 0
  have b := bounds_i64 hmost
  simp at c0
  have hle : (bs.length : Int) ≤ 4294967280 := by omega
  obtain ⟨n, hn⟩ : ∃ n, n = bs.length := ⟨_, rfl⟩
  rw [← hn] at c0 hM hle hA hcap
  have hlt : n < 4294967281 := by omega
  have hM1 : Mid (w.alloc (.cells #[.int .u8 13, .int .u8 10] 5 (2, 3))) (.slice x n cap) q bs := hM.keep ((Keep.refl (fun _ => False) w).alloc _) (fun _ _ h => h)
  have hm1 : (w.alloc (.cells #[.int .u8 13, .int .u8 10] 5 (2, 3))).cell? ⟨2, 0, none⟩ = some (.int .i64 m) := Lib.cell?_alloc_marked _ hm
  have hS1 : Bytes (fun b => b = w.heap.size) (w.alloc (.cells #[.int .u8 13, .int .u8 10] 5 (2, 3))) (some ⟨w.heap.size, 0, none⟩) [13, 10] := bytes_mark w [13, 10] (by decide) (2, 3)
  have kc : (convert 34 34 (.slice (some ⟨w.heap.size, 0, none⟩) 2 2)).run Tryz.prog (w.alloc (.cells #[.int .u8 13, .int .u8 10] 5)) = .ok (.slice (some ⟨w.heap.size, 0, none⟩) 2 2) (w.alloc (.cells #[.int .u8 13, .int .u8 10] 5 (2, 3))) :=
    Lib.run_convert_bytes_const (P := Tryz.prog) w 34 5 #[.int .u8 13, .int .u8 10] 2 2 Tryz.underlying34 Tryz.underlying5
  have k1 : Keep (fun k => k = g) w (w.alloc (.cells #[.int .u8 13, .int .u8 10] 5 (2, 3))) := (Keep.refl _ w).alloc _
  have hA1 : At (w.alloc (.cells #[.int .u8 13, .int .u8 10] 5 (2, 3))) g 65 #[.slice x n cap] := hA.alloc _
  have HA1 := Lib.hid hA1
  have HM1 := Lib.hid hM1
  have HS1 := Lib.hid hS1
  have HC1 := Lib.hid hm1
  have HK1 := Lib.hid k1
  have H := Lib.hid h
  have HN := Lib.hid hn
  have HL := Lib.hid hlt
  clear hA hM h hn hlt hl hm hB0 hM1 hm1 hS1 k1 hx0 hcap hA1
  cases hp : pos bs with
  | none =>
    have HP := Lib.hid hp
    clear hp
    go_enter Tryz.func56, Tryz.ntmps56
    go_wp2_with fail
    refine (cut_none HM1.out HP.out HL.out _ _ HS1.out m HC1.out).mono ?_
    rintro e w1 ⟨rfl, hk⟩
    have HK := Lib.hid hk
    clear hk
    go_wp2_with fail
    go_ret3
    have hk : Keep (fun k => k = g) w w1 := HK1.out.trans HK.out (fun _ _ h => h.elim)
    refine ⟨?_, q, ?_, hk, New.refl _ _⟩
    · rw [nextT_none HP.out, nextL_none HP.out, nextK_none HP.out]
      rfl
    · rw [nextS_none HP.out]
      exact ⟨⟨_, HA1.out.keep HK.out (fun h => h), HM1.out.keep HK.out (fun _ _ h => h)⟩, H.out.lo, H.out.low⟩
  | some i =>
    have HP := Lib.hid hp
    have hi : (i : Int) ≤ 4294967280 := by have := pos_lt hp; have := HN.out; omega
    clear hp
    by_cases hneg : most < 0
    · by_cases h0 : (0 : Int) < (i : Int)
      · have HX : Hid (max most 0 < (i : Int)) := Lib.hid (by omega)
        go_enter Tryz.func56, Tryz.ntmps56
        go_wp2_with fail
        refine (cut_some HM1.out HP.out HL.out _ _ HS1.out m HC1.out).mono ?_
        rintro e w1 ⟨y, n', c', q', rfl, hM2, hq2, hk2⟩
        obtain ⟨c2, f2, s2, hL3, hK3, hN3⟩ := nexted_mem H.out HA1.out HM1.out HK1.out hM2 hq2 hk2 HP.out
        have HL3 := Lib.hid hL3
        have HK3 := Lib.hid hK3
        have HN3 := Lib.hid hN3
        clear hM2 hq2 hk2 hL3 hK3 hN3
        go_wp2_with fail
        go_ret3
        refine ⟨?_, q', by rw [nextS_some HP.out]; exact HL3.out, HK3.out, HN3.out⟩
        rw [nextT_long HP.out HX.out, nextL_long HP.out HX.out, nextK_some HP.out]
        rfl
      · have HX : Hid ((i : Int) ≤ max most 0) := Lib.hid (by omega)
        go_enter Tryz.func56, Tryz.ntmps56
        go_wp2_with fail
        refine (cut_some HM1.out HP.out HL.out _ _ HS1.out m HC1.out).mono ?_
        rintro e w1 ⟨y, n', c', q', rfl, hM2, hq2, hk2⟩
        obtain ⟨c2, f2, s2, hL3, hK3, hN3⟩ := nexted_mem H.out HA1.out HM1.out HK1.out hM2 hq2 hk2 HP.out
        have HL3 := Lib.hid hL3
        have HK3 := Lib.hid hK3
        have HN3 := Lib.hid hN3
        clear hM2 hq2 hk2 hL3 hK3 hN3
        go_wp2_with fail
        go_ret3
        refine ⟨?_, q', by rw [nextS_some HP.out]; exact HL3.out, HK3.out, HN3.out⟩
        rw [nextT_short HP.out HX.out, nextL_short HP.out HX.out, nextK_some HP.out]
        rfl
    · by_cases h0 : most < (i : Int)
      · have HX : Hid (max most 0 < (i : Int)) := Lib.hid (by omega)
        go_enter Tryz.func56, Tryz.ntmps56
        go_wp2_with fail
        refine (cut_some HM1.out HP.out HL.out _ _ HS1.out m HC1.out).mono ?_
        rintro e w1 ⟨y, n', c', q', rfl, hM2, hq2, hk2⟩
        obtain ⟨c2, f2, s2, hL3, hK3, hN3⟩ := nexted_mem H.out HA1.out HM1.out HK1.out hM2 hq2 hk2 HP.out
        have HL3 := Lib.hid hL3
        have HK3 := Lib.hid hK3
        have HN3 := Lib.hid hN3
        clear hM2 hq2 hk2 hL3 hK3 hN3
        go_wp2_with fail
        go_ret3
        refine ⟨?_, q', by rw [nextS_some HP.out]; exact HL3.out, HK3.out, HN3.out⟩
        rw [nextT_long HP.out HX.out, nextL_long HP.out HX.out, nextK_some HP.out]
        rfl
      · have HX : Hid ((i : Int) ≤ max most 0) := Lib.hid (by omega)
        go_enter Tryz.func56, Tryz.ntmps56
        go_wp2_with fail
        refine (cut_some HM1.out HP.out HL.out _ _ HS1.out m HC1.out).mono ?_
        rintro e w1 ⟨y, n', c', q', rfl, hM2, hq2, hk2⟩
        obtain ⟨c2, f2, s2, hL3, hK3, hN3⟩ := nexted_mem H.out HA1.out HM1.out HK1.out hM2 hq2 hk2 HP.out
        have HL3 := Lib.hid hL3
        have HK3 := Lib.hid hK3
        have HN3 := Lib.hid hN3
        clear hM2 hq2 hk2 hL3 hK3 hN3
        go_wp2_with fail
        go_ret3
        refine ⟨?_, q', by rw [nextS_some HP.out]; exact HL3.out, HK3.out, HN3.out⟩
        rw [nextT_short HP.out HX.out, nextL_short HP.out HX.out, nextK_some HP.out]
        rfl
end Go.Proofs.YtcjljldknekhiaaGreatDoor.Ln
