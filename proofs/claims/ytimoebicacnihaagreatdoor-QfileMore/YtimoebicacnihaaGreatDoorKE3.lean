/-
  A row of texts of the call's own; what the program's mailOf returns, for all bytes.
-/
import Derived.Test.YtimoebicacnihaaGreatDoorKg8
import Derived.Test.YtimoebicacnihaaGreatDoorKg5
import Derived.Laws.ResultCell
import Derived.Deep.RegionHeld3
import Derived.Deep.RegionLaw
import Derived.IntWalk
namespace Go.Proofs.YtimoebicacnihaaGreatDoor.Ln
open Go.RowKit
set_option linter.unusedVariables false
set_option linter.unusedSimpArgs false

/-! ### A row of texts of the call's own -/
theorem info9t : (Tryz.prog.info? 9).map (fun i => (i.zero, i.size, i.bytes)) = some (some (.string ByteArray.empty), 1, 16) := by kernel_rfl
def Tso (B : Nat) (w : World) (v : Value) (L : List ByteArray) : Prop := w.ownsRow B 9 1 v L.length (L.map Value.string)
section
variable {B : Nat} {w w' : World} {v : Value} {L : List ByteArray}
theorem Tso.empty (B : Nat) (w : World) : Tso B w (.slice none 0 0) [] := World.ownsRow_nil w B 9 1
theorem Tso.lt (h : Tso B w v L) : ∀ k, v.ownBlock = some k → B ≤ k ∧ k < w.heap.size := fun k hk => World.ownsRow.lt h k hk
theorem Tso.keep {S : Nat → Prop} (h : Tso B w v L) (k : Keep S w w') (hs : ∀ b, v.ownBlock = some b → ¬ S b) : Tso B w' v L := by
  refine ⟨h.1, ?_⟩
  rcases h.2 with h0 | ⟨g, cap, cur, rfl, hb, hg, r⟩
  · exact .inl h0
  · exact .inr ⟨g, cap, cur, rfl, hb, (k.block g (At.lt (t := 9) hg) (hs g rfl)).trans hg, r⟩
theorem Tso.quiet (h : Tso B w v L) (k : Keep (fun _ => False) w w') : Tso B w' v L := h.keep k (fun _ _ h => h)
theorem Tso.ne {g : Nat} {t : TypeId} {cs : Array Value} (h : Tso B w v L) (hg : At w g t cs) (ht : t ≠ 9) : v.ownBlock ≠ some g := by
  rcases h.2 with ⟨rfl, _⟩ | ⟨g', cap, cur, rfl, _, hh, _⟩
  · simp [Value.ownBlock]
  · intro he
    have : g' = g := by simpa [Value.ownBlock] using he
    exact At.ne (t := 9) hh hg (Ne.symm ht) this
theorem Tso.shape (h : Tso B w v L) : ∃ x cap, v = .slice x L.length cap ∧ L.length ≤ cap ∧ TxP (fun b => B ≤ b) w x L := by
  have hc := @World.ownsRow.cells _ _ _ _ _ _ _ h
  rcases h.2 with ⟨rfl, h0⟩ | ⟨g, cap, cur, rfl, hb, hg, hnc, _⟩
  · have : L = [] := List.eq_nil_of_length_eq_zero h0
    subst this
    exact ⟨_, _, rfl, Nat.le_refl _, TxP.nil _ _ _⟩
  · refine ⟨_, _, rfl, hnc, fun i t ht => ⟨g, 0, hb, At.lt (t := 9) hg, rfl, ?_⟩⟩
    have hi : i < L.length := (List.getElem?_eq_some_iff.1 ht).1
    have := hc (g := g) rfl i (.string t) (by rw [List.getElem?_map, ht]; rfl)
    rw [Addr.add_mid, Nat.zero_add] at this
    rw [Nat.zero_add]
    exact this
end
theorem wpList_append_tso {B : Nat} {w : World} {ops : Array Oper} {rest : List Oper} {o : Oper} {a : Act} {Q : Exit → Act → World → Prop} (hgd : o.guard = none) (s t : Operand)
    (ho : o.op = .call { callee := .builtin .append, args := #[s, t], argTypes := #[22, 22] })
    (v : Value) (L : List ByteArray) (hs : a.eval s = v) (hown : Tso B w v L) (hB : B ≤ w.heap.size) (g : Nat) (A : ByteArray) (hx : a.eval t = .slice (some ⟨g, 0, none⟩) 1 1) (hc : w.cell? ⟨g, 0, none⟩ = some (.string A)) (hl : L.length ≤ 1000)
    (hK : ∀ y n cap w', Hid (n = (L ++ [A]).length) → Tso B w' (.slice y n cap) (L ++ [A]) → Keep (fun k => v.ownBlock = some k) w w' → wpList Tryz.prog ops Q rest (a.put o.dst (.slice y n cap)) w') :
    wpList Tryz.prog ops Q (o :: rest) a w := by
  obtain ⟨i0, hi, hz0, hz1, hz2⟩ := info_parts info9t
  refine wpList_append_own _ hgd s t 22 ho B 9 i0 (.string ByteArray.empty) 1 16 Tryz.underlying22 hi hz0 hz1 hz2 rfl (by decide) v L.length (L.map Value.string) hs hown ⟨g, 0, none⟩ 1 1 [.string A] hx rfl (fun j u hj => ?_) (fun x hx => by simp at hx; subst hx; rfl) (by unfold maxLen; omega) (by omega) hB ?_
  · rcases j with _ | j
    · simp at hj
      subst hj
      exact hc
    · simp at hj
  · intro v' w' hown' hgrow _
    have hT : Tso B w' v' (L ++ [A]) := by
      unfold Tso
      rw [List.map_append, List.length_append]
      exact hown'
    obtain ⟨y, cap, rfl, _⟩ := hT.shape
    exact hK y _ cap w' (Lib.hid rfl) hT ((Keep.refl _ w).grown hgrow (fun k hk _ => hk))

/-! ### A mail that is answered -/
theorem infoM : (Tryz.prog.info? 25).map (·.size) = some 6 := by kernel_rfl
theorem one_ml (i p b : Int) (f : ByteArray) (rx : Option Addr) (rn rc : Nat) (bx : Option Addr) (bn bc : Nat) : (#[Value.int .i64 i, .int .i64 p, .int .i64 b, .string f, .slice rx rn rc, .slice bx bn bc] : Array Value).all (·.oneCell') = true := by simp [Value.oneCell']
def mzC : Array Value := #[.int .i64 0, .int .i64 0, .int .i64 0, .string { data := #[] }, .slice none 0 0, .slice none 0 0]
def noMl : Ml := ⟨0, 0, 0, { data := #[] }, [], []⟩
theorem Keep.setRow {S : Nat → Prop} {a w : World} (h : Keep S a w) {g : Nat} (hg : g < a.heap.size → S g) (cs : Array Value) : Keep S a (w.setRow g cs) :=
  ⟨h.os, h.tape, h.output, by rw [size_setRow]; exact h.size, fun k hk hs => (setRow_other w g k cs (fun e => by subst e; exact hs (hg hk))).trans (h.block k hk hs)⟩
theorem At.setRow {w : World} {g : Nat} {t : TypeId} {cs : Array Value} (h : At w g t cs) (cs' : Array Value) : At (w.setRow g cs') g t cs' := setRow_heap w g _ _ _ _ h
theorem ret_ml {fn : Func} {p u : Tmp} (h : fn.results = #[.cell p 25, .tmp u]) (tmps : Array Value) (w : World) (g : Nat) {cs : Array Value} (hp : tmps.getD p undef = .pointer (some ⟨g, 0, none⟩)) (hg : At w g 25 cs ∧ cs.size = 6) :
    (results fn tmps).run Tryz.prog w = .ok (.tuple #[.agg cs, tmps.getD u undef]) w := by
  rw [results_cell_tmp h, hp]
  have := run_loadVar_row (P := Tryz.prog) w g 25 25 cs (0, 0) _ hg.1 Tryz.underlying25 rfl (by rw [hg.2]; exact infoM)
  simp [asAddr, this, Result.andThen]

/-! ### A reader, and a mail, of the call's own -/
structure Rm (w0 w : World) (A B p g : Nat) (s : Option (List Nat)) (cs : Array Value) : Prop where
  rd : Rd (· = g) w p s
  row : At w B 25 cs
  res : At w A 25 mzC
  kp : Keep (fun _ => False) w0 w
  hA : w0.heap.size ≤ A
  hB : w0.heap.size ≤ B
  hp : w0.heap.size ≤ p
  hg : w0.heap.size ≤ g
  ng : ¬ p = g ∧ ¬ g = A ∧ ¬ g = B
  nab : ¬ A = B
  gl : g < w.heap.size
section
variable {w0 w w' : World} {A B p g : Nat} {s s' : Option (List Nat)} {cs : Array Value}
theorem Rm.np (h : Rm w0 w A B p g s cs) : ¬ A = p ∧ ¬ B = p := by
  obtain ⟨cs', hc⟩ := h.rd.at
  exact ⟨fun e => At.ne h.res hc (by decide) e, fun e => At.ne h.row hc (by decide) e⟩
theorem Rm.on (h : Rm w0 w A B p g s cs) (hR : Rd (· = g) w' p s') (k : Keep (· = p) w w') : Rm w0 w' A B p g s' cs :=
  ⟨hR, h.row.keep k h.np.2, h.res.keep k h.np.1, h.kp.trans k (fun i hi e => by have := h.hp; omega), h.hA, h.hB, h.hp, h.hg, h.ng, h.nab, Nat.lt_of_lt_of_le h.gl k.size⟩
theorem Rm.put (h : Rm w0 w A B p g s cs) (i : Nat) (u : Value) : Rm w0 (w.setCell ⟨B, i, none⟩ u) A B p g s (cs.setIfInBounds i u) := by
  have k : Keep (fun k => k = B) w (w.setCell ⟨B, i, none⟩ u) := (Keep.refl (fun k => k = B) w).setCell (p := ⟨B, i, none⟩) (fun _ => rfl) _
  exact ⟨h.rd.keep k (fun e => h.np.2 e.symm) (fun b _ hb e => h.ng.2.2 (by rw [← show b = g from hb, e])), h.row.put i u, h.res.keep k h.nab, h.kp.trans k (fun i hi e => by have := h.hB; omega), h.hA, h.hB, h.hp, h.hg, h.ng, h.nab, by have := h.gl; simp [World.setCell]; exact this⟩
theorem Rm.quiet (h : Rm w0 w A B p g s cs) (k : Keep (fun _ => False) w w') : Rm w0 w' A B p g s cs :=
  ⟨h.rd.keep k (fun h => h) (fun _ _ _ h => h), h.row.keep k (fun h => h), h.res.keep k (fun h => h), h.kp.trans k (fun _ _ h => h), h.hA, h.hB, h.hp, h.hg, h.ng, h.nab, Nat.lt_of_lt_of_le h.gl k.size⟩
theorem Rm.num (h : Rm w0 w A B p g s cs) : Calls Tryz.prog 49 #[.pointer (some ⟨p, 0, none⟩)] w fun e w' => e = .returned (.tuple #[.int .i64 ((numV s : Nat) : Int), .bool (numOk s)]) ∧ Rm w0 w' A B p g (numS s) cs ∧ Keep (· = p) w w' :=
  (Go.Proofs.YtimoebicacnihaaGreatDoor.Ln.num (· = g) p h.ng.1 s w h.rd).mono fun e w' ⟨he, hR, k⟩ => ⟨he, h.on hR k, k⟩
theorem Rm.byt (h : Rm w0 w A B p g s cs) : Calls Tryz.prog 52 #[.pointer (some ⟨p, 0, none⟩)] w fun e w' => ∃ x m, m = (bytV s).length ∧ e = .returned (.tuple #[.slice x m m, .bool (bytOk s)]) ∧ Bytes (· = g) w' x (bytV s) ∧ Rm w0 w' A B p g (bytS s) cs ∧ Keep (· = p) w w' :=
  (Go.Proofs.YtimoebicacnihaaGreatDoor.Ln.byt (· = g) p h.ng.1 s w h.rd).mono fun e w' ⟨x, m, hm, he, hB, hR, k⟩ => ⟨x, m, hm, he, hB, h.on hR k, k⟩
theorem Rm.far (h : Rm w0 w A B p g s cs) {S : Nat → Prop} {C : Nat} (k : Keep S w w') (hS : ∀ i, S i → C ≤ i) (hC : w0.heap.size ≤ C) (hA : A < C) (hB : B < C) (hp : p < C) (hg : g < C) : Rm w0 w' A B p g s cs :=
  ⟨h.rd.keep k (fun e => by have := hS _ e; omega) (fun b _ hb e => by have := hS _ e; have : b = g := hb; omega), h.row.keep k (fun e => by have := hS _ e; omega), h.res.keep k (fun e => by have := hS _ e; omega), h.kp.trans k (fun i hi e => by have := hS _ e; omega), h.hA, h.hB, h.hp, h.hg, h.ng, h.nab, Nat.lt_of_lt_of_le h.gl k.size⟩
theorem Tso.beside {C : Nat} {v : Value} {L : List ByteArray} (h : Tso C w v L) (r : Rm w0 w A B p g s cs) (k : Keep (· = p) w w') : Tso C w' v L := h.keep k (fun b hb e => by
  obtain ⟨cs', hc⟩ := r.rd.at
  exact h.ne hc (by decide) (by rw [hb, e]))
end

/-- What mailOf answers. -/
def MailOf (bs : List Nat) (w : World) (e : Ending) (w' : World) : Prop :=
  ∃ m rx rn rc bx bn bc, e = .returned (.tuple #[.agg (mlC m rx rn rc bx bn bc), .bool (readOk bs)]) ∧ MlAt (fun b => w.heap.size ≤ b) w' m rx rn rc bx bn bc ∧ Keep (fun _ => False) w w' ∧ (readOk bs = true → m = readMl bs)

theorem mz_new (w : World) : At (w.alloc (.cells #[.int .i64 0, .int .i64 0, .int .i64 0, .string { data := #[] }, .slice none 0 0, .slice none 0 0] 25)) w.heap.size 25 mzC := At.new w _ _
set_option maxHeartbeats 8000000 in
set_option maxRecDepth 100000 in
theorem mailOfC {P : Nat → Prop} {w : World} (x : Option Addr) (n cap : Nat) (bs : List Nat) (hn : bs.length = n) (hl : n ≤ 1000000) (h : Bytes P w x bs) :
    Calls Tryz.prog 41 #[.slice x n cap] w (MailOf bs w) := by
  have kA := keep_new w (.cells #[.int .i64 0, .int .i64 0, .int .i64 0, .string { data := #[] }, .slice none 0 0, .slice none 0 0] 25)
  have HX := Lib.hid (h.quiet kA)
  have HN := Lib.hid hn
  have HZA := Lib.hid (mz_new w)
  have KA := Lib.hid kA
  have HB8 := Lib.hid h.1
  clear h hn kA
  go_enter Tryz.func41, Tryz.ntmps41
  go_wp2_with fail
  refine (read P x n cap bs HN.out (by omega) _ HX.out).mono ?_
  rintro e w1 ⟨p, g, rfl, hp, hg, hne, hR1, hk1, hgl⟩
  have hkA : w.heap.size + 1 = (w.alloc (.cells #[.int .i64 0, .int .i64 0, .int .i64 0, .string { data := #[] }, .slice none 0 0, .slice none 0 0] 25)).heap.size := by simp
  have R1 : Hid (Rm w (w1.alloc (.cells #[.int .i64 0, .int .i64 0, .int .i64 0, .string { data := #[] }, .slice none 0 0, .slice none 0 0] 25)) w.heap.size w1.heap.size p g (some bs) mzC) := Lib.hid (by
    have kB := keep_new w1 (.cells #[.int .i64 0, .int .i64 0, .int .i64 0, .string { data := #[] }, .slice none 0 0, .slice none 0 0] 25)
    have hs1 := hk1.size
    refine ⟨hR1.keep kB (fun h => h) (fun _ _ _ h => h), mz_new w1, (HZA.out.keep hk1 (fun h => h)).keep kB (fun h => h), (KA.out.trans hk1 (fun _ _ h => h)).trans kB (fun _ _ h => h), Nat.le_refl _, by omega, by omega, by omega, ⟨fun e => hne e.symm, by omega, by omega⟩, by omega, by simp; omega⟩)
  obtain ⟨A, hA⟩ : ∃ A, A = w.heap.size := ⟨_, rfl⟩
  obtain ⟨B, hB⟩ : ∃ B, B = w1.heap.size := ⟨_, rfl⟩
  rw [← hA, ← hB] at R1
  rw [← hA]
  have HA0 := Lib.hid hA
  have HB0 := Lib.hid hB
  clear hR1 hk1 hp hg hne hgl hkA KA HZA HX hA hB
  go_wp2_with fail
  rw [← HB0.out]
  refine R1.out.num.mono ?_
  rintro e w2 ⟨rfl, hR2, _⟩
  have R2 := Lib.hid hR2
  obtain ⟨b0, b0f⟩ : w2.cell? ⟨B, 0, none⟩ = some (.int .i64 0) ∧ w2.frozen? ⟨B, 0, none⟩ = false := ⟨hR2.row.cell 0, hR2.row.frozen 0⟩
  clear hR2 R1
  obtain ⟨i1, hi1⟩ : ∃ i1 : Nat, i1 = numV (some bs) := ⟨_, rfl⟩
  rw [← hi1]
  have HI1 := Lib.hid hi1
  clear hi1
  have R2' := Lib.hid (R2.out.put 0 (.int .i64 (i1 : Int)))
  go_wp2_with fail
  refine R2'.out.num.mono ?_
  rintro e w3 ⟨rfl, hR3, _⟩
  have R3 := Lib.hid hR3
  obtain ⟨b1, b1f⟩ : w3.cell? ⟨B, 1, none⟩ = some (.int .i64 0) ∧ w3.frozen? ⟨B, 1, none⟩ = false := ⟨hR3.row.cell 1, hR3.row.frozen 1⟩
  clear hR3 R2 R2' b0 b0f
  obtain ⟨i2, hi2⟩ : ∃ i2 : Nat, i2 = numV (q1 bs) := ⟨_, rfl⟩
  rw [show numS (some bs) = q1 bs from rfl, ← hi2]
  have HI2 := Lib.hid hi2
  clear hi2
  have R3' := Lib.hid (R3.out.put 1 (.int .i64 (i2 : Int)))
  go_wp2_with fail
  refine R3'.out.num.mono ?_
  rintro e w4 ⟨rfl, hR4, _⟩
  have R4 : Hid (Rm w w4 A B p g (q3 bs) _) := Lib.hid hR4
  obtain ⟨b2, b2f⟩ : w4.cell? ⟨B, 2, none⟩ = some (.int .i64 0) ∧ w4.frozen? ⟨B, 2, none⟩ = false := ⟨hR4.row.cell 2, hR4.row.frozen 2⟩
  clear hR4 R3 R3' b1 b1f
  obtain ⟨i3, hi3⟩ : ∃ i3 : Nat, i3 = numV (q2 bs) := ⟨_, rfl⟩
  rw [show numS (numS (some bs)) = q2 bs from rfl, ← hi3]
  have HI3 := Lib.hid hi3
  clear hi3
  have R4' := Lib.hid (R4.out.put 2 (.int .i64 (i3 : Int)))
  go_wp2_with fail
  refine R4'.out.byt.mono ?_
  rintro e w5 ⟨x5, m5, hm5, rfl, hB5, hR5, _⟩
  have R5 : Hid (Rm w w5 A B p g (q4 bs) _) := Lib.hid hR5
  obtain ⟨b3, b3f⟩ : w5.cell? ⟨B, 3, none⟩ = some (.string { data := #[] }) ∧ w5.frozen? ⟨B, 3, none⟩ = false := ⟨hR5.row.cell 3, hR5.row.frozen 3⟩
  have hs5 := run_str hB5 m5 m5 hm5.symm
  obtain ⟨F, hF⟩ : ∃ F, F = str (bytV (q3 bs)) := ⟨_, rfl⟩
  rw [← hF] at hs5
  have HF := Lib.hid hF
  clear hF hR5 R4 R4' b2 b2f hB5 hm5
  have R5' := Lib.hid (R5.out.put 3 (.string F))
  go_wp2_with fail
  refine R5'.out.num.mono ?_
  rintro e w6 ⟨rfl, hR6, _⟩
  have R6 : Hid (Rm w w6 A B p g (q5 bs) #[.int .i64 (i1 : Int), .int .i64 (i2 : Int), .int .i64 (i3 : Int), .string F, .slice none 0 0, .slice none 0 0]) := Lib.hid hR6
  clear hR6 R5 R5' b3 b3f hs5
  obtain ⟨N, hN⟩ : ∃ N : Nat, N = cntM bs := ⟨_, rfl⟩
  rw [show numV (q4 bs) = N from hN.symm]
  have HNN := Lib.hid hN
  have hNtop : N ≤ 4611686018427387904 := by rw [hN]; exact numV_le _
  clear hN
  by_cases h8 : (8 : Int) < (N : Int)
  · have HV : Hid (readOk bs = false) := Lib.hid (by have := HNN.out; simp [readOk]; omega)
    have HRA := Lib.hid R6.out.res
    go_wp2_with (refine wpList_store_row (by rfl) 25 (.tmp 2) (.tmp 47) (by rfl) A mzC (by rfl) (by rfl) 25 _ HRA.out infoM rfl (one_ml _ _ _ _ _ _ _ _ _ _) ?_)
    (try simp only [Exit.inBlock, Exit.then])
    refine bodyPost_ret (ret_ml (fn := Tryz.f41) (p := 2) (u := 3) rfl _ _ A rfl ⟨HRA.out.setRow _, rfl⟩) rfl ?_
    refine ⟨noMl, none, 0, 0, none, 0, 0, ?_, ⟨TxP.nil _ _ _, Bytes.nil _ _ _, rfl, rfl, Nat.le_refl _, Nat.le_refl _⟩, R6.out.kp.setRow (fun h => by have := R6.out.hA; omega) _, fun h => by rw [HV.out] at h; cases h⟩
    rw [HV.out]
    rfl
  have hN8 : N ≤ 8 := by omega
  obtain ⟨C, hC⟩ : ∃ C, C = w6.heap.size := ⟨_, rfl⟩
  have hCA : A < C := by rw [hC]; exact R6.out.res.lt
  have hCB : B < C := by rw [hC]; exact R6.out.row.lt
  have hCp : p < C := by
    obtain ⟨cs', hc'⟩ := R6.out.rd.at
    rw [hC]; exact hc'.lt
  have hCg : g < C := by rw [hC]; exact R6.out.gl
  have hCw : w.heap.size ≤ C := by rw [hC]; exact R6.out.kp.size
  have HCC : Hid (A < C ∧ B < C ∧ p < C ∧ g < C ∧ w.heap.size ≤ C) := Lib.hid ⟨hCA, hCB, hCp, hCg, hCw⟩
  have HC6 : Hid (C ≤ w6.heap.size) := Lib.hid (Nat.le_of_eq hC)
  clear hC hCA hCB hCp hCg hCw
  go_wp2
  go_loopw [49] (fun i wr => ∃ (k : Nat) (v : Value), k ≤ N ∧ i = .int .i64 (k : Int) ∧ Hid (Rm w wr A B p g (rdS k (q5 bs)) #[.int .i64 (i1 : Int), .int .i64 (i2 : Int), .int .i64 (i3 : Int), .string F, v, .slice none 0 0]) ∧ Hid (Tso C wr v (rdL k (q5 bs))) ∧ Hid (C ≤ wr.heap.size)) (fun i _ => N - (intOf i).toNat)
  case atStart => exact ⟨0, .slice none 0 0, by omega, rfl, R6.out, Tso.empty _ _, HC6.out⟩
  case round =>
    obtain ⟨k, v, hk, rfl, R, T, HCR⟩ := hrel
    by_cases hlt : (k : Int) < (N : Int)
    · go_wp2_with fail
      refine R.out.byt.mono ?_
      rintro e w7 ⟨x7, m7, hm7, rfl, hB7, hR7, hk7⟩
      have R7 := Lib.hid hR7
      have T7 := Lib.hid (T.out.beside R.out hk7)
      obtain ⟨b4, b4f⟩ : w7.cell? ⟨B, 4, none⟩ = some v ∧ w7.frozen? ⟨B, 4, none⟩ = false := ⟨hR7.row.cell 4, hR7.row.frozen 4⟩
      have hs7 := run_str hB7 m7 m7 hm7.symm
      obtain ⟨S, hSt⟩ : ∃ S, S = str (bytV (rdS k (q5 bs))) := ⟨_, rfl⟩
      rw [← hSt] at hs7
      have HST := Lib.hid hSt
      have HBW : Hid (C ≤ w7.heap.size) := Lib.hid (Nat.le_trans HCR.out hk7.size)
      have HRL := Lib.hid (rdL_length (q5 bs) k)
      have C8 : Hid ((w7.alloc (.cells #[.string S] 9)).cell? ⟨w7.heap.size, 0, none⟩ = some (.string S)) := Lib.hid (cell_of_row _ _ 0 _ _ (0, 0) (heap_alloc_new w7 _))
      have TA7 := Lib.hid (T7.out.quiet (keep_new w7 (.cells #[.string S] 9)))
      have HCB : Hid (C ≤ (w7.alloc (.cells #[.string S] 9)).heap.size) := Lib.hid (Nat.le_trans HBW.out (keep_new w7 (.cells #[.string S] 9)).size)
      have HL8 : Hid ((rdL k (q5 bs)).length ≤ 1000) := Lib.hid (by have := HRL.out; omega)
      clear hSt hR7 hB7 hm7 hk7 R T
      go_wp2_with
        (at_builtin
         refine wpList_append_tso (B := C) (by rfl) (.tmp 57) (.tmp 60) (by rfl) v (rdL k (q5 bs)) (by rfl) TA7.out HCB.out w7.heap.size S (by rfl) C8.out HL8.out ?_
         intro y8 n8 c8 w8 hn8 hT8 hk8
         have HT8 := Lib.hid hT8
         have HN8 := Lib.hid hn8.out
         have R8 : Hid (Rm w w8 A B p g (rdS (k + 1) (q5 bs)) #[.int .i64 (i1 : Int), .int .i64 (i2 : Int), .int .i64 (i3 : Int), .string F, v, .slice none 0 0]) := Lib.hid (by
           have hq := R7.out.quiet (keep_new w7 (.cells #[.string S] 9))
           have hT := T7.out.quiet (keep_new w7 (.cells #[.string S] 9))
           obtain ⟨c1, c2, c3, c4, c5⟩ := HCC.out
           exact hq.far hk8 (fun i e => (hT.lt i e).1) c5 c1 c2 c3 c4)
         have HC8 : Hid (C ≤ w8.heap.size) := Lib.hid (Nat.le_trans HBW.out (Nat.le_trans (keep_new w7 (.cells #[.string S] 9)).size hk8.size))
         clear hT8 hn8 hk8
         obtain ⟨b5, b5f⟩ : w8.cell? ⟨B, 4, none⟩ = some v ∧ w8.frozen? ⟨B, 4, none⟩ = false := ⟨R8.out.row.cell 4, R8.out.row.frozen 4⟩)
      have R9 := Lib.hid (R8.out.put 4 (.slice y8 n8 c8))
      have T9 : Hid (Tso C (w8.setCell ⟨B, 4, none⟩ (.slice y8 n8 c8)) (.slice y8 n8 c8) (rdL (k + 1) (q5 bs))) := Lib.hid (by
        have := HT8.out.keep ((Keep.refl (fun k => k = B) w8).setCell (p := ⟨B, 4, none⟩) (fun _ => rfl) (.slice y8 n8 c8)) (fun b hb e => HT8.out.ne R8.out.row (by decide) (by rw [hb, e]))
        rw [rdL, ← HST.out]
        exact this)
      go_roundw
      case rel => exact ⟨k + 1, .slice y8 n8 c8, by omega, by go_num, R9.out, T9.out, by have := HC8.out; simp [World.setCell]; exact this⟩
      case measure => simp [intOf]; omega
    · have hkN : k = N := by omega
      subst hkN
      go_wp2_with fail
      refine R.out.byt.mono ?_
      rintro e w7 ⟨x7, m7, hm7, rfl, hB7, hR7, hk7⟩
      have T7 := Lib.hid (T.out.beside R.out hk7)
      obtain ⟨y, cy, hv, hcy, hty⟩ := T7.out.shape
      have HTY := Lib.hid hty
      obtain ⟨L, hL⟩ : ∃ L, L = (rdL k (q5 bs)).length := ⟨_, rfl⟩
      rw [← hL] at hv hcy
      subst hv
      have R7 : Hid (Rm w w7 A B p g (lastS bs) #[.int .i64 (i1 : Int), .int .i64 (i2 : Int), .int .i64 (i3 : Int), .string F, .slice y L cy, .slice none 0 0]) := Lib.hid (by
        have e : lastS bs = bytS (rdS k (q5 bs)) := by rw [lastS, ← HNN.out]
        rw [e]
        exact hR7)
      obtain ⟨b5, b5f⟩ : w7.cell? ⟨B, 5, none⟩ = some (.slice none 0 0) ∧ w7.frozen? ⟨B, 5, none⟩ = false := ⟨hR7.row.cell 5, hR7.row.frozen 5⟩
      have HB7 := Lib.hid hB7
      have HM7 := Lib.hid hm7
      have HLL := Lib.hid hL
      obtain ⟨X, hX⟩ : ∃ X, X = w7.setCell ⟨B, 5, none⟩ (.slice x7 m7 m7) := ⟨_, rfl⟩
      have k7X : Keep (fun k => k = B) w7 X := by rw [hX]; exact (Keep.refl (fun k => k = B) w7).setCell (p := ⟨B, 5, none⟩) (fun _ => rfl) _
      obtain ⟨M, hM⟩ : ∃ M : Array Value, M = #[.int .i64 (i1 : Int), .int .i64 (i2 : Int), .int .i64 (i3 : Int), .string F, .slice y L cy, .slice x7 m7 m7] := ⟨_, rfl⟩
      have RX : Hid (Rm w X A B p g (lastS bs) M) := Lib.hid (by rw [hX, hM]; exact R7.out.put 5 (.slice x7 m7 m7))
      have HM : Hid (At X B 25 M) := Lib.hid RX.out.row
      have HA : Hid (At X A 25 mzC) := Lib.hid RX.out.res
      have HAY : Hid (At (X.drew.setRow A M) A 25 M) := Lib.hid ((show At X.drew A 25 mzC from RX.out.res).setRow M)
      have kXY : Keep (fun k => k = A) X (X.drew.setRow A M) := ((Keep.refl (fun k => k = A) X).drew).setRow (fun _ => rfl) M
      have HDX : Hid (Calls Tryz.prog 53 #[.pointer (some ⟨p, 0, none⟩)] X.drew fun e w' => e = .returned (.bool (doneB (lastS bs))) ∧ X.drew = w') := Lib.hid (done (· = g) p (lastS bs) X.drew (RX.out.quiet ((Keep.refl (fun _ => False) X).drew)).rd)
      have HDY : Hid (Calls Tryz.prog 53 #[.pointer (some ⟨p, 0, none⟩)] (X.drew.setRow A M) fun e w' => e = .returned (.bool (doneB (lastS bs))) ∧ X.drew.setRow A M = w') := Lib.hid (done (· = g) p (lastS bs) _ (RX.out.rd.keep kXY (fun e => RX.out.np.1 e.symm) (fun b _ hb e => RX.out.ng.2.1 (by rw [← show b = g from hb, e]))))
      have hMs : M.size = 6 := by rw [hM]; rfl
      have infoM : (Tryz.prog.info? 25).map (·.size) = some M.size := by rw [hMs]; exact infoM
      have oneM : M.all (·.oneCell') = true := by rw [hM]; exact one_ml _ _ _ _ _ _ _ _ _ _
      have hzs : mzC.size = M.size := by rw [hMs]; rfl
      obtain ⟨D, hD⟩ : ∃ D, D = doneB (lastS bs) := ⟨_, rfl⟩
      rw [← hD] at HDX HDY
      have HFIN : Hid (MailOf bs w (.returned (.tuple #[.agg M, .bool D])) (X.drew.setRow A M)) := Lib.hid (by
        have hro : readOk bs = D := by rw [hD, readOk, ← HNN.out, decide_eq_true hN8]; rfl
        have TX := T7.out.keep k7X (fun b hb e => T7.out.ne R7.out.row (by decide) (by rw [hb, e]))
        have TY := TX.keep kXY (fun b hb e => TX.ne HA.out (by decide) (by rw [hb, e]))
        obtain ⟨y', c', hv', hc', hT'⟩ := TY.shape
        injection hv' with e1 e2 e3
        subst e1 e3
        have hml : readMl bs = ⟨(i1 : Int), (i2 : Int), (i3 : Int), F, rdL k (q5 bs), bytV (rdS k (q5 bs))⟩ := by rw [readMl, ← HNN.out, ← HI1.out, ← HI2.out, ← HI3.out, ← HF.out]
        refine ⟨readMl bs, y, L, cy, x7, m7, m7, ?_, ?_, RX.out.kp.trans kXY (fun i hi e => by have := RX.out.hA; omega), fun _ => rfl⟩
        · rw [hml, hro, hM]
          rfl
        · rw [hml]
          have hg := R7.out.hg
          exact ⟨hT'.mono (fun b _ hb => Nat.le_trans HCC.out.2.2.2.2 hb), ((HB7.out.keep k7X (fun b _ hb e => R7.out.ng.2.2 (by rw [← show b = g from hb, e]))).keep kXY (fun b _ hb e => R7.out.ng.2.1 (by rw [← show b = g from hb, e]))).mono (fun b _ hb => by have : b = g := hb; omega), HLL.out, HM7.out, hcy, Nat.le_refl _⟩)
      have HW8 := Lib.hid hX
      clear hX hM hD hR7 hB7 hm7 hk7 hL k7X kXY hcy hty
      go_wp2
      rw [← HW8.out]
      refine wp_region_noPanic ?_
      refine wp_region_held_drew (S := fun w' => True) (by kernel_rfl) trivial (fun hHeld => ?_)
      refine wpAnyH_take (i := 1) (v := ?_) rfl (by kernel_rfl) (by kernel_rfl) (by kernel_rfl) (fun _ _ _ h => h) (Or.inl ⟨by rfl, ?_⟩) (by assumption) ?_
      rotate_left
      · (intro wS hSw; (try dsimp only at hSw); (try simp only [List.getElem_toArray, List.getElem_cons_succ, List.getElem_cons_zero]); go_simp; try (with_reducible rfl))
      try simp only [Act.put, List.getElem_toArray, List.getElem_cons_succ, List.getElem_cons_zero, List.setIfInBounds_toArray, List.set_cons_zero, List.set_cons_succ]
      refine wpAnyH_ready (rs := [0, 2]) (by kernel_rfl) (by simp) ?_
      refine AllReadyH.cons rfl (fun K hK => ?_) (AllReadyH.cons rfl (fun K hK => ?_) AllReadyH.nil)
      · refine wp_load_row 25 (.tmp 5) (by rfl) B (by rfl) 25 M (0, 0) _ HM.out Tryz.underlying25 rfl infoM ?_
        refine hK.out _ _ trivial (fun hHeld => ?_)
        clear hK K
        try simp only [Act.put, List.getElem_toArray, List.getElem_cons_succ, List.getElem_cons_zero, List.setIfInBounds_toArray, List.set_cons_zero, List.set_cons_succ]
        refine wpAnyH_ready (rs := [2]) (by kernel_rfl) (by simp) ?_
        refine AllReadyH.cons rfl (fun K hK => ?_) AllReadyH.nil
        go_simp
        refine (HDX.out).mono ?_
        rintro e u ⟨rfl, hu⟩
        subst u
        go_wp2_with fail
        refine hK.out _ _ trivial (fun hHeld => ?_)
        clear hK K
        try simp only [Act.put, List.getElem_toArray, List.getElem_cons_succ, List.getElem_cons_zero, List.setIfInBounds_toArray, List.set_cons_zero, List.set_cons_succ]
        refine wpAnyH_ready (rs := [3]) (by kernel_rfl) (by simp) ?_
        refine AllReadyH.cons rfl (fun K hK => ?_) AllReadyH.nil
        refine wp_store_row 25 (.tmp 2) (.tmp 70) (by rfl) A M (by rfl) (by rfl) 25 _ HA.out infoM hzs oneM ?_
        refine hK.out _ _ trivial (fun hHeld => ?_)
        clear hK K
        try simp only [Act.put, List.getElem_toArray, List.getElem_cons_succ, List.getElem_cons_zero, List.setIfInBounds_toArray, List.set_cons_zero, List.set_cons_succ]
        refine wpAnyH_take (i := 4) (v := ?_) rfl (by kernel_rfl) (by kernel_rfl) (by kernel_rfl) (fun _ _ _ h => h) (Or.inl ⟨by rfl, ?_⟩) (by assumption) ?_
        rotate_left
        · (intro wS hSw; (try dsimp only at hSw); (try simp only [List.getElem_toArray, List.getElem_cons_succ, List.getElem_cons_zero]); go_simp; try (with_reducible rfl))
        try simp only [Act.put, List.getElem_toArray, List.getElem_cons_succ, List.getElem_cons_zero, List.setIfInBounds_toArray, List.set_cons_zero, List.set_cons_succ]
        refine wpAnyH_done (by kernel_rfl) ?_ _
        refine NoPanic.normal ?_
        go_wp2
        (try simp only [Exit.inBlock, Exit.then])
        refine bodyPost_ret (ret_ml (fn := Tryz.f41) (p := 2) (u := 3) rfl _ _ A rfl ⟨HAY.out, hMs⟩) rfl ?_
        exact HFIN.out

      · go_simp
        refine (HDX.out).mono ?_
        rintro e u ⟨rfl, hu⟩
        subst u
        go_wp2_with fail
        refine hK.out _ _ trivial (fun hHeld => ?_)
        clear hK K
        try simp only [Act.put, List.getElem_toArray, List.getElem_cons_succ, List.getElem_cons_zero, List.setIfInBounds_toArray, List.set_cons_zero, List.set_cons_succ]
        refine wpAnyH_ready (rs := [0]) (by kernel_rfl) (by simp) ?_
        refine AllReadyH.cons rfl (fun K hK => ?_) AllReadyH.nil
        refine wp_load_row 25 (.tmp 5) (by rfl) B (by rfl) 25 M (0, 0) _ HM.out Tryz.underlying25 rfl infoM ?_
        refine hK.out _ _ trivial (fun hHeld => ?_)
        clear hK K
        try simp only [Act.put, List.getElem_toArray, List.getElem_cons_succ, List.getElem_cons_zero, List.setIfInBounds_toArray, List.set_cons_zero, List.set_cons_succ]
        refine wpAnyH_ready (rs := [3]) (by kernel_rfl) (by simp) ?_
        refine AllReadyH.cons rfl (fun K hK => ?_) AllReadyH.nil
        refine wp_store_row 25 (.tmp 2) (.tmp 70) (by rfl) A M (by rfl) (by rfl) 25 _ HA.out infoM hzs oneM ?_
        refine hK.out _ _ trivial (fun hHeld => ?_)
        clear hK K
        try simp only [Act.put, List.getElem_toArray, List.getElem_cons_succ, List.getElem_cons_zero, List.setIfInBounds_toArray, List.set_cons_zero, List.set_cons_succ]
        refine wpAnyH_take (i := 4) (v := ?_) rfl (by kernel_rfl) (by kernel_rfl) (by kernel_rfl) (fun _ _ _ h => h) (Or.inl ⟨by rfl, ?_⟩) (by assumption) ?_
        rotate_left
        · (intro wS hSw; (try dsimp only at hSw); (try simp only [List.getElem_toArray, List.getElem_cons_succ, List.getElem_cons_zero]); go_simp; try (with_reducible rfl))
        try simp only [Act.put, List.getElem_toArray, List.getElem_cons_succ, List.getElem_cons_zero, List.setIfInBounds_toArray, List.set_cons_zero, List.set_cons_succ]
        refine wpAnyH_done (by kernel_rfl) ?_ _
        refine NoPanic.normal ?_
        go_wp2
        (try simp only [Exit.inBlock, Exit.then])
        refine bodyPost_ret (ret_ml (fn := Tryz.f41) (p := 2) (u := 3) rfl _ _ A rfl ⟨HAY.out, hMs⟩) rfl ?_
        exact HFIN.out


end Go.Proofs.YtimoebicacnihaaGreatDoor.Ln
