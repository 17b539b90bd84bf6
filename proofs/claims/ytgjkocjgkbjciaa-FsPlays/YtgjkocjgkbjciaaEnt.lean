/-
  The document's rows of entries, and what its 'done' returns.
-/
import Derived.Test.YtgjkocjgkbjciaaRise
import Derived.Deep.RegionHeld3
namespace Go.Proofs.Ytgjkocjgkbjciaa.Fs
open Go.RowKit Go.Maps
set_option linter.unusedVariables false
set_option linter.unusedSimpArgs false

theorem info73 : (Try.prog.info? 73).map (fun i => (i.zero, i.size, i.bytes)) = some (some (.agg #[.string ⟨#[]⟩, .int .i64 0]), 2, 24) := by kernel_rfl
theorem info71 : (Try.prog.info? 71).map (fun i => (i.zero, i.size, i.bytes)) = some (some (.agg #[.int .i64 0, .string ⟨#[]⟩, .string ⟨#[]⟩, .int .i64 0]), 4, 48) := by kernel_rfl
theorem info69 : (Try.prog.info? 69).map (fun i => (i.zero, i.size, i.bytes)) = some (some (.agg #[.slice none 0 0, .int .i64 0]), 2, 32) := by kernel_rfl

theorem less_before : ∀ a b : List UInt8, Op.bytesLess a b = bytesBefore a b
  | [], [] => rfl
  | [], _ :: _ => rfl
  | _ :: _, [] => rfl
  | x :: r, y :: s => by simp [Op.bytesLess, bytesBefore, less_before r s]
theorem toList_nm (A : ByteArray) : A.toList = nm A := ByteArray.toList_eq _
theorem less_nm (A B : ByteArray) : Op.bytesLess A.toList B.toList = bytesBefore (nm A) (nm B) := by rw [toList_nm, toList_nm, less_before]
theorem eq_nm {A B : ByteArray} : (A.toList == B.toList) = (nm A == nm B) := by rw [toList_nm, toList_nm]
/-- A name as a string. -/
def sm (a : Nm) : ByteArray := ⟨a.toArray⟩
theorem nm_sm (a : Nm) : nm (sm a) = a := by simp [nm, sm]
theorem sm_nm (A : ByteArray) : sm (nm A) = A := nm_inj (nm_sm _)

/-! ### Entries -/
abbrev Ent := Nm × Int
def entCells (d : List Ent) : List Value := d.flatMap fun p => [.string (sm p.1), .int .i64 p.2]
def ents (d : Dir) : List Ent := d.map fun p => (p.1, (p.2 : Int))
theorem entCells_append (a b : List Ent) : entCells (a ++ b) = entCells a ++ entCells b := by simp [entCells]
theorem entCells_length : ∀ d : List Ent, (entCells d).length = d.length * 2
  | [] => rfl
  | p :: r => by
    have := entCells_length r
    simp only [entCells, List.flatMap_cons, List.length_append, List.length_cons, List.length_nil] at this ⊢
    omega
theorem entCells_at : ∀ {d : List Ent} {i : Nat} {p : Ent}, d[i]? = some p → (entCells d)[i * 2]? = some (.string (sm p.1)) ∧ (entCells d)[i * 2 + 1]? = some (.int .i64 p.2)
  | [], i, p, h => by simp at h
  | y :: r, 0, p, h => by
    have : y = p := by simpa using h
    subst this
    simp [entCells]
  | y :: r, i + 1, p, h => by
    have := entCells_at (d := r) (i := i) (p := p) (by simpa using h)
    simp only [entCells, List.flatMap_cons] at this ⊢
    have e : (i + 1) * 2 = i * 2 + 1 + 1 := by omega
    rw [e]
    simpa using this
theorem entCells_one (d : List Ent) : ∀ u ∈ entCells d, u.oneCell' = true := by
  intro u hu
  obtain ⟨p, _, hp⟩ := List.mem_flatMap.1 hu
  simp at hp
  rcases hp with rfl | rfl <;> rfl
/-- A row of entries of its own. -/
abbrev ERow (w : World) (S : Nat → Prop) (v : Value) (d : List Ent) : Prop := Row w S 73 2 v d.length (entCells d)
theorem ERow.shape {w : World} {S : Nat → Prop} {v : Value} {d : List Ent} (h : ERow w S v d) : ∃ x cap, v = .slice x d.length cap ∧ d.length ≤ cap ∧ ∀ i p, d[i]? = some p → ∃ g, x = some ⟨g, 0, none⟩ ∧ v.ownBlock = some g ∧ S g ∧ w.cell? ⟨g, i * 2, none⟩ = some (.string (sm p.1)) ∧ w.cell? ⟨g, i * 2 + 1, none⟩ = some (.int .i64 p.2) := by
  obtain ⟨x, cap, rfl, hc, h0 | ⟨g, rfl, hb, hcell⟩⟩ := ownsRow_shape h.1
  · refine ⟨x, cap, rfl, hc, fun i p hi => ?_⟩
    have := (List.getElem?_eq_some_iff.1 hi).1
    omega
  · refine ⟨_, cap, rfl, hc, fun i p hi => ⟨g, rfl, hb, h.2 g hb, ?_, ?_⟩⟩
    · exact hcell _ _ (entCells_at hi).1
    · exact hcell _ _ (entCells_at hi).2

/-! ### 'done' -/
def flt (K : Int) (f t : Nm) (p : Ent) : Bool := !(p.1 == f) && !(decide (K = 2) && (p.1 == t))
def lastF (f : Nm) (d : List Ent) : Int := d.foldl (fun acc p => if p.1 == f then p.2 else acc) (-1)
theorem lastF_snoc (f : Nm) (d : List Ent) (p : Ent) : lastF f (d ++ [p]) = if p.1 == f then p.2 else lastF f d := by simp [lastF]
theorem take_snoc {α : Type} {d : List α} {i : Nat} {p : α} (h : d[i]? = some p) : d.take (i + 1) = d.take i ++ [p] := by
  rw [List.take_add_one, h]; rfl
theorem flt_take {K : Int} {f t : Nm} {d : List Ent} {i : Nat} {p : Ent} (h : d[i]? = some p) : (d.take (i + 1)).filter (flt K f t) = (d.take i).filter (flt K f t) ++ if flt K f t p then [p] else [] := by
  rw [take_snoc h, List.filter_append]
  cases hp : flt K f t p <;> simp [hp]
theorem flt_len {K : Int} {f t : Nm} {d : List Ent} (i : Nat) : ((d.take i).filter (flt K f t)).length ≤ d.length :=
  Nat.le_trans (List.length_filter_le _ _) (by simp; omega)

theorem empty_own (w : World) (e : TypeId) (size : Nat) (S : Nat → Prop) (hS : S w.heap.size) : Row (w.alloc (.cells #[] e)) S e size (.slice (some ⟨w.heap.size, 0, none⟩) 0 0) 0 [] := by
  refine ⟨⟨by simp, .inr ⟨w.heap.size, 0, #[], rfl, Nat.zero_le _, heap_alloc_new w _, Nat.le_refl _, Nat.zero_le _, by simp, by simp⟩⟩, fun b hb => ?_⟩
  simp [Value.ownBlock] at hb
  rw [← hb]
  exact hS
theorem Up.more {S : Nat → Prop} {w a b : World} (h : a.heap.size ≤ b.heap.size) {k : Nat} (hk : Up S w a k) : Up S w b k := by
  rcases hk with hk | ⟨h1, h2⟩
  · exact .inl hk
  · exact .inr ⟨h1, by omega⟩
/-- A row of the call's own behind a step that turns none of its blocks. -/
theorem Row.on {w a b : World} {S T : Nat → Prop} {e : TypeId} {size n : Nat} {v : Value} {xs : List Value} (h : Row a (Up S w a) e size v n xs) (k : Keep T a b) (hT : ∀ g cs, At a g e cs → ¬ T g) : Row b (Up S w b) e size v n xs :=
  (h.keep k (fun g cs _ hg => hT g cs hg)).mono (fun g _ hg => Up.more k.size hg)

/-! ### Cells that lie in a row; cuts; appends of them -/
/-- The cells xs lie from x on. -/
def Reads (w : World) (x : Option Addr) (xs : List Value) : Prop := xs = [] ∨ ∃ g off, x = some ⟨g, off, none⟩ ∧ ∀ j u, xs[j]? = some u → w.cell? ⟨g, off + j, none⟩ = some u
theorem Reads.quiet {w w' : World} {x : Option Addr} {xs : List Value} (h : Reads w x xs) (k : Keep (fun _ => False) w w') : Reads w' x xs := by
  rcases h with h | ⟨g, off, hx, hc⟩
  · exact .inl h
  · exact .inr ⟨g, off, hx, fun j u hj => k.cell (hc j u hj) (fun h => h)⟩
theorem Reads.of_row {w : World} {S : Nat → Prop} {e : TypeId} {size : Nat} {x : Option Addr} {n cap : Nat} {xs : List Value} (h : Row w S e size (.slice x n cap) n xs) : Reads w x xs := by
  have hl := h.1.1
  obtain ⟨x', cap', e1, hc, h0 | ⟨g, hx, hb, hcell⟩⟩ := ownsRow_shape h.1
  · left
    rw [h0, Nat.zero_mul] at hl
    exact List.eq_nil_of_length_eq_zero hl
  · injection e1 with e1 _ _
    exact .inr ⟨g, 0, by rw [e1, hx], fun j u hj => by rw [Nat.zero_add]; exact hcell j u hj⟩
theorem Reads.take {w : World} {x : Option Addr} {xs : List Value} (h : Reads w x xs) (n : Nat) : Reads w x (xs.take n) := by
  rcases h with h | ⟨g, off, hx, hc⟩
  · left; simp [h]
  · refine .inr ⟨g, off, hx, fun j u hj => hc j u ?_⟩
    rw [List.getElem?_take] at hj
    split at hj
    · exact hj
    · cases hj
set_option maxRecDepth 100000 in
theorem run_append_src (t e : TypeId) (ty : TypeId) (z : Value) (size bytes : Nat) (ht : Try.prog.underlying t = some (.slice e)) (hi : (Try.prog.info? e).map (fun i => (i.zero, i.size, i.bytes)) = some (some z, size, bytes)) (hzs : z.cells.size = size) (hsz : 0 < size)
    {w : World} {S : Nat → Prop} (v : Value) (n : Nat) (xs : List Value) (hown : Row w S e size v n xs) (x : Option Addr) (m c : Nat) (news : List Value) (hl : news.length = m * size) (hnews : Reads w x news) (h1 : ∀ u ∈ news, u.oneCell' = true)
    (h63 : n + m ≤ 9223372036854775807) (hbytes : (n + m) * bytes ≤ 140737488355328) :
    ∃ y cap w', (Builtin.append_ #[t, t] ty #[v, .slice x m c]).run Try.prog w = .ok (.slice y (n + m) cap) w' ∧ Row w' (Up S w w') e size (.slice y (n + m) cap) (n + m) (xs ++ news) ∧ Keep (fun k => v.ownBlock = some k) w w' ∧ New w v.ownBlock (Value.ownBlock (.slice y (n + m) cap)) := by
  rcases x with _ | ad
  · have hn : news = [] := by
      rcases hnews with h0 | ⟨g, off, hx, _⟩
      · exact h0
      · cases hx
    subst hn
    have hm : m = 0 := by
      simp only [List.length_nil] at hl
      rcases Nat.eq_zero_or_pos m with h | h
      · exact h
      · have := Nat.mul_pos h hsz; omega
    subst hm
    obtain ⟨i0, hi, hz0, hz1, hz2⟩ := info_parts hi
    obtain ⟨y, cap, rfl, hc, _⟩ := ownsRow_shape hown.1
    refine ⟨y, cap, w, ?_, by simpa using hown.mono (S' := Up S w w) (fun b _ h => .inl h), Keep.refl _ _, by simpa using New.refl w _⟩
    rcases hown.1.2 with ⟨h1, h2⟩ | ⟨g, cap', cur, h1, _, _, hnc, _⟩
    · injection h1 with e1 e2 e3
      subst e1 e3
      simp [Builtin.append_, run_underlying ht, sizeOf, typeInfo, hi, Builtin.lenOf, Builtin.firstCells, h2]
    · injection h1 with e1 e2 e3
      subst e1 e3
      simp [Builtin.append_, run_underlying ht, sizeOf, typeInfo, hi, Builtin.lenOf, Builtin.firstCells, hnc, storeCells]
  · obtain ⟨v', w', hr, h2, h3, h4⟩ := run_append_row t e ty z size bytes ht hi hzs hsz v n xs hown ad m c news hl (fun j u hj => by
      rcases hnews with h0 | ⟨g, off, hx, hc⟩
      · rw [h0] at hj; simp at hj
      · injection hx with hx
        subst hx
        rw [Addr.add_mid]
        exact hc j u hj) h1 h63 hbytes
    obtain ⟨y, cap, rfl, _⟩ := ownsRow_shape h2.1
    exact ⟨y, cap, w', hr, h2, h3, h4⟩
theorem wp_append_runT {o : Oper} {a : Act} {w w' : World} {K : Act → World → Prop} {Q : Exit → Act → World → Prop} {s t : Operand} {T : TypeId} {v u r : Value} (ho : o.op = .call { callee := .builtin .append, args := #[s, t], argTypes := #[T, T] }) (hs : a.eval s = v) (hx : a.eval t = u)
    (hr : (Builtin.append_ #[T, T] o.type #[v, u]).run Try.prog w = .ok r w') (hK : K (a.put o.dst r) w') : o.wp Try.prog a w K Q := by
  unfold Oper.wp execOp
  simp only [ho, resolve, invoke, builtin, Sem.run_bind, Sem.run_pure, Result.andThen_ok, List.map_toArray, List.map_cons, List.map_nil, hs, hx, hr]
  exact hK
theorem cut_preT (T e : TypeId) (ht : Try.prog.underlying T = some (.slice e)) {z : Value} {size bytes : Nat} (hi : (Try.prog.info? e).map (fun i => (i.zero, i.size, i.bytes)) = some (some z, size, bytes)) (x : Option Addr) (L C n : Nat) (hn : n ≤ C) :
    (∀ w, (Instr.slice T (.slice x L C) none (some (.int .i64 (n : Int))) none).run Try.prog w = .ok (.slice x n C) w) ∧
    (∀ w, (Instr.sliceAt T (.slice x L C) none (some (.int .i64 (n : Int))) none).run Try.prog w = .ok (.slice x n C) w) := by
  obtain ⟨i0, hi, hz0, hz1, hz2⟩ := info_parts hi
  have h1 : (n : Int) ≤ (C : Int) := by omega
  have r : ∀ w, (Instr.slice T (.slice x L C) none (some (.int .i64 (n : Int))) none).run Try.prog w = .ok (.slice x n C) w := by
    intro w
    have hb : ∀ code, (Instr.sliceBound (.int .i64 (n : Int)) C code).run Try.prog w = .ok n w := by
      intro code; simp [Instr.sliceBound, asIntOf, h1]
    have e : (if C = 0 then x else x.map (fun a => a.add 0)) = x := by
      rcases x with _ | a <;> simp [Addr.add]
    simp [Instr.slice, run_underlying ht, Instr.sliceBounds, hb, sizeOf, typeInfo, hi]
    simpa using e
  refine ⟨r, fun w => ?_⟩
  rw [← r w]
  simp [Instr.sliceAt, run_underlying ht]
theorem cut_dropT (T e : TypeId) (ht : Try.prog.underlying T = some (.slice e)) {z : Value} {size bytes : Nat} (hi : (Try.prog.info? e).map (fun i => (i.zero, i.size, i.bytes)) = some (some z, size, bytes)) (x : Option Addr) (L C n : Nat) (hn : n ≤ L) (hL : L ≤ C) :
    ∃ y, (∀ w, (Instr.slice T (.slice x L C) (some (.int .i64 (n : Int))) none none).run Try.prog w = .ok (.slice y (L - n) (C - n)) w) ∧
    (∀ w, (Instr.sliceAt T (.slice x L C) (some (.int .i64 (n : Int))) none none).run Try.prog w = .ok (.slice y (L - n) (C - n)) w) ∧
    ∀ (w : World) (xs : List Value), xs.length = L * size → Reads w x xs → Reads w y (xs.drop (n * size)) := by
  obtain ⟨i0, hi, hz0, hz1, hz2⟩ := info_parts hi
  have h1 : (n : Int) ≤ (L : Int) := by omega
  have r : ∀ w, (Instr.slice T (.slice x L C) (some (.int .i64 (n : Int))) none none).run Try.prog w = .ok (.slice (if C = n then x else x.map (fun a => a.add (n * size))) (L - n) (C - n)) w := by
    intro w
    have hb : ∀ code, (Instr.sliceBound (.int .i64 (n : Int)) L code).run Try.prog w = .ok n w := by
      intro code; simp [Instr.sliceBound, asIntOf, h1]
    simp [Instr.slice, run_underlying ht, Instr.sliceBounds, hb, sizeOf, typeInfo, hi, hz1]
  refine ⟨_, r, fun w => ?_, ?_⟩
  · rw [← r w]
    simp [Instr.sliceAt, run_underlying ht]
  · intro w xs hl h
    by_cases h0 : n = L
    · left
      rw [h0, ← hl]
      simp
    · rcases h with h2 | ⟨b, off, rfl, hc⟩
      · left; simp [h2]
      · right
        rw [if_neg (by omega)]
        refine ⟨b, off + n * size, by simp [Addr.add_mid], fun j u hj => ?_⟩
        rw [List.getElem?_drop] at hj
        rw [Nat.add_assoc]
        exact hc _ u hj
def plc (a : Nm) : List Ent → Nat
  | [] => 0
  | y :: r => if bytesBefore y.1 a then plc a r + 1 else 0
theorem plc_le (a : Nm) : ∀ d : List Ent, plc a d ≤ d.length
  | [] => Nat.le_refl _
  | y :: r => by
    unfold plc
    have := plc_le a r
    split
    · simp; omega
    · omega
theorem plc_step {a : Nm} : ∀ {d : List Ent} {k : Nat} {p : Ent}, k ≤ plc a d → d[k]? = some p → (bytesBefore p.1 a = true ↔ k + 1 ≤ plc a d)
  | [], k, p, _, h => by simp at h
  | y :: r, 0, p, _, h => by
    have : y = p := by simpa using h
    subst this
    unfold plc
    split
    · rename_i h; simp [h]
    · rename_i h; simp [h]
  | y :: r, k + 1, p, hk, h => by
    unfold plc at hk ⊢
    split at hk
    · rename_i hy
      rw [if_pos hy]
      have h1 : r[k]? = some p := by simpa using h
      have := plc_step (d := r) (k := k) (p := p) (a := a) (by omega) h1
      rw [this]
      omega
    · omega
def insE (x : Ent) (l : List Ent) : List Ent := l.take (plc x.1 l) ++ x :: l.drop (plc x.1 l)
def doneL (K j : Int) (f t : Nm) (d : List Ent) : List Ent :=
  if K = 3 then d.filter (flt K f t) else if K = 1 then insE (f, j) (d.filter (flt K f t)) else insE (t, lastF f d) (d.filter (flt K f t))
theorem entCells_take : ∀ (d : List Ent) (n : Nat), entCells (d.take n) = (entCells d).take (n * 2)
  | [], n => by simp [entCells]
  | _ :: _, 0 => by simp [entCells]
  | p :: r, n + 1 => by
    have := entCells_take r n
    have e : (n + 1) * 2 = n * 2 + 1 + 1 := by omega
    simp only [entCells, List.take_succ_cons, List.flatMap_cons, e] at this ⊢
    rw [this]
    rfl
theorem entCells_drop : ∀ (d : List Ent) (n : Nat), entCells (d.drop n) = (entCells d).drop (n * 2)
  | [], n => by simp [entCells]
  | _ :: _, 0 => by simp [entCells]
  | p :: r, n + 1 => by
    have := entCells_drop r n
    have e : (n + 1) * 2 = n * 2 + 1 + 1 := by omega
    simp only [entCells, List.drop_succ_cons, List.flatMap_cons, e] at this ⊢
    rw [this]
    rfl

end Go.Proofs.Ytgjkocjgkbjciaa.Fs
