/-
  The document's own disk in memory.
-/
import Derived.Test.YtgjkocjgkbjciaaDone
namespace Go.Proofs.Ytgjkocjgkbjciaa.Fs
open Go.RowKit Go.Maps
set_option linter.unusedVariables false
set_option linter.unusedSimpArgs false

/-! ### 'done' does a change -/
theorem ents_length (d : Dir) : (ents d).length = d.length := by simp [ents]
theorem ents_at {d : Dir} {i : Nat} {p : Nm × Nat} (h : d[i]? = some p) : (ents d)[i]? = some (p.1, (p.2 : Int)) := by simp [ents, h]
theorem plc_ents (a : Nm) : ∀ d : Dir, plc a (ents d) = place a d
  | [] => rfl
  | y :: r => by
    have := plc_ents a r
    unfold ents at this
    simp [ents, plc, place, this]
theorem insE_ents {d : Dir} {a : Nm} {i : Nat} (h : ∀ p ∈ d, p.1 ≠ a) : insE (a, (i : Int)) (ents d) = ents (ins (a, i) d) := by
  rw [place_ins h]
  unfold insE
  rw [plc_ents]
  simp [ents]
theorem ents_filter (f : Nm → Bool) (d : Dir) : (ents d).filter (fun p => f p.1) = ents (d.filter fun p => f p.1) := by
  unfold ents
  rw [List.filter_map]
  rfl
theorem lastF_none {f : Nm} : ∀ {d : Dir} {acc : Int}, (∀ p ∈ d, p.1 ≠ f) → (ents d).foldl (fun acc p => if p.1 == f then p.2 else acc) acc = acc
  | [], _, _ => rfl
  | y :: r, acc, h => by
    have hy : y.1 ≠ f := h y List.mem_cons_self
    have := lastF_none (d := r) (acc := acc) (fun p hp => h p (List.mem_cons_of_mem _ hp))
    simpa [ents, hy] using this
theorem lastF_some {f : Nm} {i : Nat} : ∀ {d : Dir} {acc : Int}, (d.map (·.1)).Nodup → (f, i) ∈ d → (ents d).foldl (fun acc p => if p.1 == f then p.2 else acc) acc = (i : Int)
  | [], _, _, h => by simp at h
  | y :: r, acc, hn, h => by
    simp only [List.map_cons, List.nodup_cons] at hn
    rcases List.mem_cons.1 h with e | hr
    · subst e
      have := lastF_none (f := f) (d := r) (acc := (i : Int)) (fun p hp e => hn.1 (e ▸ List.mem_map.2 ⟨p, hp, rfl⟩))
      simpa [ents] using this
    · have hy : y.1 ≠ f := fun e => hn.1 (e ▸ List.mem_map.2 ⟨(f, i), hr, rfl⟩)
      have := lastF_some (d := r) (acc := acc) hn.2 hr
      simpa [ents, hy] using this
def kindOf : Chg → Int
  | .mk _ _ => 1
  | .ren _ _ => 2
  | .unl _ => 3
def fromOf : Chg → Nm
  | .mk a _ => a
  | .ren a _ => a
  | .unl a => a
def toOf : Chg → Nm
  | .ren _ b => b
  | _ => []
def fileOf : Chg → Int
  | .mk _ i => i
  | _ => 0
def chgL (c : Chg) : List Value := [.int .i64 (kindOf c), .string (sm (fromOf c)), .string (sm (toOf c)), .int .i64 (fileOf c)]
theorem del_filter (d : Dir) (a : Nm) : del d a = d.filter fun p => !(p.1 == a) := rfl
theorem doneL_app {n : Nat} {d : Dir} {c : Chg} (hr : Rising d) (hf : Fits n d c) : doneL (kindOf c) (fileOf c) (fromOf c) (toOf c) (ents d) = ents (app d c) := by
  cases c with
  | mk a i =>
    have e : (ents d).filter (flt 1 a []) = ents (del d a) := by
      have : flt 1 a [] = fun p => !(p.1 == a) := by funext p; simp [flt]
      rw [this]
      exact ents_filter (fun q => !(q == a)) d
    show doneL 1 (i : Int) a [] (ents d) = _
    unfold doneL
    rw [if_neg (by decide), if_pos rfl, e]
    exact insE_ents (fun p hp => (mem_del.1 hp).2)
  | ren a b =>
    obtain ⟨⟨i, hi⟩, hne⟩ := hf
    have e : (ents d).filter (flt 2 a b) = ents (del (del d a) b) := by
      have : flt 2 a b = fun p => (!(p.1 == b) && !(p.1 == a)) := by funext p; simp [flt]; rw [Bool.and_comm]
      rw [this]
      have h2 := ents_filter (fun q => !(q == b) && !(q == a)) d
      rw [h2]
      unfold del
      rw [List.filter_filter]
    show doneL 2 0 a b (ents d) = _
    unfold doneL
    rw [if_neg (by decide), if_neg (by decide), e]
    rw [show lastF a (ents d) = (i : Int) from lastF_some hr.nodup (get_mem hi), insE_ents (fun p hp => (mem_del.1 hp).2), ren_eq hr hne hi]
  | unl a =>
    have e : (ents d).filter (flt 3 a []) = ents (del d a) := by
      have : flt 3 a [] = fun p => !(p.1 == a) := by funext p; simp [flt]
      rw [this]
      exact ents_filter (fun q => !(q == a)) d
    show doneL 3 0 a [] (ents d) = _
    unfold doneL
    rw [if_pos rfl, e]
    rfl
theorem doneC {n : Nat} {d : Dir} {c : Chg} (hr : Rising d) (hf : Fits n d c) (hd : d.length ≤ 2000000) (S : Nat → Prop) (v : Value) (w : World) (hv : ERow w S v (ents d)) :
    Calls Try.prog 51 #[v, .agg #[.int .i64 (kindOf c), .string (sm (fromOf c)), .string (sm (toOf c)), .int .i64 (fileOf c)]] w fun e w' => ∃ u, e = .returned u ∧ ERow w' (Up (fun _ => False) w w') u (ents (app d c)) ∧ Keep (fun _ => False) w w' := by
  have h := doneW (ents d) (by rw [ents_length]; exact hd) (kindOf c) (fileOf c) (sm (fromOf c)) (sm (toOf c)) S v w hv
  rw [nm_sm, nm_sm, doneL_app hr hf] at h
  exact h

/-! ### The disk -/
def chgCells (l : List Chg) : List Value := l.flatMap chgL
theorem chgCells_append (a b : List Chg) : chgCells (a ++ b) = chgCells a ++ chgCells b := by simp [chgCells]
theorem chgCells_length : ∀ l : List Chg, (chgCells l).length = l.length * 4
  | [] => rfl
  | c :: r => by
    have := chgCells_length r
    simp only [chgCells, List.flatMap_cons, List.length_append, List.length_cons, chgL, List.length_nil] at this ⊢
    omega
theorem chgCells_at : ∀ {l : List Chg} {i : Nat} {c : Chg}, l[i]? = some c → (chgCells l)[i * 4]? = some (.int .i64 (kindOf c)) ∧ (chgCells l)[i * 4 + 1]? = some (.string (sm (fromOf c))) ∧ (chgCells l)[i * 4 + 2]? = some (.string (sm (toOf c))) ∧ (chgCells l)[i * 4 + 3]? = some (.int .i64 (fileOf c))
  | [], i, c, h => by simp at h
  | y :: r, 0, c, h => by
    have : y = c := by simpa using h
    subst this
    simp [chgCells, chgL]
  | y :: r, i + 1, c, h => by
    have := chgCells_at (l := r) (i := i) (c := c) (by simpa using h)
    simp only [chgCells, List.flatMap_cons, chgL] at this ⊢
    have e : (i + 1) * 4 = i * 4 + 1 + 1 + 1 + 1 := by omega
    rw [e]
    simpa using this
theorem chgCells_take : ∀ (d : List Chg) (n : Nat), chgCells (d.take n) = (chgCells d).take (n * 4)
  | [], n => by simp [chgCells]
  | _ :: _, 0 => by simp [chgCells]
  | p :: r, n + 1 => by
    have := chgCells_take r n
    have e : (n + 1) * 4 = n * 4 + 1 + 1 + 1 + 1 := by omega
    simp only [chgCells, List.take_succ_cons, List.flatMap_cons, e, chgL] at this ⊢
    rw [this]
    rfl
/-- Files, each with the slice of its bytes. -/
abbrev FL := List (Value × File)
def fileCells (fl : FL) : List Value := fl.flatMap fun p => [p.1, .int .i64 (p.2.sure : Int)]
theorem fileCells_append (a b : FL) : fileCells (a ++ b) = fileCells a ++ fileCells b := by simp [fileCells]
theorem fileCells_length : ∀ l : FL, (fileCells l).length = l.length * 2
  | [] => rfl
  | c :: r => by
    have := fileCells_length r
    simp only [fileCells, List.flatMap_cons, List.length_append, List.length_cons, List.length_nil] at this ⊢
    omega
theorem fileCells_at : ∀ {l : FL} {i : Nat} {p : Value × File}, l[i]? = some p → (fileCells l)[i * 2]? = some p.1 ∧ (fileCells l)[i * 2 + 1]? = some (.int .i64 (p.2.sure : Int))
  | [], i, c, h => by simp at h
  | y :: r, 0, c, h => by
    have : y = c := by simpa using h
    subst this
    simp [fileCells]
  | y :: r, i + 1, c, h => by
    have := fileCells_at (l := r) (i := i) (p := c) (by simpa using h)
    simp only [fileCells, List.flatMap_cons] at this ⊢
    have e : (i + 1) * 2 = i * 2 + 1 + 1 := by omega
    rw [e]
    simpa using this
theorem fileCells_set : ∀ {l : FL} {i : Nat} {p q : Value × File}, l[i]? = some p → fileCells (l.set i q) = ((fileCells l).set (i * 2) q.1).set (i * 2 + 1) (.int .i64 (q.2.sure : Int))
  | [], i, p, q, h => by simp at h
  | y :: r, 0, p, q, h => by simp [fileCells]
  | y :: r, i + 1, p, q, h => by
    have := fileCells_set (l := r) (i := i) (p := p) (q := q) (by simpa using h)
    simp only [fileCells, List.flatMap_cons, List.set_cons_succ] at this ⊢
    have e : (i + 1) * 2 = i * 2 + 1 + 1 := by omega
    rw [e, this]
    simp
def fuseI (s : St) : Int := match s.fuse with | none => -1 | some n => (n : Int)
structure RP (w : World) (T : Nat → Prop) (r : Nat) (s : St) (vs vl vf : Value) (fl : FL) : Prop where
  fs : At w r 31 #[vs, vl, vf, .int .i64 (s.room : Int), .int .i64 (fuseI s), .bool s.down]
  inT : T r
  sure : ERow w T vs (ents s.sure)
  loose : Row w T 71 4 vl s.loose.length (chgCells s.loose)
  files : Row w T 69 2 vf s.files.length (fileCells fl)
  same : fl.map (·.2) = s.files
  own : ∀ p ∈ fl, Own w p.1 p.2.bytes ∧ ∀ b, p.1.ownBlock = some b → T b
def Ref (w : World) (T : Nat → Prop) (r : Nat) (s : St) : Prop := (∃ vs vl vf fl, RP w T r s vs vl vf fl) ∧ Good s ∧ Rising s.sure
section
variable {w w' : World} {T U : Nat → Prop} {r : Nat} {s : St} {vs vl vf : Value} {fl : FL}
/-- Nothing of the disk has turned. -/
theorem RP.keep (h : RP w T r s vs vl vf fl) (k : Keep U w w') (hU : ∀ b, T b → ¬ U b) : RP w' T r s vs vl vf fl :=
  ⟨h.fs.keep k (hU r h.inT), h.inT, h.sure.keep k (fun b _ hb _ => hU b hb), h.loose.keep k (fun b _ hb _ => hU b hb), h.files.keep k (fun b _ hb _ => hU b hb), h.same,
    fun p hp => ⟨(h.own p hp).1.keep k (fun b hb => hU b ((h.own p hp).2 b hb)), (h.own p hp).2⟩⟩
theorem RP.mono {T' : Nat → Prop} (h : RP w T r s vs vl vf fl) (hT : ∀ b, b < w.heap.size → T b → T' b) : RP w T' r s vs vl vf fl :=
  ⟨h.fs, hT r h.fs.lt h.inT, h.sure.mono hT, h.loose.mono hT, h.files.mono hT, h.same, fun p hp => ⟨(h.own p hp).1, fun b hb => hT b ((h.own p hp).1.lt b hb) ((h.own p hp).2 b hb)⟩⟩
theorem Ref.keep (h : Ref w T r s) (k : Keep U w w') (hU : ∀ b, T b → ¬ U b) : Ref w' T r s := by
  obtain ⟨⟨vs, vl, vf, fl, hp⟩, hg⟩ := h
  exact ⟨⟨vs, vl, vf, fl, hp.keep k hU⟩, hg⟩
theorem Ref.mono {T' : Nat → Prop} (h : Ref w T r s) (hT : ∀ b, b < w.heap.size → T b → T' b) : Ref w T' r s := by
  obtain ⟨⟨vs, vl, vf, fl, hp⟩, hg⟩ := h
  exact ⟨⟨vs, vl, vf, fl, hp.mono hT⟩, hg⟩
theorem RP.flen (h : RP w T r s vs vl vf fl) : fl.length = s.files.length := by rw [← h.same]; simp
theorem RP.fat (h : RP w T r s vs vl vf fl) {i : Nat} (hi : i < s.files.length) : ∃ v, fl[i]? = some (v, s.file i) ∧ Own w v (s.file i).bytes := by
  have hl : i < fl.length := by rw [h.flen]; exact hi
  obtain ⟨p, hp⟩ := getElem?_some_lt hl
  have e : s.file i = p.2 := by
    unfold St.file
    rw [← h.same, List.getD_eq_getElem?_getD, List.getElem?_map, hp]
    rfl
  refine ⟨p.1, by rw [hp, e], ?_⟩
  rw [e]
  exact (h.own p (List.mem_of_getElem? hp)).1
theorem row_cells {e : TypeId} {size : Nat} {v : Value} {n : Nat} {xs : List Value} (h : Row w T e size v n xs) (hn : 0 < n) : ∃ g cap, v = .slice (some ⟨g, 0, none⟩) n cap ∧ n ≤ cap ∧ T g ∧ (∃ cs, At w g e cs) ∧ ∀ (j : Nat) (u : Value), xs[j]? = some u → w.cell? ⟨g, j, none⟩ = some u := by
  obtain ⟨x, cap, rfl, hc, h0 | ⟨g, rfl, hb, hcell⟩⟩ := ownsRow_shape h.1
  · omega
  · exact ⟨g, cap, rfl, hc, h.2 g hb, owns_at h.1 hb, hcell⟩
/-- A store into a row's cell. -/
theorem Row.put {e : TypeId} {size : Nat} {x : Option Addr} {g n cap : Nat} {xs : List Value} (h : Row w T e size (.slice (some ⟨g, 0, none⟩) n cap) n xs) (k : Nat) (u : Value) : Row (w.setCell ⟨g, k, none⟩ u) T e size (.slice (some ⟨g, 0, none⟩) n cap) n (xs.set k u) := by
  refine ⟨⟨by simpa using h.1.1, ?_⟩, h.2⟩
  rcases h.1.2 with ⟨h0, _⟩ | ⟨g', cap', cur, e1, hb, hg, hnc, hm, hs, ht⟩
  · cases h0
  · injection e1 with e1 e2 e3
    injection e1 with e1
    injection e1 with e1 _ _
    subst e1
    subst e3
    exact .inr ⟨g, cap, cur.setIfInBounds k u, rfl, hb, At.put (t := e) hg k u, hnc, hm, by simpa using hs, by rw [Array.toList_setIfInBounds, List.take_set, ht]⟩
end

end Go.Proofs.Ytgjkocjgkbjciaa.Fs
