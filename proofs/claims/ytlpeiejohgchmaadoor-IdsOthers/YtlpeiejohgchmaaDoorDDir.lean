/-
  Directories in memory: a map from names to files as it reads, look-ups, stores and deletes; rows of the call's own of whatever elements.
-/
import Derived.Test.YtlpeiejohgchmaaDoorDMem
import Derived.Maps.RangeWalk
import Derived.Maps.Ext
import Derived.Maps.AppendAt
import Derived.Sort.KeysCollected
import Derived.Shelf.Abstract
import Derived.Laws.OwnMore
namespace Go.Proofs.YtlpeiejohgchmaaDoor.Fs
open Go.RowKit Go.Maps
set_option linter.unusedVariables false

abbrev DW := DataW Unit
def ptr (b : Nat) : Value := .pointer (some ⟨b, 0, none⟩)
/-- How a file reads in a directory: by its block. -/
def fileR : Value → Option (DW × List MemPlace)
  | .pointer none => some (.nil, [])
  | .pointer (some ⟨b, 0, none⟩) => some (.lit (.int .i64 b), [])
  | _ => none
theorem fileR_ptr (b : Nat) : fileR (.pointer (some ⟨b, 0, none⟩)) = some (.lit (.int .i64 b), []) := rfl
theorem fileR_lit {v : Value} {b : Nat} {ps : List MemPlace} (h : fileR v = some (.lit (.int .i64 b), ps)) : v = .pointer (some ⟨b, 0, none⟩) := by
  unfold fileR at h
  split at h
  · injection h with h; injection h with h; cases h
  · rename_i b'
    injection h with h; injection h with h _; injection h with h; injection h with _ h
    have : b' = b := by omega
    rw [this]
  · cases h
theorem fileR_nil {v : Value} {ps : List MemPlace} (h : fileR v = some (.nil, ps)) : v = .pointer none := by
  unfold fileR at h
  split at h
  · rfl
  · injection h with h; injection h with h; cases h
  · cases h
theorem fileR_some {v : Value} {y : DW × List MemPlace} (h : fileR v = some y) : v = .pointer none ∨ ∃ b, v = .pointer (some ⟨b, 0, none⟩) := by
  unfold fileR at h
  split at h
  · exact .inl rfl
  · exact .inr ⟨_, rfl⟩
  · cases h

/-! ### A directory as it reads -/
def toE (fb : Nat → Nat) (p : Nm × Nat) : Lit × DW := (.string p.1, .lit (.int .i64 (fb p.2)))
def toD (fb : Nat → Nat) (d : Dir) : DW := .map (d.map (toE fb))
theorem ins_toE (fb : Nat → Nat) (x : Nm × Nat) : ∀ d : Dir, (ins x d).map (toE fb) = DataW.insert (toE fb x) (d.map (toE fb))
  | [] => rfl
  | y :: r => by
    have hb : (toE fb x).1.before (toE fb y).1 = bytesBefore x.1 y.1 := rfl
    cases h : bytesBefore x.1 y.1
    · simp [ins, DataW.insert, hb, h, ins_toE fb x r]
    · simp [ins, DataW.insert, hb, h]
theorem del_toE (fb : Nat → Nat) (a : Nm) (d : Dir) : (del d a).map (toE fb) = (d.map (toE fb)).filter fun p => !p.1.sameKey (.string a) := by
  rw [List.filter_map]
  rfl
theorem toD_del (fb : Nat → Nat) (d : Dir) (a : Nm) : toD fb (del d a) = (toD fb d).del (.string a) := by
  show DataW.map _ = DataW.map _
  rw [del_toE]
theorem toD_put (fb : Nat → Nat) (d : Dir) (a : Nm) (i : Nat) : toD fb (put d a i) = (toD fb d).put (.string a) (.lit (.int .i64 (fb i))) := by
  show DataW.map _ = DataW.map _
  rw [put, ins_toE, del_toE]
  rfl
theorem toD_at (fb : Nat → Nat) (d : Dir) (a : Nm) (z : DW) : (toD fb d).atKey (.string a) z = match get d a with | some i => .lit (.int .i64 (fb i)) | none => z := by
  have e : ((fun p : Lit × DW => p.1.sameKey (.string a)) ∘ toE fb) = fun p : Nm × Nat => p.1 == a := rfl
  simp only [toD, DataW.atKey, List.find?_map, e, get]
  cases d.find? (fun p => p.1 == a) <;> rfl
theorem toD_size (fb : Nat → Nat) (d : Dir) : Maps.size (toD fb d) = d.length := by simp [toD, Maps.size]
theorem toD_has (fb : Nat → Nat) (d : Dir) (a : Nm) : Maps.has (toD fb d) (.string a) = (get d a).isSome := by
  show (d.map (toE fb)).any (fun p => p.1.sameKey (.string a)) = _
  rw [List.any_map, get]
  have e : ((fun p : Lit × DW => p.1.sameKey (.string a)) ∘ toE fb) = fun p : Nm × Nat => p.1 == a := rfl
  rw [e]
  induction d with
  | nil => rfl
  | cons y r ih =>
    cases h : (y.1 == a)
    · simp only [List.any_cons, List.find?_cons, h, Bool.false_or]; exact ih
    · simp [h]
theorem toD_congr {fb gb : Nat → Nat} {d : Dir} (h : ∀ p ∈ d, fb p.2 = gb p.2) : toD fb d = toD gb d := by
  unfold toD
  congr 1
  exact List.map_congr_left fun p hp => by simp [toE, h p hp]
theorem toD_nil (fb : Nat → Nat) : toD fb [] = .map [] := rfl

/-! ### Names as strings -/
def nm (A : ByteArray) : Nm := A.data.toList
theorem nm_inj {A B : ByteArray} (h : nm A = nm B) : A = B := by
  cases A; cases B
  simp [nm] at h
  rw [h]
theorem nm_length (A : ByteArray) : (nm A).length = A.size := by
  show A.data.toList.length = A.data.size
  simp
theorem key_nm {A : ByteArray} (h : A.size ≤ 9223372036854775807) : keyOf Tryd.prog 9 (.string A) = some (.string (nm A)) := WideMaps.keyOf_string_mk Tryd.underlying9 (by simp only [maxLen]; omega)
theorem keyed9 : Keyed Tryd.prog 9 := string_keyed Tryd.underlying9

/-! ### A map block -/
def MapBlk (w : World) (b : Nat) : Prop := ∃ es c, w.heap[b]? = some (.map es c)
/-- The map m reads as the directory d; it lies in a block of S. -/
def MapAt (w : World) (S : Nat → Prop) (m : Option Nat) (d : Dir) (fb : Nat → Nat) : Prop :=
  (m = none ∧ d = []) ∨ ∃ b, m = some b ∧ S b ∧ w.ownsMap Tryd.prog 9 fileR b d.length (toD fb d)
theorem owns_tight {w : World} {R : Value → Option (DW × List MemPlace)} {b n : Nat} {D : DW} (h : w.ownsMap Tryd.prog 9 R b n D) : w.ownsMap Tryd.prog 9 R b (Maps.size D) D := by
  obtain ⟨es, c, hb, F, hn, rfl⟩ := h
  exact ⟨es, c, hb, F, by simp [Maps.size, length_sorted], rfl⟩
theorem owns_dir {w : World} {b n : Nat} {fb : Nat → Nat} {d : Dir} (h : w.ownsMap Tryd.prog 9 fileR b n (toD fb d)) : w.ownsMap Tryd.prog 9 fileR b d.length (toD fb d) := by
  have := owns_tight h
  rwa [toD_size] at this
section
variable {w w' : World} {S : Nat → Prop} {m : Option Nat} {d : Dir} {fb : Nat → Nat}
theorem owns_blk {R : Value → Option (DW × List MemPlace)} {b n : Nat} {D : DW} (h : w.ownsMap Tryd.prog 9 R b n D) : MapBlk w b := by
  obtain ⟨es, c, hb, _⟩ := h
  exact ⟨es, c, hb⟩
theorem owns_keep {R : Value → Option (DW × List MemPlace)} {b n : Nat} {D : DW} {T : Nat → Prop} (h : w.ownsMap Tryd.prog 9 R b n D) (k : Keep T w w') (hT : ¬ T b) : w'.ownsMap Tryd.prog 9 R b n D := by
  have hlt := h.lt
  obtain ⟨es, c, hb, r⟩ := h
  exact ⟨es, c, (k.block b hlt hT).trans hb, r⟩
theorem MapAt.keep {T : Nat → Prop} (h : MapAt w S m d fb) (k : Keep T w w') (hT : ∀ b, m = some b → S b → MapBlk w b → ¬ T b) : MapAt w' S m d fb := by
  rcases h with h | ⟨b, hm, hs, ho⟩
  · exact .inl h
  · exact .inr ⟨b, hm, hs, owns_keep ho k (hT b hm hs (owns_blk ho))⟩
theorem MapAt.mono {S' : Nat → Prop} (h : MapAt w S m d fb) (hS : ∀ b, b < w.heap.size → S b → S' b) : MapAt w S' m d fb := by
  rcases h with h | ⟨b, hm, hs, ho⟩
  · exact .inl h
  · exact .inr ⟨b, hm, hS b ho.lt hs, ho⟩
theorem MapAt.congr {gb : Nat → Nat} (h : MapAt w S m d fb) (hc : ∀ p ∈ d, fb p.2 = gb p.2) : MapAt w S m d gb := by
  rcases h with h | ⟨b, hm, hs, ho⟩
  · exact .inl h
  · exact .inr ⟨b, hm, hs, by rw [← toD_congr hc]; exact ho⟩
theorem MapAt.nil (w : World) (S : Nat → Prop) (fb : Nat → Nat) : MapAt w S none [] fb := .inl ⟨rfl, rfl⟩
/-- What a look-up answers. -/
def hit (fb : Nat → Nat) : Option Nat → Value
  | some i => .pointer (some ⟨fb i, 0, none⟩)
  | none => .pointer none
theorem MapAt.look (h : MapAt w S m d fb) {A : ByteArray} (hA : A.size ≤ 9223372036854775807) : (Instr.lookup 45 (.map m) (.string A) false).run Tryd.prog w = .ok (hit fb (get d (nm A))) w := by
  have hz : (zeroValue 56).run Tryd.prog w = .ok (.pointer none) w := Tryd.zeroValue56 w
  rcases h with ⟨rfl, rfl⟩ | ⟨b, rfl, _, ho⟩
  · exact Maps.look_nil false keyed9 Tryd.underlying45 hz (key_nm hA)
  · obtain ⟨v, ps, hr, hv⟩ := ho.lookup keyed9 Tryd.underlying45 hz (zd := .nil) (zp := []) rfl (key_nm hA)
    rw [hr]
    rw [toD_at] at hv
    cases hg : get d (nm A) with
    | none => rw [hg] at hv; rw [fileR_nil hv]; rfl
    | some i => rw [hg] at hv; rw [fileR_lit hv]; rfl
theorem MapAt.len (h : MapAt w S m d fb) (ty : TypeId) : (Builtin.len_ #[45] ty #[.map m]).run Tryd.prog w = .ok (.int .i64 (d.length : Int)) w := by
  rcases h with ⟨rfl, rfl⟩ | ⟨b, rfl, _, ho⟩
  · exact Maps.len_nil Tryd.underlying45 ty
  · have := ho.len Tryd.underlying45 ty
    rwa [toD_size] at this
end

/-! ### Rows of the call's own -/
/-- v is nil or a slice at the head of a row of its own, of elements of type e, size cells each; its cells are xs; the row lies in S. -/
def Row (w : World) (S : Nat → Prop) (e : TypeId) (size : Nat) (v : Value) (n : Nat) (xs : List Value) : Prop := w.ownsRow 0 e size v n xs ∧ ∀ b, v.ownBlock = some b → S b
section
variable {w w' : World} {S : Nat → Prop} {e : TypeId} {size : Nat} {v : Value} {n : Nat} {xs : List Value}
theorem owns_at (h : w.ownsRow 0 e size v n xs) {b : Nat} (hb : v.ownBlock = some b) : ∃ cs, At w b e cs := by
  rcases h.2 with ⟨rfl, _⟩ | ⟨g, cap, cur, rfl, _, hg, _⟩
  · cases hb
  · injection hb with hb
    subst hb
    exact ⟨cur, hg⟩
theorem ownsRow_keep {T : Nat → Prop} (h : w.ownsRow 0 e size v n xs) (k : Keep T w w') (hs : ∀ b, v.ownBlock = some b → ¬ T b) : w'.ownsRow 0 e size v n xs := by
  refine ⟨h.1, ?_⟩
  rcases h.2 with h0 | ⟨g, cap, cur, rfl, hb, hg, r⟩
  · exact .inl h0
  · exact .inr ⟨g, cap, cur, rfl, hb, (k.block g (At.lt (t := e) hg) (hs g rfl)).trans hg, r⟩
theorem Row.keep {T : Nat → Prop} (h : Row w S e size v n xs) (k : Keep T w w') (hT : ∀ b cs, S b → At w b e cs → ¬ T b) : Row w' S e size v n xs :=
  ⟨ownsRow_keep h.1 k (fun b hb => by obtain ⟨cs, hc⟩ := owns_at h.1 hb; exact hT b cs (h.2 b hb) hc), h.2⟩
theorem Row.mono {S' : Nat → Prop} (h : Row w S e size v n xs) (hS : ∀ b, b < w.heap.size → S b → S' b) : Row w S' e size v n xs :=
  ⟨h.1, fun b hb => hS b (h.1.lt b hb).2 (h.2 b hb)⟩
theorem Row.nil (w : World) (S : Nat → Prop) (e : TypeId) (size : Nat) : Row w S e size (.slice none 0 0) 0 [] := ⟨World.ownsRow_nil w 0 e size, by simp [Value.ownBlock]⟩
theorem ownsRow_shape (h : w.ownsRow 0 e size v n xs) : ∃ x cap, v = .slice x n cap ∧ n ≤ cap ∧ (n = 0 ∨ ∃ g, x = some ⟨g, 0, none⟩ ∧ v.ownBlock = some g ∧ ∀ j u, xs[j]? = some u → w.cell? ⟨g, j, none⟩ = some u) := by
  rcases h.2 with ⟨rfl, h0⟩ | ⟨g, cap, cur, rfl, _, hg, hnc, hm, hs, ht⟩
  · subst h0; exact ⟨_, _, rfl, Nat.le_refl _, .inl rfl⟩
  · refine ⟨_, _, rfl, hnc, .inr ⟨g, rfl, rfl, fun j u hj => ?_⟩⟩
    rw [cell_of_row w g j cur e (0, 0) hg]
    rw [← ht] at hj
    rw [List.getElem?_take] at hj
    split at hj
    · simpa using hj
    · cases hj
/-- What an append makes. -/
def Up (S : Nat → Prop) (w w' : World) (b : Nat) : Prop := S b ∨ (w.heap.size ≤ b ∧ b < w'.heap.size)
theorem Up.old {w w' : World} {b : Nat} (h : S b) : Up S w w' b := .inl h
end

end Go.Proofs.YtlpeiejohgchmaaDoor.Fs
