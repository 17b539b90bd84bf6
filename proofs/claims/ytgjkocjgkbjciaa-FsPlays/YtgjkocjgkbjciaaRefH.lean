/-
  What the document's 'Do' and 'Crash' return and do.
-/
import Derived.Test.YtgjkocjgkbjciaaRefG
namespace Go.Proofs.Ytgjkocjgkbjciaa.Fs
open Go.RowKit Go.Maps
set_option linter.unusedVariables false
set_option linter.unusedSimpArgs false

theorem refDo (r : Nat) (T : Nat → Prop) (s : St) (hb : s.bulk + 2 ≤ 1000000) (kind num more : Int) (hk1 : 1 ≤ kind) (hk6 : kind ≤ 6) (A B : ByteArray) (hA : A.size ≤ 9223372036854775807) (hB : B.size ≤ 9223372036854775807) (x : Option Addr) (n c : Nat) (data : List Nat) (hn : data.length = n) (hn2 : n ≤ 1000) (P : Nat → Prop) (hPT : ∀ b, P b → ¬ T b) (w : World) (hBy : Bytes P w x data) (h : Ref w T r s) :
    Calls Try.prog 15 #[.pointer (some ⟨r, 0, none⟩), .int .i64 kind, .string A, .string B, .slice x n c] w (RW w T r (doS s ⟨kind, num, more, A, B, data⟩) (doE s ⟨kind, num, more, A, B, data⟩)) := by
  rcases (show kind = 1 ∨ kind = 2 ∨ kind = 3 ∨ kind = 4 ∨ kind = 5 ∨ kind = 6 by omega) with rfl | rfl | rfl | rfl | rfl | rfl
  · exact refCreate r T s hb A B hA _ w h
  · exact refAppend r T s hb A B hA x n c data hn hn2 P hPT w hBy h
  · exact refSync r T s hb A B hA _ w h
  · exact refRename r T s hb A B hA hB _ w h
  · exact refUnlink r T s hb A B hA _ w h
  · exact refDirSync r T s hb A B _ w h

/-! ### Crash -/
theorem Row.cut {w : World} {T : Nat → Prop} {e : TypeId} {size : Nat} {x : Option Addr} {n m cap : Nat} {xs : List Value} (h : Row w T e size (.slice x n cap) n xs) (hm : m < n) : Row w T e size (.slice x m cap) m (xs.take (m * size)) := by
  rcases h.1.2 with ⟨_, h0⟩ | ⟨g, cap', cur, e1, hb, hg, hnc, hmx, hs, ht⟩
  · omega
  · injection e1 with e1 e2 e3
    subst e1
    subst e3
    have hle : m * size ≤ n * size := Nat.mul_le_mul_right _ (by omega)
    refine ⟨⟨?_, .inr ⟨g, cap, cur, rfl, hb, hg, by omega, hmx, hs, ?_⟩⟩, h.2⟩
    · rw [List.length_take, h.1.1]; omega
    · rw [← ht, List.take_take, Nat.min_eq_left hle]
def cutS (s : St) (k : Nat) : St := { s with loose := s.loose.take k }
theorem cut_good {s : St} (h : Good s) (k : Nat) : Good (cutS s k) := by
  refine ⟨h.tidy, h.chain.take k, h.sure, h.byte, h.len, h.room, h.fuse, ?_⟩
  have := h.bulk
  unfold St.bulk at this ⊢
  show s.files.length + s.sure.length + (s.loose.take k).length ≤ 1000000
  simp
  omega
theorem RP.cut {w : World} {T : Nat → Prop} {r k cap : Nat} {x : Option Addr} {s : St} {vs vf : Value} {fl : FL} (h : RP w T r s vs (.slice x s.loose.length cap) vf fl) (hk : k < s.loose.length) : RP (w.setCell ⟨r, 1, none⟩ (.slice x k cap)) T r (cutS s k) vs (.slice x k cap) vf fl := by
  have kp := keep_put (w := w) (r := r) 1 (.slice x k cap)
  have hne : ∀ {t : TypeId} {b : Nat} {cs : Array Value}, t ≠ 31 → At w b t cs → ¬ b = r := fun h1 hb e => by
    subst e
    exact At.ne hb h.fs h1 rfl
  refine ⟨h.fs.put 1 _, h.inT, h.sure.keep kp (fun b cs _ hb => hne (by decide) hb), ?_, h.files.keep kp (fun b cs _ hb => hne (by decide) hb), h.same, fun p hp => ⟨(h.own p hp).1.keep kp (fun b hb => ?_), (h.own p hp).2⟩⟩
  · have := (h.loose.cut hk).keep kp (fun b cs _ hb => hne (by decide) hb)
    show Row _ _ 71 4 _ (s.loose.take k).length (chgCells (s.loose.take k))
    rw [chgCells_take, List.length_take, Nat.min_eq_left (by omega)]
    exact this
  · obtain ⟨cs, h5⟩ := owns_at (h.own p hp).1.1 hb
    exact hne (by decide) h5
/-- The directory is made sure. -/
theorem RP.settle {w w3 : World} {T : Nat → Prop} {r : Nat} {s : St} {vs vl vf u : Value} {fl : FL} (h : RP w T r s vs vl vf fl) (k3 : Keep (fun _ => False) w w3) (hR : ERow w3 (Up T w w3) u (ents s.now)) :
    RP ((w3.setCell ⟨r, 0, none⟩ u).setCell ⟨r, 1, none⟩ (.slice none 0 0)) (Up T w w3) r { s with sure := s.now, loose := [] } u (.slice none 0 0) vf fl ∧ Keep (· = r) w3 ((w3.setCell ⟨r, 0, none⟩ u).setCell ⟨r, 1, none⟩ (.slice none 0 0)) := by
  have hp3 := (h.keep k3 (fun _ _ h => h)).mono (T' := Up T w w3) (fun b _ h => .inl h)
  have kW : Keep (· = r) w3 ((w3.setCell ⟨r, 0, none⟩ u).setCell ⟨r, 1, none⟩ (.slice none 0 0)) :=
    ((Keep.refl (· = r) w3).setCell (p := ⟨r, 0, none⟩) (fun _ => rfl) _).setCell (p := ⟨r, 1, none⟩) (fun _ => rfl) _
  have hr31 : ∀ {t : TypeId} {b : Nat} {cs : Array Value}, t ≠ 31 → At w3 b t cs → ¬ (b = r) := fun h1 hb e => by
    subst e
    exact At.ne hb hp3.fs h1 rfl
  refine ⟨⟨(hp3.fs.put 0 _).put 1 _, hp3.inT, ?_, Row.nil _ _ _ _, ?_, hp3.same, fun p hp => ⟨(hp3.own p hp).1.keep kW (fun b hb => ?_), (hp3.own p hp).2⟩⟩, kW⟩
  · exact hR.keep kW (fun b cs _ hb => hr31 (by decide) hb)
  · exact hp3.files.keep kW (fun b cs _ hb => hr31 (by decide) hb)
  · obtain ⟨cs, h5⟩ := owns_at (hp3.own p hp).1.1 hb
    exact hr31 (by decide) h5
/-- The first i files as a crash leaves them. -/
def kf (fs : List File) (m i : Nat) : List File := fs.mapIdx fun j x => if j < i then keepF x m else x
theorem kf_length (fs : List File) (m i : Nat) : (kf fs m i).length = fs.length := by simp [kf]
theorem kf_zero (fs : List File) (m : Nat) : kf fs m 0 = fs := by
  unfold kf
  apply List.ext_getElem?
  intro j
  rw [List.getElem?_mapIdx]
  cases fs[j]? <;> simp
theorem kf_at {fs : List File} {m i : Nat} {x : File} (h : fs[i]? = some x) : (kf fs m i)[i]? = some x := by simp [kf, h]
theorem kf_succ {fs : List File} {m i : Nat} {x : File} (h : fs[i]? = some x) : (kf fs m i).set i (keepF x m) = kf fs m (i + 1) := by
  have hi := (List.getElem?_eq_some_iff.1 h).1
  apply List.ext_getElem?
  intro j
  rw [List.getElem?_set]
  by_cases hj : i = j
  · subst hj
    rw [if_pos rfl, if_pos (by rw [kf_length]; exact hi)]
    simp [kf, h]
  · rw [if_neg hj]
    unfold kf
    rw [List.getElem?_mapIdx, List.getElem?_mapIdx]
    cases fs[j]? with
    | none => rfl
    | some y =>
      simp only [Option.map_some]
      have : (j < i) ↔ (j < i + 1) := by omega
      simp only [this]
theorem kf_all (fs : List File) (m : Nat) : kf fs m fs.length = fs.map (keepF · m) := by
  apply List.ext_getElem?
  intro j
  unfold kf
  rw [List.getElem?_mapIdx, List.getElem?_map]
  by_cases h : j < fs.length
  · rw [List.getElem?_eq_getElem h]; simp [h]
  · rw [List.getElem?_eq_none (by omega)]; rfl
def kfS (t : St) (m i : Nat) : St := { t with files := kf t.files m i }
theorem kfS_file {t : St} {m i : Nat} (h : i < t.files.length) : (kfS t m i).file i = t.file i := by
  obtain ⟨x, hx⟩ := getElem?_some_lt h
  unfold St.file kfS
  simp only
  rw [List.getD_eq_getElem?_getD, List.getD_eq_getElem?_getD, kf_at hx, hx]
theorem kfS_set {t : St} {m i : Nat} (h : i < t.files.length) : setFile (kfS t m i) i (keepF (t.file i) m) = kfS t m (i + 1) := by
  obtain ⟨x, hx⟩ := getElem?_some_lt h
  have e : t.file i = x := by unfold St.file; rw [List.getD_eq_getElem?_getD, hx]; rfl
  unfold setFile kfS
  simp only
  rw [e, kf_succ hx]
def CrashedR (w : World) (T : Nat → Prop) (r : Nat) (t : St) (e : Ending) (w' : World) : Prop := e = .returned (.tuple #[]) ∧ Ref w' (Up T w w') r t ∧ Keep T w w'

end Go.Proofs.Ytgjkocjgkbjciaa.Fs
