/-
  Several texts in one: ARefA ARefB ARefD ARefC ARefE.
-/
import Derived.Test.YtimoebicacnihaaGreatDoorKg6
import Derived.Laws.IdiomStrings
import Derived.Test.YtimoebicacnihaaGreatDoorKg2
import Derived.Maps.AppendAt
import Derived.OwnWalk
import Derived.Laws.DeepStrings4

section
/-
  The document's letters: plain, Small, Great.
-/
namespace Go.Proofs.YtimoebicacnihaaGreatDoor.Ad
open Go.RowKit
set_option linter.unusedVariables false
set_option linter.unusedSimpArgs false

set_option maxHeartbeats 4000000 in
set_option maxRecDepth 100000 in
theorem plain_walk (c : Int) (w : World) : Calls Tryz.prog 74 #[.int .u8 c] w fun e w' => e = .returned (.bool (plainZ c)) ∧ w' = w := by
  rcases (by omega : c < 48 ∨ 48 ≤ c ∧ c ≤ 57 ∨ 57 < c ∧ c < 65 ∨ 65 ≤ c ∧ c ≤ 90 ∨ 90 < c ∧ c < 97 ∨ 97 ≤ c ∧ c ≤ 122 ∨ 122 < c) with h | h | h | h | h | h | h
  · have hv : plainZ c = false := by simp [plainZ]; omega
    rw [hv]
    have f0 : c < 97 := by omega
    have f1 : c < 65 := by omega
    have f2 : c < 48 := by omega
    have f3 : c ≤ 122 := by omega
    have f4 : c ≤ 90 := by omega
    have f5 : c ≤ 57 := by omega
    clear h
    go_enter Tryz.func74, Tryz.ntmps74
    go_wp2
    go_ret
    first | exact ⟨rfl, rfl⟩ | exact ⟨by simp; omega, rfl⟩
  · have hv : plainZ c = true := by simp [plainZ]; omega
    rw [hv]
    have f0 : c < 97 := by omega
    have f1 : c < 65 := by omega
    have f2 : 48 ≤ c := by omega
    have f3 : c ≤ 122 := by omega
    have f4 : c ≤ 90 := by omega
    have f5 : c ≤ 57 := by omega
    clear h
    go_enter Tryz.func74, Tryz.ntmps74
    go_wp2
    go_ret
    first | exact ⟨rfl, rfl⟩ | exact ⟨by simp; omega, rfl⟩
  · have hv : plainZ c = false := by simp [plainZ]; omega
    rw [hv]
    have f0 : c < 97 := by omega
    have f1 : c < 65 := by omega
    have f2 : 48 ≤ c := by omega
    have f3 : c ≤ 122 := by omega
    have f4 : c ≤ 90 := by omega
    have f5 : 57 < c := by omega
    clear h
    go_enter Tryz.func74, Tryz.ntmps74
    go_wp2
    go_ret
    first | exact ⟨rfl, rfl⟩ | exact ⟨by simp; omega, rfl⟩
  · have hv : plainZ c = true := by simp [plainZ]; omega
    rw [hv]
    have f0 : c < 97 := by omega
    have f1 : 65 ≤ c := by omega
    have f2 : 48 ≤ c := by omega
    have f3 : c ≤ 122 := by omega
    have f4 : c ≤ 90 := by omega
    have f5 : 57 < c := by omega
    clear h
    go_enter Tryz.func74, Tryz.ntmps74
    go_wp2
    go_ret
    first | exact ⟨rfl, rfl⟩ | exact ⟨by simp; omega, rfl⟩
  · have hv : plainZ c = false := by simp [plainZ]; omega
    rw [hv]
    have f0 : c < 97 := by omega
    have f1 : 65 ≤ c := by omega
    have f2 : 48 ≤ c := by omega
    have f3 : c ≤ 122 := by omega
    have f4 : 90 < c := by omega
    have f5 : 57 < c := by omega
    clear h
    go_enter Tryz.func74, Tryz.ntmps74
    go_wp2
    go_ret
    first | exact ⟨rfl, rfl⟩ | exact ⟨by simp; omega, rfl⟩
  · have hv : plainZ c = true := by simp [plainZ]; omega
    rw [hv]
    have f0 : 97 ≤ c := by omega
    have f1 : 65 ≤ c := by omega
    have f2 : 48 ≤ c := by omega
    have f3 : c ≤ 122 := by omega
    have f4 : 90 < c := by omega
    have f5 : 57 < c := by omega
    clear h
    go_enter Tryz.func74, Tryz.ntmps74
    go_wp2
    go_ret
    first | exact ⟨rfl, rfl⟩ | exact ⟨by simp; omega, rfl⟩
  · have hv : plainZ c = false := by simp [plainZ]; omega
    rw [hv]
    have f0 : 97 ≤ c := by omega
    have f1 : 65 ≤ c := by omega
    have f2 : 48 ≤ c := by omega
    have f3 : 122 < c := by omega
    have f4 : 90 < c := by omega
    have f5 : 57 < c := by omega
    clear h
    go_enter Tryz.func74, Tryz.ntmps74
    go_wp2
    go_ret
    first | exact ⟨rfl, rfl⟩ | exact ⟨by simp; omega, rfl⟩

/-! ### A row of bytes that is written into -/
def URow (w : World) (B : Nat) (l : List UInt8) : Prop := ∀ j (hj : j < l.length), w.cell? ⟨B, j, none⟩ = some (.int .u8 ((l[j]'hj).toNat : Int)) ∧ w.frozen? ⟨B, j, none⟩ = false
theorem URow.put {w : World} {B : Nat} {l : List UInt8} (h : URow w B l) (k : Nat) (hk : k < l.length) (c : UInt8) : URow (w.setCell ⟨B, k, none⟩ (.int .u8 (c.toNat : Int))) B (l.set k c) := by
  intro j hj
  rw [List.length_set] at hj
  have hf : (w.setCell ⟨B, k, none⟩ (.int .u8 (c.toNat : Int))).frozen? ⟨B, j, none⟩ = w.frozen? ⟨B, j, none⟩ := World.frozen?_setCell ..
  refine ⟨?_, hf.trans (h j hj).2⟩
  by_cases e : k = j
  · subst e
    rw [World.cell?_setCell_same _ _ _ (h k hk).1]
    simp
  · rw [World.cell?_setCell_other _ _ _ _ (by intro e2; injection e2 with _ e3; exact e e3), (h j hj).1]
    simp [e]
theorem bytes_some (s : ByteArray) (w : World) : ∃ cap w1, (convert 9 23 (.string s)).run Tryz.prog w = .ok (.slice (some ⟨w.heap.size, 0, none⟩) s.size cap) w1 ∧ URow w1 w.heap.size s.data.toList ∧ Below w.heap.size w w1 := by
  refine ⟨_, _, run_bytes_of_string w 9 23 5 s Tryz.underlying9 Tryz.underlying23 Tryz.underlying5, ?_, ?_⟩
  · intro j hj
    generalize grownCap w s.size 0 5 = cap
    have hj' : j < s.size := by rw [len_size] at hj; exact hj
    have hsz : s.size ≤ (bytesRow s cap).size := by
      simp [bytesRow]
    have e0 : (bytesRow s cap)[j]? = some (.int .u8 ((s.data.toList[j]'hj).toNat : Int)) := by
      unfold bytesRow
      rw [Array.getElem?_append_left (by simpa using hj')]
      have hj2 : j < s.data.size := hj'
      simp only [Array.getElem?_map, Array.getElem?_eq_getElem hj2, Option.map_some]
      rfl
    have eh : (w.drew.alloc (.cells (bytesRow s cap) 5 ((bytesRow s cap).size, (bytesRow s cap).size + 1))).heap[w.heap.size]? = some (.cells (bytesRow s cap) 5 ((bytesRow s cap).size, (bytesRow s cap).size + 1)) := by
      show (w.heap.push _)[w.heap.size]? = _
      simp
    constructor
    · unfold World.cell?
      simp only [eh]
      simpa using e0
    · unfold World.frozen?
      simp only [eh]
      simp
      omega
  · exact (Below.refl _ w).drew.alloc (Nat.le_refl _) _
theorem bytes_back (w : World) (B cap : Nat) (l : List UInt8) (h : URow w B l) : (convert 23 9 (.slice (some ⟨B, 0, none⟩) l.length cap)).run Tryz.prog w = .ok (.string (bs l)) w :=
  run_convert_bytes_back w 23 9 5 ⟨B, 0, none⟩ cap l Tryz.underlying23 Tryz.underlying5 Tryz.underlying9 (fun j hj => by
    rw [show (⟨B, 0, none⟩ : Addr).add j = ⟨B, j, none⟩ by unfold Addr.add; split <;> simp_all]
    exact (h j hj).1)

/-! ### Small, Great -/
def mix (f : UInt8 → UInt8) (k : Nat) (l : List UInt8) : List UInt8 := (l.take k).map f ++ l.drop k
theorem mix_length (f : UInt8 → UInt8) (k : Nat) (l : List UInt8) : (mix f k l).length = l.length := by
  simp [mix]
  omega
theorem mix_at (f : UInt8 → UInt8) {k : Nat} {l : List UInt8} (h : k < l.length) : (mix f k l)[k]'(by rw [mix_length]; exact h) = l[k] := by
  unfold mix
  rw [List.getElem_append_right (by rw [List.length_map, List.length_take]; omega)]
  simp [Nat.min_eq_left (Nat.le_of_lt h)]
theorem mix_next (f : UInt8 → UInt8) {k : Nat} {l : List UInt8} (h : k < l.length) : mix f (k + 1) l = (mix f k l).set k (f l[k]) := by
  unfold mix
  rw [List.take_succ_eq_append_getElem h, List.map_append, List.set_append_right _ _ (by rw [List.length_map, List.length_take]; omega), List.drop_eq_getElem_cons h, show k - ((l.take k).map f).length = 0 by rw [List.length_map, List.length_take]; omega, List.append_assoc]
  rfl
theorem mix_same (f : UInt8 → UInt8) {k : Nat} {l : List UInt8} (h : k < l.length) (e : f l[k] = l[k]) : mix f (k + 1) l = mix f k l := by
  unfold mix
  rw [List.take_succ_eq_append_getElem h, List.map_append, List.drop_eq_getElem_cons h, List.append_assoc]
  show _ ++ f l[k] :: _ = _
  rw [e]
  rfl

theorem lower_in (c : UInt8) (h1 : 65 ≤ c.toNat) (h2 : c.toNat ≤ 90) : (lower c).toNat = c.toNat + 32 := by
  have h := lower_nat c (by omega)
  rw [show greatZ c.toNat = true by simp [greatZ]; omega] at h
  simp only [if_true] at h
  omega
theorem lower_out (c : UInt8) (h : ¬ (65 ≤ c.toNat ∧ c.toNat ≤ 90)) : lower c = c := by
  unfold lower
  rw [if_neg (by simp [greatZ]; omega)]
theorem upper_in (c : UInt8) (h1 : 97 ≤ c.toNat) (h2 : c.toNat ≤ 122) : (upper c).toNat = c.toNat - 32 := by
  unfold upper
  rw [if_pos (by simp; omega), UInt8.toNat_sub]
  simp
  omega
theorem upper_out (c : UInt8) (h : ¬ (97 ≤ c.toNat ∧ c.toNat ≤ 122)) : upper c = c := by
  unfold upper
  rw [if_neg (by simp; omega)]

set_option maxHeartbeats 4000000 in
set_option maxRecDepth 100000 in
theorem refSmall_walk (s : ByteArray) (hs : s.size ≤ 9223372036854775807) (w : World) : Calls Tryz.prog 69 #[.string s] w fun e w' => e = .returned (.string (bs (s.data.toList.map lower))) ∧ Below w.heap.size w w' := by
  obtain ⟨cap, w1, hconv, hrow, hb1⟩ := bytes_some s w
  have hlen := len_size s
  obtain ⟨l, hl⟩ : ∃ l, s.data.toList = l := ⟨_, rfl⟩
  rw [hl] at hrow hlen ⊢
  clear hl
  obtain ⟨n, hn⟩ : ∃ n, s.size = n := ⟨_, rfl⟩
  rw [hn] at hconv hlen hs
  obtain ⟨B, hB⟩ : ∃ B, w.heap.size = B := ⟨_, rfl⟩
  have hBw : B ≤ w.heap.size := by omega
  rw [hB] at hconv hrow hb1 ⊢
  go_enter Tryz.func69, Tryz.ntmps69
  go_wp2
  go_loopw [4] (fun z wr => ∃ k : Nat, k ≤ n ∧ z = .int .i64 (k : Int) ∧ URow wr B (mix lower k l) ∧ Below B w wr) (fun z _ => n - (Lib.intOf z).toNat)
  case atStart => exact ⟨0, by omega, rfl, by simpa [mix] using hrow, hb1⟩
  case round =>
    obtain ⟨k, hk, rfl, hR, hbr⟩ := hrel
    have hml := mix_length lower k l
    by_cases hlt : (k : Int) < (n : Int)
    · have hkl : k < l.length := by omega
      obtain ⟨hc, hf⟩ := hR k (by omega)
      rw [mix_at lower hkl] at hc
      have hput := fun c => hR.put k (by omega) c
      have hnext := mix_next lower hkl
      have hsame := mix_same lower hkl
      have hlt8 := l[k].toNat_lt
      obtain ⟨c, hcq⟩ : ∃ c, l[k] = c := ⟨_, rfl⟩
      rw [hcq] at hc hnext hsame hlt8
      clear hcq
      by_cases h1 : 65 ≤ (c.toNat : Int)
      · by_cases h2 : (c.toNat : Int) ≤ 90
        · have hfc : (lower c).toNat = c.toNat + 32 := lower_in c (by omega) (by omega)
          have hput1 := hput (lower c)
          rw [← hnext] at hput1
          have hv : ((lower c).toNat : Int) = (c.toNat : Int) + 32 := by omega
          rw [hv] at hput1
          have hbr2 := hbr.setCell (p := ⟨B, k, none⟩) (Nat.le_refl _) (.int .u8 ((c.toNat : Int) + 32))
          clear hput hnext hsame hR hv hfc
          go_wp2
          go_roundw
          case rel => exact ⟨k + 1, by omega, by simp, hput1, hbr2⟩
          case measure =>
            simp [Lib.intOf]
            omega
        · have hfc : lower c = c := lower_out c (by omega)
          rw [← hsame hfc] at hR
          clear hput hnext hsame
          go_wp2
          go_roundw
          case rel => exact ⟨k + 1, by omega, by simp, hR, hbr⟩
          case measure =>
            simp [Lib.intOf]
            omega
      · have hfc : lower c = c := lower_out c (by omega)
        rw [← hsame hfc] at hR
        clear hput hnext hsame
        go_wp2
        go_roundw
        case rel => exact ⟨k + 1, by omega, by simp, hR, hbr⟩
        case measure =>
          simp [Lib.intOf]
          omega
    · have hkn : k = n := by omega
      have hmx : mix lower k l = l.map lower := by
        unfold mix
        rw [List.take_of_length_le (by omega), List.drop_of_length_le (by omega), List.append_nil]
      rw [hmx] at hR
      have hback := bytes_back wr B cap (l.map lower) hR
      rw [List.length_map, hlen] at hback
      go_wp2
      go_ret
      exact ⟨rfl, hbr⟩

end Go.Proofs.YtimoebicacnihaaGreatDoor.Ad
end

section
/-
  The document's Cut.
-/
namespace Go.Proofs.YtimoebicacnihaaGreatDoor.Ad
open Go.RowKit Go.Maps
set_option linter.unusedVariables false
set_option linter.unusedSimpArgs false

theorem info9 : (Tryz.prog.info? 9).map (fun i => (i.zero, i.size, i.bytes)) = some (some (.string ByteArray.empty), 1, 16) := by kernel_rfl
theorem extract_bs (s : ByteArray) (a b : Nat) : s.extract a b = bs ((s.data.toList.drop a).take (b - a)) := by
  apply ByteArray.ext
  rw [ByteArray.data_extract]
  apply Array.ext'
  simp [bs]

/-- What Cut has laid, at the byte k. -/
def CutAt (c : UInt8) (l : List UInt8) (k at' : Nat) (done : List (List UInt8)) : Prop :=
  done.length ≤ k ∧ (if k ≤ l.length then at' ≤ k ∧ cuts c l = done ++ cuts c (l.drop at') ∧ c ∉ (l.drop at').take (k - at') else cuts c l = done)
theorem CutAt.start (c : UInt8) (l : List UInt8) : CutAt c l 0 0 [] := by
  refine ⟨Nat.le_refl _, ?_⟩
  rw [if_pos (Nat.zero_le _)]
  exact ⟨Nat.le_refl _, rfl, by simp⟩
theorem CutAt.hit {c : UInt8} {l : List UInt8} {k a : Nat} {d : List (List UInt8)} (h : CutAt c l k a d) (hk : k < l.length) (e : l[k] = c) : a ≤ k ∧ CutAt c l (k + 1) (k + 1) (d ++ [(l.drop a).take (k - a)]) := by
  obtain ⟨h0, h⟩ := h
  rw [if_pos (by omega)] at h
  obtain ⟨h1, h2, h3⟩ := h
  refine ⟨h1, by simp; omega, ?_⟩
  rw [if_pos (by omega)]
  refine ⟨Nat.le_refl _, ?_, by simp⟩
  have hi : k - a < (l.drop a).length := by rw [List.length_drop]; omega
  rw [h2, cuts_hit c hi (by rw [List.getElem_drop]; simp only [show a + (k - a) = k by omega]; exact e) h3, List.drop_drop, show a + (k - a + 1) = k + 1 by omega]
  simp
theorem CutAt.miss {c : UInt8} {l : List UInt8} {k a : Nat} {d : List (List UInt8)} (h : CutAt c l k a d) (hk : k < l.length) (e : l[k] ≠ c) : CutAt c l (k + 1) a d := by
  obtain ⟨h0, h⟩ := h
  rw [if_pos (by omega)] at h
  obtain ⟨h1, h2, h3⟩ := h
  refine ⟨by omega, ?_⟩
  rw [if_pos (by omega)]
  refine ⟨by omega, h2, ?_⟩
  have hi : k - a < (l.drop a).length := by rw [List.length_drop]; omega
  rw [show k + 1 - a = (k - a) + 1 by omega, List.take_succ_eq_append_getElem hi]
  simp only [List.mem_append, List.mem_singleton, not_or]
  refine ⟨h3, ?_⟩
  rw [List.getElem_drop]
  simp only [show a + (k - a) = k by omega]
  exact fun e2 => e e2.symm
theorem CutAt.last {c : UInt8} {l : List UInt8} {a : Nat} {d : List (List UInt8)} (h : CutAt c l l.length a d) : a ≤ l.length ∧ CutAt c l (l.length + 1) (l.length + 1) (d ++ [(l.drop a).take (l.length - a)]) := by
  obtain ⟨h0, h⟩ := h
  rw [if_pos (by omega)] at h
  obtain ⟨h1, h2, h3⟩ := h
  refine ⟨h1, by simp; omega, ?_⟩
  rw [if_neg (by omega)]
  have e : (l.drop a).take (l.length - a) = l.drop a := List.take_of_length_le (by rw [List.length_drop]; omega)
  rw [e] at h3 ⊢
  rw [h2, cuts_miss c h3]
theorem CutAt.done {c : UInt8} {l : List UInt8} {k a : Nat} {d : List (List UInt8)} (h : CutAt c l k a d) (hk : l.length < k) : cuts c l = d := by
  obtain ⟨h0, h⟩ := h
  rw [if_neg (by omega)] at h
  exact h

theorem get_list' (s : ByteArray) (k : Nat) (h : k < s.size) : s.data.toList[k]'(by rw [len_size]; exact h) = s[k]'h := by simp [ByteArray.getElem_eq_getElem_data]
/-- A row of texts. -/
def Texts (w : World) (v : Value) (L : List (List UInt8)) : Prop := ∃ g cap, v = .slice (some ⟨g, 0, none⟩) L.length cap ∧ L.length ≤ cap ∧ g < w.heap.size ∧ ∀ k (hk : k < L.length), w.cell? ⟨g, k, none⟩ = some (.string (bs (L[k]'hk)))
def strs (L : List (List UInt8)) : List Value := L.map fun l => .string (bs l)
theorem texts_of {w : World} {B : Nat} {v : Value} {L : List (List UInt8)} (h : w.ownsRow B 9 1 v L.length (strs L)) (hne : L ≠ []) : Texts w v L := by
  have hlt := h.lt
  have hcell := @World.ownsRow.cells _ _ _ _ _ _ _ h
  rcases h.2 with ⟨_, h0⟩ | ⟨g, cap, cur, hv, _, _, hle, _⟩
  · exact absurd (List.eq_nil_of_length_eq_zero h0) hne
  · subst hv
    refine ⟨g, cap, rfl, hle, (hlt g rfl).2, fun k hk => ?_⟩
    have := hcell (g := g) rfl k (.string (bs (L[k]'hk))) (by simp [strs, hk])
    rw [show (⟨g, 0, none⟩ : Addr).add k = ⟨g, k, none⟩ by unfold Addr.add; split <;> simp_all] at this
    exact this

set_option maxHeartbeats 1000000 in
set_option maxRecDepth 100000 in
theorem refCut_walk (s : ByteArray) (c : UInt8) (hs : s.size ≤ 100000) (w : World) : Calls Tryz.prog 75 #[.string s, .int .u8 (c.toNat : Int)] w fun e w' => ∃ v, e = .returned v ∧ Texts w' v (cuts c s.data.toList) ∧ Below w.heap.size w w' := by
  obtain ⟨i0, hi, hz0, hz1, hz2⟩ := info_parts info9
  have hlen := len_size s
  obtain ⟨n, hn⟩ : ∃ n, s.size = n := ⟨_, rfl⟩
  obtain ⟨cc, hcq⟩ : ∃ cc : Int, (c.toNat : Int) = cc := ⟨_, rfl⟩
  rw [hcq]
  have HQ := Lib.hid hcq
  clear hcq
  go_enter Tryz.func75, Tryz.ntmps75
  go_wp2
  go_loopw [5, 6, 7] (fun v x z wr => ∃ (k a : Nat) (d : List (List UInt8)) (ao : Option Addr) (cv : Nat), k ≤ n + 1 ∧ z = .int .i64 (k : Int) ∧ x = .int .i64 (a : Int) ∧ v = .slice ao d.length cv ∧ Hid (CutAt c s.data.toList k a d) ∧ Hid (wr.ownsRow w.heap.size 9 1 v d.length (strs d)) ∧ Hid (Below w.heap.size w wr)) (fun _ _ z _ => n + 1 - (Lib.intOf z).toNat)
  case atStart => exact ⟨0, 0, [], none, 0, by omega, rfl, rfl, rfl, CutAt.start _ _, World.ownsRow_nil _ _ _ _, Below.refl _ _⟩
  case round =>
    obtain ⟨k, a, d, ao, cv, hk, rfl, rfl, rfl, HC, HO, HB⟩ := hrel
    have hsize := (show Below w.heap.size w wr from HB).size
    have hdl := (show CutAt c s.data.toList k a d from HC).1
    by_cases hle : (k : Int) ≤ (n : Int)
    · by_cases he : (k : Int) = (n : Int)
      · obtain rfl : k = n := by omega
        have hx : a ≤ k ∧ CutAt c s.data.toList (k + 1) (k + 1) (d ++ [(s.data.toList.drop a).take (k - a)]) := by
          have := (show CutAt c s.data.toList s.data.toList.length a d by rw [hlen, hn]; exact HC).last
          rw [hlen, hn] at this
          exact this
        obtain ⟨hak, hc2⟩ := hx
        have HC2 := Lib.hid hc2
        clear hc2
        go_wp2_with (at_builtin; refine wpList_append_own _ rfl _ _ 22 rfl w.heap.size 9 i0 (.string ByteArray.empty) 1 16 Tryz.underlying22 hi hz0 hz1 hz2 rfl (by decide) _ _ _ rfl (World.ownsRow.alloc HO _) ⟨wr.heap.size, 0, none⟩ 1 1 [.string (s.extract a k)] rfl rfl (cell_one_new _ _ _) (fun x hx => by simp at hx; subst hx; rfl) (by unfold maxLen; omega) (by omega) (by simp; omega) ?_; intro v' w3 hown' hgrow3 hnil3)
        obtain ⟨g3, cap3, hv3⟩ : ∃ g3 cap3, v' = .slice (some ⟨g3, 0, none⟩) (d.length + 1) cap3 := by
          rcases hown'.2 with ⟨_, h⟩ | ⟨g3, cap3, _, h, _⟩
          · omega
          · exact ⟨g3, cap3, h⟩
        subst hv3
        have HO2 : Hid (w3.ownsRow w.heap.size 9 1 (.slice (some ⟨g3, 0, none⟩) (d.length + 1) cap3) (d.length + 1) (strs (d ++ [(s.data.toList.drop a).take (k - a)]))) := by
          show World.ownsRow _ _ _ _ _ _ _
          rw [strs, List.map_append, List.map_cons, List.map_nil, ← extract_bs]
          exact hown'
        have HB2 : Hid (Below w.heap.size w w3) := ((show Below w.heap.size w wr from HB).alloc hsize _).grown hgrow3 (by simp; omega) (fun q hq => (World.ownsRow.lt (show wr.ownsRow w.heap.size 9 1 _ _ _ from HO) q hq).1)
        clear hown' hgrow3 hnil3
        go_wp2
        go_roundw
        case rel =>
          exact ⟨k + 1, k + 1, d ++ [(s.data.toList.drop a).take (k - a)], some ⟨g3, 0, none⟩, cap3, by omega, by simp, by simp, by simp, HC2, by simpa using HO2, HB2⟩
        case measure =>
          first | (simp [Lib.intOf]; done) | (simp [Lib.intOf]; omega)
      · have hp : k < s.size := by omega
        have hkl : k < s.data.toList.length := by omega
        have hg := get_list' s k hp
        by_cases hcc : ((s[k]'hp).toNat : Int) = cc
        · have hx := (show CutAt c s.data.toList k a d from HC).hit hkl (by rw [hg]; have := HQ.out; exact UInt8.toNat_inj.1 (by omega))
          obtain ⟨hak, hc2⟩ := hx
          have HC2 := Lib.hid hc2
          clear hc2
          go_wp2_with (at_builtin; refine wpList_append_own _ rfl _ _ 22 rfl w.heap.size 9 i0 (.string ByteArray.empty) 1 16 Tryz.underlying22 hi hz0 hz1 hz2 rfl (by decide) _ _ _ rfl (World.ownsRow.alloc HO _) ⟨wr.heap.size, 0, none⟩ 1 1 [.string (s.extract a k)] rfl rfl (cell_one_new _ _ _) (fun x hx => by simp at hx; subst hx; rfl) (by unfold maxLen; omega) (by omega) (by simp; omega) ?_; intro v' w3 hown' hgrow3 hnil3)
          obtain ⟨g3, cap3, hv3⟩ : ∃ g3 cap3, v' = .slice (some ⟨g3, 0, none⟩) (d.length + 1) cap3 := by
            rcases hown'.2 with ⟨_, h⟩ | ⟨g3, cap3, _, h, _⟩
            · omega
            · exact ⟨g3, cap3, h⟩
          subst hv3
          have HO2 : Hid (w3.ownsRow w.heap.size 9 1 (.slice (some ⟨g3, 0, none⟩) (d.length + 1) cap3) (d.length + 1) (strs (d ++ [(s.data.toList.drop a).take (k - a)]))) := by
            show World.ownsRow _ _ _ _ _ _ _
            rw [strs, List.map_append, List.map_cons, List.map_nil, ← extract_bs]
            exact hown'
          have HB2 : Hid (Below w.heap.size w w3) := ((show Below w.heap.size w wr from HB).alloc hsize _).grown hgrow3 (by simp; omega) (fun q hq => (World.ownsRow.lt (show wr.ownsRow w.heap.size 9 1 _ _ _ from HO) q hq).1)
          clear hown' hgrow3 hnil3
          go_wp2
          go_roundw
          case rel =>
            exact ⟨k + 1, k + 1, d ++ [(s.data.toList.drop a).take (k - a)], some ⟨g3, 0, none⟩, cap3, by omega, by simp, by simp, by simp, HC2, by simpa using HO2, HB2⟩
          case measure =>
            first | (simp [Lib.intOf]; done) | (simp [Lib.intOf]; omega)
        · have HC2 := Lib.hid ((show CutAt c s.data.toList k a d from HC).miss hkl (by rw [hg]; exact fun e => hcc (by rw [e]; exact HQ.out)))
          have b1 : ((k : Int) == (n : Int)) = false := beq_eq_false_iff_ne.2 he
          have b2 : (((s[k]'hp).toNat : Int) == cc) = false := beq_eq_false_iff_ne.2 hcc
          go_wp2
          go_roundw
          case rel => exact ⟨k + 1, a, d, ao, cv, by omega, by simp, rfl, rfl, HC2, HO, HB⟩
          case measure =>
            first | (simp [Lib.intOf]; done) | (simp [Lib.intOf]; omega)
    · have hdone := (show CutAt c s.data.toList k a d from HC).done (by omega)
      have hT : Texts wr (.slice ao d.length cv) d := texts_of HO (by rw [← hdone]; exact cuts_ne _ _)
      have HE := Lib.hid hdone
      have HT := Lib.hid hT
      clear hdone hT
      go_wp2
      go_ret
      have hdone := HE.out
      rw [hdone]
      exact ⟨_, rfl, HT, HB⟩
end Go.Proofs.YtimoebicacnihaaGreatDoor.Ad
end

section
/-
  The document's Local.
-/
namespace Go.Proofs.YtimoebicacnihaaGreatDoor.Ad
open Go.RowKit
set_option linter.unusedVariables false
set_option linter.unusedSimpArgs false

theorem good_point {l : List UInt8} {k : Nat} (hk : k < l.length) (e : l[k] = 46) : goodAt l k = !edge l k := by
  unfold goodAt
  rw [at0_lt hk, e]
  simp
  intro
  decide
theorem good_other {l : List UInt8} {k : Nat} (hk : k < l.length) (e : l[k] ≠ 46) : goodAt l k = (plain l[k] || sgn.contains l[k]) := by
  unfold goodAt
  rw [at0_lt hk, beq_eq_false_iff_ne.2 e]
  simp
theorem get_list (s : ByteArray) (k : Nat) (h : k < s.size) : s.data.toList[k]'(by rw [len_size]; exact h) = s[k]'h := by simp [ByteArray.getElem_eq_getElem_data]
theorem byte_ne {c : UInt8} {n : Nat} (hn : n < 256) (h : ¬ ((c.toNat : Int) = (n : Int))) : c ≠ UInt8.ofNat n := by
  rintro rfl
  apply h
  rw [UInt8.toNat_ofNat']
  omega
theorem byte_eq {c : UInt8} {n : Nat} (hn : n < 256) (h : (c.toNat : Int) = (n : Int)) : c = UInt8.ofNat n := by
  apply UInt8.toNat_inj.1
  rw [UInt8.toNat_ofNat']
  omega

set_option maxHeartbeats 1000000 in
set_option maxRecDepth 100000 in
theorem refLocal_walk (s : ByteArray) (hs : s.size ≤ 100000) (w : World) : Calls Tryz.prog 67 #[.string s] w fun e w' => e = .returned (.bool (loc s.data.toList)) ∧ w' = w := by
  have hlen := len_size s
  obtain ⟨D, hD⟩ : ∃ D, loc s.data.toList = D := ⟨_, rfl⟩
  rw [hD]
  have HD := Lib.hid hD
  clear hD
  obtain ⟨n, hn⟩ : ∃ n, s.size = n := ⟨_, rfl⟩
  go_enter Tryz.func67, Tryz.ntmps67
  go_wp2
  go_loopw [3] (fun z wr => ∃ k : Nat, k ≤ n ∧ z = .int .i64 (k : Int) ∧ wr = w ∧ Hid (∀ j, j < k → goodAt s.data.toList j = true)) (fun z _ => n - (Lib.intOf z).toNat)
  case atStart => exact ⟨0, by omega, rfl, rfl, fun j hj => absurd hj (Nat.not_lt_zero _)⟩
  case round =>
    obtain ⟨k, hk, rfl, rfl, HG⟩ := hrel
    by_cases hlt : (k : Int) < (n : Int)
    · have hp : k < s.size := by omega
      have hkl : k < s.data.toList.length := by omega
      have hg := get_list s k hp
      have hstep : goodAt s.data.toList k = true → Hid (∀ j, j < k + 1 → goodAt s.data.toList j = true) := fun h j hj => by
        rcases Nat.lt_or_ge j k with h1 | h1
        · exact HG j h1
        · rw [show j = k by omega]; exact h
      have hfail : goodAt s.data.toList k = false → D = false := fun h => HD.out.symm.trans (loc_false hkl h)
      have hpt := good_point hkl
      have hot := good_other hkl
      rw [hg] at hpt hot
      have hprev : 0 < k → at0 s.data.toList (k - 1) = s[k - 1]'(by omega) := fun h => by
        rw [at0_lt (by omega)]
        exact get_list s (k - 1) (by omega)
      by_cases h46 : ((s[k]'hp).toNat : Int) = 46
      · have hG := hpt (byte_eq (n := 46) (by decide) h46)
        clear hpt hot
        by_cases h0 : (k : Int) = 0
        · have hDf : D = false := hfail (by rw [hG, edge, decide_eq_true (by omega)]; rfl)
          subst hDf
          clear hstep hfail hprev HG HD
          obtain rfl : k = 0 := by omega
          go_wp2
          go_ret
          exact ⟨rfl, rfl⟩
        · by_cases h1 : (k : Int) = (n : Int) - 1
          · have hDf : D = false := hfail (by rw [hG, edge, decide_eq_true (show k + 1 = s.data.toList.length by omega)]; simp)
            subst hDf
            clear hstep hfail hprev HG HD
            obtain rfl : n = k + 1 := by omega
            clear h1
            go_wp2
            go_ret
            exact ⟨rfl, rfl⟩
          · have hpv := hprev (by omega)
            have hp1 : k - 1 < s.size := by omega
            by_cases h2 : ((s[k - 1]'hp1).toNat : Int) = 46
            · have hDf : D = false := hfail (by rw [hG, edge, hpv, byte_eq (n := 46) (by decide) h2]; simp)
              subst hDf
              clear hstep hfail hprev HG HD
              have hkk : ((k - 1 : Nat) : Int) = (k : Int) - 1 := by omega
              go_wp2
              go_ret
              exact ⟨rfl, rfl⟩
            · have hGt := hstep (by
                rw [hG, edge, hpv, decide_eq_false (by omega), decide_eq_false (by omega), show (s[k - 1]'hp1 == 46) = false from beq_eq_false_iff_ne.2 (byte_ne (n := 46) (by decide) h2)]
                rfl)
              clear hstep hfail hprev
              have hkk : ((k - 1 : Nat) : Int) = (k : Int) - 1 := by omega
              have b0 : ((k : Int) == 0) = false := beq_eq_false_iff_ne.2 h0
              have b1 : ((k : Int) == (n : Int) - 1) = false := beq_eq_false_iff_ne.2 h1
              have b2 : (((s[k - 1]'hp1).toNat : Int) == 46) = false := beq_eq_false_iff_ne.2 h2
              go_wp2_with (go_at_call 74; refine (plain_walk _ _).mono ?_; rintro e w1 ⟨rfl, rfl⟩)
              go_roundw
              case rel => exact ⟨k + 1, by omega, by simp, trivial, hGt⟩
              case measure =>
                simp [Lib.intOf]
                omega
      · have hG := hot (byte_ne (n := 46) (by decide) h46)
        clear hpt hot
        have b46 : (((s[k]'hp).toNat : Int) == 46) = false := beq_eq_false_iff_ne.2 h46
        have q46 : (((s[k]'hp).toNat : Int) != 46) = true := bne_iff_ne.2 h46
        cases hpl : plainZ ((s[k]'hp).toNat : Int) with
        | true =>
          have hGt := hstep (by rw [hG, show plain (s[k]'hp) = true from hpl, Bool.true_or])
          clear hstep hfail hprev
          go_wp2_with (go_at_call 74; refine (plain_walk _ _).mono ?_; rintro e w1 ⟨rfl, rfl⟩; rw [hpl])
          go_roundw
          case rel => exact ⟨k + 1, by omega, by simp, trivial, hGt⟩
          case measure =>
            simp [Lib.intOf]
            omega
        | false =>
          by_cases hsg : ((s[k]'hp).toNat : Int) = 95 ∨ ((s[k]'hp).toNat : Int) = 43 ∨ ((s[k]'hp).toNat : Int) = 45
          · have hGt := hstep (by
              rw [hG]
              rcases hsg with h | h | h
              · rw [byte_eq (n := 95) (by decide) h]; decide
              · rw [byte_eq (n := 43) (by decide) h]; decide
              · rw [byte_eq (n := 45) (by decide) h]; decide)
            clear hstep hfail hprev
            rcases hsg with h | h | h
            · go_wp2_with (go_at_call 74; refine (plain_walk _ _).mono ?_; rintro e w1 ⟨rfl, rfl⟩; rw [show plainZ 95 = false by decide])
              go_roundw
              case rel => exact ⟨k + 1, by omega, by simp, trivial, hGt⟩
              case measure =>
                simp [Lib.intOf]
                omega
            · go_wp2_with (go_at_call 74; refine (plain_walk _ _).mono ?_; rintro e w1 ⟨rfl, rfl⟩; rw [show plainZ 43 = false by decide])
              go_roundw
              case rel => exact ⟨k + 1, by omega, by simp, trivial, hGt⟩
              case measure =>
                simp [Lib.intOf]
                omega
            · go_wp2_with (go_at_call 74; refine (plain_walk _ _).mono ?_; rintro e w1 ⟨rfl, rfl⟩; rw [show plainZ 45 = false by decide])
              go_roundw
              case rel => exact ⟨k + 1, by omega, by simp, trivial, hGt⟩
              case measure =>
                simp [Lib.intOf]
                omega
          · have n1 : ¬ ((s[k]'hp).toNat : Int) = 95 := fun h => hsg (.inl h)
            have n2 : ¬ ((s[k]'hp).toNat : Int) = 43 := fun h => hsg (.inr (.inl h))
            have n3 : ¬ ((s[k]'hp).toNat : Int) = 45 := fun h => hsg (.inr (.inr h))
            clear hsg
            have q1 : (((s[k]'hp).toNat : Int) != 95) = true := bne_iff_ne.2 n1
            have q2 : (((s[k]'hp).toNat : Int) != 43) = true := bne_iff_ne.2 n2
            have q3 : (((s[k]'hp).toNat : Int) != 45) = true := bne_iff_ne.2 n3
            have hDf : D = false := hfail (by
              rw [hG, show plain (s[k]'hp) = false from hpl, Bool.false_or]
              have e0 := byte_ne (n := 46) (by decide) h46
              have e1 := byte_ne (n := 95) (by decide) n1
              have e2 := byte_ne (n := 43) (by decide) n2
              have e3 := byte_ne (n := 45) (by decide) n3
              simp only [sgn, List.contains_cons, List.contains_nil, Bool.or_false, Bool.or_eq_false_iff, beq_eq_false_iff_ne]
              exact ⟨e0, e1, e2, e3⟩)
            subst hDf
            clear hstep hfail hprev HG HD
            go_wp2_with (go_at_call 74; refine (plain_walk _ _).mono ?_; rintro e w1 ⟨rfl, rfl⟩; rw [hpl])
            go_ret
            exact ⟨rfl, rfl⟩
    · have hkn : k = n := by omega
      have hDf : D = fits s.data.toList := HD.out.symm.trans (loc_all (fun j hj => HG j (by omega)))
      have hfl : fits s.data.toList = (decide (1 ≤ n) && decide (n ≤ 32)) := by rw [fits, hlen, hn]
      rw [hfl] at hDf
      subst hDf
      clear HG HD
      by_cases h1 : (1 : Int) ≤ (n : Int)
      · go_wp2
        go_ret
        refine ⟨?_, rfl⟩
        rw [decide_eq_true (show 1 ≤ n by omega), Bool.true_and]
        simp
        omega
      · go_wp2
        go_ret
        refine ⟨?_, rfl⟩
        rw [decide_eq_false (show ¬ 1 ≤ n by omega), Bool.false_and]
        simp
end Go.Proofs.YtimoebicacnihaaGreatDoor.Ad
end

section
/-
  The document's Domain.
-/
namespace Go.Proofs.YtimoebicacnihaaGreatDoor.Ad
open Go.RowKit
set_option linter.unusedVariables false
set_option linter.unusedSimpArgs false

theorem bs_get (l : List UInt8) (k : Nat) (h : k < (bs l).size) : (bs l)[k]'h = l[k]'(by rw [bs_size] at h; exact h) := by
  have := get_list (bs l) k h
  simp only [bs_data] at this
  exact this.symm
theorem label_short {l : List UInt8} (h : l.length < 1 ∨ 32 < l.length) : label l = false := by
  rw [label, fits]
  rcases h with h | h
  · rw [decide_eq_false (show ¬ 1 ≤ l.length by omega)]; rfl
  · rw [decide_eq_false (show ¬ l.length ≤ 32 by omega), Bool.and_false]; rfl
theorem label_first {l : List UInt8} (h0 : 0 < l.length) (h : l[0] = 45) : label l = false := by
  rw [label_eq, at0_lt h0, h]
  simp
theorem label_last {l : List UInt8} (h0 : l.length - 1 < l.length) (h : l[l.length - 1] = 45) : label l = false := by
  rw [label_eq, at0_lt h0, h]
  simp
theorem label_bad {l : List UInt8} {k : Nat} (hk : k < l.length) (h : okLab l[k] = false) : label l = false := by
  rw [label_eq, show l.all okLab = false from List.all_eq_false.2 ⟨_, List.getElem_mem hk, by rw [h]; decide⟩]
  simp
theorem label_good {l : List UInt8} (h1 : 1 ≤ l.length) (h2 : l.length ≤ 32) (ha : l[0] ≠ 45) (hb : l[l.length - 1] ≠ 45) (h : ∀ k (hk : k < l.length), okLab l[k] = true) : label l = true := by
  rw [label_eq, at0_lt (by omega), at0_lt (by omega), beq_eq_false_iff_ne.2 ha, beq_eq_false_iff_ne.2 hb, fits, decide_eq_true h1, decide_eq_true h2]
  simp only [Bool.not_false, Bool.true_and, Bool.and_self, List.all_eq_true]
  intro x hx
  obtain ⟨k, hk, rfl⟩ := List.getElem_of_mem hx
  exact h k hk

set_option maxHeartbeats 2000000 in
set_option maxRecDepth 100000 in
theorem refDomain_walk (s : ByteArray) (hs : s.size ≤ 100000) (w : World) : Calls Tryz.prog 68 #[.string s] w fun e w' => e = .returned (.bool (domain s.data.toList)) ∧ Below w.heap.size w w' := by
  have hlen := len_size s
  have c1 := refCut_walk s 46 hs w
  obtain ⟨L, hL⟩ : ∃ L, cuts 46 s.data.toList = L := ⟨_, rfl⟩
  have hsh := cuts_short 46 s.data.toList
  rw [hL] at c1 hsh
  obtain ⟨D, hD⟩ : ∃ D, domain s.data.toList = D := ⟨_, rfl⟩
  rw [hD]
  have HD : Hid (D = (decide (s.size ≤ 64) && L.all label)) := by
    rw [← hD, domain, hL, hlen]
    exact rfl
  clear hD hL
  obtain ⟨N, hN⟩ : ∃ N, L.length = N := ⟨_, rfl⟩
  obtain ⟨hsh1, hsh2⟩ := hsh
  rw [hN] at hsh1
  rw [hlen] at hsh1 hsh2
  have HP := Lib.hid hsh2
  clear hsh2
  obtain ⟨n, hn⟩ : ∃ n, s.size = n := ⟨_, rfl⟩
  go_enter Tryz.func68, Tryz.ntmps68
  go_wp2_with fail
  refine c1.mono ?_
  rintro e w1 ⟨v, rfl, ⟨g, cap, rfl, hcap, hgl, hcell⟩, hb1⟩
  rw [hN] at hcap ⊢
  have HC := Lib.hid hcell
  clear hcell
  go_wp2
  go_loopw [4] (fun z wr => ∃ i : Nat, i ≤ N ∧ z = .int .i64 (i : Int) ∧ wr = w1 ∧ Hid ((L.take i).all label = true)) (fun z _ => N - (Lib.intOf z).toNat)
  case atStart => exact ⟨0, by omega, rfl, rfl, rfl⟩
  case round =>
    obtain ⟨i, hiN, rfl, rfl, HA⟩ := hrel
    by_cases hlt : (i : Int) < (N : Int)
    · have hil : i < L.length := by omega
      have hcl := HC.out i hil
      have hps := HP.out _ (List.getElem_mem hil)
      have hDf : label L[i] = false → D = false := fun h => by
        have := HD.out
        rw [this, show L.all label = false from List.all_eq_false.2 ⟨_, List.getElem_mem hil, by rw [h]; decide⟩, Bool.and_false]
      have hDt : label L[i] = true → Hid ((L.take (i + 1)).all label = true) := fun h => by
        show (L.take (i + 1)).all label = true
        have := HA.out
        rw [List.take_succ_eq_append_getElem hil, List.all_append, this]
        simp [h]
      obtain ⟨p, hpq⟩ : ∃ p, L[i] = p := ⟨_, rfl⟩
      rw [hpq] at hcl hps hDf hDt
      clear hpq
      obtain ⟨q, hq⟩ : ∃ q, bs p = q := ⟨_, rfl⟩
      have hqg : ∀ k (h : k < q.size) (h' : k < p.length), q[k]'h = p[k]'h' := by
        subst hq
        intro k h h'
        exact bs_get p k h
      obtain ⟨M, hM⟩ : ∃ M, p.length = M := ⟨_, rfl⟩
      have hqs : q.size = M := by rw [← hq, bs_size, hM]
      rw [hq] at hcl
      clear hq
      have HDf := Lib.hid hDf
      have HDt := Lib.hid hDt
      have HQ := Lib.hid hqg
      clear hDf hDt hqg
      by_cases h1 : (M : Int) < 1
      · obtain rfl := HDf.out (label_short (.inl (by omega)))
        clear HDf HDt HA HD HC HP HQ
        go_wp2
        go_ret
        exact ⟨rfl, hb1⟩
      · by_cases h2 : (32 : Int) < (M : Int)
        · obtain rfl := HDf.out (label_short (.inr (by omega)))
          clear HDf HDt HA HD HC HP HQ
          go_wp2
          go_ret
          exact ⟨rfl, hb1⟩
        · have hz : 0 < q.size := by omega
          have hz1 : M - 1 < q.size := by omega
          have hz2 : 0 < p.length := by omega
          have hz3 : M - 1 < p.length := by omega
          have g0 := HQ.out 0 hz hz2
          have g1 := HQ.out (M - 1) hz1 hz3
          have hw1 : ((M - 1 : Nat) : Int) = (M : Int) - 1 := by omega
          by_cases h3 : ((q[0]'hz).toNat : Int) = 45
          · obtain rfl := HDf.out (label_first hz2 (by rw [← g0]; exact byte_eq (n := 45) (by decide) h3))
            clear HDf HDt HA HD HC HP HQ g0 g1
            go_wp2
            go_ret
            exact ⟨rfl, hb1⟩
          · have b3 : (((q[0]'hz).toNat : Int) == 45) = false := beq_eq_false_iff_ne.2 h3
            by_cases h4 : ((q[M - 1]'hz1).toNat : Int) = 45
            · obtain rfl := HDf.out (label_last (by omega) (by
                subst hM
                rw [← g1]
                exact byte_eq (n := 45) (by decide) h4))
              clear HDf HDt HA HD HC HP HQ g0 g1
              go_wp2
              go_ret
              exact ⟨rfl, hb1⟩
            · have b4 : (((q[M - 1]'hz1).toNat : Int) == 45) = false := beq_eq_false_iff_ne.2 h4
              have ha : p[0]'(by omega) ≠ 45 := by rw [← g0]; exact byte_ne (n := 45) (by decide) h3
              have hbb : p[p.length - 1]'(by omega) ≠ 45 := by
                subst hM
                rw [← g1]
                exact byte_ne (n := 45) (by decide) h4
              have HL := Lib.hid (label_good (l := p) (by omega) (by omega) ha hbb)
              clear g0 g1 ha hbb
              go_wp2
              go_loopw [6] (fun z wq => ∃ k : Nat, k ≤ M ∧ z = .int .i64 (k : Int) ∧ wq = wr ∧ Hid (∀ j (hj : j < p.length), j < k → okLab (p[j]'hj) = true)) (fun z _ => M - (Lib.intOf z).toNat)
              case atStart => exact ⟨0, by omega, rfl, rfl, fun j hj hj0 => absurd hj0 (Nat.not_lt_zero _)⟩
              case round =>
                obtain ⟨k, hk, rfl, rfl, HK⟩ := hrel
                by_cases hlk : (k : Int) < (M : Int)
                · have hp : k < q.size := by omega
                  have hpl' : k < p.length := by omega
                  have hg := HQ.out k hp hpl'
                  have hstep : okLab (p[k]'hpl') = true → Hid (∀ j (hj : j < p.length), j < k + 1 → okLab (p[j]'hj) = true) := fun h j hj hj1 => by
                    rcases Nat.lt_or_ge j k with h1 | h1
                    · exact HK.out j hj h1
                    · obtain rfl : j = k := by omega
                      exact h
                  rw [← hg] at hstep
                  have HG := Lib.hid hg
                  clear hg
                  cases hpz : plainZ ((q[k]'hp).toNat : Int) with
                  | true =>
                    have HS := hstep (by rw [okLab, show plain (q[k]'hp) = true from hpz, Bool.true_or])
                    clear hstep
                    go_wp2_with (go_at_call 74; refine (plain_walk _ _).mono ?_; rintro e w2 ⟨rfl, rfl⟩; rw [hpz])
                    go_roundw
                    case rel => exact ⟨k + 1, by omega, by simp, trivial, HS⟩
                    case measure =>
                      simp [Lib.intOf]
                      omega
                  | false =>
                    by_cases h5 : ((q[k]'hp).toNat : Int) = 45
                    · have HS := hstep (by rw [byte_eq (n := 45) (by decide) h5]; decide)
                      clear hstep
                      go_wp2_with (go_at_call 74; refine (plain_walk _ _).mono ?_; rintro e w2 ⟨rfl, rfl⟩; rw [show plainZ 45 = false by decide])
                      go_roundw
                      case rel => exact ⟨k + 1, by omega, by simp, trivial, HS⟩
                      case measure =>
                        simp [Lib.intOf]
                        omega
                    · have q5 : (((q[k]'hp).toNat : Int) != 45) = true := bne_iff_ne.2 h5
                      obtain rfl := HDf.out (label_bad hpl' (by
                        rw [← HG.out, okLab, show plain (q[k]'hp) = false from hpz, Bool.false_or]
                        exact beq_eq_false_iff_ne.2 (byte_ne (n := 45) (by decide) h5)))
                      clear hstep HDf HDt HA HD HC HP HQ HL HK
                      go_wp2_with (go_at_call 74; refine (plain_walk _ _).mono ?_; rintro e w2 ⟨rfl, rfl⟩; rw [hpz])
                      go_ret
                      exact ⟨rfl, hb1⟩
                · have hkM : k = M := by omega
                  have HT := HDt.out (HL.out (fun j hj => HK.out j hj (by omega)))
                  go_wp2
                  go_roundw
                  case rel => exact ⟨i + 1, by omega, by simp, trivial, HT⟩
                  case measure =>
                    simp [Lib.intOf]
                    omega
    · have hiN' : i = N := by omega
      have hall := HA.out
      rw [List.take_of_length_le (by omega)] at hall
      have hDv := HD.out
      rw [hall, Bool.and_true, hn] at hDv
      subst hDv
      clear HA HD HC HP hall
      go_wp2
      go_ret
      refine ⟨?_, hb1⟩
      simp
      omega
end Go.Proofs.YtimoebicacnihaaGreatDoor.Ad
end

section
/-
  The document's Split, Parse and Path.
-/
namespace Go.Proofs.YtimoebicacnihaaGreatDoor.Ad
open Go.RowKit
set_option linter.unusedVariables false
set_option linter.unusedSimpArgs false

theorem take_bs (s : ByteArray) (k : Nat) : s.extract 0 k = bs (s.data.toList.take k) := by
  rw [extract_bs]
  simp
theorem drop_bs (s : ByteArray) (k : Nat) : s.extract k s.size = bs (s.data.toList.drop k) := by
  rw [extract_bs, List.take_of_length_le (by rw [List.length_drop, len_size]; exact Nat.le_refl _)]

set_option maxHeartbeats 1000000 in
set_option maxRecDepth 100000 in
theorem refSplit_walk (s : ByteArray) (hs : s.size ≤ 9223372036854775807) (w : World) : Calls Tryz.prog 60 #[.string s] w fun e w' => e = .returned (splitV s.data.toList) ∧ Below w.heap.size w w' := by
  have hlen := len_size s
  obtain ⟨n, hn⟩ : ∃ n, s.size = n := ⟨_, rfl⟩
  obtain ⟨V, hV⟩ : ∃ V, splitV s.data.toList = V := ⟨_, rfl⟩
  rw [hV]
  have HV := Lib.hid hV
  clear hV
  go_enter Tryz.func60, Tryz.ntmps60
  go_wp2
  go_loopw [5] (fun z wr => ∃ k : Nat, k ≤ n ∧ z = .int .i64 (k : Int) ∧ wr = w ∧ Hid ((64 : UInt8) ∉ s.data.toList.take k)) (fun z _ => n - (Lib.intOf z).toNat)
  case atStart => exact ⟨0, by omega, rfl, rfl, by show (64 : UInt8) ∉ _; simp⟩
  case round =>
    obtain ⟨k, hk, rfl, rfl, HN⟩ := hrel
    by_cases hlt : (k : Int) < (n : Int)
    · have hp : k < s.size := by omega
      have hkl : k < s.data.toList.length := by omega
      have hg := get_list s k hp
      by_cases h64 : ((s[k]'hp).toNat : Int) = 64
      · have e64 : s.data.toList[k] = 64 := by rw [hg]; exact byte_eq (n := 64) (by decide) h64
        have hbox := isBox_hit hkl e64 HN.out
        obtain ⟨e1, e2, e3⟩ := ahead_hit hkl e64 HN.out
        rw [hlen] at hbox
        have et := take_bs s k
        have ed := drop_bs s (k + 1)
        by_cases h : (64 : Int) < (s.size : Int)
        · have hv : V = _ := HV.out.symm.trans (splitV_none (by rw [hbox, decide_eq_false (by omega), Bool.false_and]))
          subst hv
          clear HV HN hbox e1 e2 e3
          go_wp2
          go_ret3
          exact ⟨rfl, Below.refl _ _⟩
        · rw [decide_eq_true (show s.size ≤ 64 by omega), Bool.true_and] at hbox
          have c2 := refLocal_walk (bs (s.data.toList.take k)) (by rw [bs_size, List.length_take]; omega) wr
          have c3 := refDomain_walk (bs (s.data.toList.drop (k + 1))) (by rw [bs_size, List.length_drop]; omega) wr
          have c4 : ∀ W, Calls Tryz.prog 69 #[.string (bs (s.data.toList.drop (k + 1)))] W fun e w' => e = .returned (.string (bs (small (s.data.toList.drop (k + 1))))) ∧ Below W.heap.size W w' := fun W => by
            have c := refSmall_walk (bs (s.data.toList.drop (k + 1))) (by rw [bs_size, List.length_drop]; omega) W
            rw [bs_data] at c
            exact c
          rw [bs_data] at c2 c3
          obtain ⟨la, hla⟩ : ∃ la, s.data.toList.take k = la := ⟨_, rfl⟩
          obtain ⟨lb, hlb⟩ : ∃ lb, s.data.toList.drop (k + 1) = lb := ⟨_, rfl⟩
          rw [hla] at c2 hbox et e1
          rw [hlb] at c3 c4 hbox ed e2
          rw [hn] at ed
          cases hl : loc la with
          | false =>
            have hv : V = _ := HV.out.symm.trans (splitV_none (by rw [hbox, hl, Bool.false_and]))
            subst hv
            rw [hl] at c2
            clear HV HN hbox e1 e2 e3 hla hlb
            go_wp2_with (go_at_call 67; (try rw [et]); refine c2.mono ?_; rintro e w' ⟨rfl, rfl⟩)
            go_ret3
            exact ⟨rfl, Below.refl _ _⟩
          | true =>
            rw [hl] at c2
            cases hd : domain lb with
            | false =>
              have hv : V = _ := HV.out.symm.trans (splitV_none (by rw [hbox, hl, hd]; rfl))
              subst hv
              rw [hd] at c3
              clear HV HN hbox e1 e2 e3 hla hlb
              go_wp2_with (first | (go_at_call 67; (try rw [et]); refine c2.mono ?_; rintro e w' ⟨rfl, rfl⟩) | (go_at_call 68; (try rw [ed]); refine c3.mono ?_; rintro e w1 ⟨rfl, hb1⟩))
              go_ret3
              exact ⟨rfl, hb1⟩
            | true =>
              have hv : V = .tuple #[.string (bs la), .string (bs (small lb)), .bool true] := HV.out.symm.trans (by
                rw [splitV, splitM, hbox, hl, hd, e1, e2]
                rfl)
              subst hv
              rw [hd] at c3
              clear HV HN hbox e1 e2 e3 hla hlb
              go_wp2_with (first | (go_at_call 67; (try rw [et]); refine c2.mono ?_; rintro e w' ⟨rfl, rfl⟩) | (go_at_call 68; (try rw [ed]); refine c3.mono ?_; rintro e w1 ⟨rfl, hb1⟩))
              have k1 : (0 : Int) ≤ (k : Int) + 1 := by omega
              have k2 : (k : Int) + 1 ≤ (n : Int) := by omega
              have k3 : IntKind.i64.wrap ((k : Int) + 1) = (k : Int) + 1 := wrap_small _ (by omega) (by omega)
              go_region_held3 (fun _ => True) (exact trivial) (first | (go_at_call 69; (try rw [ed]); refine (c4 _).mono ?_; rintro e w2 ⟨rfl, hb2⟩))
              go_wp2
              go_ret3
              exact ⟨rfl, hb1.drew.trans (hb2.mono hb1.size)⟩
      · have hG : Hid ((64 : UInt8) ∉ s.data.toList.take (k + 1)) := by
          show (64 : UInt8) ∉ _
          rw [List.take_succ_eq_append_getElem hkl, hg]
          simp only [List.mem_append, List.mem_singleton, not_or]
          exact ⟨HN.out, fun e => byte_ne (n := 64) (by decide) h64 e.symm⟩
        go_wp2
        go_roundw
        case rel => exact ⟨k + 1, by omega, by simp, trivial, hG⟩
        case measure =>
          simp [Lib.intOf]
          omega
    · have hkn : k = n := by omega
      have hno := HN.out
      rw [List.take_of_length_le (by omega)] at hno
      have hv : V = _ := HV.out.symm.trans (splitV_none (ahead_miss hno))
      subst hv
      clear HV HN hno
      go_wp2
      go_ret3
      exact ⟨rfl, Below.refl _ _⟩

set_option maxHeartbeats 4000000 in
set_option maxRecDepth 100000 in
theorem refParse_walk (s : ByteArray) (hs : s.size ≤ 9223372036854775807) (w : World) : Calls Tryz.prog 47 #[.string s] w fun e w' => e = .returned (parseV s.data.toList) ∧ Below w.heap.size w w' := by
  have c1 := refSplit_walk s (by omega) w
  cases hb : isBox s.data.toList with
  | false =>
    rw [splitV_none hb] at c1
    rw [parseV_none hb]
    go_enter Tryz.func47, Tryz.ntmps47
    go_wp2_with (go_at_call 60; refine c1.mono ?_; rintro e w1 ⟨rfl, hb1⟩)
    go_ret2
    exact ⟨rfl, hb1⟩
  | true =>
    have hl := splitM_len hb
    rw [splitV, hb] at c1
    rw [parseV_some hb]
    obtain ⟨a, ha⟩ : ∃ a, a = bs (splitM s.data.toList).1 := ⟨_, rfl⟩
    obtain ⟨b, hb'⟩ : ∃ b, b = bs (splitM s.data.toList).2 := ⟨_, rfl⟩
    have la : a.size ≤ 64 := by rw [ha, bs_size]; exact hl.1
    have lb : b.size ≤ 64 := by rw [hb', bs_size]; exact hl.2
    rw [← ha, ← hb'] at c1 ⊢
    clear ha hb' hl
    go_enter Tryz.func47, Tryz.ntmps47
    go_wp2_with (go_at_call 60; refine c1.mono ?_; rintro e w1 ⟨rfl, hb1⟩)
    go_ret2
    exact ⟨rfl, hb1⟩

end Go.Proofs.YtimoebicacnihaaGreatDoor.Ad
end
