/-
  The document's Cut, its row of texts in new memory.
-/
import Derived.Test.YtcjljldknekhiaaGreatDoorKg12
import Derived.Test.YtcjljldknekhiaaGreatDoorKg8
namespace Go.Proofs.YtcjljldknekhiaaGreatDoor.Ad
open Go.RowKit Go.Maps
set_option linter.unusedVariables false
set_option linter.unusedSimpArgs false


/-- A row of texts that lies in a new block. -/
def TextsN (B : Nat) (w : World) (v : Value) (L : List (List UInt8)) : Prop := ∃ g cap, v = .slice (some ⟨g, 0, none⟩) L.length cap ∧ L.length ≤ cap ∧ B ≤ g ∧ g < w.heap.size ∧ Txt w g L
theorem texts_ofN {w : World} {B : Nat} {v : Value} {L : List (List UInt8)} (h : w.ownsRow B 9 1 v L.length (strs L)) (hne : L ≠ []) : TextsN B w v L := by
  have hlt := h.lt
  have hcell := @World.ownsRow.cells _ _ _ _ _ _ _ h
  rcases h.2 with ⟨_, h0⟩ | ⟨g, cap, cur, hv, _, _, hle, _⟩
  · exact absurd (List.eq_nil_of_length_eq_zero h0) hne
  · subst hv
    refine ⟨g, cap, rfl, hle, (hlt g rfl).1, (hlt g rfl).2, fun k hk => ?_⟩
    have := hcell (g := g) rfl k (.string (bs (L[k]'hk))) (by simp [strs, hk])
    rw [show (⟨g, 0, none⟩ : Addr).add k = ⟨g, k, none⟩ by unfold Addr.add; split <;> simp_all] at this
    exact this

set_option maxHeartbeats 1000000 in
set_option maxRecDepth 100000 in
theorem refCutN_walk (s : ByteArray) (c : UInt8) (hs : s.size ≤ 100000) (w : World) : Calls Tryz.prog 43 #[.string s, .int .u8 (c.toNat : Int)] w fun e w' => ∃ v, e = .returned v ∧ TextsN w.heap.size w' v (cuts c s.data.toList) ∧ Below w.heap.size w w' := by
  obtain ⟨i0, hi, hz0, hz1, hz2⟩ := info_parts info9
  have hlen := len_size s
  obtain ⟨n, hn⟩ : ∃ n, s.size = n := ⟨_, rfl⟩
  obtain ⟨cc, hcq⟩ : ∃ cc : Int, (c.toNat : Int) = cc := ⟨_, rfl⟩
  rw [hcq]
  have HQ := Lib.hid hcq
  clear hcq
  go_enter Tryz.func43, Tryz.ntmps43
  go_wp2
  go_loopw [5, 6, 7] (fun v x z wr => ∃ (k a : Nat) (d : List (List UInt8)) (ao : Option Addr) (cv : Nat), k ≤ n + 1 ∧ z = .int .i64 (k : Int) ∧ x = .int .i64 (a : Int) ∧ v = .slice ao d.length cv ∧ Hid (CutAt c s.data.toList k a d) ∧ Hid (wr.ownsRow w.heap.size 9 1 v d.length (strs d)) ∧ Hid (Below w.heap.size w wr)) (fun _ _ z _ => n + 1 - (Lib.intOf z).toNat)
  case atStart => exact ⟨0, 0, [], none, 0, by omega, rfl, rfl, rfl, CutAt.start _ _, World.ownsRow_nil _ _ _ _, Below.refl _ _⟩
  case round =>
    obtain ⟨k, a, d, ao, cv, hk, rfl, rfl, rfl, HC, HO, HB⟩ := hrel
    have hsize := (show Below w.heap.size w wr from HB).size
    have hdl := (show CutAt c s.data.toList k a d from HC).1
    by_cases hle : (k : Int) ≤ (n : Int)
    · by_cases he : (k : Int) = (n : Int)
      · obtain rfl : k = n := by omega
        have hx : a ≤ k ∧ CutAt c s.data.toList (k + 1) (k + 1) (d ++ [(s.data.toList.drop a).take (k - a)]) := by
          have := (show CutAt c s.data.toList s.data.toList.length a d by rw [hlen, hn]; exact HC).last
          rw [hlen, hn] at this
          exact this
        obtain ⟨hak, hc2⟩ := hx
        have HC2 := Lib.hid hc2
        clear hc2
        go_wp2_with (at_builtin; refine wpList_append_own _ rfl _ _ 36 rfl w.heap.size 9 i0 (.string ByteArray.empty) 1 16 Tryz.underlying36 hi hz0 hz1 hz2 rfl (by decide) _ _ _ rfl (World.ownsRow.alloc HO _) ⟨wr.heap.size, 0, none⟩ 1 1 [.string (s.extract a k)] rfl rfl (cell_one_new _ _ _) (fun x hx => by simp at hx; subst hx; rfl) (by unfold maxLen; omega) (by omega) (by simp; omega) ?_; intro v' w3 hown' hgrow3 hnil3)
        obtain ⟨g3, cap3, hv3⟩ : ∃ g3 cap3, v' = .slice (some ⟨g3, 0, none⟩) (d.length + 1) cap3 := by
          rcases hown'.2 with ⟨_, h⟩ | ⟨g3, cap3, _, h, _⟩
          · omega
          · exact ⟨g3, cap3, h⟩
        subst hv3
        have HO2 : Hid (w3.ownsRow w.heap.size 9 1 (.slice (some ⟨g3, 0, none⟩) (d.length + 1) cap3) (d.length + 1) (strs (d ++ [(s.data.toList.drop a).take (k - a)]))) := by
          show World.ownsRow _ _ _ _ _ _ _
          rw [strs, List.map_append, List.map_cons, List.map_nil, ← extract_bs]
          exact hown'
        have HB2 : Hid (Below w.heap.size w w3) := ((show Below w.heap.size w wr from HB).alloc hsize _).grown hgrow3 (by simp; omega) (fun q hq => (World.ownsRow.lt (show wr.ownsRow w.heap.size 9 1 _ _ _ from HO) q hq).1)
        clear hown' hgrow3 hnil3
        go_wp2
        go_roundw
        case rel =>
          exact ⟨k + 1, k + 1, d ++ [(s.data.toList.drop a).take (k - a)], some ⟨g3, 0, none⟩, cap3, by omega, by simp, by simp, by simp, HC2, by simpa using HO2, HB2⟩
        case measure =>
          first | (simp [Lib.intOf]; done) | (simp [Lib.intOf]; omega)
      · have hp : k < s.size := by omega
        have hkl : k < s.data.toList.length := by omega
        have hg := get_list' s k hp
        by_cases hcc : ((s[k]'hp).toNat : Int) = cc
        · have hx := (show CutAt c s.data.toList k a d from HC).hit hkl (by rw [hg]; have := HQ.out; exact UInt8.toNat_inj.1 (by omega))
          obtain ⟨hak, hc2⟩ := hx
          have HC2 := Lib.hid hc2
          clear hc2
          go_wp2_with (at_builtin; refine wpList_append_own _ rfl _ _ 36 rfl w.heap.size 9 i0 (.string ByteArray.empty) 1 16 Tryz.underlying36 hi hz0 hz1 hz2 rfl (by decide) _ _ _ rfl (World.ownsRow.alloc HO _) ⟨wr.heap.size, 0, none⟩ 1 1 [.string (s.extract a k)] rfl rfl (cell_one_new _ _ _) (fun x hx => by simp at hx; subst hx; rfl) (by unfold maxLen; omega) (by omega) (by simp; omega) ?_; intro v' w3 hown' hgrow3 hnil3)
          obtain ⟨g3, cap3, hv3⟩ : ∃ g3 cap3, v' = .slice (some ⟨g3, 0, none⟩) (d.length + 1) cap3 := by
            rcases hown'.2 with ⟨_, h⟩ | ⟨g3, cap3, _, h, _⟩
            · omega
            · exact ⟨g3, cap3, h⟩
          subst hv3
          have HO2 : Hid (w3.ownsRow w.heap.size 9 1 (.slice (some ⟨g3, 0, none⟩) (d.length + 1) cap3) (d.length + 1) (strs (d ++ [(s.data.toList.drop a).take (k - a)]))) := by
            show World.ownsRow _ _ _ _ _ _ _
            rw [strs, List.map_append, List.map_cons, List.map_nil, ← extract_bs]
            exact hown'
          have HB2 : Hid (Below w.heap.size w w3) := ((show Below w.heap.size w wr from HB).alloc hsize _).grown hgrow3 (by simp; omega) (fun q hq => (World.ownsRow.lt (show wr.ownsRow w.heap.size 9 1 _ _ _ from HO) q hq).1)
          clear hown' hgrow3 hnil3
          go_wp2
          go_roundw
          case rel =>
            exact ⟨k + 1, k + 1, d ++ [(s.data.toList.drop a).take (k - a)], some ⟨g3, 0, none⟩, cap3, by omega, by simp, by simp, by simp, HC2, by simpa using HO2, HB2⟩
          case measure =>
            first | (simp [Lib.intOf]; done) | (simp [Lib.intOf]; omega)
        · have HC2 := Lib.hid ((show CutAt c s.data.toList k a d from HC).miss hkl (by rw [hg]; exact fun e => hcc (by rw [e]; exact HQ.out)))
          have b1 : ((k : Int) == (n : Int)) = false := beq_eq_false_iff_ne.2 he
          have b2 : (((s[k]'hp).toNat : Int) == cc) = false := beq_eq_false_iff_ne.2 hcc
          go_wp2
          go_roundw
          case rel => exact ⟨k + 1, a, d, ao, cv, by omega, by simp, rfl, rfl, HC2, HO, HB⟩
          case measure =>
            first | (simp [Lib.intOf]; done) | (simp [Lib.intOf]; omega)
    · have hdone := (show CutAt c s.data.toList k a d from HC).done (by omega)
      have hT : TextsN w.heap.size wr (.slice ao d.length cv) d := texts_ofN HO (by rw [← hdone]; exact cuts_ne _ _)
      have HE := Lib.hid hdone
      have HT := Lib.hid hT
      clear hdone hT
      go_wp2
      go_ret
      have hdone := HE.out
      rw [hdone]
      exact ⟨_, rfl, HT, HB⟩
end Go.Proofs.YtcjljldknekhiaaGreatDoor.Ad
