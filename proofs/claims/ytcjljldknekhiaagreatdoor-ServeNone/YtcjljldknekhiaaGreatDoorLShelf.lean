/-
  What the library's bytes.Cut returns at an end of a line, for a slice into a row of the call's own.
-/
import Derived.Test.YtcjljldknekhiaaGreatDoorAShelf
import Derived.Test.YtcjljldknekhiaaGreatDoorMem
namespace Go.Proofs.YtcjljldknekhiaaGreatDoor.Ln
open Go.Shelf Go.RowKit
set_option linter.unusedVariables false
theorem Keep.drewN {S : Nat → Prop} {a w : World} (h : Keep S a w) (n : Nat) : Keep S a (w.drewN n) := ⟨h.os, h.tape, h.output, h.size, h.block⟩
theorem Bytes.inn {P : Nat → Prop} {w : World} {x : Option Addr} {bs : List Nat} (h : Bytes P w x bs) : Lib.BytesIn w x bs.length (bs.map fun (c : Nat) => (c : Int)) := fun hn => by
  rcases h.2 with h0 | ⟨b, off, _, hx, hc⟩
  · subst h0; simp at hn
  · refine ⟨b, off, hx, fun i hi => ?_⟩
    rw [hc i hi]
    simp [hi]
theorem bytes_nums {bs : List Nat} (h : ∀ c ∈ bs, c < 256) : ∀ x ∈ (bs.map fun (c : Nat) => (c : Int)), 0 ≤ x ∧ x < 256 := fun x hx => by
  obtain ⟨c, hc, rfl⟩ := List.mem_map.1 hx
  have := h c hc
  omega

theorem cut_any {w : World} {x : Option Addr} {n cap : Nat} {q : Option Nat} {bs : List Nat} (hM : Mid w (.slice x n cap) q bs) (hs : n < 4294967281) {P : Nat → Prop} (p2 : Option Addr) (c2 : Nat) (h2 : Bytes P w p2 [13, 10]) (m : Int) (hm : w.cell? ⟨2, 0, none⟩ = some (.int .i64 m)) :
    Calls Tryz.prog 69 #[.slice x n cap, .slice p2 2 c2] w fun e w' => e = .returned (Lib.cutV x n cap 2 (match pos bs with | none => -1 | some i => (i : Int))) ∧ ∃ k, w' = w.drewN k := by
  obtain ⟨x', cap', e, hc, h0, hB⟩ := hM.shape
  injection e with e1 e2 e3
  subst e1 e2 e3
  have hcon := Ad.bytes_Cut_all x p2 bs.length cap 2 c2 (bs.map fun (c : Nat) => (c : Int)) [13, 10] m w (by simp) rfl (bytes_nums hM.1) (by simp) hB.inn h2.inn h0 hc hs (by omega) hm
  have hi := index_pos hM.1
  have e10 : Lib.bytesOf [13, 10] = [13, 10] := rfl
  rw [e10, hi] at hcon
  exact hcon
theorem cut_none {w : World} {x : Option Addr} {n cap : Nat} {q : Option Nat} {bs : List Nat} (hM : Mid w (.slice x n cap) q bs) (hp : pos bs = none) (hs : n < 4294967281) {P : Nat → Prop} (p2 : Option Addr) (c2 : Nat) (h2 : Bytes P w p2 [13, 10]) (m : Int) (hm : w.cell? ⟨2, 0, none⟩ = some (.int .i64 m)) :
    Calls Tryz.prog 69 #[.slice x n cap, .slice p2 2 c2] w fun e w' => e = .returned (.tuple #[.slice x n cap, .slice none 0 0, .bool false]) ∧ Keep (fun _ => False) w w' := by
  refine (cut_any hM hs p2 c2 h2 m hm).mono ?_
  rintro e w' ⟨rfl, k, rfl⟩
  rw [hp]
  exact ⟨rfl, (Keep.refl _ _).drewN k⟩
theorem cut_some {w : World} {x : Option Addr} {n cap : Nat} {q : Option Nat} {bs : List Nat} {i : Nat} (hM : Mid w (.slice x n cap) q bs) (hp : pos bs = some i) (hs : n < 4294967281) {P : Nat → Prop} (p2 : Option Addr) (c2 : Nat) (h2 : Bytes P w p2 [13, 10]) (m : Int) (hm : w.cell? ⟨2, 0, none⟩ = some (.int .i64 m)) :
    Calls Tryz.prog 69 #[.slice x n cap, .slice p2 2 c2] w fun e w' => ∃ y n' c' q', e = .returned (.tuple #[.slice x i cap, .slice y n' c', .bool true]) ∧ Mid w' (.slice y n' c') q' (bs.drop (i + 2)) ∧ (q' = q ∨ q' = none) ∧ Keep (fun _ => False) w w' := by
  refine (cut_any hM hs p2 c2 h2 m hm).mono ?_
  rintro e w' ⟨rfl, k, rfl⟩
  have hl := pos_lt hp
  obtain ⟨q', h1, h3⟩ := hM.drop (i + 2) (by rw [hM.len]; exact hl)
  have hk : Keep (fun _ => False) w (w.drewN k) := (Keep.refl _ _).drewN k
  refine ⟨_, _, _, q', ?_, h1.keep hk (fun _ _ h => h), h3, hk⟩
  rw [hp]
  have : (0 : Int) ≤ (i : Int) := by omega
  simp only [Lib.cutV, this, if_true, Int.toNat_natCast, Lib.fromV]
end Go.Proofs.YtcjljldknekhiaaGreatDoor.Ln
