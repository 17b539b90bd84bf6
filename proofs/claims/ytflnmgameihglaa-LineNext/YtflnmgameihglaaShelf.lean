/-
  The library's bytes.Cut at this program's numbers: a table of numbers, and that the functions are those. What it returns, for a slice into a row of the call's own.
-/
import Derived.Shelf.Bytes.SlCut
import Derived.Test.YtflnmgameihglaaMem
namespace Go.Proofs.Ytflnmgameihglaa.Ln
open Go.Shelf Go.RowKit
set_option linter.unusedVariables false
def laysT_ren : Go.Shelf.Ren := ⟨fun | 4 => 12 | 5 => 13 | 6 => 14 | 7 => 15 | 8 => 16 | 9 => 17 | 10 => 18 | 11 => 19 | 12 => 20 | n => n, fun | 22 => 24 | 29 => 43 | 30 => 44 | 31 => 45 | n => n, fun | n => n⟩
theorem laysT : Go.Proofs.SlLaysT.n4 Try.prog laysT_ren := {
  mixed := by kernel_rfl
  f4 := Try.func12.trans (congrArg some (by kernel_rfl))
  f5 := Try.func13.trans (congrArg some (by kernel_rfl))
  f6 := Try.func14.trans (congrArg some (by kernel_rfl))
  f7 := Try.func15.trans (congrArg some (by kernel_rfl))
  f8 := Try.func16.trans (congrArg some (by kernel_rfl))
  f9 := Try.func17.trans (congrArg some (by kernel_rfl))
  f10 := Try.func18.trans (congrArg some (by kernel_rfl))
  f11 := Try.func19.trans (congrArg some (by kernel_rfl))
  f12 := Try.func20.trans (congrArg some (by kernel_rfl))
  t0 := Try.underlying0
  a0 := Try.isAgg0
  z0 := Try.sizeOf0
  v0 := Try.zeroValue0
  t3 := Try.underlying3
  a3 := Try.isAgg3
  z3 := Try.sizeOf3
  v3 := Try.zeroValue3
  t4 := Try.underlying4
  a4 := Try.isAgg4
  z4 := Try.sizeOf4
  v4 := Try.zeroValue4
  t5 := Try.underlying5
  a5 := Try.isAgg5
  z5 := Try.sizeOf5
  v5 := Try.zeroValue5
  t9 := Try.underlying9
  a9 := Try.isAgg9
  z9 := Try.sizeOf9
  v9 := Try.zeroValue9
  t22 := Try.underlying24
  a22 := Try.isAgg24
  z22 := Try.sizeOf24
  v22 := Try.zeroValue24
  t29 := Try.underlying43
  a29 := Try.isAgg43
  z29 := Try.sizeOf43
  v29 := Try.zeroValue43
  t30 := Try.underlying44
  a30 := Try.isAgg44
  z30 := Try.sizeOf44
  v30 := Try.zeroValue44
  t31 := Try.underlying45
  a31 := Try.isAgg45
  z31 := Try.sizeOf45
  v31 := Try.zeroValue45
  g0 := by kernel_rfl }

theorem Keep.drewN {S : Nat → Prop} {a w : World} (h : Keep S a w) (n : Nat) : Keep S a (w.drewN n) := ⟨h.os, h.tape, h.output, h.size, h.block⟩
theorem Bytes.inn {P : Nat → Prop} {w : World} {x : Option Addr} {bs : List Nat} (h : Bytes P w x bs) : Lib.BytesIn w x bs.length (bs.map fun (c : Nat) => (c : Int)) := fun hn => by
  rcases h.2 with h0 | ⟨b, off, _, hx, hc⟩
  · subst h0; simp at hn
  · refine ⟨b, off, hx, fun i hi => ?_⟩
    rw [hc i hi]
    simp [hi]
theorem bytes_nums {bs : List Nat} (h : ∀ c ∈ bs, c < 256) : ∀ x ∈ (bs.map fun (c : Nat) => (c : Int)), 0 ≤ x ∧ x < 256 := fun x hx => by
  obtain ⟨c, hc, rfl⟩ := List.mem_map.1 hx
  have := h c hc
  omega

theorem cut_any {w : World} {x : Option Addr} {n cap : Nat} {q : Option Nat} {bs : List Nat} (hM : Mid w (.slice x n cap) q bs) (hs : n < 4294967281) {P : Nat → Prop} (p2 : Option Addr) (c2 : Nat) (h2 : Bytes P w p2 [13, 10]) (m : Int) (hm : w.cell? ⟨0, 0, none⟩ = some (.int .i64 m)) :
    Calls Try.prog 12 #[.slice x n cap, .slice p2 2 c2] w fun e w' => e = .returned (Lib.cutV x n cap 2 (match pos bs with | none => -1 | some i => (i : Int))) ∧ ∃ k, w' = w.drewN k := by
  obtain ⟨x', cap', e, hc, h0, hB⟩ := hM.shape
  injection e with e1 e2 e3
  subst e1 e2 e3
  have hcon := Any.bytes_Cut_all laysT x p2 bs.length cap 2 c2 (bs.map fun (c : Nat) => (c : Int)) [13, 10] m w (by simp) rfl (bytes_nums hM.1) (by simp) hB.inn h2.inn h0 hc hs (by omega) hm
  have hi := index_pos hM.1
  have e10 : Lib.bytesOf [13, 10] = [13, 10] := rfl
  rw [e10, hi] at hcon
  exact hcon
theorem cut_none {w : World} {x : Option Addr} {n cap : Nat} {q : Option Nat} {bs : List Nat} (hM : Mid w (.slice x n cap) q bs) (hp : pos bs = none) (hs : n < 4294967281) {P : Nat → Prop} (p2 : Option Addr) (c2 : Nat) (h2 : Bytes P w p2 [13, 10]) (m : Int) (hm : w.cell? ⟨0, 0, none⟩ = some (.int .i64 m)) :
    Calls Try.prog 12 #[.slice x n cap, .slice p2 2 c2] w fun e w' => e = .returned (.tuple #[.slice x n cap, .slice none 0 0, .bool false]) ∧ Keep (fun _ => False) w w' := by
  refine (cut_any hM hs p2 c2 h2 m hm).mono ?_
  rintro e w' ⟨rfl, k, rfl⟩
  rw [hp]
  exact ⟨rfl, (Keep.refl _ _).drewN k⟩
theorem cut_some {w : World} {x : Option Addr} {n cap : Nat} {q : Option Nat} {bs : List Nat} {i : Nat} (hM : Mid w (.slice x n cap) q bs) (hp : pos bs = some i) (hs : n < 4294967281) {P : Nat → Prop} (p2 : Option Addr) (c2 : Nat) (h2 : Bytes P w p2 [13, 10]) (m : Int) (hm : w.cell? ⟨0, 0, none⟩ = some (.int .i64 m)) :
    Calls Try.prog 12 #[.slice x n cap, .slice p2 2 c2] w fun e w' => ∃ y n' c' q', e = .returned (.tuple #[.slice x i cap, .slice y n' c', .bool true]) ∧ Mid w' (.slice y n' c') q' (bs.drop (i + 2)) ∧ (q' = q ∨ q' = none) ∧ Keep (fun _ => False) w w' := by
  refine (cut_any hM hs p2 c2 h2 m hm).mono ?_
  rintro e w' ⟨rfl, k, rfl⟩
  have hl := pos_lt hp
  obtain ⟨q', h1, h3⟩ := hM.drop (i + 2) (by rw [hM.len]; exact hl)
  have hk : Keep (fun _ => False) w (w.drewN k) := (Keep.refl _ _).drewN k
  refine ⟨_, _, _, q', ?_, h1.keep hk (fun _ _ h => h), h3, hk⟩
  rw [hp]
  have : (0 : Int) ≤ (i : Int) := by omega
  simp only [Lib.cutV, this, if_true, Int.toNat_natCast, Lib.fromV]
end Go.Proofs.Ytflnmgameihglaa.Ln
