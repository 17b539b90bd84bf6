/-
  A sender with a size; an argument that is a row of strings.
-/
import Derived.Test.YtkncojmalldifaaGreatDoorR1
import Derived.SliceStrings
namespace Go.Proofs.YtkncojmalldifaaGreatDoor.Ad
open Go.RowKit
set_option linter.unusedVariables false

theorem no_blank {d : List UInt8} (h : d.all isDig = true) : (32 : UInt8) ∉ d := fun hm => by
  have := List.all_eq_true.1 h 32 hm
  revert this
  decide
theorem sized {d : List UInt8} (h : isNum d = true) : verbM ([77, 65, 73, 76, 32, 70, 82, 79, 77, 58, 60, 62, 32, 83, 73, 90, 69, 61] ++ d) = ⟨nMail, [], num d, 0⟩ := by
  have h' := h
  simp only [isNum, Bool.and_eq_true] at h'
  have hnb := no_blank h'.2.2
  have hq : (32 : UInt8) ∉ ([83, 73, 90, 69, 61] ++ d : List UInt8) := by
    simp only [List.mem_append, not_or]
    exact ⟨by decide, hnb⟩
  obtain ⟨a1, a2, a3⟩ := ahd_at 32 ([70, 82, 79, 77, 58, 60, 62, 32, 83, 73, 90, 69, 61] ++ d) (a := [77, 65, 73, 76]) (by decide)
  obtain ⟨b1, b2, b3⟩ := ahd_at 32 ([83, 73, 90, 69, 61] ++ d) (a := [70, 82, 79, 77, 58, 60, 62]) (by decide)
  have e1 : ([77, 65, 73, 76, 32, 70, 82, 79, 77, 58, 60, 62, 32, 83, 73, 90, 69, 61] ++ d : List UInt8) = [77, 65, 73, 76] ++ 32 :: ([70, 82, 79, 77, 58, 60, 62, 32, 83, 73, 90, 69, 61] ++ d) := rfl
  have e2 : ([70, 82, 79, 77, 58, 60, 62, 32, 83, 73, 90, 69, 61] ++ d : List UInt8) = [70, 82, 79, 77, 58, 60, 62] ++ 32 :: ([83, 73, 90, 69, 61] ++ d) := rfl
  have hs : sizeM ([83, 73, 90, 69, 61] ++ d) = ((num d : Int), 0) := by
    obtain ⟨k1, k2⟩ := keyed_append (key := kSize) (k := [83, 73, 90, 69, 61]) (by decide) d
    rw [sizeM, cuts_miss 32 hq, sizeGo_good k1 (by rw [show (5 : Nat) = kSize.length from rfl, k2]; exact h), show (5 : Nat) = kSize.length from rfl, k2]
    rfl
  have hm : mailM ([70, 82, 79, 77, 58, 60, 62] ++ 32 :: ([83, 73, 90, 69, 61] ++ d)) = ⟨[], num d, 0⟩ := by
    have hp : pathOk kFrom ([70, 82, 79, 77, 58, 60, 62] ++ 32 :: ([83, 73, 90, 69, 61] ++ d)) = true := by
      rw [pathOk, wordM, b1]
      decide
    have hw : pathM (wordM kFrom ([70, 82, 79, 77, 58, 60, 62] ++ 32 :: ([83, 73, 90, 69, 61] ++ d))) = [] := by
      rw [wordM, b1]
      decide
    rw [mailM, hp, hw, b2, b3, hs]
    rfl
  rw [verbM, e1, a1, a2, a3, e2]
  show cmdOf _ (mailM _) = _
  rw [hm]
  rfl
theorem verbM_rcpt : (verbM [82, 67, 80, 84, 32, 84, 79, 58, 60, 97, 64, 98, 62, 32, 83, 73, 90, 69, 61, 49]) = ⟨[], [], 0, 555⟩ := by kernel_rfl

/-- The slice that begins at a has these strings. -/
def Strs (w : World) (a : Option Addr) (L : List ByteArray) : Prop :=
  ∀ (i : Nat) (hi : i < L.length), ∃ b off, a = some ⟨b, off, none⟩ ∧ w.cell? ⟨b, off + i, none⟩ = some (.string (L[i]'hi))
theorem arg_strs {H : Type} {enc : TypeId × Value → H} {W : World} {fuel : Nat} {v : Value} {x : DataW H × List MemPlace} (h : DataW.trod enc Tryz.prog W 0 (fun _ => true) true fuel 28 [v] = some x) :
    ∃ a L cap, v = .slice a L.length cap ∧ L.length ≤ cap ∧ cap ≤ 9223372036854775807 ∧ Strs W a L := by
  rcases Go.ChangeShapes.open_strings Tryz.underlying28 Tryz.underlying9 (by kernel_rfl) h with ⟨hcs, _⟩ | ⟨ad, l, c, ss, hcs, _, hl, hm, hlen, _, hcell, _⟩
  · injection hcs with hcs _
    subst hcs
    exact ⟨none, [], 0, rfl, Nat.le_refl _, by omega, fun i h => by simp at h⟩
  · injection hcs with hcs _
    subst hcs
    have hlen' : ss.length = c := by simpa using hlen
    have hls : (ss.take l).length = l := by rw [List.length_take]; omega
    refine ⟨some ad, ss.take l, c, by rw [hls], by omega, hm, fun i hi => ?_⟩
    have hi' : i < ss.length := by rw [List.length_take] at hi; omega
    have hc := hcell i hi'
    have hsp : ad.spot = none := by
      simpa [Addr.add] using World.cell?_spot (hcell 0 (by omega))
    obtain ⟨b, off, spot⟩ := ad
    subst hsp
    refine ⟨b, off, rfl, ?_⟩
    rw [show (⟨b, off, none⟩ : Addr).add i = ⟨b, off + i, none⟩ by unfold Addr.add; split <;> simp_all] at hc
    rw [hc]
    simp [hi']
end Go.Proofs.YtkncojmalldifaaGreatDoor.Ad
