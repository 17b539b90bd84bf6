/-
  Stage 13: what the cards give the walks: the library's variables as they are laid; slices of bytes and of strings as they come in.
-/
import Derived.Test.YtlpeiejohgchmaaDoorI5
import Derived.Test.YtlpeiejohgchmaaDoorI6
import Derived.Test.YtlpeiejohgchmaaDoorI7
import Derived.Test.YtlpeiejohgchmaaDoorI8
import Derived.Test.YtlpeiejohgchmaaDoorI11
import Derived.Deep.Slices
import Derived.SizedLaws
import Derived.SliceStrings
import Derived.Lib.LaidTab
import Derived.Stop.LaidErr
import Derived.SevenTiedAt
import Derived.Stop.Joined
import Derived.Deep.DeepHandedRow
namespace Go.Proofs.YtlpeiejohgchmaaDoor.Fs
open Go.RowKit Go.ChangeShapes Go.WideShapes Go.Deep
set_option linter.unusedVariables false

theorem laid_size {P : Program} {n : String} {d : DataW Unit} {r : List (String × DataW Unit)} {w : World} {k : Nat} (hk : P.globalNamed n = some k) (h : laidMet P ((n, d) :: r) w) : k < w.heap.size := by
  obtain ⟨ps, ⟨g, t, cs, fuel, p, q, hg, _, hv, _⟩, _⟩ := h
  obtain rfl := Option.some.inj (hk.symm.trans hg)
  unfold World.var? at hv
  rw [hg] at hv
  simp only [Option.bind_some] at hv
  rcases Nat.lt_or_ge k w.heap.size with h' | h'
  · exact h'
  · rw [Array.getElem?_eq_none h'] at hv; simp at hv
theorem star : "*" ++ "errors.errorString" = "*errors.errorString" := by decide
theorem row_err (u : TypeId) (h : Tryd.prog.typeName? 3 u = some "*errors.errorString") : u = 129 :=
  typeName_ptr_named (nm := "errors.errorString") (by rw [star]; kernel_rfl) (by kernel_rfl) (by decide) u (by rw [star]; exact h)
theorem env13 (W : World) (hL : laidMetH Tryd.prog Rows.idsNamesRow.laid W) : Glob W := by
  rw [MakeChecks.laidMetH_plain _ _ _ (by kernel_rfl)] at hL
  have h0 : laidMet Tryd.prog (("math/bits.deBruijn32tab", Rows.laid_math_bits_deBruijn32tab) :: ("math/bits.deBruijn64tab", Rows.laid_math_bits_deBruijn64tab) :: ("internal/strconv.uint64pow10", Rows.laid_internal_strconv_uint64pow10) :: ("strconv.ErrRange", Rows.laid_strconv_ErrRange) :: [("strconv.ErrSyntax", Rows.laid_strconv_ErrSyntax)]) W := hL
  have h1 := laidMet.tail h0
  have h2 := laidMet.tail h1
  have h3 := laidMet.tail h2
  have h4 := laidMet.tail h3
  have u73 := Tryd.underlying73
  refine ⟨laid_size (k := 4) (by kernel_rfl) h1, Lib.tabIs_of_head (k := .u64) (zs := Lib.pow10Tab) (g := 0) (t := 102) (e := 84) (n := 20) (by kernel_rfl) (by kernel_rfl) (by kernel_rfl) (by kernel_rfl) (by kernel_rfl) (by kernel_rfl) h2, ?_, ?_⟩
  · obtain ⟨a, s, hv, _⟩ := laid_sentinel h4 (g := 1) (by kernel_rfl) (by kernel_rfl) u73 row_err Tryd.underlying129 Tryd.underlying131 rfl rfl Tryd.underlying9 (by kernel_rfl) (by kernel_rfl)
    exact ⟨_, _, hv⟩
  · obtain ⟨a, s, hv, _⟩ := laid_sentinel h3 (g := 2) (by kernel_rfl) (by kernel_rfl) u73 row_err Tryd.underlying129 Tryd.underlying131 rfl rfl Tryd.underlying9 (by kernel_rfl) (by kernel_rfl)
    exact ⟨_, _, hv⟩

section
variable {H : Type} {enc : TypeId × Value → H} {W : World}
theorem arg_bytes {fuel : Nat} {v : Value} {x : DataW H × List MemPlace} (h : DataW.trod enc Tryd.prog W 0 (fun _ => true) true fuel 25 [v] = some x) :
    ∃ a bs cap, v = .slice a bs.length cap ∧ bs.length ≤ cap ∧ cap ≤ 9223372036854775807 ∧ Bytes (fun k => k < W.heap.size) W a bs := by
  rcases open_ints Tryd.underlying25 Tryd.underlying5 (by kernel_rfl) h with ⟨hcs, _⟩ | ⟨ad, l, c, zs, hcs, _, hl, hm, hz, hx, hcell, hwz⟩
  · injection hcs with hcs _
    subst hcs
    exact ⟨none, [], 0, rfl, Nat.le_refl _, by omega, Bytes.nil _ _ _⟩
  · injection hcs with hcs _
    subst hcs
    have hz' : zs.length = c := by simpa using hz
    obtain ⟨bs, h1, h2, h3, h4⟩ := bytes_of (w := W) (a := some ad) (len := l) (cap := c) (zs := zs) (.inr ⟨ad, rfl, hl, hm, hz', hcell, hwz⟩)
    subst h1
    exact ⟨some ad, bs, c, rfl, h2, h3, h4⟩
theorem arg_strs {fuel : Nat} {v : Value} {x : DataW H × List MemPlace} (h : DataW.trod enc Tryd.prog W 0 (fun _ => true) true fuel 38 [v] = some x) :
    ∃ a L cap, v = .slice a L.length cap ∧ L.length ≤ cap ∧ cap ≤ 9223372036854775807 ∧ StrsA W a L ∧ ∀ s ∈ L, s.size ≤ 9223372036854775807 := by
  rcases Go.ChangeShapes.open_strings Tryd.underlying38 Tryd.underlying9 (by kernel_rfl) h with ⟨hcs, _⟩ | ⟨ad, l, c, ss, hcs, _, hl, hm, hlen, _, hcell, hsz⟩
  · injection hcs with hcs _
    subst hcs
    exact ⟨none, [], 0, rfl, Nat.le_refl _, by omega, fun i h => by simp at h, fun s h => by cases h⟩
  · injection hcs with hcs _
    subst hcs
    have hlen' : ss.length = c := by simpa using hlen
    have hls : (ss.take l).length = l := by rw [List.length_take]; omega
    refine ⟨some ad, ss.take l, c, by rw [hls], by omega, hm, fun i hi => ?_, fun s hs => ?_⟩
    · have hi' : i < ss.length := by rw [List.length_take] at hi; omega
      have hc := hcell i hi'
      have hsp : ad.spot = none := by
        simpa [Addr.add] using World.cell?_spot (hcell 0 (by omega))
      obtain ⟨b, off, spot⟩ := ad
      subst hsp
      refine ⟨b, off, rfl, ?_⟩
      rw [show (⟨b, off, none⟩ : Addr).add i = ⟨b, off + i, none⟩ by unfold Addr.add; split <;> simp_all] at hc
      rw [hc]
      simp [hi']
    · exact hsz s (List.mem_of_mem_take hs)
end
end Go.Proofs.YtlpeiejohgchmaaDoor.Fs
