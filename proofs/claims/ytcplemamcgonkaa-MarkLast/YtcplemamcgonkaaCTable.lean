/-
  What the program's 'Table' returns: an array of 256 numbers, eight steps of each index; it makes memory of its own and turns none that was there. No condition.
-/
import Derived.Test.YtcplemamcgonkaaCSteps
import Derived.Deep.WholeRow
import Derived.Deep.MidRow
import Derived.Below
namespace Go.Proofs.Ytcplemamcgonkaa.Crc
open Go.RowKit

/-- The table as it is filled up to index k: the rest is 0. -/
def tabU (k : Nat) : Array Value := (Array.range 256).map fun j => .int .u32 ((if j < k then sts 8 j else 0 : Nat) : Int)
/-- The table. -/
def tab : Array Value := (Array.range 256).map fun j => .int .u32 ((sts 8 j : Nat) : Int)

theorem tabU_size (k : Nat) : (tabU k).size = 256 := by simp [tabU]
theorem tab_size : tab.size = 256 := by simp [tab]
theorem tabU_all : tabU 256 = tab := by
  apply Array.ext
  · simp [tabU_size, tab_size]
  · intro i h1 h2
    have hi : i < 256 := by rw [tab_size] at h2; exact h2
    simp [tabU, tab, hi]
theorem tabU_zero : tabU 0 = Array.replicate 256 (.int .u32 0) := by
  apply Array.ext
  · simp [tabU_size]
  · intro i h1 h2
    simp [tabU]
theorem tabU_next (k : Nat) : (tabU k).setIfInBounds k (.int .u32 ((sts 8 k : Nat) : Int)) = tabU (k + 1) := by
  apply Array.ext
  · simp [tabU_size]
  · intro i h1 h2
    have hi : i < 256 := by rw [tabU_size] at h2; exact h2
    rw [Array.getElem_setIfInBounds (by simpa [tabU_size] using hi)]
    by_cases e : k = i
    · subst e; simp [tabU]
    · have h : (i < k + 1) ↔ (i < k) := by omega
      simp [tabU, e, h]
theorem tab_one : tab.all (·.oneCell') = true := by
  rw [Array.all_eq_true_iff_forall_mem]
  intro v hv
  obtain ⟨j, _, rfl⟩ := Array.mem_map.1 hv
  rfl
theorem tab_at (j : Nat) (hj : j < 256) : tab[j]? = some (.int .u32 ((sts 8 j : Nat) : Int)) := by
  simp [tab, hj]

theorem tabU_at (k : Nat) (hk : k < 256) : (tabU k)[k]? = some (.int .u32 0) := by
  simp [tabU, hk]
theorem below_setRow {B g : Nat} {a w : World} (h : Below B a w) (cs : Array Value) (hg : B ≤ g) : Below B a (w.setRow g cs) :=
  h.trans ⟨rfl, rfl, rfl, by simp [World.setRow], fun k hk => setRow_other w g k cs (by omega)⟩

theorem info27 : (Try.prog.info? 69).map (fun i => (i.zero, i.size)) = some (some (.agg (Array.replicate 256 (.int .u32 0))), 256) := by kernel_rfl

set_option maxHeartbeats 1000000 in
set_option maxRecDepth 100000 in
theorem table (w : World) :
    Calls Try.prog 37 #[] w fun e w' => e = .returned (.agg tab) ∧ Below w.heap.size w w' := by
  have hz := (zero_of_info info27).1
  go_enter Try.func37, Try.ntmps37
  go_wp2
  go_loopw [3] (fun i wr => ∃ k : Nat, k ≤ 256 ∧ i = .int .i64 (k : Int) ∧ wr = (w.alloc (.cells (Array.replicate 256 (.int .u32 0)) 69)).alloc (.cells (tabU k) 69)) (fun i _ => 256 - (intOf i).toNat)
  case atStart => exact ⟨0, by omega, rfl, by rw [tabU_zero]⟩
  case round =>
    obtain ⟨k, hk, rfl, rfl⟩ := hrel
    by_cases h8 : (k : Int) < 256
    · have h0 : (0 : Int) ≤ (k : Int) := by omega
      have hc : (tabU k)[k]? = some (.int .u32 0) := tabU_at k (by omega)
      go_wp2_with (go_at_call 40; refine (eightSteps k (by omega) _).mono ?_; rintro e w' ⟨rfl, rfl⟩)
      go_roundw
      case rel => exact ⟨k + 1, by omega, by go_num, by rw [tabU_next]⟩
      case measure => simp [intOf]; omega
    · have hk8 : k = 256 := by omega
      subst hk8
      rw [tabU_all]
      have hi := (zero_of_info info27).2
      have hI := Lib.hid hi
      clear hi
      go_wp2_with (first
        | (refine wpList_load_row (by rfl) 69 (.tmp 1) (by rfl) (w.heap.size + 1) (by rfl) 69 tab (0, 0) _ (heap_alloc2_new _ _ _) Try.underlying69 (by rfl) (by rw [tab_size]; exact hI.out) ?_)
        | (refine wpList_store_row (by rfl) 69 (.tmp 0) (.tmp 12) (by rfl) w.heap.size tab (by rfl) (by rfl) 69 _ (heap_alloc2_old _ _ _) (by rw [tab_size]; exact hI.out) (by rw [tab_size, Array.size_replicate]) tab_one ?_))
      refine bodyPost_ret (v := .agg tab) (results_cell_row rfl _ _ w.heap.size 69 tab (0, 0) _ rfl (setRow_heap _ _ _ _ _ _ (heap_alloc2_old _ _ _)) Try.underlying69 rfl (by rw [tab_size]; exact (zero_of_info info27).2)) rfl ⟨rfl, ?_⟩
      exact below_setRow (((Below.refl _ w).alloc (Nat.le_refl _) _).alloc (by simp) _) _ (Nat.le_refl _)

end Go.Proofs.Ytcplemamcgonkaa.Crc
