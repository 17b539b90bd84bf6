/-
  What the program's 'Sum' returns: the sum of the bytes, for every row of bytes; it makes memory of its own and turns none that was there.
-/
import Derived.Test.YtcplemamcgonkaaCTable
namespace Go.Proofs.Ytcplemamcgonkaa.Crc
open Go.RowKit

/-- The slice that begins at 'x' has 'bs' as its bytes. -/
def Bytes (w : World) (x : Option Addr) (bs : List Nat) : Prop :=
  (∀ c ∈ bs, c < 256) ∧ (bs = [] ∨ ∃ b off, x = some ⟨b, off, none⟩ ∧ ∀ i, i < bs.length → w.cell? ⟨b, off + i, none⟩ = some (.int .u8 ((bs.getD i 0 : Nat) : Int)))

theorem Bytes.below {w w' : World} {x : Option Addr} {bs : List Nat} {B : Nat} (h : Bytes w x bs) (hb : Below B w w') (hB : ∀ b off, x = some ⟨b, off, none⟩ → bs ≠ [] → b < B) : Bytes w' x bs := by
  refine ⟨h.1, ?_⟩
  rcases h.2 with h0 | ⟨b, off, rfl, hc⟩
  · exact .inl h0
  · by_cases h0 : bs = []
    · exact .inl h0
    · exact .inr ⟨b, off, rfl, fun i hi => (hb.cell (p := ⟨b, off + i, none⟩) (hB b off rfl h0)).trans (hc i hi)⟩
theorem Bytes.lt {w : World} {x : Option Addr} {bs : List Nat} (h : Bytes w x bs) : ∀ b off, x = some ⟨b, off, none⟩ → bs ≠ [] → b < w.heap.size := by
  intro b off hx hn
  rcases h.2 with h0 | ⟨b', off', hx', hc⟩
  · exact absurd h0 hn
  · rw [hx] at hx'
    injection hx' with hx'
    injection hx' with e1 e2
    subst e1
    have h0 : 0 < bs.length := List.length_pos_iff.2 hn
    exact block_lt_of_cell (hc 0 h0)
/-- The bytes are there behind a call that turned nothing that was there. -/
theorem Bytes.behind {w w' : World} {x : Option Addr} {bs : List Nat} (h : Bytes w x bs) (hb : Below w.heap.size w w') : Bytes w' x bs := h.below hb h.lt

theorem shr8 (s : Nat) : (s : Int) / 256 = ((s / 256 : Nat) : Int) := rfl
theorem xor8 (s c : Nat) (hc : c < 256) : bits .xor .u8 ((s : Int) % 256) (c : Int) = (((s % 256) ^^^ c : Nat) : Int) := by
  have := u8_xor_nat (s % 256) c (by omega) hc
  rw [← this]
  rfl
theorem xor32 (s t : Nat) (hs : s < 4294967296) (ht : t < 4294967296) : bits .xor .u32 ((s : Int) / 256) (t : Int) = ((s / 256 ^^^ t : Nat) : Int) := by
  have := u32_xor_nat (s / 256) t (by omega) ht
  rw [← this]
  rfl

theorem not32 (s : Nat) (hs : s < 4294967296) : bits .xor .u32 IntKind.u32.max (s : Int) = ((4294967295 - s : Nat) : Int) := by
  have := u32_xor_nat 4294967295 s (by omega) hs
  rw [Nat.xor_comm, ← not_eq s hs] at this
  exact this
theorem getD_lt {bs : List Nat} (h : ∀ c ∈ bs, c < 256) (k : Nat) (hk : k < bs.length) : bs.getD k 0 < 256 := by
  have e : bs.getD k 0 = bs[k] := by simp [hk]
  rw [e]
  exact h _ (List.getElem_mem _)

set_option maxHeartbeats 1000000 in
set_option maxRecDepth 100000 in
theorem sumNone (x : Option Addr) (cap : Nat) (w : World) :
    Calls Try.prog 31 #[.slice x 0 cap] w fun e w' => e = .returned (.int .u32 ((sum [] : Nat) : Int)) ∧ Below w.heap.size w w' := by
  have hz := (zero_of_info info27).1
  have HI := Lib.hid (zero_of_info info27).2
  have hn := not32 4294967295 (by omega)
  go_enter Try.func31, Try.ntmps31
  go_wp2_with (first
    | (go_at_call 37; refine (table _).mono ?_; rintro e w1 ⟨rfl, hb1⟩)
    | (refine wpList_store_row (by rfl) 69 (.tmp 3) (.tmp 6) (by rfl) w1.heap.size tab (by rfl) (by rfl) 69 _ (heap_alloc_new _ _) (by rw [tab_size]; exact HI.out) (by rw [tab_size, Array.size_replicate]) tab_one ?_; rw [World.setRow_alloc_new]))
  go_loop [4, 9] (fun x i => x = .int .u32 4294967295 ∧ i = .int .i64 0) (fun _ _ => 0)
  case atStart => exact ⟨rfl, rfl⟩
  case round =>
    obtain ⟨rfl, rfl⟩ := hrel
    go_wp2
    go_ret
    exact ⟨rfl, hb1.alloc hb1.size _⟩

set_option maxHeartbeats 1000000 in
set_option maxRecDepth 100000 in
theorem sumSome (b off cap : Nat) (bs : List Nat) (hl : bs.length ≤ 4611686018427387904) (w : World) (hbs : ∀ c ∈ bs, c < 256) (hc : ∀ i, i < bs.length → w.cell? ⟨b, off + i, none⟩ = some (.int .u8 ((bs.getD i 0 : Nat) : Int))) :
    Calls Try.prog 31 #[.slice (some ⟨b, off, none⟩) bs.length cap] w fun e w' => e = .returned (.int .u32 ((sum bs : Nat) : Int)) ∧ Below w.heap.size w w' := by
  have hz := (zero_of_info info27).1
  have HI := Lib.hid (zero_of_info info27).2
  have HB := Lib.hid hbs
  have HC := Lib.hid hc
  clear hbs hc
  go_enter Try.func31, Try.ntmps31
  go_wp2_with (first
    | (go_at_call 37; refine (table _).mono ?_; rintro e w1 ⟨rfl, hb1⟩)
    | (refine wpList_store_row (by rfl) 69 (.tmp 3) (.tmp 6) (by rfl) w1.heap.size tab (by rfl) (by rfl) 69 _ (heap_alloc_new _ _) (by rw [tab_size]; exact HI.out) (by rw [tab_size, Array.size_replicate]) tab_one ?_; rw [World.setRow_alloc_new]))
  go_loop [4, 9] (fun x i => ∃ k s : Nat, k ≤ bs.length ∧ s < 4294967296 ∧ x = .int .u32 (s : Int) ∧ i = .int .i64 (k : Int) ∧ Hid (s = run 4294967295 (bs.take k))) (fun _ i => bs.length - (intOf i).toNat)
  case atStart => exact ⟨0, 4294967295, by omega, by omega, rfl, rfl, rfl⟩
  case round =>
    obtain ⟨k, s, hk, hs, rfl, rfl, HR⟩ := hrel
    have s0 : (0 : Int) ≤ (s : Int) := by omega
    have s1 : (s : Int) ≤ 4294967295 := by omega
    by_cases h8 : (k : Int) < (bs.length : Int)
    · have hkl : k < bs.length := by omega
      have hcell := HC.out k hkl
      obtain ⟨c, hcd⟩ : ∃ c, c = bs.getD k 0 := ⟨_, rfl⟩
      rw [← hcd] at hcell
      have hcm : c < 256 := by rw [hcd]; exact getD_lt HB.out k hkl
      have hlt : b < w.heap.size := block_lt_of_cell hcell
      have hcell2 : (w1.alloc (.cells tab 69)).cell? ⟨b, off + k, none⟩ = some (.int .u8 (c : Int)) := by
        rw [World.cell?_alloc_past _ b (off + k) (by have := hb1.size; omega)]
        exact (hb1.cell (p := ⟨b, off + k, none⟩) hlt).trans hcell
      have hx8 := xor8 s c hcm
      obtain ⟨j, hj⟩ : ∃ j, j = (s % 256) ^^^ c := ⟨_, rfl⟩
      rw [← hj] at hx8
      have hjl : j < 256 := by rw [hj]; exact xor_lt8 (by omega) hcm
      have hj0 : (0 : Int) ≤ (j : Int) := by omega
      have hj1 : (j : Int) < 256 := by omega
      have htj := tab_at j hjl
      have hx32 := xor32 s (sts 8 j) hs (sts_lt _ _ (by omega))
      have HD := Lib.hid hcd
      have HJ := Lib.hid hj
      clear hcd hj hcell
      go_wp2
      go_round
      case rel =>
        refine ⟨k + 1, s / 256 ^^^ sts 8 j, by omega, xor_lt32 (by omega) (sts_lt _ _ (by omega)), rfl, by go_num, ?_⟩
        show s / 256 ^^^ sts 8 j = run 4294967295 (bs.take (k + 1))
        rw [run_take_succ _ _ _ hkl, ← HR.out, HJ.out, HD.out]
        rfl
      case measure => simp [intOf]; omega
    · have hkk : k = bs.length := by omega
      have HK := Lib.hid hkk
      clear hkk
      have hn := not32 s hs
      go_wp2
      go_ret
      refine ⟨ret_int (congrArg Int.ofNat ?_), (hb1.alloc hb1.size _)⟩
      rw [HR.out, HK.out, List.take_length]
      rfl

/-- For every slice of bytes. -/
theorem sumOf (x : Option Addr) (cap : Nat) (bs : List Nat) (hl : bs.length ≤ 4611686018427387904) (w : World) (h : Bytes w x bs) :
    Calls Try.prog 31 #[.slice x bs.length cap] w fun e w' => e = .returned (.int .u32 ((sum bs : Nat) : Int)) ∧ Below w.heap.size w w' := by
  rcases h.2 with h0 | ⟨b, off, rfl, hc⟩
  · subst h0
    exact sumNone x cap w
  · exact sumSome b off cap bs hl w h.1 hc

end Go.Proofs.Ytcplemamcgonkaa.Crc
