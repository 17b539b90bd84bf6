/-
  What the program's New returns; the host's name, here and in the document's own New.
-/
import Derived.Test.YtcjljldknekhiaaGreatDoorPh
import Derived.Test.YtcjljldknekhiaaGreatDoorMb
import Derived.Test.YtcjljldknekhiaaGreatDoorAProg2
import Derived.Lib.Case
namespace Go.Proofs.YtcjljldknekhiaaGreatDoor.Ln
open Go.RowKit
set_option linter.unusedVariables false
set_option linter.unusedSimpArgs false

/-! ### The host's name -/
def dom9 (h : ByteArray) : Bool := Ad.domain h.data.toList
def low9 (h : ByteArray) : ByteArray := Ad.bs (h.data.toList.map Ad.lower)
def host9 (h : ByteArray) : ByteArray := low9 (if dom9 h = true then h else nX)
theorem low9_size (l : ByteArray) : (low9 l).size = l.size := by
  rw [low9, Ad.bs_size, List.length_map]
  simp
theorem lower_is (c : UInt8) : Lib.lowerB c = Ad.lower c := by
  unfold Lib.lowerB Ad.lower Lib.isUpperB Ad.greatZ
  have e : (decide (65 ≤ c) && decide (c ≤ 90)) = decide ((65 : Int) ≤ (c.toNat : Int) ∧ (c.toNat : Int) ≤ 90) := by
    rw [Bool.eq_iff_iff]
    simp only [Bool.and_eq_true, decide_eq_true_eq, UInt8.le_iff_toNat_le]
    constructor
    · rintro ⟨a, b⟩
      have a' : 65 ≤ c.toNat := a
      have b' : c.toNat ≤ 90 := b
      omega
    · rintro ⟨a, b⟩
      exact ⟨show 65 ≤ c.toNat by omega, show c.toNat ≤ 90 by omega⟩
  rw [e]
theorem lowerC (h : ByteArray) (hd : dom9 h = true) (w : World) (hs : h.size ≤ 1000) : Calls Tryz.prog 47 #[.string h] w fun e w' => e = .returned (.string (low9 h)) ∧ Below w.heap.size w w' := by
  refine (Ad.strings_ToLower_ascii h w (by omega) (fun j b hb => Ad.domain_low hd b (List.mem_of_getElem? hb))).mono ?_
  rintro e w' ⟨rfl, hb⟩
  refine ⟨?_, hb⟩
  have e1 : Lib.toLowerA h.data.toList = h.data.toList.map Ad.lower := by
    unfold Lib.toLowerA
    exact List.map_congr_left (fun c _ => lower_is c)
  rw [e1]
  rfl
set_option maxHeartbeats 1000000 in
theorem phostName (h : ByteArray) (hs : h.size ≤ 1000) (w : World) (hE : Env w) : Calls Tryz.prog 26 #[.string h] w fun e w' => e = .returned (.string (host9 h)) ∧ Keep (fun _ => False) w w' := by
  obtain ⟨⟨m, hm⟩, _⟩ := hE
  have HD := Lib.hid (Ad.domain_walk h m w hm)
  cases hd : dom9 h with
  | false =>
    rw [show Ad.domain h.data.toList = false from hd] at HD
    have HH : Hid (host9 h = nX) := Lib.hid (by rw [host9, hd]; rfl)
    clear hd hm
    go_enter Tryz.func26, Tryz.ntmps26
    go_wp2_with fail
    refine HD.out.mono ?_
    rintro e w1 ⟨rfl, hb⟩
    have HB := Lib.hid hb
    clear hb
    go_wp2
    go_ret
    exact ⟨by rw [HH.out]; rfl, Keep.of_below HB.out⟩
  | true =>
    rw [show Ad.domain h.data.toList = true from hd] at HD
    have HH : Hid (host9 h = low9 h) := Lib.hid (by rw [host9, hd]; rfl)
    have HL := Lib.hid (fun W => lowerC h hd W hs)
    have HC := Lib.hid (fun W => Ad.clone_walk (low9 h) (by rw [low9_size]; exact hs) W)
    clear hd hm
    go_enter Tryz.func26, Tryz.ntmps26
    go_wp2_with fail
    refine HD.out.mono ?_
    rintro e w1 ⟨rfl, hb⟩
    have HB := Lib.hid (Keep.of_below hb)
    clear hb
    go_wp2_with fail
    refine (HL.out _).mono ?_
    rintro e w2 ⟨rfl, hb⟩
    have HB2 := Lib.hid (HB.out.trans (Keep.of_below hb) (fun _ _ h => h))
    clear hb
    go_wp2_with fail
    refine (HC.out _).mono ?_
    rintro e w3 ⟨rfl, hb⟩
    have HB3 := Lib.hid (HB2.out.trans (Keep.of_below hb) (fun _ _ h => h))
    clear hb
    go_wp2
    go_ret
    exact ⟨by rw [HH.out]; rfl, HB3.out⟩
theorem host9_size (h : ByteArray) (hs : h.size ≤ 1000) : (host9 h).size ≤ 1000 := by
  rw [host9, low9_size]
  split
  · exact hs
  · decide

/-! ### A new one -/
def fresh9 (h : ByteArray) (z : Int) : Se := Se.mk h (clampS z) [] [] 0 nobody [] [] 0
theorem new_is (h : ByteArray) (z : Int) : Se.new h z = (fresh9 h z).say (hello h) := rfl
theorem PS.fresh {w : World} {g k : Nat} {h : ByteArray} {z : Int} (hA : At w g 68 (pCells (fresh9 h z) (.pointer (some ⟨k, 0, none⟩)) nilV nilV nilV)) (hL : At w k 65 #[.slice none 0 0]) (hg : 9 ≤ g) (hk : 9 ≤ k) : PS (fun i => i = g ∨ i = k) w g (fresh9 h z) := by
  refine ⟨.pointer (some ⟨k, 0, none⟩), nilV, nilV, nilV, ⟨none, none, none, none, some k⟩, [], ⟨hA, .inl rfl, ?_, ?_, ?_, MidG.empty _ _ _ _, rfl, MidG.empty _ _ _ _, Mid.empty _ _, ?_, fun i hi => by cases hi⟩⟩
  · rintro i (rfl | rfl)
    · exact hA.lt
    · exact hL.lt
  · rintro i (rfl | rfl) <;> assumption
  · rintro i (hi | hi | hi | hi | hi)
    · cases hi
    · cases hi
    · cases hi
    · cases hi
    · injection hi with hi; exact .inr hi.symm
  · exact .inr ⟨by show (0 : Nat) ≠ 6; decide, k, rfl, rfl, ⟨⟨_, hL, Mid.empty _ _⟩, Nat.zero_le _, fun i hi => by cases hi⟩⟩
/-- What New answers. -/
def PMade (host : ByteArray) (size : Int) (w : World) (e : Ending) (w' : World) : Prop :=
  ∃ g F, e = .returned (.pointer (some ⟨g, 0, none⟩)) ∧ VS F w' g (Se.new host size) ∧ Keep (fun _ => False) w w' ∧ (∀ k, F k → w.heap.size ≤ k)
theorem hello_parts (H : ByteArray) : ((str (dig 220) ++ ({ data := #[32] } : ByteArray)) ++ H) ++ ({ data := #[13, 10] } : ByteArray) = hello H := by
  have e1 : str (dig 220) ++ ({ data := #[32] } : ByteArray) = { data := #[50, 50, 48, 32] } := by
    have : dig 220 = [50, 50, 48] := by
      rw [dig, if_neg (by decide), dig, if_neg (by decide), dig, if_pos (by decide)]
      rfl
    rw [this]
    rfl
  rw [e1]
  rfl

set_option maxHeartbeats 4000000 in
set_option maxRecDepth 100000 in
theorem pnew (host : ByteArray) (hh : host.size ≤ 1000) (size : Int) (hz : (Lit.int .i64 size).wf = true) (w : World) (hE : Env w) (h9 : 9 ≤ w.heap.size) :
    Calls Tryz.prog 10 #[.string host, .int .i64 size] w (PMade (host9 host) size w) := by
  have b := bounds_i64 hz
  have HH := Lib.hid (phostName host hh w hE)
  have HE := Lib.hid hE
  have hsz := host9_size host hh
  have HCL : Hid (min (max size 1) 8192 = ((clampS size : Nat) : Int)) := Lib.hid clamp_cell.symm
  have HI := Lib.hid (fun W e => itoaC 220 (by decide) W e)
  have hd := dig_size 220 (by decide)
  have HP := Lib.hid (hello_parts (host9 host))
  obtain ⟨D, hD⟩ : ∃ D, D = str (dig 220) := ⟨_, rfl⟩
  rw [← hD] at HI hd HP
  obtain ⟨H, hH⟩ : ∃ H, H = host9 host := ⟨_, rfl⟩
  rw [← hH] at HH hsz HP
  have HHH := Lib.hid hH
  clear hE hD hH
  go_enter Tryz.func10, Tryz.ntmps10
  go_wp2_with fail
  refine HH.out.mono ?_
  rintro e w1 ⟨rfl, hk1⟩
  have HK1 := Lib.hid hk1
  have hs1 := hk1.size
  clear hk1
  go_wp2_with fail
  rw [HCL.out]
  generalize hW : ((w1.alloc (.cells #[.slice none 0 0] 65)).alloc (.cells #[.string H, .int .i64 ((clampS size : Nat) : Int), .int .i64 0, .pointer (some ⟨w1.heap.size, 0, none⟩), .slice none 0 0, .int .i64 0, .int .i64 0, .int .i64 0, .string { data := #[] }, .slice none 0 0, .slice none 0 0, .int .i64 0] 68)) = W
  have hA : At W (w1.heap.size + 1) 68 (pCells (fresh9 H size) (.pointer (some ⟨w1.heap.size, 0, none⟩)) nilV nilV nilV) := by
    rw [← hW]
    have h0 := At.new (w1.alloc (.cells #[.slice none 0 0] 65)) 68 (pCells (fresh9 H size) (.pointer (some ⟨w1.heap.size, 0, none⟩)) nilV nilV nilV)
    rw [show (w1.alloc (.cells #[.slice none 0 0] 65)).heap.size = w1.heap.size + 1 by simp] at h0
    exact h0
  have hL : At W w1.heap.size 65 #[.slice none 0 0] := by rw [← hW]; exact (At.new w1 _ _).alloc _
  have kW : Keep (fun _ => False) w1 W := by rw [← hW]; exact ((Keep.refl (fun _ => False) w1).alloc _).alloc _
  have N0 := Lib.hid (PNow.start (PS.fresh hA hL (by omega) (by omega)) ((HE.out.quiet HK1.out).quiet kW))
  obtain ⟨e0, _⟩ := N0.out.cells
  have HKW := Lib.hid (HK1.out.trans kW (fun _ _ h => h))
  have HSW := Lib.hid kW.size
  have e0' : W.cell? ⟨w1.heap.size + 1, 0, none⟩ = some (.string H) := e0
  have hq1 : ¬ (9223372036854775807 < D.size + 1) := by omega
  have hq2 : ¬ (9223372036854775807 < D.size + 1 + H.size) := by omega
  have hq3 : ¬ (9223372036854775807 < D.size + 1 + H.size + 2) := by omega
  clear hA hL kW hW e0
  refine wp_region_noPanic ?_
  refine wp_region_held_drew (S := fun w' => w'.cell? ⟨w1.heap.size + 1, 0, none⟩ = some (.string H)) (by kernel_rfl) e0' (fun hHeld => ?_)
  refine wpAnyH_take (i := 0) (v := ?_) rfl (by kernel_rfl) (by kernel_rfl) (by kernel_rfl) (fun _ _ _ h => h) (Or.inl ⟨by rfl, ?_⟩) (by assumption) ?_
  rotate_left
  · (intro wS hSw; (try dsimp only at hSw); (try simp only [List.getElem_toArray, List.getElem_cons_succ, List.getElem_cons_zero]); go_simp; try (with_reducible rfl))
  try simp only [Act.put, List.getElem_toArray, List.getElem_cons_succ, List.getElem_cons_zero, List.setIfInBounds_toArray, List.set_cons_zero, List.set_cons_succ]
  refine wpAnyH_take (i := 3) (v := ?_) rfl (by kernel_rfl) (by kernel_rfl) (by kernel_rfl) (fun _ _ _ h => h) (Or.inl ⟨by rfl, ?_⟩) (by assumption) ?_
  rotate_left
  · (intro wS hSw; (try dsimp only at hSw); (try simp only [List.getElem_toArray, List.getElem_cons_succ, List.getElem_cons_zero]); go_simp; try (with_reducible rfl))
  try simp only [Act.put, List.getElem_toArray, List.getElem_cons_succ, List.getElem_cons_zero, List.setIfInBounds_toArray, List.set_cons_zero, List.set_cons_succ]
  refine wpAnyH_take (i := 4) (v := ?_) rfl (by kernel_rfl) (by kernel_rfl) (by kernel_rfl) (fun _ _ _ h => h) (Or.inl ⟨by rfl, ?_⟩) (by assumption) ?_
  rotate_left
  · (intro wS hSw; (try dsimp only at hSw); (try simp only [List.getElem_toArray, List.getElem_cons_succ, List.getElem_cons_zero]); go_simp; try (with_reducible rfl))
  try simp only [Act.put, List.getElem_toArray, List.getElem_cons_succ, List.getElem_cons_zero, List.setIfInBounds_toArray, List.set_cons_zero, List.set_cons_succ]
  refine wpAnyH_take (i := 5) (v := ?_) rfl (by kernel_rfl) (by kernel_rfl) (by kernel_rfl) (fun _ _ _ h => h) (Or.inl ⟨by rfl, ?_⟩) (by assumption) ?_
  rotate_left
  · (intro wS hSw; (try dsimp only at hSw); (try simp only [List.getElem_toArray, List.getElem_cons_succ, List.getElem_cons_zero]); go_simp; try (with_reducible rfl))
  try simp only [Act.put, List.getElem_toArray, List.getElem_cons_succ, List.getElem_cons_zero, List.setIfInBounds_toArray, List.set_cons_zero, List.set_cons_succ]
  refine wpAnyH_take (i := 6) (v := ?_) rfl (by kernel_rfl) (by kernel_rfl) (by kernel_rfl) (fun _ _ _ h => h) (Or.inl ⟨by rfl, ?_⟩) (by assumption) ?_
  rotate_left
  · (intro wS hSw; (try dsimp only at hSw); (try simp only [List.getElem_toArray, List.getElem_cons_succ, List.getElem_cons_zero]); go_simp; try (with_reducible rfl))
  try simp only [Act.put, List.getElem_toArray, List.getElem_cons_succ, List.getElem_cons_zero, List.setIfInBounds_toArray, List.set_cons_zero, List.set_cons_succ]
  refine wpAnyH_ready (rs := [1]) (by kernel_rfl) (by simp) ?_
  refine AllReadyH.cons rfl (fun K hK => ?_) AllReadyH.nil
  go_simp
  refine (HI.out _ (N0.out.env.quiet ((Keep.refl (fun _ => False) W).drew))).mono ?_
  rintro e w4 ⟨rfl, hk4⟩
  have N4 := Lib.hid (N0.out.quiet (((Keep.refl (fun _ => False) W).drew).trans hk4 (fun _ _ h => h)))
  obtain ⟨e4, _⟩ := N4.out.cells
  have e4' : w4.cell? ⟨w1.heap.size + 1, 0, none⟩ = some (.string H) := e4
  clear hk4 e4
  go_wp2_with fail
  refine hK.out _ _ e4' (fun hHeld => ?_)
  clear hK K
  try simp only [Act.put, List.getElem_toArray, List.getElem_cons_succ, List.getElem_cons_zero, List.setIfInBounds_toArray, List.set_cons_zero, List.set_cons_succ]
  refine wpAnyH_take (i := 2) (v := ?_) rfl (by kernel_rfl) (by kernel_rfl) (by kernel_rfl) (fun _ _ _ h => h) (Or.inl ⟨by rfl, ?_⟩) (by assumption) ?_
  rotate_left
  · (intro wS hSw; (try dsimp only at hSw); (try simp only [List.getElem_toArray, List.getElem_cons_succ, List.getElem_cons_zero]); go_simp; try (with_reducible rfl))
  try simp only [Act.put, List.getElem_toArray, List.getElem_cons_succ, List.getElem_cons_zero, List.setIfInBounds_toArray, List.set_cons_zero, List.set_cons_succ]
  refine wpAnyH_take (i := 7) (v := ?_) rfl (by kernel_rfl) (by kernel_rfl) (by kernel_rfl) (fun _ _ _ h => h) (Or.inl ⟨by rfl, ?_⟩) (by assumption) ?_
  rotate_left
  · (intro wS hSw; (try dsimp only at hSw); (try simp only [List.getElem_toArray, List.getElem_cons_succ, List.getElem_cons_zero]); go_simp; try (with_reducible rfl))
  try simp only [Act.put, List.getElem_toArray, List.getElem_cons_succ, List.getElem_cons_zero, List.setIfInBounds_toArray, List.set_cons_zero, List.set_cons_succ]
  refine wpAnyH_take (i := 8) (v := ?_) rfl (by kernel_rfl) (by kernel_rfl) (by kernel_rfl) (fun _ _ _ h => h) (Or.inl ⟨by rfl, ?_⟩) (by assumption) ?_
  rotate_left
  · (intro wS hSw; (try dsimp only at hSw); (try simp only [List.getElem_toArray, List.getElem_cons_succ, List.getElem_cons_zero]); go_simp; try (with_reducible rfl))
  try simp only [Act.put, List.getElem_toArray, List.getElem_cons_succ, List.getElem_cons_zero, List.setIfInBounds_toArray, List.set_cons_zero, List.set_cons_succ]
  refine wpAnyH_ready (rs := [9]) (by kernel_rfl) (by simp) ?_
  refine AllReadyH.cons rfl (fun K hK => ?_) AllReadyH.nil
  go_simp
  refine (psay N4.out.rs _ (by simp [fresh9])).mono ?_
  rintro e w5 hd5
  rw [HP.out] at hd5
  obtain ⟨rfl, F5, hN5⟩ := N4.out.did hd5
  have N5 := Lib.hid hN5
  obtain ⟨e5, _⟩ := hN5.cells
  have e5' : w5.cell? ⟨w1.heap.size + 1, 0, none⟩ = some (.string H) := e5
  clear hd5 hN5 e5
  go_wp2_with fail
  refine hK.out _ _ e5' (fun hHeld => ?_)
  clear hK K
  try simp only [Act.put, List.getElem_toArray, List.getElem_cons_succ, List.getElem_cons_zero, List.setIfInBounds_toArray, List.set_cons_zero, List.set_cons_succ]
  refine wpAnyH_done (by kernel_rfl) ?_ _
  refine NoPanic.normal ?_
  go_wp2
  go_ret
  rw [← HHH.out]
  refine ⟨w1.heap.size + 1, F5, rfl, N5.out.rs, ?_, fun k hk => ?_⟩
  · refine HKW.out.trans N5.out.kp (fun i hi e => ?_)
    have := HK1.out.size
    omega
  · have h1 := HK1.out.size
    have h2 := HSW.out
    rcases N5.out.more k hk with e | e
    · omega
    · omega
end Go.Proofs.YtcjljldknekhiaaGreatDoor.Ln
