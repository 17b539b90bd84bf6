/-
  What the laws' own helper 'answers' returns: true. No condition.
-/
import Derived.Test.YtnaodcldnjkklaaPut
import Derived.Test.YtnaodcldnjkklaaRead
import Derived.Lib.SlBytesConst
namespace Go.Proofs.Ytnaodcldnjkklaa.Wd
open Go.RowKit

theorem info26 : (Try.prog.info? 26).map (fun i => (i.zero, i.size)) = some (some (.agg #[.slice none 0 0, .bool false]), 2) := by kernel_rfl

theorem bytes_mark (w : World) (fr : Nat × Nat) : Bytes (fun b => b = w.heap.size) (w.alloc (.cells #[.int .u8 97] 5 fr)) (some ⟨w.heap.size, 0, none⟩) [97] := by
  refine ⟨by simp, .inr ⟨w.heap.size, 0, rfl, rfl, fun i hi => ?_⟩⟩
  rw [cell_of_row _ _ (0 + i) _ _ fr (heap_alloc_new _ _)]
  match i, hi with
  | 0, _ => rfl
  | n + 1, h => exact absurd h (by simp)

set_option maxHeartbeats 1000000 in
set_option maxRecDepth 100000 in
theorem answers (w : World) : Calls Try.prog 8 #[] w fun e w' => e = .returned (.bool true) ∧ Keep (fun _ => False) w w' := by
  have kc : (convert 24 24 (.slice (some ⟨w.heap.size + 1, 0, none⟩) 1 1)).run Try.prog ((w.alloc (.cells #[.slice none 0 0, .bool false] 26)).alloc (.cells #[.int .u8 97] 5)) =
      .ok (.slice (some ⟨w.heap.size + 1, 0, none⟩) 1 1) ((w.alloc (.cells #[.slice none 0 0, .bool false] 26)).alloc (.cells #[.int .u8 97] 5 (1, 2))) := by
    have := Lib.run_convert_bytes_const (P := Try.prog) (w.alloc (.cells #[.slice none 0 0, .bool false] 26)) 24 5 #[.int .u8 97] 1 1 Try.underlying24 Try.underlying5
    simpa using this
  obtain ⟨ho, hv, hs⟩ := byt_back [97] (by decide) []
  rw [List.append_nil] at ho hv hs
  have HO := Lib.hid ho
  have HV := Lib.hid hv
  have HS := Lib.hid hs
  have hd : doneB (some []) = true := rfl
  clear ho hv hs
  go_enter Try.func8, Try.ntmps8
  go_wp2_with fail
  refine (wBytes (fun k => k = w.heap.size + 1) w.heap.size none (some []) _ 1 _ [97] rfl (by decide) _ ((Wr.new w).keep ((Keep.refl (fun _ => False) _).alloc _) (fun h => h) (fun _ _ h => h)) ?hB (fun k hk => ⟨by omega, by simp⟩)).mono ?_
  case hB => have := bytes_mark (w.alloc (.cells #[.slice none 0 0, .bool false] 26)); simpa using this _
  rintro e w1 ⟨q1, rfl, hW1, hk1, hnew1⟩
  have HW1 : Hid (Wr w1 w.heap.size q1 (some (enc [97]))) := hW1
  clear hW1
  go_wp2_with fail
  refine (out w.heap.size q1 (some (enc [97])) (by decide) w1 HW1.out).mono ?_
  rintro e w2 ⟨g2, m2, hm2, hg2, rfl, hat2, hk2⟩
  obtain rfl : m2 = 9 := hm2
  have hA2 := Lib.hid hat2
  clear hat2
  go_wp2_with fail
  refine (read (fun k => k = g2) (some ⟨g2, 0, none⟩) 9 9 (enc [97]) rfl (by decide) w2 (Bytes.of_at hA2.out (enc_lt (by decide)))).mono ?_
  rintro e w3 ⟨p3, g3, rfl, hp3, hg3, hne3, hR3, hk3, _⟩
  have hc3 : w3.cell? ⟨g2, 7, none⟩ = some (.int .u8 1) := hk3.cell ((hA2.out.cell 7).trans rfl) (fun h => h)
  have hA2' : Hid (g2 < p3) := by show g2 < p3; have := hA2.out.lt; omega
  have HR3 := Lib.hid hR3
  clear hR3
  go_wp2_with fail
  refine (byt (fun k => k = g3) p3 (Ne.symm hne3) (some (enc [97])) w3 HR3.out).mono ?_
  rintro e w4 ⟨x4, m4, hm4, rfl, hB4, hR4, hk4⟩
  rw [HV.out] at hm4 hB4
  rw [HS.out] at hR4
  obtain rfl : m4 = 1 := hm4
  rw [HO.out]
  have hc4 : w4.cell? ⟨g2, 7, none⟩ = some (.int .u8 1) := hk4.cell hc3 (fun e => by have := hA2'.out; simp at e; omega)
  have hst : (convert 24 9 (.slice x4 1 1)).run Try.prog w4 = .ok (.string ⟨#[97]⟩) w4 := run_str hB4 1 1 rfl
  have HR4 := Lib.hid hR4
  clear hB4 hR4 hc3
  go_wp2_with fail
  refine (done (fun k => k = g3) p3 (some []) w4 HR4.out).mono ?_
  rintro e w5 ⟨rfl, rfl⟩
  go_wp2
  go_ret
  refine ⟨rfl, ?_⟩
  have k1 : Keep (fun _ => False) w w1 := (((Keep.refl (fun _ => False) w).alloc _).alloc _).trans hk1 (fun k hk h => by rcases h with h | h; omega; cases h)
  refine ((k1.trans hk2 (fun _ _ h => h)).trans hk3 (fun _ _ h => h)).trans hk4 (fun k hk h => ?_)
  have q1 := k1.size
  have q2 := hk2.size
  omega

end Go.Proofs.Ytnaodcldnjkklaa.Wd
