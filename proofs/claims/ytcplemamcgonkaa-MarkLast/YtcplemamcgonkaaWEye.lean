/-
  What the document's own reader, the eye, answers to 'Num' and 'Bytes': the same as the program's.
-/
import Derived.Test.YtcplemamcgonkaaWRef
namespace Go.Proofs.Ytcplemamcgonkaa.Ln
open Go.RowKit

/-- The eye in block p stands at s; what it reads lies in a block of P. -/
def Ey (P : Nat → Prop) (w : World) (p : Nat) : Option (List Nat) → Prop
  | none => ∃ x n cap, n ≤ cap ∧ At w p 57 #[.slice x n cap, .bool true]
  | some bs => ∃ x n cap, n = bs.length ∧ n ≤ cap ∧ At w p 57 #[.slice x n cap, .bool false] ∧ Bytes P w x bs
theorem Ey.at {P : Nat → Prop} {w : World} {p : Nat} {s : Option (List Nat)} (h : Ey P w p s) : ∃ cs, At w p 57 cs := by
  rcases s with _ | bs
  · obtain ⟨x, n, cap, _, h⟩ := h
    exact ⟨_, h⟩
  · obtain ⟨x, n, cap, _, _, h, _⟩ := h
    exact ⟨_, h⟩
theorem Ey.keep {P S : Nat → Prop} {w w' : World} {p : Nat} {s : Option (List Nat)} (h : Ey P w p s) (k : Keep S w w') (hp : ¬ S p) (hs : ∀ b, b < w.heap.size → P b → ¬ S b) : Ey P w' p s := by
  rcases s with _ | bs
  · obtain ⟨x, n, cap, h1, h⟩ := h
    exact ⟨x, n, cap, h1, h.keep k hp⟩
  · obtain ⟨x, n, cap, h1, h2, h3, h4⟩ := h
    exact ⟨x, n, cap, h1, h2, h3.keep k hp, h4.keep k hs⟩
/-- What the eye's 'Num' answers. -/
def EyNum (P : Nat → Prop) (p : Nat) (s : Option (List Nat)) (w : World) (e : Ending) (w' : World) : Prop :=
  e = .returned (.int .i64 ((numV s : Nat) : Int)) ∧ Ey P w' p (numS s) ∧ Keep (· = p) w w' ∧ w'.heap.size = w.heap.size

theorem mul256 (X : Nat) (h : X < 72057594037927936) : IntKind.u64.wrap ((X : Int) * 256) = (X : Int) * 256 := by
  simp only [IntKind.wrap, IntKind.bits, IntKind.signed]
  simp
  omega
theorem add256 (X c : Nat) (h : X < 72057594037927936) (hc : c < 256) : IntKind.u64.wrap ((X : Int) * 256 + (c : Int)) = ((X * 256 + c : Nat) : Int) := by
  simp only [IntKind.wrap, IntKind.bits, IntKind.signed]
  simp
  omega

set_option maxHeartbeats 1000000 in
theorem eyNum (P : Nat → Prop) (p : Nat) (hP : ¬ P p) (s : Option (List Nat)) (w : World) (h : Ey P w p s) : Calls Try.prog 27 #[.pointer (some ⟨p, 0, none⟩)] w (EyNum P p s w) := by
  rcases s with _ | bs
  · obtain ⟨x, n, cap, hnc, hA⟩ := h
    have c0 := hA.cell 0
    have c1 := hA.cell 1
    have f1 := hA.frozen 1
    simp at c0 c1
    have HA := Lib.hid hA
    clear hA
    go_enter Try.func27, Try.ntmps27
    go_wp2
    go_ret
    exact ⟨rfl, ⟨x, n, cap, hnc, HA.out.put 1 (.bool true)⟩, (Keep.refl (· = p) w).setCell (p := ⟨p, 1, none⟩) (fun _ => rfl) _, by simp [World.setCell]⟩
  · obtain ⟨x, n, cap, hn, hnc, hA, hB⟩ := h
    have c0 := hA.cell 0
    have c1 := hA.cell 1
    have f0 := hA.frozen 0
    have f1 := hA.frozen 1
    simp at c0 c1
    have HA := Lib.hid hA
    have HB := Lib.hid hB
    have HN := Lib.hid hn
    clear hA hB hn
    by_cases h8 : (n : Int) < 8
    · have HO : Hid (numOk (some bs) = false) := by show _ = _; exact numOk_short (by have := HN.out; omega)
      go_enter Try.func27, Try.ntmps27
      go_wp2
      go_ret
      refine ⟨?_, ?_, (Keep.refl (· = p) w).setCell (p := ⟨p, 1, none⟩) (fun _ => rfl) _, by simp [World.setCell]⟩
      · rw [numV_no HO.out]; rfl
      · rw [numS_no HO.out]; exact ⟨x, n, cap, hnc, HA.out.put 1 (.bool true)⟩
    · have HL : Hid (8 ≤ bs.length) := by show 8 ≤ bs.length; have := HN.out; omega
      have c8 : (8 : Int) ≤ (n : Int) := by omega
      obtain ⟨y, s3, s4, hy⟩ := wcut_drop x n cap 8 (by omega) hnc
      have s5 : ∀ w, (Instr.slice 24 (.slice x n cap) (some (.int .i64 8)) none none).run Try.prog w = .ok (.slice y (n - 8) (cap - 8)) w := s3
      have s6 : ∀ w, (Instr.sliceAt 24 (.slice x n cap) (some (.int .i64 8)) none none).run Try.prog w = .ok (.slice y (n - 8) (cap - 8)) w := s4
      have HY := Lib.hid hy
      clear hy s3 s4
      go_enter Try.func27, Try.ntmps27
      go_wp2
      go_loop [3, 4] (fun t i => ∃ k X : Nat, k ≤ 8 ∧ X < 18446744073709551616 ∧ i = .int .i64 (k : Int) ∧ t = .int .u64 (X : Int) ∧ Hid (X = val (bs.take k))) (fun _ i => 8 - (intOf i).toNat)
      case atStart => exact ⟨0, 0, by omega, by omega, rfl, rfl, rfl⟩
      case round =>
        obtain ⟨k, X, hk8, hX, rfl, rfl, HX⟩ := hrel
        by_cases hlt : (k : Int) < 8
        · have hXs : X < 72057594037927936 := by rw [HX.out]; exact val_take_small bs HB.out.1 k (by omega)
          obtain ⟨b, off, _, rfl, hcell⟩ := HB.out.at k (by have := HL.out; omega)
          obtain ⟨c, hc⟩ : ∃ c, c = bs.getD k 0 := ⟨_, rfl⟩
          rw [← hc] at hcell
          have hcl : c < 256 := by rw [hc]; exact getD_lt HB.out.1 k (by have := HL.out; omega)
          have e1 := mul256 X hXs
          have e2 := add256 X c hXs hcl
          have HC := Lib.hid hc
          clear hc
          have k0 : (0 : Int) ≤ (k : Int) := by omega
          have k1 : (k : Int) < (n : Int) := by omega
          go_wp2
          go_round
          case rel =>
            refine ⟨k + 1, X * 256 + c, by omega, by omega, by go_num, by go_num, ?_⟩
            show X * 256 + c = val (bs.take (k + 1))
            rw [val_take_succ bs k (by have := HL.out; omega), ← HX.out, ← HC.out]
          case measure => simp [intOf]; omega
        · have hk8' : k = 8 := by omega
          have HXX : Hid (X = val (bs.take 8)) := by show X = _; rw [HX.out, hk8']
          clear hk8'
          by_cases hle : (X : Int) ≤ 4611686018427387904
          · have hn : numOk (some bs) = true := numOk_of HL.out (by rw [← HXX.out]; unfold top; omega)
            have HN2 := Lib.hid hn
            clear hn
            have hgt : ¬ ((4611686018427387904 : Int) < (X : Int)) := by omega
            go_wp2
            go_ret
            obtain ⟨bs', h1, _, _, h2, h3⟩ := numOk_some HN2.out
            injection h1 with h1
            subst h1
            have k := (Keep.refl (· = p) w).setCell (p := ⟨p, 0, none⟩) (fun _ => rfl) (.slice y (n - 8) (cap - 8))
            refine ⟨?_, ?_, k, by simp [World.setCell]⟩
            · rw [h2, ← HXX.out]; rfl
            · rw [h3]
              exact ⟨y, n - 8, cap - 8, by rw [List.length_drop, HN.out], by omega, HA.out.put 0 _, (HY.out P w bs HN.out.symm HB.out).keep k (fun b _ hb e => hP (e ▸ hb))⟩
          · have hn : numOk (some bs) = false := numOk_great HL.out (by rw [← HXX.out]; unfold top; omega)
            have HO := Lib.hid hn
            clear hn
            have hgt : (4611686018427387904 : Int) < (X : Int) := by omega
            go_wp2
            go_ret
            refine ⟨?_, ?_, (Keep.refl (· = p) w).setCell (p := ⟨p, 1, none⟩) (fun _ => rfl) _, by simp [World.setCell]⟩
            · rw [numV_no HO.out]; rfl
            · rw [numS_no HO.out]; exact ⟨x, n, cap, hnc, HA.out.put 1 (.bool true)⟩

theorem info42 : (Try.prog.info? 57).map (fun i => (i.zero, i.size)) = some (some (.agg #[.slice none 0 0, .bool false]), 2) := by kernel_rfl

end Go.Proofs.Ytcplemamcgonkaa.Ln
