/-
  What the law's own same, and the document's Texts, return of two events that are the same; a session that is none.
-/
import Derived.Test.YtcjljldknekhiaaGreatDoorPn
import Derived.BigQuiet
namespace Go.Proofs.YtcjljldknekhiaaGreatDoor.Ln
open Go.RowKit
set_option linter.unusedVariables false
set_option linter.unusedSimpArgs false

def kindOf : Ev → Int
  | .say _ => 1
  | .keep _ _ _ => 2
  | .shut => 3
def textOf : Ev → ByteArray
  | .say t => t
  | _ => nobody
def fromOf : Ev → ByteArray
  | .keep f _ _ => f
  | _ => nobody
def rcOf : Ev → List ByteArray
  | .keep _ r _ => r
  | _ => []
def bodyOf : Ev → List Nat
  | .keep _ _ b => b
  | _ => []
theorem evCells_inj {k k' : Int} {t t' f f' : ByteArray} {r r' b b' : Value} (h : evCells k t f r b = evCells k' t' f' r' b') : k = k' ∧ t = t' ∧ f = f' ∧ r = r' ∧ b = b' := by
  unfold evCells at h
  simp only [List.cons.injEq, Value.int.injEq, Value.string.injEq, true_and, and_true] at h
  exact h
theorem EvAt.parts {R : Nat → Prop} {w : World} {e : Ev} {k : Int} {t f : ByteArray} {r b : Value} (h : EvAt R w e (evCells k t f r b)) : k = kindOf e ∧ t = textOf e ∧ f = fromOf e ∧ TxtR R w r (rcOf e) ∧ ByV R w b (bodyOf e) := by
  cases e with
  | say s =>
    obtain ⟨rfl, rfl, rfl, rfl, rfl⟩ := evCells_inj (show evCells k t f r b = evCells 1 s nobody nilV nilV from h)
    exact ⟨rfl, rfl, rfl, TxtR.nil _ _, ByV.nil _ _⟩
  | keep g rr bb =>
    obtain ⟨rv, bv, he, h1, h2⟩ := h
    obtain ⟨rfl, rfl, rfl, rfl, rfl⟩ := evCells_inj he
    exact ⟨rfl, rfl, rfl, h1, h2⟩
  | shut =>
    obtain ⟨rfl, rfl, rfl, rfl, rfl⟩ := evCells_inj (show evCells k t f r b = evCells 3 nobody nobody nilV nilV from h)
    exact ⟨rfl, rfl, rfl, TxtR.nil _ _, ByV.nil _ _⟩

/-! ### Texts -/
set_option maxHeartbeats 4000000 in
set_option maxRecDepth 100000 in
theorem textsC {R R' : Nat → Prop} {w : World} {L : List ByteArray} (x x' : Option Addr) (n n' c c' : Nat) (h : TxtR R w (.slice x n c) L) (h' : TxtR R' w (.slice x' n' c') L) (hl : L.length ≤ 1000000) :
    Calls Tryz.prog 21 #[.slice x n c, .slice x' n' c'] w fun e w' => e = .returned (.bool true) ∧ Keep (fun _ => False) w w' := by
  obtain ⟨y, d, hv, hc, hx⟩ := h
  obtain ⟨y', d', hv', hc', hx'⟩ := h'
  injection hv with e1 e2 e3
  injection hv' with e4 e5 e6
  subst e1 e3 e4 e6 e2
  subst e5
  have hcell : ∀ i, i < L.length → ∃ b off b' off', x = some ⟨b, off, none⟩ ∧ x' = some ⟨b', off', none⟩ ∧ w.cell? ⟨b, off + i, none⟩ = some (.string (L.getD i nobody)) ∧ w.cell? ⟨b', off' + i, none⟩ = some (.string (L.getD i nobody)) := fun i hi => by
    rcases hx with h0 | ⟨b, off, _, hb, hcb⟩
    · subst h0; simp at hi
    · rcases hx' with h0 | ⟨b', off', _, hb', hcb'⟩
      · subst h0; simp at hi
      · exact ⟨b, off, b', off', hb, hb', hcb i hi, hcb' i hi⟩
  have HC := Lib.hid hcell
  obtain ⟨N, hN⟩ : ∃ N, N = L.length := ⟨_, rfl⟩
  rw [← hN] at HC hl hc hc'
  rw [← hN]
  clear hcell hx hx' hN
  go_enter Tryz.func21, Tryz.ntmps21
  go_wp2
  go_loopw [5] (fun i wr => ∃ k : Nat, k ≤ N ∧ i = .int .i64 (k : Int) ∧ Hid (Keep (fun _ => False) w wr)) (fun i _ => N - (intOf i).toNat)
  case atStart => exact ⟨0, Nat.zero_le _, rfl, Keep.refl _ _⟩
  case round =>
    obtain ⟨k, hk, rfl, HK⟩ := hrel
    by_cases hlt : (k : Int) < (N : Int)
    · obtain ⟨b, off, b', off', e1, e2, c1, c2⟩ := HC.out k (by omega)
      subst e1 e2
      have d1 := HK.out.cell c1 (fun h => h)
      have d2 := HK.out.cell c2 (fun h => h)
      have hkn : k < N := by omega
      have k0 : (0 : Int) ≤ (k : Int) := by omega
      have HKN := Lib.hid hkn
      generalize L.getD k nobody = X at d1 d2
      clear c1 c2
      go_wp2
      go_quiet (fail)
      go_wp2
      go_roundw
      case rel => exact ⟨k + 1, HKN.out, by go_num, HK.out.drewN _⟩
      case measure => have := HKN.out; simp [intOf]; omega
    · go_wp2
      go_ret
      exact ⟨rfl, HK.out⟩

/-! ### The same event -/
set_option maxHeartbeats 4000000 in
set_option maxRecDepth 100000 in
theorem sameC {R R' : Nat → Prop} {w : World} {K : Int} {T G : ByteArray} {L : List ByteArray} {B : List Nat} (rx bx rx' bx' : Option Addr) (rn rc bn bc rn' rc' bn' bc' : Nat) (h1 : TxtR R w (.slice rx rn rc) L) (h2 : ByV R w (.slice bx bn bc) B) (h3 : TxtR R' w (.slice rx' rn' rc') L) (h4 : ByV R' w (.slice bx' bn' bc') B) (hl : L.length ≤ 1000000) :
    Calls Tryz.prog 23 #[.agg (evA K T G rx rn rc bx bn bc), .agg (evA K T G rx' rn' rc' bx' bn' bc')] w fun e w' => e = .returned (.bool true) ∧ Keep (fun _ => False) w w' := by
  unfold evA
  have k2 : Keep (fun _ => False) w ((w.alloc (.cells (evA K T G rx rn rc bx bn bc) 46)).alloc (.cells (evA K T G rx' rn' rc' bx' bn' bc') 46)) := ((Keep.refl (fun _ => False) w).alloc _).alloc _
  have HT := Lib.hid (textsC rx rx' rn rn' rc rc' (h1.keep k2 (fun _ _ h => ⟨fun h => h, h⟩)) (h3.keep k2 (fun _ _ h => ⟨fun h => h, h⟩)) hl)
  have hA1 : At ((w.alloc (.cells (evA K T G rx rn rc bx bn bc) 46)).alloc (.cells (evA K T G rx' rn' rc' bx' bn' bc') 46)) w.heap.size 46 (evA K T G rx rn rc bx bn bc) := (At.new w _ _).alloc _
  have hA2 : At ((w.alloc (.cells (evA K T G rx rn rc bx bn bc) 46)).alloc (.cells (evA K T G rx' rn' rc' bx' bn' bc') 46)) (w.heap.size + 1) 46 (evA K T G rx' rn' rc' bx' bn' bc') := by
    have := At.new (w.alloc (.cells (evA K T G rx rn rc bx bn bc) 46)) 46 (evA K T G rx' rn' rc' bx' bn' bc')
    rw [show (w.alloc (.cells (evA K T G rx rn rc bx bn bc) 46)).heap.size = w.heap.size + 1 by simp] at this
    exact this
  obtain ⟨y, d, hv, hbc, hB⟩ := h2
  injection hv with e1 e2 e3
  subst e1 e3
  obtain ⟨y', d', hv', hbc', hB'⟩ := h4
  injection hv' with e4 e5 e6
  subst e4 e6
  have HB := Lib.hid hB
  have HB' := Lib.hid hB'
  have HA1 := Lib.hid hA1
  have HA2 := Lib.hid hA2
  have HK2 := Lib.hid k2
  have HE2 := Lib.hid e2
  have HE5 := Lib.hid e5
  unfold evA at HT
  clear h1 h3 hB hB' hA1 hA2 k2 e2 e5
  go_enter Tryz.func23, Tryz.ntmps23
  go_wp2_with fail
  refine HT.out.mono ?_
  rintro e w1 ⟨rfl, hk1⟩
  have hA3 := HA1.out.keep hk1 (fun h => h)
  have hA4 := HA2.out.keep hk1 (fun h => h)
  have c2 : w1.cell? ⟨w.heap.size, 2, none⟩ = some (.int .i64 0) := hA3.cell 2
  have c3 : w1.cell? ⟨w.heap.size, 3, none⟩ = some (.int .i64 0) := hA3.cell 3
  have c4 : w1.cell? ⟨w.heap.size, 4, none⟩ = some (.int .i64 0) := hA3.cell 4
  have c7 : w1.cell? ⟨w.heap.size, 7, none⟩ = some (.slice bx bn bc) := hA3.cell 7
  have d7 : w1.cell? ⟨w.heap.size + 1, 7, none⟩ = some (.slice bx' bn' bc') := hA4.cell 7
  have r1 := run_str ((HB.out.quiet HK2.out).quiet hk1) bn bc HE2.out.symm
  have r2 := run_str ((HB'.out.quiet HK2.out).quiet hk1) bn' bc' HE5.out.symm
  have HK := Lib.hid (HK2.out.trans hk1 (fun _ _ h => h))
  clear hA3 hA4 hk1
  go_wp2
  go_ret
  exact ⟨rfl, HK.out⟩
theorem same_ev {R R' : Nat → Prop} {w : World} {e : Ev} {k k' : Int} {t f t' f' : ByteArray} {rx bx rx' bx' : Option Addr} {rn rc bn bc rn' rc' bn' bc' : Nat} (h1 : EvAt R w e (evCells k t f (.slice rx rn rc) (.slice bx bn bc))) (h2 : EvAt R' w e (evCells k' t' f' (.slice rx' rn' rc') (.slice bx' bn' bc'))) (hl : (rcOf e).length ≤ 1000000) :
    Calls Tryz.prog 23 #[.agg (evA k t f rx rn rc bx bn bc), .agg (evA k' t' f' rx' rn' rc' bx' bn' bc')] w fun e w' => e = .returned (.bool true) ∧ Keep (fun _ => False) w w' := by
  obtain ⟨rfl, rfl, rfl, a1, a2⟩ := h1.parts
  obtain ⟨rfl, rfl, rfl, b1, b2⟩ := h2.parts
  exact sameC rx bx rx' bx' rn rc bn bc rn' rc' bn' bc' a1 a2 b1 b2 hl
/-- Nothing is nothing. -/
theorem same_none (w : World) : Calls Tryz.prog 23 #[.agg (evA 0 nobody nobody none 0 0 none 0 0), .agg (evA 0 nobody nobody none 0 0 none 0 0)] w fun e w' => e = .returned (.bool true) ∧ Keep (fun _ => False) w w' :=
  sameC none none none none 0 0 0 0 0 0 0 0 (TxtR.nil (fun _ => True) _) (ByV.nil (fun _ => True) _) (TxtR.nil (fun _ => True) _) (ByV.nil (fun _ => True) _) (by simp)

set_option maxHeartbeats 1000000 in
set_option maxRecDepth 100000 in
theorem pnext_nil (w : World) : Calls Tryz.prog 20 #[.pointer none] w fun e w' => e = .returned (.tuple #[.agg (evA 0 nobody nobody none 0 0 none 0 0), .bool false]) ∧ Keep (fun _ => False) w w' := by
  have hZ : At (w.alloc (.cells #[.int .i64 0, .string { data := #[] }, .int .i64 0, .int .i64 0, .int .i64 0, .string { data := #[] }, .slice none 0 0, .slice none 0 0] 46)) w.heap.size 46 (evA 0 nobody nobody none 0 0 none 0 0) := At.new w _ _
  have HZ := Lib.hid hZ
  clear hZ
  go_enter Tryz.func20, Tryz.ntmps20
  go_wp2_with (refine step_ev (by rfl) (.tmp 2) (.tmp 7) (by rfl) w.heap.size 0 nobody nobody none none 0 0 0 0 (by rfl) (by rfl) HZ.out ?_)
  (try simp only [Exit.inBlock, Exit.then])
  refine bodyPost_ret (ret_ev (fn := Tryz.f20) (p := 2) (u := 3) rfl _ _ w.heap.size rfl (HZ.out.setRow _)) rfl ?_
  exact ⟨rfl, ((Keep.refl (fun _ => False) w).alloc _).setRow (fun h => absurd h (Nat.lt_irrefl _)) _⟩
end Go.Proofs.YtcjljldknekhiaaGreatDoor.Ln
