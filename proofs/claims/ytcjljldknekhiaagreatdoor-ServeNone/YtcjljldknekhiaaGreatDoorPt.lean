/-
  What the program's tell returns, at memory's level; an append of events in a region that draws its order.
-/
import Derived.Test.YtcjljldknekhiaaGreatDoorPs
import Derived.Deep.RegionLaw
import Derived.BigRegion
namespace Go.Proofs.YtcjljldknekhiaaGreatDoor.Ln
open Go.RowKit
set_option linter.unusedVariables false
set_option linter.unusedSimpArgs false

theorem run_append_ev (ty : TypeId) {w : World} {v : Value} {q : Option Nat} {n : Nat} {xs : List Value} (hM : MidG 46 8 w v q n xs) (ad : Addr) (cs : List Value) (hcs : cs.length = 8) (hn : ∀ j u, cs[j]? = some u → w.cell? (ad.add j) = some u) (h1 : ∀ u ∈ cs, u.oneCell' = true) (hl : n ≤ 1000000) :
    ∃ y k cap q' w', (Builtin.append_ #[35, 35] ty #[v, .slice (some ad) 1 1]).run Tryz.prog w = .ok (.slice y k cap) w' ∧ MidG 46 8 w' (.slice y k cap) q' (n + 1) (xs ++ cs) ∧ Keep (fun k => q = some k) w w' ∧ New w q q' := by
  obtain ⟨i0, z, hi, hz, hzs, h8, hby⟩ := infoEv
  have hM' : MidG 46 i0.size w v q n xs := by rw [h8]; exact hM
  have hsrc : Src Tryz.prog i0.size 35 (.slice (some ad) 1 1) 1 cs w := Src.ofSlice w Tryz.underlying35 ad 1 1 cs (by rw [h8, hcs]) hn h1
  obtain ⟨y, k, cap, q', w', hr, h2, h3, h4⟩ := run_append_midG (t := 35) ty Tryz.underlying35 hi hz hzs (by rw [h8]; decide) hby w v q n xs hM' _ 1 cs hsrc (by omega)
  rw [h8] at h2
  exact ⟨y, k, cap, q', w', hr, h2, h3, h4⟩
theorem step_append_ev {w : World} {ops : Array Oper} {o : Oper} {a : Act} {K : Act → World → Prop} {Q : Exit → Act → World → Prop} {E : Prop} (hgd : o.guard = none) (s t : Operand)
    (ho : o.op = .call { callee := .builtin .append, args := #[s, t], argTypes := #[35, 35] })
    (v : Value) (q : Option Nat) (n : Nat) (xs : List Value) (hs : a.eval s = v) (hM : MidG 46 8 w v q n xs) (ad : Addr) (cs : List Value) (hx : a.eval t = .slice (some ad) 1 1) (hcs : cs.length = 8) (hn : ∀ j u, cs[j]? = some u → w.cell? (ad.add j) = some u) (h1 : ∀ u ∈ cs, u.oneCell' = true) (hl : n ≤ 1000000)
    (hK : ∀ y k cap q' w', MidG 46 8 w' (.slice y k cap) q' (n + 1) (xs ++ cs) → Keep (fun k => q = some k) w w' → New w q q' → K (a.put o.dst (.slice y k cap)) w') :
    if Region.wanted o (yielded ops a.tmps) = true then Oper.wp Tryz.prog o a w K Q else E := by
  have hw : Region.wanted o (yielded ops a.tmps) = true := by simp [Region.wanted, hgd]
  rw [if_pos hw]
  obtain ⟨y, k, cap, q', w', hr, h2, h3, h4⟩ := run_append_ev o.type hM ad cs hcs hn h1 hl
  unfold Oper.wp execOp
  simp only [ho, resolve, invoke, builtin, Sem.run_bind, Sem.run_pure, Result.andThen_ok, List.map_toArray, List.map_cons, List.map_nil, hs, hx, hr]
  exact hK y k cap q' w' h2 h3 h4

theorem evCells_one (k : Int) (t f : ByteArray) (rx bx : Option Addr) (rn rc bn bc : Nat) : ∀ u ∈ evCells k t f (.slice rx rn rc) (.slice bx bn bc), u.oneCell' = true := by
  intro u hu
  simp only [evCells, List.mem_cons, List.not_mem_nil, or_false] at hu
  rcases hu with rfl | rfl | rfl | rfl | rfl | rfl | rfl | rfl <;> rfl

/-- What tell answers. -/
def Told (g : Nat) (qe : Option Nat) (C : Array Value) (n : Nat) (xs cs : List Value) (w : World) (e : Ending) (w' : World) : Prop :=
  e = .returned (.tuple #[]) ∧ ∃ y m cap q', At w' g 68 (C.setIfInBounds 4 (.slice y m cap)) ∧ MidG 46 8 w' (.slice y m cap) q' (n + 1) (xs ++ cs) ∧ Keep (fun i => i = g ∨ qe = some i) w w' ∧ New w qe q'
def evV (k : Int) (t f : ByteArray) (rv bv : Value) : Value := .agg #[.int .i64 k, .string t, .int .i64 0, .int .i64 0, .int .i64 0, .string f, rv, bv]

set_option maxHeartbeats 4000000 in
set_option maxRecDepth 100000 in
theorem tellRaw {w : World} {g : Nat} {C : Array Value} {qe : Option Nat} {n : Nat} {xs : List Value} {x : Option Addr} {c : Nat} (hA : At w g 68 C) (h4 : C[4]? = some (.slice x n c)) (hM : MidG 46 8 w (.slice x n c) qe n xs) (hl : n ≤ 1000000)
    (k : Int) (t f : ByteArray) (rx bx : Option Addr) (rn rc bn bc : Nat) :
    Calls Tryz.prog 48 #[.pointer (some ⟨g, 0, none⟩), evV k t f (.slice rx rn rc) (.slice bx bn bc)] w (Told g qe C n xs (evCells k t f (.slice rx rn rc) (.slice bx bn bc)) w) := by
  unfold evV
  obtain ⟨A1, hA1⟩ : ∃ A1 : List Value, A1 = evCells k t f (.slice rx rn rc) (.slice bx bn bc) := ⟨_, rfl⟩
  have hlt := hA.lt
  have c4 : w.cell? ⟨g, 4, none⟩ = some (.slice x n c) := by rw [hA.cell]; exact h4
  have hk2 : Keep (fun _ => False) w (((w.alloc (.cells (evCells k t f (.slice rx rn rc) (.slice bx bn bc)).toArray 46)).alloc (.cells (evCells k t f (.slice rx rn rc) (.slice bx bn bc)).toArray 46)).drew) := (((Keep.refl (fun _ => False) w).alloc _).alloc _).drew
  have HM2 := Lib.hid (hM.keep hk2 (fun _ _ h => h))
  have HA2 := Lib.hid (hA.keep hk2 (fun h => h))
  have HK2 := Lib.hid hk2
  have HNE := Lib.hid (hM.ne hA (by decide))
  have HN : Hid (∀ j u, (evCells k t f (.slice rx rn rc) (.slice bx bn bc))[j]? = some u → (((w.alloc (.cells (evCells k t f (.slice rx rn rc) (.slice bx bn bc)).toArray 46)).alloc (.cells (evCells k t f (.slice rx rn rc) (.slice bx bn bc)).toArray 46)).drew).cell? ((⟨w.heap.size + 1, 0, none⟩ : Addr).add j) = some u) := Lib.hid (fun j u hu => by
    have h0 := cells_new (w.alloc (.cells (evCells k t f (.slice rx rn rc) (.slice bx bn bc)).toArray 46)) 46 (evCells k t f (.slice rx rn rc) (.slice bx bn bc)) j u hu
    rw [show (w.alloc (.cells (evCells k t f (.slice rx rn rc) (.slice bx bn bc)).toArray 46)).heap.size = w.heap.size + 1 by simp] at h0
    exact h0)
  have H4 := Lib.hid h4
  have c4' : (w.alloc (.cells (evCells k t f (.slice rx rn rc) (.slice bx bn bc)).toArray 46)).cell? ⟨g, 4, none⟩ = some (.slice x n c) := Lib.cell?_alloc_marked _ c4
  clear hM hA hk2 h4 hA1 A1
  go_enter Tryz.func48, Tryz.ntmps48
  go_wp2
  go_region_law
    ((refine step_append_ev (by rfl) (.tmp 8) (.tmp 10) (by rfl) (.slice x n c) qe n xs (by rfl) HM2.out ⟨w.heap.size + 1, 0, none⟩ (evCells k t f (.slice rx rn rc) (.slice bx bn bc)) (by rfl) (by rfl) HN.out (evCells_one _ _ _ _ _ _ _ _ _) hl ?_
      ; intro y m cap q' w2 hM3 hK3 hN3; have hA3 := HA2.out.keep hK3 HNE.out; have d4 : w2.cell? ⟨g, 4, none⟩ = some (.slice x n c) := (by rw [hA3.cell]; exact H4.out); have f4 := hA3.frozen 4; have HA3 := Lib.hid hA3; have HM3 := Lib.hid hM3; have HK3 := Lib.hid hK3; have HN3 := Lib.hid hN3; clear hA3 hM3 hK3 hN3))
  all_goals
    go_wp2
    go_end0
    refine ⟨rfl, y, m, cap, q', HA3.out.put 4 _, ?_, ?_, fun i hi => ?_⟩
    · exact HM3.out.keep ((Keep.refl (fun i => i = g) w2).setCell (p := ⟨g, 4, none⟩) (fun _ => rfl) _) (fun b hb e => HM3.out.ne HA3.out (by decide) (by rw [hb, e]))
    · refine ((HK2.out.mono (fun _ _ h => h.elim)).trans (T := fun i => qe = some i) HK3.out (fun i _ e => .inr e)).setCell (p := ⟨g, 4, none⟩) (fun _ => .inl rfl) _
    · rcases HN3.out i hi with h1 | h1
      · exact .inl h1
      · exact .inr (Nat.le_trans HK2.out.size h1)
end Go.Proofs.YtcjljldknekhiaaGreatDoor.Ln
