/-
  What the document's own New returns, given what its Domain and Small do.
-/
import Derived.Test.YtcjljldknekhiaaGreatDoorKRx7
import Derived.Test.YtcjljldknekhiaaGreatDoorKg4
namespace Go.Proofs.YtcjljldknekhiaaGreatDoor.Ln
open Go.RowKit
set_option linter.unusedVariables false
set_option linter.unusedSimpArgs false

def DomC (dom : ByteArray → Bool) : Prop := ∀ (l : ByteArray) (w : World), l.size ≤ 100000 → Calls Tryz.prog 29 #[.string l] w fun e w' => e = .returned (.bool (dom l)) ∧ Keep (fun _ => False) w w'
def SmallC (low : ByteArray → ByteArray) : Prop := (∀ l, (low l).size = l.size) ∧ ∀ (l : ByteArray) (w : World), l.size ≤ 100000 → Calls Tryz.prog 30 #[.string l] w fun e w' => e = .returned (.string (low l)) ∧ Keep (fun _ => False) w w'
/-- A new session in memory: the row's nine cells. -/
theorem RS.fresh {w : World} {g : Nat} {host : ByteArray} {size : Nat} (h : At w g 38 (sessCells (Se.mk host size [] [] 0 nobody [] [] 0) nilV nilV nilV nilV)) : RS (fun k => k = g) w g (Se.mk host size [] [] 0 nobody [] [] 0) :=
  ⟨nilV, nilV, nilV, nilV, none, none, [], ⟨h, rfl, (fun k hk => by rw [hk]; exact h.lt), (fun k hk => by cases hk), (fun k hk => by cases hk), MidG.empty _ _ _ _, rfl, Mid.empty _ _, ByV.nil _ _, TxtR.nil _ _⟩⟩
/-- What New answers. -/
def Made (host : ByteArray) (size : Int) (w : World) (e : Ending) (w' : World) : Prop :=
  ∃ g F, e = .returned (.pointer (some ⟨g, 0, none⟩)) ∧ RS F w' g (Se.new host size) ∧ Keep (fun _ => False) w w' ∧ (∀ k, F k → w.heap.size ≤ k)
def cellsN (a : ByteArray) (z : Int) : Array Value := #[.string a, .int .i64 z, .slice none 0 0, .slice none 0 0, .int .i64 0, .string { data := #[] }, .slice none 0 0, .slice none 0 0, .int .i64 0]

set_option maxHeartbeats 4000000 in
set_option maxRecDepth 100000 in
theorem refNew {dom : ByteArray → Bool} {low : ByteArray → ByteArray} (hD : DomC dom) (hS : SmallC low) (host : ByteArray) (hh : host.size ≤ 1000) (size : Int) (hz : (Lit.int .i64 size).wf = true) (w : World) :
    Calls Tryz.prog 11 #[.string host, .int .i64 size] w (Made (low (if dom host = true then host else nX)) size w) := by
  have b := bounds_i64 hz
  have HD := Lib.hid (hD host)
  have HS := Lib.hid hS.2
  have HL := Lib.hid hS.1
  have hA0 : At (w.alloc (.cells (cellsN host size) 38)) w.heap.size 38 (cellsN host size) := At.new w _ _
  have HA0 := Lib.hid hA0
  clear hD hS hA0
  cases hd : dom host with
  | true =>
    have HDD := Lib.hid hd
    clear hd
    by_cases h1 : size < 1
    · have HV : Hid (((clampS size : Nat) : Int) = 1) := Lib.hid (by rw [clamp_cell]; omega)
      go_enter Tryz.func11, Tryz.ntmps11
      go_wp2_with fail
      refine (HD.out _ (by omega)).mono ?_
      rw [HDD.out]
      rintro e w1 ⟨rfl, hk1⟩
      have hA1 := HA0.out.keep hk1 (fun h => h)
      have c0 := hA1.cell 0
      have f0 := hA1.frozen 0
      simp [cellsN] at c0
      have HA1 := Lib.hid hA1
      have HK1 := Lib.hid (((Keep.refl (fun _ => False) w).alloc (.cells (cellsN host size) 38)).trans hk1 (fun _ _ h => h))
      clear hk1 hA1
      go_wp2_with fail
      refine (HS.out host _ (by omega)).mono ?_
      rintro e w2 ⟨rfl, hk2⟩
      have hA2 := HA1.out.keep hk2 (fun h => h)
      have HK2 := Lib.hid (HK1.out.trans hk2 (fun _ _ h => h))
      have d0 := hA2.cell 0
      have d0f := hA2.frozen 0
      simp [cellsN] at d0
      have hA3 := hA2.put 0 (.string (low host))
      have d1 := hA3.cell 1
      have d1f := hA3.frozen 1
      simp [cellsN] at d1
      have hA4 := hA3.put 1 (.int .i64 1)
      have d00 := hA4.cell 0
      simp [cellsN] at d00
      have hF : At ((w2.setCell ⟨w.heap.size, 0, none⟩ (.string (low host))).setCell ⟨w.heap.size, 1, none⟩ (.int .i64 1)) w.heap.size 38 (sessCells (Se.mk (low host) (clampS size) [] [] 0 nobody [] [] 0) nilV nilV nilV nilV) := by
        rw [sessCells, HV.out]
        exact hA4
      have HF := Lib.hid (RS.fresh hF)
      have HK4 : Hid (Keep (fun _ => False) w ((w2.setCell ⟨w.heap.size, 0, none⟩ (.string (low host))).setCell ⟨w.heap.size, 1, none⟩ (.int .i64 1))) := Lib.hid ((HK2.out.setCell (p := ⟨w.heap.size, 0, none⟩) (fun h => absurd h (Nat.lt_irrefl _)) _).setCell (p := ⟨w.heap.size, 1, none⟩) (fun h => absurd h (Nat.lt_irrefl _)) _)
      have hls : (low host).size ≤ 1000 := by rw [HL.out]; exact hh
      have hwl : w.heap.size ≤ ((w2.setCell ⟨w.heap.size, 0, none⟩ (.string (low host))).setCell ⟨w.heap.size, 1, none⟩ (.int .i64 1)).heap.size := HK4.out.size
      have HWL := Lib.hid hwl
      clear hk2 hA2 hA3 hA4 hF hwl
      go_wp2_with fail
      (try rw [show min (max size 1) 8192 = _ from clamp_cell.symm.trans HV.out])
      refine (refSay HF.out _ (by simp)).mono ?_
      rintro e w5 hd5
      obtain ⟨rfl, F5, hR5, hK5, hM5⟩ := hd5
      have HR5 := Lib.hid hR5
      have HK5 := Lib.hid (HK4.out.trans hK5 (fun i hi e => by omega))
      have HM5 := Lib.hid hM5
      clear hR5 hK5 hM5
      go_wp2
      go_ret
      refine ⟨w.heap.size, F5, rfl, ?_, HK5.out, fun k hk => ?_⟩
      · exact HR5.out
      · rcases HM5.out k hk with e | e
        · omega
        · have := HWL.out; omega
    · by_cases h2 : 8192 < size
      · have HV : Hid (((clampS size : Nat) : Int) = 8192) := Lib.hid (by rw [clamp_cell]; omega)
        go_enter Tryz.func11, Tryz.ntmps11
        go_wp2_with fail
        refine (HD.out _ (by omega)).mono ?_
        rw [HDD.out]
        rintro e w1 ⟨rfl, hk1⟩
        have hA1 := HA0.out.keep hk1 (fun h => h)
        have c0 := hA1.cell 0
        have f0 := hA1.frozen 0
        simp [cellsN] at c0
        have HA1 := Lib.hid hA1
        have HK1 := Lib.hid (((Keep.refl (fun _ => False) w).alloc (.cells (cellsN host size) 38)).trans hk1 (fun _ _ h => h))
        clear hk1 hA1
        go_wp2_with fail
        refine (HS.out host _ (by omega)).mono ?_
        rintro e w2 ⟨rfl, hk2⟩
        have hA2 := HA1.out.keep hk2 (fun h => h)
        have HK2 := Lib.hid (HK1.out.trans hk2 (fun _ _ h => h))
        have d0 := hA2.cell 0
        have d0f := hA2.frozen 0
        simp [cellsN] at d0
        have hA3 := hA2.put 0 (.string (low host))
        have d1 := hA3.cell 1
        have d1f := hA3.frozen 1
        simp [cellsN] at d1
        have hA4 := hA3.put 1 (.int .i64 8192)
        have d00 := hA4.cell 0
        simp [cellsN] at d00
        have hF : At ((w2.setCell ⟨w.heap.size, 0, none⟩ (.string (low host))).setCell ⟨w.heap.size, 1, none⟩ (.int .i64 8192)) w.heap.size 38 (sessCells (Se.mk (low host) (clampS size) [] [] 0 nobody [] [] 0) nilV nilV nilV nilV) := by
          rw [sessCells, HV.out]
          exact hA4
        have HF := Lib.hid (RS.fresh hF)
        have HK4 : Hid (Keep (fun _ => False) w ((w2.setCell ⟨w.heap.size, 0, none⟩ (.string (low host))).setCell ⟨w.heap.size, 1, none⟩ (.int .i64 8192))) := Lib.hid ((HK2.out.setCell (p := ⟨w.heap.size, 0, none⟩) (fun h => absurd h (Nat.lt_irrefl _)) _).setCell (p := ⟨w.heap.size, 1, none⟩) (fun h => absurd h (Nat.lt_irrefl _)) _)
        have hls : (low host).size ≤ 1000 := by rw [HL.out]; exact hh
        have hwl : w.heap.size ≤ ((w2.setCell ⟨w.heap.size, 0, none⟩ (.string (low host))).setCell ⟨w.heap.size, 1, none⟩ (.int .i64 8192)).heap.size := HK4.out.size
        have HWL := Lib.hid hwl
        clear hk2 hA2 hA3 hA4 hF hwl
        go_wp2_with fail
        (try rw [show min (max size 1) 8192 = _ from clamp_cell.symm.trans HV.out])
        refine (refSay HF.out _ (by simp)).mono ?_
        rintro e w5 hd5
        obtain ⟨rfl, F5, hR5, hK5, hM5⟩ := hd5
        have HR5 := Lib.hid hR5
        have HK5 := Lib.hid (HK4.out.trans hK5 (fun i hi e => by omega))
        have HM5 := Lib.hid hM5
        clear hR5 hK5 hM5
        go_wp2
        go_ret
        refine ⟨w.heap.size, F5, rfl, ?_, HK5.out, fun k hk => ?_⟩
        · exact HR5.out
        · rcases HM5.out k hk with e | e
          · omega
          · have := HWL.out; omega
      · have HV : Hid (((clampS size : Nat) : Int) = size) := Lib.hid (by rw [clamp_cell]; omega)
        go_enter Tryz.func11, Tryz.ntmps11
        go_wp2_with fail
        refine (HD.out _ (by omega)).mono ?_
        rw [HDD.out]
        rintro e w1 ⟨rfl, hk1⟩
        have hA1 := HA0.out.keep hk1 (fun h => h)
        have c0 := hA1.cell 0
        have f0 := hA1.frozen 0
        simp [cellsN] at c0
        have HA1 := Lib.hid hA1
        have HK1 := Lib.hid (((Keep.refl (fun _ => False) w).alloc (.cells (cellsN host size) 38)).trans hk1 (fun _ _ h => h))
        clear hk1 hA1
        go_wp2_with fail
        refine (HS.out host _ (by omega)).mono ?_
        rintro e w2 ⟨rfl, hk2⟩
        have hA2 := HA1.out.keep hk2 (fun h => h)
        have HK2 := Lib.hid (HK1.out.trans hk2 (fun _ _ h => h))
        have d0 := hA2.cell 0
        have d0f := hA2.frozen 0
        simp [cellsN] at d0
        have hA3 := hA2.put 0 (.string (low host))
        have d1 := hA3.cell 1
        have d1f := hA3.frozen 1
        simp [cellsN] at d1
        have hA4 := hA3.put 1 (.int .i64 size)
        have d00 := hA4.cell 0
        simp [cellsN] at d00
        have hF : At ((w2.setCell ⟨w.heap.size, 0, none⟩ (.string (low host))).setCell ⟨w.heap.size, 1, none⟩ (.int .i64 size)) w.heap.size 38 (sessCells (Se.mk (low host) (clampS size) [] [] 0 nobody [] [] 0) nilV nilV nilV nilV) := by
          rw [sessCells, HV.out]
          exact hA4
        have HF := Lib.hid (RS.fresh hF)
        have HK4 : Hid (Keep (fun _ => False) w ((w2.setCell ⟨w.heap.size, 0, none⟩ (.string (low host))).setCell ⟨w.heap.size, 1, none⟩ (.int .i64 size))) := Lib.hid ((HK2.out.setCell (p := ⟨w.heap.size, 0, none⟩) (fun h => absurd h (Nat.lt_irrefl _)) _).setCell (p := ⟨w.heap.size, 1, none⟩) (fun h => absurd h (Nat.lt_irrefl _)) _)
        have hls : (low host).size ≤ 1000 := by rw [HL.out]; exact hh
        have hwl : w.heap.size ≤ ((w2.setCell ⟨w.heap.size, 0, none⟩ (.string (low host))).setCell ⟨w.heap.size, 1, none⟩ (.int .i64 size)).heap.size := HK4.out.size
        have HWL := Lib.hid hwl
        clear hk2 hA2 hA3 hA4 hF hwl
        go_wp2_with fail
        (try rw [show min (max size 1) 8192 = _ from clamp_cell.symm.trans HV.out])
        refine (refSay HF.out _ (by simp)).mono ?_
        rintro e w5 hd5
        obtain ⟨rfl, F5, hR5, hK5, hM5⟩ := hd5
        have HR5 := Lib.hid hR5
        have HK5 := Lib.hid (HK4.out.trans hK5 (fun i hi e => by omega))
        have HM5 := Lib.hid hM5
        clear hR5 hK5 hM5
        go_wp2
        go_ret
        refine ⟨w.heap.size, F5, rfl, ?_, HK5.out, fun k hk => ?_⟩
        · exact HR5.out
        · rcases HM5.out k hk with e | e
          · omega
          · have := HWL.out; omega
  | false =>
    have HDD := Lib.hid hd
    clear hd
    by_cases h1 : size < 1
    · have HV : Hid (((clampS size : Nat) : Int) = 1) := Lib.hid (by rw [clamp_cell]; omega)
      go_enter Tryz.func11, Tryz.ntmps11
      go_wp2_with fail
      refine (HD.out _ (by omega)).mono ?_
      rw [HDD.out]
      rintro e w1 ⟨rfl, hk1⟩
      have hA1 := HA0.out.keep hk1 (fun h => h)
      have c0 := hA1.cell 0
      have f0 := hA1.frozen 0
      simp [cellsN] at c0
      have HA1 := Lib.hid (hA1.put 0 (.string { data := #[120] }))
      have HK1 := Lib.hid ((((Keep.refl (fun _ => False) w).alloc (.cells (cellsN host size) 38)).trans hk1 (fun _ _ h => h)).setCell (p := ⟨w.heap.size, 0, none⟩) (fun h => absurd h (Nat.lt_irrefl _)) (.string { data := #[120] }))
      have c0' := HA1.out.cell 0
      simp [cellsN] at c0'
      clear hk1 hA1
      go_wp2_with fail
      refine (HS.out { data := #[120] } _ (by decide)).mono ?_
      rintro e w2 ⟨rfl, hk2⟩
      have hA2 := HA1.out.keep hk2 (fun h => h)
      have HK2 := Lib.hid (HK1.out.trans hk2 (fun _ _ h => h))
      have d0 := hA2.cell 0
      have d0f := hA2.frozen 0
      simp [cellsN] at d0
      have hA3 := hA2.put 0 (.string (low { data := #[120] }))
      have d1 := hA3.cell 1
      have d1f := hA3.frozen 1
      simp [cellsN] at d1
      have hA4 := hA3.put 1 (.int .i64 1)
      have d00 := hA4.cell 0
      simp [cellsN] at d00
      have hF : At ((w2.setCell ⟨w.heap.size, 0, none⟩ (.string (low { data := #[120] }))).setCell ⟨w.heap.size, 1, none⟩ (.int .i64 1)) w.heap.size 38 (sessCells (Se.mk (low { data := #[120] }) (clampS size) [] [] 0 nobody [] [] 0) nilV nilV nilV nilV) := by
        rw [sessCells, HV.out]
        exact hA4
      have HF := Lib.hid (RS.fresh hF)
      have HK4 : Hid (Keep (fun _ => False) w ((w2.setCell ⟨w.heap.size, 0, none⟩ (.string (low { data := #[120] }))).setCell ⟨w.heap.size, 1, none⟩ (.int .i64 1))) := Lib.hid ((HK2.out.setCell (p := ⟨w.heap.size, 0, none⟩) (fun h => absurd h (Nat.lt_irrefl _)) _).setCell (p := ⟨w.heap.size, 1, none⟩) (fun h => absurd h (Nat.lt_irrefl _)) _)
      have hls : (low { data := #[120] }).size ≤ 1000 := by rw [HL.out]; decide
      have hwl : w.heap.size ≤ ((w2.setCell ⟨w.heap.size, 0, none⟩ (.string (low { data := #[120] }))).setCell ⟨w.heap.size, 1, none⟩ (.int .i64 1)).heap.size := HK4.out.size
      have HWL := Lib.hid hwl
      clear hk2 hA2 hA3 hA4 hF hwl
      go_wp2_with fail
      (try rw [show min (max size 1) 8192 = _ from clamp_cell.symm.trans HV.out])
      refine (refSay HF.out _ (by simp)).mono ?_
      rintro e w5 hd5
      obtain ⟨rfl, F5, hR5, hK5, hM5⟩ := hd5
      have HR5 := Lib.hid hR5
      have HK5 := Lib.hid (HK4.out.trans hK5 (fun i hi e => by omega))
      have HM5 := Lib.hid hM5
      clear hR5 hK5 hM5
      go_wp2
      go_ret
      refine ⟨w.heap.size, F5, rfl, ?_, HK5.out, fun k hk => ?_⟩
      · exact HR5.out
      · rcases HM5.out k hk with e | e
        · omega
        · have := HWL.out; omega
    · by_cases h2 : 8192 < size
      · have HV : Hid (((clampS size : Nat) : Int) = 8192) := Lib.hid (by rw [clamp_cell]; omega)
        go_enter Tryz.func11, Tryz.ntmps11
        go_wp2_with fail
        refine (HD.out _ (by omega)).mono ?_
        rw [HDD.out]
        rintro e w1 ⟨rfl, hk1⟩
        have hA1 := HA0.out.keep hk1 (fun h => h)
        have c0 := hA1.cell 0
        have f0 := hA1.frozen 0
        simp [cellsN] at c0
        have HA1 := Lib.hid (hA1.put 0 (.string { data := #[120] }))
        have HK1 := Lib.hid ((((Keep.refl (fun _ => False) w).alloc (.cells (cellsN host size) 38)).trans hk1 (fun _ _ h => h)).setCell (p := ⟨w.heap.size, 0, none⟩) (fun h => absurd h (Nat.lt_irrefl _)) (.string { data := #[120] }))
        have c0' := HA1.out.cell 0
        simp [cellsN] at c0'
        clear hk1 hA1
        go_wp2_with fail
        refine (HS.out { data := #[120] } _ (by decide)).mono ?_
        rintro e w2 ⟨rfl, hk2⟩
        have hA2 := HA1.out.keep hk2 (fun h => h)
        have HK2 := Lib.hid (HK1.out.trans hk2 (fun _ _ h => h))
        have d0 := hA2.cell 0
        have d0f := hA2.frozen 0
        simp [cellsN] at d0
        have hA3 := hA2.put 0 (.string (low { data := #[120] }))
        have d1 := hA3.cell 1
        have d1f := hA3.frozen 1
        simp [cellsN] at d1
        have hA4 := hA3.put 1 (.int .i64 8192)
        have d00 := hA4.cell 0
        simp [cellsN] at d00
        have hF : At ((w2.setCell ⟨w.heap.size, 0, none⟩ (.string (low { data := #[120] }))).setCell ⟨w.heap.size, 1, none⟩ (.int .i64 8192)) w.heap.size 38 (sessCells (Se.mk (low { data := #[120] }) (clampS size) [] [] 0 nobody [] [] 0) nilV nilV nilV nilV) := by
          rw [sessCells, HV.out]
          exact hA4
        have HF := Lib.hid (RS.fresh hF)
        have HK4 : Hid (Keep (fun _ => False) w ((w2.setCell ⟨w.heap.size, 0, none⟩ (.string (low { data := #[120] }))).setCell ⟨w.heap.size, 1, none⟩ (.int .i64 8192))) := Lib.hid ((HK2.out.setCell (p := ⟨w.heap.size, 0, none⟩) (fun h => absurd h (Nat.lt_irrefl _)) _).setCell (p := ⟨w.heap.size, 1, none⟩) (fun h => absurd h (Nat.lt_irrefl _)) _)
        have hls : (low { data := #[120] }).size ≤ 1000 := by rw [HL.out]; decide
        have hwl : w.heap.size ≤ ((w2.setCell ⟨w.heap.size, 0, none⟩ (.string (low { data := #[120] }))).setCell ⟨w.heap.size, 1, none⟩ (.int .i64 8192)).heap.size := HK4.out.size
        have HWL := Lib.hid hwl
        clear hk2 hA2 hA3 hA4 hF hwl
        go_wp2_with fail
        (try rw [show min (max size 1) 8192 = _ from clamp_cell.symm.trans HV.out])
        refine (refSay HF.out _ (by simp)).mono ?_
        rintro e w5 hd5
        obtain ⟨rfl, F5, hR5, hK5, hM5⟩ := hd5
        have HR5 := Lib.hid hR5
        have HK5 := Lib.hid (HK4.out.trans hK5 (fun i hi e => by omega))
        have HM5 := Lib.hid hM5
        clear hR5 hK5 hM5
        go_wp2
        go_ret
        refine ⟨w.heap.size, F5, rfl, ?_, HK5.out, fun k hk => ?_⟩
        · exact HR5.out
        · rcases HM5.out k hk with e | e
          · omega
          · have := HWL.out; omega
      · have HV : Hid (((clampS size : Nat) : Int) = size) := Lib.hid (by rw [clamp_cell]; omega)
        go_enter Tryz.func11, Tryz.ntmps11
        go_wp2_with fail
        refine (HD.out _ (by omega)).mono ?_
        rw [HDD.out]
        rintro e w1 ⟨rfl, hk1⟩
        have hA1 := HA0.out.keep hk1 (fun h => h)
        have c0 := hA1.cell 0
        have f0 := hA1.frozen 0
        simp [cellsN] at c0
        have HA1 := Lib.hid (hA1.put 0 (.string { data := #[120] }))
        have HK1 := Lib.hid ((((Keep.refl (fun _ => False) w).alloc (.cells (cellsN host size) 38)).trans hk1 (fun _ _ h => h)).setCell (p := ⟨w.heap.size, 0, none⟩) (fun h => absurd h (Nat.lt_irrefl _)) (.string { data := #[120] }))
        have c0' := HA1.out.cell 0
        simp [cellsN] at c0'
        clear hk1 hA1
        go_wp2_with fail
        refine (HS.out { data := #[120] } _ (by decide)).mono ?_
        rintro e w2 ⟨rfl, hk2⟩
        have hA2 := HA1.out.keep hk2 (fun h => h)
        have HK2 := Lib.hid (HK1.out.trans hk2 (fun _ _ h => h))
        have d0 := hA2.cell 0
        have d0f := hA2.frozen 0
        simp [cellsN] at d0
        have hA3 := hA2.put 0 (.string (low { data := #[120] }))
        have d1 := hA3.cell 1
        have d1f := hA3.frozen 1
        simp [cellsN] at d1
        have hA4 := hA3.put 1 (.int .i64 size)
        have d00 := hA4.cell 0
        simp [cellsN] at d00
        have hF : At ((w2.setCell ⟨w.heap.size, 0, none⟩ (.string (low { data := #[120] }))).setCell ⟨w.heap.size, 1, none⟩ (.int .i64 size)) w.heap.size 38 (sessCells (Se.mk (low { data := #[120] }) (clampS size) [] [] 0 nobody [] [] 0) nilV nilV nilV nilV) := by
          rw [sessCells, HV.out]
          exact hA4
        have HF := Lib.hid (RS.fresh hF)
        have HK4 : Hid (Keep (fun _ => False) w ((w2.setCell ⟨w.heap.size, 0, none⟩ (.string (low { data := #[120] }))).setCell ⟨w.heap.size, 1, none⟩ (.int .i64 size))) := Lib.hid ((HK2.out.setCell (p := ⟨w.heap.size, 0, none⟩) (fun h => absurd h (Nat.lt_irrefl _)) _).setCell (p := ⟨w.heap.size, 1, none⟩) (fun h => absurd h (Nat.lt_irrefl _)) _)
        have hls : (low { data := #[120] }).size ≤ 1000 := by rw [HL.out]; decide
        have hwl : w.heap.size ≤ ((w2.setCell ⟨w.heap.size, 0, none⟩ (.string (low { data := #[120] }))).setCell ⟨w.heap.size, 1, none⟩ (.int .i64 size)).heap.size := HK4.out.size
        have HWL := Lib.hid hwl
        clear hk2 hA2 hA3 hA4 hF hwl
        go_wp2_with fail
        (try rw [show min (max size 1) 8192 = _ from clamp_cell.symm.trans HV.out])
        refine (refSay HF.out _ (by simp)).mono ?_
        rintro e w5 hd5
        obtain ⟨rfl, F5, hR5, hK5, hM5⟩ := hd5
        have HR5 := Lib.hid hR5
        have HK5 := Lib.hid (HK4.out.trans hK5 (fun i hi e => by omega))
        have HM5 := Lib.hid hM5
        clear hR5 hK5 hM5
        go_wp2
        go_ret
        refine ⟨w.heap.size, F5, rfl, ?_, HK5.out, fun k hk => ?_⟩
        · exact HR5.out
        · rcases HM5.out k hk with e | e
          · omega
          · have := HWL.out; omega
end Go.Proofs.YtcjljldknekhiaaGreatDoor.Ln
