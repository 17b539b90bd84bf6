/-
  What the document's Used and power return.
-/
import Derived.Test.YtgjkocjgkbjciaaRefA
namespace Go.Proofs.Ytgjkocjgkbjciaa.Fs
open Go.RowKit Go.Maps
set_option linter.unusedVariables false
set_option linter.unusedSimpArgs false

def sumTo (s : St) (i : Nat) : Nat := ((s.now.take i).map fun p => (s.file p.2).bytes.length).sum
theorem sumTo_succ {s : St} {i : Nat} {p : Nm × Nat} (h : s.now[i]? = some p) : sumTo s (i + 1) = sumTo s i + (s.file p.2).bytes.length := by
  unfold sumTo
  rw [take_snoc h]
  simp
theorem sumTo_le {s : St} (h : Good s) (i : Nat) : sumTo s i ≤ 16777216000000 := by
  have h1 : sumTo s i ≤ s.used := by
    unfold sumTo St.used
    exact sum_sub _ (List.take_sublist _ _)
  have := h.used_le
  omega
set_option maxHeartbeats 4000000 in
set_option maxRecDepth 100000 in
theorem refUsed (r : Nat) (T : Nat → Prop) (s : St) (w : World) (h : Ref w T r s) : Calls Try.prog 36 #[.pointer (some ⟨r, 0, none⟩)] w fun e w' => e = .returned (.int .i64 (s.used : Int)) ∧ Keep (fun _ => False) w w' := by
  have cD := refDir r T s w h
  have hlen := now_length s
  have hbk := h.2.1.bulk
  obtain ⟨N, hN⟩ : ∃ N, N = s.now.length := ⟨_, rfl⟩
  have hNl : N ≤ 1000000 := by omega
  have HN := Lib.hid hN
  have HG := Lib.hid h.2.1
  obtain ⟨⟨vs, vl, vf, fl, hp⟩, _, _⟩ := h
  have HP := Lib.hid hp
  obtain ⟨M, hM⟩ : ∃ M, M = s.files.length := ⟨_, rfl⟩
  obtain ⟨xf, cf, rfl, hcf, _⟩ := ownsRow_shape hp.files.1
  have c2 := hp.fs.cell 2
  simp at c2
  rw [← hM] at c2
  have hMl : M ≤ 1000000 := by unfold St.bulk at hbk; omega
  have HM := Lib.hid hM
  have hlt := hp.fs.lt
  clear hlen hbk hN hp hM
  go_enter Try.func36, Try.ntmps36
  go_wp2_with fail
  refine cD.mono ?_
  rintro e w1 ⟨u, rfl, hR, k1⟩
  obtain ⟨x, cx, rfl, _, hx⟩ := hR.shape
  rw [ents_length, ← HN.out]
  have HX := Lib.hid hx
  have HK1 := Lib.hid k1
  clear hR hx k1 cD
  go_wp2
  go_loopw [3, 5] (fun y z wr => ∃ i : Nat, i ≤ N ∧ z = .int .i64 (i : Int) ∧ y = .int .i64 (sumTo s i : Int) ∧ Hid (Keep (fun _ => False) w1 wr)) (fun _ z _ => N - (intOf z).toNat)
  case atStart => exact ⟨0, by omega, rfl, rfl, Keep.refl _ _⟩
  case round =>
    obtain ⟨i, hi, rfl, rfl, HKr⟩ := hrel
    by_cases h8 : (i : Int) < (N : Int)
    · have hil : i < s.now.length := by have := HN.out; omega
      obtain ⟨p, hp⟩ := getElem?_some_lt hil
      obtain ⟨g, hg, _, _, c1, c3⟩ := HX.out i _ (ents_at hp)
      subst hg
      have hpl : p.2 < s.files.length := HG.out.now.lt p (List.mem_of_getElem? hp)
      obtain ⟨v, hv, hO⟩ := HP.out.fat hpl
      obtain ⟨gf, cap, hvf, _, _, _, hcell⟩ := row_cells HP.out.files (by omega)
      injection hvf with hxf _ _
      subst hxf
      obtain ⟨y, cy, hvy, _⟩ := hO.shape
      have kk := HK1.out.trans HKr.out (fun _ _ h => h)
      have e1 := kk.cell (hcell _ _ (fileCells_at hv).1) (fun h => h)
      have e2 := kk.cell c2 (fun h => h)
      have e3 := HKr.out.cell c3 (fun h => h)
      simp only [hvy] at e1
      simp only at e3
      have hsum := sumTo_succ hp
      have hs1 := sumTo_le HG.out (i + 1)
      obtain ⟨j, hj⟩ : ∃ j, j = p.2 := ⟨_, rfl⟩
      rw [← hj] at e1 e3 hsum hpl
      obtain ⟨B, hB⟩ : ∃ B, B = (s.file j).bytes.length := ⟨_, rfl⟩
      obtain ⟨A, hA⟩ : ∃ A, A = sumTo s i := ⟨_, rfl⟩
      rw [← hB] at e1
      rw [← hB, ← hA] at hsum
      rw [← hA]
      have hjM : (j : Int) < (M : Int) := by have := HM.out; omega
      have hAB : (A : Int) + (B : Int) ≤ 9223372036854775807 := by omega
      have HS := Lib.hid hsum
      clear hil hp hcell hv hO hvy hpl kk hj hB hA c1 c3 c2 hsum hs1
      go_wp2
      go_region
      go_wp2
      go_roundw
      case rel => exact ⟨i + 1, by omega, by go_num, by rw [HS.out]; go_num, HKr.out.drew⟩
      case measure => simp [intOf]; omega
    · have hiN : i = s.now.length := by have := HN.out; omega
      have HI := Lib.hid hiN
      clear hiN
      go_wp2
      go_ret
      have : sumTo s i = s.used := by rw [HI.out]; unfold sumTo St.used; rw [List.take_length]
      rw [this]
      exact ⟨rfl, HK1.out.trans HKr.out (fun _ _ h => h)⟩

/-- What has turned is the struct's own cells. -/
theorem RP.turn {w w' : World} {T : Nat → Prop} {r : Nat} {s t : St} {vs vl vf : Value} {fl : FL} (h : RP w T r s vs vl vf fl) (k : Keep (· = r) w w') (hf : At w' r 31 #[vs, vl, vf, .int .i64 (t.room : Int), .int .i64 (fuseI t), .bool t.down]) (h1 : t.sure = s.sure) (h2 : t.loose = s.loose) (h3 : t.files = s.files) : RP w' T r t vs vl vf fl := by
  refine ⟨hf, h.inT, ?_, ?_, ?_, by rw [h3]; exact h.same, fun p hp => ⟨(h.own p hp).1.keep k (fun b hb e => ?_), (h.own p hp).2⟩⟩
  · rw [h1]; exact h.sure.keep k (fun b cs _ hb e => At.ne hb h.fs (by decide) e)
  · rw [h2]; exact h.loose.keep k (fun b cs _ hb e => At.ne hb h.fs (by decide) e)
  · rw [h3]; exact h.files.keep k (fun b cs _ hb e => At.ne hb h.fs (by decide) e)
  · have := (h.own p hp).1.ne h.fs (by decide)
    rw [hb, e] at this
    exact this rfl
/-- A world in which the struct's cell was put. -/
theorem keep_put {w : World} {r : Nat} (i : Nat) (u : Value) : Keep (· = r) w (w.setCell ⟨r, i, none⟩ u) := (Keep.refl (· = r) w).setCell (p := ⟨r, i, none⟩) (fun _ => rfl) _
set_option maxHeartbeats 4000000 in
set_option maxRecDepth 100000 in
theorem refPower (r : Nat) (T : Nat → Prop) (s : St) (vs vl vf : Value) (fl : FL) (w : World) (hp : RP w T r s vs vl vf fl) (hG : Good s) :
    Calls Try.prog 37 #[.pointer (some ⟨r, 0, none⟩)] w fun e w' => e = .returned (.bool (decide (burnE s = 0))) ∧ RP w' T r (burnS s) vs vl vf fl ∧ Keep (· = r) w w' ∧ w'.heap.size = w.heap.size := by
  have c4 := hp.fs.cell 4
  have c5 := hp.fs.cell 5
  have f4 := hp.fs.frozen 4
  have f5 := hp.fs.frozen 5
  simp at c4 c5
  have hlt := hp.fs.lt
  have HP := Lib.hid hp
  have HG := Lib.hid hG
  clear hp hG
  rcases hF : s.fuse with _ | n
  · have q : fuseI s = -1 := by unfold fuseI; rw [hF]
    rw [q] at c4
    have HF := Lib.hid hF
    have HQ := Lib.hid q
    clear hF q
    go_enter Try.func37, Try.ntmps37
    go_wp2
    go_ret
    have e1 : burnE s = 0 := by unfold burnE; rw [HF.out]; rfl
    have e2 : burnS s = s := by unfold burnS; rw [HF.out]
    rw [e1, e2]
    exact ⟨rfl, HP.out, Keep.refl _ _, rfl⟩
  · have q : fuseI s = (n : Int) := by unfold fuseI; rw [hF]
    rw [q] at c4
    have hn := HG.out.fuse n hF
    cases n with
    | zero =>
      have HF := Lib.hid hF
      have HQ := Lib.hid q
      clear hF q
      go_enter Try.func37, Try.ntmps37
      go_wp2
      go_ret
      have e1 : burnE s = 2 := by unfold burnE; rw [HF.out]; rfl
      have e2 : burnS s = { s with down := true } := by unfold burnS; rw [HF.out]
      rw [e1, e2]
      refine ⟨rfl, HP.out.turn (keep_put _ _) ?_ rfl rfl rfl, keep_put _ _, by simp [World.setCell]⟩
      have := HP.out.fs.put 5 (.bool true)
      exact this
    | succ n =>
      have HF := Lib.hid hF
      have HQ := Lib.hid q
      have h0 : ((n : Int) + 1 == 0) = false := by simp; omega
      push_cast at c4
      clear hF q
      go_enter Try.func37, Try.ntmps37
      go_wp2
      go_ret
      have e1 : burnE s = 0 := by unfold burnE; rw [HF.out]; rfl
      have e2 : burnS s = { s with fuse := some n } := by unfold burnS; rw [HF.out]
      rw [e1, e2]
      refine ⟨rfl, HP.out.turn (keep_put _ _) ?_ rfl rfl rfl, keep_put _ _, by simp [World.setCell]⟩
      have := HP.out.fs.put 4 (.int .i64 (n : Int))
      exact this

end Go.Proofs.Ytgjkocjgkbjciaa.Fs
