/-
  What 'settle', the library's Clone of bytes, and a file's 'keep' do.
-/
import Derived.Test.YtlpeiejohgchmaaDoorDUsed
import Derived.StillTailTactics
namespace Go.Proofs.YtlpeiejohgchmaaDoor.Fs
open Go.RowKit Go.Maps
set_option linter.unusedVariables false

theorem cut_preC (x : Option Addr) (L C n : Nat) (hn : n ≤ C) :
    (∀ w, (Instr.slice 46 (.slice x L C) none (some (.int .i64 (n : Int))) none).run Tryd.prog w = .ok (.slice x n C) w) ∧
    (∀ w, (Instr.sliceAt 46 (.slice x L C) none (some (.int .i64 (n : Int))) none).run Tryd.prog w = .ok (.slice x n C) w) := by
  obtain ⟨i0, hi, hz0, hz1, hz2⟩ := info_parts info79
  have h1 : (n : Int) ≤ (C : Int) := by omega
  have r : ∀ w, (Instr.slice 46 (.slice x L C) none (some (.int .i64 (n : Int))) none).run Tryd.prog w = .ok (.slice x n C) w := by
    intro w
    have hb : ∀ code, (Instr.sliceBound (.int .i64 (n : Int)) C code).run Tryd.prog w = .ok n w := by
      intro code; simp [Instr.sliceBound, asIntOf, h1]
    have e : (if C = 0 then x else x.map (fun a => a.add 0)) = x := by
      rcases x with _ | a <;> simp [Addr.add]
    simp [Instr.slice, run_underlying Tryd.underlying46, Instr.sliceBounds, hb, sizeOf, typeInfo, hi]
    simpa using e
  refine ⟨r, fun w => ?_⟩
  rw [← r w]
  simp [Instr.sliceAt, run_underlying Tryd.underlying46]

theorem take_fold (s : St) (i : Nat) (c : Chg) (h : s.loose[i]? = some c) : (s.loose.take (i + 1)).foldl app s.sure = app ((s.loose.take i).foldl app s.sure) c := by
  rw [List.take_add_one, h]
  simp

/-- What 'settle' leaves behind. -/
def Settled (w : World) (S : Nat → Prop) (f : Nat) (s : St) (d : Dir) (L : Lay) (e : Ending) (w' : World) : Prop := e = .returned (.tuple #[]) ∧ Parts w' S f s d { L with lv := .slice none 0 0, cl := [] } ∧ Keep S w w' ∧ w'.heap.size = w.heap.size
theorem settle_parts {w w1 : World} {S : Nat → Prop} {f k : Nat} {s : St} {d : Dir} {L : Lay} (hp : Parts w S f s d L) (hm : MapAt w1 S L.sure ((s.loose.take k).foldl app s.sure) L.fb) (k1 : Keep (fun b => L.sure = some b) w w1) (z1 : w1.heap.size = w.heap.size) :
    Settled w S f (settleS s k) d L (.returned (.tuple #[])) (w1.setCell ⟨f, 3, none⟩ (.slice none 0 0)) := by
  have hfs : L.sure ≠ some f := fun h => not_map_at hp.fs (map_blk hp.sure h)
  have a1 := hp.fs.keep k1 hfs
  let T : Nat → Prop := fun b => L.sure = some b ∨ b = f
  have kT : Keep T w (w1.setCell ⟨f, 3, none⟩ (.slice none 0 0)) := (k1.mono (T := T) (fun i _ h => .inl h)).setCell (p := ⟨f, 3, none⟩) (fun _ => .inr rfl) _
  have hO : Off w T := by
    rintro b (h | rfl) _
    · exact .inl (map_blk hp.sure h)
    · exact .inr ⟨48, _, hp.fs, .inl rfl⟩
  have kf : Keep (· = f) w1 (w1.setCell ⟨f, 3, none⟩ (.slice none 0 0)) := (Keep.refl (· = f) w1).setCell (p := ⟨f, 3, none⟩) (fun _ => rfl) _
  refine ⟨rfl, ⟨a1.put 3 (.slice none 0 0), hp.inS, hp.both, hp.two, fun h => absurd rfl h, ?_, ?_, Row.nil _ _ _ _, Clos.nil _ _ _, hp.files.off kT hO⟩, kT.mono (fun i _ h => ?_), by simp [World.setCell, z1]⟩
  · refine hp.now.keep kT (fun b hb _ hbm h => ?_)
    rcases h with h | rfl
    · exact hp.two b hb h
    · exact not_map_at hp.fs hbm
  · exact hm.keep kf (fun b hb _ hbm h => by subst h; exact hfs hb)
  · rcases h with h | rfl
    · exact map_in hp.sure h
    · exact hp.inS

set_option maxHeartbeats 4000000 in
set_option maxRecDepth 100000 in
theorem settle (f : Nat) (S : Nat → Prop) (s : St) (d : Dir) (L : Lay) (k : Nat) (hk : k ≤ s.loose.length) (w : World) (hp : Parts w S f s d L) (hG : Good s) :
    Calls Tryd.prog 24 #[.pointer (some ⟨f, 0, none⟩), .int .i64 (k : Int)] w (Settled w S f (settleS s k) d L) := by
  obtain ⟨x, cap, hv, hnc, hrow⟩ := ownsRow_shape hp.loose.1
  have hn : L.cl.length = s.loose.length := hp.clos.1
  have c3 := hp.fs.cell 3
  simp [cellsFS, hv] at c3
  obtain ⟨s1, s2⟩ := cut_preC x L.cl.length cap k (by omega)
  have hbk : k ≤ 1000000 := by have := hG.bulk; unfold St.bulk at this; omega
  have HP := Lib.hid hp
  have HG := Lib.hid hG
  have HR := Lib.hid hrow
  have HV := Lib.hid hv
  have HN := Lib.hid hn
  have HKL := Lib.hid hk
  clear hp hG hrow hv hn hnc hk
  go_enter Tryd.func24, Tryd.ntmps24
  go_wp2
  go_loopw [13] (fun x wr => ∃ i : Nat, i ≤ k ∧ x = .int .i64 (i : Int) ∧ Hid (MapAt wr S L.sure ((s.loose.take i).foldl app s.sure) L.fb) ∧ Hid (Keep (fun b => L.sure = some b) w wr) ∧ Hid (wr.heap.size = w.heap.size)) (fun x _ => k - (intOf x).toNat)
  case atStart => exact ⟨0, by omega, rfl, by have := HP.out.sure; exact this, Keep.refl _ _, rfl⟩
  case round =>
    obtain ⟨i, hik, rfl, HM, HK, HZ⟩ := hrel
    have hfs : L.sure ≠ some f := fun h => not_map_at HP.out.fs (map_blk HP.out.sure h)
    have a1 := HP.out.fs.keep HK.out hfs
    by_cases h8 : (i : Int) < (k : Int)
    · have hil : i < L.cl.length := by have := HN.out; have := HKL.out; omega
      obtain ⟨v, hvi⟩ := getElem?_some_lt hil
      have hil2 : i < s.loose.length := by have := HN.out; omega
      obtain ⟨c, hci⟩ := getElem?_some_lt hil2
      have hc := HP.out.clos.2 i v c hvi hci
      obtain ⟨g, cb, rfl, eg, hdo⟩ := doClo hc
      rcases HR.out with h0 | ⟨gl, rfl, hob, hcells⟩
      · omega
      have hcell : wr.cell? ⟨gl, i, none⟩ = some (.func (.func g) #[] cb) := HK.out.cell (hcells i _ hvi) (fun h => by
        obtain ⟨cs, h1⟩ := lv_at HP.out hob
        exact not_map_at h1 (map_blk HP.out.sure h))
      obtain ⟨b, hb⟩ : ∃ b, L.sure = some b := by
        cases hL : L.sure with
        | none => exact absurd hL (HP.out.made (fun h => by rw [h] at hil2; simp at hil2))
        | some b => exact ⟨b, rfl⟩
      have c2 := a1.cell 2
      simp [cellsFS, hb] at c2
      have hcr : Clo wr S L.fb (.func (.func g) #[] cb) c := hc.off HK.out (fun k' h _ => .inl (map_blk HP.out.sure h))
      have hm : MapAt wr S (some b) ((s.loose.take i).foldl app s.sure) L.fb := by rw [← hb]; exact HM.out
      have hdl : ((s.loose.take i).foldl app s.sure).length ≤ 2000000 := by
        have h1 := length_apps_le (s.loose.take i) s.sure
        have h2 := HG.out.bulk
        unfold St.bulk at h2
        have h3 : (s.loose.take i).length ≤ s.loose.length := List.length_take_le' i s.loose
        omega
      have cD := hdo wr S hcr s.files.length b _ hdl (HG.out.chain.fits i c hci) hm
      have HB := Lib.hid hb
      have HCI := Lib.hid hci
      clear hil hil2 hvi hci hc hdo hob hcells hb hcr hm hdl a1 hfs HR
      go_wp2_with (go_at_fn g; refine cD.mono ?_; rintro e w3 ⟨rfl, hm3, k3, z3⟩; have HM3 := Lib.hid hm3; have HK3 := Lib.hid k3; have HZ3 := Lib.hid z3; clear hm3 k3 z3)
      go_roundw
      case rel =>
        refine ⟨i + 1, by omega, by go_num, ?_, ?_, ?_⟩
        · show MapAt _ _ _ _ _
          rw [take_fold s i c HCI.out, HB.out]
          exact HM3.out
        · exact HK.out.trans HK3.out (fun j _ e => by rw [e]; exact HB.out)
        · exact HZ3.out.trans HZ.out
      case measure => simp [intOf]; omega
    · have hik' : i = k := by omega
      subst hik'
      have c33 := a1.cell 3
      have f33 := a1.frozen 3
      simp [cellsFS] at c33
      clear a1 hfs
      go_wp2
      go_end0
      exact settle_parts HP.out HM.out HK.out HZ.out

/-! ### Clone of bytes -/
/-- A row of its own of just these bytes. -/
def Cloned (w : World) (bs : List Nat) (v : Value) (w' : World) : Prop := Own w' v bs ∧ Keep (fun _ => False) w w' ∧ ∀ b, v.ownBlock = some b → w.heap.size ≤ b
theorem empty_row (w : World) : Own (w.alloc (.cells #[] 5)) (.slice (some ⟨w.heap.size, 0, none⟩) 0 0) [] := by
  have := Own.made w [] (by simp) (by simp [maxLen])
  exact this
/-! ### keep -/
theorem Own.cut {w : World} {x : Option Addr} {n cap m : Nat} {bs : List Nat} (h : Own w (.slice x n cap) bs) (hm : m ≤ bs.length) : Own w (.slice x m cap) (bs.take m) := by
  refine ⟨⟨by simp [cellsOf_length, Nat.min_eq_left hm], ?_⟩, fun c hc => h.2 c (List.mem_of_mem_take hc)⟩
  have hl : (bs.take m).length = m := by simp [Nat.min_eq_left hm]
  rcases h.1.2 with ⟨e, h0⟩ | ⟨g, cap', cur, e, hb, hg, hnc, hmx, hs, ht⟩
  · injection e with e1 e2 e3
    left
    have : m = 0 := by omega
    subst this
    simp [e1, e3]
  · injection e with e1 e2 e3
    right
    subst e1 e3
    refine ⟨g, cap, cur, by rw [hl], hb, hg, by omega, hmx, hs, ?_⟩
    have : cellsOf (bs.take m) = (cellsOf bs).take m := by simp [cellsOf, List.map_take]
    rw [this, ← ht, List.take_take, hl]
    congr 1
    omega
set_option maxHeartbeats 4000000 in
set_option maxRecDepth 100000 in
theorem keepFile (b : Nat) (x : Option Addr) (n cap k more : Nat) (bs : List Nat) (hn : bs.length = n) (hk : k ≤ n) (hl : n ≤ 16777216) (hm : more ≤ 9223372036854775807) (w : World) (hA : At w b 63 #[.slice x n cap, .int .i64 (k : Int)]) (hO : Own w (.slice x n cap) bs) :
    Calls Tryd.prog 26 #[.pointer (some ⟨b, 0, none⟩), .int .i64 (more : Int)] w fun e w' => e = .returned (.tuple #[]) ∧ At w' b 63 #[.slice x (k + min more (n - k)) cap, .int .i64 ((k + min more (n - k) : Nat) : Int)] ∧ Keep (· = b) w w' ∧ w'.heap.size = w.heap.size := by
  have c0 := hA.cell 0
  have c1 := hA.cell 1
  have f0 := hA.frozen 0
  have f1 := hA.frozen 1
  simp at c0 c1
  obtain ⟨M, hM⟩ : ∃ M, M = k + min more (n - k) := ⟨_, rfl⟩
  have hmin : (k : Int) + min (more : Int) ((n : Int) - (k : Int)) = (M : Int) := by omega
  have hMn : M ≤ n := by omega
  have hkM : k ≤ M := by omega
  obtain ⟨s1, s2⟩ := cut_pre x n cap M (by have := hO.cap_le; omega)
  have HA := Lib.hid hA
  have HM := Lib.hid hM
  rw [← hM]
  clear hA hO hM hn
  go_enter Tryd.func26, Tryd.ntmps26
  go_wp2
  go_still_tail 19, (by kernel_rfl)
  change wpList _ _ _ _ _ w.drew
  go_wp2
  obtain ⟨w1, hw1⟩ : ∃ w1, w1 = (w.setCell ⟨b, 1, none⟩ (.int .i64 (M : Int))).drew := ⟨_, rfl⟩
  rw [hmin, ← hw1]
  have A1 : At w1 b 63 #[.slice x n cap, .int .i64 (M : Int)] := by rw [hw1]; exact (HA.out.put 1 _).drew
  have K1 : Hid (Keep (· = b) w w1) := by rw [hw1]; exact ((Keep.refl (· = b) w).setCell (p := ⟨b, 1, none⟩) (fun _ => rfl) _).drew
  have Z1 : Hid (w1.heap.size = w.heap.size) := by show _ = _; rw [hw1]; simp [World.setCell, World.drew]
  have d0 := A1.cell 0
  have d1 := A1.cell 1
  have g0 := A1.frozen 0
  simp at d0 d1
  have HA1 := Lib.hid A1
  clear hw1 A1 c0 c1 f0 f1
  go_still_tail 12, (by kernel_rfl)
  change wpList _ _ _ _ _ w1.drew
  go_wp2
  go_end0
  refine ⟨rfl, (HA1.out.drew.put 0 _), K1.out.trans (((Keep.refl (· = b) w1).drew).setCell (p := ⟨b, 0, none⟩) (fun _ => rfl) _) (fun _ _ h => h), ?_⟩
  have := Z1.out
  simpa [World.setCell, World.drew] using this

end Go.Proofs.YtlpeiejohgchmaaDoor.Fs
