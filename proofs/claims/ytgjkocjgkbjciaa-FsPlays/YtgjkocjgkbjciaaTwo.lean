/-
  The program's disk and the document's, side by side; what the law's 'room' and 'other' do.
-/
import Derived.Test.YtgjkocjgkbjciaaRefI
import Derived.Test.YtgjkocjgkbjciaaRefJ
namespace Go.Proofs.Ytgjkocjgkbjciaa.Fs
open Go.RowKit Go.Maps
set_option linter.unusedVariables false
set_option linter.unusedSimpArgs false

/-! ### All names are right ones -/
def nmC : Chg → Prop
  | .mk a _ => isNm a = true
  | .ren _ b => isNm b = true
  | .unl _ => True
structure Nmd (s : St) : Prop where
  sure : ∀ p ∈ s.sure, isNm p.1 = true
  loose : ∀ c ∈ s.loose, nmC c
theorem app_nmd {d : Dir} (h : ∀ p ∈ d, isNm p.1 = true) {c : Chg} (hc : nmC c) : ∀ p ∈ app d c, isNm p.1 = true := by
  intro p hp
  cases c with
  | mk a i =>
    rcases mem_put.1 hp with e | ⟨h1, _⟩
    · rw [e]; exact hc
    · exact h p h1
  | ren a b =>
    rcases mem_put.1 (mem_del.1 hp).1 with e | ⟨h1, _⟩
    · rw [e]; exact hc
    · exact h p h1
  | unl a => exact h p (mem_del.1 hp).1
theorem apps_nmd : ∀ {l : List Chg} {d : Dir}, (∀ p ∈ d, isNm p.1 = true) → (∀ c ∈ l, nmC c) → ∀ p ∈ l.foldl app d, isNm p.1 = true
  | [], d, h, _ => h
  | c :: r, d, h, hc => apps_nmd (l := r) (app_nmd h (hc c List.mem_cons_self)) (fun c' h' => hc c' (List.mem_cons_of_mem _ h'))
theorem Nmd.now {s : St} (h : Nmd s) : ∀ p ∈ s.now, isNm p.1 = true := apps_nmd h.sure h.loose
theorem nmd_same {s t : St} (h : Nmd s) (h1 : t.sure = s.sure) (h2 : t.loose = s.loose) : Nmd t := ⟨by rw [h1]; exact h.sure, by rw [h2]; exact h.loose⟩
theorem nmd_burn {s : St} (h : Nmd s) : Nmd (burnS s) := nmd_same h (burn_sure s) (burn_loose s)
theorem nmd_chg {s t : St} (h : Nmd s) (h1 : t.sure = s.sure) (h2 : t.loose = s.loose) {c : Chg} (hc : nmC c) : Nmd (chgS t c) := by
  unfold chgS
  split
  · refine ⟨?_, fun c' h' => ?_⟩
    · show ∀ p ∈ (burnS t).sure, _
      rw [burn_sure, h1]; exact h.sure
    · rcases List.mem_append.1 (show c' ∈ t.loose ++ [c] from h') with h' | h'
      · rw [h2] at h'; exact h.loose c' h'
      · simp at h'; rw [h']; exact hc
  · exact nmd_same h (by rw [burn_sure, h1]) (by rw [burn_loose, h2])
theorem ready_nms {s : St} {ns : List Nm} (h : readyE s ns = 0) : ∀ a ∈ ns, isNm a = true := by
  unfold readyE at h
  split at h
  · rename_i h1; exact List.all_eq_true.1 h1
  · cases h
theorem nmd_do {s : St} (h : Nmd s) (o : OpR) : Nmd (doS s o) := by
  unfold doS
  split
  · unfold createS
    split
    · exact h
    · rename_i hr
      split
      · exact h
      · split
        · exact h
        · split
          · exact nmd_chg (s := s) (t := { s with files := s.files ++ [⟨[], 0⟩] }) (c := .mk (nm o.a) s.files.length) h rfl rfl (ready_nms (s := s) (ns := [nm o.a]) (by simpa using hr) (nm o.a) (by simp))
          · exact nmd_burn h
  · split
    · unfold appendS
      split
      · exact h
      · split
        · exact h
        · split
          · exact nmd_same (nmd_burn h) rfl rfl
          · exact nmd_burn h
    · split
      · unfold syncS
        split
        · exact h
        · split
          · exact nmd_same (nmd_burn h) rfl rfl
          · exact nmd_burn h
      · split
        · unfold renameS
          split
          · exact h
          · rename_i hr
            split
            · split
              · exact nmd_burn h
              · exact nmd_chg (c := .ren (nm o.a) (nm o.b)) h rfl rfl (ready_nms (s := s) (ns := [nm o.a, nm o.b]) (by simpa using hr) (nm o.b) (by simp))
            · exact h
        · split
          · unfold unlinkS
            split
            · exact h
            · exact nmd_chg h rfl rfl trivial
          · split
            · unfold dirSyncS
              split
              · exact h
              · split
                · have hB := nmd_burn h
                  exact ⟨apps_nmd (l := (burnS s).loose.take s.loose.length) hB.sure (fun c hc => hB.loose c (List.mem_of_mem_take hc)), fun c hc => by cases hc⟩
                · exact nmd_burn h
            · exact h
theorem nmd_crash {s : St} (h : Nmd s) (a b : Int) : Nmd (crashS s a b) :=
  ⟨apps_nmd (l := s.loose.take (min a.toNat s.loose.length)) h.sure (fun c hc => h.loose c (List.mem_of_mem_take hc)), fun c hc => by cases hc⟩
theorem bulk_crash (s : St) (a b : Int) : (crashS s a b).bulk ≤ s.bulk := by
  have h := length_apps_le (s.loose.take (min a.toNat s.loose.length)) s.sure
  unfold St.bulk
  show (keepAll s.files _ _).length + ((s.loose.take (min a.toNat s.loose.length)).foldl app s.sure).length + 0 ≤ _
  have : (keepAll s.files ((s.loose.take (min a.toNat s.loose.length)).foldl app s.sure) b.toNat).length = s.files.length := by simp [keepAll]
  rw [this]
  simp at h
  omega

/-! ### Both disks -/
structure TwoST (w : World) (base f q : Nat) (s r : St) (S T : Nat → Prop) : Prop where
  disk : Disk w S f s
  ref : Ref w T q r
  hS : ∀ b, S b → base ≤ b ∧ b < w.heap.size
  hT : ∀ b, T b → base ≤ b ∧ b < w.heap.size
  apart : ∀ b, S b → ¬ T b
section
variable {w w' : World} {base f q : Nat} {s r s' r' : St} {S T : Nat → Prop}
theorem TwoST.quiet (h : TwoST w base f q s r S T) (k : Keep (fun _ => False) w w') : TwoST w' base f q s r S T :=
  ⟨h.disk.keep k (fun _ _ h => h), h.ref.keep k (fun _ _ h => h), fun b hb => by have := h.hS b hb; have := k.size; omega, fun b hb => by have := h.hT b hb; have := k.size; omega, h.apart⟩
theorem TwoST.onDisk (h : TwoST w base f q s r S T) (hw : base ≤ w.heap.size) (hd : Disk w' (Up S w w') f s') (k : Keep S w w') : TwoST w' base f q s' r (Up S w w') T := by
  have hz := k.size
  refine ⟨hd, h.ref.keep k (fun b hb hs => h.apart b hs hb), fun b hb => ?_, fun b hb => by have := h.hT b hb; omega, fun b hb ht => ?_⟩
  · rcases hb with hb | ⟨h1, h2⟩
    · have := h.hS b hb; omega
    · omega
  · rcases hb with hb | ⟨h1, h2⟩
    · exact h.apart b hb ht
    · have := h.hT b ht; omega
theorem TwoST.onRef (h : TwoST w base f q s r S T) (hw : base ≤ w.heap.size) (hd : Ref w' (Up T w w') q r') (k : Keep T w w') : TwoST w' base f q s r' S (Up T w w') := by
  have hz := k.size
  refine ⟨h.disk.keep k (fun b hb ht => h.apart b hb ht), hd, fun b hb => by have := h.hS b hb; omega, fun b hb => ?_, fun b hb ht => ?_⟩
  · rcases hb with hb | ⟨h1, h2⟩
    · have := h.hT b hb; omega
    · omega
  · rcases ht with ht | ⟨h1, h2⟩
    · exact h.apart b hb ht
    · have := h.hS b hb; omega
/-- Both disks, as far as the law knows of them. -/
def Two (w : World) (base f q : Nat) (s : St) : Prop := ∃ r S T, TwoST w base f q s r S T ∧ Sim s r ∧ Nmd s
theorem Two.quiet (h : Two w base f q s) (k : Keep (fun _ => False) w w') : Two w' base f q s := by
  obtain ⟨r, S, T, h1, h2⟩ := h
  exact ⟨r, S, T, h1.quiet k, h2⟩
end

/-! ### The law's 'room' -/
set_option maxHeartbeats 2000000 in
theorem lawRoom (n : Int) (w : World) : Calls Try.prog 11 #[.int .i64 n] w fun e w' => e = .returned (.int .i64 (min (max n 0) 16777216)) ∧ w = w' := by
  by_cases h1 : n < 0
  · have e : min (max n 0) 16777216 = 0 := by omega
    rw [e]
    go_enter Try.func11, Try.ntmps11
    go_wp2
    go_ret
    exact ⟨rfl, rfl⟩
  · by_cases h2 : 16777216 < n
    · have e : min (max n 0) 16777216 = 16777216 := by omega
      rw [e]
      go_enter Try.func11, Try.ntmps11
      go_wp2
      go_ret
      exact ⟨rfl, rfl⟩
    · have e : min (max n 0) 16777216 = n := by omega
      rw [e]
      go_enter Try.func11, Try.ntmps11
      go_wp2
      go_ret
      exact ⟨rfl, rfl⟩

/-! ### The law's 'other' -/
def otherS (s : St) (kind num more : Int) : St := if kind = 7 then roomS s num else if kind = 8 then fuseS s num else crashS s num more
theorem bulk_other (s : St) (k n m : Int) : (otherS s k n m).bulk ≤ s.bulk := by
  unfold otherS
  split
  · exact Nat.le_refl _
  · split
    · exact Nat.le_refl _
    · exact bulk_crash s n m
theorem refCrash (r : Nat) (T : Nat → Prop) (s : St) (dirs bytes : Int) (w : World) (h : Ref w T r s) :
    Calls Try.prog 33 #[.pointer (some ⟨r, 0, none⟩), .int .i64 dirs, .int .i64 bytes] w (CrashedR w T r (crashR s dirs bytes)) := by
  by_cases hb : bytes < 0
  · exact refCrashA r T s dirs bytes hb w h
  · obtain ⟨M, rfl⟩ : ∃ M : Nat, bytes = (M : Int) := ⟨bytes.toNat, by omega⟩
    exact refCrashB r T s dirs M w h
def Othered (w : World) (base f q : Nat) (t : St) (e : Ending) (w' : World) : Prop := e = .returned (.tuple #[]) ∧ Two w' base f q t ∧ Below base w w'
set_option maxHeartbeats 4000000 in
set_option maxRecDepth 100000 in
theorem other (base f q : Nat) (s : St) (kind num more : Int) (hk : 7 ≤ kind ∧ kind ≤ 9) (hnum : num ≤ 9223372036854775807) (hmore : more ≤ 9223372036854775807) (v3 v4 v5 : Value) (w : World) (hw : base ≤ w.heap.size) (h : Two w base f q s) :
    Calls Try.prog 13 #[.pointer (some ⟨f, 0, none⟩), .pointer (some ⟨q, 0, none⟩), .agg #[.int .i64 kind, .int .i64 num, .int .i64 more, v3, v4, v5]] w (Othered w base f q (otherS s kind num more)) := by
  obtain ⟨r, S, T, hTw, hSim, hNm⟩ := h
  obtain ⟨w1, hw1⟩ : ∃ w1, w1 = w.alloc (.cells #[.int .i64 kind, .int .i64 num, .int .i64 more, v3, v4, v5] 34) := ⟨_, rfl⟩
  have k1 : Keep (fun _ => False) w w1 := by rw [hw1]; exact (Keep.refl _ w).alloc _
  have hA1 : At w1 w.heap.size 34 #[.int .i64 kind, .int .i64 num, .int .i64 more, v3, v4, v5] := by rw [hw1]; exact At.new w _ _
  have h1 := hTw.quiet k1
  have hSw : ∀ b, S b → b ≠ w.heap.size := fun b hb => by have := hTw.hS b hb; omega
  have hTn : ∀ b, T b → b ≠ w.heap.size := fun b hb => by have := hTw.hT b hb; omega
  have c0 := hA1.cell 0
  have c1 := hA1.cell 1
  have c2 := hA1.cell 2
  simp at c0 c1 c2
  have HW := Lib.hid hw1
  have HK := Lib.hid k1
  have HT1 := Lib.hid h1
  have HSm := Lib.hid hSim
  have HNm := Lib.hid hNm
  have HSw := Lib.hid hSw
  have HTn := Lib.hid hTn
  have HA := Lib.hid hA1
  clear hw1 k1 hA1 h1 hTw hSim hNm hSw hTn
  have hfS : Hid (S f) := by obtain ⟨⟨L, hp⟩, _⟩ := HT1.out.disk; exact hp.inS
  have hqT : Hid (T q) := by obtain ⟨⟨vs, vl, vf, fl, hp⟩, _⟩ := HT1.out.ref; exact hp.inT
  rcases (show kind = 7 ∨ kind = 8 ∨ kind = 9 by omega) with rfl | rfl | rfl
  · go_enter Try.func13, Try.ntmps13
    go_wp2_with fail
    rw [← HW.out]
    refine (room f S s num w1 HT1.out.disk).mono ?_
    intro e w2 hT2
    obtain ⟨rfl, hd2, k2, z2⟩ := hT2
    have hcell := k2.cell c1 (fun e => HSw.out f hfS.out e.symm)
    have h2 := HT1.out.onDisk (by have := HK.out.size; omega) (hd2.mono (fun _ _ h => .inl h)) (k2.mono (T := S) (fun b _ e => by rw [e]; exact hfS.out))
    obtain ⟨⟨vs, vl, vf, fl, hp⟩, hG, hRi⟩ := h2.ref
    have r3 := hp.fs.cell 3
    have z3 := hp.fs.frozen 3
    have hlt := hp.fs.lt
    simp at r3
    have H2 := Lib.hid h2
    have HP := Lib.hid hp
    have HG := Lib.hid hG
    have HRi := Lib.hid hRi
    have HK2 := Lib.hid k2
    clear hd2 k2 z2 h2 hp hG hRi c0 c1 c2
    go_wp2_with (first | (go_at_call 11; refine (lawRoom num _).mono ?_; rintro e w' ⟨rfl, rfl⟩))
    (try simp only [Exit.inBlock, Exit.then])
    refine bodyPost_ret (results_none rfl _ _ _) rfl ?_
    have kp := keep_put (w := w2) (r := q) 3 (.int .i64 (min (max num 0) 16777216))
    have hq := HP.out.turn (t := roomS r num) kp (by
      have := HP.out.fs.put 3 (.int .i64 (min (max num 0) 16777216))
      rw [show ((roomS r num).room : Int) = min (max num 0) 16777216 by show ((min (max num 0) 16777216).toNat : Int) = _; omega]
      exact this) rfl rfl rfl
    have hbase : base ≤ w1.heap.size := by have := HK.out.size; omega
    have h3 := H2.out.onRef (by have := HK2.out.size; omega) ⟨⟨_, _, _, _, hq.mono (fun b _ h => .inl h)⟩, roomS_good HG.out num, HRi.out⟩ (kp.mono (T := T) (fun b _ e => by rw [e]; exact hqT.out))
    refine ⟨rfl, ⟨_, _, _, h3, sim_room HSm.out num, nmd_same HNm.out rfl rfl⟩, ?_⟩
    exact (quiet_below HK.out hw).trans ((HK2.out.below hbase (fun b e => by rw [e]; exact (HT1.out.hS f hfS.out).1)).trans (kp.below (by have := HK2.out.size; omega) (fun b e => by rw [e]; exact (HT1.out.hT q hqT.out).1)))
  · go_enter Try.func13, Try.ntmps13
    go_wp2_with fail
    rw [← HW.out]
    refine (fuse f S s num hnum w1 HT1.out.disk).mono ?_
    intro e w2 hT2
    obtain ⟨rfl, hd2, k2, z2⟩ := hT2
    have hcell := k2.cell c1 (fun e => HSw.out f hfS.out e.symm)
    have h2 := HT1.out.onDisk (by have := HK.out.size; omega) (hd2.mono (fun _ _ h => .inl h)) (k2.mono (T := S) (fun b _ e => by rw [e]; exact hfS.out))
    obtain ⟨⟨vs, vl, vf, fl, hp⟩, hG, hRi⟩ := h2.ref
    have r3 := hp.fs.cell 4
    have z3 := hp.fs.frozen 4
    have hlt := hp.fs.lt
    simp at r3
    have H2 := Lib.hid h2
    have HP := Lib.hid hp
    have HG := Lib.hid hG
    have HRi := Lib.hid hRi
    have HK2 := Lib.hid k2
    clear hd2 k2 z2 h2 hp hG hRi c0 c1 c2
    go_wp2
    (try simp only [Exit.inBlock, Exit.then])
    refine bodyPost_ret (results_none rfl _ _ _) rfl ?_
    have kp := keep_put (w := w2) (r := q) 4 (.int .i64 (max num 0))
    have hq := HP.out.turn (t := fuseS r num) kp (by
      have := HP.out.fs.put 4 (.int .i64 (max num 0))
      rw [show fuseI (fuseS r num) = max num 0 by show ((max num 0).toNat : Int) = max num 0; omega]
      exact this) rfl rfl rfl
    have hbase : base ≤ w1.heap.size := by have := HK.out.size; omega
    have h3 := H2.out.onRef (by have := HK2.out.size; omega) ⟨⟨_, _, _, _, hq.mono (fun b _ h => .inl h)⟩, fuseS_good HG.out num hnum, HRi.out⟩ (kp.mono (T := T) (fun b _ e => by rw [e]; exact hqT.out))
    refine ⟨rfl, ⟨_, _, _, h3, sim_fuse HSm.out num, nmd_same HNm.out rfl rfl⟩, ?_⟩
    exact (quiet_below HK.out hw).trans ((HK2.out.below hbase (fun b e => by rw [e]; exact (HT1.out.hS f hfS.out).1)).trans (kp.below (by have := HK2.out.size; omega) (fun b e => by rw [e]; exact (HT1.out.hT q hqT.out).1)))
  · go_enter Try.func13, Try.ntmps13
    go_wp2_with fail
    rw [← HW.out]
    refine (crash f S s num more hmore w1 HT1.out.disk).mono ?_
    intro e w2 hT2
    obtain ⟨rfl, hd2, k2⟩ := hT2
    have hc1 := k2.cell c1 (fun h => HSw.out _ h rfl)
    have hc2 := k2.cell c2 (fun h => HSw.out _ h rfl)
    have h2 := HT1.out.onDisk (by have := HK.out.size; omega) hd2 k2
    have H2 := Lib.hid h2
    have HK2 := Lib.hid k2
    have HGd := Lib.hid HT1.out.disk.good
    clear hd2 k2 h2 c0 c1 c2
    go_wp2_with fail
    refine (refCrash q T r num more w2 H2.out.ref).mono ?_
    intro e w3 hT3
    obtain ⟨rfl, hd3, k3⟩ := hT3
    have HD3 := Lib.hid hd3
    have HK3 := Lib.hid k3
    clear hd3 k3
    go_wp2
    (try simp only [Exit.inBlock, Exit.then])
    refine bodyPost_ret (results_none rfl _ _ _) rfl ?_
    have hbase : base ≤ w1.heap.size := by have := HK.out.size; omega
    have h3 := H2.out.onRef (by have := HK2.out.size; omega) HD3.out HK3.out
    refine ⟨rfl, ⟨_, _, _, h3, sim_crash HSm.out HGd.out num more, nmd_crash HNm.out num more⟩, ?_⟩
    exact (quiet_below HK.out hw).trans ((HK2.out.below hbase (fun b e => (HT1.out.hS b e).1)).trans (HK3.out.below (by have := HK2.out.size; omega) (fun b e => (HT1.out.hT b e).1)))

end Go.Proofs.Ytgjkocjgkbjciaa.Fs
