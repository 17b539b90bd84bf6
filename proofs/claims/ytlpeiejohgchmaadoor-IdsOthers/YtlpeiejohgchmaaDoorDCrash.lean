/-
  What 'Crash' does.
-/
import Derived.Test.YtlpeiejohgchmaaDoorDOpsD
import Derived.Shelf.SlMaps.Clone
namespace Go.Proofs.YtlpeiejohgchmaaDoor.Fs
open Go.RowKit Go.Maps
set_option linter.unusedVariables false

/-! ### The library's Clone of a map -/
set_option maxHeartbeats 2000000 in
set_option maxRecDepth 100000 in
theorem mapClone (b : Nat) (es : Array MapEntry) (clock : Nat) (w : World) (hb : w.heap[b]? = some (.map es clock)) :
    Calls Tryd.prog 25 #[.map (some b)] w fun e w' => e = .returned (.map (some w.heap.size)) ∧ w' = w.alloc (.map es clock) := by
  have hq := fun w => run_eql_map_nil_sl (P := Tryd.prog) w 45 _ _ (some b) Tryd.underlying45
  go_enter Tryd.func25, Tryd.ntmps25
  go_wp2
  rw [run_callFunc_extern Tryd.func37 (by kernel_rfl) (by kernel_rfl) (by kernel_rfl) (e := Extern.MapsClone.clone) (by kernel_rfl), run_maps_clone_sl w 45 hb]
  simp only [Result.andThen]
  rw [Oper.upon_value]
  go_wp2
  rw [run_typeAssert_map_sl _ 45 20 _ _ _ Tryd.underlying45]
  simp only [Result.andThen]
  rw [Oper.upon_value]
  go_wp2
  go_ret
  exact ⟨rfl, rfl⟩
set_option maxHeartbeats 2000000 in
theorem mapCloneNil (w : World) : Calls Tryd.prog 25 #[.map none] w fun e w' => e = .returned (.map none) ∧ w = w' := by
  have hq := fun w => run_eql_map_nil_sl (P := Tryd.prog) w 45 _ _ none Tryd.underlying45
  go_enter Tryd.func25, Tryd.ntmps25
  go_wp2
  go_ret
  exact ⟨rfl, rfl⟩

/-! ### Files of which some are kept -/
def keepBut (fs : List File) (d : Dir) (left : Lit → Bool) (more : Nat) : List File := fs.mapIdx fun i x => if d.any (fun p => p.2 == i && !left (.string p.1)) then keepF x more else x
theorem keepBut_length (fs : List File) (d : Dir) (left : Lit → Bool) (more : Nat) : (keepBut fs d left more).length = fs.length := by simp [keepBut]
theorem keepBut_start (fs : List File) (d : Dir) (fb : Nat → Nat) (more : Nat) : keepBut fs d (Maps.has (toD fb d)) more = fs := by
  unfold keepBut
  apply List.ext_getElem?
  intro j
  rw [List.getElem?_mapIdx]
  have : d.any (fun p => p.2 == j && !Maps.has (toD fb d) (.string p.1)) = false := by
    rw [List.any_eq_false]
    intro p hp
    rw [toD_has]
    have : get d p.1 ≠ none := fun h => get_none.1 h p hp rfl
    cases h : get d p.1
    · exact absurd h this
    · simp
  rw [this]
  cases fs[j]? <;> rfl
theorem keepBut_end (fs : List File) (d : Dir) {left : Lit → Bool} (more : Nat) (hl : ∀ kl, left kl = false) : keepBut fs d left more = keepAll fs d more := by
  simp only [keepBut, keepAll, hl, Bool.not_false, Bool.and_true]
theorem keepBut_at {fs : List File} {d : Dir} {n : Nat} (hT : Tidy n d) {left : Lit → Bool} {a : Nm} {i : Nat} (hm : (a, i) ∈ d) (hl : left (.string a) = true) (more : Nat) : (keepBut fs d left more)[i]? = fs[i]? := by
  unfold keepBut
  rw [List.getElem?_mapIdx]
  have : d.any (fun p => p.2 == i && !left (.string p.1)) = false := by
    rw [List.any_eq_false]
    intro p hp
    by_cases he : p.2 = i
    · have := hT.same hp hm he
      subst this
      simp [hl]
    · simp [he]
  rw [this]
  cases fs[i]? <;> rfl
theorem keepBut_step {fs : List File} {d : Dir} {n : Nat} (hT : Tidy n d) {left : Lit → Bool} {a : Nm} {i : Nat} (hm : (a, i) ∈ d) (more : Nat) {X : File} (hX : fs[i]? = some X) :
    keepBut fs d (fun z => left z && !z.sameKey (.string a)) more = (keepBut fs d left more).set i (keepF X more) := by
  have hsk : ∀ b : Nm, (Lit.string b).sameKey (.string a) = (b == a) := fun b => rfl
  have hil : i < fs.length := (List.getElem?_eq_some_iff.1 hX).1
  apply List.ext_getElem?
  intro j
  by_cases hj : j = i
  · subst hj
    rw [List.getElem?_set_self (by rw [keepBut_length]; exact hil)]
    unfold keepBut
    rw [List.getElem?_mapIdx, hX]
    have : d.any (fun p => p.2 == j && !(left (.string p.1) && !(Lit.string p.1).sameKey (.string a))) = true := by
      rw [List.any_eq_true]
      exact ⟨(a, j), hm, by simp [hsk]⟩
    rw [this]
    rfl
  · rw [List.getElem?_set_ne (Ne.symm hj)]
    unfold keepBut
    rw [List.getElem?_mapIdx, List.getElem?_mapIdx]
    have : d.any (fun p => p.2 == j && !(left (.string p.1) && !(Lit.string p.1).sameKey (.string a))) = d.any (fun p => p.2 == j && !left (.string p.1)) := by
      rw [Bool.eq_iff_iff, List.any_eq_true, List.any_eq_true]
      constructor
      · rintro ⟨p, hp, h⟩
        refine ⟨p, hp, ?_⟩
        have hpa : p.1 ≠ a := fun e => by
          have h1 := get_of_mem hT.names hm
          have h2 := get_of_mem hT.names (show (a, p.2) ∈ d by rw [← e]; exact hp)
          rw [h1] at h2
          injection h2 with h2
          simp at h
          omega
        have hb : (p.1 == a) = false := by simpa using hpa
        rw [hsk, hb] at h
        simpa using h
      · rintro ⟨p, hp, h⟩
        refine ⟨p, hp, ?_⟩
        simp at h ⊢
        simp [h]
    rw [this]
theorem keepF_ok {x : File} (more : Nat) (h : x.sure ≤ x.bytes.length) : (keepF x more).sure ≤ (keepF x more).bytes.length ∧ (keepF x more).bytes.length ≤ x.bytes.length ∧ (keepF x more).bytes.length = (keepF x more).sure := by
  unfold keepF
  simp
  omega
theorem keepAll_mem {fs : List File} {d : Dir} {more : Nat} {y : File} (h : y ∈ keepAll fs d more) : ∃ x ∈ fs, y = x ∨ y = keepF x more := by
  unfold keepAll at h
  obtain ⟨i, hi, rfl⟩ := List.mem_mapIdx.1 h
  refine ⟨fs[i], List.getElem_mem hi, ?_⟩
  split
  · exact .inr rfl
  · exact .inl rfl
theorem crash_good {s : St} (h : Good s) (dirs bytes : Int) : Good (crashS s dirs bytes) := by
  have hl : (crashS s dirs bytes).files.length = s.files.length := by simp [crashS, keepAll]
  have hc := h.chain.take (min dirs.toNat s.loose.length)
  refine ⟨?_, trivial, fun y hy => ?_, fun y hy => ?_, fun y hy => ?_, h.room, by simp [crashS], ?_⟩
  · rw [hl]
    exact Chain.tidy h.tidy hc
  · obtain ⟨x, hx, rfl | rfl⟩ := keepAll_mem hy
    · exact h.sure _ hx
    · exact (keepF_ok _ (h.sure x hx)).1
  · obtain ⟨x, hx, rfl | rfl⟩ := keepAll_mem hy
    · exact h.byte _ hx
    · exact fun c hc => h.byte x hx c (List.mem_of_mem_take hc)
  · obtain ⟨x, hx, rfl | rfl⟩ := keepAll_mem hy
    · exact h.len _ hx
    · have := (keepF_ok bytes.toNat (h.sure x hx)).2.1
      have := h.len x hx
      omega
  · have h1 := length_apps_le (s.loose.take (min dirs.toNat s.loose.length)) s.sure
    have h2 := h.bulk
    have h3 : (s.loose.take (min dirs.toNat s.loose.length)).length ≤ s.loose.length := List.length_take_le' _ _
    unfold St.bulk at h2 ⊢
    rw [hl]
    show s.files.length + ((s.loose.take (min dirs.toNat s.loose.length)).foldl app s.sure).length + 0 ≤ 1000000
    omega

/-- What 'Crash' leaves behind. -/
def Crashed (w : World) (S : Nat → Prop) (f : Nat) (s : St) (e : Ending) (w' : World) : Prop := e = .returned (.tuple #[]) ∧ Disk w' (Up S w w') f s ∧ Keep S w w'
set_option maxHeartbeats 2000000 in
theorem crashNone (a b : Int) (w : World) : Calls Tryd.prog 16 #[.pointer none, .int .i64 a, .int .i64 b] w fun e w' => e = .returned (.tuple #[]) ∧ w = w' := by
  go_enter Tryd.func16, Tryd.ntmps16
  go_wp2
  (try simp only [Exit.inBlock, Exit.then])
  refine bodyPost_ret (results_none rfl _ _ _) rfl ?_
  exact ⟨rfl, rfl⟩

/-- The last of a crash: no fuse, the power back. -/
def up3 (w : World) (f : Nat) : World := ((w.setCell ⟨f, 4, none⟩ (.bool false)).setCell ⟨f, 5, none⟩ (.int .i64 0)).setCell ⟨f, 6, none⟩ (.bool false)
theorem up3_keep (w : World) (f : Nat) : Keep (· = f) w (up3 w f) := (((Keep.refl (· = f) w).setCell (p := ⟨f, 4, none⟩) (fun _ => rfl) _).setCell (p := ⟨f, 5, none⟩) (fun _ => rfl) _).setCell (p := ⟨f, 6, none⟩) (fun _ => rfl) _
theorem up3_at {w : World} {f : Nat} {r : Int} {a b : Option Nat} {lv : Value} {x y z : Value} (h : At w f 48 #[.int .i64 r, .map a, .map b, lv, x, y, z]) : At (up3 w f) f 48 #[.int .i64 r, .map a, .map b, lv, .bool false, .int .i64 0, .bool false] :=
  ((h.put 4 (.bool false)).put 5 (.int .i64 0)).put 6 (.bool false)
theorem up3_size (w : World) (f : Nat) : (up3 w f).heap.size = w.heap.size := by simp [up3, World.setCell]

/-- Which blocks the files lie in. -/
def InF (fb : Nat → Nat) (n : Nat) (b : Nat) : Prop := ∃ i, i < n ∧ b = fb i
/-- The disk behind a crash, put together. -/
theorem crash_parts {w1 w3 wr : World} {S : Nat → Prop} {f : Nat} {s : St} {L : Lay} {now : Option Nat} {row : Nat → Value} (dirs bytes : Int) (d : Dir) (hd : d = (s.loose.take (min dirs.toNat s.loose.length)).foldl app s.sure)
    (hp : Parts w1 S f (settleS s (min dirs.toNat s.loose.length)) s.now L) (hn : now = none ↔ L.sure = none) (h2 : ∀ b, now = some b → L.sure ≠ some b)
    (a3 : At w3 f 48 (cellsFS s now L.sure (.slice none 0 0))) (k3 : Keep (· = f) w1 w3) (m3 : MapAt wr (Up S w1 wr) now d L.fb) (hf : FilesAt wr (Up S w1 wr) L.fb row (keepAll s.files d bytes.toNat)) (kr : Keep (InF L.fb s.files.length) w3 wr) :
    Parts (up3 wr f) (Up S w1 (up3 wr f)) f (crashS s dirs bytes) (crashS s dirs bytes).now { L with now := now, lv := .slice none 0 0, cl := [], row := row } ∧ Keep S w1 (up3 wr f) := by
  have hfile : ∀ i, i < s.files.length → ∃ cs, At w1 (L.fb i) 63 cs := fun i hi => by
    obtain ⟨x, hx⟩ := getElem?_some_lt (l := (settleS s (min dirs.toNat s.loose.length)).files) hi
    exact ⟨_, hp.files.at_ i x hx⟩
  have hfn : ∀ i, i < s.files.length → L.fb i ≠ f := fun i hi e => by
    obtain ⟨cs, h⟩ := hfile i hi
    rw [e] at h
    exact At.ne h hp.fs (by decide) rfl
  have ar : At wr f 48 (cellsFS s now L.sure (.slice none 0 0)) := a3.keep kr (by
    rintro ⟨i, hi, e⟩
    exact hfn i hi e.symm)
  have ku := up3_keep wr f
  have hsz := up3_size wr f
  have hup : ∀ i, Up S w1 wr i → Up S w1 (up3 wr f) i := fun i h => by
    rcases h with h | ⟨h1, h2⟩
    · exact .inl h
    · exact .inr ⟨h1, by omega⟩
  let T : Nat → Prop := fun b => b = f ∨ InF L.fb s.files.length b
  have kT : Keep T w1 (up3 wr f) := ((k3.mono (T := T) (fun i _ h => .inl h)).trans kr (fun i _ h => .inr h)).trans ku (fun i _ h => .inl h)
  refine ⟨⟨?_, .inl hp.inS, hn, h2, fun h => absurd rfl h, ?_, ?_, Row.nil _ _ _ _, Clos.nil _ _ _, ?_⟩, kT.mono (fun i _ h => ?_)⟩
  · exact up3_at ar
  · have e : (crashS s dirs bytes).now = d := by rw [hd]; rfl
    rw [e]
    exact (m3.keep ku (fun b _ _ hb e => not_map_at ar (e ▸ hb))).mono (fun i _ h => hup i h)
  · have hs := hp.sure
    refine ((hs.keep kT (fun b _ _ hb h => ?_)).mono (fun i _ h => .inl h))
    rcases h with rfl | ⟨i, hi, rfl⟩
    · exact not_map_at hp.fs hb
    · obtain ⟨cs, h⟩ := hfile i hi
      exact not_map_at h hb
  · have e : (crashS s dirs bytes).files = keepAll s.files d bytes.toNat := by rw [hd]; rfl
    rw [e]
    exact (hf.keep ku (fun b t cs _ hb ht e => At.ne hb ar (by rcases ht with rfl | rfl <;> decide) e)).mono (fun i _ h => hup i h)
  · rcases h with rfl | ⟨i, hi, rfl⟩
    · exact hp.inS
    · exact hp.files.inS i hi

theorem keepAll_nil (fs : List File) (more : Nat) : keepAll fs [] more = fs := by
  unfold keepAll
  apply List.ext_getElem?
  intro j
  rw [List.getElem?_mapIdx]
  cases fs[j]? <;> rfl
theorem Crashed.of {w w1 w' : World} {S : Nat → Prop} {f : Nat} {s : St} {L : Lay} (hG : Good s) (k : Keep S w w1) (hp : Parts w' (Up S w1 w') f s s.now L) (k' : Keep S w1 w') : Crashed w S f s (.returned (.tuple #[])) w' :=
  ⟨rfl, ⟨⟨L, hp.mono (fun i _ h => Up.wide k.size (Nat.le_refl _) h)⟩, hG⟩, k.trans k' (fun _ _ h => h)⟩

theorem ranges_not_at {w : World} {R : Value → Option (DW × List MemPlace)} {b r n : Nat} {D : DW} {left : Lit → Bool} {cnt : Nat} (h : w.ranges Tryd.prog 9 R b r n D left cnt) {t : TypeId} {cs : Array Value} (ha : At w r t cs) : False := by
  obtain ⟨es, clock, since, seen, c0, hb, F, hs, hD, hr, rest⟩ := h
  unfold At at ha
  rw [ha] at hr
  cases hr

set_option maxHeartbeats 4000000 in
set_option maxRecDepth 100000 in
theorem crash (f : Nat) (S : Nat → Prop) (s : St) (dirs bytes : Int) (hby : bytes ≤ 9223372036854775807) (w : World) (h : Disk w S f s) :
    Calls Tryd.prog 16 #[.pointer (some ⟨f, 0, none⟩), .int .i64 dirs, .int .i64 bytes] w (Crashed w S f (crashS s dirs bytes)) := by
  obtain ⟨⟨L, hp⟩, hG⟩ := h
  obtain ⟨k, hk⟩ : ∃ k, k = min dirs.toNat s.loose.length := ⟨_, rfl⟩
  obtain ⟨x, cap, hv, _, _⟩ := ownsRow_shape hp.loose.1
  have c3 := hp.fs.cell 3
  simp [cellsFS, hv] at c3
  rw [hp.clos.1] at c3
  have cS := settle f S s s.now L k (by omega) w hp hG
  have hkI : min (max dirs 0) (s.loose.length : Int) = (k : Int) := by omega
  obtain ⟨more, hmore⟩ : ∃ more, more = bytes.toNat := ⟨_, rfl⟩
  have hmI : max bytes 0 = (more : Int) := by omega
  have hm9 : more ≤ 9223372036854775807 := by omega
  obtain ⟨d, hd⟩ : ∃ d, d = (s.loose.take k).foldl app s.sure := ⟨_, rfl⟩
  have hdT : Tidy s.files.length d := by rw [hd]; exact Chain.tidy hG.tidy (hG.chain.take k)
  have HG := Lib.hid hG
  have HKk := Lib.hid hk
  have HMo := Lib.hid hmore
  have HDd := Lib.hid hd
  have HDT := Lib.hid hdT
  have HCG := Lib.hid (crash_good hG dirs bytes)
  clear hp hG hv hk hmore hd hdT
  go_enter Tryd.func16, Tryd.ntmps16
  go_wp2_with fail
  refine cS.mono ?_
  intro e w1 hW
  obtain ⟨rfl, hp1, k1, z1⟩ := hW
  have HP1 := Lib.hid hp1
  have HK1 := Lib.hid k1
  have d2 := hp1.fs.cell 2
  have d1 := hp1.fs.cell 1
  have g1 := hp1.fs.frozen 1
  simp [cellsFS, settleS] at d1 d2
  clear k1 z1 hkI c3
  rcases hLs : L.sure with _ | b
  · have hd0 : d = [] := by
      have h1 : MapAt w1 S L.sure d L.fb := by rw [HDd.out]; exact hp1.sure
      rw [hLs] at h1
      exact h1.empty
    have hno : L.now = none := HP1.out.both.2 hLs
    have cC := mapCloneNil w1
    rw [hLs] at d2
    have HLs := Lib.hid hLs
    have hfl : f < w1.heap.size := HP1.out.fs.lt
    obtain ⟨w3, hw3⟩ : ∃ w3, w3 = w1.setCell ⟨f, 1, none⟩ (.map none) := ⟨_, rfl⟩
    have K3 : Hid (Keep (· = f) w1 w3) := by rw [hw3]; exact (Keep.refl (· = f) w1).setCell (p := ⟨f, 1, none⟩) (fun _ => rfl) _
    have A3 : Hid (At w3 f 48 (cellsFS s none L.sure (.slice none 0 0))) := by rw [hw3]; exact HP1.out.fs.put 1 _
    have F3 : Hid (FilesAt w3 S L.fb L.row s.files) := HP1.out.files.off K3.out (fun b e _ => by subst e; exact .inr ⟨48, _, HP1.out.fs, .inl rfl⟩)
    have c31 : w3.cell? ⟨f, 1, none⟩ = some (.map none) := by
      have := A3.out.cell 1
      simpa [cellsFS] using this
    have hrg := run_range_nilMap (P := Tryd.prog) w3 45 _ _ Tryd.underlying45
    have hnx : ∀ ty, (Instr.next (.pointer (some ⟨w3.heap.size, 0, none⟩)) false ty).run Tryd.prog (w3.alloc (.mapIter none 0 #[] 0)) = _ := fun ty => run_next_nilMap _ ty 0 0 #[]
    have A4 := A3.out.alloc (.mapIter none 0 #[] 0)
    have e4 := A4.cell 4
    have e5 := A4.cell 5
    have e6 := A4.cell 6
    have f4 := A4.frozen 4
    have f5 := A4.frozen 5
    have f6 := A4.frozen 6
    simp [cellsFS] at e4 e5 e6
    have HW3 := Lib.hid hw3
    clear hp1 hLs A4 hw3
    go_wp2_with fail
    refine cC.mono ?_
    rintro e w2 ⟨rfl, hw2⟩
    obtain rfl := hw2
    go_wp2_with (first
      | (at_range; rw [← HW3.out]; clear HW3)
      | go_in)
    (try go_frame)
    go_loopw [7] (fun _ wr => wr = w3.alloc (.mapIter none 0 #[] 0)) (fun _ _ => 0)
    case atStart => exact rfl
    case round =>
      obtain rfl := hrel
      go_wp2
      go_end0
      have kr : Keep (fun _ => False) w3 (w3.alloc (.mapIter none 0 #[] 0)) := (Keep.refl _ w3).alloc _
      have hfin := crash_parts (L := { L with lv := .slice none 0 0, cl := [] }) (now := none) (row := L.row) (wr := w3.alloc (.mapIter none 0 #[] 0)) (w3 := w3) dirs bytes d (by rw [HDd.out, HKk.out]) (by rw [← HKk.out]; exact HP1.out) (by simp; exact HLs.out) (fun b' hb' => by cases hb') A3.out K3.out (by rw [hd0]; exact MapAt.nil _ _ _) (by
          rw [hd0, keepAll_nil]
          exact (F3.out.keep kr (fun _ _ _ _ _ _ h => h)).mono (fun i _ h => .inl h)) (kr.mono (fun _ _ h => h.elim))
      exact Crashed.of HCG.out HK1.out hfin.1 hfin.2
  · have hm := hp1.sure
    have hms : MapAt w1 S (some b) d L.fb := by
      have h1 : MapAt w1 S L.sure d L.fb := by rw [HDd.out]; exact hm
      rw [hLs] at h1
      exact h1
    obtain ⟨hSb, ho⟩ := hms.owns
    obtain ⟨es, clock, hbk, hFt, hsn, hDe⟩ := ho
    have cC := mapClone b es clock w1 hbk
    rw [hLs] at d2
    have A2 := hp1.fs.alloc (.map es clock)
    have e1 := A2.cell 1
    have g2 := A2.frozen 1
    simp [cellsFS, settleS] at e1
    have HLs := Lib.hid hLs
    have HB2 : Hid (b < w1.heap.size) := hms.owns.2.lt
    clear hp1 hm hms hSb hbk hLs A2
    have hfl : f < w1.heap.size := HP1.out.fs.lt
    obtain ⟨w3, hw3⟩ : ∃ w3, w3 = (w1.setCell ⟨f, 1, none⟩ (.map (some w1.heap.size))).alloc (.map es clock) := ⟨_, rfl⟩
    have hsz3 : w3.heap.size = w1.heap.size + 1 := by rw [hw3]; simp [World.setCell]
    have HO3 : Hid (w3.ownsMap Tryd.prog 9 fileR w1.heap.size d.length (toD L.fb d)) := by
      rw [hw3]
      have e : (w1.setCell ⟨f, 1, none⟩ (.map (some w1.heap.size))).heap.size = w1.heap.size := by simp [World.setCell]
      have h1 := (MapKept.heap_alloc (w1.setCell ⟨f, 1, none⟩ (.map (some w1.heap.size))) (.map es clock)).1
      rw [e] at h1
      exact ⟨es, clock, h1, hFt, hsn, hDe⟩
    have K3 : Hid (Keep (· = f) w1 w3) := by rw [hw3]; exact ((Keep.refl (· = f) w1).setCell (p := ⟨f, 1, none⟩) (fun _ => rfl) _).alloc _
    have A3 : Hid (At w3 f 48 (cellsFS s (some w1.heap.size) L.sure (.slice none 0 0))) := by rw [hw3]; exact (HP1.out.fs.put 1 _).alloc _
    have F3 : Hid (FilesAt w3 S L.fb L.row s.files) := HP1.out.files.off K3.out (fun b e _ => by subst e; exact .inr ⟨48, _, HP1.out.fs, .inl rfl⟩)
    have c31 : w3.cell? ⟨f, 1, none⟩ = some (.map (some w1.heap.size)) := by
      have := A3.out.cell 1
      simpa [cellsFS] using this
    have HW3 := Lib.hid hw3
    have HZ3 := Lib.hid hsz3
    clear hw3 hsz3 hFt hsn hDe
    go_wp2_with fail
    refine cC.mono ?_
    rintro e w2 ⟨rfl, hw2⟩
    obtain rfl := hw2.symm
    go_wp2_with (first
      | (at_range; rw [← HW3.out]; refine wpList_range_own _ rfl _ 45 rfl 9 56 keyed9 Tryd.underlying45 fileR w1.heap.size d.length _ rfl HO3.out ?_; intro w4 hrg0 hg0 hs0)
      | go_in)
    go_frame
    rw [HZ3.out] at hrg0 hs0 ⊢
    go_loopw [7] (fun _ wr => ∃ (left : Lit → Bool) (cnt : Nat) (row : Nat → Value), wr.ranges Tryd.prog 9 fileR w1.heap.size (w1.heap.size + 1) d.length (toD L.fb d) left cnt ∧ Hid (FilesAt wr S L.fb row (keepBut s.files d left more)) ∧ Hid (Keep (InF L.fb s.files.length) w3 wr))
      (fun _ wr => wr.rangeLeft w1.heap.size (w1.heap.size + 1))
    case atStart =>
      have k4 : Keep (fun _ => False) w3 w4 := (Keep.refl _ w3).grown hg0 (fun k hk => by cases hk)
      exact ⟨_, _, L.row, hrg0, by show FilesAt _ _ _ _ _; rw [keepBut_start]; exact F3.out.keep k4 (fun _ _ _ _ _ _ h => h), k4.mono (fun _ _ h => h.elim)⟩
    case round =>
      obtain ⟨left, cnt, row, hrg, HF, HK⟩ := hrel
      have hnf : ∀ i, i < s.files.length → L.fb i ≠ f := fun i hi e => by
        obtain ⟨x0, hx0⟩ := getElem?_some_lt hi
        have h1 := F3.out.at_ i x0 hx0
        rw [e] at h1
        exact At.ne h1 A3.out (by decide) rfl
      go_wp2_with (first
        | (at_next; refine wpList_next_ranges _ rfl _ rfl 9 keyed9 fileR encStr id invK9 (fun v _ _ => ⟨v, rfl⟩) w1.heap.size (w1.heap.size + 1) d.length _ _ _ rfl hrg ?_ ?_)
        | go_in)
      · intro _ hl0
        have HE := Lib.hid (keepBut_end s.files d more hl0)
        have ar := A3.out.keep HK.out (by rintro ⟨i, hi, e⟩; exact hnf i hi e.symm)
        have e4 := ar.cell 4
        have e5 := ar.cell 5
        have e6 := ar.cell 6
        have f4 := ar.frozen 4
        have f5 := ar.frozen 5
        have f6 := ar.frozen 6
        simp [cellsFS] at e4 e5 e6
        have HR := Lib.hid hrg
        clear hl0 ar hnf hrg
        go_wp2
        go_end0
        have hsz : w1.heap.size + 1 ≤ wr.heap.size := by have := HK.out.size; have := HZ3.out; omega
        have hlt : ∀ i, i < wr.heap.size → S i → Up S w1 wr i := fun i _ h => .inl h
        have hfin := crash_parts (L := { L with lv := .slice none 0 0, cl := [] }) (now := some w1.heap.size) (row := row) (wr := wr) (w3 := w3) dirs bytes d (by rw [HDd.out, HKk.out]) (by rw [← HKk.out]; exact HP1.out) (by simp; rw [HLs.out]; simp) (fun b' hb' h => by
            injection hb' with hb'
            have h' : L.sure = some b' := h
            rw [HLs.out] at h'
            injection h' with h'
            have := HB2.out
            omega) A3.out K3.out (.inr ⟨_, rfl, .inr ⟨Nat.le_refl _, by omega⟩, HR.out.owns⟩) (by
            rw [← HMo.out, ← HE.out]
            exact HF.out.mono (fun i _ h => .inl h)) HK.out
        exact Crashed.of HCG.out HK1.out hfin.1 hfin.2
      · intro x c kl yd yp w5 cnt2 hkey hlk hv hat hrg2 hlt hg2 hs2 hen
        obtain ⟨x', ex, rfl, _⟩ := Maps.keyOf_str Tryd.underlying9 hkey
        obtain rfl : x = x' := encStr_inj ex
        obtain ⟨i, hi, rfl⟩ := at_some hat
        obtain rfl : c = .pointer (some ⟨L.fb i, 0, none⟩) := fileR_lit hv
        have hm := get_mem hi
        have hil := HDT.out.lt _ hm
        obtain ⟨X, hX⟩ := getElem?_some_lt hil
        have hXm : X ∈ s.files := List.mem_of_getElem? hX
        have hXb : (keepBut s.files d left more)[i]? = some X := by rw [keepBut_at HDT.out hm hlk]; exact hX
        have k5 : Keep (· = w1.heap.size + 1) wr w5 := (Keep.refl (· = w1.heap.size + 1) wr).grown hg2 (fun k hk _ => by injection hk with hk; exact hk.symm)
        have hF5 : FilesAt w5 S L.fb row (keepBut s.files d left more) := HF.out.keep k5 (fun b t cs _ hb _ e => by subst e; exact ranges_not_at hrg hb)
        have hA5 := hF5.at_ i X hXb
        have hO5 := hF5.own i X hXb
        have hil2 : i < (keepBut s.files d left more).length := by rw [keepBut_length]; exact hil
        obtain ⟨y, cap', hrow, _⟩ := hO5.shape
        obtain ⟨N, hN⟩ : ∃ N, N = X.bytes.length := ⟨_, rfl⟩
        rw [hrow] at hA5 hO5
        rw [← hN] at hA5 hO5 hrow
        have cK := keepFile (L.fb i) y N cap' X.sure more X.bytes hN.symm (by rw [hN]; exact HG.out.sure X hXm) (by rw [hN]; exact HG.out.len X hXm) hm9 w5 hA5 hO5
        obtain ⟨M, hM⟩ : ∃ M, M = X.sure + min more (N - X.sure) := ⟨_, rfl⟩
        rw [← hM] at cK
        have hst := keepBut_step (left := left) HDT.out hm more hX
        have HST := Lib.hid hst
        have HK5 := Lib.hid k5
        have HF5 := Lib.hid hF5
        have HA5 := Lib.hid hA5
        have HO5 := Lib.hid hO5
        have HRW := Lib.hid hrow
        have HN := Lib.hid hN
        have HM := Lib.hid hM
        have HR2 := Lib.hid hrg2
        have HR := Lib.hid hrg
        have HLT := Lib.hid hlt
        have HIL := Lib.hid hil
        have HIL2 := Lib.hid hil2
        have HSU := Lib.hid (HG.out.sure X hXm)
        clear hkey ex hi hat hv hm hil hil2 hX hXm hXb k5 hF5 hA5 hO5 hrow hN hM hst hg2 hs2 hrg2 hlt hrg hlk hnf
        go_wp2_with (go_at_call 26; refine cK.mono ?_; rintro e w6 ⟨rfl, hA6, k6, z6⟩; have HA6 := Lib.hid hA6; have HK6 := Lib.hid k6; clear hA6 k6 z6)
        go_roundw
        case rel =>
          have hnb : ¬ (w1.heap.size = L.fb i) := fun e => not_map_at HA5.out (e ▸ owns_blk HR2.out.owns)
          have hnr : ¬ (w1.heap.size + 1 = L.fb i) := fun e => ranges_not_at HR2.out (e ▸ HA5.out)
          have hrow : row i = .slice y N cap' := HRW.out
          have hown : Own w6 (.slice y M cap') (keepF X more).bytes := by
            have h1 := (HO5.out.cut (m := M) (by have := HM.out; have := HN.out; have := HSU.out; omega)).keep HK6.out (fun b hb e => by
              have hb' : (Value.slice y N cap').ownBlock = some b := by
                rcases y with _ | y <;> exact hb
              obtain ⟨cs, h5⟩ := owns_at HO5.out.1 hb'
              subst e
              exact At.ne h5 HA5.out (by decide) rfl)
            have e : (keepF X more).bytes = X.bytes.take M := by rw [HM.out, HN.out]; rfl
            rw [e]
            exact h1
          have hsame : (Value.slice y M cap').ownBlock = (row i).ownBlock := by rw [hrow]; rcases y with _ | y <;> rfl
          refine ⟨_, cnt2, fun k => if k = i then .slice y M cap' else row k, ranges_keep HR2.out HK6.out hnb hnr, ?_, ?_⟩
          · show FilesAt _ _ _ _ _
            rw [HST.out]
            refine HF5.out.set i HIL2.out (keepF X more) (.slice y M cap') (HK6.out.mono (fun b _ h => .inl h)) ?_ hown (by rw [hsame]; exact New.refl _ _) (fun b hb => HF5.out.rowS i b HIL2.out (by rw [← hsame]; exact hb)) (fun b _ h => h)
            have e : ((keepF X more).sure : Int) = (M : Int) := by rw [HM.out, HN.out]; rfl
            rw [e]
            exact HA6.out
          · exact (HK.out.trans HK5.out (fun j hj e => by have := HZ3.out; omega)).trans HK6.out (fun j _ e => ⟨i, HIL.out, e⟩)
        case measure =>
          have hnb : ¬ (w1.heap.size = L.fb i) := fun e => not_map_at HA5.out (e ▸ owns_blk HR2.out.owns)
          have hnr : ¬ (w1.heap.size + 1 = L.fb i) := fun e => ranges_not_at HR2.out (e ▸ HA5.out)
          rw [(ranges_keep HR2.out HK6.out hnb hnr).left_eq, HR.out.left_eq]
          exact HLT.out

end Go.Proofs.YtlpeiejohgchmaaDoor.Fs
