/-
  What 'change' and 'settle' do.
-/
import Derived.Test.YtlpeiejohgchmaaDoorDClo
import Derived.WalkSpells
namespace Go.Proofs.YtlpeiejohgchmaaDoor.Fs
open Go.RowKit Go.Maps
set_option linter.unusedVariables false

theorem info79 : (Tryd.prog.info? 65).map (fun i => (i.zero, i.size, i.bytes)) = some (some .nilFunc, 1, 8) := by kernel_rfl

/-- An append of one element to a row of the call's own. -/
theorem wpList_append_row {w : World} {S : Nat → Prop} {ops : Array Oper} {rest : List Oper} {o : Oper} {a : Act} {Q : Exit → Act → World → Prop} (hgd : o.guard = none) (s t : Operand) (T e : TypeId)
    (ho : o.op = .call { callee := .builtin .append, args := #[s, t], argTypes := #[T, T] }) (z : Value) (size bytes : Nat) (hT : Tryd.prog.underlying T = some (.slice e)) (hi : (Tryd.prog.info? e).map (fun i => (i.zero, i.size, i.bytes)) = some (some z, size, bytes)) (hzs : z.cells.size = size) (hsz : 0 < size)
    (v : Value) (n : Nat) (xs : List Value) (hs : a.eval s = v) (hown : Row w S e size v n xs) (ad : Addr) (m c : Nat) (news : List Value) (hx : a.eval t = .slice (some ad) m c) (hl : news.length = m * size) (hnews : ∀ j u, news[j]? = some u → w.cell? (ad.add j) = some u) (h1 : ∀ u ∈ news, u.oneCell' = true)
    (h63 : n + m ≤ 9223372036854775807) (hbytes : (n + m) * bytes ≤ 140737488355328)
    (hK : ∀ y k cap w', Hid (k = n + m) → Row w' (Up S w w') e size (.slice y k cap) (n + m) (xs ++ news) → Keep (fun k => v.ownBlock = some k) w w' → New w v.ownBlock (Value.ownBlock (.slice y k cap)) → wpList Tryd.prog ops Q rest (a.put o.dst (.slice y k cap)) w') :
    wpList Tryd.prog ops Q (o :: rest) a w := by
  refine wpList_plain hgd fun K hK' => ?_
  obtain ⟨v', w', hr, h2, h3, h4⟩ := run_append_row T e o.type z size bytes hT hi hzs hsz v n xs hown ad m c news hl hnews h1 h63 hbytes
  unfold Oper.wp execOp
  simp only [ho, resolve, invoke, builtin, Sem.run_bind, Sem.run_pure, Result.andThen_ok, List.map_toArray, List.map_cons, List.map_nil, hs, hx, hr]
  obtain ⟨y, cap, rfl, _⟩ := ownsRow_shape h2.1
  exact hK' _ _ (hK y _ cap w' (Lib.hid rfl) h2 h3 h4)
theorem new_cells {w : World} {t : TypeId} (vs : List Value) : ∀ j u, vs[j]? = some u → (w.alloc (.cells vs.toArray t)).cell? ((⟨w.heap.size, 0, none⟩ : Addr).add j) = some u := by
  intro j u hj
  have := (At.new w t vs.toArray).cell j
  rw [Addr.add_mid, Nat.zero_add, this]
  simpa using hj

theorem chg_good {s : St} {c : Chg} (h : Good s) (hf : Fits s.files.length s.now c) (hb : s.bulk < 1000000) : Good (chgS s c) := by
  unfold chgS
  split
  · have hB := burn_good h
    refine ⟨?_, ?_, ?_, ?_, ?_, ?_, hB.fuse, ?_⟩
    · exact hB.tidy
    · show Chain (burnS s).files.length (burnS s).sure (s.loose ++ [c])
      rw [burn_files, burn_sure]
      exact h.chain.snoc hf
    · exact hB.sure
    · exact hB.byte
    · exact hB.len
    · exact hB.room
    · show (burnS s).files.length + (burnS s).sure.length + (s.loose ++ [c]).length ≤ 1000000
      rw [burn_files, burn_sure]
      unfold St.bulk at hb
      simp
      omega
  · exact burn_good h

/-- A loose change laid behind the others: what became of the disk. -/
theorem change_parts {w2 w3 w5 : World} {S : Nat → Prop} {f b : Nat} {s : St} {L : Lay} {v v' : Value} {c : Chg} (hp : Parts w2 S f s s.now L) (hb : L.now = some b) (hc : Clo w2 S L.fb v c)
    (hm : MapAt w3 S (some b) (app s.now c) L.fb) (k3 : Keep (· = b) w2 w3) (hr : Row w5 (Up S (w3.alloc (.cells #[v] 65)) w5) 65 1 v' (L.cl.length + 1) (L.cl ++ [v])) (k5 : Keep (fun k => L.lv.ownBlock = some k) (w3.alloc (.cells #[v] 65)) w5) :
    Parts (w5.setCell ⟨f, 3, none⟩ v') (Up S w2 (w5.setCell ⟨f, 3, none⟩ v')) f { s with loose := s.loose ++ [c] } (St.now { s with loose := s.loose ++ [c] }) { L with lv := v', cl := L.cl ++ [v] } ∧ Keep S w2 (w5.setCell ⟨f, 3, none⟩ v') := by
  have hbm := map_blk hp.now hb
  have hfb : f ≠ b := fun e => not_map_at hp.fs (e ▸ hbm)
  have hlv : ∀ g, L.lv.ownBlock = some g → g ≠ f := fun g hg e => by
    obtain ⟨cs, h1⟩ := lv_at hp hg
    subst e
    exact At.ne h1 hp.fs (by decide) rfl
  -- what has turned, all in all
  let T : Nat → Prop := fun k => k = b ∨ L.lv.ownBlock = some k ∨ k = f
  have k4 : Keep (· = b) w2 (w3.alloc (.cells #[v] 65)) := k3.alloc _
  have kT5 : Keep T w2 w5 := (k4.mono (T := T) (fun i _ h => .inl h)).trans k5 (fun i _ h => .inr (.inl h))
  have kT : Keep T w2 (w5.setCell ⟨f, 3, none⟩ v') := kT5.setCell (p := ⟨f, 3, none⟩) (fun _ => .inr (.inr rfl)) _
  have hsz : (w5.setCell ⟨f, 3, none⟩ v').heap.size = w5.heap.size := by simp [World.setCell]
  have hO : Off w2 T := by
    rintro k (rfl | h | rfl) _
    · exact .inl hbm
    · obtain ⟨cs, h1⟩ := lv_at hp h; exact .inr ⟨65, cs, h1, .inr rfl⟩
    · exact .inr ⟨48, _, hp.fs, .inl rfl⟩
  have hS : ∀ i, i < w2.heap.size → S i → Up S w2 (w5.setCell ⟨f, 3, none⟩ v') i := fun i _ h => .inl h
  have hS' : ∀ i, S i → Up S w2 (w5.setCell ⟨f, 3, none⟩ v') i := fun i h => .inl h
  have hTS : ∀ i, T i → S i := by
    rintro k (rfl | h | rfl)
    · exact map_in hp.now hb
    · exact hp.loose.2 k h
    · exact hp.inS
  have a5 : At w5 f 48 (cellsFS s L.now L.sure L.lv) := by
    have k' : Keep (fun k => k = b ∨ L.lv.ownBlock = some k) w2 w5 := (k4.mono (T := fun k => k = b ∨ L.lv.ownBlock = some k) (fun i _ h => .inl h)).trans k5 (fun i _ h => .inr h)
    exact hp.fs.keep k' (by rintro (h | h); exact hfb h; exact hlv f h rfl)
  have h4s : w2.heap.size ≤ (w3.alloc (.cells #[v] 65)).heap.size := k4.size
  refine ⟨⟨?_, .inl hp.inS, hp.both, hp.two, fun _ => ?_, ?_, ?_, ?_, ?_, ?_⟩, kT.mono (fun i _ h => hTS i h)⟩
  · -- the struct
    exact a5.put 3 v'
  · intro h
    have := hp.both.2 h
    rw [hb] at this
    cases this
  · -- now
    show MapAt _ _ L.now _ L.fb
    rw [hb]
    have e : St.now { s with loose := s.loose ++ [c] } = app s.now c := by simp [St.now]
    rw [e]
    have hmb := map_blk hm rfl
    have m4 : MapAt (w3.alloc (.cells #[v] 65)) S (some b) (app s.now c) L.fb := hm.keep ((Keep.refl (fun _ => False) w3).alloc _) (fun _ _ _ _ h => h)
    have m5 : MapAt w5 S (some b) (app s.now c) L.fb := m4.keep k5 (fun g hg _ _ h => by
      injection hg with hg
      subst hg
      obtain ⟨cs, h1⟩ := lv_at hp h
      exact not_map_at h1 hbm)
    have m6 : MapAt (w5.setCell ⟨f, 3, none⟩ v') S (some b) (app s.now c) L.fb := m5.keep (((Keep.refl (· = f) w5).setCell (p := ⟨f, 3, none⟩) (fun _ => rfl) v')) (fun g hg _ _ h => by
      injection hg with hg
      subst hg
      exact hfb h.symm)
    exact m6.mono (fun i _ h => .inl h)
  · -- sure
    refine (hp.sure.keep kT (fun g hg _ hgm h => ?_)).mono (fun i _ h => .inl h)
    rcases h with rfl | h | rfl
    · exact hp.two g hb hg
    · obtain ⟨cs, h1⟩ := lv_at hp h; exact not_map_at h1 hgm
    · exact not_map_at hp.fs hgm
  · -- the row
    have e : (L.cl ++ [v]).length = L.cl.length + 1 := by simp
    show Row _ _ 65 1 v' (L.cl ++ [v]).length (L.cl ++ [v])
    rw [e]
    refine (hr.keep ((Keep.refl (· = f) w5).setCell (p := ⟨f, 3, none⟩) (fun _ => rfl) v') (fun g cs _ hg h => ?_)).mono (fun i hi h => ?_)
    · subst h
      exact At.ne hg a5 (by decide) rfl
    · rcases h with h | ⟨h1, h2⟩
      · exact .inl h
      · exact .inr ⟨by omega, by rw [hsz]; exact h2⟩
  · exact ((hp.clos.off kT hO).mono (S' := Up S w2 (w5.setCell ⟨f, 3, none⟩ v')) (fun i _ h => .inl h)).snoc ((hc.off kT hO).mono (fun i _ h => .inl h))
  · exact (hp.files.off kT hO).mono (fun i _ h => .inl h)

theorem MapAt.empty {w : World} {S : Nat → Prop} {d : Dir} {fb : Nat → Nat} (h : MapAt w S none d fb) : d = [] := by
  rcases h with ⟨_, h⟩ | ⟨b, hb, _⟩
  · exact h
  · cases hb
/-- Both directories made. -/
def mk2 (w : World) (f : Nat) : World := (((w.alloc (.map #[] 0)).alloc (.map #[] 0)).setCell ⟨f, 1, none⟩ (.map (some w.heap.size))).setCell ⟨f, 2, none⟩ (.map (some (w.heap.size + 1)))
theorem made_parts {w : World} {S : Nat → Prop} {f : Nat} {s : St} {L : Lay} (hp : Parts w S f s s.now L) (hn : L.now = none) :
    Parts (mk2 w f) (Up S w (mk2 w f)) f s s.now { L with now := some w.heap.size, sure := some (w.heap.size + 1) } ∧ Keep (· = f) w (mk2 w f) ∧ (mk2 w f).heap.size = w.heap.size + 2 := by
  have hs := hp.both.1 hn
  have e1 : s.now = [] := by have := hp.now; rw [hn] at this; exact this.empty
  have e2 : s.sure = [] := by have := hp.sure; rw [hs] at this; exact this.empty
  have hfl := hp.fs.lt
  have k : Keep (· = f) w (mk2 w f) := ((((Keep.refl (· = f) w).alloc _).alloc _).setCell (p := ⟨f, 1, none⟩) (fun _ => rfl) _).setCell (p := ⟨f, 2, none⟩) (fun _ => rfl) _
  have hsz : (mk2 w f).heap.size = w.heap.size + 2 := by simp [mk2, World.setCell]
  have hO : Off w (· = f) := fun b e _ => by subst e; exact .inr ⟨48, _, hp.fs, .inl rfl⟩
  have m1 : (mk2 w f).heap[w.heap.size]? = some (.map #[] 0) := by
    unfold mk2
    rw [Below.heap_setCell _ _ _ _ (by show w.heap.size ≠ f; omega), Below.heap_setCell _ _ _ _ (by show w.heap.size ≠ f; omega), Below.heap_alloc _ _ _ (by simp)]
    exact (MapKept.heap_alloc w _).1
  have m2 : (mk2 w f).heap[w.heap.size + 1]? = some (.map #[] 0) := by
    unfold mk2
    rw [Below.heap_setCell _ _ _ _ (by show w.heap.size + 1 ≠ f; omega), Below.heap_setCell _ _ _ _ (by show w.heap.size + 1 ≠ f; omega)]
    have := (MapKept.heap_alloc (w.alloc (.map #[] 0)) (.map #[] 0)).1
    simpa using this
  have o1 : ∀ b, (mk2 w f).heap[b]? = some (.map #[] 0) → (mk2 w f).ownsMap Tryd.prog 9 fileR b 0 (.map []) := fun b hb => by
    obtain ⟨es, clock, hb', F, hn', hD⟩ := World.ownsMap_made w Tryd.prog 9 fileR
    have : es = #[] ∧ clock = 0 := by
      rw [(MapKept.heap_alloc w _).1] at hb'
      injection hb' with hb'
      injection hb' with h1 h2
      exact ⟨h1.symm, h2.symm⟩
    obtain ⟨rfl, rfl⟩ := this
    exact ⟨#[], 0, hb, F, hn', hD⟩
  refine ⟨⟨?_, .inl hp.inS, by simp, ?_, fun _ => by simp, ?_, ?_, ?_, ?_, ?_⟩, k, hsz⟩
  · have := (((hp.fs.alloc (.map #[] 0)).alloc (.map #[] 0)).put 1 (.map (some w.heap.size))).put 2 (.map (some (w.heap.size + 1)))
    exact this
  · intro b hb h
    simp at hb h
    omega
  · rw [e1]
    exact .inr ⟨_, rfl, .inr ⟨Nat.le_refl _, by omega⟩, o1 _ m1⟩
  · rw [e2]
    exact .inr ⟨_, rfl, .inr ⟨by omega, by omega⟩, o1 _ m2⟩
  · exact (hp.loose.keep k (fun b cs _ hb e => At.ne hb hp.fs (by decide) e)).mono (fun i _ h => .inl h)
  · exact (hp.clos.off k hO).mono (fun i _ h => .inl h)
  · exact (hp.files.off k hO).mono (fun i _ h => .inl h)

/-- What a write leaves behind. -/
def Wrote (w : World) (S : Nat → Prop) (f : Nat) (s : St) (E : Nat) (e : Ending) (w' : World) : Prop := e = .returned (.int .i64 (E : Int)) ∧ Disk w' (Up S w w') f s ∧ Keep S w w'
theorem Up.trans {S : Nat → Prop} {a b c : World} (h1 : a.heap.size ≤ b.heap.size) (h2 : b.heap.size ≤ c.heap.size) {i : Nat} (h : Up (Up S a b) b c i) : Up S a c i := by
  rcases h with (h | ⟨h3, h4⟩) | ⟨h3, h4⟩
  · exact .inl h
  · exact .inr ⟨h3, by omega⟩
  · exact .inr ⟨by omega, h4⟩
theorem Up.wide {S : Nat → Prop} {a b c d : World} (h1 : a.heap.size ≤ b.heap.size) (h2 : c.heap.size ≤ d.heap.size) {i : Nat} (h : Up S b c i) : Up S a d i := by
  rcases h with h | ⟨h3, h4⟩
  · exact .inl h
  · exact .inr ⟨by omega, by omega⟩
theorem lv_ne {w : World} {S : Nat → Prop} {f : Nat} {s : St} {d : Dir} {L : Lay} (hp : Parts w S f s d L) (h : L.lv.ownBlock = some f) : False := by
  obtain ⟨cs, h1⟩ := lv_at hp h
  exact At.ne h1 hp.fs (by decide) rfl
theorem burnE_cases (s : St) : burnE s = 0 ∨ burnE s = 2 := by unfold burnE; split <;> simp
theorem enc_nat2 : ((2 : Nat) : Int) = 2 := rfl

set_option maxHeartbeats 2000000 in
set_option maxRecDepth 100000 in
theorem change (f : Nat) (S : Nat → Prop) (s : St) (L : Lay) (v : Value) (c : Chg) (w : World) (hp : Parts w S f s s.now L) (hG : Good s) (hc : Clo w S L.fb v c) (hf : Fits s.files.length s.now c) (hb : s.bulk < 1000000) :
    Calls Tryd.prog 30 #[.pointer (some ⟨f, 0, none⟩), v] w (Wrote w S f (chgS s c) (burnE s)) := by
  have cB := burn f S s s.now L w hp hG
  have HG := Lib.hid (chg_good hG hf hb)
  have hnl : s.now.length ≤ 2000000 := by have := now_length s; have := hG.bulk; omega
  have HL := Lib.hid hnl
  have HF := Lib.hid hf
  have hO : Off w (· = f) := fun b e _ => by subst e; exact .inr ⟨48, _, hp.fs, .inl rfl⟩
  have hS0 : S f := hp.inS
  have hcl : L.cl.length ≤ 1000000 := by have := hp.clos.1; have := hG.bulk; unfold St.bulk at this; omega
  obtain ⟨g, cb, rfl, eg, hdo⟩ := doClo hc
  have HC := Lib.hid hc
  have HO := Lib.hid hO
  have HD := Lib.hid hdo
  have HS := Lib.hid hS0
  clear hp hG hc hf hb hnl hO hdo hS0
  rcases burnE_cases s with hE | hE
  · have HE := Lib.hid hE
    rw [hE] at cB
    clear hE
    go_enter Tryd.func30, Tryd.ntmps30
    go_wp2_with fail
    refine cB.mono ?_
    rintro e w1 ⟨rfl, hp1, hG1, k1, z1⟩
    have HP1 := Lib.hid hp1
    have HK1 := Lib.hid k1
    have HC1 := Lib.hid (HC.out.off k1 HO.out)
    have c1 := hp1.fs.cell 1
    have c2 := hp1.fs.cell 2
    have c3 := hp1.fs.cell 3
    have f1 := hp1.fs.frozen 1
    have f2 := hp1.fs.frozen 2
    have f3 := hp1.fs.frozen 3
    simp [cellsFS] at c1 c2 c3
    have qT : ∀ (w : World) (r : Option Nat), (binOp .eql 45 (.map r) (.map none)).run Tryd.prog w = .ok (.bool r.isNone) w := fun w r => run_eql_map_nil w _ _ _ r Tryd.underlying45
    have hmm := @run_makeMap Tryd.prog
    have HZ1 := Lib.hid z1
    clear z1
    rcases hLn : L.now with _ | b
    · have HLn := Lib.hid hLn
      rw [hLn] at c1
      have A2 := (hp1.fs.alloc (.map #[] 0)).alloc (.map #[] 0)
      have d1 := A2.cell 1
      have d2 := A2.cell 2
      have g1 := A2.frozen 1
      have g2 := A2.frozen 2
      simp [cellsFS] at d1 d2
      clear hp1 hG1 k1 hLn A2
      go_wp2_with fail
      have hmp := made_parts (s := burnS s) (by rw [burn_now]; exact HP1.out) HLn.out
      obtain ⟨hp2, k2, z2⟩ := hmp
      have HP2 := Lib.hid hp2
      have HK2 := Lib.hid k2
      have HZ2 := Lib.hid z2
      have HC2 : Hid (Clo (mk2 w1 f) (Up S w1 (mk2 w1 f)) L.fb (.func (.func g) #[] cb) c) := (HC1.out.off k2 (fun b e _ => by subst e; exact .inr ⟨48, _, HP1.out.fs, .inl rfl⟩)).mono (fun i _ h => .inl h)
      have HM : Hid (MapAt (mk2 w1 f) (Up S w1 (mk2 w1 f)) (some w1.heap.size) s.now L.fb) := by
        have := hp2.now
        rw [burn_now] at this
        exact this
      clear hp2 k2 z2 d1 d2 g1 g2 c1 c2 c3 f1 f2 f3
      refine (HD.out (mk2 w1 f) (Up S w1 (mk2 w1 f)) HC2.out s.files.length w1.heap.size s.now HL.out HF.out HM.out).mono ?_
      rintro e w3 ⟨rfl, hm3, k3, z3⟩
      have hA3 := (HP2.out.fs.keep k3 (fun e => by have := HP1.out.fs.lt; omega))
      have c33 := hA3.cell 3
      have f33 := hA3.frozen 3
      simp [cellsFS] at c33
      have HK3 := Lib.hid k3
      have HM3 : Hid (MapAt w3 (Up S w1 (mk2 w1 f)) (some w1.heap.size) (app (burnS s).now c) L.fb) := by rw [burn_now]; exact hm3
      have HA3 := Lib.hid hA3
      have HR3 : Hid (Row (w3.alloc (.cells #[.func (.func g) #[] cb] 65)) (Up S w1 (mk2 w1 f)) 65 1 L.lv L.cl.length L.cl) :=
        (HP2.out.loose.keep k3 (fun g' cs _ hg h => not_map_at hg (h ▸ map_blk HM.out rfl))).keep ((Keep.refl (fun _ => False) w3).alloc _) (fun _ _ _ _ h => h)
      have hlt3 : f < w3.heap.size := hA3.lt
      clear k3 hm3 z3 hA3
      go_wp2_with (refine wpList_append_row (by rfl) (.tmp 34) (.tmp 36) 46 65 (by rfl) _ 1 8 Tryd.underlying46 info79 rfl (by omega) L.lv L.cl.length L.cl rfl HR3.out ⟨w3.heap.size, 0, none⟩ 1 1 [.func (.func g) #[] cb] rfl rfl (new_cells [.func (.func g) #[] cb]) (by simp; rfl) (by omega) (by omega) ?_
                   intro y5 n5 cap5 w5 HN hR5 k5 hN5
                   have hA5 := (HA3.out.alloc (.cells #[.func (.func g) #[] cb] 65)).keep k5 (fun e => lv_ne HP2.out e)
                   have c53 := hA5.cell 3
                   have f53 := hA5.frozen 3
                   simp [cellsFS] at c53
                   have HR5 := Lib.hid hR5
                   have HK5 := Lib.hid k5
                   clear hR5 k5 hN5 hA5)
      go_ret
      have hfin := change_parts HP2.out rfl HC2.out HM3.out HK3.out HR5.out HK5.out
      have e1 : chgS s c = { burnS s with loose := (burnS s).loose ++ [c] } := by unfold chgS; rw [HE.out, burn_loose]; rfl
      rw [HE.out]
      have zz := HZ1.out
      have z2 := HZ2.out
      have hq := hfin.1.mono (S' := Up S w _) (fun i _ h => Up.wide (a := w) (by omega) (Nat.le_refl _) (Up.trans (by omega) hfin.2.size h))
      rw [← e1] at hq
      refine ⟨rfl, ⟨⟨_, hq⟩, HG.out⟩, ?_⟩
      · refine (HK1.out.mono (T := S) (fun i _ e => by rw [e]; exact HS.out)).trans ((HK2.out.mono (T := S) (fun i _ e => by rw [e]; exact HS.out)).trans hfin.2 (fun i hi h => ?_)) (fun i _ h => h)
        rcases h with h | ⟨h1, _⟩
        · exact h
        · omega
    · have HLn := Lib.hid hLn
      rw [hLn] at c1
      clear hp1 hG1 k1 hLn
      have HM : Hid (MapAt w1 S (some b) s.now L.fb) := by
        have := HP1.out.now
        rw [HLn.out] at this
        exact this
      go_wp2_with fail
      refine (HD.out w1 S HC1.out s.files.length b s.now HL.out HF.out HM.out).mono ?_
      rintro e w3 ⟨rfl, hm3, k3, z3⟩
      have hA3 := (HP1.out.fs.keep k3 (fun e => not_map_at HP1.out.fs (e ▸ map_blk HM.out rfl)))
      have c33 := hA3.cell 3
      have f33 := hA3.frozen 3
      simp [cellsFS] at c33
      have HK3 := Lib.hid k3
      have HM3 := Lib.hid hm3
      have HA3 := Lib.hid hA3
      have HR3 : Hid (Row (w3.alloc (.cells #[.func (.func g) #[] cb] 65)) S 65 1 L.lv L.cl.length L.cl) :=
        (HP1.out.loose.keep k3 (fun g' cs _ hg h => not_map_at hg (h ▸ map_blk HM.out rfl))).keep ((Keep.refl (fun _ => False) w3).alloc _) (fun _ _ _ _ h => h)
      have hlt3 : f < w3.heap.size := hA3.lt
      clear k3 hm3 z3 hA3
      have HPL : Hid (Parts w1 S f (burnS s) (burnS s).now { L with now := some b }) := by
        have := HP1.out
        rw [burn_now]
        have e : L = { L with now := some b } := by rw [← HLn.out]
        rw [← e]
        exact this
      have HM3' : Hid (MapAt w3 S (some b) (app (burnS s).now c) L.fb) := by rw [burn_now]; exact HM3.out
      go_wp2_with (refine wpList_append_row (by rfl) (.tmp 34) (.tmp 36) 46 65 (by rfl) _ 1 8 Tryd.underlying46 info79 rfl (by omega) L.lv L.cl.length L.cl rfl HR3.out ⟨w3.heap.size, 0, none⟩ 1 1 [.func (.func g) #[] cb] rfl rfl (new_cells [.func (.func g) #[] cb]) (by simp; rfl) (by omega) (by omega) ?_
                   intro y5 n5 cap5 w5 HN hR5 k5 hN5
                   have hA5 := (HA3.out.alloc (.cells #[.func (.func g) #[] cb] 65)).keep k5 (fun e => lv_ne HPL.out e)
                   have c53 := hA5.cell 3
                   have f53 := hA5.frozen 3
                   simp [cellsFS] at c53
                   have HR5 := Lib.hid hR5
                   have HK5 := Lib.hid k5
                   clear hR5 k5 hN5 hA5)
      go_ret
      have hfin := change_parts HPL.out rfl HC1.out HM3'.out HK3.out HR5.out HK5.out
      have e1 : chgS s c = { burnS s with loose := (burnS s).loose ++ [c] } := by unfold chgS; rw [HE.out, burn_loose]; rfl
      rw [HE.out]
      have zz := HZ1.out
      have hq := hfin.1.mono (S' := Up S w _) (fun i _ h => Up.wide (a := w) (by omega) (Nat.le_refl _) h)
      rw [← e1] at hq
      refine ⟨rfl, ⟨⟨_, hq⟩, HG.out⟩, ?_⟩
      · exact (HK1.out.mono (T := S) (fun i _ e => by rw [e]; exact HS.out)).trans hfin.2 (fun i _ h => h)
  · have HE := Lib.hid hE
    rw [hE] at cB
    clear hE
    go_enter Tryd.func30, Tryd.ntmps30
    go_wp2_with fail
    refine cB.mono ?_
    rintro e w1 ⟨rfl, hp1, hG1, k1, z1⟩
    have HP1 := Lib.hid hp1
    have HK1 := Lib.hid k1
    clear hp1 hG1 k1
    go_wp2
    go_ret
    have e1 : chgS s c = burnS s := by unfold chgS; rw [HE.out]; rfl
    rw [HE.out]
    refine ⟨rfl, ⟨⟨L, ?_⟩, HG.out⟩, HK1.out.mono (fun i _ e => by rw [e]; exact HS.out)⟩
    rw [e1, burn_now]
    exact HP1.out.mono (fun i _ h => .inl h)

end Go.Proofs.YtlpeiejohgchmaaDoor.Fs
