/-
  The program's path and sizeOf.
-/
import Derived.Test.YtcjljldknekhiaaGreatDoorAV3
import Derived.Lib.Hide
import Derived.Lib.AtoiErrMem
namespace Go.Proofs.YtcjljldknekhiaaGreatDoor.Ad
open Go.RowKit
set_option linter.unusedVariables false
set_option linter.unusedSimpArgs false

theorem results_tmp4 {fn : Func} {t u v x : Tmp} (h : fn.results = #[.tmp t, .tmp u, .tmp v, .tmp x]) (tmps : Array Value) (P : Program) (w : World) :
    (results fn tmps).run P w = .ok (.tuple #[tmps.getD t undef, tmps.getD u undef, tmps.getD v undef, tmps.getD x undef]) w := by
  simp [results, h]

theorem cut_blank (s : ByteArray) (hs : s.size < 4294967281) (m : Int) (w : World) (hm : w.cell? ⟨2, 0, none⟩ = some (.int .i64 m)) :
    Calls Tryz.prog 110 #[.string s, .string { data := #[32] }] w fun e w' => e = .returned (.tuple #[.string (bs (ahd 32 s.data.toList)), .string (bs (bhd 32 s.data.toList)), .bool (s.data.toList.contains 32)]) ∧ Below w.heap.size w w' := by
  refine (strings_Cut s { data := #[32] } m w hs hm).mono ?_
  rintro e w' ⟨rfl, n, rfl⟩
  refine ⟨?_, ⟨rfl, rfl, rfl, Nat.le_refl _, fun _ _ => rfl⟩⟩
  rw [show Lib.cut s.data.toList ({ data := #[32] } : ByteArray).data.toList = _ from cut_ahd 32 s.data.toList]
  rfl

/-- What path answers. -/
def pathsV (key l : List UInt8) : Value :=
  if keyed key (ahd 32 l) then .tuple #[.string (bs (pathM (wordM key l))), .string (bs (bhd 32 l)), .bool (l.contains 32), .bool (isPath (wordM key l))]
  else .tuple #[.string { data := #[] }, .string { data := #[] }, .bool false, .bool false]

set_option maxHeartbeats 4000000 in
set_option maxRecDepth 100000 in
theorem paths_walk (s key : ByteArray) (hs : s.size < 4294967281) (hk : key.size ≤ 5) (m : Int) (w : World) (hm : w.cell? ⟨2, 0, none⟩ = some (.int .i64 m)) :
    Calls Tryz.prog 156 #[.string s, .string key] w fun e w' => e = .returned (pathsV key.data.toList s.data.toList) ∧ Below w.heap.size w w' := by
  have c1 := cut_blank s hs m w hm
  have hal := ahd_len 32 s.data.toList
  rw [len_size] at hal
  have c2 := fun W => cutKey_walk (bs (ahd 32 s.data.toList)) key (by rw [bs_size]; omega) hk W
  rw [bs_data] at c2
  unfold cutKeyV at c2
  rw [pathsV]
  cases hq : keyed key.data.toList (ahd 32 s.data.toList) with
  | false =>
    rw [hq] at c2
    generalize bs (ahd 32 s.data.toList) = A at c1 c2
    generalize bs (bhd 32 s.data.toList) = B at c1
    generalize s.data.toList.contains 32 = C at c1
    go_enter Tryz.func156, Tryz.ntmps156
    go_wp2_with fail
    refine c1.mono ?_
    rintro e w1 ⟨rfl, hb1⟩
    go_wp2_with fail
    refine (c2 _).mono ?_
    rintro e w2 ⟨rfl, hb2⟩
    go_wp2
    refine bodyPost_ret (results_tmp4 rfl _ _ _) rfl ?_
    exact ⟨rfl, hb1.trans (hb2.mono hb1.size)⟩
  | true =>
    rw [hq] at c2
    simp only [if_true] at c2 ⊢
    have hwl : (wordM key.data.toList s.data.toList).length ≤ s.size := by rw [wordM, List.length_drop]; omega
    have c3 := fun W h => path_walk (bs (wordM key.data.toList s.data.toList)) (by rw [bs_size]; omega) m W h
    rw [bs_data] at c3
    rw [show (ahd 32 s.data.toList).drop key.data.toList.length = wordM key.data.toList s.data.toList from rfl] at c2
    unfold pathV at c3
    generalize bs (ahd 32 s.data.toList) = A at c1 c2
    generalize bs (bhd 32 s.data.toList) = B at c1 ⊢
    generalize s.data.toList.contains 32 = C at c1 ⊢
    generalize bs (wordM key.data.toList s.data.toList) = D at c2 c3
    generalize bs (pathM (wordM key.data.toList s.data.toList)) = E at c3 ⊢
    generalize isPath (wordM key.data.toList s.data.toList) = F at c3 ⊢
    go_enter Tryz.func156, Tryz.ntmps156
    go_wp2_with fail
    refine c1.mono ?_
    rintro e w1 ⟨rfl, hb1⟩
    have hm1 := cell_below hm hb1
    go_wp2_with fail
    refine (c2 _).mono ?_
    rintro e w2 ⟨rfl, hb2⟩
    have hm2 := cell_below hm1 hb2
    have hb12 := hb1.trans (hb2.mono hb1.size)
    go_wp2_with fail
    refine (c3 _ hm2).mono ?_
    rintro e w3 ⟨rfl, hb3⟩
    go_wp2
    refine bodyPost_ret (results_tmp4 rfl _ _ _) rfl ?_
    exact ⟨rfl, hb12.trans (hb3.mono hb12.size)⟩

/-! ### Pieces between blanks -/
def Txt (w : World) (b : Nat) (L : List (List UInt8)) : Prop := ∀ k (hk : k < L.length), w.cell? ⟨b, k, none⟩ = some (.string (bs (L[k]'hk)))
theorem Txt.keep {w w' : World} {b : Nat} {L : List (List UInt8)} (h : Txt w b L) {B : Nat} (hb : b < B) (hk : Below B w w') : Txt w' b L := fun k hL => (hk.cell (p := ⟨b, k, none⟩) hb).trans (h k hL)
theorem split_blank (s : ByteArray) (hs : s.size < 4294967281) (m : Int) (w : World) (hm : w.cell? ⟨2, 0, none⟩ = some (.int .i64 m)) :
    Calls Tryz.prog 57 #[.string s, .string { data := #[32] }] w fun e w' => e = .returned (.slice (some ⟨w.heap.size, 0, none⟩) (cuts 32 s.data.toList).length (cuts 32 s.data.toList).length) ∧ Txt w' w.heap.size (cuts 32 s.data.toList) ∧ Below w.heap.size w w' ∧ w.heap.size < w'.heap.size := by
  refine (strings_Split s { data := #[32] } m w hs hm (by decide)).mono ?_
  rintro e w' ⟨rfl, rfl⟩
  have hd : (Lib.splitB { data := #[32] } 0 (Lib.countB s { data := #[32] }) s).map (·.data.toList) = cuts 32 s.data.toList := by
    rw [Lib.splitB_data]
    exact (split_cuts 32 _ s.data.toList (Nat.le_refl _)).1
  have hl : (cuts 32 s.data.toList).length = Lib.countB s { data := #[32] } + 1 := by
    rw [← (split_cuts 32 _ s.data.toList (Nat.le_refl _)).1]
    exact (split_cuts 32 _ s.data.toList (Nat.le_refl _)).2
  refine ⟨by rw [hl], ?_, (Below.refl _ w).alloc (Nat.le_refl _) _, by simp⟩
  intro k hk
  rw [World.cell?_alloc_new]
  have hk2 : k < (Lib.splitB { data := #[32] } 0 (Lib.countB s { data := #[32] }) s).length := by rw [← hd, List.length_map] at hk; exact hk
  have e1 : (cuts 32 s.data.toList)[k] = ((Lib.splitB { data := #[32] } 0 (Lib.countB s { data := #[32] }) s)[k]'hk2).data.toList := by simp only [← hd, List.getElem_map]
  rw [e1, bs_of]
  simp [hk2]

def sizeV (r : Int × Int) : Value := .tuple #[.int .i64 r.1, .int .i64 r.2]
theorem sizeGo_end (s c : Int) : sizeGo s c [] = if c = 0 then (s, 0) else (0, c) := rfl
theorem sizeGo_other {s c : Int} {o : List UInt8} {r : List (List UInt8)} (h : keyed kSize o = false) : sizeGo s c (o :: r) = sizeGo s 555 r := by
  rw [sizeGo, h]
  rfl
theorem sizeGo_good {c : Int} {o : List UInt8} {r : List (List UInt8)} (h : keyed kSize o = true) (hn : isNum (o.drop 5) = true) : sizeGo (-1) c (o :: r) = sizeGo (num (o.drop 5)) c r := by
  rw [sizeGo, h, if_pos rfl, if_pos ⟨rfl, hn⟩]
theorem sizeGo_num {s c : Int} {o : List UInt8} {r : List (List UInt8)} (h : keyed kSize o = true) (hn : isNum (o.drop 5) = false) : sizeGo s c (o :: r) = (0, 501) := by
  rw [sizeGo, h, if_pos rfl, if_neg (fun e => by rw [hn] at e; exact absurd e.2 (by decide))]
theorem sizeGo_two {s c : Int} {o : List UInt8} {r : List (List UInt8)} (h : keyed kSize o = true) (hs : 0 ≤ s) : sizeGo s c (o :: r) = (0, 501) := by
  rw [sizeGo, h, if_pos rfl, if_neg (fun e => by omega)]


set_option maxHeartbeats 4000000 in
set_option maxRecDepth 100000 in
theorem sizeOf_walk (s : ByteArray) (hs : s.size < 4294967281) (m : Int) (w : World) (hm : w.cell? ⟨2, 0, none⟩ = some (.int .i64 m)) : Calls Tryz.prog 157 #[.string s] w fun e w' => e = .returned (sizeV (sizeM s.data.toList)) ∧ Below w.heap.size w w' := by
  have c1 := split_blank s hs m w hm
  have hcs := cuts_short 32 s.data.toList
  rw [len_size] at hcs
  rw [sizeM]
  obtain ⟨L, hL⟩ : ∃ L, cuts 32 s.data.toList = L := ⟨_, rfl⟩
  rw [hL] at c1 hcs ⊢
  clear hL
  obtain ⟨N, hN⟩ : ∃ N, L.length = N := ⟨_, rfl⟩
  rw [hN] at c1 hcs
  have hNs : N ≤ 4294967282 := by omega
  obtain ⟨R, hR⟩ : ∃ R, sizeGo (-1) 0 L = R := ⟨_, rfl⟩
  rw [hR]
  have hR0 := Lib.hid hR
  clear hR
  obtain ⟨B, hB⟩ : ∃ B, w.heap.size = B := ⟨_, rfl⟩
  rw [hB] at c1 ⊢
  have HN := Lib.hid hN
  have HB := Lib.hid hB
  clear hN hB
  go_enter Tryz.func157, Tryz.ntmps157
  go_wp2_with fail
  refine c1.mono ?_
  rintro e w1 ⟨rfl, hT, hb1, hlt1⟩
  have HT := Lib.hid hT
  clear hT
  go_wp2
  go_loopw [2, 3, 11] (fun z2 z3 z11 wr => ∃ (k : Nat) (sz cd : Int), k ≤ N ∧ z2 = .int .i64 sz ∧ z3 = .int .i64 cd ∧ z11 = .int .i64 (k : Int) ∧ RowKit.Hid (sizeGo sz cd (L.drop k) = R) ∧ (sz = -1 ∨ 0 ≤ sz) ∧ (cd = 0 ∨ cd = 555) ∧ Below w1.heap.size w1 wr) (fun _ _ z _ => N - (Lib.intOf z).toNat)
  case atStart => exact ⟨0, -1, 0, by omega, rfl, rfl, rfl, Lib.hid hR0.out, .inl rfl, .inl rfl, Below.refl _ _⟩
  case round =>
    obtain ⟨k, sz, cd, hk, rfl, rfl, rfl, hG, hsz, hcd, hbr⟩ := hrel
    by_cases hlt : (k : Int) < (N : Int)
    · have hkl : k < L.length := by have := HN.out; omega
      have hc := (HT.out.keep hlt1 hbr) k hkl
      have hol : (L[k]'hkl).length ≤ s.size := hcs.2 _ (List.getElem_mem hkl)
      have hG1 := hG.out
      rw [List.drop_eq_getElem_cons hkl] at hG1
      clear hG
      obtain ⟨o, ho⟩ : ∃ o, L[k]'hkl = o := ⟨_, rfl⟩
      rw [ho] at hc hol hG1
      clear ho
      have c2 := cutKey_walk (bs o) { data := #[83, 73, 90, 69, 61] } (by rw [bs_size]; omega) (by decide) wr
      rw [bs_data, show ({ data := #[83, 73, 90, 69, 61] } : ByteArray).data.toList = kSize from rfl] at c2
      unfold cutKeyV at c2
      cases hq : keyed kSize o with
      | false =>
        rw [sizeGo_other hq] at hG1
        have HG := Lib.hid hG1
        rw [hq] at c2
        clear hG1 hq
        go_wp2_with fail
        refine c2.mono ?_
        rintro e w2 ⟨rfl, hb2⟩
        go_wp2
        go_roundw
        case rel => exact ⟨k + 1, sz, 555, by omega, rfl, rfl, by simp, HG, hsz, .inr rfl, hbr.trans (hb2.mono hbr.size)⟩
        case measure =>
          simp [Lib.intOf]
          omega
      | true =>
        rw [hq, if_pos rfl, show kSize.length = 5 from rfl] at c2
        have hdl : (o.drop 5).length ≤ s.size := by rw [List.length_drop]; omega
        have c3 := fun W => isNumber_walk (bs (o.drop 5)) W
        rw [bs_data] at c3
        have hdn : ∀ W, isNum (o.drop 5) = true → Calls Tryz.prog 163 #[.string (bs (o.drop 5))] W fun e w' => e = .returned (.tuple #[.int .i64 (num (o.drop 5) : Int), .nilIface]) ∧ Below W.heap.size W w' := fun W hn => by
          have hl : (o.drop 5).length ≤ 9 := by
            simp only [isNum, Bool.and_eq_true, decide_eq_true_eq] at hn
            exact hn.2.1
          refine (strconv_Atoi (bs (o.drop 5)) (num (o.drop 5)) (by rw [bs_size]; omega) (atoi_num hn) W).mono ?_
          rintro e w' ⟨rfl, t, rfl⟩
          exact ⟨rfl, Lib.bytesWorld_below _ _ _⟩
        rcases hsz with rfl | h0
        · cases hn : isNum (o.drop 5) with
          | false =>
            rw [sizeGo_num hq hn] at hG1
            subst hG1
            rw [hn] at c3
            clear hdn hq hn hR0
            generalize bs (o.drop 5) = D at c2 c3
            go_wp2_with fail
            refine c2.mono ?_
            rintro e w2 ⟨rfl, hb2⟩
            go_wp2_with fail
            refine (c3 _).mono ?_
            rintro e w3 ⟨rfl, hb3⟩
            have hb12 := hbr.trans (hb2.mono hbr.size)
            go_wp2
            go_ret2
            exact ⟨rfl, hb1.trans ((hb12.trans (hb3.mono hb12.size)).mono (by omega))⟩
          | true =>
            rw [sizeGo_good hq hn] at hG1
            have HG := Lib.hid hG1
            have c4 := fun W => hdn W hn
            rw [hn] at c3
            clear hdn hq hn hG1
            generalize bs (o.drop 5) = D at c2 c3 c4
            generalize num (o.drop 5) = n at c4 HG
            go_wp2_with fail
            refine c2.mono ?_
            rintro e w2 ⟨rfl, hb2⟩
            go_wp2_with fail
            refine (c3 _).mono ?_
            rintro e w3 ⟨rfl, hb3⟩
            have hb12 := hbr.trans (hb2.mono hbr.size)
            have hb13 := hb12.trans (hb3.mono hb12.size)
            go_wp2_with fail
            refine (c4 _).mono ?_
            rintro e w4 ⟨rfl, hb4⟩
            go_wp2
            go_roundw
            case rel => exact ⟨k + 1, n, cd, by omega, rfl, rfl, by simp, HG, .inr (by omega), hcd, hb13.trans (hb4.mono hb13.size)⟩
            case measure =>
              simp [Lib.intOf]
              omega
        · rw [sizeGo_two hq h0] at hG1
          subst hG1
          have hne : (sz != -1) = true := by rw [bne_iff_ne]; omega
          have hne2 : ¬ sz = -1 := by omega
          clear hdn hq hR0 c3
          generalize bs (o.drop 5) = D at c2
          go_wp2_with fail
          refine c2.mono ?_
          rintro e w2 ⟨rfl, hb2⟩
          have hb12 := hbr.trans (hb2.mono hbr.size)
          go_wp2
          go_ret2
          exact ⟨rfl, hb1.trans (hb12.mono (by omega))⟩
    · have hkN : k = N := by omega
      have hG1 := hG.out
      rw [List.drop_eq_nil_of_le (by have := HN.out; omega), sizeGo_end] at hG1
      rcases hcd with rfl | rfl
      · rw [if_pos rfl] at hG1
        subst hG1
        clear hG hR0
        go_wp2
        go_ret2
        exact ⟨rfl, hb1.trans (hbr.mono (by omega))⟩
      · rw [if_neg (by decide)] at hG1
        subst hG1
        clear hG hR0
        go_wp2
        go_ret2
        exact ⟨rfl, hb1.trans (hbr.mono (by omega))⟩
end Go.Proofs.YtcjljldknekhiaaGreatDoor.Ad
