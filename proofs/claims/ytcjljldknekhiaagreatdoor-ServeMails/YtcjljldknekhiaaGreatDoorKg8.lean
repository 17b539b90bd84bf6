/-
  Several texts in one: AV3 AV4 AV5 AV6 AV7 Vz.
-/
import Derived.Test.YtcjljldknekhiaaGreatDoorKg7
import Derived.Laws.DeepStrings4
import Derived.Lib.Hide
import Derived.Lib.AtoiErrMem
import Derived.Laws.ResultCell
import Derived.Laws.Rows
import Derived.Test.YtcjljldknekhiaaGreatDoorKg3

section
/-
  The program's cutKey, isNumber, hello.
-/
namespace Go.Proofs.YtcjljldknekhiaaGreatDoor.Ad
open Go.RowKit
set_option linter.unusedVariables false
set_option linter.unusedSimpArgs false

theorem extract_list (s : ByteArray) (a b : Nat) : s.extract a b = bs ((s.data.toList.drop a).take (b - a)) := by
  apply ByteArray.ext
  rw [ByteArray.data_extract]
  apply Array.ext'
  simp [bs, List.extract_eq_take_drop, Array.toList_extract]
theorem take_list (s : ByteArray) (k : Nat) : s.extract 0 k = bs (s.data.toList.take k) := by rw [extract_list, List.drop_zero, Nat.sub_zero]
theorem drop_list (s : ByteArray) (k : Nat) : s.extract k s.size = bs (s.data.toList.drop k) := by
  rw [extract_list, List.take_of_length_le]
  rw [List.length_drop, len_size]
  exact Nat.le_refl _

def cutKeyV (key l : List UInt8) : Value := .tuple #[.string (bs (if keyed key l then l.drop key.length else [])), .bool (keyed key l)]

set_option maxHeartbeats 4000000 in
set_option maxRecDepth 100000 in
theorem cutKey_walk (s key : ByteArray) (hs : s.size ≤ 9223372036854775807) (hk : key.size ≤ 5) (w : World) : Calls Tryz.prog 160 #[.string s, .string key] w fun e w' => e = .returned (cutKeyV key.data.toList s.data.toList) ∧ Below w.heap.size w w' := by
  have hl := len_size s
  have hkl := len_size key
  by_cases h : (s.size : Int) < (key.size : Int)
  · have hf : keyed key.data.toList s.data.toList = false := by rw [keyed, decide_eq_false (by omega), Bool.false_and]
    rw [cutKeyV, hf]
    go_enter Tryz.func160, Tryz.ntmps160
    go_wp2
    go_ret2
    exact ⟨rfl, Below.refl _ _⟩
  · have ht2 : s.extract 0 key.size = bs (s.data.toList.take key.size) := take_list s key.size
    have hd2 : s.extract key.size s.size = bs (s.data.toList.drop key.size) := drop_list s key.size
    have c1 := vgreat_walk (s.extract 0 key.size) (by rw [ht2, bs_size, List.length_take]; omega) w
    obtain ⟨g, hg⟩ : ∃ g, g = bs ((s.extract 0 key.size).data.toList.map upper) := ⟨_, rfl⟩
    rw [← hg] at c1
    have hkd : keyed key.data.toList s.data.toList = (g.toList == key.toList) := by
      rw [keyed, decide_eq_true (by omega), Bool.true_and, hkl, ByteArray.toList_eq, ByteArray.toList_eq, hg, bs_data, ht2, bs_data]
      rfl
    have hv : cutKeyV key.data.toList s.data.toList = .tuple #[.string (if (g.toList == key.toList) then s.extract key.size s.size else { data := #[] }), .bool (g.toList == key.toList)] := by
      rw [cutKeyV, hkd, hkl, hd2]
      cases (g.toList == key.toList) <;> rfl
    rw [hv]
    clear hkd hv hg ht2 hd2 hl hkl
    cases hq : (g.toList == key.toList) with
    | false =>
      go_enter Tryz.func160, Tryz.ntmps160
      go_wp2_with fail
      refine c1.mono ?_
      rintro e w1 ⟨rfl, hb1⟩
      go_wp2
      go_ret2
      exact ⟨rfl, hb1⟩
    | true =>
      go_enter Tryz.func160, Tryz.ntmps160
      go_wp2_with fail
      refine c1.mono ?_
      rintro e w1 ⟨rfl, hb1⟩
      go_wp2
      go_ret2
      exact ⟨rfl, hb1⟩

/-! ### Digits -/
theorem isNum_take {l : List UInt8} {k : Nat} (h : k < l.length) (ht : (l.take k).all isDig = true) (hk : isDig l[k] = true) : (l.take (k + 1)).all isDig = true := by
  rw [List.take_add_one, List.getElem?_eq_getElem h, List.all_append, ht]
  simpa using hk
theorem isNum_bad {l : List UInt8} {k : Nat} (h : k < l.length) (hk : isDig l[k] = false) : isNum l = false := by
  have : l.all isDig = false := List.all_eq_false.2 ⟨_, List.getElem_mem h, by rw [hk]; decide⟩
  rw [isNum, this, Bool.and_false, Bool.and_false]

set_option maxHeartbeats 4000000 in
set_option maxRecDepth 100000 in
theorem isNumber_walk (s : ByteArray) (w : World) : Calls Tryz.prog 162 #[.string s] w fun e w' => e = .returned (.bool (isNum s.data.toList)) ∧ Below w.heap.size w w' := by
  have hsz := len_size s
  by_cases h1 : (s.size : Int) < 1
  · have hf : isNum s.data.toList = false := by rw [isNum, decide_eq_false (by omega), Bool.false_and]
    rw [hf]
    go_enter Tryz.func162, Tryz.ntmps162
    go_wp2
    go_ret
    exact ⟨rfl, Below.refl _ _⟩
  by_cases h2 : (9 : Int) < (s.size : Int)
  · have hf : isNum s.data.toList = false := by rw [isNum, decide_eq_false (show ¬ s.data.toList.length ≤ 9 by omega), Bool.false_and, Bool.and_false]
    rw [hf]
    go_enter Tryz.func162, Tryz.ntmps162
    go_wp2
    go_ret
    exact ⟨rfl, Below.refl _ _⟩
  go_enter Tryz.func162, Tryz.ntmps162
  go_wp2
  go_loopw [] (fun wr => ∃ pos, wr.heap[w.heap.size]? = some (.stringIter s pos) ∧ Below w.heap.size w wr ∧ pos ≤ s.size ∧ (s.data.toList.take pos).all isDig = true) (fun wr => s.size - wr.iterPos w.heap.size)
  case atStart =>
    refine ⟨0, ?_, (Below.refl _ w).alloc (Nat.le_refl _) _, by omega, rfl⟩
    have := World.iter_heap w s 0
    simpa using this
  case round =>
    obtain ⟨pos, hit, hbw, hle, hall⟩ := hrel
    by_cases hp : pos < s.size
    · have hnx : ∀ ty, (Instr.next (.pointer (some ⟨w.heap.size, 0, none⟩)) true ty).run Tryz.prog wr = _ := fun ty => Lib.run_next_any_at wr w.heap.size s pos ty hit hp
      have hgt : s.data.toList[pos]'(by omega) = s[pos]'hp := by simp [ByteArray.getElem_eq_getElem_data]
      have hlt : w.heap.size < wr.heap.size := (Array.getElem?_eq_some_iff.1 hit).1
      by_cases hl : (s[pos]'hp).toNat < 128
      · have ea := decode_ascii s pos hp hl
        have hit2 := Lib.iterAt_heap wr w.heap.size s pos (pos + 1) hit
        have hbw2 := Lib.below_iterAt hbw (k := w.heap.size) (by omega) s (pos + 1)
        by_cases d1 : ((s[pos]'hp).toNat : Int) < 48
        · have hb : isNum s.data.toList = false := isNum_bad (k := pos) (by omega) (by rw [hgt, isDig]; simp; omega)
          go_wp2
          go_ret
          exact ⟨by first | (rw [hb]; rfl) | rfl, hbw2⟩
        by_cases d2 : 57 < ((s[pos]'hp).toNat : Int)
        · have hb : isNum s.data.toList = false := isNum_bad (k := pos) (by omega) (by rw [hgt, isDig]; simp; omega)
          go_wp2
          go_ret
          exact ⟨by first | (rw [hb]; rfl) | rfl, hbw2⟩
        have hok : isDig s.data.toList[pos] = true := by rw [hgt, isDig]; simp; omega
        have hall2 := isNum_take (by omega) hall hok
        go_wp2
        go_roundw
        case rel => exact ⟨pos + 1, hit2, hbw2, by omega, hall2⟩
        case measure =>
          simp only [World.iterPos, hit2, hit]
          omega
      · have hd := decode_high s pos hp (by omega)
        have hbw2 := Lib.below_iterAt hbw (k := w.heap.size) (by omega) s (pos + (Utf8.decode s pos).2)
        have hb : isNum s.data.toList = false := isNum_bad (k := pos) (by omega) (by rw [hgt, isDig]; simp; omega)
        generalize (Utf8.decode s pos).2 = wd at hnx hbw2
        have d1 : ¬ (((Utf8.decode s pos).1 : Int) < 48) := by omega
        have d2 : 57 < ((Utf8.decode s pos).1 : Int) := by omega
        go_wp2
        go_ret
        exact ⟨by first | (rw [hb]; rfl) | rfl, hbw2⟩
    · have hnx : ∀ ty, (Instr.next (.pointer (some ⟨w.heap.size, 0, none⟩)) true ty).run Tryz.prog wr = _ := fun ty => Lib.run_next_end_at wr w.heap.size s pos ty hit hp
      have hn : isNum s.data.toList = true := by
        rw [List.take_of_length_le (by omega)] at hall
        rw [isNum, hall, decide_eq_true (by omega), decide_eq_true (by omega)]
        rfl
      go_wp2
      go_ret
      exact ⟨by first | (rw [hn]; rfl) | rfl, hbw⟩

set_option maxHeartbeats 4000000 in
set_option maxRecDepth 100000 in
theorem hello_walk (s : ByteArray) (hs : s.size ≤ 9223372036854775807) (b : Bool) (m : Int) (w : World) (hm : w.cell? ⟨2, 0, none⟩ = some (.int .i64 m)) : Calls Tryz.prog 139 #[.string s, .bool b] w fun e w' => e = .returned (outV (helloM s.data.toList)) ∧ Below w.heap.size w w' := by
  have c1 := domain_walk s m w hm
  have c2 := vsmall_walk s hs
  rw [helloM]
  cases hd : domain s.data.toList with
  | false =>
    rw [hd] at c1
    go_enter Tryz.func139, Tryz.ntmps139
    go_wp2_with fail
    refine c1.mono ?_
    rintro e w1 ⟨rfl, hb1⟩
    go_wp2
    go_ret3
    exact ⟨rfl, hb1⟩
  | true =>
    rw [hd] at c1
    show Calls _ _ _ _ (fun e w' => e = .returned (.tuple #[.string (bs (s.data.toList.map lower)), .int .i64 (-1), .int .i64 0]) ∧ _)
    generalize bs (s.data.toList.map lower) = X at c2 ⊢
    go_enter Tryz.func139, Tryz.ntmps139
    go_wp2_with fail
    refine c1.mono ?_
    rintro e w1 ⟨rfl, hb1⟩
    go_wp2_with fail
    refine (c2 _).mono ?_
    rintro e w2 ⟨rfl, hb2⟩
    go_wp2
    go_ret3
    exact ⟨rfl, hb1.trans (hb2.mono hb1.size)⟩
end Go.Proofs.YtcjljldknekhiaaGreatDoor.Ad
end

section
/-
  The program's path and sizeOf.
-/
namespace Go.Proofs.YtcjljldknekhiaaGreatDoor.Ad
open Go.RowKit
set_option linter.unusedVariables false
set_option linter.unusedSimpArgs false

theorem results_tmp4 {fn : Func} {t u v x : Tmp} (h : fn.results = #[.tmp t, .tmp u, .tmp v, .tmp x]) (tmps : Array Value) (P : Program) (w : World) :
    (results fn tmps).run P w = .ok (.tuple #[tmps.getD t undef, tmps.getD u undef, tmps.getD v undef, tmps.getD x undef]) w := by
  simp [results, h]

theorem cut_blank (s : ByteArray) (hs : s.size < 4294967281) (m : Int) (w : World) (hm : w.cell? ⟨2, 0, none⟩ = some (.int .i64 m)) :
    Calls Tryz.prog 110 #[.string s, .string { data := #[32] }] w fun e w' => e = .returned (.tuple #[.string (bs (ahd 32 s.data.toList)), .string (bs (bhd 32 s.data.toList)), .bool (s.data.toList.contains 32)]) ∧ Below w.heap.size w w' := by
  refine (strings_Cut s { data := #[32] } m w hs hm).mono ?_
  rintro e w' ⟨rfl, n, rfl⟩
  refine ⟨?_, ⟨rfl, rfl, rfl, Nat.le_refl _, fun _ _ => rfl⟩⟩
  rw [show Lib.cut s.data.toList ({ data := #[32] } : ByteArray).data.toList = _ from cut_ahd 32 s.data.toList]
  rfl

/-- What path answers. -/
def pathsV (key l : List UInt8) : Value :=
  if keyed key (ahd 32 l) then .tuple #[.string (bs (pathM (wordM key l))), .string (bs (bhd 32 l)), .bool (l.contains 32), .bool (isPath (wordM key l))]
  else .tuple #[.string { data := #[] }, .string { data := #[] }, .bool false, .bool false]

set_option maxHeartbeats 4000000 in
set_option maxRecDepth 100000 in
theorem paths_walk (s key : ByteArray) (hs : s.size < 4294967281) (hk : key.size ≤ 5) (m : Int) (w : World) (hm : w.cell? ⟨2, 0, none⟩ = some (.int .i64 m)) :
    Calls Tryz.prog 156 #[.string s, .string key] w fun e w' => e = .returned (pathsV key.data.toList s.data.toList) ∧ Below w.heap.size w w' := by
  have c1 := cut_blank s hs m w hm
  have hal := ahd_len 32 s.data.toList
  rw [len_size] at hal
  have c2 := fun W => cutKey_walk (bs (ahd 32 s.data.toList)) key (by rw [bs_size]; omega) hk W
  rw [bs_data] at c2
  unfold cutKeyV at c2
  rw [pathsV]
  cases hq : keyed key.data.toList (ahd 32 s.data.toList) with
  | false =>
    rw [hq] at c2
    generalize bs (ahd 32 s.data.toList) = A at c1 c2
    generalize bs (bhd 32 s.data.toList) = B at c1
    generalize s.data.toList.contains 32 = C at c1
    go_enter Tryz.func156, Tryz.ntmps156
    go_wp2_with fail
    refine c1.mono ?_
    rintro e w1 ⟨rfl, hb1⟩
    go_wp2_with fail
    refine (c2 _).mono ?_
    rintro e w2 ⟨rfl, hb2⟩
    go_wp2
    refine bodyPost_ret (results_tmp4 rfl _ _ _) rfl ?_
    exact ⟨rfl, hb1.trans (hb2.mono hb1.size)⟩
  | true =>
    rw [hq] at c2
    simp only [if_true] at c2 ⊢
    have hwl : (wordM key.data.toList s.data.toList).length ≤ s.size := by rw [wordM, List.length_drop]; omega
    have c3 := fun W h => path_walk (bs (wordM key.data.toList s.data.toList)) (by rw [bs_size]; omega) m W h
    rw [bs_data] at c3
    rw [show (ahd 32 s.data.toList).drop key.data.toList.length = wordM key.data.toList s.data.toList from rfl] at c2
    unfold pathV at c3
    generalize bs (ahd 32 s.data.toList) = A at c1 c2
    generalize bs (bhd 32 s.data.toList) = B at c1 ⊢
    generalize s.data.toList.contains 32 = C at c1 ⊢
    generalize bs (wordM key.data.toList s.data.toList) = D at c2 c3
    generalize bs (pathM (wordM key.data.toList s.data.toList)) = E at c3 ⊢
    generalize isPath (wordM key.data.toList s.data.toList) = F at c3 ⊢
    go_enter Tryz.func156, Tryz.ntmps156
    go_wp2_with fail
    refine c1.mono ?_
    rintro e w1 ⟨rfl, hb1⟩
    have hm1 := cell_below hm hb1
    go_wp2_with fail
    refine (c2 _).mono ?_
    rintro e w2 ⟨rfl, hb2⟩
    have hm2 := cell_below hm1 hb2
    have hb12 := hb1.trans (hb2.mono hb1.size)
    go_wp2_with fail
    refine (c3 _ hm2).mono ?_
    rintro e w3 ⟨rfl, hb3⟩
    go_wp2
    refine bodyPost_ret (results_tmp4 rfl _ _ _) rfl ?_
    exact ⟨rfl, hb12.trans (hb3.mono hb12.size)⟩

/-! ### Pieces between blanks -/
def Txt (w : World) (b : Nat) (L : List (List UInt8)) : Prop := ∀ k (hk : k < L.length), w.cell? ⟨b, k, none⟩ = some (.string (bs (L[k]'hk)))
theorem Txt.keep {w w' : World} {b : Nat} {L : List (List UInt8)} (h : Txt w b L) {B : Nat} (hb : b < B) (hk : Below B w w') : Txt w' b L := fun k hL => (hk.cell (p := ⟨b, k, none⟩) hb).trans (h k hL)
theorem split_blank (s : ByteArray) (hs : s.size < 4294967281) (m : Int) (w : World) (hm : w.cell? ⟨2, 0, none⟩ = some (.int .i64 m)) :
    Calls Tryz.prog 57 #[.string s, .string { data := #[32] }] w fun e w' => e = .returned (.slice (some ⟨w.heap.size, 0, none⟩) (cuts 32 s.data.toList).length (cuts 32 s.data.toList).length) ∧ Txt w' w.heap.size (cuts 32 s.data.toList) ∧ Below w.heap.size w w' ∧ w.heap.size < w'.heap.size := by
  refine (strings_Split s { data := #[32] } m w hs hm (by decide)).mono ?_
  rintro e w' ⟨rfl, rfl⟩
  have hd : (Lib.splitB { data := #[32] } 0 (Lib.countB s { data := #[32] }) s).map (·.data.toList) = cuts 32 s.data.toList := by
    rw [Lib.splitB_data]
    exact (split_cuts 32 _ s.data.toList (Nat.le_refl _)).1
  have hl : (cuts 32 s.data.toList).length = Lib.countB s { data := #[32] } + 1 := by
    rw [← (split_cuts 32 _ s.data.toList (Nat.le_refl _)).1]
    exact (split_cuts 32 _ s.data.toList (Nat.le_refl _)).2
  refine ⟨by rw [hl], ?_, (Below.refl _ w).alloc (Nat.le_refl _) _, by simp⟩
  intro k hk
  rw [World.cell?_alloc_new]
  have hk2 : k < (Lib.splitB { data := #[32] } 0 (Lib.countB s { data := #[32] }) s).length := by rw [← hd, List.length_map] at hk; exact hk
  have e1 : (cuts 32 s.data.toList)[k] = ((Lib.splitB { data := #[32] } 0 (Lib.countB s { data := #[32] }) s)[k]'hk2).data.toList := by simp only [← hd, List.getElem_map]
  rw [e1, bs_of]
  simp [hk2]

def sizeV (r : Int × Int) : Value := .tuple #[.int .i64 r.1, .int .i64 r.2]
theorem sizeGo_end (s c : Int) : sizeGo s c [] = if c = 0 then (s, 0) else (0, c) := rfl
theorem sizeGo_other {s c : Int} {o : List UInt8} {r : List (List UInt8)} (h : keyed kSize o = false) : sizeGo s c (o :: r) = sizeGo s 555 r := by
  rw [sizeGo, h]
  rfl
theorem sizeGo_good {c : Int} {o : List UInt8} {r : List (List UInt8)} (h : keyed kSize o = true) (hn : isNum (o.drop 5) = true) : sizeGo (-1) c (o :: r) = sizeGo (num (o.drop 5)) c r := by
  rw [sizeGo, h, if_pos rfl, if_pos ⟨rfl, hn⟩]
theorem sizeGo_num {s c : Int} {o : List UInt8} {r : List (List UInt8)} (h : keyed kSize o = true) (hn : isNum (o.drop 5) = false) : sizeGo s c (o :: r) = (0, 501) := by
  rw [sizeGo, h, if_pos rfl, if_neg (fun e => by rw [hn] at e; exact absurd e.2 (by decide))]
theorem sizeGo_two {s c : Int} {o : List UInt8} {r : List (List UInt8)} (h : keyed kSize o = true) (hs : 0 ≤ s) : sizeGo s c (o :: r) = (0, 501) := by
  rw [sizeGo, h, if_pos rfl, if_neg (fun e => by omega)]


set_option maxHeartbeats 4000000 in
set_option maxRecDepth 100000 in
theorem sizeOf_walk (s : ByteArray) (hs : s.size < 4294967281) (m : Int) (w : World) (hm : w.cell? ⟨2, 0, none⟩ = some (.int .i64 m)) : Calls Tryz.prog 157 #[.string s] w fun e w' => e = .returned (sizeV (sizeM s.data.toList)) ∧ Below w.heap.size w w' := by
  have c1 := split_blank s hs m w hm
  have hcs := cuts_short 32 s.data.toList
  rw [len_size] at hcs
  rw [sizeM]
  obtain ⟨L, hL⟩ : ∃ L, cuts 32 s.data.toList = L := ⟨_, rfl⟩
  rw [hL] at c1 hcs ⊢
  clear hL
  obtain ⟨N, hN⟩ : ∃ N, L.length = N := ⟨_, rfl⟩
  rw [hN] at c1 hcs
  have hNs : N ≤ 4294967282 := by omega
  obtain ⟨R, hR⟩ : ∃ R, sizeGo (-1) 0 L = R := ⟨_, rfl⟩
  rw [hR]
  have hR0 := Lib.hid hR
  clear hR
  obtain ⟨B, hB⟩ : ∃ B, w.heap.size = B := ⟨_, rfl⟩
  rw [hB] at c1 ⊢
  have HN := Lib.hid hN
  have HB := Lib.hid hB
  clear hN hB
  go_enter Tryz.func157, Tryz.ntmps157
  go_wp2_with fail
  refine c1.mono ?_
  rintro e w1 ⟨rfl, hT, hb1, hlt1⟩
  have HT := Lib.hid hT
  clear hT
  go_wp2
  go_loopw [2, 3, 11] (fun z2 z3 z11 wr => ∃ (k : Nat) (sz cd : Int), k ≤ N ∧ z2 = .int .i64 sz ∧ z3 = .int .i64 cd ∧ z11 = .int .i64 (k : Int) ∧ RowKit.Hid (sizeGo sz cd (L.drop k) = R) ∧ (sz = -1 ∨ 0 ≤ sz) ∧ (cd = 0 ∨ cd = 555) ∧ Below w1.heap.size w1 wr) (fun _ _ z _ => N - (Lib.intOf z).toNat)
  case atStart => exact ⟨0, -1, 0, by omega, rfl, rfl, rfl, Lib.hid hR0.out, .inl rfl, .inl rfl, Below.refl _ _⟩
  case round =>
    obtain ⟨k, sz, cd, hk, rfl, rfl, rfl, hG, hsz, hcd, hbr⟩ := hrel
    by_cases hlt : (k : Int) < (N : Int)
    · have hkl : k < L.length := by have := HN.out; omega
      have hc := (HT.out.keep hlt1 hbr) k hkl
      have hol : (L[k]'hkl).length ≤ s.size := hcs.2 _ (List.getElem_mem hkl)
      have hG1 := hG.out
      rw [List.drop_eq_getElem_cons hkl] at hG1
      clear hG
      obtain ⟨o, ho⟩ : ∃ o, L[k]'hkl = o := ⟨_, rfl⟩
      rw [ho] at hc hol hG1
      clear ho
      have c2 := cutKey_walk (bs o) { data := #[83, 73, 90, 69, 61] } (by rw [bs_size]; omega) (by decide) wr
      rw [bs_data, show ({ data := #[83, 73, 90, 69, 61] } : ByteArray).data.toList = kSize from rfl] at c2
      unfold cutKeyV at c2
      cases hq : keyed kSize o with
      | false =>
        rw [sizeGo_other hq] at hG1
        have HG := Lib.hid hG1
        rw [hq] at c2
        clear hG1 hq
        go_wp2_with fail
        refine c2.mono ?_
        rintro e w2 ⟨rfl, hb2⟩
        go_wp2
        go_roundw
        case rel => exact ⟨k + 1, sz, 555, by omega, rfl, rfl, by simp, HG, hsz, .inr rfl, hbr.trans (hb2.mono hbr.size)⟩
        case measure =>
          simp [Lib.intOf]
          omega
      | true =>
        rw [hq, if_pos rfl, show kSize.length = 5 from rfl] at c2
        have hdl : (o.drop 5).length ≤ s.size := by rw [List.length_drop]; omega
        have c3 := fun W => isNumber_walk (bs (o.drop 5)) W
        rw [bs_data] at c3
        have hdn : ∀ W, isNum (o.drop 5) = true → Calls Tryz.prog 163 #[.string (bs (o.drop 5))] W fun e w' => e = .returned (.tuple #[.int .i64 (num (o.drop 5) : Int), .nilIface]) ∧ Below W.heap.size W w' := fun W hn => by
          have hl : (o.drop 5).length ≤ 9 := by
            simp only [isNum, Bool.and_eq_true, decide_eq_true_eq] at hn
            exact hn.2.1
          refine (strconv_Atoi (bs (o.drop 5)) (num (o.drop 5)) (by rw [bs_size]; omega) (atoi_num hn) W).mono ?_
          rintro e w' ⟨rfl, t, rfl⟩
          exact ⟨rfl, Lib.bytesWorld_below _ _ _⟩
        rcases hsz with rfl | h0
        · cases hn : isNum (o.drop 5) with
          | false =>
            rw [sizeGo_num hq hn] at hG1
            subst hG1
            rw [hn] at c3
            clear hdn hq hn hR0
            generalize bs (o.drop 5) = D at c2 c3
            go_wp2_with fail
            refine c2.mono ?_
            rintro e w2 ⟨rfl, hb2⟩
            go_wp2_with fail
            refine (c3 _).mono ?_
            rintro e w3 ⟨rfl, hb3⟩
            have hb12 := hbr.trans (hb2.mono hbr.size)
            go_wp2
            go_ret2
            exact ⟨rfl, hb1.trans ((hb12.trans (hb3.mono hb12.size)).mono (by omega))⟩
          | true =>
            rw [sizeGo_good hq hn] at hG1
            have HG := Lib.hid hG1
            have c4 := fun W => hdn W hn
            rw [hn] at c3
            clear hdn hq hn hG1
            generalize bs (o.drop 5) = D at c2 c3 c4
            generalize num (o.drop 5) = n at c4 HG
            go_wp2_with fail
            refine c2.mono ?_
            rintro e w2 ⟨rfl, hb2⟩
            go_wp2_with fail
            refine (c3 _).mono ?_
            rintro e w3 ⟨rfl, hb3⟩
            have hb12 := hbr.trans (hb2.mono hbr.size)
            have hb13 := hb12.trans (hb3.mono hb12.size)
            go_wp2_with fail
            refine (c4 _).mono ?_
            rintro e w4 ⟨rfl, hb4⟩
            go_wp2
            go_roundw
            case rel => exact ⟨k + 1, n, cd, by omega, rfl, rfl, by simp, HG, .inr (by omega), hcd, hb13.trans (hb4.mono hb13.size)⟩
            case measure =>
              simp [Lib.intOf]
              omega
        · rw [sizeGo_two hq h0] at hG1
          subst hG1
          have hne : (sz != -1) = true := by rw [bne_iff_ne]; omega
          have hne2 : ¬ sz = -1 := by omega
          clear hdn hq hR0 c3
          generalize bs (o.drop 5) = D at c2
          go_wp2_with fail
          refine c2.mono ?_
          rintro e w2 ⟨rfl, hb2⟩
          have hb12 := hbr.trans (hb2.mono hbr.size)
          go_wp2
          go_ret2
          exact ⟨rfl, hb1.trans (hb12.mono (by omega))⟩
    · have hkN : k = N := by omega
      have hG1 := hG.out
      rw [List.drop_eq_nil_of_le (by have := HN.out; omega), sizeGo_end] at hG1
      rcases hcd with rfl | rfl
      · rw [if_pos rfl] at hG1
        subst hG1
        clear hG hR0
        go_wp2
        go_ret2
        exact ⟨rfl, hb1.trans (hbr.mono (by omega))⟩
      · rw [if_neg (by decide)] at hG1
        subst hG1
        clear hG hR0
        go_wp2
        go_ret2
        exact ⟨rfl, hb1.trans (hbr.mono (by omega))⟩
end Go.Proofs.YtcjljldknekhiaaGreatDoor.Ad
end

section
/-
  The program's mail, rcpt.
-/
namespace Go.Proofs.YtcjljldknekhiaaGreatDoor.Ad
open Go.RowKit
set_option linter.unusedVariables false
set_option linter.unusedSimpArgs false

theorem pathsV_bad {key l : List UInt8} (h : pathOk key l = false) : ∃ A B : ByteArray, ∃ C, pathsV key l = .tuple #[.string A, .string B, .bool C, .bool false] := by
  rw [pathsV]
  cases hq : keyed key (ahd 32 l) with
  | false => exact ⟨_, _, _, rfl⟩
  | true =>
    rw [pathOk, hq, Bool.true_and] at h
    rw [h]
    exact ⟨_, _, _, rfl⟩
theorem pathsV_good {key l : List UInt8} (h : pathOk key l = true) : pathsV key l = .tuple #[.string (bs (pathM (wordM key l))), .string (bs (bhd 32 l)), .bool (l.contains 32), .bool true] := by
  rw [pathOk, Bool.and_eq_true] at h
  rw [pathsV, h.1, h.2]
  rfl

set_option maxHeartbeats 4000000 in
set_option maxRecDepth 100000 in
theorem mail_walk (s : ByteArray) (hs : s.size < 4294967281) (b : Bool) (m : Int) (w : World) (hm : w.cell? ⟨2, 0, none⟩ = some (.int .i64 m)) : Calls Tryz.prog 140 #[.string s, .bool b] w fun e w' => e = .returned (outV (mailM s.data.toList)) ∧ Below w.heap.size w w' := by
  have c1 := paths_walk s { data := #[70, 82, 79, 77, 58] } hs (by decide) m w hm
  rw [show ({ data := #[70, 82, 79, 77, 58] } : ByteArray).data.toList = kFrom from rfl] at c1
  rw [mailM]
  cases hp : pathOk kFrom s.data.toList with
  | false =>
    obtain ⟨A, B, C, e⟩ := pathsV_bad hp
    rw [e] at c1
    clear e
    show Calls _ _ _ _ (fun e w' => e = .returned (.tuple #[.string { data := #[] }, .int .i64 0, .int .i64 501]) ∧ _)
    go_enter Tryz.func140, Tryz.ntmps140
    go_wp2_with fail
    refine c1.mono ?_
    rintro e w1 ⟨rfl, hb1⟩
    go_wp2
    go_ret3
    exact ⟨rfl, hb1⟩
  | true =>
    rw [pathsV_good hp] at c1
    rw [if_pos rfl]
    cases hc : s.data.toList.contains 32 with
    | false =>
      rw [hc] at c1
      show Calls _ _ _ _ (fun e w' => e = .returned (.tuple #[.string (bs (pathM (wordM kFrom s.data.toList))), .int .i64 (-1), .int .i64 0]) ∧ _)
      generalize bs (pathM (wordM kFrom s.data.toList)) = X at c1 ⊢
      generalize bs (bhd 32 s.data.toList) = Y at c1
      go_enter Tryz.func140, Tryz.ntmps140
      go_wp2_with fail
      refine c1.mono ?_
      rintro e w1 ⟨rfl, hb1⟩
      go_wp2
      go_ret3
      exact ⟨rfl, hb1⟩
    | true =>
      rw [hc] at c1
      rw [if_pos rfl]
      have hbl := bhd_len 32 s.data.toList
      rw [len_size] at hbl
      have c2 := fun W h => sizeOf_walk (bs (bhd 32 s.data.toList)) (by rw [bs_size]; omega) m W h
      rw [bs_data] at c2
      unfold sizeV at c2
      by_cases hz : (sizeM (bhd 32 s.data.toList)).2 = 0
      · rw [if_pos hz]
        rw [hz] at c2
        show Calls _ _ _ _ (fun e w' => e = .returned (.tuple #[.string (bs (pathM (wordM kFrom s.data.toList))), .int .i64 (sizeM (bhd 32 s.data.toList)).1, .int .i64 0]) ∧ _)
        generalize bs (pathM (wordM kFrom s.data.toList)) = X at c1 ⊢
        generalize (sizeM (bhd 32 s.data.toList)).1 = Z at c2 ⊢
        generalize bs (bhd 32 s.data.toList) = Y at c1 c2
        clear hz
        go_enter Tryz.func140, Tryz.ntmps140
        go_wp2_with fail
        refine c1.mono ?_
        rintro e w1 ⟨rfl, hb1⟩
        have hm1 := cell_below hm hb1
        go_wp2_with fail
        refine (c2 _ hm1).mono ?_
        rintro e w2 ⟨rfl, hb2⟩
        go_wp2
        go_ret3
        exact ⟨rfl, hb1.trans (hb2.mono hb1.size)⟩
      · rw [if_neg hz]
        show Calls _ _ _ _ (fun e w' => e = .returned (.tuple #[.string { data := #[] }, .int .i64 0, .int .i64 (sizeM (bhd 32 s.data.toList)).2]) ∧ _)
        generalize bs (pathM (wordM kFrom s.data.toList)) = X at c1 ⊢
        generalize (sizeM (bhd 32 s.data.toList)).1 = Z at c2
        generalize (sizeM (bhd 32 s.data.toList)).2 = C at c2 hz ⊢
        generalize bs (bhd 32 s.data.toList) = Y at c1 c2
        have hz2 : (C != 0) = true := by rw [bne_iff_ne]; exact hz
        go_enter Tryz.func140, Tryz.ntmps140
        go_wp2_with fail
        refine c1.mono ?_
        rintro e w1 ⟨rfl, hb1⟩
        have hm1 := cell_below hm hb1
        go_wp2_with fail
        refine (c2 _ hm1).mono ?_
        rintro e w2 ⟨rfl, hb2⟩
        go_wp2
        go_ret3
        exact ⟨rfl, hb1.trans (hb2.mono hb1.size)⟩

set_option maxHeartbeats 4000000 in
set_option maxRecDepth 100000 in
theorem rcpt_walk (s : ByteArray) (hs : s.size < 4294967281) (b : Bool) (m : Int) (w : World) (hm : w.cell? ⟨2, 0, none⟩ = some (.int .i64 m)) : Calls Tryz.prog 141 #[.string s, .bool b] w fun e w' => e = .returned (outV (rcptM s.data.toList)) ∧ Below w.heap.size w w' := by
  have c1 := paths_walk s { data := #[84, 79, 58] } hs (by decide) m w hm
  rw [show ({ data := #[84, 79, 58] } : ByteArray).data.toList = kTo from rfl] at c1
  rw [rcptM]
  cases hp : pathOk kTo s.data.toList with
  | false =>
    obtain ⟨A, B, C, e⟩ := pathsV_bad hp
    rw [e] at c1
    clear e
    show Calls _ _ _ _ (fun e w' => e = .returned (.tuple #[.string { data := #[] }, .int .i64 0, .int .i64 501]) ∧ _)
    go_enter Tryz.func141, Tryz.ntmps141
    go_wp2_with fail
    refine c1.mono ?_
    rintro e w1 ⟨rfl, hb1⟩
    go_wp2
    go_ret3
    exact ⟨rfl, hb1⟩
  | true =>
    rw [pathsV_good hp] at c1
    rw [Bool.true_and]
    have he : (pathM (wordM kTo s.data.toList)).isEmpty = ((bs (pathM (wordM kTo s.data.toList))).toList == []) := by
      rw [ByteArray.toList_eq, bs_data]
      cases pathM (wordM kTo s.data.toList) <;> rfl
    rw [he]
    clear he
    cases hc : s.data.toList.contains 32 with
    | false =>
      rw [hc] at c1
      show Calls _ _ _ _ (fun e w' => e = .returned (outV (if (!((bs (pathM (wordM kTo s.data.toList))).toList == [])) = true then ⟨pathM (wordM kTo s.data.toList), -1, 0⟩ else bad 501)) ∧ _)
      cases hE : ((bs (pathM (wordM kTo s.data.toList))).toList == []) with
      | true =>
        show Calls _ _ _ _ (fun e w' => e = .returned (.tuple #[.string { data := #[] }, .int .i64 0, .int .i64 501]) ∧ _)
        generalize bs (pathM (wordM kTo s.data.toList)) = X at c1 hE
        generalize bs (bhd 32 s.data.toList) = Y at c1
        go_enter Tryz.func141, Tryz.ntmps141
        go_wp2_with fail
        refine c1.mono ?_
        rintro e w1 ⟨rfl, hb1⟩
        go_wp2
        go_ret3
        exact ⟨rfl, hb1⟩
      | false =>
        show Calls _ _ _ _ (fun e w' => e = .returned (.tuple #[.string (bs (pathM (wordM kTo s.data.toList))), .int .i64 (-1), .int .i64 0]) ∧ _)
        generalize bs (pathM (wordM kTo s.data.toList)) = X at c1 hE ⊢
        generalize bs (bhd 32 s.data.toList) = Y at c1
        go_enter Tryz.func141, Tryz.ntmps141
        go_wp2_with fail
        refine c1.mono ?_
        rintro e w1 ⟨rfl, hb1⟩
        go_wp2
        go_ret3
        exact ⟨rfl, hb1⟩
    | true =>
      rw [hc] at c1
      show Calls _ _ _ _ (fun e w' => e = .returned (outV (if (!((bs (pathM (wordM kTo s.data.toList))).toList == [])) = true then bad 555 else bad 501)) ∧ _)
      cases hE : ((bs (pathM (wordM kTo s.data.toList))).toList == []) with
      | true =>
        show Calls _ _ _ _ (fun e w' => e = .returned (.tuple #[.string { data := #[] }, .int .i64 0, .int .i64 501]) ∧ _)
        generalize bs (pathM (wordM kTo s.data.toList)) = X at c1 hE
        generalize bs (bhd 32 s.data.toList) = Y at c1
        go_enter Tryz.func141, Tryz.ntmps141
        go_wp2_with fail
        refine c1.mono ?_
        rintro e w1 ⟨rfl, hb1⟩
        go_wp2
        go_ret3
        exact ⟨rfl, hb1⟩
      | false =>
        show Calls _ _ _ _ (fun e w' => e = .returned (.tuple #[.string { data := #[] }, .int .i64 0, .int .i64 555]) ∧ _)
        generalize bs (pathM (wordM kTo s.data.toList)) = X at c1 hE
        generalize bs (bhd 32 s.data.toList) = Y at c1
        go_enter Tryz.func141, Tryz.ntmps141
        go_wp2_with fail
        refine c1.mono ?_
        rintro e w1 ⟨rfl, hb1⟩
        go_wp2
        go_ret3
        exact ⟨rfl, hb1⟩
end Go.Proofs.YtcjljldknekhiaaGreatDoor.Ad
end

section
/-
  The program's Parse.
-/
namespace Go.Proofs.YtcjljldknekhiaaGreatDoor.Ad
open Go.RowKit
set_option linter.unusedVariables false
set_option linter.unusedSimpArgs false

/-- What Parse answers. -/
def cells3 (a b : ByteArray) (n : Int) : Array Value := #[.string a, .string b, .int .i64 n]
def cmdV (c : Cmd) : Value := .tuple #[.agg (cells3 (bs c.name) (bs c.arg) c.size), .int .i64 c.code]

theorem kind_walk (k : Kind) (s : ByteArray) (hs : s.size < 4294967281) (b : Bool) (m : Int) (w : World) (hm : w.cell? ⟨2, 0, none⟩ = some (.int .i64 m)) : Calls Tryz.prog (kindFn k) #[.string s, .bool b] w fun e w' => e = .returned (outV (outM k s.data.toList b)) ∧ Below w.heap.size w w' := by
  cases k with
  | hello => exact hello_walk s (by omega) b m w hm
  | mail => exact mail_walk s hs b m w hm
  | rcpt => exact rcpt_walk s hs b m w hm
  | alone =>
    refine (alone_walk s b w).mono ?_
    rintro e w' ⟨rfl, rfl⟩
    exact ⟨rfl, Below.refl _ _⟩
  | noop =>
    refine (noop_walk s b w).mono ?_
    rintro e w' ⟨rfl, rfl⟩
    exact ⟨rfl, Below.refl _ _⟩
  | vrfy =>
    refine (vrfy_walk s b w).mono ?_
    rintro e w' ⟨rfl, rfl⟩
    exact ⟨rfl, Below.refl _ _⟩

theorem info24 : (Tryz.prog.info? 58).map (·.size) = some 3 := by kernel_rfl

theorem one3 (a b : ByteArray) (n : Int) : (cells3 a b n).all (·.oneCell') = true := by simp [cells3, Value.oneCell']
theorem step_row {ops : Array Oper} {rest : List Oper} {o : Oper} {a : Act} {w : World} {Q : Exit → Act → World → Prop} (hgd : o.guard = none) (x y : Operand) (ho : o.op = .store 58 x y)
    (g : Nat) (A B : ByteArray) (n : Int) (hx : a.eval x = .pointer (some ⟨g, 0, none⟩)) (hy : a.eval y = .agg #[.string A, .string B, .int .i64 n])
    (A' B' : ByteArray) (n' : Int) (hg : w.heap[g]? = some (.cells (cells3 A' B' n') 58 (0, 0)))
    (h : wpList Tryz.prog ops Q rest (a.put o.dst undef) (w.setRow g (cells3 A B n))) : wpList Tryz.prog ops Q (o :: rest) a w :=
  wpList_store_row hgd 58 x y ho g (cells3 A B n) hx hy 58 _ hg info24 rfl (one3 _ _ _) h
/-- A Verb's three cells. -/
def Row3 (w : World) (g : Nat) (a b : ByteArray) (n : Int) : Prop := w.heap[g]? = some (.cells (cells3 a b n) 58 (0, 0))
theorem Row3.keep {w w' : World} {g : Nat} {a b : ByteArray} {n : Int} (h : Row3 w g a b n) {B : Nat} (hg : g < B) (k : Below B w w') : Row3 w' g a b n := (k.block g hg).trans h
theorem Row3.lt {w : World} {g : Nat} {a b : ByteArray} {n : Int} (h : Row3 w g a b n) : g < w.heap.size := (Array.getElem?_eq_some_iff.1 h).1
theorem row3_new (w : World) (a b : ByteArray) (n : Int) : Row3 (w.alloc (.cells #[.string a, .string b, .int .i64 n] 58)) w.heap.size a b n := heap_alloc_new _ _
theorem Row3.set {w : World} {g : Nat} {a b : ByteArray} {n : Int} (h : Row3 w g a b n) (a' b' : ByteArray) (n' : Int) : Row3 (w.setRow g (cells3 a' b' n')) g a' b' n' := setRow_heap w g _ _ _ _ h
theorem below_setRow {B : Nat} {w w' : World} (h : Below B w w') {g : Nat} (hg : B ≤ g) (cs : Array Value) : Below B w (w'.setRow g cs) :=
  ⟨h.os, h.tape, h.output, by rw [size_setRow]; exact h.size, fun k hk => (setRow_other w' g k cs (by omega)).trans (h.block k hk)⟩
theorem ret_row {fn : Func} {p u : Tmp} (h : fn.results = #[.cell p 58, .tmp u]) (tmps : Array Value) (w : World) (g : Nat) (a b : ByteArray) (n : Int) (hp : tmps.getD p undef = .pointer (some ⟨g, 0, none⟩)) (hg : Row3 w g a b n) :
    (results fn tmps).run Tryz.prog w = .ok (.tuple #[.agg (cells3 a b n), tmps.getD u undef]) w := by
  rw [results_cell_tmp h, hp]
  have := run_loadVar_row (P := Tryz.prog) w g 58 58 (cells3 a b n) (0, 0) _ hg Tryz.underlying58 rfl info24
  simp [asAddr, this, Result.andThen]

set_option maxHeartbeats 4000000 in
set_option maxRecDepth 100000 in
theorem vparse_walk (s : ByteArray) (hs : s.size < 4294967281) (m : Int) (w : World) (hm : w.cell? ⟨2, 0, none⟩ = some (.int .i64 m)) : Calls Tryz.prog 88 #[.string s] w fun e w' => e = .returned (cmdV (verbM s.data.toList)) ∧ Below w.heap.size w w' := by
  have c1 := fun W h => cut_blank s hs m W h
  have hal := ahd_len 32 s.data.toList
  have hbl := bhd_len 32 s.data.toList
  rw [len_size] at hal hbl
  have c2 := fun W => vgreat_walk (bs (ahd 32 s.data.toList)) (by rw [bs_size]; omega) W
  rw [bs_data, show (ahd 32 s.data.toList).map upper = great (ahd 32 s.data.toList) from rfl] at c2
  have c4 := fun k W h => kind_walk k (bs (bhd 32 s.data.toList)) (by rw [bs_size]; omega) (s.data.toList.contains 32) m W h
  rw [bs_data] at c4
  rw [verbM]
  generalize great (ahd 32 s.data.toList) = n at c2 ⊢
  have hb0 := (Below.refl w.heap.size w).alloc (Nat.le_refl _) (.cells #[.string { data := #[] }, .string { data := #[] }, .int .i64 0] 58)
  have hr0 := row3_new w { data := #[] } { data := #[] } 0
  have hm0 := cell_below hm hb0
  have hlt : w.heap.size < (w.alloc (.cells #[.string { data := #[] }, .string { data := #[] }, .int .i64 0] 58)).heap.size := hr0.lt
  generalize bs (ahd 32 s.data.toList) = X at c1 c2
  cases hk : kind n with
  | none =>
    rw [verbN_other hk]
    show Calls _ _ _ _ (fun e w' => e = .returned (.tuple #[.agg (cells3 { data := #[] } { data := #[] } 0), .int .i64 500]) ∧ _)
    have c3 := fun W => parsers_walk W
    have hl := fun W b h => @look_none W b h n hk
    generalize bs n = A at c2 hl
    generalize bs (bhd 32 s.data.toList) = Y at c1
    generalize s.data.toList.contains 32 = Z at c1
    clear c4 hk
    have C1 := Lib.hid c1
    have C2 := Lib.hid c2
    have C3 := Lib.hid c3
    have HL := Lib.hid hl
    have HB0 := Lib.hid hb0
    have HR0 := Lib.hid hr0
    have HM0 := Lib.hid hm0
    have HLT := Lib.hid hlt
    clear c1 c2 c3 hl hb0 hr0 hm0 hlt
    go_enter Tryz.func88, Tryz.ntmps88
    go_wp2_with fail
    refine (C1.out _ HM0.out).mono ?_
    rintro e w1 ⟨rfl, hb1⟩
    have HB1 := Lib.hid (HB0.out.trans (hb1.mono HB0.out.size))
    have HR1 := Lib.hid (HR0.out.keep HLT.out hb1)
    clear hb1
    go_wp2_with fail
    refine (C2.out _).mono ?_
    rintro e w2 ⟨rfl, hb2⟩
    have HB2 := Lib.hid (HB1.out.trans (hb2.mono HB1.out.size))
    have HR2 := Lib.hid (HR1.out.keep HR1.out.lt hb2)
    clear hb2
    go_wp2_with fail
    refine (C3.out _).mono ?_
    rintro e w3 ⟨rfl, hw3⟩
    have hb3 : Below w2.heap.size w2 w3 := by rw [hw3]; exact (Below.refl _ w2).alloc (Nat.le_refl _) _
    have hmap : w3.heap[w2.heap.size]? = some (.map (tabN 9) 9) := by rw [hw3]; exact (MapKept.heap_alloc _ _).1
    have HB3 := Lib.hid (HB2.out.trans (hb3.mono HB2.out.size))
    have HR3 := Lib.hid (HR2.out.keep HR2.out.lt hb3)
    have hlk := HL.out _ _ hmap
    clear hb3 hmap hw3
    go_wp2_with (refine step_row (by rfl) (.tmp 2) (.tmp 29) (by rfl) w.heap.size { data := #[] } { data := #[] } 0 (by rfl) (by rfl) _ _ _ HR3.out ?_)
    (try simp only [Exit.inBlock, Exit.then])
    refine bodyPost_ret (ret_row (fn := Tryz.f88) (p := 2) (u := 3) rfl _ _ w.heap.size { data := #[] } { data := #[] } 0 rfl (HR3.out.set _ _ _)) rfl ?_
    exact ⟨rfl, below_setRow HB3.out (Nat.le_refl _) _⟩
  | some k =>
    have hv : verbN n (bhd 32 s.data.toList) (s.data.toList.contains 32) = cmdOf n (outM k (bhd 32 s.data.toList) (s.data.toList.contains 32)) := by
      rw [verbN, hk]
    rw [hv]
    clear hv
    have c3 := fun W => parsers_walk W
    have hl := fun W b h => @look_some W b h n k hk
    have c4' := c4 k
    clear c4 hk
    generalize outM k (bhd 32 s.data.toList) (s.data.toList.contains 32) = o at c4' ⊢
    generalize bs (bhd 32 s.data.toList) = Y at c1 c4'
    generalize s.data.toList.contains 32 = Z at c1 c4'
    obtain ⟨oa, oz, oc⟩ := o
    unfold cmdOf
    unfold outV at c4'
    unfold fnV at hl
    simp only [] at c4'
    have C1 := Lib.hid c1
    have C2 := Lib.hid c2
    have C3 := Lib.hid c3
    have C4 := Lib.hid c4'
    have HL := Lib.hid hl
    have HB0 := Lib.hid hb0
    have HR0 := Lib.hid hr0
    have HM0 := Lib.hid hm0
    have HLT := Lib.hid hlt
    clear c1 c2 c3 c4' hl hb0 hr0 hm0 hlt
    have HM : ∀ W, Below w.heap.size w W → W.cell? ⟨2, 0, none⟩ = some (.int .i64 m) := fun W h => cell_below hm h
    by_cases h0 : oc = 0
    · subst h0
      show Calls _ _ _ _ (fun e w' => e = .returned (.tuple #[.agg (cells3 (bs n) (bs oa) oz), .int .i64 0]) ∧ _)
      generalize bs oa = V at C4 ⊢
      generalize bs n = A at C2 HL ⊢
      cases k <;>
      · go_enter Tryz.func88, Tryz.ntmps88
        go_wp2_with fail
        refine (C1.out _ HM0.out).mono ?_
        rintro e w1 ⟨rfl, hb1⟩
        have HB1 := Lib.hid (HB0.out.trans (hb1.mono HB0.out.size))
        have HR1 := Lib.hid (HR0.out.keep HLT.out hb1)
        clear hb1
        go_wp2_with fail
        refine (C2.out _).mono ?_
        rintro e w2 ⟨rfl, hb2⟩
        have HB2 := Lib.hid (HB1.out.trans (hb2.mono HB1.out.size))
        have HR2 := Lib.hid (HR1.out.keep HR1.out.lt hb2)
        clear hb2
        go_wp2_with fail
        refine (C3.out _).mono ?_
        rintro e w3 ⟨rfl, hw3⟩
        have hb3 : Below w2.heap.size w2 w3 := by rw [hw3]; exact (Below.refl _ w2).alloc (Nat.le_refl _) _
        have hmap : w3.heap[w2.heap.size]? = some (.map (tabN 9) 9) := by rw [hw3]; exact (MapKept.heap_alloc _ _).1
        have HB3 := Lib.hid (HB2.out.trans (hb3.mono HB2.out.size))
        have HR3 := Lib.hid (HR2.out.keep HR2.out.lt hb3)
        have hlk := HL.out _ _ hmap
        unfold kindFn at hlk
        simp only [] at hlk
        clear hb3 hmap hw3
        go_wp2_with fail
        refine (C4.out _ (HM _ HB3.out)).mono ?_
        rintro e w4 ⟨rfl, hb4⟩
        have HB4 := Lib.hid (HB3.out.trans (hb4.mono HB3.out.size))
        have HR4 := Lib.hid (HR3.out.keep HR3.out.lt hb4)
        clear hb4
        go_wp2_with (refine step_row (by rfl) (.tmp 2) (.tmp 45) (by rfl) w.heap.size A V oz (by rfl) (by rfl) _ _ _ HR4.out ?_)
        (try simp only [Exit.inBlock, Exit.then])
        refine bodyPost_ret (ret_row (fn := Tryz.f88) (p := 2) (u := 3) rfl _ _ w.heap.size A V oz rfl (HR4.out.set _ _ _)) rfl ?_
        exact ⟨rfl, below_setRow HB4.out (Nat.le_refl _) _⟩
    · rw [if_neg h0]
      show Calls _ _ _ _ (fun e w' => e = .returned (.tuple #[.agg (cells3 { data := #[] } { data := #[] } 0), .int .i64 oc]) ∧ _)
      have h1 : (oc != 0) = true := by rw [bne_iff_ne]; exact h0
      generalize bs oa = V at C4
      generalize bs n = A at C2 HL
      cases k <;>
      · go_enter Tryz.func88, Tryz.ntmps88
        go_wp2_with fail
        refine (C1.out _ HM0.out).mono ?_
        rintro e w1 ⟨rfl, hb1⟩
        have HB1 := Lib.hid (HB0.out.trans (hb1.mono HB0.out.size))
        have HR1 := Lib.hid (HR0.out.keep HLT.out hb1)
        clear hb1
        go_wp2_with fail
        refine (C2.out _).mono ?_
        rintro e w2 ⟨rfl, hb2⟩
        have HB2 := Lib.hid (HB1.out.trans (hb2.mono HB1.out.size))
        have HR2 := Lib.hid (HR1.out.keep HR1.out.lt hb2)
        clear hb2
        go_wp2_with fail
        refine (C3.out _).mono ?_
        rintro e w3 ⟨rfl, hw3⟩
        have hb3 : Below w2.heap.size w2 w3 := by rw [hw3]; exact (Below.refl _ w2).alloc (Nat.le_refl _) _
        have hmap : w3.heap[w2.heap.size]? = some (.map (tabN 9) 9) := by rw [hw3]; exact (MapKept.heap_alloc _ _).1
        have HB3 := Lib.hid (HB2.out.trans (hb3.mono HB2.out.size))
        have HR3 := Lib.hid (HR2.out.keep HR2.out.lt hb3)
        have hlk := HL.out _ _ hmap
        unfold kindFn at hlk
        simp only [] at hlk
        clear hb3 hmap hw3
        go_wp2_with fail
        refine (C4.out _ (HM _ HB3.out)).mono ?_
        rintro e w4 ⟨rfl, hb4⟩
        have HB4 := Lib.hid (HB3.out.trans (hb4.mono HB3.out.size))
        have HR4 := Lib.hid (HR3.out.keep HR3.out.lt hb4)
        clear hb4
        go_wp2_with (refine step_row (by rfl) (.tmp 2) (.tmp 40) (by rfl) w.heap.size { data := #[] } { data := #[] } 0 (by rfl) (by rfl) _ _ _ HR4.out ?_)
        (try simp only [Exit.inBlock, Exit.then])
        refine bodyPost_ret (ret_row (fn := Tryz.f88) (p := 2) (u := 3) rfl _ _ w.heap.size { data := #[] } { data := #[] } 0 rfl (HR4.out.set _ _ _)) rfl ?_
        exact ⟨rfl, below_setRow HB4.out (Nat.le_refl _) _⟩
end Go.Proofs.YtcjljldknekhiaaGreatDoor.Ad
end

section
/-
  What a program that does nothing does not answer.
-/
namespace Go.Proofs.YtcjljldknekhiaaGreatDoor.Ad
open Go.RowKit
set_option linter.unusedVariables false
set_option linter.unusedSimpArgs false

theorem Row3.cells {w : World} {g : Nat} {a b : ByteArray} {n : Int} (h : Row3 w g a b n) : w.cell? ⟨g, 0, none⟩ = some (.string a) ∧ w.cell? ⟨g, 1, none⟩ = some (.string b) ∧ w.cell? ⟨g, 2, none⟩ = some (.int .i64 n) :=
  ⟨cell_of_row w g 0 _ 58 (0, 0) h, cell_of_row w g 1 _ 58 (0, 0) h, cell_of_row w g 2 _ 58 (0, 0) h⟩
theorem Row3.load {w : World} {g : Nat} {a b : ByteArray} {n : Int} (h : Row3 w g a b n) : (loadVar 58 ⟨g, 0, none⟩).run Tryz.prog w = .ok (.agg (cells3 a b n)) w :=
  run_loadVar_row (P := Tryz.prog) w g 58 58 (cells3 a b n) (0, 0) _ h Tryz.underlying58 rfl info24
theorem verbM_ex : verbM [109, 97, 105, 108, 32, 102, 114, 111, 109, 58, 60, 65, 64, 66, 46, 99, 62, 32, 115, 105, 122, 101, 61, 53] = ⟨[77, 65, 73, 76], [65, 64, 98, 46, 99], 5, 0⟩ := by kernel_rfl
theorem verbM_frob : verbM [102, 114, 111, 98] = ⟨[], [], 0, 500⟩ := by kernel_rfl

theorem vparse_at (s : ByteArray) (hs : s.size < 4294967281) (m : Int) {N A : ByteArray} {z c : Int} (h : cmdV (verbM s.data.toList) = .tuple #[.agg #[.string N, .string A, .int .i64 z], .int .i64 c]) (w : World) (hm : w.cell? ⟨2, 0, none⟩ = some (.int .i64 m)) :
    Calls Tryz.prog 88 #[.string s] w fun e w' => e = .returned (.tuple #[.agg #[.string N, .string A, .int .i64 z], .int .i64 c]) ∧ Below w.heap.size w w' := by
  rw [← h]
  exact vparse_walk s hs m w hm

/-- A Verb that is laid down. -/
def laid (w : World) (A B : ByteArray) (n : Int) : World := (w.alloc (.cells #[.string { data := #[] }, .string { data := #[] }, .int .i64 0] 58)).setRow w.heap.size (cells3 A B n)
theorem laid_row (w : World) (A B : ByteArray) (n : Int) : Row3 (laid w A B n) w.heap.size A B n := (row3_new w _ _ _).set _ _ _
theorem laid_below (w : World) (A B : ByteArray) (n : Int) : Below w.heap.size w (laid w A B n) := below_setRow ((Below.refl w.heap.size w).alloc (Nat.le_refl _) _) (Nat.le_refl _) _
theorem step_laid {ops : Array Oper} {rest : List Oper} {o : Oper} {a : Act} {w : World} {Q : Exit → Act → World → Prop} (hgd : o.guard = none) (x y : Operand) (ho : o.op = .store 58 x y)
    (A B : ByteArray) (n : Int) (hx : a.eval x = .pointer (some ⟨w.heap.size, 0, none⟩)) (hy : a.eval y = .agg #[.string A, .string B, .int .i64 n])
    (h : wpList Tryz.prog ops Q rest (a.put o.dst undef) (laid w A B n)) : wpList Tryz.prog ops Q (o :: rest) a (w.alloc (.cells #[.string { data := #[] }, .string { data := #[] }, .int .i64 0] 58)) :=
  step_row hgd x y ho w.heap.size A B n hx hy _ _ _ (row3_new w _ _ _) h

end Go.Proofs.YtcjljldknekhiaaGreatDoor.Ad
end

section
/-
  What a command's line says, as a session takes it: the program's Parse and the document's own Verb say the same.
-/
namespace Go.Proofs.YtcjljldknekhiaaGreatDoor.Ln
open Go.RowKit
set_option linter.unusedVariables false
set_option linter.unusedSimpArgs false

def V9 (l : ByteArray) : VC := ⟨Ad.bs (Ad.verbM l.data.toList).name, Ad.bs (Ad.verbM l.data.toList).arg, (Ad.verbM l.data.toList).size, (Ad.verbM l.data.toList).code⟩
theorem out_codes (k : Ad.Kind) (r : List UInt8) (b : Bool) : (Ad.outM k r b).code = 0 ∨ (Ad.outM k r b).code = 501 ∨ (Ad.outM k r b).code = 555 := by
  cases k with
  | hello => simp only [Ad.outM, Ad.helloM]; split <;> simp [Ad.bad]
  | mail =>
    have := Ad.sizeGo_code (Ad.cuts 32 (Ad.bhd 32 r)) (-1) 0 (.inl rfl)
    simp only [Ad.outM, Ad.mailM]
    split
    · split
      · split
        · simp
        · exact this
      · simp
    · simp [Ad.bad]
  | rcpt => simp only [Ad.outM, Ad.rcptM]; (split <;> (try split)) <;> simp [Ad.bad]
  | alone => simp only [Ad.outM, Ad.aloneM]; split <;> simp [Ad.bad]
  | noop => simp [Ad.outM, Ad.noopM]
  | vrfy => simp only [Ad.outM, Ad.vrfyM]; split <;> simp [Ad.bad]
theorem verbN_codes (n r : List UInt8) (b : Bool) : (Ad.verbN n r b).code = 0 ∨ (Ad.verbN n r b).code = 500 ∨ (Ad.verbN n r b).code = 501 ∨ (Ad.verbN n r b).code = 555 := by
  cases hk : Ad.kind n with
  | none => rw [Ad.verbN_other hk]; exact .inr (.inl rfl)
  | some k =>
    have e : Ad.verbN n r b = Ad.cmdOf n (Ad.outM k r b) := by unfold Ad.verbN; rw [hk]
    rw [e, Ad.cmdOf_code]
    rcases out_codes k r b with h | h | h
    · exact .inl h
    · exact .inr (.inr (.inl h))
    · exact .inr (.inr (.inr h))
theorem V9_codes (l : ByteArray) : (V9 l).code = 0 ∨ (V9 l).code = 500 ∨ (V9 l).code = 501 ∨ (V9 l).code = 555 := verbN_codes _ _ _
/-- One of the nine. -/
def Nine (n : ByteArray) : Prop := n = nHELO ∨ n = nEHLO ∨ n = nRSET ∨ n = nNOOP ∨ n = nVRFY ∨ n = nQUIT ∨ n = nMAIL ∨ n = nRCPT ∨ n = nDATA
theorem V9_nine (l : ByteArray) (h : (V9 l).code = 0) : Nine (V9 l).name := by
  show Nine (Ad.bs (Ad.verbN _ _ _).name)
  have h : (Ad.verbN (Ad.great (Ad.ahd 32 l.data.toList)) (Ad.bhd 32 l.data.toList) (l.data.toList.contains 32)).code = 0 := h
  generalize Ad.great (Ad.ahd 32 l.data.toList) = n at h ⊢
  cases hk : Ad.kind n with
  | none => rw [Ad.verbN_other hk] at h; cases h
  | some k =>
    have e : Ad.verbN n (Ad.bhd 32 l.data.toList) (l.data.toList.contains 32) = Ad.cmdOf n (Ad.outM k (Ad.bhd 32 l.data.toList) (l.data.toList.contains 32)) := by unfold Ad.verbN; rw [hk]
    rw [e, Ad.cmdOf_code] at h
    rw [e, Ad.cmdOf, if_pos h]
    show Nine (Ad.bs n)
    unfold Ad.kind at hk
    split at hk; · rename_i e; subst e; exact .inl rfl
    split at hk; · rename_i e; subst e; exact .inr (.inl rfl)
    split at hk; · rename_i e; subst e; exact .inr (.inr (.inr (.inr (.inr (.inr (.inl rfl))))))
    split at hk; · rename_i e; subst e; exact .inr (.inr (.inr (.inr (.inr (.inr (.inr (.inl rfl)))))))
    split at hk; · rename_i e; subst e; exact .inr (.inr (.inr (.inr (.inr (.inr (.inr (.inr rfl)))))))
    split at hk; · rename_i e; subst e; exact .inr (.inr (.inl rfl))
    split at hk; · rename_i e; subst e; exact .inr (.inr (.inr (.inr (.inr (.inl rfl)))))
    split at hk; · rename_i e; subst e; exact .inr (.inr (.inr (.inl rfl)))
    split at hk; · rename_i e; subst e; exact .inr (.inr (.inr (.inr (.inl rfl))))
    cases hk
theorem V9_cmd (l : ByteArray) : Ad.cmdV (Ad.verbM l.data.toList) = .tuple #[.agg #[.string (V9 l).name, .string (V9 l).arg, .int .i64 (V9 l).size], .int .i64 (V9 l).code] := rfl
theorem parseC (l : ByteArray) (hl : l.size < 4294967281) (w : World) (hE : Env w) :
    Calls Tryz.prog 88 #[.string l] w fun e w' => e = .returned (.tuple #[.agg #[.string (V9 l).name, .string (V9 l).arg, .int .i64 (V9 l).size], .int .i64 (V9 l).code]) ∧ Keep (fun _ => False) w w' := by
  obtain ⟨⟨m, hm⟩, _⟩ := hE
  refine (Ad.vparse_walk l hl m w hm).mono ?_
  rintro e w' ⟨rfl, hb⟩
  exact ⟨by rw [V9_cmd], Keep.of_below hb⟩
end Go.Proofs.YtcjljldknekhiaaGreatDoor.Ln
end
