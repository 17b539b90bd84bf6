/-
  The program's Split, Parse and Path.
-/
import Derived.Test.YtpdopjpibmhamaaDoorAProg1
namespace Go.Proofs.YtpdopjpibmhamaaDoor.Ad
open Go.RowKit
set_option linter.unusedVariables false
set_option linter.unusedSimpArgs false

def bs (l : List UInt8) : ByteArray := ⟨l.toArray⟩
theorem bs_data (l : List UInt8) : (bs l).data.toList = l := rfl
theorem bs_size (l : List UInt8) : (bs l).size = l.length := rfl
theorem bs_of (s : ByteArray) : bs s.data.toList = s := rfl
theorem bs_append (a b : List UInt8) : bs a ++ bs b = bs (a ++ b) := by
  apply ByteArray.ext
  rw [ByteArray.data_append]
  simp [bs]
theorem cell_below {w w' : World} {m : Int} (hm : w.cell? ⟨0, 0, none⟩ = some (.int .i64 m)) (hb : Below w.heap.size w w') : w'.cell? ⟨0, 0, none⟩ = some (.int .i64 m) := by
  rw [hb.cell (p := ⟨0, 0, none⟩) ?_, hm]
  rcases Nat.lt_or_ge 0 w.heap.size with h | h
  · exact h
  · have : w.heap[0]? = none := Array.getElem?_eq_none h
    simp [World.cell?, this] at hm

set_option maxHeartbeats 4000000 in
set_option maxRecDepth 100000 in
theorem clone_walk (s : ByteArray) (hs : s.size ≤ 1000) (w : World) : Calls Tryd.prog 45 #[.string s] w fun e w' => e = .returned (.string s) ∧ Below w.heap.size w w' := by
  go_enter Tryd.func45, Tryd.ntmps45
  go_wp2_with (go_at_call 56; refine (stringslite_Clone s _ (by omega)).mono ?_; rintro e w' ⟨rfl, hb⟩)
  go_ret
  exact ⟨rfl, hb⟩

/-- What Split answers. -/
def splitV (l : List UInt8) : Value := .tuple #[.string (bs (splitM l).1), .string (bs (splitM l).2), .bool (isBox l)]
theorem splitV_none {l : List UInt8} (h : isBox l = false) : splitV l = .tuple #[.string { data := #[] }, .string { data := #[] }, .bool false] := by
  rw [splitV, splitM, h]
  rfl

set_option maxHeartbeats 800000 in
set_option maxRecDepth 100000 in
theorem split_walk (s : ByteArray) (m : Int) (w : World) (hm : w.cell? ⟨0, 0, none⟩ = some (.int .i64 m)) : Calls Tryd.prog 38 #[.string s] w fun e w' => e = .returned (splitV s.data.toList) ∧ Below w.heap.size w w' := by
  by_cases h : (64 : Int) < (s.size : Int)
  · rw [splitV_none (by rw [isBox, len_size, decide_eq_false (by omega), Bool.false_and])]
    go_enter Tryd.func38, Tryd.ntmps38
    go_wp2
    go_ret3
    exact ⟨rfl, Below.refl _ _⟩
  · have hlen := len_size s
    rcases indexByte_cases 64 s.data.toList with ⟨h1, h2⟩ | ⟨i, h1, h2, h3, h4⟩
    · rw [splitV_none (ahead_miss h2)]
      have c1 : ∀ W, W.cell? ⟨0, 0, none⟩ = some (.int .i64 m) → Calls Tryd.prog 42 #[.string s, .string { data := #[64] }] W fun e w' => e = .returned (.tuple #[.string s, .string { data := #[] }, .bool false]) ∧ Below W.heap.size W w' := fun W hW => by
        have hc : Lib.cut s.data.toList [64] = (s.data.toList, [], false) := by
          rw [Lib.cut, Lib.index_one, h1]
          rfl
        refine (strings_Cut s { data := #[64] } m W (by omega) hW).mono ?_
        rintro e w' ⟨rfl, n, rfl⟩
        refine ⟨?_, ?_⟩
        · rw [show Lib.cut s.data.toList ({ data := #[64] } : ByteArray).data.toList = _ from hc]
        · exact ⟨rfl, rfl, rfl, Nat.le_refl _, fun _ _ => rfl⟩
      go_enter Tryd.func38, Tryd.ntmps38
      go_wp2_with (go_at_call 42; refine (c1 _ hm).mono ?_; rintro e w1 ⟨rfl, hb1⟩)
      go_ret3
      exact ⟨rfl, hb1⟩
    · have hbox := isBox_hit h2 h3 h4
      obtain ⟨e1, e2, e3⟩ := ahead_hit h2 h3 h4
      rw [decide_eq_true (show s.data.toList.length ≤ 64 by omega), Bool.true_and] at hbox
      obtain ⟨la, hla⟩ : ∃ la, la = s.data.toList.take i := ⟨_, rfl⟩
      obtain ⟨lb, hlb⟩ : ∃ lb, lb = s.data.toList.drop (i + 1) := ⟨_, rfl⟩
      have hsa : la.length ≤ 64 := by rw [hla, List.length_take]; omega
      have hsb : lb.length ≤ 64 := by rw [hlb, List.length_drop]; omega
      have c1 : ∀ W, W.cell? ⟨0, 0, none⟩ = some (.int .i64 m) → Calls Tryd.prog 42 #[.string s, .string { data := #[64] }] W fun e w' => e = .returned (.tuple #[.string (bs la), .string (bs lb), .bool true]) ∧ Below W.heap.size W w' := fun W hW => by
        have hc : Lib.cut s.data.toList [64] = (la, lb, true) := by
          rw [Lib.cut, Lib.index_one, h1, if_pos (by omega), hla, hlb]
          rfl
        refine (strings_Cut s { data := #[64] } m W (by omega) hW).mono ?_
        rintro e w' ⟨rfl, n, rfl⟩
        refine ⟨?_, ?_⟩
        · rw [show Lib.cut s.data.toList ({ data := #[64] } : ByteArray).data.toList = _ from hc]
          rfl
        · exact ⟨rfl, rfl, rfl, Nat.le_refl _, fun _ _ => rfl⟩
      rw [← hla, ← hlb] at hbox
      rw [← hla] at e1
      rw [← hlb] at e2
      have c2 : ∀ W, W.cell? ⟨0, 0, none⟩ = some (.int .i64 m) → Calls Tryd.prog 43 #[.string (bs la)] W fun e w' => e = .returned (.bool (loc la)) ∧ Below W.heap.size W w' := fun W hW => by
        have c := isLocal_walk (bs la) (by rw [bs_size]; omega) m W hW
        rw [bs_data] at c
        exact c
      have c3 : ∀ W, W.cell? ⟨0, 0, none⟩ = some (.int .i64 m) → Calls Tryd.prog 44 #[.string (bs lb)] W fun e w' => e = .returned (.bool (domain lb)) ∧ Below W.heap.size W w' := fun W hW => by
        have c := domain_walk (bs lb) m W hW
        rw [bs_data] at c
        exact c
      cases hl : loc la with
      | false =>
        rw [splitV_none (by rw [hbox, hl, Bool.false_and])]
        clear hla hlb e1 e2 e3 hbox h1 h2 h3 h4
        go_enter Tryd.func38, Tryd.ntmps38
        go_wp2_with fail
        refine (c1 _ hm).mono ?_
        rintro e w1 ⟨rfl, hb1⟩
        have hm1 := cell_below hm hb1
        go_wp2_with fail
        refine (c2 _ hm1).mono ?_
        rintro e w2 ⟨rfl, hb2⟩
        have hm2 := cell_below hm1 hb2
        rw [hl]
        go_wp2
        go_ret3
        exact ⟨rfl, hb1.trans (hb2.mono hb1.size)⟩
      | true =>
        cases hd : domain lb with
        | false =>
          rw [splitV_none (by rw [hbox, hl, hd]; rfl)]
          clear hla hlb e1 e2 e3 hbox h1 h2 h3 h4
          go_enter Tryd.func38, Tryd.ntmps38
          go_wp2_with fail
          refine (c1 _ hm).mono ?_
          rintro e w1 ⟨rfl, hb1⟩
          have hm1 := cell_below hm hb1
          go_wp2_with fail
          refine (c2 _ hm1).mono ?_
          rintro e w2 ⟨rfl, hb2⟩
          have hm2 := cell_below hm1 hb2
          rw [hl]
          go_wp2_with fail
          refine (c3 _ hm2).mono ?_
          rintro e w3 ⟨rfl, hb3⟩
          rw [hd]
          go_wp2
          go_ret3
          have hb := hb1.trans (hb2.mono hb1.size)
          exact ⟨rfl, hb.trans (hb3.mono hb.size)⟩
        | true =>
          have hsp : splitV s.data.toList = .tuple #[.string (bs la), .string (bs (small lb)), .bool true] := by
            rw [splitV, splitM, hbox, hl, hd, e1, e2]
            rfl
          rw [hsp]
          have hlow := domain_low hd
          have c4 : ∀ W, Calls Tryd.prog 46 #[.string (bs lb)] W fun e w' => e = .returned (.string (bs (small lb))) ∧ Below W.heap.size W w' := fun W => by
            have c := small_walk (bs lb) W (by rw [bs_size]; omega) (fun k hk => hlow _ (by
              have h := Array.getElem_mem_toList (xs := (bs lb).data) (i := k) hk
              rw [bs_data] at h
              exact h))
            rw [bs_data] at c
            exact c
          clear hla hlb e1 e2 e3 hbox h1 h2 h3 h4
          go_enter Tryd.func38, Tryd.ntmps38
          go_wp2_with fail
          refine (c1 _ hm).mono ?_
          rintro e w1 ⟨rfl, hb1⟩
          have hm1 := cell_below hm hb1
          go_wp2_with fail
          refine (c2 _ hm1).mono ?_
          rintro e w2 ⟨rfl, hb2⟩
          have hm2 := cell_below hm1 hb2
          rw [hl]
          go_wp2_with fail
          refine (c3 _ hm2).mono ?_
          rintro e w3 ⟨rfl, hb3⟩
          rw [hd]
          go_wp2_with fail
          refine (clone_walk _ (by rw [bs_size]; omega) _).mono ?_
          rintro e w4 ⟨rfl, hb4⟩
          go_wp2_with fail
          refine (c4 _).mono ?_
          rintro e w5 ⟨rfl, hb5⟩
          go_wp2
          go_ret3
          have hb := hb1.trans (hb2.mono hb1.size)
          have hb' := hb.trans (hb3.mono hb.size)
          have hb'' := hb'.trans (hb4.mono hb'.size)
          exact ⟨rfl, hb''.trans (hb5.mono hb''.size)⟩

/-! ### Parse, Path -/
def parseV (l : List UInt8) : Value := .tuple #[.string (bs (parseM l)), .bool (isBox l)]
theorem parseV_none {l : List UInt8} (h : isBox l = false) : parseV l = .tuple #[.string { data := #[] }, .bool false] := by
  rw [parseV, parseM, h]
  rfl
theorem parseV_some {l : List UInt8} (h : isBox l = true) : parseV l = .tuple #[.string (bs (splitM l).1 ++ { data := #[64] } ++ bs (splitM l).2), .bool true] := by
  rw [parseV, parseM, splitM, h, show ({ data := #[64] } : ByteArray) = bs [64] from rfl, bs_append, bs_append]
  simp
theorem isBox_len {l : List UInt8} (h : isBox l = true) : l.length ≤ 64 := by
  simp only [isBox, Bool.and_eq_true, decide_eq_true_eq] at h
  exact h.1
theorem ahead_len (l : List UInt8) : (ahead l).length ≤ l.length := (List.takeWhile_sublist _).length_le
theorem splitM_len {l : List UInt8} (h : isBox l = true) : (splitM l).1.length ≤ 64 ∧ (splitM l).2.length ≤ 64 := by
  have h1 := isBox_len h
  have h2 := ahead_len l
  rw [splitM, h]
  simp only [if_true, small, List.length_map, behind, List.length_drop]
  omega

set_option maxHeartbeats 4000000 in
set_option maxRecDepth 100000 in
theorem parse_walk (s : ByteArray) (m : Int) (w : World) (hm : w.cell? ⟨0, 0, none⟩ = some (.int .i64 m)) : Calls Tryd.prog 33 #[.string s] w fun e w' => e = .returned (parseV s.data.toList) ∧ Below w.heap.size w w' := by
  have c1 := split_walk s m w hm
  cases hb : isBox s.data.toList with
  | false =>
    rw [splitV_none hb] at c1
    rw [parseV_none hb]
    go_enter Tryd.func33, Tryd.ntmps33
    go_wp2_with (go_at_call 38; refine c1.mono ?_; rintro e w1 ⟨rfl, hb1⟩)
    go_ret2
    exact ⟨rfl, hb1⟩
  | true =>
    have hl := splitM_len hb
    rw [splitV, hb] at c1
    rw [parseV_some hb]
    obtain ⟨a, ha⟩ : ∃ a, a = bs (splitM s.data.toList).1 := ⟨_, rfl⟩
    obtain ⟨b, hb'⟩ : ∃ b, b = bs (splitM s.data.toList).2 := ⟨_, rfl⟩
    have la : a.size ≤ 64 := by rw [ha, bs_size]; exact hl.1
    have lb : b.size ≤ 64 := by rw [hb', bs_size]; exact hl.2
    rw [← ha, ← hb'] at c1 ⊢
    clear ha hb' hl
    go_enter Tryd.func33, Tryd.ntmps33
    go_wp2_with (go_at_call 38; refine c1.mono ?_; rintro e w1 ⟨rfl, hb1⟩)
    go_ret2
    exact ⟨rfl, hb1⟩

end Go.Proofs.YtpdopjpibmhamaaDoor.Ad
