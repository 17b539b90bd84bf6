/-
  The program's mail, rcpt.
-/
import Derived.Test.YtcjljldknekhiaaGreatDoorAV4
namespace Go.Proofs.YtcjljldknekhiaaGreatDoor.Ad
open Go.RowKit
set_option linter.unusedVariables false
set_option linter.unusedSimpArgs false

theorem pathsV_bad {key l : List UInt8} (h : pathOk key l = false) : ∃ A B : ByteArray, ∃ C, pathsV key l = .tuple #[.string A, .string B, .bool C, .bool false] := by
  rw [pathsV]
  cases hq : keyed key (ahd 32 l) with
  | false => exact ⟨_, _, _, rfl⟩
  | true =>
    rw [pathOk, hq, Bool.true_and] at h
    rw [h]
    exact ⟨_, _, _, rfl⟩
theorem pathsV_good {key l : List UInt8} (h : pathOk key l = true) : pathsV key l = .tuple #[.string (bs (pathM (wordM key l))), .string (bs (bhd 32 l)), .bool (l.contains 32), .bool true] := by
  rw [pathOk, Bool.and_eq_true] at h
  rw [pathsV, h.1, h.2]
  rfl

set_option maxHeartbeats 4000000 in
set_option maxRecDepth 100000 in
theorem mail_walk (s : ByteArray) (hs : s.size < 4294967281) (b : Bool) (m : Int) (w : World) (hm : w.cell? ⟨2, 0, none⟩ = some (.int .i64 m)) : Calls Tryz.prog 140 #[.string s, .bool b] w fun e w' => e = .returned (outV (mailM s.data.toList)) ∧ Below w.heap.size w w' := by
  have c1 := paths_walk s { data := #[70, 82, 79, 77, 58] } hs (by decide) m w hm
  rw [show ({ data := #[70, 82, 79, 77, 58] } : ByteArray).data.toList = kFrom from rfl] at c1
  rw [mailM]
  cases hp : pathOk kFrom s.data.toList with
  | false =>
    obtain ⟨A, B, C, e⟩ := pathsV_bad hp
    rw [e] at c1
    clear e
    show Calls _ _ _ _ (fun e w' => e = .returned (.tuple #[.string { data := #[] }, .int .i64 0, .int .i64 501]) ∧ _)
    go_enter Tryz.func140, Tryz.ntmps140
    go_wp2_with fail
    refine c1.mono ?_
    rintro e w1 ⟨rfl, hb1⟩
    go_wp2
    go_ret3
    exact ⟨rfl, hb1⟩
  | true =>
    rw [pathsV_good hp] at c1
    rw [if_pos rfl]
    cases hc : s.data.toList.contains 32 with
    | false =>
      rw [hc] at c1
      show Calls _ _ _ _ (fun e w' => e = .returned (.tuple #[.string (bs (pathM (wordM kFrom s.data.toList))), .int .i64 (-1), .int .i64 0]) ∧ _)
      generalize bs (pathM (wordM kFrom s.data.toList)) = X at c1 ⊢
      generalize bs (bhd 32 s.data.toList) = Y at c1
      go_enter Tryz.func140, Tryz.ntmps140
      go_wp2_with fail
      refine c1.mono ?_
      rintro e w1 ⟨rfl, hb1⟩
      go_wp2
      go_ret3
      exact ⟨rfl, hb1⟩
    | true =>
      rw [hc] at c1
      rw [if_pos rfl]
      have hbl := bhd_len 32 s.data.toList
      rw [len_size] at hbl
      have c2 := fun W h => sizeOf_walk (bs (bhd 32 s.data.toList)) (by rw [bs_size]; omega) m W h
      rw [bs_data] at c2
      unfold sizeV at c2
      by_cases hz : (sizeM (bhd 32 s.data.toList)).2 = 0
      · rw [if_pos hz]
        rw [hz] at c2
        show Calls _ _ _ _ (fun e w' => e = .returned (.tuple #[.string (bs (pathM (wordM kFrom s.data.toList))), .int .i64 (sizeM (bhd 32 s.data.toList)).1, .int .i64 0]) ∧ _)
        generalize bs (pathM (wordM kFrom s.data.toList)) = X at c1 ⊢
        generalize (sizeM (bhd 32 s.data.toList)).1 = Z at c2 ⊢
        generalize bs (bhd 32 s.data.toList) = Y at c1 c2
        clear hz
        go_enter Tryz.func140, Tryz.ntmps140
        go_wp2_with fail
        refine c1.mono ?_
        rintro e w1 ⟨rfl, hb1⟩
        have hm1 := cell_below hm hb1
        go_wp2_with fail
        refine (c2 _ hm1).mono ?_
        rintro e w2 ⟨rfl, hb2⟩
        go_wp2
        go_ret3
        exact ⟨rfl, hb1.trans (hb2.mono hb1.size)⟩
      · rw [if_neg hz]
        show Calls _ _ _ _ (fun e w' => e = .returned (.tuple #[.string { data := #[] }, .int .i64 0, .int .i64 (sizeM (bhd 32 s.data.toList)).2]) ∧ _)
        generalize bs (pathM (wordM kFrom s.data.toList)) = X at c1 ⊢
        generalize (sizeM (bhd 32 s.data.toList)).1 = Z at c2
        generalize (sizeM (bhd 32 s.data.toList)).2 = C at c2 hz ⊢
        generalize bs (bhd 32 s.data.toList) = Y at c1 c2
        have hz2 : (C != 0) = true := by rw [bne_iff_ne]; exact hz
        go_enter Tryz.func140, Tryz.ntmps140
        go_wp2_with fail
        refine c1.mono ?_
        rintro e w1 ⟨rfl, hb1⟩
        have hm1 := cell_below hm hb1
        go_wp2_with fail
        refine (c2 _ hm1).mono ?_
        rintro e w2 ⟨rfl, hb2⟩
        go_wp2
        go_ret3
        exact ⟨rfl, hb1.trans (hb2.mono hb1.size)⟩

set_option maxHeartbeats 4000000 in
set_option maxRecDepth 100000 in
theorem rcpt_walk (s : ByteArray) (hs : s.size < 4294967281) (b : Bool) (m : Int) (w : World) (hm : w.cell? ⟨2, 0, none⟩ = some (.int .i64 m)) : Calls Tryz.prog 141 #[.string s, .bool b] w fun e w' => e = .returned (outV (rcptM s.data.toList)) ∧ Below w.heap.size w w' := by
  have c1 := paths_walk s { data := #[84, 79, 58] } hs (by decide) m w hm
  rw [show ({ data := #[84, 79, 58] } : ByteArray).data.toList = kTo from rfl] at c1
  rw [rcptM]
  cases hp : pathOk kTo s.data.toList with
  | false =>
    obtain ⟨A, B, C, e⟩ := pathsV_bad hp
    rw [e] at c1
    clear e
    show Calls _ _ _ _ (fun e w' => e = .returned (.tuple #[.string { data := #[] }, .int .i64 0, .int .i64 501]) ∧ _)
    go_enter Tryz.func141, Tryz.ntmps141
    go_wp2_with fail
    refine c1.mono ?_
    rintro e w1 ⟨rfl, hb1⟩
    go_wp2
    go_ret3
    exact ⟨rfl, hb1⟩
  | true =>
    rw [pathsV_good hp] at c1
    rw [Bool.true_and]
    have he : (pathM (wordM kTo s.data.toList)).isEmpty = ((bs (pathM (wordM kTo s.data.toList))).toList == []) := by
      rw [ByteArray.toList_eq, bs_data]
      cases pathM (wordM kTo s.data.toList) <;> rfl
    rw [he]
    clear he
    cases hc : s.data.toList.contains 32 with
    | false =>
      rw [hc] at c1
      show Calls _ _ _ _ (fun e w' => e = .returned (outV (if (!((bs (pathM (wordM kTo s.data.toList))).toList == [])) = true then ⟨pathM (wordM kTo s.data.toList), -1, 0⟩ else bad 501)) ∧ _)
      cases hE : ((bs (pathM (wordM kTo s.data.toList))).toList == []) with
      | true =>
        show Calls _ _ _ _ (fun e w' => e = .returned (.tuple #[.string { data := #[] }, .int .i64 0, .int .i64 501]) ∧ _)
        generalize bs (pathM (wordM kTo s.data.toList)) = X at c1 hE
        generalize bs (bhd 32 s.data.toList) = Y at c1
        go_enter Tryz.func141, Tryz.ntmps141
        go_wp2_with fail
        refine c1.mono ?_
        rintro e w1 ⟨rfl, hb1⟩
        go_wp2
        go_ret3
        exact ⟨rfl, hb1⟩
      | false =>
        show Calls _ _ _ _ (fun e w' => e = .returned (.tuple #[.string (bs (pathM (wordM kTo s.data.toList))), .int .i64 (-1), .int .i64 0]) ∧ _)
        generalize bs (pathM (wordM kTo s.data.toList)) = X at c1 hE ⊢
        generalize bs (bhd 32 s.data.toList) = Y at c1
        go_enter Tryz.func141, Tryz.ntmps141
        go_wp2_with fail
        refine c1.mono ?_
        rintro e w1 ⟨rfl, hb1⟩
        go_wp2
        go_ret3
        exact ⟨rfl, hb1⟩
    | true =>
      rw [hc] at c1
      show Calls _ _ _ _ (fun e w' => e = .returned (outV (if (!((bs (pathM (wordM kTo s.data.toList))).toList == [])) = true then bad 555 else bad 501)) ∧ _)
      cases hE : ((bs (pathM (wordM kTo s.data.toList))).toList == []) with
      | true =>
        show Calls _ _ _ _ (fun e w' => e = .returned (.tuple #[.string { data := #[] }, .int .i64 0, .int .i64 501]) ∧ _)
        generalize bs (pathM (wordM kTo s.data.toList)) = X at c1 hE
        generalize bs (bhd 32 s.data.toList) = Y at c1
        go_enter Tryz.func141, Tryz.ntmps141
        go_wp2_with fail
        refine c1.mono ?_
        rintro e w1 ⟨rfl, hb1⟩
        go_wp2
        go_ret3
        exact ⟨rfl, hb1⟩
      | false =>
        show Calls _ _ _ _ (fun e w' => e = .returned (.tuple #[.string { data := #[] }, .int .i64 0, .int .i64 555]) ∧ _)
        generalize bs (pathM (wordM kTo s.data.toList)) = X at c1 hE
        generalize bs (bhd 32 s.data.toList) = Y at c1
        go_enter Tryz.func141, Tryz.ntmps141
        go_wp2_with fail
        refine c1.mono ?_
        rintro e w1 ⟨rfl, hb1⟩
        go_wp2
        go_ret3
        exact ⟨rfl, hb1⟩
end Go.Proofs.YtcjljldknekhiaaGreatDoor.Ad
