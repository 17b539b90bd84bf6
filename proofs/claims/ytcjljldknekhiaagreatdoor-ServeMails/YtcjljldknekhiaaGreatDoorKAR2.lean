/-
  The document's Verb: what stands ahead of the first blank, and behind it; names that are none.
-/
import Derived.Test.YtcjljldknekhiaaGreatDoorKAR1
namespace Go.Proofs.YtcjljldknekhiaaGreatDoor.Ad
open Go.RowKit
set_option linter.unusedVariables false
set_option linter.unusedSimpArgs false

theorem ahd_found {l : List UInt8} {k : Nat} (h : k < l.length) (e : l[k] = 32) (hn : (32 : UInt8) ∉ l.take k) : ahd 32 l = l.take k ∧ bhd 32 l = l.drop (k + 1) ∧ l.contains 32 = true := by
  have hl : l = l.take k ++ 32 :: l.drop (k + 1) := by
    rw [← e, ← List.drop_eq_getElem_cons h, List.take_append_drop]
  obtain ⟨e1, e2, e3⟩ := ahd_at 32 (l.drop (k + 1)) hn
  rw [← hl] at e1 e2 e3
  exact ⟨e1, e2, e3⟩
theorem no_more {l : List UInt8} {k : Nat} (h : k < l.length) (ht : (32 : UInt8) ∉ l.take k) (e : l[k] ≠ 32) : (32 : UInt8) ∉ l.take (k + 1) := by
  rw [List.take_add_one, List.getElem?_eq_getElem h]
  simp only [List.mem_append, Option.toList_some, List.mem_singleton, not_or]
  exact ⟨ht, fun e2 => e e2.symm⟩
theorem byte_32 {c : UInt8} (h : (c.toNat : Int) = 32) : c = 32 := byte_eq (n := 32) (by decide) h
theorem byte_not {c : UInt8} (h : ¬ ((c.toNat : Int) = 32)) : c ≠ 32 := by
  rintro rfl
  exact h rfl

theorem rows_new (w : World) : Row3 ((w.alloc (.cells #[.string { data := #[] }, .string { data := #[] }, .int .i64 0] 58)).alloc (.cells #[.string { data := #[] }, .string { data := #[] }, .int .i64 0] 58)) w.heap.size { data := #[] } { data := #[] } 0 ∧ Row3 ((w.alloc (.cells #[.string { data := #[] }, .string { data := #[] }, .int .i64 0] 58)).alloc (.cells #[.string { data := #[] }, .string { data := #[] }, .int .i64 0] 58)) (w.heap.size + 1) { data := #[] } { data := #[] } 0 ∧ Below w.heap.size w ((w.alloc (.cells #[.string { data := #[] }, .string { data := #[] }, .int .i64 0] 58)).alloc (.cells #[.string { data := #[] }, .string { data := #[] }, .int .i64 0] 58)) :=
  ⟨heap_alloc2_old _ _ _, heap_alloc2_new _ _ _, ((Below.refl w.heap.size w).alloc (Nat.le_refl _) _).alloc (by show w.heap.size ≤ (w.heap.push _).size; simp) _⟩
theorem step_load {ops : Array Oper} {rest : List Oper} {o : Oper} {a : Act} {w : World} {Q : Exit → Act → World → Prop} (hgd : o.guard = none) (x : Operand) (ho : o.op = .load 58 x)
    (g : Nat) (A B : ByteArray) (n : Int) (hx : a.eval x = .pointer (some ⟨g, 0, none⟩)) (hg : Row3 w g A B n)
    (h : wpList Tryz.prog ops Q rest (a.put o.dst (.agg #[.string A, .string B, .int .i64 n])) w) : wpList Tryz.prog ops Q (o :: rest) a w :=
  wpList_load_row hgd 58 x ho g hx 58 (cells3 A B n) (0, 0) _ hg Tryz.underlying58 rfl info24 h
theorem Row3.frozen {w : World} {g : Nat} {a b : ByteArray} {n : Int} (h : Row3 w g a b n) (j : Nat) : w.frozen? ⟨g, j, none⟩ = false := frozen_of_row w g j _ 58 h
theorem Row3.arg {w : World} {g : Nat} {a b : ByteArray} {n : Int} (h : Row3 w g a b n) (b' : ByteArray) : Row3 (w.setCell ⟨g, 1, none⟩ (.string b')) g a b' n := heap_setCell_same w g 1 _ 58 _ h
theorem Row3.siz {w : World} {g : Nat} {a b : ByteArray} {n : Int} (h : Row3 w g a b n) (n' : Int) : Row3 (w.setCell ⟨g, 2, none⟩ (.int .i64 n')) g a b n' := heap_setCell_same w g 2 _ 58 _ h
theorem Row3.other {w : World} {g : Nat} {a b : ByteArray} {n : Int} (h : Row3 w g a b n) (p : Addr) (hp : g ≠ p.block) (v : Value) : Row3 (w.setCell p v) g a b n := (heap_setCell_other w p g v hp).trans h
theorem Row3.row {w : World} {g : Nat} {a b : ByteArray} {n : Int} (h : Row3 w g a b n) {g' : Nat} (hp : g ≠ g') (cs : Array Value) : Row3 (w.setRow g' cs) g a b n := (setRow_other w g' g cs hp).trans h

theorem kind_no {n a : List UInt8} (h : kind n = none) (ha : kind a ≠ none) : n ≠ a := by
  rintro rfl
  exact ha h

set_option maxHeartbeats 4000000 in
set_option maxRecDepth 100000 in
theorem refVerb_none (s : ByteArray) (hs : s.size ≤ 100000) (w : World) (hk : kind (great (ahd 32 s.data.toList)) = none) : Calls Tryz.prog 25 #[.string s] w fun e w' => e = .returned (.tuple #[.agg (cells3 { data := #[] } { data := #[] } 0), .int .i64 500]) ∧ Below w.heap.size w w' := by
  have HK := Lib.hid hk
  clear hk
  have hlen := len_size s
  obtain ⟨r0, r1, b0⟩ := rows_new w
  have R0 := Lib.hid r0
  have R1 := Lib.hid r1
  have B0 := Lib.hid b0
  clear r0 r1 b0
  go_enter Tryz.func25, Tryz.ntmps25
  go_wp2
  go_loopw [5, 6, 7, 8] (fun z5 z6 z7 z8 wr => ∃ k : Nat, k ≤ s.size ∧ z5 = .string s ∧ z6 = .string { data := #[] } ∧ z7 = .bool false ∧ z8 = .int .i64 (k : Int) ∧ RowKit.Hid ((32 : UInt8) ∉ s.data.toList.take k) ∧ RowKit.Hid (Row3 wr w.heap.size { data := #[] } { data := #[] } 0) ∧ RowKit.Hid (Row3 wr (w.heap.size + 1) { data := #[] } { data := #[] } 0) ∧ RowKit.Hid (Below w.heap.size w wr)) (fun _ _ _ z _ => s.size - (Lib.intOf z).toNat)
  case atStart => exact ⟨0, by omega, rfl, rfl, rfl, rfl, Lib.hid (by simp), R0, R1, B0⟩
  case round =>
    obtain ⟨k, hk, rfl, rfl, rfl, rfl, hT, HR0, HR1, HB⟩ := hrel
    clear R0 R1 B0
    by_cases hlt : (k : Int) < (s.size : Int)
    · have hp : k < s.size := by omega
      have hg := get_list s k hp
      by_cases hq : ((s[k]'hp).toNat : Int) = 32
      · obtain ⟨e1, e2, e3⟩ := ahd_found (l := s.data.toList) (k := k) (by omega) (by rw [hg]; exact byte_32 hq) hT.out
        have et := take_bs s k
        have ed := drop_bs s (k + 1)
        rw [← e1] at et
        rw [← e2] at ed
        have hq2 : (((s[k]'hp).toNat : Int) == 32) = true := by rw [hq]; rfl
        have E3 := Lib.hid e3
        have hal := ahd_len 32 s.data.toList
        have hbl := bhd_len 32 s.data.toList
        rw [hlen] at hal hbl
        obtain ⟨Nm, hNm⟩ : ∃ Nm, bs (ahd 32 s.data.toList) = Nm := ⟨_, rfl⟩
        obtain ⟨Rs, hRs⟩ : ∃ Rs, bs (bhd 32 s.data.toList) = Rs := ⟨_, rfl⟩
        rw [hNm] at et
        rw [hRs] at ed
        have hNs : Nm.size ≤ s.size := by rw [← hNm, bs_size]; exact hal
        have hRz : Rs.size ≤ s.size := by rw [← hRs, bs_size]; exact hbl
        have HNM := Lib.hid hNm
        have HRS := Lib.hid hRs
        clear hg e1 e2 e3 hT hNm hRs hal hbl
        go_wp2_with fail
        go_quiet (fail)
        have HB' : RowKit.Hid (Below w.heap.size w (wr.drewN nq)) := Lib.hid (HB.out.trans ⟨rfl, rfl, rfl, Nat.le_refl _, fun _ _ => rfl⟩)
        have HR0' : RowKit.Hid (Row3 (wr.drewN nq) w.heap.size { data := #[] } { data := #[] } 0) := Lib.hid HR0.out
        have HR1' : RowKit.Hid (Row3 (wr.drewN nq) (w.heap.size + 1) { data := #[] } { data := #[] } 0) := Lib.hid HR1.out
        clear HB HR0 HR1
        generalize wr.drewN nq = wq at HB' HR0' HR1' ⊢
        have HB := HB'
        have HR0 := HR0'
        have HR1 := HR1'
        clear et ed hq hq2 HB' HR0' HR1'
        have cG := refGreat_walk Nm (by omega) wq
        obtain ⟨G, hG⟩ : ∃ G, bs (Nm.data.toList.map upper) = G := ⟨_, rfl⟩
        rw [hG] at cG
        have HG : RowKit.Hid (bs (great (ahd 32 s.data.toList)) = G) := Lib.hid (by
          rw [← hG]
          rw [← HNM.out, bs_data]; rfl)
        have CG := Lib.hid cG
        clear cG hG
        have nHelo : (G.toList == [72, 69, 76, 79]) = false := by rw [← HG.out, ByteArray.toList_eq, bs_data, beq_eq_false_iff_ne]; exact kind_no HK.out (by decide)
        have nEhlo : (G.toList == [69, 72, 76, 79]) = false := by rw [← HG.out, ByteArray.toList_eq, bs_data, beq_eq_false_iff_ne]; exact kind_no HK.out (by decide)
        have nData : (G.toList == [68, 65, 84, 65]) = false := by rw [← HG.out, ByteArray.toList_eq, bs_data, beq_eq_false_iff_ne]; exact kind_no HK.out (by decide)
        have nRset : (G.toList == [82, 83, 69, 84]) = false := by rw [← HG.out, ByteArray.toList_eq, bs_data, beq_eq_false_iff_ne]; exact kind_no HK.out (by decide)
        have nQuit : (G.toList == [81, 85, 73, 84]) = false := by rw [← HG.out, ByteArray.toList_eq, bs_data, beq_eq_false_iff_ne]; exact kind_no HK.out (by decide)
        have nNoop : (G.toList == [78, 79, 79, 80]) = false := by rw [← HG.out, ByteArray.toList_eq, bs_data, beq_eq_false_iff_ne]; exact kind_no HK.out (by decide)
        have nVrfy : (G.toList == [86, 82, 70, 89]) = false := by rw [← HG.out, ByteArray.toList_eq, bs_data, beq_eq_false_iff_ne]; exact kind_no HK.out (by decide)
        have nMail : (G.toList == [77, 65, 73, 76]) = false := by rw [← HG.out, ByteArray.toList_eq, bs_data, beq_eq_false_iff_ne]; exact kind_no HK.out (by decide)
        have nRcpt : (G.toList == [82, 67, 80, 84]) = false := by rw [← HG.out, ByteArray.toList_eq, bs_data, beq_eq_false_iff_ne]; exact kind_no HK.out (by decide)
        go_wp2_with fail
        refine CG.out.mono ?_
        rintro e w1 ⟨rfl, hb1⟩
        have HB1 := Lib.hid (HB.out.trans (hb1.mono HB.out.size))
        have S0 := Lib.hid (HR0.out.keep HR0.out.lt hb1)
        have S1 := Lib.hid (HR1.out.keep HR1.out.lt hb1)
        have hb2 := (Below.refl w1.heap.size w1).alloc (Nat.le_refl _) (.cells #[.string G, .string { data := #[] }, .int .i64 (-1)] 58)
        have T0 := Lib.hid (S0.out.keep S0.out.lt hb2)
        have T1 := Lib.hid (S1.out.keep S1.out.lt hb2)
        have HB2 := Lib.hid (HB1.out.trans (hb2.mono HB1.out.size))
        clear hb1 hb2 CG
        go_wp2_with (first | (refine step_load (by rfl) (.tmp 4) (by rfl) (w.heap.size + 1) _ _ _ (by rfl) T1.out ?_) | (refine step_row (by rfl) (.tmp 2) (.tmp 42) (by rfl) w.heap.size { data := #[] } { data := #[] } 0 (by rfl) (by rfl) _ _ _ T0.out ?_))
        (try simp only [Exit.inBlock, Exit.then])
        refine bodyPost_ret (ret_row (fn := Tryz.f25) (p := 2) (u := 3) rfl _ _ w.heap.size { data := #[] } { data := #[] } 0 rfl (T0.out.set _ _ _)) rfl ?_
        exact ⟨rfl, below_setRow HB2.out (Nat.le_refl _) _⟩
      · have hT2 := Lib.hid (no_more (l := s.data.toList) (k := k) (by omega) hT.out (by rw [hg]; exact byte_not hq))
        have hq2 : (((s[k]'hp).toNat : Int) == 32) = false := by rw [beq_eq_false_iff_ne]; exact hq
        clear hg
        go_wp2
        go_roundw
        case rel => exact ⟨k + 1, by omega, rfl, rfl, rfl, by simp, hT2, HR0, HR1, HB⟩
        case measure =>
          simp [Lib.intOf]
          omega
    · have hno : (32 : UInt8) ∉ s.data.toList := by
        have := hT.out
        rw [List.take_of_length_le (by omega)] at this
        exact this
      obtain ⟨e1, e2, e3⟩ := ahd_miss 32 hno
      have HNM : RowKit.Hid (bs (ahd 32 s.data.toList) = s) := Lib.hid (by rw [e1, bs_of])
      have HRS : RowKit.Hid (bs (bhd 32 s.data.toList) = { data := #[] }) := Lib.hid (by rw [e2]; rfl)
      have E3 := Lib.hid e3
      have hRz : ({ data := #[] } : ByteArray).size ≤ s.size := Nat.zero_le _
      clear hno e1 e2 e3 hT
      have cG := refGreat_walk s (by omega) wr
      obtain ⟨G, hG⟩ : ∃ G, bs (s.data.toList.map upper) = G := ⟨_, rfl⟩
      rw [hG] at cG
      have HG : RowKit.Hid (bs (great (ahd 32 s.data.toList)) = G) := Lib.hid (by
        rw [← hG]
        have h := congrArg (fun x : ByteArray => x.data.toList) HNM.out; simp only [bs_data] at h; rw [h]; rfl)
      have CG := Lib.hid cG
      clear cG hG
      have nHelo : (G.toList == [72, 69, 76, 79]) = false := by rw [← HG.out, ByteArray.toList_eq, bs_data, beq_eq_false_iff_ne]; exact kind_no HK.out (by decide)
      have nEhlo : (G.toList == [69, 72, 76, 79]) = false := by rw [← HG.out, ByteArray.toList_eq, bs_data, beq_eq_false_iff_ne]; exact kind_no HK.out (by decide)
      have nData : (G.toList == [68, 65, 84, 65]) = false := by rw [← HG.out, ByteArray.toList_eq, bs_data, beq_eq_false_iff_ne]; exact kind_no HK.out (by decide)
      have nRset : (G.toList == [82, 83, 69, 84]) = false := by rw [← HG.out, ByteArray.toList_eq, bs_data, beq_eq_false_iff_ne]; exact kind_no HK.out (by decide)
      have nQuit : (G.toList == [81, 85, 73, 84]) = false := by rw [← HG.out, ByteArray.toList_eq, bs_data, beq_eq_false_iff_ne]; exact kind_no HK.out (by decide)
      have nNoop : (G.toList == [78, 79, 79, 80]) = false := by rw [← HG.out, ByteArray.toList_eq, bs_data, beq_eq_false_iff_ne]; exact kind_no HK.out (by decide)
      have nVrfy : (G.toList == [86, 82, 70, 89]) = false := by rw [← HG.out, ByteArray.toList_eq, bs_data, beq_eq_false_iff_ne]; exact kind_no HK.out (by decide)
      have nMail : (G.toList == [77, 65, 73, 76]) = false := by rw [← HG.out, ByteArray.toList_eq, bs_data, beq_eq_false_iff_ne]; exact kind_no HK.out (by decide)
      have nRcpt : (G.toList == [82, 67, 80, 84]) = false := by rw [← HG.out, ByteArray.toList_eq, bs_data, beq_eq_false_iff_ne]; exact kind_no HK.out (by decide)
      go_wp2_with fail
      refine CG.out.mono ?_
      rintro e w1 ⟨rfl, hb1⟩
      have HB1 := Lib.hid (HB.out.trans (hb1.mono HB.out.size))
      have S0 := Lib.hid (HR0.out.keep HR0.out.lt hb1)
      have S1 := Lib.hid (HR1.out.keep HR1.out.lt hb1)
      have hb2 := (Below.refl w1.heap.size w1).alloc (Nat.le_refl _) (.cells #[.string G, .string { data := #[] }, .int .i64 (-1)] 58)
      have T0 := Lib.hid (S0.out.keep S0.out.lt hb2)
      have T1 := Lib.hid (S1.out.keep S1.out.lt hb2)
      have HB2 := Lib.hid (HB1.out.trans (hb2.mono HB1.out.size))
      clear hb1 hb2 CG
      go_wp2_with (first | (refine step_load (by rfl) (.tmp 4) (by rfl) (w.heap.size + 1) _ _ _ (by rfl) T1.out ?_) | (refine step_row (by rfl) (.tmp 2) (.tmp 42) (by rfl) w.heap.size { data := #[] } { data := #[] } 0 (by rfl) (by rfl) _ _ _ T0.out ?_))
      (try simp only [Exit.inBlock, Exit.then])
      refine bodyPost_ret (ret_row (fn := Tryz.f25) (p := 2) (u := 3) rfl _ _ w.heap.size { data := #[] } { data := #[] } 0 rfl (T0.out.set _ _ _)) rfl ?_
      exact ⟨rfl, below_setRow HB2.out (Nat.le_refl _) _⟩
end Go.Proofs.YtcjljldknekhiaaGreatDoor.Ad
