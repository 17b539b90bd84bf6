/-
  Stage 13: IdsOthers, over what is asked of the program.
-/
import Derived.Test.YtlpeiejohgchmaaDoorI5
import Derived.Deep.Cut
import Derived.Deep.CutBlock
import Derived.Laws.Strings
namespace Go.Proofs.YtlpeiejohgchmaaDoor.Fs
open Go.RowKit Go.Shelf Go.Maps
set_option linter.unusedVariables false
set_option linter.unusedSimpArgs false

/-! ### What the law reads from a name's bytes -/
def kAt (l : Nm) : Int := if l.all isDig = true then (valD l : Int) else -1
theorem valD_snoc (l : Nm) (c : UInt8) : valD (l ++ [c]) = valD l * 10 + (c.toNat - 48) := by simp [valD, List.foldl_append]
theorem kAt_snoc (l : Nm) (c : UInt8) : kAt (l ++ [c]) = if isDig c = true ∧ 0 ≤ kAt l then kAt l * 10 + ((c.toNat : Int) - 48) else -1 := by
  unfold kAt
  rw [List.all_append, valD_snoc]
  simp only [List.all_cons, List.all_nil, Bool.and_true, Bool.and_eq_true]
  by_cases h1 : l.all isDig = true
  · by_cases h2 : isDig c = true
    · have h3 : 48 ≤ c.toNat := by simp only [isDig, Bool.and_eq_true, decide_eq_true_eq] at h2; exact h2.1
      rw [if_pos ⟨h1, h2⟩, if_pos h1, if_pos ⟨h2, by omega⟩]
      omega
    · rw [if_neg (by simp [h2]), if_neg (by simp [h2])]
  · rw [if_neg (by simp [h1]), if_neg h1, if_neg (by simp)]
theorem valD_lt : ∀ (l : Nm) (v : Nat), l.all isDig = true → l.foldl (fun v c => v * 10 + (c.toNat - 48)) v < (v + 1) * 10 ^ l.length
  | [], v, _ => by simp
  | c :: r, v, h => by
    simp only [List.all_cons, Bool.and_eq_true] at h
    have h1 := valD_lt r (v * 10 + (c.toNat - 48)) h.2
    have h2 : c.toNat ≤ 57 := by have := h.1; simp only [isDig, Bool.and_eq_true, decide_eq_true_eq] at this; exact this.2
    simp only [List.foldl_cons, List.length_cons, Nat.pow_succ]
    refine Nat.lt_of_lt_of_le h1 ?_
    have h3 : v * 10 + (c.toNat - 48) + 1 ≤ (v + 1) * 10 := by omega
    calc (v * 10 + (c.toNat - 48) + 1) * 10 ^ r.length ≤ ((v + 1) * 10) * 10 ^ r.length := Nat.mul_le_mul_right _ h3
      _ = (v + 1) * (10 ^ r.length * 10) := by rw [Nat.mul_assoc, Nat.mul_comm 10]
theorem kAt_le {l : Nm} (h : l.length ≤ 9) : -1 ≤ kAt l ∧ kAt l ≤ 999999999 := by
  unfold kAt
  split
  · rename_i hd
    have h1 := valD_lt l 0 hd
    have h2 : 10 ^ l.length ≤ 10 ^ 9 := Nat.pow_le_pow_right (by decide) h
    have h3 : valD l < 1000000000 := by
      refine Nat.lt_of_lt_of_le h1 ?_
      rw [Nat.zero_add, Nat.one_mul]
      exact h2
    omega
  · omega
theorem numN_k {a : Nm} (h1 : a.length = 14) (h2 : a.take 5 = preN) : (((numN a).getD 0 : Nat) : Int) = max 0 (kAt (a.drop 5)) := by
  unfold numN kAt
  by_cases h3 : (a.drop 5).all isDig = true
  · rw [if_pos ⟨h1, h2, h3⟩, if_pos h3]
    simp
  · rw [if_neg (by simp [h3]), if_neg h3]
    rfl
theorem numN_other {a : Nm} (h : ¬ (a.length = 14 ∧ a.take 5 = preN)) : numN a = none := by
  unfold numN
  rw [if_neg fun e => h ⟨e.1, e.2.1⟩]

/-! ### The disk while names come -/
structure OthI (c m : Nat) (s : St) : Prop where
  up : s.down = false
  fuse : s.fuse = none
  most : mostD s.now = m
  now : s.now.length ≤ c
  files : s.files.length ≤ c
  sure : s.sure = []
  loose : s.loose.length ≤ c
  short : ShortD s.now
theorem oth_new (n : Int) : OthI 0 0 (newS n) := ⟨rfl, rfl, rfl, Nat.le_refl _, Nat.le_refl _, rfl, Nat.le_refl _, short_new n⟩
theorem OthI.bulk {c m : Nat} {s : St} (h : OthI c m s) : s.bulk ≤ 2 * c := by
  have h1 := h.files
  have h2 := h.loose
  unfold St.bulk
  rw [h.sure]
  simp only [List.length_nil]
  omega
theorem OthI.no {c m : Nat} {s : St} {a : Nm} (h : OthI c m s) (he : createE s a ≠ 0) : OthI (c + 1) m (createS s a) := by
  have e : createS s a = s := by
    rcases createS_no he with e | ⟨e, hb⟩
    · exact e
    · exact absurd (burn_free h.fuse).1 hb
  rw [e]
  exact ⟨h.up, h.fuse, h.most, by have := h.now; omega, by have := h.files; omega, h.sure, by have := h.loose; omega, h.short⟩
theorem OthI.yes {c m : Nat} {s : St} {a : Nm} (h : OthI c m s) (he : createE s a = 0) : OthI (c + 1) (max m ((numN a).getD 0)) (createS s a) := by
  obtain ⟨h0, h1, h2, h3⟩ := create_ok he
  have hf := create_free (a := a) h.fuse
  have hn := create_now he
  refine ⟨hf.2.trans h.up, hf.1, ?_, ?_, ?_, ?_, ?_, ?_⟩
  · rw [hn, most_put h1, h.most]
  · rw [hn]
    have := length_put_le s.now a s.files.length
    have := h.now
    omega
  · rw [createS_ok he, chg_files]
    have := h.files
    simp
    exact this
  · rw [createS_ok he]
    unfold chgS
    rw [if_pos (by exact h3)]
    show (burnS _).sure = []
    rw [burn_sure]
    exact h.sure
  · rw [createS_ok he, chg_loose (s := { s with files := s.files ++ [⟨[], 0⟩] }) h3]
    have := h.loose
    simp
    exact this
  · rw [hn]
    intro p hp
    rcases mem_put.1 hp with rfl | ⟨hp, _⟩
    · show a.length ≤ 1000
      have hnm : isNm a = true := by
        unfold readyE at h0
        cases hi : isNm a with
        | true => rfl
        | false => simp [hi] at h0
      have := isNm_length hnm
      omega
    · exact h.short p hp

theorem OthI.more {c c' m : Nat} {s : St} (h : OthI c m s) (hc : c ≤ c') : OthI c' m s :=
  ⟨h.up, h.fuse, h.most, Nat.le_trans h.now hc, Nat.le_trans h.files hc, h.sure, Nat.le_trans h.loose hc, h.short⟩
theorem OthI.number {c m N : Nat} {s : St} (h : OthI c m s) (hN : N ≤ 999999999) (hc : c < 256) : OthI (c + 1) (max m N) (createS s (nameN N)) := by
  by_cases he : createE s (nameN N) = 0
  · have := h.yes he
    rw [numN_name hN] at this
    exact this
  · have hle : N ≤ m := by
      rw [← h.most]
      have hg : ∃ j, get s.now (nameN N) = some j := by
        unfold createE at he
        rw [if_neg (by simp [ready_name h.up])] at he
        cases hg : get s.now (nameN N) with
        | some j => exact ⟨j, rfl⟩
        | none =>
          exfalso
          apply he
          rw [if_neg (by simp [hg]), if_neg (by have := h.now; omega)]
          exact (burn_free h.fuse).1
      obtain ⟨j, hj⟩ := hg
      exact most_ge (mem_nums.2 ⟨_, get_mem hj, numN_name hN⟩)
    rw [Nat.max_eq_left hle]
    exact h.no he
theorem pre5 (A : ByteArray) : (A.extract 0 5).toList = (nm A).take 5 := by
  rw [ByteArray.toList_eq]
  simp [nm, ByteArray.data_extract]

/-- The slice that begins at a has these strings. -/
def StrsA (w : World) (a : Option Addr) (L : List ByteArray) : Prop :=
  ∀ (i : Nat) (hi : i < L.length), ∃ b off, a = some ⟨b, off, none⟩ ∧ w.cell? ⟨b, off + i, none⟩ = some (.string (L[i]'hi))
set_option maxRecDepth 100000 in
set_option maxHeartbeats 16000000 in
theorem idsOthersL (H : IdsC) (a0 : Option Addr) (L : List ByteArray) (nL : Nat) (hnL : nL = L.length) (cap0 : Nat) (n : Int) (w : World) (B0 : StrsA w a0 L) (hLs : ∀ A ∈ L, A.size ≤ 9223372036854775807)
    (hL9 : nL ≤ 9223372036854775807) (hn1 : -9223372036854775808 ≤ n) (hn2 : n ≤ 9223372036854775807) (hG : Glob w) :
    Calls Tryd.prog 6 #[.slice a0 nL cap0, .int .i64 n] w fun e w' => e = .returned (.bool true) ∧ Below w.heap.size w w' := by
  have HA : Hid (∀ W, Glob W → Calls Tryd.prog 8 #[] W fun e w' => e = .returned (.bool true) ∧ Keep (fun _ => False) W w') := Lib.hid (answersC H)
  have HG := Lib.hid hG
  clear hG
  have HnL := Lib.hid hnL
  have HS0 := Lib.hid B0
  have HLs := Lib.hid hLs
  clear B0 hnL hLs
  go_enter Tryd.func6, Tryd.ntmps6
  go_wp2_with fail
  refine (gNew HG.out 1000).mono ?_
  rintro e w1 ⟨rfl, hd1, k1⟩
  have HD1 := Lib.hid hd1
  have HW1 : Hid (Below w.heap.size w w1) := Lib.hid (quiet_below k1 (Nat.le_refl _))
  clear k1 hd1
  go_upto_block 0 with fail
  go_cut [6] from 14 (fun mo wx => ∃ (m : Nat) (s : St), mo = .int .i64 (m : Int) ∧ Hid (DG w.heap.size wx w.heap.size s) ∧ Hid (OthI 20 m s) ∧ Hid (Below w.heap.size w wx))
  case first =>
    go_wp2
    go_loopw [6, 7] (fun mo ii wr => ∃ (i m : Nat) (s : St), i ≤ 20 ∧ i ≤ nL ∧ mo = .int .i64 (m : Int) ∧ ii = .int .i64 (i : Int) ∧ Hid (DG w.heap.size wr w.heap.size s) ∧ Hid (OthI i m s) ∧ Hid (Below w.heap.size w wr)) (fun _ ii _ => 300 - (intOf ii).toNat)
    case atStart => exact ⟨0, 0, _, by omega, Nat.zero_le _, rfl, rfl, HD1, Lib.hid (oth_new 1000), HW1⟩
    case round =>
      clear HD1 HW1
      obtain ⟨i, m, s, hi20, hi, rfl, rfl, HD, HO, HW⟩ := hrel
      by_cases hlt : (i : Int) < (nL : Int)
      · by_cases h20 : (i : Int) < 20
        · have hiL : i < L.length := by have := HnL.out; omega
          obtain ⟨b, off, rfl, hc0⟩ := HS0.out i hiL
          obtain ⟨A, hA⟩ : ∃ A, A = L[i] := ⟨_, rfl⟩
          have hA9 : A.size ≤ 9223372036854775807 := by rw [hA]; exact HLs.out _ (List.getElem_mem hiL)
          rw [← hA] at hc0
          have hc := (Keep.of_below HW.out).cell hc0 (fun h => h)
          have cC := gCreate A hA9 (by have := HO.out.bulk; omega) HD.out
          clear hA
          go_wp2_with fail
          refine cC.mono ?_
          rintro e w5 ⟨rfl, hd5, b5⟩
          have HD5 := Lib.hid hd5
          have HW5 : Hid (Below w.heap.size w w5) := Lib.hid (HW.out.trans b5)
          have hc5 := (Keep.of_below HW5.out).cell hc0 (fun h => h)
          clear hd5 b5 cC HW HD hc hc0
          by_cases hE : createE s (nm A) = 0
          · have HY := Lib.hid (HO.out.yes hE)
            rw [hE]
            clear hE HO
            by_cases h14 : A.size = 14
            · by_cases hp : (nm A).take 5 = preN
              · have hl14 : (nm A).length = 14 := by rw [nm_length]; exact h14
                have hk := numN_k hl14 hp
                have hp' : ((A.extract 0 5).toList == [110, 101, 120, 116, 45]) = true := by rw [pre5, hp]; decide
                have HK := Lib.hid hk
                have HL14 := Lib.hid hl14
                clear hk hp hl14
                go_wp2
                go_loopw [8, 9] (fun kk jj wr => ∃ (j : Nat) (v : Int), 5 ≤ j ∧ j ≤ 14 ∧ kk = .int .i64 v ∧ jj = .int .i64 (j : Int) ∧ wr = w5 ∧ Hid (v = kAt (((nm A).drop 5).take (j - 5)))) (fun _ jj _ => 300 - (intOf jj).toNat)
                case atStart => exact ⟨5, 0, by omega, by omega, rfl, rfl, rfl, Lib.hid rfl⟩
                case round =>
                  obtain ⟨j, v, hj5, hj14, rfl, rfl, rfl, HV⟩ := hrel
                  by_cases hjl : (j : Int) < 14
                  · have hjA : j < (nm A).length := by have := HL14.out; omega
                    have hix := index_nm A j hjA
                    have hsz : j < A.size := by omega
                    obtain ⟨c, hc⟩ : ∃ c, c = ((nm A).getD j 0).toNat := ⟨_, rfl⟩
                    rw [← hc] at hix
                    have hst : ((nm A).drop 5).take (j + 1 - 5) = ((nm A).drop 5).take (j - 5) ++ [(nm A).getD j 0] := by
                      have e1 : j + 1 - 5 = (j - 5) + 1 := by omega
                      have e2 : ((nm A).drop 5)[j - 5]? = some ((nm A).getD j 0) := by
                        rw [List.getElem?_drop, List.getD_eq_getElem?_getD]
                        have : 5 + (j - 5) = j := by omega
                        rw [this, List.getElem?_eq_getElem hjA]
                        rfl
                      rw [e1, List.take_add_one, e2]
                      rfl
                    have hsn := kAt_snoc (((nm A).drop 5).take (j - 5)) ((nm A).getD j 0)
                    rw [← hst, ← HV.out, ← hc] at hsn
                    have hvb := kAt_le (l := ((nm A).drop 5).take (j - 5)) (by rw [List.length_take]; omega)
                    rw [← HV.out] at hvb
                    have hc2 : c < 256 := by rw [hc]; exact UInt8.toNat_lt _
                    have hdig : isDig ((nm A).getD j 0) = (decide (48 ≤ c) && decide (c ≤ 57)) := by unfold isDig; rw [← hc]
                    rw [hdig] at hsn
                    obtain ⟨hv1, hv2⟩ := hvb
                    clear hst hdig hc hjA
                    by_cases hc48 : (c : Int) < 48
                    · have hv' : kAt (((nm A).drop 5).take (j + 1 - 5)) = -1 := by
                        rw [hsn, if_neg]
                        intro e
                        have := Bool.and_eq_true_iff.1 e.1
                        simp only [decide_eq_true_eq] at this
                        omega
                      have HV' := Lib.hid hv'
                      clear hsn hv' HV
                      go_wp2
                      go_roundw
                      case rel => exact ⟨j + 1, -1, by omega, by omega, rfl, by go_num, trivial, HV'.out.symm⟩
                      case measure => simp [intOf]; omega
                    · by_cases hc57 : 57 < (c : Int)
                      · have hv' : kAt (((nm A).drop 5).take (j + 1 - 5)) = -1 := by
                          rw [hsn, if_neg]
                          intro e
                          have := Bool.and_eq_true_iff.1 e.1
                          simp only [decide_eq_true_eq] at this
                          omega
                        have HV' := Lib.hid hv'
                        clear hsn hv' HV
                        go_wp2
                        go_roundw
                        case rel => exact ⟨j + 1, -1, by omega, by omega, rfl, by go_num, trivial, HV'.out.symm⟩
                        case measure => simp [intOf]; omega
                      · by_cases hv0 : 0 ≤ v
                        · have hv' : kAt (((nm A).drop 5).take (j + 1 - 5)) = v * 10 + ((c : Int) - 48) := by
                            rw [hsn, if_pos ⟨by simp; omega, hv0⟩]
                          have HV' := Lib.hid hv'
                          clear hsn hv' HV
                          go_wp2
                          go_roundw
                          case rel => exact ⟨j + 1, v * 10 + ((c : Int) - 48), by omega, by omega, rfl, by go_num, trivial, HV'.out.symm⟩
                          case measure => simp [intOf]; omega
                        · have hv' : kAt (((nm A).drop 5).take (j + 1 - 5)) = -1 := by
                            rw [hsn, if_neg]
                            intro e
                            exact hv0 e.2
                          have hvm : v = -1 := by omega
                          have HV' := Lib.hid hv'
                          clear hsn hv' HV
                          go_wp2
                          go_roundw
                          case rel => exact ⟨j + 1, v, by omega, by omega, rfl, by go_num, trivial, by rw [hvm]; exact HV'.out.symm⟩
                          case measure => simp [intOf]; omega
                  · have hj : j = 14 := by omega
                    subst hj
                    have hv : kAt ((nm A).drop 5) = v := by
                      rw [HV.out, List.take_of_length_le]
                      rw [List.length_drop, HL14.out]
                      exact Nat.le_refl _
                    have hk := HK.out
                    rw [hv] at hk
                    obtain ⟨M, hM⟩ : ∃ M, M = max m ((numN (nm A)).getD 0) := ⟨_, rfl⟩
                    rw [← hM] at HY
                    have hMi : max (m : Int) v = (M : Int) := by omega
                    have hvb := kAt_le (l := (nm A).drop 5) (by rw [List.length_drop, HL14.out]; decide)
                    rw [hv] at hvb
                    obtain ⟨hv1, hv2⟩ := hvb
                    clear hv hk hM HV HK
                    go_wp2
                    go_roundw
                    case rel => exact ⟨i + 1, M, _, by omega, by omega, by rw [← hMi], by go_num, HD5, HY, HW5⟩
                    case measure => simp [intOf]; omega
              · have e1 : max m ((numN (nm A)).getD 0) = m := by
                  rw [numN_other (fun e => hp e.2)]
                  simp
                rw [e1] at HY
                have hp' : ((A.extract 0 5).toList == [110, 101, 120, 116, 45]) = false := by
                  rw [pre5]
                  exact beq_false_of_ne hp
                clear e1 hp
                go_wp2
                go_roundw
                case rel => exact ⟨i + 1, m, _, by omega, by omega, rfl, by go_num, HD5, HY, HW5⟩
                case measure => simp [intOf]; omega
            · have e1 : max m ((numN (nm A)).getD 0) = m := by
                rw [numN_other (fun e => h14 (by rw [← nm_length]; exact e.1))]
                simp
              rw [e1] at HY
              have c4 : ((A.size : Int) == 14) = false := by simp; omega
              have c5 : ((A.size : Int) != 14) = true := by simp; omega
              have c6 : ¬ ((A.size : Int) = 14) := by omega
              clear e1 h14
              go_wp2
              go_roundw
              case rel => exact ⟨i + 1, m, _, by omega, by omega, rfl, by go_num, HD5, HY, HW5⟩
              case measure => simp [intOf]; omega
          · have HN := Lib.hid (HO.out.no hE)
            obtain ⟨E, hEe⟩ : ∃ E, E = createE s (nm A) := ⟨_, rfl⟩
            rw [← hEe] at hE ⊢
            have c4 : ((E : Int) == 0) = false := by simp; omega
            have c5 : ((E : Int) != 0) = true := by simp; omega
            have c6 : ¬ ((E : Int) = 0) := by omega
            clear hE hEe HO hc5
            go_wp2
            go_roundw
            case rel => exact ⟨i + 1, m, _, by omega, by omega, rfl, by go_num, HD5, HN, HW5⟩
            case measure => simp [intOf]; omega
        · go_wp2_with fail
          go_meet
          case rel => exact ⟨m, s, rfl, HD, Lib.hid (HO.out.more hi20), HW⟩
      · go_wp2_with fail
        go_meet
        case rel => exact ⟨m, s, rfl, HD, Lib.hid (HO.out.more hi20), HW⟩
  case rest =>
    clear HD1 HW1 HS0 HLs HnL
    obtain ⟨m, s, rfl, HD, HO, HW⟩ := hcut
    obtain ⟨B, hB⟩ : ∃ B, B = (decide (0 ≤ n) && decide (n ≤ 999999999)) := ⟨_, rfl⟩
    have HBn := Lib.hid hB
    obtain ⟨wA, hwA⟩ : ∃ x, x = wc := ⟨_, rfl⟩
    have HwA := Lib.hid hwA
    clear hB hwA
    go_upto_region 16 with fail
    go_cut [89] from 14 (fun v wx => v = .bool B ∧ wx = wA)
    case first =>
      by_cases h0 : 0 ≤ n
      · by_cases h9 : n ≤ 999999999
        · go_wp2_with fail
          go_meet
          case rel => exact ⟨by rw [HBn.out]; simp [h0, h9], HwA.out.symm⟩
        · go_wp2_with fail
          go_meet
          case rel => exact ⟨by rw [HBn.out]; simp [h0, h9], HwA.out.symm⟩
      · go_wp2_with fail
        go_meet
        case rel => exact ⟨by rw [HBn.out]; simp; omega, HwA.out.symm⟩
    case rest =>
    obtain ⟨rfl, rfl⟩ := hcut
    rw [← HwA.out] at HD HW
    clear HwA
    go_upto_if 89 with fail
    go_cut [6] from 14 (fun mo wx => ∃ (m : Nat) (s : St), mo = .int .i64 (m : Int) ∧ Hid (DG w.heap.size wx w.heap.size s) ∧ Hid (OthI 21 m s) ∧ Hid (Below w.heap.size w wx))
    case first =>
      cases B with
      | false =>
        go_wp2_with fail
        go_meet
        case rel => exact ⟨m, s, rfl, HD, Lib.hid (HO.out.more (by decide)), HW⟩
      | true =>
        have hB := HBn.out
        obtain ⟨N, rfl⟩ : ∃ N : Nat, n = (N : Int) := ⟨n.toNat, by
          have := Bool.and_eq_true_iff.1 hB.symm
          simp only [decide_eq_true_eq] at this
          omega⟩
        have hN9 : N ≤ 999999999 := by
          have := Bool.and_eq_true_iff.1 hB.symm
          simp only [decide_eq_true_eq] at this
          omega
        clear hB HBn
        have cD := H.digits N wc hN9
        have hp := pre_digits N
        go_wp2_with fail
        refine cD.mono ?_
        rintro e w5 ⟨rfl, k5⟩
        have cC := gCreate (w := w5) (sN N) (by rw [sN_size]; decide) (by have := HO.out.bulk; omega) ⟨HD.out.1.quiet k5, HD.out.2.keep k5 (fun _ h => h.elim)⟩
        rw [nm_sN] at cC
        have HW5 : Hid (Below w.heap.size w w5) := Lib.hid (HW.out.trans (quiet_below k5 HW.out.size))
        have HO6 := Lib.hid (HO.out.number hN9 (by decide))
        clear cD k5 HW HO HD
        go_wp2_with fail
        (try rw [hp])
        refine cC.mono ?_
        rintro e w6 ⟨rfl, hd6, b6⟩
        have HD6 := Lib.hid hd6
        have HW6 : Hid (Below w.heap.size w w6) := Lib.hid (HW5.out.trans b6)
        clear cC hd6 b6 HW5 hp
        go_wp2
        go_meet
        case rel => exact ⟨max m N, _, by go_num, HD6, HO6, HW6⟩
    case rest =>
      clear HD HO HW
      obtain ⟨m, s, rfl, HD, HO, HW⟩ := hcut
      have cO := H.opens _ _ _ _ HD.out HO.out.up HO.out.short
      obtain ⟨no1, no2⟩ := next_open HO.out.up HO.out.fuse (by have := HO.out.now; omega)
      rw [HO.out.most] at no1 no2
      have hla : (openX s).last = m := HO.out.most
      have hm9 : m ≤ topN := by have := most_le s.now; rw [HO.out.most] at this; exact this
      unfold topN at hm9
      have HBK := Lib.hid HO.out.bulk
      clear HO HD
      go_wp2_with fail
      refine cO.mono ?_
      rintro e w7 ⟨X, rfl, hs7, b7⟩
      have HS7 := Lib.hid hs7
      have HW7 : Hid (Below w.heap.size w w7) := Lib.hid (HW.out.trans b7)
      have cL := H.last _ _ _ _ _ _ hs7
      rw [hla] at cL
      clear cO hs7 b7 HW hla
      go_wp2_with fail
      refine cL.mono ?_
      rintro e w8 ⟨rfl, rfl⟩
      have cN := H.next _ _ _ _ _ _ HS7.out (by have := HBK.out; omega)
      rw [no1, no2] at cN
      clear cL no1 no2 HBK
      by_cases htop : m = topN
      · rw [if_pos htop, if_pos htop] at cN
        have htop' : m = 999999999 := htop
        clear htop
        subst htop'
        go_wp2_with fail
        refine cN.mono ?_
        rintro e w9 ⟨rfl, _, b9⟩
        have HW9 : Hid (Below w.heap.size w w9) := Lib.hid (HW7.out.trans b9)
        clear b9 cN
        go_wp2_with fail
        refine (HA.out _ (HG.out.below HW9.out HG.out.1)).mono ?_
        rintro e w10 ⟨rfl, k10⟩
        go_wp2
        go_ret
        exact ⟨rfl, HW9.out.trans (quiet_below k10 HW9.out.size)⟩
      · rw [if_neg htop, if_neg htop] at cN
        have htop' : ((m : Int) == 999999999) = false := by unfold topN at htop; simp; omega
        have htop2 : ¬ ((m : Int) = 999999999) := by unfold topN at htop; omega
        clear htop
        go_wp2_with fail
        refine cN.mono ?_
        rintro e w9 ⟨rfl, _, b9⟩
        have HW9 : Hid (Below w.heap.size w w9) := Lib.hid (HW7.out.trans b9)
        clear b9 cN
        go_wp2_with fail
        refine (HA.out _ (HG.out.below HW9.out HG.out.1)).mono ?_
        rintro e w10 ⟨rfl, k10⟩
        go_wp2
        go_ret
        exact ⟨rfl, HW9.out.trans (quiet_below k10 HW9.out.size)⟩
end Go.Proofs.YtlpeiejohgchmaaDoor.Fs
