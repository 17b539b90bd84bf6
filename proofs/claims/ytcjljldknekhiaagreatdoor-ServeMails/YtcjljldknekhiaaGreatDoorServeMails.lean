/-
  Proved here: a mail of one to eight recipients and at most 2,000 bytes of body, sent line by line with its dots, is asked to be kept as it is; its answer is said; another one may come. Conditions: none.
-/
import Derived.Test.YtcjljldknekhiaaGreatDoorRows
import Derived.Test.YtcjljldknekhiaaGreatDoorCards
import Derived.Test.YtcjljldknekhiaaGreatDoorTie
import Derived.Test.YtcjljldknekhiaaGreatDoorKg13
import Derived.Lib.Hide
import Derived.WalkKit
import Derived.ProofKit
import Derived.OpenShut
import Derived.ShutString
import Derived.ChangeOld
import Derived.Below
import Derived.Lay
import Derived.SevenTiedAt
import Derived.Stop.Joined
import Derived.Deep.DeepHandedRow
namespace Go.Proofs.YtcjljldknekhiaaGreatDoor.serveMails
open Go.ChangeShapes Go.WideShapes Go.ChangeAt Go.RowKit
set_option linter.unusedVariables false
set_option linter.unusedSimpArgs false
open Ln
theorem own : ownKnob Tryz.prog.godebug = none := by kernel_rfl

/-! ### The walk -/
set_option maxHeartbeats 16000000 in
set_option maxRecDepth 100000 in
theorem walk (a0 : ByteArray) (a1 : Option Addr) (x1 : List ByteArray) (cap1 : Nat) (a2 : Option Addr) (x2 : List Nat) (cap2 : Nat) (a3 : Int) (w : World) (m0 : a0.size ≤ 140737488351232) (l1 : x1.length ≤ cap1) (m1 : cap1 ≤ 9223372036854775807) (B1 : Ln.Strs w a1 x1) (z1 : ∀ s ∈ x1, s.size ≤ 140737488351232) (l2 : x2.length ≤ cap2) (m2 : cap2 ≤ 140737488351232) (B2 : Ln.Bytes (fun k => k < w.heap.size) w a2 x2) (w3 : (Lit.int .i64 a3).wf = true) (hE : Ln.Env w) (h9 : 9 ≤ w.heap.size) :
    Calls Tryz.prog 4 #[.string a0, .slice a1 x1.length cap1, .slice a2 x2.length cap2, .int .i64 a3] w fun e w' => e = .returned (.bool true) ∧ Below w.heap.size w w' := by
  have HA := Lib.hid (fun W e k => answersC W e k)
  have HE := Lib.hid hE
  have HP := Lib.hid (path_big a0 m0 w)
  have HS := Lib.hid B1
  have HB := Lib.hid B2
  obtain ⟨l, hlq⟩ : ∃ l, l = angled a0.data.toList := ⟨_, rfl⟩
  rw [← hlq] at HP
  have HLQ := Lib.hid hlq
  clear hE B1 B2 hlq
  cases hp : Ad.isPath l with
  | false =>
    rw [hp] at HP
    go_enter Tryz.func4, Tryz.ntmps4
    go_wp2_with fail
    refine HP.out.mono ?_
    rintro e u1 ⟨rfl, hk1⟩
    go_wp2_with fail
    refine (HA.out _ (HE.out.quiet hk1) (Nat.le_trans h9 hk1.size)).mono ?_
    rintro e ua ⟨rfl, hka⟩
    go_wp2
    go_ret
    exact ⟨rfl, (hk1.trans hka (fun _ _ h => h)).below (Nat.le_refl _) (fun _ h => h.elim)⟩
  | true =>
  rw [hp] at HP
  have HPP := Lib.hid hp
  clear hp
  by_cases r1 : (x1.length : Int) < 1
  · go_enter Tryz.func4, Tryz.ntmps4
    go_wp2_with fail
    refine HP.out.mono ?_
    rintro e u1 ⟨rfl, hk1⟩
    go_wp2_with fail
    refine (HA.out _ (HE.out.quiet hk1) (Nat.le_trans h9 hk1.size)).mono ?_
    rintro e ua ⟨rfl, hka⟩
    go_wp2
    go_ret
    exact ⟨rfl, (hk1.trans hka (fun _ _ h => h)).below (Nat.le_refl _) (fun _ h => h.elim)⟩
  by_cases r8 : (8 : Int) < (x1.length : Int)
  · go_enter Tryz.func4, Tryz.ntmps4
    go_wp2_with fail
    refine HP.out.mono ?_
    rintro e u1 ⟨rfl, hk1⟩
    go_wp2_with fail
    refine (HA.out _ (HE.out.quiet hk1) (Nat.le_trans h9 hk1.size)).mono ?_
    rintro e ua ⟨rfl, hka⟩
    go_wp2
    go_ret
    exact ⟨rfl, (hk1.trans hka (fun _ _ h => h)).below (Nat.le_refl _) (fun _ h => h.elim)⟩
  by_cases rb : (2000 : Int) < (x2.length : Int)
  · go_enter Tryz.func4, Tryz.ntmps4
    go_wp2_with fail
    refine HP.out.mono ?_
    rintro e u1 ⟨rfl, hk1⟩
    go_wp2_with fail
    refine (HA.out _ (HE.out.quiet hk1) (Nat.le_trans h9 hk1.size)).mono ?_
    rintro e ua ⟨rfl, hka⟩
    go_wp2
    go_ret
    exact ⟨rfl, (hk1.trans hka (fun _ _ h => h)).below (Nat.le_refl _) (fun _ h => h.elim)⟩
  have hn2 : x2.length ≤ 2000 := by omega
  have hl2 : (0 : Int) < (x2.length : Int) → ∃ b off, a2 = some ⟨b, off, none⟩ ∧ w.cell? ⟨b, off + (x2.length - 1), none⟩ = some (.int .u8 ((x2.getD (x2.length - 1) 0 : Nat) : Int)) ∧ ((x2.length : Int) - 1 = ((x2.length - 1 : Nat) : Int)) ∧ b < w.heap.size := fun h0 => by
    obtain ⟨b, off, hb, hx, hc⟩ := HB.out.at (x2.length - 1) (by omega)
    exact ⟨b, off, hx, hc, by omega, hb⟩
  have HL2 := Lib.hid hl2
  clear hl2
  by_cases h0 : (0 : Int) < (x2.length : Int)
  · obtain ⟨b, off, rfl, hc, hi, hbl⟩ := HL2.out h0
    obtain ⟨c, hcd⟩ : ∃ c, c = x2.getD (x2.length - 1) 0 := ⟨_, rfl⟩
    rw [← hcd] at hc
    have HCD := Lib.hid hcd
    clear hcd
    have hj : (0 : Int) ≤ ((x2.length - 1 : Nat) : Int) := by omega
    have hj2 : ((x2.length - 1 : Nat) : Int) < (x2.length : Int) := by omega
    by_cases h10 : c = 10
    · subst h10
      have HLAST : Hid (x2 = [] ∨ x2.getD (x2.length - 1) 0 = 10) := Lib.hid (.inr HCD.out.symm)
      go_enter Tryz.func4, Tryz.ntmps4
      go_wp2_with fail
      refine HP.out.mono ?_
      rintro e u1 ⟨rfl, hk1⟩
      have hc1 := hk1.cell hc (fun h => h)
      have K1 := Lib.hid hk1
      have HB1 := Lib.hid (HB.out.quiet hk1)
      go_wp2
      clear hk1
      go_loopw [11, 12] (fun at' i wr => ∃ (k a : Nat) (D : List (List Nat)), k ≤ x2.length ∧ a ≤ k ∧ i = .int .i64 (k : Int) ∧ at' = .int .i64 (a : Int) ∧ wr = u1 ∧ Hid (StAt x2 D a k) ∧ Hid (∀ l ∈ D, l.length ≤ 999) ∧ Hid (∀ j, j < k → x2.getD j 0 ≠ 13)) (fun _ i _ => x2.length - (intOf i).toNat)
      case atStart => exact ⟨0, 0, [], Nat.zero_le _, Nat.le_refl _, rfl, rfl, rfl, StAt.start x2, by show ∀ l ∈ [], _; simp, fun j h => absurd h (Nat.not_lt_zero _)⟩
      case round =>
        obtain ⟨k, a, D, hk, hak, rfl, rfl, rfl, HST, HLE, H13⟩ := hrel
        by_cases hlt : (k : Int) < (x2.length : Int)
        · have hkl : k < x2.length := by omega
          obtain ⟨b', off', _, hx', ck⟩ := HB1.out.at k hkl
          obtain ⟨d, hd⟩ : ∃ d, d = x2.getD k 0 := ⟨_, rfl⟩
          rw [← hd] at ck
          have HD := Lib.hid hd
          have k0 : (0 : Int) ≤ (k : Int) := by omega
          clear hd
          injection hx' with hx'; injection hx' with e1 e2; subst e1 e2
          by_cases hd10 : d = 10
          · subst hd10
            by_cases hlong : (999 : Int) < (k : Int) - (a : Int)
            · go_wp2_with fail
              refine (HA.out _ (HE.out.quiet K1.out) (Nat.le_trans h9 K1.out.size)).mono ?_
              rintro e ua ⟨rfl, hka⟩
              go_wp2
              go_ret
              exact ⟨rfl, (K1.out.trans hka (fun _ _ h => h)).below (Nat.le_refl _) (fun _ h => h.elim)⟩
            · have HST2 := Lib.hid (HST.out.hit hkl HD.out.symm)
              have HLE2 : Hid (∀ l ∈ D ++ [(x2.take k).drop a], l.length ≤ 999) := Lib.hid (fun l hl => by
                rcases List.mem_append.1 hl with h | h
                · exact HLE.out l h
                · rw [List.mem_singleton] at h; subst h; simp; omega)
              have H132 : Hid (∀ j, j < k + 1 → x2.getD j 0 ≠ 13) := Lib.hid (fun j hj => by
                by_cases e : j = k
                · subst e; rw [← HD.out]; decide
                · exact H13.out j (by omega))
              go_wp2
              go_roundw
              case rel => exact ⟨k + 1, k + 1, _, by omega, by omega, by go_num, by go_num, trivial, HST2.out, HLE2.out, H132.out⟩
              case measure => simp [intOf]; omega
          · have hd10' : ¬ (d : Int) = 10 := by omega
            by_cases hd13 : d = 13
            · subst hd13
              go_wp2_with fail
              refine (HA.out _ (HE.out.quiet K1.out) (Nat.le_trans h9 K1.out.size)).mono ?_
              rintro e ua ⟨rfl, hka⟩
              go_wp2
              go_ret
              exact ⟨rfl, (K1.out.trans hka (fun _ _ h => h)).below (Nat.le_refl _) (fun _ h => h.elim)⟩
            · have hd13' : ¬ (d : Int) = 13 := by omega
              have HST2 := Lib.hid (HST.out.miss (by rw [← HD.out]; exact hd10))
              have H132 : Hid (∀ j, j < k + 1 → x2.getD j 0 ≠ 13) := Lib.hid (fun j hj => by
                by_cases e : j = k
                · subst e; rw [← HD.out]; exact hd13
                · exact H13.out j (by omega))
              go_wp2
              go_roundw
              case rel => exact ⟨k + 1, a, D, by omega, by omega, by go_num, rfl, trivial, HST2.out, HLE.out, H132.out⟩
              case measure => simp [intOf]; omega
        · have hkn : k = x2.length := by omega
          subst hkn
          have HBODY : Hid (bodyB x2 = true) := Lib.hid (by
            rcases HLAST.out with h | h
            · rw [h]; rfl
            · by_cases he : x2 = []
              · rw [he]; rfl
              · have hp : 0 < x2.length := List.length_pos_iff.2 he
                rw [bodyB_last H13.out hp, h]; rfl)
          have HLN : Hid (linesOf x2 = D) := Lib.hid (HST.out.done HBODY.out)
          have HCL : Hid (∀ l ∈ linesOf x2, clean l ∧ l.length ≤ 999) := Lib.hid (fun l hl => ⟨fun c hc => ⟨(linesOf_mem hl c hc).1, fun e => by
              subst e
              have hm := (linesOf_mem hl _ hc).2
              obtain ⟨j, hj, hje⟩ := List.getElem_of_mem hm
              exact H13.out j hj (by rw [List.getD_eq_getElem?_getD, List.getElem?_eq_getElem hj, hje]; rfl)⟩, HLE.out l (by rw [← HLN.out]; exact hl)⟩)
          clear HST HLE H13 HLN hlt hk
          have HF := Lib.hid (isF_of (f := a0) (by rw [← HLQ.out]; exact HPP.out))
          have HE0 := Lib.hid (HE.out.quiet K1.out)
          have h90 := Lib.hid (Nat.le_trans h9 K1.out.size)
          have HN1 := Lib.hid (pnew { data := #[109, 120] } (by decide) 8192 (by decide) wr HE0.out h90.out)
          rw [host_mx] at HN1
          obtain ⟨wz, hwz⟩ : ∃ wz, wz = wr := ⟨_, rfl⟩
          have KZ : Hid (Keep (fun _ => False) w wz) := Lib.hid (by rw [hwz]; exact K1.out)
          go_wp2_with fail
          refine HN1.out.mono ?_
          rintro e w1 ⟨g, F1, rfl, hV1, hK1, hF1⟩
          have O1 : Hid (One wz w1 g F1 (Se.new { data := #[109, 120] } 8192)) := Lib.hid (by rw [hwz]; exact ⟨hV1, HE0.out.quiet hK1, hK1, hF1, h90.out⟩)
          have KX := Lib.hid (K1.out.trans hK1 (fun _ _ h => h))
          have hfz := HF.out.2
          have HF1 : Hid (∀ b, F1 b → b < w1.heap.size) := Lib.hid hV1.lt
          clear hV1 hK1 hF1 HN1 hwz
          go_wp2
          obtain ⟨T0, hT0⟩ : ∃ T0, T0 = ({ data := #[72, 69, 76, 79, 32, 97, 13, 10, 77, 65, 73, 76, 32, 70, 82, 79, 77, 58, 60] } ++ a0) ++ ({ data := #[62, 13, 10] } : ByteArray) := ⟨_, rfl⟩
          have HT0 : Hid (ns T0 = rl lHelo ++ (rl (lMail a0) ++ rcptsT (x1.take 0))) := Lib.hid (by rw [hT0]; exact text_0 a0)
          have hz0 : T0.size ≤ 200 := by
            have h := congrArg List.length HT0.out
            rw [ns_length] at h
            have e : a0.size ≤ 64 := hfz
            have e2 : (lMail a0).size ≤ 512 := (lMail_ok HF.out.1).2
            have e3 := ns_length a0
            rw [h]
            simp [rl, rcptsT, ns_length, lHelo, ns, lMail]
            omega
          rw [← hT0]
          clear hT0
          go_loopw [14, 15, 16] (fun tv v i wx => ∃ (k : Nat) (T : ByteArray), k ≤ x1.length ∧ i = .int .i64 (k : Int) ∧ tv = .string T ∧ T.size ≤ 200 + 100 * k ∧ Hid (ns T = rl lHelo ++ (rl (lMail a0) ++ rcptsT (x1.take k))) ∧ Hid (Tso w1.heap.size wx v ((x1.take k).map box9)) ∧ Hid (Keep (fun _ => False) w1 wx) ∧ Hid (∀ r ∈ x1.take k, Ad.isBox r.data.toList = true)) (fun _ _ i _ => x1.length - (intOf i).toNat)
          case atStart => exact ⟨0, T0, Nat.zero_le _, rfl, rfl, hz0, HT0.out, Tso.empty _ _, Lib.hid (Keep.refl _ _), by show ∀ r ∈ [], _; simp⟩
          case round =>
            obtain ⟨k, T, hk, rfl, rfl, hz, HT, HV, HK, HBX⟩ := hrel
            by_cases hlt : (k : Int) < (x1.length : Int)
            · have hkl : k < x1.length := by omega
              obtain ⟨b1, off1, hb1, hx1, hc1⟩ := HS.out k x1[k] (List.getElem?_eq_getElem hkl)
              subst hx1
              have hzr := z1 x1[k] (List.getElem_mem hkl)
              obtain ⟨r, hr⟩ : ∃ r, r = x1[k] := ⟨_, rfl⟩
              rw [← hr] at hc1 hzr
              have htk : x1.take (k + 1) = x1.take k ++ [r] := by rw [hr]; exact List.take_succ_eq_append_getElem hkl
              have HTK := Lib.hid htk
              have cx := (KX.out.trans HK.out (fun _ _ h => h)).cell hc1 (fun h => h)
              have k0 : (0 : Int) ≤ (k : Int) := by omega
              clear hr htk
              go_wp2_with fail
              refine (parse_big r (by omega) wr).mono ?_
              rintro e w2 ⟨rfl, hk2⟩
              have K2 := Lib.hid (HK.out.trans hk2 (fun _ _ h => h))
              cases hb : Ad.isBox r.data.toList with
              | false =>
                go_wp2_with fail
                refine (HA.out _ (O1.out.env.quiet K2.out) (Nat.le_trans O1.out.sz K2.out.size)).mono ?_
                rintro e ua ⟨rfl, hka⟩
                go_wp2
                go_ret
                exact ⟨rfl, ((KX.out.trans K2.out (fun _ _ h => h)).trans hka (fun _ _ h => h)).below (Nat.le_refl _) (fun _ h => h.elim)⟩
              | true =>
                have HBR := Lib.hid hb
                have hrs : r.size ≤ 64 := by
                  have e : r.data.toList.length = r.size := Array.length_toList
                  have := box_len hb
                  omega
                have ka : Keep (fun _ => False) w2 (w2.alloc (.cells #[.string (box9 r)] 9)) := (Keep.refl _ w2).alloc _
                have HV2 := Lib.hid ((HV.out.quiet hk2).quiet ka)
                have hAt : (w2.alloc (.cells #[.string (box9 r)] 9)).cell? ⟨w2.heap.size, 0, none⟩ = some (.string (box9 r)) := (At.new w2 9 #[.string (box9 r)]).cell 0
                have HAT := Lib.hid hAt
                have KA := Lib.hid (K2.out.trans ka (fun _ _ h => h))
                have HC1 := Lib.hid hc1
                clear hk2 hb ka hAt cx
                go_wp2_with
                  (at_builtin
                   refine wpList_append_tso (by rfl) (.tmp 112) (.tmp 114) (by rfl) _ _ (by rfl) HV2.out KA.out.size w2.heap.size (box9 r) (by rfl) HAT.out (by rw [List.length_map, List.length_take]; omega) ?_
                   intro y4 n4 c4 w4 hn4 hT4 hk4
                   have HV4 : Hid (Tso w1.heap.size w4 (.slice y4 n4 c4) ((x1.take (k + 1)).map box9)) := Lib.hid (by rw [HTK.out, List.map_append]; exact hT4)
                   have K4 := Lib.hid (KA.out.trans hk4 (fun i hi e => by have := (HV2.out.lt i e).1; omega))
                   have c4' := (KX.out.trans K4.out (fun _ _ h => h)).cell HC1.out (fun h => h)
                   clear hn4 hT4 hk4)
                have HT4 : Hid (ns (((T ++ { data := #[82, 67, 80, 84, 32, 84, 79, 58, 60] }) ++ r) ++ { data := #[62, 13, 10] }) = rl lHelo ++ (rl (lMail a0) ++ rcptsT (x1.take (k + 1)))) := Lib.hid (by rw [HTK.out]; exact text_next HT.out)
                have HB4 : Hid (∀ s ∈ x1.take (k + 1), Ad.isBox s.data.toList = true) := Lib.hid (fun s hs => by
                  rw [HTK.out] at hs
                  rcases List.mem_append.1 hs with h | h
                  · exact HBX.out s h
                  · rw [List.mem_singleton] at h; subst h; exact HBR.out)
                go_roundw
                case rel => exact ⟨k + 1, _, by omega, by go_num, rfl, by have e1 : ({ data := #[82, 67, 80, 84, 32, 84, 79, 58, 60] } : ByteArray).size = 9 := rfl; have e2 : ({ data := #[62, 13, 10] } : ByteArray).size = 3 := rfl; simp only [ByteArray.size_append]; omega, HT4.out, HV4.out, K4.out, HB4.out⟩
                case measure => simp [intOf]; omega
            · have hkn : k = x1.length := by omega
              subst hkn
              rw [List.take_length] at HT HV HBX
              have HB2 := Lib.hid (HB.out.quiet (KX.out.trans HK.out (fun _ _ h => h)))
              have O2 := Lib.hid (O1.out.quiet HK.out)
              have HJ : Hid (joinL (linesOf x2) = x2) := Lib.hid (bodyB_body HBODY.out).2.symm
              have H256 : Hid (∀ l ∈ linesOf x2, ∀ c ∈ l, c < 256) := Lib.hid (joinL_lt (by rw [HJ.out]; exact HB.out.1))
              have hsl : (stuffM (linesOf x2)).length ≤ 6010 := by
                have := stuffs_count (linesOf x2)
                rw [HJ.out] at this
                simp [stuffM]
                omega
              have HX1 : Hid (1 ≤ x1.length ∧ x1.length ≤ 8) := Lib.hid ⟨by omega, by omega⟩
              go_wp2_with fail
              refine (refStuff rfl l2 HB2.out (by omega) HBODY.out).mono ?_
              rintro e w5 ⟨rfl, hw5⟩
              subst hw5
              obtain ⟨S2, hS2⟩ : ∃ S2, S2 = str (stuffM (linesOf x2)) := ⟨_, rfl⟩
              rw [← hS2]
              have hs2 : S2.size ≤ 6010 := by rw [hS2, str_size]; exact hsl
              obtain ⟨c6, w6, kc6, hB6, hK6⟩ := conv_str (((T ++ { data := #[68, 65, 84, 65, 13, 10] }) ++ S2) ++ { data := #[78, 79, 79, 80, 13, 10] }) w5
              obtain ⟨M, hM⟩ : ∃ M, M = mailT a0 x1 (linesOf x2) (rl lNoop) := ⟨_, rfl⟩
              have hall : ns (((T ++ { data := #[68, 65, 84, 65, 13, 10] }) ++ S2) ++ { data := #[78, 79, 79, 80, 13, 10] }) = M := by rw [hS2, hM]; exact text_all HT.out H256.out
              have HZ : Hid ((((T ++ { data := #[68, 65, 84, 65, 13, 10] }) ++ S2) ++ { data := #[78, 79, 79, 80, 13, 10] } : ByteArray).size = M.length) := Lib.hid (by rw [← hall, ns_length])
              rw [hall] at hB6
              have HB6 := Lib.hid hB6
              have HML : Hid (M.length ≤ 100000) := Lib.hid (by
                have h := HZ.out
                simp only [ByteArray.size_append] at h
                have e1 : ({ data := #[68, 65, 84, 65, 13, 10] } : ByteArray).size = 6 := rfl
                have e2 : ({ data := #[78, 79, 79, 80, 13, 10] } : ByteArray).size = 6 := rfl
                omega)
              have O6 := Lib.hid (O2.out.quiet hK6)
              have HV6 := Lib.hid (HV.out.quiet hK6)
              have HGO : Hid (((Se.new mx9 8192).fed M).go V9 = Zm x1.length (box9 a0) (x1.map box9) x2 0) := Lib.hid (by
                have h := go_mails mx9 (f := a0) (rs := x1) (L := linesOf x2) (rl lNoop) HF.out.1 HBX.out (fun e => by have := HX1.out.1; rw [e] at this; simp at this) HX1.out.2 HCL.out (by rw [HJ.out]; omega)
                rw [← hM, HJ.out] at h
                exact h)
              have HM := Lib.hid hM
              have HS2 := Lib.hid hS2
              clear hM hS2 hall hB6 hK6
              go_wp2_with fail
              refine (pfeed O6.out.a O6.out.env (some ⟨w5.heap.size, 0, none⟩) _ c6 M (by have h := HZ.out; have e1 : ({ data := #[68, 65, 84, 65, 13, 10] } : ByteArray).size = 6 := rfl; have e2 : ({ data := #[78, 79, 79, 80, 13, 10] } : ByteArray).size = 6 := rfl; simp [ByteArray.size_append] at h ⊢; omega) HB6.out (by have := HML.out; simp [Se.new, Se.say]; omega)).mono ?_
              rintro e w7 ⟨rfl, F7, hV7, hK7, hM7⟩
              have HF7 : Hid (∀ b, F7 b → b < w1.heap.size ∨ w6.heap.size ≤ b) := Lib.hid (fun b hb => by
                rcases hM7 b hb with h | h
                · exact .inl (HF1.out b h)
                · exact .inr h)
              have HZ7 : Hid (w6.heap.size ≤ w7.heap.size) := Lib.hid hK7.size
              have HOW : Hid (∀ b, u15.ownBlock = some b → w1.heap.size ≤ b ∧ b < w6.heap.size) := Lib.hid HV6.out.lt
              have HV7 := Lib.hid (HV6.out.keep hK7 (fun b hb hF => by have h1 := (HOW.out b hb).1; have h2 := HF1.out b hF; omega))
              have O7 : Hid (One wz w7 g F7 ((Se.new mx9 8192).fed M)) := Lib.hid (O6.out.next (s' := (Se.new mx9 8192).fed M) hV7 hK7 hM7)
              have HG7 : Hid (Gd ((Se.new mx9 8192).fed M)) := Lib.hid ((Gd.new mx9 8192 (by decide)).fed M (by have := HML.out; simp [Se.new, Se.say]; omega))
              clear hV7 hK7 hM7
              obtain ⟨n, hnx⟩ : ∃ n, n = x1.length := ⟨_, rfl⟩
              have hn8 : n ≤ 8 := by rw [hnx]; exact HX1.out.2
              rw [← hnx] at HGO
              have HNX := Lib.hid hnx
              clear hnx
              go_wp2
              go_loopw [19] (fun sv wr => ∃ (j : Nat) (said : ByteArray) (s : Se) (F : Nat → Prop), j ≤ n + 4 ∧ sv = .string said ∧ said.size = 4 * j ∧ Hid (j = n + 4 → said.extract (4 * n + 12) (4 * n + 16) = { data := #[51, 53, 52, 32] }) ∧ Hid (One wz wr g F s) ∧ Hid (Gd s) ∧ Hid (s.go V9 = Zm n (box9 a0) (x1.map box9) x2 j) ∧ Hid (∀ b, F b → b < w1.heap.size ∨ w6.heap.size ≤ b) ∧ Hid (w6.heap.size ≤ wr.heap.size) ∧ Hid (Tso w1.heap.size wr u15 (x1.map box9))) (fun sv _ => 4 * n + 20 - szOf sv)
              case atStart => exact ⟨0, { data := #[] }, _, F7, Nat.zero_le _, rfl, rfl, fun h => by omega, O7.out, HG7.out, HGO.out, HF7.out, HZ7.out, HV7.out⟩
              case round =>
                obtain ⟨j, said, s, F, hj, rfl, hsz, HLS, OS, HGS, HGO', HFS, HZS, HVS⟩ := hrel
                by_cases hlast : j = n + 4
                · subst hlast
                  obtain ⟨Z, hZ⟩ : ∃ Z, Z = Zm n (box9 a0) (x1.map box9) x2 (n + 5) := ⟨_, rfl⟩
                  have HZ : Hid (Z = Zm n (box9 a0) (x1.map box9) x2 (n + 5)) := hZ
                  have hpm : Ad.bs (Ad.pathM l) = box9 a0 := by rw [HLQ.out, (angled_path (by rw [← HLQ.out]; exact HPP.out)).2]; rfl
                  rw [hpm]
                  clear hZ hpm
                  go_wp2_with fail
                  refine (pnext_some OS.out.a OS.out.env HGS.out (.keep (box9 a0) (x1.map box9) x2) [] (by rw [HGO'.out]; exact told_last n (box9 a0) (x1.map box9) x2)).mono ?_
                  rintro e u2 ⟨k2, t2, f2, rx2, rn2, rc2, bx2, bn2, bc2, s8, F8, E8, rfl, hEv8, hME, hEl, hgo8, gd8, _, _, _, hV8, hK8, hM8⟩
                  obtain ⟨e1, e2, e3, hTx, hBv⟩ := hEv8.parts
                  have e3' : f2 = box9 a0 := e3
                  have e1' : k2 = 2 := e1
                  clear e1 e3
                  subst e1' e3'
                  have hz8 : s8 = Z := by
                    rw [HZ.out]
                    exact is_five (by rw [hgo8, HGO'.out, Zm_pop]) (Zm_end _ _ _ _).1 (Zm_end _ _ _ _).2
                  subst hz8
                  obtain ⟨W2, V2, HW2, HVV2, hk2, hA2⟩ := laid_ev u2 2 t2 (box9 a0) rx2 bx2 rn2 rc2 bn2 bc2
                  have OS2 := Lib.hid ((OS.out.next hV8 hK8 hM8).quiet hk2)
                  have HFS2 : Hid (∀ b, F8 b → b < w1.heap.size ∨ w6.heap.size ≤ b) := Lib.hid (fun b hb => by
                    rcases hM8 b hb with h | h
                    · exact HFS.out b h
                    · exact .inr (Nat.le_trans HZS.out h))
                  have HVS2 := Lib.hid ((HVS.out.keep hK8 (fun b hb hF => by have h1 := HOW.out b hb; have h2 := HFS.out b hF; omega)).quiet hk2)
                  have HTX := Lib.hid (hTx.keep hk2 (fun b _ hb => ⟨fun h => h, hb⟩))
                  have HBV := Lib.hid (hBv.keep hk2 (fun b _ hb => ⟨fun h => h, hb⟩))
                  have HB8 := Lib.hid ((HB.out.quiet KZ.out).keep OS2.out.kp (fun _ _ _ h => h))
                  have HA2 := Lib.hid hA2
                  have HGD := Lib.hid gd8
                  obtain ⟨p0, p1, _, _, _, p5, p6, p7⟩ := hA2.eight
                  obtain ⟨xv, cv, hv15, hT15⟩ := HVS2.out.txtR
                  rw [hv15, List.length_map] at hT15
                  rw [List.length_map] at hv15
                  have HT15 := Lib.hid hT15
                  clear e2
                  obtain ⟨SB, hSB⟩ : ∃ SB, SB = str x2 := ⟨_, rfl⟩
                  have HC1 : Hid (∀ X, Keep (fun _ => False) W2 X → (convert 34 9 (.slice bx2 bn2 bc2)).run Tryz.prog X = .ok (.string SB) X ∧ (convert 34 9 (.slice (some ⟨b, off, none⟩) x2.length cap2)).run Tryz.prog X = .ok (.string SB) X) := Lib.hid (fun X k => by
                    obtain ⟨x, c, hv, _, hBy⟩ := HBV.out
                    injection hv with h1 h2 h3
                    subst h1 h2 h3
                    rw [hSB]
                    exact ⟨run_str (hBy.quiet k) _ _ rfl, run_str (HB8.out.quiet k) x2.length cap2 rfl⟩)
                  clear hSB
                  have HPS := Lib.hid (And.intro p5 (And.intro p6 p7))
                  clear p5 p6 p7 p1
                  rw [← HVV2.out]
                  clear hEv8 hME hEl hgo8 gd8 hV8 hK8 hM8 hk2 hA2 hTx hBv hT15
                  subst hv15
                  go_upto_region 30 with (refine step_laidE (by rfl) (.tmp 20) (.tmp 136) (by rfl) u2 (by rfl) 2 t2 (box9 a0) rx2 bx2 rn2 rc2 bn2 bc2 W2 HW2.out (by rfl) HVV2.out ?_)
                  obtain ⟨p5, p6, p7⟩ := HPS.out
                  go_wp2_with fail
                  refine (textsC (L := x1.map box9) rx2 xv rn2 x1.length rc2 cv HTX.out HT15.out (by rw [List.length_map]; have := HX1.out.2; omega)).mono ?_
                  rintro e w4 ⟨rfl, hk4⟩
                  have q7 := hk4.cell p7 (fun h => h)
                  obtain ⟨cv1, cv2⟩ := HC1.out w4 hk4
                  have OS4 := Lib.hid (OS2.out.quiet hk4)
                  clear p0 p5 p6 p7 hk4
                  go_upto_region 34 with fail
                  clear cv1 cv2 q7
                  have hnn := HNX.out
                  clear HNX
                  subst hnn
                  have hls := HLS.out trivial
                  have hcut : ∀ w, (Instr.slice 9 (.string said) (some (.int .i64 (4 * ((x1.length : Int) + 4) - 4))) none none).run Tryz.prog w = .ok (.string { data := #[51, 53, 52, 32] }) w := fun w => by
                    rw [run_slice_string_l w 9 said Tryz.underlying9 .i64 (4 * ((x1.length : Int) + 4) - 4) (by omega) (by omega), show (4 * ((x1.length : Int) + 4) - 4).toNat = 4 * x1.length + 12 by omega, show said.size = 4 * x1.length + 16 by omega, hls]
                  have hszI : (said.size : Int) = 4 * ((x1.length : Int) + 4) := by omega
                  have hl0 : (0 : Int) ≤ (x1.length : Int) := by omega
                  have hl8 : (x1.length : Int) ≤ 8 := by omega
                  clear hls hsz
                  go_upto_region 37 with fail
                  clear hcut hszI
                  have hb3 := bounds_i64 w3
                  have ho8 : s8.out = [] := by rw [HZ.out]; exact (Zm_end _ _ _ _).2
                  have hza := Zm_answer x1.length (box9 a0) (x1.map box9) x2 a3
                  rw [← HZ.out] at hza
                  have HZA := Lib.hid hza.1
                  have HZG := Lib.hid hza.2
                  have HGD5 := Lib.hid (HGD.out.answer ho8 a3)
                  have HO8 := Lib.hid ho8
                  clear hza ho8
                  go_wp2_with fail
                  refine (panswer OS4.out.a OS4.out.env HO8.out a3 w3).mono ?_
                  rintro e w5' ⟨he, F9, hV9, hK9, hM9⟩
                  have OS9 := Lib.hid (OS4.out.next (s' := s8.answer a3) hV9 hK9 hM9)
                  rw [HZA.out] at he
                  clear hV9 hK9 hM9
                  by_cases hlo : a3 < 200
                  · have hd : decide (200 ≤ a3 ∧ a3 ≤ 599) = false := decide_eq_false (by omega)
                    rw [hd] at he
                    subst he
                    clear hd
                    go_wp2_with fail
                    refine (HA.out _ OS9.out.env OS9.out.sz).mono ?_
                    rintro e ua ⟨rfl, hka⟩
                    go_wp2
                    go_ret
                    exact ⟨rfl, ((KZ.out.trans OS9.out.kp (fun _ _ h => h)).trans hka (fun _ _ h => h)).below (Nat.le_refl _) (fun _ h => h.elim)⟩
                  by_cases hhi : 599 < a3
                  · have hd : decide (200 ≤ a3 ∧ a3 ≤ 599) = false := decide_eq_false (by omega)
                    rw [hd] at he
                    subst he
                    clear hd
                    go_wp2_with fail
                    refine (HA.out _ OS9.out.env OS9.out.sz).mono ?_
                    rintro e ua ⟨rfl, hka⟩
                    go_wp2
                    go_ret
                    exact ⟨rfl, ((KZ.out.trans OS9.out.kp (fun _ _ h => h)).trans hka (fun _ _ h => h)).below (Nat.le_refl _) (fun _ h => h.elim)⟩
                  have hval : 200 ≤ a3 ∧ a3 ≤ 599 := by omega
                  rw [decide_eq_true hval] at he
                  subst he
                  have HZY : Hid ((s8.answer a3).go V9 = Ya a3) := Lib.hid (HZG.out hval)
                  have dhi : decide (599 < a3) = false := decide_eq_false hhi
                  clear hval
                  go_wp2_with fail
                  refine (pnext_some OS9.out.a OS9.out.env HGD5.out (.say (reply (codeN a3))) [.say (reply 250)] (by rw [HZY.out]; rfl)).mono ?_
                  rintro e u5 ⟨k5, t5, f5, rx5, rn5, rc5, bx5, bn5, bc5, s10, F10, E10, rfl, hEv10, hME10, hEl10, hgo10, gd10, hX1, hX2, hX3, hV10, hK10, hM10⟩
                  obtain ⟨hk5, ht5⟩ := say_is hEv10
                  subst hk5
                  have HT5 := Lib.hid ht5
                  obtain ⟨W5, V5, HW5, HVV5, hk5, hA5⟩ := laid_ev u5 1 t5 f5 rx5 bx5 rn5 rc5 bn5 bc5
                  have OS10 := Lib.hid ((OS9.out.next hV10 hK10 hM10).quiet hk5)
                  have HG10 : Hid (s10.go V9 = (Ya a3).pop) := Lib.hid (by rw [hgo10, HZY.out])
                  have HGD10 := Lib.hid gd10
                  obtain ⟨B5, hB5⟩ : ∃ B, B = u5.heap.size := ⟨_, rfl⟩
                  rw [← hB5] at hA5
                  have HNF10 : Hid (¬ F10 B5) := Lib.hid (fun h => by have := PS.lt hV10 _ h; omega)
                  have HA5 := Lib.hid hA5
                  have HB5 := Lib.hid hB5
                  clear hEv10 hME10 hEl10 hgo10 gd10 hX1 hX2 hX3 hV10 hK10 hM10 hk5 hA5 ht5
                  rw [← HVV5.out]
                  go_upto_region 41 with (refine step_laidE (by rfl) (.tmp 24) (.tmp 209) (by rfl) u5 (by rfl) 1 t5 f5 rx5 bx5 rn5 rc5 bn5 bc5 W5 HW5.out (by rfl) HVV5.out ?_)
                  rw [← HB5.out]
                  clear HB5 hB5
                  go_wp2_with fail
                  refine (pnext_some OS10.out.a OS10.out.env HGD10.out (.say (reply 250)) [] (by rw [HG10.out]; rfl)).mono ?_
                  rintro e u6 ⟨k6, t6, f6, rx6, rn6, rc6, bx6, bn6, bc6, s11, F11, E11, rfl, hEv11, hME11, hEl11, hgo11, gd11, hX1, hX2, hX3, hV11, hK11, hM11⟩
                  obtain ⟨hk6, ht6⟩ := say_is hEv11
                  rw [reply250] at ht6
                  subst hk6 ht6
                  obtain ⟨W6, V6, HW6, HVV6, hk6, hA6⟩ := laid_ev u6 1 { data := #[50, 53, 48, 32, 111, 107, 13, 10] } f6 rx6 bx6 rn6 rc6 bn6 bc6
                  have OS12 := Lib.hid ((OS10.out.next hV11 hK11 hM11).quiet hk6)
                  have hg11 : s11.go V9 = (Ya a3).pop.pop := by rw [hgo11, HG10.out]
                  have HO12 : Hid (s11.out = []) := Lib.hid (go_nil (V := V9) (by rw [hg11]; rfl))
                  have HN5 : Hid (ansOk s11 250 = false) := Lib.hid (not_five (V := V9) (by rw [hg11]; show (1 : Nat) ≠ 5; decide) 250)
                  obtain ⟨B6, hB6⟩ : ∃ B, B = u6.heap.size := ⟨_, rfl⟩
                  rw [← hB6] at hA6
                  have HNF6 : Hid (¬ F11 B6) := Lib.hid (fun h => by have := PS.lt hV11 _ h; omega)
                  have HNF5 : Hid (¬ F11 B5) := Lib.hid (fun h => by
                    rcases hM11 _ h with h1 | h1
                    · exact HNF10.out h1
                    · have := HA5.out.lt; omega)
                  have HSall : Hid (∀ Z, Keep (fun _ => False) W6 Z → Z.cell? ⟨B5, 1, none⟩ = some (.string t5) ∧ Z.cell? ⟨B6, 1, none⟩ = some (.string { data := #[50, 53, 48, 32, 111, 107, 13, 10] })) := Lib.hid (fun Z k => ⟨(((HA5.out.keep hK11 HNF10.out).keep hk6 (fun h => h)).keep k (fun h => h)).cell 1, (hA6.keep k (fun h => h)).cell 1⟩)
                  have HB6 := Lib.hid hB6
                  have kD : Keep (fun _ => False) W6 W6.drew := (Keep.refl _ W6).drew
                  clear hEv11 hME11 hEl11 hgo11 gd11 hX1 hX2 hX3 hV11 hK11 hM11 hk6 hA6 hg11
                  rw [← HVV6.out]
                  go_upto_region 42 with (refine step_laidE (by rfl) (.tmp 26) (.tmp 214) (by rfl) u6 (by rfl) 1 { data := #[50, 53, 48, 32, 111, 107, 13, 10] } f6 rx6 bx6 rn6 rc6 bn6 bc6 W6 HW6.out (by rfl) HVV6.out ?_)
                  rw [← HB6.out]
                  clear HB6 hB6
                  by_cases h300 : a3 < 300
                  · rw [codeN, if_pos h300] at HT5
                    go_upto_region 44 with fail
                    refine wp_region_noPanic ?_
                    refine wp_region_held_drew (S := fun Z => Z.cell? ⟨B5, 1, none⟩ = some (.string t5) ∧ Z.cell? ⟨B6, 1, none⟩ = some (.string { data := #[50, 53, 48, 32, 111, 107, 13, 10] })) (by kernel_rfl) (HSall.out _ kD) (fun hHeld => ?_)
                    refine wpAnyH_ready (rs := [0]) (by kernel_rfl) (by simp) ?_
                    refine AllReadyH.cons rfl (fun K hK => ?_) AllReadyH.nil
                    go_simp
                    refine (HA.out _ (OS12.out.env.quiet kD) (Nat.le_trans OS12.out.sz kD.size)).mono ?_
                    rintro e x1' ⟨rfl, hk13⟩
                    have k13 := kD.trans hk13 (fun _ _ h => h)
                    have hS13 := HSall.out _ k13
                    clear hk13
                    go_wp2_with fail
                    refine hK.out _ _ hS13 (fun hHeld => ?_)
                    clear hK K
                    try simp only [Act.put, List.getElem_toArray, List.getElem_cons_succ, List.getElem_cons_zero, List.setIfInBounds_toArray, List.set_cons_zero, List.set_cons_succ]
                    refine wpAnyH_take (i := 1) (v := ?_) rfl (by kernel_rfl) (by kernel_rfl) (by kernel_rfl) (fun _ _ _ h => h) (Or.inl ⟨by rfl, ?_⟩) (by assumption) ?_
                    rotate_left
                    · (intro wS hSw; (try dsimp only at hSw); obtain ⟨hS1, hS2⟩ := hSw; (try simp only [List.getElem_toArray, List.getElem_cons_succ, List.getElem_cons_zero]); go_simp; try (with_reducible rfl))
                    try simp only [Act.put, List.getElem_toArray, List.getElem_cons_succ, List.getElem_cons_zero, List.setIfInBounds_toArray, List.set_cons_zero, List.set_cons_succ]
                    refine wpAnyH_take (i := 2) (v := ?_) rfl (by kernel_rfl) (by kernel_rfl) (by kernel_rfl) (fun _ _ _ h => h) (Or.inl ⟨by rfl, ?_⟩) (by assumption) ?_
                    rotate_left
                    · (intro wS hSw; (try dsimp only at hSw); obtain ⟨hS1, hS2⟩ := hSw; (try simp only [List.getElem_toArray, List.getElem_cons_succ, List.getElem_cons_zero]); go_simp; try (with_reducible rfl))
                    try simp only [Act.put, List.getElem_toArray, List.getElem_cons_succ, List.getElem_cons_zero, List.setIfInBounds_toArray, List.set_cons_zero, List.set_cons_succ]
                    refine wpAnyH_take (i := 3) (v := ?_) rfl (by kernel_rfl) (by kernel_rfl) (by kernel_rfl) (fun _ _ _ h => h) (Or.inl ⟨by rfl, ?_⟩) (by assumption) ?_
                    rotate_left
                    · (intro wS hSw; (try dsimp only at hSw); obtain ⟨hS1, hS2⟩ := hSw; (try simp only [List.getElem_toArray, List.getElem_cons_succ, List.getElem_cons_zero]); go_simp; try (with_reducible rfl))
                    try simp only [Act.put, List.getElem_toArray, List.getElem_cons_succ, List.getElem_cons_zero, List.setIfInBounds_toArray, List.set_cons_zero, List.set_cons_succ]
                    refine wpAnyH_take (i := 4) (v := ?_) rfl (by kernel_rfl) (by kernel_rfl) (by kernel_rfl) (fun _ _ _ h => h) (Or.inl ⟨by rfl, ?_⟩) (by assumption) ?_
                    rotate_left
                    · (intro wS hSw; (try dsimp only at hSw); obtain ⟨hS1, hS2⟩ := hSw; (try simp only [List.getElem_toArray, List.getElem_cons_succ, List.getElem_cons_zero]); go_simp; try (with_reducible rfl))
                    try simp only [Act.put, List.getElem_toArray, List.getElem_cons_succ, List.getElem_cons_zero, List.setIfInBounds_toArray, List.set_cons_zero, List.set_cons_succ]
                    refine wpAnyH_take (i := 5) (v := ?_) rfl (by kernel_rfl) (by kernel_rfl) (by kernel_rfl) (fun _ _ _ h => h) (Or.inl ⟨by rfl, ?_⟩) (by assumption) ?_
                    rotate_left
                    · (intro wS hSw; (try dsimp only at hSw); obtain ⟨hS1, hS2⟩ := hSw; (try simp only [List.getElem_toArray, List.getElem_cons_succ, List.getElem_cons_zero]); go_simp; try (with_reducible rfl))
                    try simp only [Act.put, List.getElem_toArray, List.getElem_cons_succ, List.getElem_cons_zero, List.setIfInBounds_toArray, List.set_cons_zero, List.set_cons_succ]
                    refine wpAnyH_take (i := 6) (v := ?_) rfl (by kernel_rfl) (by kernel_rfl) (by kernel_rfl) (fun _ _ _ h => h) (Or.inl ⟨by rfl, ?_⟩) (by assumption) ?_
                    rotate_left
                    · (intro wS hSw; (try dsimp only at hSw); obtain ⟨hS1, hS2⟩ := hSw; (try simp only [List.getElem_toArray, List.getElem_cons_succ, List.getElem_cons_zero]); go_simp; try (with_reducible rfl))
                    try simp only [Act.put, List.getElem_toArray, List.getElem_cons_succ, List.getElem_cons_zero, List.setIfInBounds_toArray, List.set_cons_zero, List.set_cons_succ]
                    refine wpAnyH_take (i := 7) (v := ?_) rfl (by kernel_rfl) (by kernel_rfl) (by kernel_rfl) (fun _ _ _ h => h) (Or.inl ⟨by rfl, ?_⟩) (by assumption) ?_
                    rotate_left
                    · (intro wS hSw; (try dsimp only at hSw); obtain ⟨hS1, hS2⟩ := hSw; (try simp only [List.getElem_toArray, List.getElem_cons_succ, List.getElem_cons_zero]); go_simp; try (with_reducible rfl))
                    try simp only [Act.put, List.getElem_toArray, List.getElem_cons_succ, List.getElem_cons_zero, List.setIfInBounds_toArray, List.set_cons_zero, List.set_cons_succ]
                    refine wpAnyH_ready (rs := [8]) (by kernel_rfl) (by simp) ?_
                    refine AllReadyH.cons rfl (fun K hK => ?_) AllReadyH.nil
                    go_simp
                    refine (refText 250 (by omega) (by omega) _).mono ?_
                    rintro e x2' ⟨rfl, hk14⟩
                    rw [← HT5.out]
                    have k14 := k13.trans hk14 (fun _ _ h => h)
                    have hS14 := HSall.out _ k14
                    have OS14 := Lib.hid (OS12.out.quiet k14)
                    clear hk14 hS13
                    go_wp2_with fail
                    refine hK.out _ _ hS14 (fun hHeld => ?_)
                    clear hK K
                    try simp only [Act.put, List.getElem_toArray, List.getElem_cons_succ, List.getElem_cons_zero, List.setIfInBounds_toArray, List.set_cons_zero, List.set_cons_succ]
                    refine wpAnyH_take (i := 9) (v := ?_) rfl (by kernel_rfl) (by kernel_rfl) (by kernel_rfl) (fun _ _ _ h => h) (Or.inl ⟨by rfl, ?_⟩) (by assumption) ?_
                    rotate_left
                    · (intro wS hSw; (try dsimp only at hSw); obtain ⟨hS1, hS2⟩ := hSw; (try simp only [List.getElem_toArray, List.getElem_cons_succ, List.getElem_cons_zero]); go_simp; try (with_reducible rfl))
                    try simp only [Act.put, List.getElem_toArray, List.getElem_cons_succ, List.getElem_cons_zero, List.setIfInBounds_toArray, List.set_cons_zero, List.set_cons_succ]
                    refine wpAnyH_take (i := 10) (v := ?_) rfl (by kernel_rfl) (by kernel_rfl) (by kernel_rfl) (fun _ _ _ h => h) (Or.inl ⟨by rfl, ?_⟩) (by assumption) ?_
                    rotate_left
                    · (intro wS hSw; (try dsimp only at hSw); obtain ⟨hS1, hS2⟩ := hSw; (try simp only [List.getElem_toArray, List.getElem_cons_succ, List.getElem_cons_zero]); go_simp; try (with_reducible rfl))
                    try simp only [Act.put, List.getElem_toArray, List.getElem_cons_succ, List.getElem_cons_zero, List.setIfInBounds_toArray, List.set_cons_zero, List.set_cons_succ]
                    refine wpAnyH_take (i := 11) (v := ?_) rfl (by kernel_rfl) (by kernel_rfl) (by kernel_rfl) (fun _ _ _ h => h) (Or.inl ⟨by rfl, ?_⟩) (by assumption) ?_
                    rotate_left
                    · (intro wS hSw; (try dsimp only at hSw); obtain ⟨hS1, hS2⟩ := hSw; (try simp only [List.getElem_toArray, List.getElem_cons_succ, List.getElem_cons_zero]); go_simp; try (with_reducible rfl))
                    try simp only [Act.put, List.getElem_toArray, List.getElem_cons_succ, List.getElem_cons_zero, List.setIfInBounds_toArray, List.set_cons_zero, List.set_cons_succ]
                    refine wpAnyH_take (i := 12) (v := ?_) rfl (by kernel_rfl) (by kernel_rfl) (by kernel_rfl) (fun _ _ _ h => h) (Or.inl ⟨by rfl, ?_⟩) (by assumption) ?_
                    rotate_left
                    · (intro wS hSw; (try dsimp only at hSw); obtain ⟨hS1, hS2⟩ := hSw; (try simp only [List.getElem_toArray, List.getElem_cons_succ, List.getElem_cons_zero]); go_simp; try (with_reducible rfl))
                    try simp only [Act.put, List.getElem_toArray, List.getElem_cons_succ, List.getElem_cons_zero, List.setIfInBounds_toArray, List.set_cons_zero, List.set_cons_succ]
                    refine wpAnyH_take (i := 13) (v := ?_) rfl (by kernel_rfl) (by kernel_rfl) (by kernel_rfl) (fun _ _ _ h => h) (Or.inl ⟨by rfl, ?_⟩) (by assumption) ?_
                    rotate_left
                    · (intro wS hSw; (try dsimp only at hSw); obtain ⟨hS1, hS2⟩ := hSw; (try simp only [List.getElem_toArray, List.getElem_cons_succ, List.getElem_cons_zero]); go_simp; try (with_reducible rfl))
                    try simp only [Act.put, List.getElem_toArray, List.getElem_cons_succ, List.getElem_cons_zero, List.setIfInBounds_toArray, List.set_cons_zero, List.set_cons_succ]
                    refine wpAnyH_take (i := 14) (v := ?_) rfl (by kernel_rfl) (by kernel_rfl) (by kernel_rfl) (fun _ _ _ h => h) (Or.inl ⟨by rfl, ?_⟩) (by assumption) ?_
                    rotate_left
                    · (intro wS hSw; (try dsimp only at hSw); obtain ⟨hS1, hS2⟩ := hSw; (try simp only [List.getElem_toArray, List.getElem_cons_succ, List.getElem_cons_zero]); go_simp; try (with_reducible rfl))
                    try simp only [Act.put, List.getElem_toArray, List.getElem_cons_succ, List.getElem_cons_zero, List.setIfInBounds_toArray, List.set_cons_zero, List.set_cons_succ]
                    refine wpAnyH_take (i := 15) (v := ?_) rfl (by kernel_rfl) (by kernel_rfl) (by kernel_rfl) (fun _ _ _ h => h) (Or.inl ⟨by rfl, ?_⟩) (by assumption) ?_
                    rotate_left
                    · (intro wS hSw; (try dsimp only at hSw); obtain ⟨hS1, hS2⟩ := hSw; (try simp only [List.getElem_toArray, List.getElem_cons_succ, List.getElem_cons_zero]); go_simp; try (with_reducible rfl))
                    try simp only [Act.put, List.getElem_toArray, List.getElem_cons_succ, List.getElem_cons_zero, List.setIfInBounds_toArray, List.set_cons_zero, List.set_cons_succ]
                    refine wpAnyH_take (i := 16) (v := ?_) rfl (by kernel_rfl) (by kernel_rfl) (by kernel_rfl) (fun _ _ _ h => h) (Or.inl ⟨by rfl, ?_⟩) (by assumption) ?_
                    rotate_left
                    · (intro wS hSw; (try dsimp only at hSw); obtain ⟨hS1, hS2⟩ := hSw; (try simp only [List.getElem_toArray, List.getElem_cons_succ, List.getElem_cons_zero]); go_simp; try (with_reducible rfl))
                    try simp only [Act.put, List.getElem_toArray, List.getElem_cons_succ, List.getElem_cons_zero, List.setIfInBounds_toArray, List.set_cons_zero, List.set_cons_succ]
                    refine wpAnyH_take (i := 17) (v := ?_) rfl (by kernel_rfl) (by kernel_rfl) (by kernel_rfl) (fun _ _ _ h => h) (Or.inl ⟨by rfl, ?_⟩) (by assumption) ?_
                    rotate_left
                    · (intro wS hSw; (try dsimp only at hSw); obtain ⟨hS1, hS2⟩ := hSw; (try simp only [List.getElem_toArray, List.getElem_cons_succ, List.getElem_cons_zero]); go_simp; try (with_reducible rfl))
                    try simp only [Act.put, List.getElem_toArray, List.getElem_cons_succ, List.getElem_cons_zero, List.setIfInBounds_toArray, List.set_cons_zero, List.set_cons_succ]
                    refine wpAnyH_ready (rs := [18]) (by kernel_rfl) (by simp) ?_
                    refine AllReadyH.cons rfl (fun K hK => ?_) AllReadyH.nil
                    go_simp
                    refine (panswer OS14.out.a OS14.out.env HO12.out 250 (by decide)).mono ?_
                    rintro e x3' ⟨he, F15, hV15, hK15, hM15⟩
                    rw [HN5.out] at he
                    subst he
                    have hS15 : x3'.cell? ⟨B5, 1, none⟩ = some (.string t5) ∧ x3'.cell? ⟨B6, 1, none⟩ = some (.string { data := #[50, 53, 48, 32, 111, 107, 13, 10] }) := ⟨hK15.cell hS14.1 HNF5.out, hK15.cell hS14.2 HNF6.out⟩
                    have OS15 := Lib.hid (OS14.out.next (s' := s11.answer 250) hV15 hK15 hM15)
                    clear hV15 hK15 hM15 hS14
                    go_wp2_with fail
                    refine hK.out _ _ hS15 (fun hHeld => ?_)
                    clear hK K
                    try simp only [Act.put, List.getElem_toArray, List.getElem_cons_succ, List.getElem_cons_zero, List.setIfInBounds_toArray, List.set_cons_zero, List.set_cons_succ]
                    refine wpAnyH_take (i := 19) (v := ?_) rfl (by kernel_rfl) (by kernel_rfl) (by kernel_rfl) (fun _ _ _ h => h) (Or.inl ⟨by rfl, ?_⟩) (by assumption) ?_
                    rotate_left
                    · (intro wS hSw; (try dsimp only at hSw); obtain ⟨hS1, hS2⟩ := hSw; (try simp only [List.getElem_toArray, List.getElem_cons_succ, List.getElem_cons_zero]); go_simp; try (with_reducible rfl))
                    try simp only [Act.put, List.getElem_toArray, List.getElem_cons_succ, List.getElem_cons_zero, List.setIfInBounds_toArray, List.set_cons_zero, List.set_cons_succ]
                    refine wpAnyH_take (i := 20) (v := ?_) rfl (by kernel_rfl) (by kernel_rfl) (by kernel_rfl) (fun _ _ _ h => h) (Or.inl ⟨by rfl, ?_⟩) (by assumption) ?_
                    rotate_left
                    · (intro wS hSw; (try dsimp only at hSw); obtain ⟨hS1, hS2⟩ := hSw; (try simp only [List.getElem_toArray, List.getElem_cons_succ, List.getElem_cons_zero]); go_simp; try (with_reducible rfl))
                    try simp only [Act.put, List.getElem_toArray, List.getElem_cons_succ, List.getElem_cons_zero, List.setIfInBounds_toArray, List.set_cons_zero, List.set_cons_succ]
                    refine wpAnyH_take (i := 21) (v := ?_) rfl (by kernel_rfl) (by kernel_rfl) (by kernel_rfl) (fun _ _ _ h => h) (Or.inl ⟨by rfl, ?_⟩) (by assumption) ?_
                    rotate_left
                    · (intro wS hSw; (try dsimp only at hSw); obtain ⟨hS1, hS2⟩ := hSw; (try simp only [List.getElem_toArray, List.getElem_cons_succ, List.getElem_cons_zero]); go_simp; try (with_reducible rfl))
                    try simp only [Act.put, List.getElem_toArray, List.getElem_cons_succ, List.getElem_cons_zero, List.setIfInBounds_toArray, List.set_cons_zero, List.set_cons_succ]
                    refine wpAnyH_done (by kernel_rfl) ?_ _
                    refine NoPanic.normal ?_
                    go_wp2
                    go_ret
                    exact ⟨rfl, (KZ.out.trans OS15.out.kp (fun _ _ h => h)).below (Nat.le_refl _) (fun _ h => h.elim)⟩
                  · rw [codeN, if_neg h300] at HT5
                    obtain ⟨C, rfl⟩ : ∃ C : Nat, a3 = (C : Int) := ⟨a3.toNat, by omega⟩
                    rw [Int.toNat_natCast] at HT5
                    go_upto_region 44 with fail
                    refine wp_region_noPanic ?_
                    refine wp_region_held_drew (S := fun Z => Z.cell? ⟨B5, 1, none⟩ = some (.string t5) ∧ Z.cell? ⟨B6, 1, none⟩ = some (.string { data := #[50, 53, 48, 32, 111, 107, 13, 10] })) (by kernel_rfl) (HSall.out _ kD) (fun hHeld => ?_)
                    refine wpAnyH_ready (rs := [0]) (by kernel_rfl) (by simp) ?_
                    refine AllReadyH.cons rfl (fun K hK => ?_) AllReadyH.nil
                    go_simp
                    refine (HA.out _ (OS12.out.env.quiet kD) (Nat.le_trans OS12.out.sz kD.size)).mono ?_
                    rintro e x1' ⟨rfl, hk13⟩
                    have k13 := kD.trans hk13 (fun _ _ h => h)
                    have hS13 := HSall.out _ k13
                    clear hk13
                    go_wp2_with fail
                    refine hK.out _ _ hS13 (fun hHeld => ?_)
                    clear hK K
                    try simp only [Act.put, List.getElem_toArray, List.getElem_cons_succ, List.getElem_cons_zero, List.setIfInBounds_toArray, List.set_cons_zero, List.set_cons_succ]
                    refine wpAnyH_take (i := 1) (v := ?_) rfl (by kernel_rfl) (by kernel_rfl) (by kernel_rfl) (fun _ _ _ h => h) (Or.inl ⟨by rfl, ?_⟩) (by assumption) ?_
                    rotate_left
                    · (intro wS hSw; (try dsimp only at hSw); obtain ⟨hS1, hS2⟩ := hSw; (try simp only [List.getElem_toArray, List.getElem_cons_succ, List.getElem_cons_zero]); go_simp; try (with_reducible rfl))
                    try simp only [Act.put, List.getElem_toArray, List.getElem_cons_succ, List.getElem_cons_zero, List.setIfInBounds_toArray, List.set_cons_zero, List.set_cons_succ]
                    refine wpAnyH_take (i := 2) (v := ?_) rfl (by kernel_rfl) (by kernel_rfl) (by kernel_rfl) (fun _ _ _ h => h) (Or.inl ⟨by rfl, ?_⟩) (by assumption) ?_
                    rotate_left
                    · (intro wS hSw; (try dsimp only at hSw); obtain ⟨hS1, hS2⟩ := hSw; (try simp only [List.getElem_toArray, List.getElem_cons_succ, List.getElem_cons_zero]); go_simp; try (with_reducible rfl))
                    try simp only [Act.put, List.getElem_toArray, List.getElem_cons_succ, List.getElem_cons_zero, List.setIfInBounds_toArray, List.set_cons_zero, List.set_cons_succ]
                    refine wpAnyH_take (i := 3) (v := ?_) rfl (by kernel_rfl) (by kernel_rfl) (by kernel_rfl) (fun _ _ _ h => h) (Or.inl ⟨by rfl, ?_⟩) (by assumption) ?_
                    rotate_left
                    · (intro wS hSw; (try dsimp only at hSw); obtain ⟨hS1, hS2⟩ := hSw; (try simp only [List.getElem_toArray, List.getElem_cons_succ, List.getElem_cons_zero]); go_simp; try (with_reducible rfl))
                    try simp only [Act.put, List.getElem_toArray, List.getElem_cons_succ, List.getElem_cons_zero, List.setIfInBounds_toArray, List.set_cons_zero, List.set_cons_succ]
                    refine wpAnyH_take (i := 4) (v := ?_) rfl (by kernel_rfl) (by kernel_rfl) (by kernel_rfl) (fun _ _ _ h => h) (Or.inl ⟨by rfl, ?_⟩) (by assumption) ?_
                    rotate_left
                    · (intro wS hSw; (try dsimp only at hSw); obtain ⟨hS1, hS2⟩ := hSw; (try simp only [List.getElem_toArray, List.getElem_cons_succ, List.getElem_cons_zero]); go_simp; try (with_reducible rfl))
                    try simp only [Act.put, List.getElem_toArray, List.getElem_cons_succ, List.getElem_cons_zero, List.setIfInBounds_toArray, List.set_cons_zero, List.set_cons_succ]
                    refine wpAnyH_take (i := 5) (v := ?_) rfl (by kernel_rfl) (by kernel_rfl) (by kernel_rfl) (fun _ _ _ h => h) (Or.inl ⟨by rfl, ?_⟩) (by assumption) ?_
                    rotate_left
                    · (intro wS hSw; (try dsimp only at hSw); obtain ⟨hS1, hS2⟩ := hSw; (try simp only [List.getElem_toArray, List.getElem_cons_succ, List.getElem_cons_zero]); go_simp; try (with_reducible rfl))
                    try simp only [Act.put, List.getElem_toArray, List.getElem_cons_succ, List.getElem_cons_zero, List.setIfInBounds_toArray, List.set_cons_zero, List.set_cons_succ]
                    refine wpAnyH_take (i := 6) (v := ?_) rfl (by kernel_rfl) (by kernel_rfl) (by kernel_rfl) (fun _ _ _ h => h) (Or.inl ⟨by rfl, ?_⟩) (by assumption) ?_
                    rotate_left
                    · (intro wS hSw; (try dsimp only at hSw); obtain ⟨hS1, hS2⟩ := hSw; (try simp only [List.getElem_toArray, List.getElem_cons_succ, List.getElem_cons_zero]); go_simp; try (with_reducible rfl))
                    try simp only [Act.put, List.getElem_toArray, List.getElem_cons_succ, List.getElem_cons_zero, List.setIfInBounds_toArray, List.set_cons_zero, List.set_cons_succ]
                    refine wpAnyH_take (i := 7) (v := ?_) rfl (by kernel_rfl) (by kernel_rfl) (by kernel_rfl) (fun _ _ _ h => h) (Or.inl ⟨by rfl, ?_⟩) (by assumption) ?_
                    rotate_left
                    · (intro wS hSw; (try dsimp only at hSw); obtain ⟨hS1, hS2⟩ := hSw; (try simp only [List.getElem_toArray, List.getElem_cons_succ, List.getElem_cons_zero]); go_simp; try (with_reducible rfl))
                    try simp only [Act.put, List.getElem_toArray, List.getElem_cons_succ, List.getElem_cons_zero, List.setIfInBounds_toArray, List.set_cons_zero, List.set_cons_succ]
                    refine wpAnyH_ready (rs := [8]) (by kernel_rfl) (by simp) ?_
                    refine AllReadyH.cons rfl (fun K hK => ?_) AllReadyH.nil
                    go_simp
                    refine (refText C (by omega) (by omega) _).mono ?_
                    rintro e x2' ⟨rfl, hk14⟩
                    rw [← HT5.out]
                    have k14 := k13.trans hk14 (fun _ _ h => h)
                    have hS14 := HSall.out _ k14
                    have OS14 := Lib.hid (OS12.out.quiet k14)
                    clear hk14 hS13
                    go_wp2_with fail
                    refine hK.out _ _ hS14 (fun hHeld => ?_)
                    clear hK K
                    try simp only [Act.put, List.getElem_toArray, List.getElem_cons_succ, List.getElem_cons_zero, List.setIfInBounds_toArray, List.set_cons_zero, List.set_cons_succ]
                    refine wpAnyH_take (i := 9) (v := ?_) rfl (by kernel_rfl) (by kernel_rfl) (by kernel_rfl) (fun _ _ _ h => h) (Or.inl ⟨by rfl, ?_⟩) (by assumption) ?_
                    rotate_left
                    · (intro wS hSw; (try dsimp only at hSw); obtain ⟨hS1, hS2⟩ := hSw; (try simp only [List.getElem_toArray, List.getElem_cons_succ, List.getElem_cons_zero]); go_simp; try (with_reducible rfl))
                    try simp only [Act.put, List.getElem_toArray, List.getElem_cons_succ, List.getElem_cons_zero, List.setIfInBounds_toArray, List.set_cons_zero, List.set_cons_succ]
                    refine wpAnyH_take (i := 10) (v := ?_) rfl (by kernel_rfl) (by kernel_rfl) (by kernel_rfl) (fun _ _ _ h => h) (Or.inl ⟨by rfl, ?_⟩) (by assumption) ?_
                    rotate_left
                    · (intro wS hSw; (try dsimp only at hSw); obtain ⟨hS1, hS2⟩ := hSw; (try simp only [List.getElem_toArray, List.getElem_cons_succ, List.getElem_cons_zero]); go_simp; try (with_reducible rfl))
                    try simp only [Act.put, List.getElem_toArray, List.getElem_cons_succ, List.getElem_cons_zero, List.setIfInBounds_toArray, List.set_cons_zero, List.set_cons_succ]
                    refine wpAnyH_take (i := 11) (v := ?_) rfl (by kernel_rfl) (by kernel_rfl) (by kernel_rfl) (fun _ _ _ h => h) (Or.inl ⟨by rfl, ?_⟩) (by assumption) ?_
                    rotate_left
                    · (intro wS hSw; (try dsimp only at hSw); obtain ⟨hS1, hS2⟩ := hSw; (try simp only [List.getElem_toArray, List.getElem_cons_succ, List.getElem_cons_zero]); go_simp; try (with_reducible rfl))
                    try simp only [Act.put, List.getElem_toArray, List.getElem_cons_succ, List.getElem_cons_zero, List.setIfInBounds_toArray, List.set_cons_zero, List.set_cons_succ]
                    refine wpAnyH_take (i := 12) (v := ?_) rfl (by kernel_rfl) (by kernel_rfl) (by kernel_rfl) (fun _ _ _ h => h) (Or.inl ⟨by rfl, ?_⟩) (by assumption) ?_
                    rotate_left
                    · (intro wS hSw; (try dsimp only at hSw); obtain ⟨hS1, hS2⟩ := hSw; (try simp only [List.getElem_toArray, List.getElem_cons_succ, List.getElem_cons_zero]); go_simp; try (with_reducible rfl))
                    try simp only [Act.put, List.getElem_toArray, List.getElem_cons_succ, List.getElem_cons_zero, List.setIfInBounds_toArray, List.set_cons_zero, List.set_cons_succ]
                    refine wpAnyH_take (i := 13) (v := ?_) rfl (by kernel_rfl) (by kernel_rfl) (by kernel_rfl) (fun _ _ _ h => h) (Or.inl ⟨by rfl, ?_⟩) (by assumption) ?_
                    rotate_left
                    · (intro wS hSw; (try dsimp only at hSw); obtain ⟨hS1, hS2⟩ := hSw; (try simp only [List.getElem_toArray, List.getElem_cons_succ, List.getElem_cons_zero]); go_simp; try (with_reducible rfl))
                    try simp only [Act.put, List.getElem_toArray, List.getElem_cons_succ, List.getElem_cons_zero, List.setIfInBounds_toArray, List.set_cons_zero, List.set_cons_succ]
                    refine wpAnyH_take (i := 14) (v := ?_) rfl (by kernel_rfl) (by kernel_rfl) (by kernel_rfl) (fun _ _ _ h => h) (Or.inl ⟨by rfl, ?_⟩) (by assumption) ?_
                    rotate_left
                    · (intro wS hSw; (try dsimp only at hSw); obtain ⟨hS1, hS2⟩ := hSw; (try simp only [List.getElem_toArray, List.getElem_cons_succ, List.getElem_cons_zero]); go_simp; try (with_reducible rfl))
                    try simp only [Act.put, List.getElem_toArray, List.getElem_cons_succ, List.getElem_cons_zero, List.setIfInBounds_toArray, List.set_cons_zero, List.set_cons_succ]
                    refine wpAnyH_take (i := 15) (v := ?_) rfl (by kernel_rfl) (by kernel_rfl) (by kernel_rfl) (fun _ _ _ h => h) (Or.inl ⟨by rfl, ?_⟩) (by assumption) ?_
                    rotate_left
                    · (intro wS hSw; (try dsimp only at hSw); obtain ⟨hS1, hS2⟩ := hSw; (try simp only [List.getElem_toArray, List.getElem_cons_succ, List.getElem_cons_zero]); go_simp; try (with_reducible rfl))
                    try simp only [Act.put, List.getElem_toArray, List.getElem_cons_succ, List.getElem_cons_zero, List.setIfInBounds_toArray, List.set_cons_zero, List.set_cons_succ]
                    refine wpAnyH_take (i := 16) (v := ?_) rfl (by kernel_rfl) (by kernel_rfl) (by kernel_rfl) (fun _ _ _ h => h) (Or.inl ⟨by rfl, ?_⟩) (by assumption) ?_
                    rotate_left
                    · (intro wS hSw; (try dsimp only at hSw); obtain ⟨hS1, hS2⟩ := hSw; (try simp only [List.getElem_toArray, List.getElem_cons_succ, List.getElem_cons_zero]); go_simp; try (with_reducible rfl))
                    try simp only [Act.put, List.getElem_toArray, List.getElem_cons_succ, List.getElem_cons_zero, List.setIfInBounds_toArray, List.set_cons_zero, List.set_cons_succ]
                    refine wpAnyH_take (i := 17) (v := ?_) rfl (by kernel_rfl) (by kernel_rfl) (by kernel_rfl) (fun _ _ _ h => h) (Or.inl ⟨by rfl, ?_⟩) (by assumption) ?_
                    rotate_left
                    · (intro wS hSw; (try dsimp only at hSw); obtain ⟨hS1, hS2⟩ := hSw; (try simp only [List.getElem_toArray, List.getElem_cons_succ, List.getElem_cons_zero]); go_simp; try (with_reducible rfl))
                    try simp only [Act.put, List.getElem_toArray, List.getElem_cons_succ, List.getElem_cons_zero, List.setIfInBounds_toArray, List.set_cons_zero, List.set_cons_succ]
                    refine wpAnyH_ready (rs := [18]) (by kernel_rfl) (by simp) ?_
                    refine AllReadyH.cons rfl (fun K hK => ?_) AllReadyH.nil
                    go_simp
                    refine (panswer OS14.out.a OS14.out.env HO12.out 250 (by decide)).mono ?_
                    rintro e x3' ⟨he, F15, hV15, hK15, hM15⟩
                    rw [HN5.out] at he
                    subst he
                    have hS15 : x3'.cell? ⟨B5, 1, none⟩ = some (.string t5) ∧ x3'.cell? ⟨B6, 1, none⟩ = some (.string { data := #[50, 53, 48, 32, 111, 107, 13, 10] }) := ⟨hK15.cell hS14.1 HNF5.out, hK15.cell hS14.2 HNF6.out⟩
                    have OS15 := Lib.hid (OS14.out.next (s' := s11.answer 250) hV15 hK15 hM15)
                    clear hV15 hK15 hM15 hS14
                    go_wp2_with fail
                    refine hK.out _ _ hS15 (fun hHeld => ?_)
                    clear hK K
                    try simp only [Act.put, List.getElem_toArray, List.getElem_cons_succ, List.getElem_cons_zero, List.setIfInBounds_toArray, List.set_cons_zero, List.set_cons_succ]
                    refine wpAnyH_take (i := 19) (v := ?_) rfl (by kernel_rfl) (by kernel_rfl) (by kernel_rfl) (fun _ _ _ h => h) (Or.inl ⟨by rfl, ?_⟩) (by assumption) ?_
                    rotate_left
                    · (intro wS hSw; (try dsimp only at hSw); obtain ⟨hS1, hS2⟩ := hSw; (try simp only [List.getElem_toArray, List.getElem_cons_succ, List.getElem_cons_zero]); go_simp; try (with_reducible rfl))
                    try simp only [Act.put, List.getElem_toArray, List.getElem_cons_succ, List.getElem_cons_zero, List.setIfInBounds_toArray, List.set_cons_zero, List.set_cons_succ]
                    refine wpAnyH_take (i := 20) (v := ?_) rfl (by kernel_rfl) (by kernel_rfl) (by kernel_rfl) (fun _ _ _ h => h) (Or.inl ⟨by rfl, ?_⟩) (by assumption) ?_
                    rotate_left
                    · (intro wS hSw; (try dsimp only at hSw); obtain ⟨hS1, hS2⟩ := hSw; (try simp only [List.getElem_toArray, List.getElem_cons_succ, List.getElem_cons_zero]); go_simp; try (with_reducible rfl))
                    try simp only [Act.put, List.getElem_toArray, List.getElem_cons_succ, List.getElem_cons_zero, List.setIfInBounds_toArray, List.set_cons_zero, List.set_cons_succ]
                    refine wpAnyH_take (i := 21) (v := ?_) rfl (by kernel_rfl) (by kernel_rfl) (by kernel_rfl) (fun _ _ _ h => h) (Or.inl ⟨by rfl, ?_⟩) (by assumption) ?_
                    rotate_left
                    · (intro wS hSw; (try dsimp only at hSw); obtain ⟨hS1, hS2⟩ := hSw; (try simp only [List.getElem_toArray, List.getElem_cons_succ, List.getElem_cons_zero]); go_simp; try (with_reducible rfl))
                    try simp only [Act.put, List.getElem_toArray, List.getElem_cons_succ, List.getElem_cons_zero, List.setIfInBounds_toArray, List.set_cons_zero, List.set_cons_succ]
                    refine wpAnyH_done (by kernel_rfl) ?_ _
                    refine NoPanic.normal ?_
                    go_wp2
                    go_ret
                    exact ⟨rfl, (KZ.out.trans OS15.out.kp (fun _ _ h => h)).below (Nat.le_refl _) (fun _ h => h.elim)⟩
                · obtain ⟨t, ht, ht3, htl⟩ := told_at n (box9 a0) (x1.map box9) x2 j (by omega)
                  have HTL := Lib.hid htl
                  have HHT := Lib.hid ht
                  clear ht htl
                  go_wp2_with fail
                  refine (pnext_some OS.out.a OS.out.env HGS.out (.say t) ((told n (box9 a0) (x1.map box9) x2).drop (j + 1)) (by rw [HGO'.out]; exact HHT.out)).mono ?_
                  rintro e u2 ⟨k2, t2, f2, rx2, rn2, rc2, bx2, bn2, bc2, s8, F8, _, rfl, hEv8, _, _, hgo8, gd8, _, _, _, hV8, hK8, hM8⟩
                  obtain ⟨rfl, rfl⟩ := say_is hEv8
                  obtain ⟨W2, V2, HW2, HVV2, hk2, hA2⟩ := laid_ev u2 1 t2 f2 rx2 bx2 rn2 rc2 bn2 bc2
                  have OS2 := Lib.hid ((OS.out.next hV8 hK8 hM8).quiet hk2)
                  have HG2 : Hid (s8.go V9 = Zm n (box9 a0) (x1.map box9) x2 (j + 1)) := Lib.hid (by rw [hgo8, HGO'.out, Zm_pop])
                  have HFS2 : Hid (∀ b, F8 b → b < w1.heap.size ∨ w6.heap.size ≤ b) := Lib.hid (fun b hb => by
                    rcases hM8 b hb with h | h
                    · exact HFS.out b h
                    · exact .inr (Nat.le_trans HZS.out h))
                  have HZS2 : Hid (w6.heap.size ≤ W2.heap.size) := Lib.hid (Nat.le_trans HZS.out (Nat.le_trans hK8.size hk2.size))
                  have HVS2 := Lib.hid ((HVS.out.keep hK8 (fun b hb hF => by have h1 := HOW.out b hb; have h2 := HFS.out b hF; omega)).quiet hk2)
                  have HGD := Lib.hid gd8
                  have q0 : W2.cell? ⟨u2.heap.size, 0, none⟩ = some (.int .i64 1) := hA2.cell 0
                  have q1 : W2.cell? ⟨u2.heap.size, 1, none⟩ = some (.string t2) := hA2.cell 1
                  have hb3 : (3 : Int) ≤ (t2.size : Int) := by omega
                  have HSL : Hid (j + 1 = n + 4 → ((said ++ t2.extract 0 3) ++ ({ data := #[32] } : ByteArray)).extract (4 * n + 12) (4 * n + 16) = { data := #[51, 53, 52, 32] }) := Lib.hid (fun h => said_last (m := 4 * n + 12) (by omega) (HTL.out (by omega)))
                  rw [← HVV2.out]
                  clear hEv8 hgo8 gd8 hV8 hK8 hM8 hk2 hA2 HHT
                  go_wp2_with (refine step_laidE (by rfl) (.tmp 20) (.tmp 136) (by rfl) u2 (by rfl) 1 t2 f2 rx2 bx2 rn2 rc2 bn2 bc2 W2 HW2.out (by rfl) HVV2.out ?_)
                  go_roundw
                  case rel => exact ⟨j + 1, _, s8, F8, by omega, rfl, by have e1 : ({ data := #[32] } : ByteArray).size = 1 := rfl; simp only [ByteArray.size_append, ByteArray.size_extract]; omega, HSL.out, OS2.out, HGD.out, HG2.out, HFS2.out, HZS2.out, HVS2.out⟩
                  case measure =>
                    have e1 : ({ data := #[32] } : ByteArray).size = 1 := rfl
                    simp only [szOf, ByteArray.size_append, ByteArray.size_extract]
                    omega


    · have h10' : ((c : Int) != 10) = true := bne_iff_ne.2 (by omega)
      go_enter Tryz.func4, Tryz.ntmps4
      go_wp2_with fail
      refine HP.out.mono ?_
      rintro e u1 ⟨rfl, hk1⟩

      have hc1 := hk1.cell hc (fun h => h)
      go_wp2_with fail
      refine (HA.out _ (HE.out.quiet hk1) (Nat.le_trans h9 hk1.size)).mono ?_
      rintro e ua ⟨rfl, hka⟩
      go_wp2
      go_ret
      exact ⟨rfl, (hk1.trans hka (fun _ _ h => h)).below (Nat.le_refl _) (fun _ h => h.elim)⟩

  · have HLAST : Hid (x2 = [] ∨ x2.getD (x2.length - 1) 0 = 10) := Lib.hid (.inl (List.eq_nil_of_length_eq_zero (by omega)))
    go_enter Tryz.func4, Tryz.ntmps4
    go_wp2_with fail
    refine HP.out.mono ?_
    rintro e u1 ⟨rfl, hk1⟩
    skip
    have K1 := Lib.hid hk1
    have HB1 := Lib.hid (HB.out.quiet hk1)
    go_wp2
    clear hk1
    go_loopw [11, 12] (fun at' i wr => ∃ (k a : Nat) (D : List (List Nat)), k ≤ x2.length ∧ a ≤ k ∧ i = .int .i64 (k : Int) ∧ at' = .int .i64 (a : Int) ∧ wr = u1 ∧ Hid (StAt x2 D a k) ∧ Hid (∀ l ∈ D, l.length ≤ 999) ∧ Hid (∀ j, j < k → x2.getD j 0 ≠ 13)) (fun _ i _ => x2.length - (intOf i).toNat)
    case atStart => exact ⟨0, 0, [], Nat.zero_le _, Nat.le_refl _, rfl, rfl, rfl, StAt.start x2, by show ∀ l ∈ [], _; simp, fun j h => absurd h (Nat.not_lt_zero _)⟩
    case round =>
      obtain ⟨k, a, D, hk, hak, rfl, rfl, rfl, HST, HLE, H13⟩ := hrel
      by_cases hlt : (k : Int) < (x2.length : Int)
      · exact absurd hlt (by omega)
      · have hkn : k = x2.length := by omega
        subst hkn
        have HBODY : Hid (bodyB x2 = true) := Lib.hid (by
          rcases HLAST.out with h | h
          · rw [h]; rfl
          · by_cases he : x2 = []
            · rw [he]; rfl
            · have hp : 0 < x2.length := List.length_pos_iff.2 he
              rw [bodyB_last H13.out hp, h]; rfl)
        have HLN : Hid (linesOf x2 = D) := Lib.hid (HST.out.done HBODY.out)
        have HCL : Hid (∀ l ∈ linesOf x2, clean l ∧ l.length ≤ 999) := Lib.hid (fun l hl => ⟨fun c hc => ⟨(linesOf_mem hl c hc).1, fun e => by
            subst e
            have hm := (linesOf_mem hl _ hc).2
            obtain ⟨j, hj, hje⟩ := List.getElem_of_mem hm
            exact H13.out j hj (by rw [List.getD_eq_getElem?_getD, List.getElem?_eq_getElem hj, hje]; rfl)⟩, HLE.out l (by rw [← HLN.out]; exact hl)⟩)
        clear HST HLE H13 HLN hlt hk
        have HF := Lib.hid (isF_of (f := a0) (by rw [← HLQ.out]; exact HPP.out))
        have HE0 := Lib.hid (HE.out.quiet K1.out)
        have h90 := Lib.hid (Nat.le_trans h9 K1.out.size)
        have HN1 := Lib.hid (pnew { data := #[109, 120] } (by decide) 8192 (by decide) wr HE0.out h90.out)
        rw [host_mx] at HN1
        obtain ⟨wz, hwz⟩ : ∃ wz, wz = wr := ⟨_, rfl⟩
        have KZ : Hid (Keep (fun _ => False) w wz) := Lib.hid (by rw [hwz]; exact K1.out)
        go_wp2_with fail
        refine HN1.out.mono ?_
        rintro e w1 ⟨g, F1, rfl, hV1, hK1, hF1⟩
        have O1 : Hid (One wz w1 g F1 (Se.new { data := #[109, 120] } 8192)) := Lib.hid (by rw [hwz]; exact ⟨hV1, HE0.out.quiet hK1, hK1, hF1, h90.out⟩)
        have KX := Lib.hid (K1.out.trans hK1 (fun _ _ h => h))
        have hfz := HF.out.2
        have HF1 : Hid (∀ b, F1 b → b < w1.heap.size) := Lib.hid hV1.lt
        clear hV1 hK1 hF1 HN1 hwz
        go_wp2
        obtain ⟨T0, hT0⟩ : ∃ T0, T0 = ({ data := #[72, 69, 76, 79, 32, 97, 13, 10, 77, 65, 73, 76, 32, 70, 82, 79, 77, 58, 60] } ++ a0) ++ ({ data := #[62, 13, 10] } : ByteArray) := ⟨_, rfl⟩
        have HT0 : Hid (ns T0 = rl lHelo ++ (rl (lMail a0) ++ rcptsT (x1.take 0))) := Lib.hid (by rw [hT0]; exact text_0 a0)
        have hz0 : T0.size ≤ 200 := by
          have h := congrArg List.length HT0.out
          rw [ns_length] at h
          have e : a0.size ≤ 64 := hfz
          have e2 : (lMail a0).size ≤ 512 := (lMail_ok HF.out.1).2
          have e3 := ns_length a0
          rw [h]
          simp [rl, rcptsT, ns_length, lHelo, ns, lMail]
          omega
        rw [← hT0]
        clear hT0
        go_loopw [14, 15, 16] (fun tv v i wx => ∃ (k : Nat) (T : ByteArray), k ≤ x1.length ∧ i = .int .i64 (k : Int) ∧ tv = .string T ∧ T.size ≤ 200 + 100 * k ∧ Hid (ns T = rl lHelo ++ (rl (lMail a0) ++ rcptsT (x1.take k))) ∧ Hid (Tso w1.heap.size wx v ((x1.take k).map box9)) ∧ Hid (Keep (fun _ => False) w1 wx) ∧ Hid (∀ r ∈ x1.take k, Ad.isBox r.data.toList = true)) (fun _ _ i _ => x1.length - (intOf i).toNat)
        case atStart => exact ⟨0, T0, Nat.zero_le _, rfl, rfl, hz0, HT0.out, Tso.empty _ _, Lib.hid (Keep.refl _ _), by show ∀ r ∈ [], _; simp⟩
        case round =>
          obtain ⟨k, T, hk, rfl, rfl, hz, HT, HV, HK, HBX⟩ := hrel
          by_cases hlt : (k : Int) < (x1.length : Int)
          · have hkl : k < x1.length := by omega
            obtain ⟨b1, off1, hb1, hx1, hc1⟩ := HS.out k x1[k] (List.getElem?_eq_getElem hkl)
            subst hx1
            have hzr := z1 x1[k] (List.getElem_mem hkl)
            obtain ⟨r, hr⟩ : ∃ r, r = x1[k] := ⟨_, rfl⟩
            rw [← hr] at hc1 hzr
            have htk : x1.take (k + 1) = x1.take k ++ [r] := by rw [hr]; exact List.take_succ_eq_append_getElem hkl
            have HTK := Lib.hid htk
            have cx := (KX.out.trans HK.out (fun _ _ h => h)).cell hc1 (fun h => h)
            have k0 : (0 : Int) ≤ (k : Int) := by omega
            clear hr htk
            go_wp2_with fail
            refine (parse_big r (by omega) wr).mono ?_
            rintro e w2 ⟨rfl, hk2⟩
            have K2 := Lib.hid (HK.out.trans hk2 (fun _ _ h => h))
            cases hb : Ad.isBox r.data.toList with
            | false =>
              go_wp2_with fail
              refine (HA.out _ (O1.out.env.quiet K2.out) (Nat.le_trans O1.out.sz K2.out.size)).mono ?_
              rintro e ua ⟨rfl, hka⟩
              go_wp2
              go_ret
              exact ⟨rfl, ((KX.out.trans K2.out (fun _ _ h => h)).trans hka (fun _ _ h => h)).below (Nat.le_refl _) (fun _ h => h.elim)⟩
            | true =>
              have HBR := Lib.hid hb
              have hrs : r.size ≤ 64 := by
                have e : r.data.toList.length = r.size := Array.length_toList
                have := box_len hb
                omega
              have ka : Keep (fun _ => False) w2 (w2.alloc (.cells #[.string (box9 r)] 9)) := (Keep.refl _ w2).alloc _
              have HV2 := Lib.hid ((HV.out.quiet hk2).quiet ka)
              have hAt : (w2.alloc (.cells #[.string (box9 r)] 9)).cell? ⟨w2.heap.size, 0, none⟩ = some (.string (box9 r)) := (At.new w2 9 #[.string (box9 r)]).cell 0
              have HAT := Lib.hid hAt
              have KA := Lib.hid (K2.out.trans ka (fun _ _ h => h))
              have HC1 := Lib.hid hc1
              clear hk2 hb ka hAt cx
              go_wp2_with
                (at_builtin
                 refine wpList_append_tso (by rfl) (.tmp 112) (.tmp 114) (by rfl) _ _ (by rfl) HV2.out KA.out.size w2.heap.size (box9 r) (by rfl) HAT.out (by rw [List.length_map, List.length_take]; omega) ?_
                 intro y4 n4 c4 w4 hn4 hT4 hk4
                 have HV4 : Hid (Tso w1.heap.size w4 (.slice y4 n4 c4) ((x1.take (k + 1)).map box9)) := Lib.hid (by rw [HTK.out, List.map_append]; exact hT4)
                 have K4 := Lib.hid (KA.out.trans hk4 (fun i hi e => by have := (HV2.out.lt i e).1; omega))
                 have c4' := (KX.out.trans K4.out (fun _ _ h => h)).cell HC1.out (fun h => h)
                 clear hn4 hT4 hk4)
              have HT4 : Hid (ns (((T ++ { data := #[82, 67, 80, 84, 32, 84, 79, 58, 60] }) ++ r) ++ { data := #[62, 13, 10] }) = rl lHelo ++ (rl (lMail a0) ++ rcptsT (x1.take (k + 1)))) := Lib.hid (by rw [HTK.out]; exact text_next HT.out)
              have HB4 : Hid (∀ s ∈ x1.take (k + 1), Ad.isBox s.data.toList = true) := Lib.hid (fun s hs => by
                rw [HTK.out] at hs
                rcases List.mem_append.1 hs with h | h
                · exact HBX.out s h
                · rw [List.mem_singleton] at h; subst h; exact HBR.out)
              go_roundw
              case rel => exact ⟨k + 1, _, by omega, by go_num, rfl, by have e1 : ({ data := #[82, 67, 80, 84, 32, 84, 79, 58, 60] } : ByteArray).size = 9 := rfl; have e2 : ({ data := #[62, 13, 10] } : ByteArray).size = 3 := rfl; simp only [ByteArray.size_append]; omega, HT4.out, HV4.out, K4.out, HB4.out⟩
              case measure => simp [intOf]; omega
          · have hkn : k = x1.length := by omega
            subst hkn
            rw [List.take_length] at HT HV HBX
            have HB2 := Lib.hid (HB.out.quiet (KX.out.trans HK.out (fun _ _ h => h)))
            have O2 := Lib.hid (O1.out.quiet HK.out)
            have HJ : Hid (joinL (linesOf x2) = x2) := Lib.hid (bodyB_body HBODY.out).2.symm
            have H256 : Hid (∀ l ∈ linesOf x2, ∀ c ∈ l, c < 256) := Lib.hid (joinL_lt (by rw [HJ.out]; exact HB.out.1))
            have hsl : (stuffM (linesOf x2)).length ≤ 6010 := by
              have := stuffs_count (linesOf x2)
              rw [HJ.out] at this
              simp [stuffM]
              omega
            have HX1 : Hid (1 ≤ x1.length ∧ x1.length ≤ 8) := Lib.hid ⟨by omega, by omega⟩
            go_wp2_with fail
            refine (refStuff rfl l2 HB2.out (by omega) HBODY.out).mono ?_
            rintro e w5 ⟨rfl, hw5⟩
            subst hw5
            obtain ⟨S2, hS2⟩ : ∃ S2, S2 = str (stuffM (linesOf x2)) := ⟨_, rfl⟩
            rw [← hS2]
            have hs2 : S2.size ≤ 6010 := by rw [hS2, str_size]; exact hsl
            obtain ⟨c6, w6, kc6, hB6, hK6⟩ := conv_str (((T ++ { data := #[68, 65, 84, 65, 13, 10] }) ++ S2) ++ { data := #[78, 79, 79, 80, 13, 10] }) w5
            obtain ⟨M, hM⟩ : ∃ M, M = mailT a0 x1 (linesOf x2) (rl lNoop) := ⟨_, rfl⟩
            have hall : ns (((T ++ { data := #[68, 65, 84, 65, 13, 10] }) ++ S2) ++ { data := #[78, 79, 79, 80, 13, 10] }) = M := by rw [hS2, hM]; exact text_all HT.out H256.out
            have HZ : Hid ((((T ++ { data := #[68, 65, 84, 65, 13, 10] }) ++ S2) ++ { data := #[78, 79, 79, 80, 13, 10] } : ByteArray).size = M.length) := Lib.hid (by rw [← hall, ns_length])
            rw [hall] at hB6
            have HB6 := Lib.hid hB6
            have HML : Hid (M.length ≤ 100000) := Lib.hid (by
              have h := HZ.out
              simp only [ByteArray.size_append] at h
              have e1 : ({ data := #[68, 65, 84, 65, 13, 10] } : ByteArray).size = 6 := rfl
              have e2 : ({ data := #[78, 79, 79, 80, 13, 10] } : ByteArray).size = 6 := rfl
              omega)
            have O6 := Lib.hid (O2.out.quiet hK6)
            have HV6 := Lib.hid (HV.out.quiet hK6)
            have HGO : Hid (((Se.new mx9 8192).fed M).go V9 = Zm x1.length (box9 a0) (x1.map box9) x2 0) := Lib.hid (by
              have h := go_mails mx9 (f := a0) (rs := x1) (L := linesOf x2) (rl lNoop) HF.out.1 HBX.out (fun e => by have := HX1.out.1; rw [e] at this; simp at this) HX1.out.2 HCL.out (by rw [HJ.out]; omega)
              rw [← hM, HJ.out] at h
              exact h)
            have HM := Lib.hid hM
            have HS2 := Lib.hid hS2
            clear hM hS2 hall hB6 hK6
            go_wp2_with fail
            refine (pfeed O6.out.a O6.out.env (some ⟨w5.heap.size, 0, none⟩) _ c6 M (by have h := HZ.out; have e1 : ({ data := #[68, 65, 84, 65, 13, 10] } : ByteArray).size = 6 := rfl; have e2 : ({ data := #[78, 79, 79, 80, 13, 10] } : ByteArray).size = 6 := rfl; simp [ByteArray.size_append] at h ⊢; omega) HB6.out (by have := HML.out; simp [Se.new, Se.say]; omega)).mono ?_
            rintro e w7 ⟨rfl, F7, hV7, hK7, hM7⟩
            have HF7 : Hid (∀ b, F7 b → b < w1.heap.size ∨ w6.heap.size ≤ b) := Lib.hid (fun b hb => by
              rcases hM7 b hb with h | h
              · exact .inl (HF1.out b h)
              · exact .inr h)
            have HZ7 : Hid (w6.heap.size ≤ w7.heap.size) := Lib.hid hK7.size
            have HOW : Hid (∀ b, u15.ownBlock = some b → w1.heap.size ≤ b ∧ b < w6.heap.size) := Lib.hid HV6.out.lt
            have HV7 := Lib.hid (HV6.out.keep hK7 (fun b hb hF => by have h1 := (HOW.out b hb).1; have h2 := HF1.out b hF; omega))
            have O7 : Hid (One wz w7 g F7 ((Se.new mx9 8192).fed M)) := Lib.hid (O6.out.next (s' := (Se.new mx9 8192).fed M) hV7 hK7 hM7)
            have HG7 : Hid (Gd ((Se.new mx9 8192).fed M)) := Lib.hid ((Gd.new mx9 8192 (by decide)).fed M (by have := HML.out; simp [Se.new, Se.say]; omega))
            clear hV7 hK7 hM7
            obtain ⟨n, hnx⟩ : ∃ n, n = x1.length := ⟨_, rfl⟩
            have hn8 : n ≤ 8 := by rw [hnx]; exact HX1.out.2
            rw [← hnx] at HGO
            have HNX := Lib.hid hnx
            clear hnx
            go_wp2
            go_loopw [19] (fun sv wr => ∃ (j : Nat) (said : ByteArray) (s : Se) (F : Nat → Prop), j ≤ n + 4 ∧ sv = .string said ∧ said.size = 4 * j ∧ Hid (j = n + 4 → said.extract (4 * n + 12) (4 * n + 16) = { data := #[51, 53, 52, 32] }) ∧ Hid (One wz wr g F s) ∧ Hid (Gd s) ∧ Hid (s.go V9 = Zm n (box9 a0) (x1.map box9) x2 j) ∧ Hid (∀ b, F b → b < w1.heap.size ∨ w6.heap.size ≤ b) ∧ Hid (w6.heap.size ≤ wr.heap.size) ∧ Hid (Tso w1.heap.size wr u15 (x1.map box9))) (fun sv _ => 4 * n + 20 - szOf sv)
            case atStart => exact ⟨0, { data := #[] }, _, F7, Nat.zero_le _, rfl, rfl, fun h => by omega, O7.out, HG7.out, HGO.out, HF7.out, HZ7.out, HV7.out⟩
            case round =>
              obtain ⟨j, said, s, F, hj, rfl, hsz, HLS, OS, HGS, HGO', HFS, HZS, HVS⟩ := hrel
              by_cases hlast : j = n + 4
              · subst hlast
                obtain ⟨Z, hZ⟩ : ∃ Z, Z = Zm n (box9 a0) (x1.map box9) x2 (n + 5) := ⟨_, rfl⟩
                have HZ : Hid (Z = Zm n (box9 a0) (x1.map box9) x2 (n + 5)) := hZ
                have hpm : Ad.bs (Ad.pathM l) = box9 a0 := by rw [HLQ.out, (angled_path (by rw [← HLQ.out]; exact HPP.out)).2]; rfl
                rw [hpm]
                clear hZ hpm
                go_wp2_with fail
                refine (pnext_some OS.out.a OS.out.env HGS.out (.keep (box9 a0) (x1.map box9) x2) [] (by rw [HGO'.out]; exact told_last n (box9 a0) (x1.map box9) x2)).mono ?_
                rintro e u2 ⟨k2, t2, f2, rx2, rn2, rc2, bx2, bn2, bc2, s8, F8, E8, rfl, hEv8, hME, hEl, hgo8, gd8, _, _, _, hV8, hK8, hM8⟩
                obtain ⟨e1, e2, e3, hTx, hBv⟩ := hEv8.parts
                have e3' : f2 = box9 a0 := e3
                have e1' : k2 = 2 := e1
                clear e1 e3
                subst e1' e3'
                have hz8 : s8 = Z := by
                  rw [HZ.out]
                  exact is_five (by rw [hgo8, HGO'.out, Zm_pop]) (Zm_end _ _ _ _).1 (Zm_end _ _ _ _).2
                subst hz8
                obtain ⟨W2, V2, HW2, HVV2, hk2, hA2⟩ := laid_ev u2 2 t2 (box9 a0) rx2 bx2 rn2 rc2 bn2 bc2
                have OS2 := Lib.hid ((OS.out.next hV8 hK8 hM8).quiet hk2)
                have HFS2 : Hid (∀ b, F8 b → b < w1.heap.size ∨ w6.heap.size ≤ b) := Lib.hid (fun b hb => by
                  rcases hM8 b hb with h | h
                  · exact HFS.out b h
                  · exact .inr (Nat.le_trans HZS.out h))
                have HVS2 := Lib.hid ((HVS.out.keep hK8 (fun b hb hF => by have h1 := HOW.out b hb; have h2 := HFS.out b hF; omega)).quiet hk2)
                have HTX := Lib.hid (hTx.keep hk2 (fun b _ hb => ⟨fun h => h, hb⟩))
                have HBV := Lib.hid (hBv.keep hk2 (fun b _ hb => ⟨fun h => h, hb⟩))
                have HB8 := Lib.hid ((HB.out.quiet KZ.out).keep OS2.out.kp (fun _ _ _ h => h))
                have HA2 := Lib.hid hA2
                have HGD := Lib.hid gd8
                obtain ⟨p0, p1, _, _, _, p5, p6, p7⟩ := hA2.eight
                obtain ⟨xv, cv, hv15, hT15⟩ := HVS2.out.txtR
                rw [hv15, List.length_map] at hT15
                rw [List.length_map] at hv15
                have HT15 := Lib.hid hT15
                clear e2
                obtain ⟨SB, hSB⟩ : ∃ SB, SB = str x2 := ⟨_, rfl⟩
                have HC1 : Hid (∀ X, Keep (fun _ => False) W2 X → (convert 34 9 (.slice bx2 bn2 bc2)).run Tryz.prog X = .ok (.string SB) X ∧ (convert 34 9 (.slice a2 x2.length cap2)).run Tryz.prog X = .ok (.string SB) X) := Lib.hid (fun X k => by
                  obtain ⟨x, c, hv, _, hBy⟩ := HBV.out
                  injection hv with h1 h2 h3
                  subst h1 h2 h3
                  rw [hSB]
                  exact ⟨run_str (hBy.quiet k) _ _ rfl, run_str (HB8.out.quiet k) x2.length cap2 rfl⟩)
                clear hSB
                have HPS := Lib.hid (And.intro p5 (And.intro p6 p7))
                clear p5 p6 p7 p1
                rw [← HVV2.out]
                clear hEv8 hME hEl hgo8 gd8 hV8 hK8 hM8 hk2 hA2 hTx hBv hT15
                subst hv15
                go_upto_region 30 with (refine step_laidE (by rfl) (.tmp 20) (.tmp 136) (by rfl) u2 (by rfl) 2 t2 (box9 a0) rx2 bx2 rn2 rc2 bn2 bc2 W2 HW2.out (by rfl) HVV2.out ?_)
                obtain ⟨p5, p6, p7⟩ := HPS.out
                go_wp2_with fail
                refine (textsC (L := x1.map box9) rx2 xv rn2 x1.length rc2 cv HTX.out HT15.out (by rw [List.length_map]; have := HX1.out.2; omega)).mono ?_
                rintro e w4 ⟨rfl, hk4⟩
                have q7 := hk4.cell p7 (fun h => h)
                obtain ⟨cv1, cv2⟩ := HC1.out w4 hk4
                have OS4 := Lib.hid (OS2.out.quiet hk4)
                clear p0 p5 p6 p7 hk4
                go_upto_region 34 with fail
                clear cv1 cv2 q7
                have hnn := HNX.out
                clear HNX
                subst hnn
                have hls := HLS.out trivial
                have hcut : ∀ w, (Instr.slice 9 (.string said) (some (.int .i64 (4 * ((x1.length : Int) + 4) - 4))) none none).run Tryz.prog w = .ok (.string { data := #[51, 53, 52, 32] }) w := fun w => by
                  rw [run_slice_string_l w 9 said Tryz.underlying9 .i64 (4 * ((x1.length : Int) + 4) - 4) (by omega) (by omega), show (4 * ((x1.length : Int) + 4) - 4).toNat = 4 * x1.length + 12 by omega, show said.size = 4 * x1.length + 16 by omega, hls]
                have hszI : (said.size : Int) = 4 * ((x1.length : Int) + 4) := by omega
                have hl0 : (0 : Int) ≤ (x1.length : Int) := by omega
                have hl8 : (x1.length : Int) ≤ 8 := by omega
                clear hls hsz
                go_upto_region 37 with fail
                clear hcut hszI
                have hb3 := bounds_i64 w3
                have ho8 : s8.out = [] := by rw [HZ.out]; exact (Zm_end _ _ _ _).2
                have hza := Zm_answer x1.length (box9 a0) (x1.map box9) x2 a3
                rw [← HZ.out] at hza
                have HZA := Lib.hid hza.1
                have HZG := Lib.hid hza.2
                have HGD5 := Lib.hid (HGD.out.answer ho8 a3)
                have HO8 := Lib.hid ho8
                clear hza ho8
                go_wp2_with fail
                refine (panswer OS4.out.a OS4.out.env HO8.out a3 w3).mono ?_
                rintro e w5' ⟨he, F9, hV9, hK9, hM9⟩
                have OS9 := Lib.hid (OS4.out.next (s' := s8.answer a3) hV9 hK9 hM9)
                rw [HZA.out] at he
                clear hV9 hK9 hM9
                by_cases hlo : a3 < 200
                · have hd : decide (200 ≤ a3 ∧ a3 ≤ 599) = false := decide_eq_false (by omega)
                  rw [hd] at he
                  subst he
                  clear hd
                  go_wp2_with fail
                  refine (HA.out _ OS9.out.env OS9.out.sz).mono ?_
                  rintro e ua ⟨rfl, hka⟩
                  go_wp2
                  go_ret
                  exact ⟨rfl, ((KZ.out.trans OS9.out.kp (fun _ _ h => h)).trans hka (fun _ _ h => h)).below (Nat.le_refl _) (fun _ h => h.elim)⟩
                by_cases hhi : 599 < a3
                · have hd : decide (200 ≤ a3 ∧ a3 ≤ 599) = false := decide_eq_false (by omega)
                  rw [hd] at he
                  subst he
                  clear hd
                  go_wp2_with fail
                  refine (HA.out _ OS9.out.env OS9.out.sz).mono ?_
                  rintro e ua ⟨rfl, hka⟩
                  go_wp2
                  go_ret
                  exact ⟨rfl, ((KZ.out.trans OS9.out.kp (fun _ _ h => h)).trans hka (fun _ _ h => h)).below (Nat.le_refl _) (fun _ h => h.elim)⟩
                have hval : 200 ≤ a3 ∧ a3 ≤ 599 := by omega
                rw [decide_eq_true hval] at he
                subst he
                have HZY : Hid ((s8.answer a3).go V9 = Ya a3) := Lib.hid (HZG.out hval)
                have dhi : decide (599 < a3) = false := decide_eq_false hhi
                clear hval
                go_wp2_with fail
                refine (pnext_some OS9.out.a OS9.out.env HGD5.out (.say (reply (codeN a3))) [.say (reply 250)] (by rw [HZY.out]; rfl)).mono ?_
                rintro e u5 ⟨k5, t5, f5, rx5, rn5, rc5, bx5, bn5, bc5, s10, F10, E10, rfl, hEv10, hME10, hEl10, hgo10, gd10, hX1, hX2, hX3, hV10, hK10, hM10⟩
                obtain ⟨hk5, ht5⟩ := say_is hEv10
                subst hk5
                have HT5 := Lib.hid ht5
                obtain ⟨W5, V5, HW5, HVV5, hk5, hA5⟩ := laid_ev u5 1 t5 f5 rx5 bx5 rn5 rc5 bn5 bc5
                have OS10 := Lib.hid ((OS9.out.next hV10 hK10 hM10).quiet hk5)
                have HG10 : Hid (s10.go V9 = (Ya a3).pop) := Lib.hid (by rw [hgo10, HZY.out])
                have HGD10 := Lib.hid gd10
                obtain ⟨B5, hB5⟩ : ∃ B, B = u5.heap.size := ⟨_, rfl⟩
                rw [← hB5] at hA5
                have HNF10 : Hid (¬ F10 B5) := Lib.hid (fun h => by have := PS.lt hV10 _ h; omega)
                have HA5 := Lib.hid hA5
                have HB5 := Lib.hid hB5
                clear hEv10 hME10 hEl10 hgo10 gd10 hX1 hX2 hX3 hV10 hK10 hM10 hk5 hA5 ht5
                rw [← HVV5.out]
                go_upto_region 41 with (refine step_laidE (by rfl) (.tmp 24) (.tmp 209) (by rfl) u5 (by rfl) 1 t5 f5 rx5 bx5 rn5 rc5 bn5 bc5 W5 HW5.out (by rfl) HVV5.out ?_)
                rw [← HB5.out]
                clear HB5 hB5
                go_wp2_with fail
                refine (pnext_some OS10.out.a OS10.out.env HGD10.out (.say (reply 250)) [] (by rw [HG10.out]; rfl)).mono ?_
                rintro e u6 ⟨k6, t6, f6, rx6, rn6, rc6, bx6, bn6, bc6, s11, F11, E11, rfl, hEv11, hME11, hEl11, hgo11, gd11, hX1, hX2, hX3, hV11, hK11, hM11⟩
                obtain ⟨hk6, ht6⟩ := say_is hEv11
                rw [reply250] at ht6
                subst hk6 ht6
                obtain ⟨W6, V6, HW6, HVV6, hk6, hA6⟩ := laid_ev u6 1 { data := #[50, 53, 48, 32, 111, 107, 13, 10] } f6 rx6 bx6 rn6 rc6 bn6 bc6
                have OS12 := Lib.hid ((OS10.out.next hV11 hK11 hM11).quiet hk6)
                have hg11 : s11.go V9 = (Ya a3).pop.pop := by rw [hgo11, HG10.out]
                have HO12 : Hid (s11.out = []) := Lib.hid (go_nil (V := V9) (by rw [hg11]; rfl))
                have HN5 : Hid (ansOk s11 250 = false) := Lib.hid (not_five (V := V9) (by rw [hg11]; show (1 : Nat) ≠ 5; decide) 250)
                obtain ⟨B6, hB6⟩ : ∃ B, B = u6.heap.size := ⟨_, rfl⟩
                rw [← hB6] at hA6
                have HNF6 : Hid (¬ F11 B6) := Lib.hid (fun h => by have := PS.lt hV11 _ h; omega)
                have HNF5 : Hid (¬ F11 B5) := Lib.hid (fun h => by
                  rcases hM11 _ h with h1 | h1
                  · exact HNF10.out h1
                  · have := HA5.out.lt; omega)
                have HSall : Hid (∀ Z, Keep (fun _ => False) W6 Z → Z.cell? ⟨B5, 1, none⟩ = some (.string t5) ∧ Z.cell? ⟨B6, 1, none⟩ = some (.string { data := #[50, 53, 48, 32, 111, 107, 13, 10] })) := Lib.hid (fun Z k => ⟨(((HA5.out.keep hK11 HNF10.out).keep hk6 (fun h => h)).keep k (fun h => h)).cell 1, (hA6.keep k (fun h => h)).cell 1⟩)
                have HB6 := Lib.hid hB6
                have kD : Keep (fun _ => False) W6 W6.drew := (Keep.refl _ W6).drew
                clear hEv11 hME11 hEl11 hgo11 gd11 hX1 hX2 hX3 hV11 hK11 hM11 hk6 hA6 hg11
                rw [← HVV6.out]
                go_upto_region 42 with (refine step_laidE (by rfl) (.tmp 26) (.tmp 214) (by rfl) u6 (by rfl) 1 { data := #[50, 53, 48, 32, 111, 107, 13, 10] } f6 rx6 bx6 rn6 rc6 bn6 bc6 W6 HW6.out (by rfl) HVV6.out ?_)
                rw [← HB6.out]
                clear HB6 hB6
                by_cases h300 : a3 < 300
                · rw [codeN, if_pos h300] at HT5
                  go_upto_region 44 with fail
                  refine wp_region_noPanic ?_
                  refine wp_region_held_drew (S := fun Z => Z.cell? ⟨B5, 1, none⟩ = some (.string t5) ∧ Z.cell? ⟨B6, 1, none⟩ = some (.string { data := #[50, 53, 48, 32, 111, 107, 13, 10] })) (by kernel_rfl) (HSall.out _ kD) (fun hHeld => ?_)
                  refine wpAnyH_ready (rs := [0]) (by kernel_rfl) (by simp) ?_
                  refine AllReadyH.cons rfl (fun K hK => ?_) AllReadyH.nil
                  go_simp
                  refine (HA.out _ (OS12.out.env.quiet kD) (Nat.le_trans OS12.out.sz kD.size)).mono ?_
                  rintro e x1' ⟨rfl, hk13⟩
                  have k13 := kD.trans hk13 (fun _ _ h => h)
                  have hS13 := HSall.out _ k13
                  clear hk13
                  go_wp2_with fail
                  refine hK.out _ _ hS13 (fun hHeld => ?_)
                  clear hK K
                  try simp only [Act.put, List.getElem_toArray, List.getElem_cons_succ, List.getElem_cons_zero, List.setIfInBounds_toArray, List.set_cons_zero, List.set_cons_succ]
                  refine wpAnyH_take (i := 1) (v := ?_) rfl (by kernel_rfl) (by kernel_rfl) (by kernel_rfl) (fun _ _ _ h => h) (Or.inl ⟨by rfl, ?_⟩) (by assumption) ?_
                  rotate_left
                  · (intro wS hSw; (try dsimp only at hSw); obtain ⟨hS1, hS2⟩ := hSw; (try simp only [List.getElem_toArray, List.getElem_cons_succ, List.getElem_cons_zero]); go_simp; try (with_reducible rfl))
                  try simp only [Act.put, List.getElem_toArray, List.getElem_cons_succ, List.getElem_cons_zero, List.setIfInBounds_toArray, List.set_cons_zero, List.set_cons_succ]
                  refine wpAnyH_take (i := 2) (v := ?_) rfl (by kernel_rfl) (by kernel_rfl) (by kernel_rfl) (fun _ _ _ h => h) (Or.inl ⟨by rfl, ?_⟩) (by assumption) ?_
                  rotate_left
                  · (intro wS hSw; (try dsimp only at hSw); obtain ⟨hS1, hS2⟩ := hSw; (try simp only [List.getElem_toArray, List.getElem_cons_succ, List.getElem_cons_zero]); go_simp; try (with_reducible rfl))
                  try simp only [Act.put, List.getElem_toArray, List.getElem_cons_succ, List.getElem_cons_zero, List.setIfInBounds_toArray, List.set_cons_zero, List.set_cons_succ]
                  refine wpAnyH_take (i := 3) (v := ?_) rfl (by kernel_rfl) (by kernel_rfl) (by kernel_rfl) (fun _ _ _ h => h) (Or.inl ⟨by rfl, ?_⟩) (by assumption) ?_
                  rotate_left
                  · (intro wS hSw; (try dsimp only at hSw); obtain ⟨hS1, hS2⟩ := hSw; (try simp only [List.getElem_toArray, List.getElem_cons_succ, List.getElem_cons_zero]); go_simp; try (with_reducible rfl))
                  try simp only [Act.put, List.getElem_toArray, List.getElem_cons_succ, List.getElem_cons_zero, List.setIfInBounds_toArray, List.set_cons_zero, List.set_cons_succ]
                  refine wpAnyH_take (i := 4) (v := ?_) rfl (by kernel_rfl) (by kernel_rfl) (by kernel_rfl) (fun _ _ _ h => h) (Or.inl ⟨by rfl, ?_⟩) (by assumption) ?_
                  rotate_left
                  · (intro wS hSw; (try dsimp only at hSw); obtain ⟨hS1, hS2⟩ := hSw; (try simp only [List.getElem_toArray, List.getElem_cons_succ, List.getElem_cons_zero]); go_simp; try (with_reducible rfl))
                  try simp only [Act.put, List.getElem_toArray, List.getElem_cons_succ, List.getElem_cons_zero, List.setIfInBounds_toArray, List.set_cons_zero, List.set_cons_succ]
                  refine wpAnyH_take (i := 5) (v := ?_) rfl (by kernel_rfl) (by kernel_rfl) (by kernel_rfl) (fun _ _ _ h => h) (Or.inl ⟨by rfl, ?_⟩) (by assumption) ?_
                  rotate_left
                  · (intro wS hSw; (try dsimp only at hSw); obtain ⟨hS1, hS2⟩ := hSw; (try simp only [List.getElem_toArray, List.getElem_cons_succ, List.getElem_cons_zero]); go_simp; try (with_reducible rfl))
                  try simp only [Act.put, List.getElem_toArray, List.getElem_cons_succ, List.getElem_cons_zero, List.setIfInBounds_toArray, List.set_cons_zero, List.set_cons_succ]
                  refine wpAnyH_take (i := 6) (v := ?_) rfl (by kernel_rfl) (by kernel_rfl) (by kernel_rfl) (fun _ _ _ h => h) (Or.inl ⟨by rfl, ?_⟩) (by assumption) ?_
                  rotate_left
                  · (intro wS hSw; (try dsimp only at hSw); obtain ⟨hS1, hS2⟩ := hSw; (try simp only [List.getElem_toArray, List.getElem_cons_succ, List.getElem_cons_zero]); go_simp; try (with_reducible rfl))
                  try simp only [Act.put, List.getElem_toArray, List.getElem_cons_succ, List.getElem_cons_zero, List.setIfInBounds_toArray, List.set_cons_zero, List.set_cons_succ]
                  refine wpAnyH_take (i := 7) (v := ?_) rfl (by kernel_rfl) (by kernel_rfl) (by kernel_rfl) (fun _ _ _ h => h) (Or.inl ⟨by rfl, ?_⟩) (by assumption) ?_
                  rotate_left
                  · (intro wS hSw; (try dsimp only at hSw); obtain ⟨hS1, hS2⟩ := hSw; (try simp only [List.getElem_toArray, List.getElem_cons_succ, List.getElem_cons_zero]); go_simp; try (with_reducible rfl))
                  try simp only [Act.put, List.getElem_toArray, List.getElem_cons_succ, List.getElem_cons_zero, List.setIfInBounds_toArray, List.set_cons_zero, List.set_cons_succ]
                  refine wpAnyH_ready (rs := [8]) (by kernel_rfl) (by simp) ?_
                  refine AllReadyH.cons rfl (fun K hK => ?_) AllReadyH.nil
                  go_simp
                  refine (refText 250 (by omega) (by omega) _).mono ?_
                  rintro e x2' ⟨rfl, hk14⟩
                  rw [← HT5.out]
                  have k14 := k13.trans hk14 (fun _ _ h => h)
                  have hS14 := HSall.out _ k14
                  have OS14 := Lib.hid (OS12.out.quiet k14)
                  clear hk14 hS13
                  go_wp2_with fail
                  refine hK.out _ _ hS14 (fun hHeld => ?_)
                  clear hK K
                  try simp only [Act.put, List.getElem_toArray, List.getElem_cons_succ, List.getElem_cons_zero, List.setIfInBounds_toArray, List.set_cons_zero, List.set_cons_succ]
                  refine wpAnyH_take (i := 9) (v := ?_) rfl (by kernel_rfl) (by kernel_rfl) (by kernel_rfl) (fun _ _ _ h => h) (Or.inl ⟨by rfl, ?_⟩) (by assumption) ?_
                  rotate_left
                  · (intro wS hSw; (try dsimp only at hSw); obtain ⟨hS1, hS2⟩ := hSw; (try simp only [List.getElem_toArray, List.getElem_cons_succ, List.getElem_cons_zero]); go_simp; try (with_reducible rfl))
                  try simp only [Act.put, List.getElem_toArray, List.getElem_cons_succ, List.getElem_cons_zero, List.setIfInBounds_toArray, List.set_cons_zero, List.set_cons_succ]
                  refine wpAnyH_take (i := 10) (v := ?_) rfl (by kernel_rfl) (by kernel_rfl) (by kernel_rfl) (fun _ _ _ h => h) (Or.inl ⟨by rfl, ?_⟩) (by assumption) ?_
                  rotate_left
                  · (intro wS hSw; (try dsimp only at hSw); obtain ⟨hS1, hS2⟩ := hSw; (try simp only [List.getElem_toArray, List.getElem_cons_succ, List.getElem_cons_zero]); go_simp; try (with_reducible rfl))
                  try simp only [Act.put, List.getElem_toArray, List.getElem_cons_succ, List.getElem_cons_zero, List.setIfInBounds_toArray, List.set_cons_zero, List.set_cons_succ]
                  refine wpAnyH_take (i := 11) (v := ?_) rfl (by kernel_rfl) (by kernel_rfl) (by kernel_rfl) (fun _ _ _ h => h) (Or.inl ⟨by rfl, ?_⟩) (by assumption) ?_
                  rotate_left
                  · (intro wS hSw; (try dsimp only at hSw); obtain ⟨hS1, hS2⟩ := hSw; (try simp only [List.getElem_toArray, List.getElem_cons_succ, List.getElem_cons_zero]); go_simp; try (with_reducible rfl))
                  try simp only [Act.put, List.getElem_toArray, List.getElem_cons_succ, List.getElem_cons_zero, List.setIfInBounds_toArray, List.set_cons_zero, List.set_cons_succ]
                  refine wpAnyH_take (i := 12) (v := ?_) rfl (by kernel_rfl) (by kernel_rfl) (by kernel_rfl) (fun _ _ _ h => h) (Or.inl ⟨by rfl, ?_⟩) (by assumption) ?_
                  rotate_left
                  · (intro wS hSw; (try dsimp only at hSw); obtain ⟨hS1, hS2⟩ := hSw; (try simp only [List.getElem_toArray, List.getElem_cons_succ, List.getElem_cons_zero]); go_simp; try (with_reducible rfl))
                  try simp only [Act.put, List.getElem_toArray, List.getElem_cons_succ, List.getElem_cons_zero, List.setIfInBounds_toArray, List.set_cons_zero, List.set_cons_succ]
                  refine wpAnyH_take (i := 13) (v := ?_) rfl (by kernel_rfl) (by kernel_rfl) (by kernel_rfl) (fun _ _ _ h => h) (Or.inl ⟨by rfl, ?_⟩) (by assumption) ?_
                  rotate_left
                  · (intro wS hSw; (try dsimp only at hSw); obtain ⟨hS1, hS2⟩ := hSw; (try simp only [List.getElem_toArray, List.getElem_cons_succ, List.getElem_cons_zero]); go_simp; try (with_reducible rfl))
                  try simp only [Act.put, List.getElem_toArray, List.getElem_cons_succ, List.getElem_cons_zero, List.setIfInBounds_toArray, List.set_cons_zero, List.set_cons_succ]
                  refine wpAnyH_take (i := 14) (v := ?_) rfl (by kernel_rfl) (by kernel_rfl) (by kernel_rfl) (fun _ _ _ h => h) (Or.inl ⟨by rfl, ?_⟩) (by assumption) ?_
                  rotate_left
                  · (intro wS hSw; (try dsimp only at hSw); obtain ⟨hS1, hS2⟩ := hSw; (try simp only [List.getElem_toArray, List.getElem_cons_succ, List.getElem_cons_zero]); go_simp; try (with_reducible rfl))
                  try simp only [Act.put, List.getElem_toArray, List.getElem_cons_succ, List.getElem_cons_zero, List.setIfInBounds_toArray, List.set_cons_zero, List.set_cons_succ]
                  refine wpAnyH_take (i := 15) (v := ?_) rfl (by kernel_rfl) (by kernel_rfl) (by kernel_rfl) (fun _ _ _ h => h) (Or.inl ⟨by rfl, ?_⟩) (by assumption) ?_
                  rotate_left
                  · (intro wS hSw; (try dsimp only at hSw); obtain ⟨hS1, hS2⟩ := hSw; (try simp only [List.getElem_toArray, List.getElem_cons_succ, List.getElem_cons_zero]); go_simp; try (with_reducible rfl))
                  try simp only [Act.put, List.getElem_toArray, List.getElem_cons_succ, List.getElem_cons_zero, List.setIfInBounds_toArray, List.set_cons_zero, List.set_cons_succ]
                  refine wpAnyH_take (i := 16) (v := ?_) rfl (by kernel_rfl) (by kernel_rfl) (by kernel_rfl) (fun _ _ _ h => h) (Or.inl ⟨by rfl, ?_⟩) (by assumption) ?_
                  rotate_left
                  · (intro wS hSw; (try dsimp only at hSw); obtain ⟨hS1, hS2⟩ := hSw; (try simp only [List.getElem_toArray, List.getElem_cons_succ, List.getElem_cons_zero]); go_simp; try (with_reducible rfl))
                  try simp only [Act.put, List.getElem_toArray, List.getElem_cons_succ, List.getElem_cons_zero, List.setIfInBounds_toArray, List.set_cons_zero, List.set_cons_succ]
                  refine wpAnyH_take (i := 17) (v := ?_) rfl (by kernel_rfl) (by kernel_rfl) (by kernel_rfl) (fun _ _ _ h => h) (Or.inl ⟨by rfl, ?_⟩) (by assumption) ?_
                  rotate_left
                  · (intro wS hSw; (try dsimp only at hSw); obtain ⟨hS1, hS2⟩ := hSw; (try simp only [List.getElem_toArray, List.getElem_cons_succ, List.getElem_cons_zero]); go_simp; try (with_reducible rfl))
                  try simp only [Act.put, List.getElem_toArray, List.getElem_cons_succ, List.getElem_cons_zero, List.setIfInBounds_toArray, List.set_cons_zero, List.set_cons_succ]
                  refine wpAnyH_ready (rs := [18]) (by kernel_rfl) (by simp) ?_
                  refine AllReadyH.cons rfl (fun K hK => ?_) AllReadyH.nil
                  go_simp
                  refine (panswer OS14.out.a OS14.out.env HO12.out 250 (by decide)).mono ?_
                  rintro e x3' ⟨he, F15, hV15, hK15, hM15⟩
                  rw [HN5.out] at he
                  subst he
                  have hS15 : x3'.cell? ⟨B5, 1, none⟩ = some (.string t5) ∧ x3'.cell? ⟨B6, 1, none⟩ = some (.string { data := #[50, 53, 48, 32, 111, 107, 13, 10] }) := ⟨hK15.cell hS14.1 HNF5.out, hK15.cell hS14.2 HNF6.out⟩
                  have OS15 := Lib.hid (OS14.out.next (s' := s11.answer 250) hV15 hK15 hM15)
                  clear hV15 hK15 hM15 hS14
                  go_wp2_with fail
                  refine hK.out _ _ hS15 (fun hHeld => ?_)
                  clear hK K
                  try simp only [Act.put, List.getElem_toArray, List.getElem_cons_succ, List.getElem_cons_zero, List.setIfInBounds_toArray, List.set_cons_zero, List.set_cons_succ]
                  refine wpAnyH_take (i := 19) (v := ?_) rfl (by kernel_rfl) (by kernel_rfl) (by kernel_rfl) (fun _ _ _ h => h) (Or.inl ⟨by rfl, ?_⟩) (by assumption) ?_
                  rotate_left
                  · (intro wS hSw; (try dsimp only at hSw); obtain ⟨hS1, hS2⟩ := hSw; (try simp only [List.getElem_toArray, List.getElem_cons_succ, List.getElem_cons_zero]); go_simp; try (with_reducible rfl))
                  try simp only [Act.put, List.getElem_toArray, List.getElem_cons_succ, List.getElem_cons_zero, List.setIfInBounds_toArray, List.set_cons_zero, List.set_cons_succ]
                  refine wpAnyH_take (i := 20) (v := ?_) rfl (by kernel_rfl) (by kernel_rfl) (by kernel_rfl) (fun _ _ _ h => h) (Or.inl ⟨by rfl, ?_⟩) (by assumption) ?_
                  rotate_left
                  · (intro wS hSw; (try dsimp only at hSw); obtain ⟨hS1, hS2⟩ := hSw; (try simp only [List.getElem_toArray, List.getElem_cons_succ, List.getElem_cons_zero]); go_simp; try (with_reducible rfl))
                  try simp only [Act.put, List.getElem_toArray, List.getElem_cons_succ, List.getElem_cons_zero, List.setIfInBounds_toArray, List.set_cons_zero, List.set_cons_succ]
                  refine wpAnyH_take (i := 21) (v := ?_) rfl (by kernel_rfl) (by kernel_rfl) (by kernel_rfl) (fun _ _ _ h => h) (Or.inl ⟨by rfl, ?_⟩) (by assumption) ?_
                  rotate_left
                  · (intro wS hSw; (try dsimp only at hSw); obtain ⟨hS1, hS2⟩ := hSw; (try simp only [List.getElem_toArray, List.getElem_cons_succ, List.getElem_cons_zero]); go_simp; try (with_reducible rfl))
                  try simp only [Act.put, List.getElem_toArray, List.getElem_cons_succ, List.getElem_cons_zero, List.setIfInBounds_toArray, List.set_cons_zero, List.set_cons_succ]
                  refine wpAnyH_done (by kernel_rfl) ?_ _
                  refine NoPanic.normal ?_
                  go_wp2
                  go_ret
                  exact ⟨rfl, (KZ.out.trans OS15.out.kp (fun _ _ h => h)).below (Nat.le_refl _) (fun _ h => h.elim)⟩
                · rw [codeN, if_neg h300] at HT5
                  obtain ⟨C, rfl⟩ : ∃ C : Nat, a3 = (C : Int) := ⟨a3.toNat, by omega⟩
                  rw [Int.toNat_natCast] at HT5
                  go_upto_region 44 with fail
                  refine wp_region_noPanic ?_
                  refine wp_region_held_drew (S := fun Z => Z.cell? ⟨B5, 1, none⟩ = some (.string t5) ∧ Z.cell? ⟨B6, 1, none⟩ = some (.string { data := #[50, 53, 48, 32, 111, 107, 13, 10] })) (by kernel_rfl) (HSall.out _ kD) (fun hHeld => ?_)
                  refine wpAnyH_ready (rs := [0]) (by kernel_rfl) (by simp) ?_
                  refine AllReadyH.cons rfl (fun K hK => ?_) AllReadyH.nil
                  go_simp
                  refine (HA.out _ (OS12.out.env.quiet kD) (Nat.le_trans OS12.out.sz kD.size)).mono ?_
                  rintro e x1' ⟨rfl, hk13⟩
                  have k13 := kD.trans hk13 (fun _ _ h => h)
                  have hS13 := HSall.out _ k13
                  clear hk13
                  go_wp2_with fail
                  refine hK.out _ _ hS13 (fun hHeld => ?_)
                  clear hK K
                  try simp only [Act.put, List.getElem_toArray, List.getElem_cons_succ, List.getElem_cons_zero, List.setIfInBounds_toArray, List.set_cons_zero, List.set_cons_succ]
                  refine wpAnyH_take (i := 1) (v := ?_) rfl (by kernel_rfl) (by kernel_rfl) (by kernel_rfl) (fun _ _ _ h => h) (Or.inl ⟨by rfl, ?_⟩) (by assumption) ?_
                  rotate_left
                  · (intro wS hSw; (try dsimp only at hSw); obtain ⟨hS1, hS2⟩ := hSw; (try simp only [List.getElem_toArray, List.getElem_cons_succ, List.getElem_cons_zero]); go_simp; try (with_reducible rfl))
                  try simp only [Act.put, List.getElem_toArray, List.getElem_cons_succ, List.getElem_cons_zero, List.setIfInBounds_toArray, List.set_cons_zero, List.set_cons_succ]
                  refine wpAnyH_take (i := 2) (v := ?_) rfl (by kernel_rfl) (by kernel_rfl) (by kernel_rfl) (fun _ _ _ h => h) (Or.inl ⟨by rfl, ?_⟩) (by assumption) ?_
                  rotate_left
                  · (intro wS hSw; (try dsimp only at hSw); obtain ⟨hS1, hS2⟩ := hSw; (try simp only [List.getElem_toArray, List.getElem_cons_succ, List.getElem_cons_zero]); go_simp; try (with_reducible rfl))
                  try simp only [Act.put, List.getElem_toArray, List.getElem_cons_succ, List.getElem_cons_zero, List.setIfInBounds_toArray, List.set_cons_zero, List.set_cons_succ]
                  refine wpAnyH_take (i := 3) (v := ?_) rfl (by kernel_rfl) (by kernel_rfl) (by kernel_rfl) (fun _ _ _ h => h) (Or.inl ⟨by rfl, ?_⟩) (by assumption) ?_
                  rotate_left
                  · (intro wS hSw; (try dsimp only at hSw); obtain ⟨hS1, hS2⟩ := hSw; (try simp only [List.getElem_toArray, List.getElem_cons_succ, List.getElem_cons_zero]); go_simp; try (with_reducible rfl))
                  try simp only [Act.put, List.getElem_toArray, List.getElem_cons_succ, List.getElem_cons_zero, List.setIfInBounds_toArray, List.set_cons_zero, List.set_cons_succ]
                  refine wpAnyH_take (i := 4) (v := ?_) rfl (by kernel_rfl) (by kernel_rfl) (by kernel_rfl) (fun _ _ _ h => h) (Or.inl ⟨by rfl, ?_⟩) (by assumption) ?_
                  rotate_left
                  · (intro wS hSw; (try dsimp only at hSw); obtain ⟨hS1, hS2⟩ := hSw; (try simp only [List.getElem_toArray, List.getElem_cons_succ, List.getElem_cons_zero]); go_simp; try (with_reducible rfl))
                  try simp only [Act.put, List.getElem_toArray, List.getElem_cons_succ, List.getElem_cons_zero, List.setIfInBounds_toArray, List.set_cons_zero, List.set_cons_succ]
                  refine wpAnyH_take (i := 5) (v := ?_) rfl (by kernel_rfl) (by kernel_rfl) (by kernel_rfl) (fun _ _ _ h => h) (Or.inl ⟨by rfl, ?_⟩) (by assumption) ?_
                  rotate_left
                  · (intro wS hSw; (try dsimp only at hSw); obtain ⟨hS1, hS2⟩ := hSw; (try simp only [List.getElem_toArray, List.getElem_cons_succ, List.getElem_cons_zero]); go_simp; try (with_reducible rfl))
                  try simp only [Act.put, List.getElem_toArray, List.getElem_cons_succ, List.getElem_cons_zero, List.setIfInBounds_toArray, List.set_cons_zero, List.set_cons_succ]
                  refine wpAnyH_take (i := 6) (v := ?_) rfl (by kernel_rfl) (by kernel_rfl) (by kernel_rfl) (fun _ _ _ h => h) (Or.inl ⟨by rfl, ?_⟩) (by assumption) ?_
                  rotate_left
                  · (intro wS hSw; (try dsimp only at hSw); obtain ⟨hS1, hS2⟩ := hSw; (try simp only [List.getElem_toArray, List.getElem_cons_succ, List.getElem_cons_zero]); go_simp; try (with_reducible rfl))
                  try simp only [Act.put, List.getElem_toArray, List.getElem_cons_succ, List.getElem_cons_zero, List.setIfInBounds_toArray, List.set_cons_zero, List.set_cons_succ]
                  refine wpAnyH_take (i := 7) (v := ?_) rfl (by kernel_rfl) (by kernel_rfl) (by kernel_rfl) (fun _ _ _ h => h) (Or.inl ⟨by rfl, ?_⟩) (by assumption) ?_
                  rotate_left
                  · (intro wS hSw; (try dsimp only at hSw); obtain ⟨hS1, hS2⟩ := hSw; (try simp only [List.getElem_toArray, List.getElem_cons_succ, List.getElem_cons_zero]); go_simp; try (with_reducible rfl))
                  try simp only [Act.put, List.getElem_toArray, List.getElem_cons_succ, List.getElem_cons_zero, List.setIfInBounds_toArray, List.set_cons_zero, List.set_cons_succ]
                  refine wpAnyH_ready (rs := [8]) (by kernel_rfl) (by simp) ?_
                  refine AllReadyH.cons rfl (fun K hK => ?_) AllReadyH.nil
                  go_simp
                  refine (refText C (by omega) (by omega) _).mono ?_
                  rintro e x2' ⟨rfl, hk14⟩
                  rw [← HT5.out]
                  have k14 := k13.trans hk14 (fun _ _ h => h)
                  have hS14 := HSall.out _ k14
                  have OS14 := Lib.hid (OS12.out.quiet k14)
                  clear hk14 hS13
                  go_wp2_with fail
                  refine hK.out _ _ hS14 (fun hHeld => ?_)
                  clear hK K
                  try simp only [Act.put, List.getElem_toArray, List.getElem_cons_succ, List.getElem_cons_zero, List.setIfInBounds_toArray, List.set_cons_zero, List.set_cons_succ]
                  refine wpAnyH_take (i := 9) (v := ?_) rfl (by kernel_rfl) (by kernel_rfl) (by kernel_rfl) (fun _ _ _ h => h) (Or.inl ⟨by rfl, ?_⟩) (by assumption) ?_
                  rotate_left
                  · (intro wS hSw; (try dsimp only at hSw); obtain ⟨hS1, hS2⟩ := hSw; (try simp only [List.getElem_toArray, List.getElem_cons_succ, List.getElem_cons_zero]); go_simp; try (with_reducible rfl))
                  try simp only [Act.put, List.getElem_toArray, List.getElem_cons_succ, List.getElem_cons_zero, List.setIfInBounds_toArray, List.set_cons_zero, List.set_cons_succ]
                  refine wpAnyH_take (i := 10) (v := ?_) rfl (by kernel_rfl) (by kernel_rfl) (by kernel_rfl) (fun _ _ _ h => h) (Or.inl ⟨by rfl, ?_⟩) (by assumption) ?_
                  rotate_left
                  · (intro wS hSw; (try dsimp only at hSw); obtain ⟨hS1, hS2⟩ := hSw; (try simp only [List.getElem_toArray, List.getElem_cons_succ, List.getElem_cons_zero]); go_simp; try (with_reducible rfl))
                  try simp only [Act.put, List.getElem_toArray, List.getElem_cons_succ, List.getElem_cons_zero, List.setIfInBounds_toArray, List.set_cons_zero, List.set_cons_succ]
                  refine wpAnyH_take (i := 11) (v := ?_) rfl (by kernel_rfl) (by kernel_rfl) (by kernel_rfl) (fun _ _ _ h => h) (Or.inl ⟨by rfl, ?_⟩) (by assumption) ?_
                  rotate_left
                  · (intro wS hSw; (try dsimp only at hSw); obtain ⟨hS1, hS2⟩ := hSw; (try simp only [List.getElem_toArray, List.getElem_cons_succ, List.getElem_cons_zero]); go_simp; try (with_reducible rfl))
                  try simp only [Act.put, List.getElem_toArray, List.getElem_cons_succ, List.getElem_cons_zero, List.setIfInBounds_toArray, List.set_cons_zero, List.set_cons_succ]
                  refine wpAnyH_take (i := 12) (v := ?_) rfl (by kernel_rfl) (by kernel_rfl) (by kernel_rfl) (fun _ _ _ h => h) (Or.inl ⟨by rfl, ?_⟩) (by assumption) ?_
                  rotate_left
                  · (intro wS hSw; (try dsimp only at hSw); obtain ⟨hS1, hS2⟩ := hSw; (try simp only [List.getElem_toArray, List.getElem_cons_succ, List.getElem_cons_zero]); go_simp; try (with_reducible rfl))
                  try simp only [Act.put, List.getElem_toArray, List.getElem_cons_succ, List.getElem_cons_zero, List.setIfInBounds_toArray, List.set_cons_zero, List.set_cons_succ]
                  refine wpAnyH_take (i := 13) (v := ?_) rfl (by kernel_rfl) (by kernel_rfl) (by kernel_rfl) (fun _ _ _ h => h) (Or.inl ⟨by rfl, ?_⟩) (by assumption) ?_
                  rotate_left
                  · (intro wS hSw; (try dsimp only at hSw); obtain ⟨hS1, hS2⟩ := hSw; (try simp only [List.getElem_toArray, List.getElem_cons_succ, List.getElem_cons_zero]); go_simp; try (with_reducible rfl))
                  try simp only [Act.put, List.getElem_toArray, List.getElem_cons_succ, List.getElem_cons_zero, List.setIfInBounds_toArray, List.set_cons_zero, List.set_cons_succ]
                  refine wpAnyH_take (i := 14) (v := ?_) rfl (by kernel_rfl) (by kernel_rfl) (by kernel_rfl) (fun _ _ _ h => h) (Or.inl ⟨by rfl, ?_⟩) (by assumption) ?_
                  rotate_left
                  · (intro wS hSw; (try dsimp only at hSw); obtain ⟨hS1, hS2⟩ := hSw; (try simp only [List.getElem_toArray, List.getElem_cons_succ, List.getElem_cons_zero]); go_simp; try (with_reducible rfl))
                  try simp only [Act.put, List.getElem_toArray, List.getElem_cons_succ, List.getElem_cons_zero, List.setIfInBounds_toArray, List.set_cons_zero, List.set_cons_succ]
                  refine wpAnyH_take (i := 15) (v := ?_) rfl (by kernel_rfl) (by kernel_rfl) (by kernel_rfl) (fun _ _ _ h => h) (Or.inl ⟨by rfl, ?_⟩) (by assumption) ?_
                  rotate_left
                  · (intro wS hSw; (try dsimp only at hSw); obtain ⟨hS1, hS2⟩ := hSw; (try simp only [List.getElem_toArray, List.getElem_cons_succ, List.getElem_cons_zero]); go_simp; try (with_reducible rfl))
                  try simp only [Act.put, List.getElem_toArray, List.getElem_cons_succ, List.getElem_cons_zero, List.setIfInBounds_toArray, List.set_cons_zero, List.set_cons_succ]
                  refine wpAnyH_take (i := 16) (v := ?_) rfl (by kernel_rfl) (by kernel_rfl) (by kernel_rfl) (fun _ _ _ h => h) (Or.inl ⟨by rfl, ?_⟩) (by assumption) ?_
                  rotate_left
                  · (intro wS hSw; (try dsimp only at hSw); obtain ⟨hS1, hS2⟩ := hSw; (try simp only [List.getElem_toArray, List.getElem_cons_succ, List.getElem_cons_zero]); go_simp; try (with_reducible rfl))
                  try simp only [Act.put, List.getElem_toArray, List.getElem_cons_succ, List.getElem_cons_zero, List.setIfInBounds_toArray, List.set_cons_zero, List.set_cons_succ]
                  refine wpAnyH_take (i := 17) (v := ?_) rfl (by kernel_rfl) (by kernel_rfl) (by kernel_rfl) (fun _ _ _ h => h) (Or.inl ⟨by rfl, ?_⟩) (by assumption) ?_
                  rotate_left
                  · (intro wS hSw; (try dsimp only at hSw); obtain ⟨hS1, hS2⟩ := hSw; (try simp only [List.getElem_toArray, List.getElem_cons_succ, List.getElem_cons_zero]); go_simp; try (with_reducible rfl))
                  try simp only [Act.put, List.getElem_toArray, List.getElem_cons_succ, List.getElem_cons_zero, List.setIfInBounds_toArray, List.set_cons_zero, List.set_cons_succ]
                  refine wpAnyH_ready (rs := [18]) (by kernel_rfl) (by simp) ?_
                  refine AllReadyH.cons rfl (fun K hK => ?_) AllReadyH.nil
                  go_simp
                  refine (panswer OS14.out.a OS14.out.env HO12.out 250 (by decide)).mono ?_
                  rintro e x3' ⟨he, F15, hV15, hK15, hM15⟩
                  rw [HN5.out] at he
                  subst he
                  have hS15 : x3'.cell? ⟨B5, 1, none⟩ = some (.string t5) ∧ x3'.cell? ⟨B6, 1, none⟩ = some (.string { data := #[50, 53, 48, 32, 111, 107, 13, 10] }) := ⟨hK15.cell hS14.1 HNF5.out, hK15.cell hS14.2 HNF6.out⟩
                  have OS15 := Lib.hid (OS14.out.next (s' := s11.answer 250) hV15 hK15 hM15)
                  clear hV15 hK15 hM15 hS14
                  go_wp2_with fail
                  refine hK.out _ _ hS15 (fun hHeld => ?_)
                  clear hK K
                  try simp only [Act.put, List.getElem_toArray, List.getElem_cons_succ, List.getElem_cons_zero, List.setIfInBounds_toArray, List.set_cons_zero, List.set_cons_succ]
                  refine wpAnyH_take (i := 19) (v := ?_) rfl (by kernel_rfl) (by kernel_rfl) (by kernel_rfl) (fun _ _ _ h => h) (Or.inl ⟨by rfl, ?_⟩) (by assumption) ?_
                  rotate_left
                  · (intro wS hSw; (try dsimp only at hSw); obtain ⟨hS1, hS2⟩ := hSw; (try simp only [List.getElem_toArray, List.getElem_cons_succ, List.getElem_cons_zero]); go_simp; try (with_reducible rfl))
                  try simp only [Act.put, List.getElem_toArray, List.getElem_cons_succ, List.getElem_cons_zero, List.setIfInBounds_toArray, List.set_cons_zero, List.set_cons_succ]
                  refine wpAnyH_take (i := 20) (v := ?_) rfl (by kernel_rfl) (by kernel_rfl) (by kernel_rfl) (fun _ _ _ h => h) (Or.inl ⟨by rfl, ?_⟩) (by assumption) ?_
                  rotate_left
                  · (intro wS hSw; (try dsimp only at hSw); obtain ⟨hS1, hS2⟩ := hSw; (try simp only [List.getElem_toArray, List.getElem_cons_succ, List.getElem_cons_zero]); go_simp; try (with_reducible rfl))
                  try simp only [Act.put, List.getElem_toArray, List.getElem_cons_succ, List.getElem_cons_zero, List.setIfInBounds_toArray, List.set_cons_zero, List.set_cons_succ]
                  refine wpAnyH_take (i := 21) (v := ?_) rfl (by kernel_rfl) (by kernel_rfl) (by kernel_rfl) (fun _ _ _ h => h) (Or.inl ⟨by rfl, ?_⟩) (by assumption) ?_
                  rotate_left
                  · (intro wS hSw; (try dsimp only at hSw); obtain ⟨hS1, hS2⟩ := hSw; (try simp only [List.getElem_toArray, List.getElem_cons_succ, List.getElem_cons_zero]); go_simp; try (with_reducible rfl))
                  try simp only [Act.put, List.getElem_toArray, List.getElem_cons_succ, List.getElem_cons_zero, List.setIfInBounds_toArray, List.set_cons_zero, List.set_cons_succ]
                  refine wpAnyH_done (by kernel_rfl) ?_ _
                  refine NoPanic.normal ?_
                  go_wp2
                  go_ret
                  exact ⟨rfl, (KZ.out.trans OS15.out.kp (fun _ _ h => h)).below (Nat.le_refl _) (fun _ h => h.elim)⟩
              · obtain ⟨t, ht, ht3, htl⟩ := told_at n (box9 a0) (x1.map box9) x2 j (by omega)
                have HTL := Lib.hid htl
                have HHT := Lib.hid ht
                clear ht htl
                go_wp2_with fail
                refine (pnext_some OS.out.a OS.out.env HGS.out (.say t) ((told n (box9 a0) (x1.map box9) x2).drop (j + 1)) (by rw [HGO'.out]; exact HHT.out)).mono ?_
                rintro e u2 ⟨k2, t2, f2, rx2, rn2, rc2, bx2, bn2, bc2, s8, F8, _, rfl, hEv8, _, _, hgo8, gd8, _, _, _, hV8, hK8, hM8⟩
                obtain ⟨rfl, rfl⟩ := say_is hEv8
                obtain ⟨W2, V2, HW2, HVV2, hk2, hA2⟩ := laid_ev u2 1 t2 f2 rx2 bx2 rn2 rc2 bn2 bc2
                have OS2 := Lib.hid ((OS.out.next hV8 hK8 hM8).quiet hk2)
                have HG2 : Hid (s8.go V9 = Zm n (box9 a0) (x1.map box9) x2 (j + 1)) := Lib.hid (by rw [hgo8, HGO'.out, Zm_pop])
                have HFS2 : Hid (∀ b, F8 b → b < w1.heap.size ∨ w6.heap.size ≤ b) := Lib.hid (fun b hb => by
                  rcases hM8 b hb with h | h
                  · exact HFS.out b h
                  · exact .inr (Nat.le_trans HZS.out h))
                have HZS2 : Hid (w6.heap.size ≤ W2.heap.size) := Lib.hid (Nat.le_trans HZS.out (Nat.le_trans hK8.size hk2.size))
                have HVS2 := Lib.hid ((HVS.out.keep hK8 (fun b hb hF => by have h1 := HOW.out b hb; have h2 := HFS.out b hF; omega)).quiet hk2)
                have HGD := Lib.hid gd8
                have q0 : W2.cell? ⟨u2.heap.size, 0, none⟩ = some (.int .i64 1) := hA2.cell 0
                have q1 : W2.cell? ⟨u2.heap.size, 1, none⟩ = some (.string t2) := hA2.cell 1
                have hb3 : (3 : Int) ≤ (t2.size : Int) := by omega
                have HSL : Hid (j + 1 = n + 4 → ((said ++ t2.extract 0 3) ++ ({ data := #[32] } : ByteArray)).extract (4 * n + 12) (4 * n + 16) = { data := #[51, 53, 52, 32] }) := Lib.hid (fun h => said_last (m := 4 * n + 12) (by omega) (HTL.out (by omega)))
                rw [← HVV2.out]
                clear hEv8 hgo8 gd8 hV8 hK8 hM8 hk2 hA2 HHT
                go_wp2_with (refine step_laidE (by rfl) (.tmp 20) (.tmp 136) (by rfl) u2 (by rfl) 1 t2 f2 rx2 bx2 rn2 rc2 bn2 bc2 W2 HW2.out (by rfl) HVV2.out ?_)
                go_roundw
                case rel => exact ⟨j + 1, _, s8, F8, by omega, rfl, by have e1 : ({ data := #[32] } : ByteArray).size = 1 := rfl; simp only [ByteArray.size_append, ByteArray.size_extract]; omega, HSL.out, OS2.out, HGD.out, HG2.out, HFS2.out, HZS2.out, HVS2.out⟩
                case measure =>
                  have e1 : ({ data := #[32] } : ByteArray).size = 1 := rfl
                  simp only [szOf, ByteArray.size_append, ByteArray.size_extract]
                  omega

/-! ### The row's step -/
theorem met (os : Os) : laidMetH Tryz.prog Rows.serveMailsRow.laid ((World.laidAll Tryz.prog os Rows.serveMailsRow.laid).forCall (fun _ _ => 0) ⟨#[], #[.string { data := #[] }, .slice none 0 0, .slice none 0 0, .int .i64 0], []⟩).memory := by
  rw [MakeChecks.laidMetH_plain _ _ _ (by kernel_rfl)]; exact laidMet_laidAll _ (by kernel_rfl) (by kernel_rfl)
theorem reads (os : Os) {H : Type} (enc : TypeId × Value → H) : ∃ places, DataW.whole enc Tryz.prog ((World.laidAll Tryz.prog os Rows.serveMailsRow.laid).forCall (fun _ _ => 0) ⟨#[], #[.string { data := #[] }, .slice none 0 0, .slice none 0 0, .int .i64 0], []⟩).memory Tryz.f4.params.toList Rows.serveMailsSpec.vars false (#[.string { data := #[] }, .slice none 0 0, .slice none 0 0, .int .i64 0] : Array Value).toList 8 = some ([.lit (.string []), .nil, .nil, .lit (.int .i64 0)], [], places) :=
  ⟨[], by kernel_rfl⟩
set_option maxRecDepth 100000 in
theorem fits (os : Os) {H : Type} (enc : TypeId × Value → H) : ∃ (w : World) (tape : Tape) (i : Input), w.os = os ∧ (w.forCall tape i).Shaped Tryz.checked.prog ∧ i.vars = [] ∧ Input.okWide Tryz.checked.prog (w.forCall tape i) .any w.heap.size 4 i ∧
    (OpenSpec.ofChange Rows.serveMailsSpec).preRow enc Tryz.checked.prog Tryz.f4 Rows.serveMailsRow.domain false Rows.serveMailsRow.laid (w.forCall tape i).memory i.args ∧ ({} : Assume).holds Tryz.checked.prog (lone (Frame.enter Tryz.checked.prog 4 i.args .normal) [] (w.forCall tape i)) := by
  obtain ⟨places, hx⟩ := reads os enc
  have hok : Input.okWideB Tryz.checked.prog ((World.laidAll Tryz.prog os Rows.serveMailsRow.laid).forCall (fun _ _ => 0) ⟨#[], #[.string { data := #[] }, .slice none 0 0, .slice none 0 0, .int .i64 0], []⟩) 4 ⟨#[], #[.string { data := #[] }, .slice none 0 0, .slice none 0 0, .int .i64 0], []⟩ = true := by kernel_rfl
  exact ⟨(World.laidAll Tryz.prog os Rows.serveMailsRow.laid), fun _ _ => 0, ⟨#[], #[.string { data := #[] }, .slice none 0 0, .slice none 0 0, .int .i64 0], []⟩, World.laidAll_os _ _ _, World.shaped_of_ZipB (by kernel_rfl) (by kernel_rfl), (Input.okWide_of_okWideB (base := 0) hok).1, (Input.okWide_of_okWideB hok).2,
    OpenSpec.preRow_of_cond 8 hx (by kernel_rfl) (fun k hk => by cases hk) (by kernel_rfl) (met os), by
      simp only [Assume.holds]
      exact ⟨by simp, by simp, fun _ => Modest.zero, by simp, by simp⟩⟩

set_option maxRecDepth 100000 in
theorem lifted (os : Os) (started : os.Started) (H : Type) (enc : TypeId × Value → H) (F : Stop.Interp) :
    ReturnsInHanded {} Tryz.checked os 4 .any ((OpenSpec.ofChange Rows.serveMailsSpec).preRow enc Tryz.prog Tryz.f4 Rows.serveMailsRow.domain false Rows.serveMailsRow.laid) (((OpenSpec.ofChange Rows.serveMailsSpec).at F).post enc Tryz.prog Tryz.f4 false true false false) := by
  refine returnsInHanded_of_row (C := Tryz.checked) (s := OpenSpec.ofChange Rows.serveMailsSpec) own started (by kernel_rfl) Tryz.func4 (fits os enc) ?_
  intro W base args ds gs before hval0 hW0 _ hcond hsz hL shape _
  show Calls Tryz.prog 4 args W fun e W' => ∃ v, e = .returned v ∧ Rows.serveMailsSpec.post enc Tryz.prog Tryz.f4 false true false false W args v W'
  have hval : ∀ (j : Nat) t v, Tryz.f4.params[j]? = some t → args[j]? = some v → Value.okWide Tryz.prog W .any base t v := hval0
  have hW : DataW.Whole enc Tryz.prog Tryz.f4.params.toList Rows.serveMailsSpec.vars false W args.toList ds gs before := hW0
  have hW' := hW
  obtain ⟨p, q, hA0, hV, rfl, hfz, hnd⟩ := hW
  have hA : DataW.TrodAll enc Tryz.prog W 0 (fun _ => true) true Tryz.f4.params.toList args.toList ds p := hA0
  rw [Tryz.params4] at hA hval
  obtain ⟨v0, vs0, d0, ds0, p0, q0, hargs, rfl, rfl, h0, r0⟩ := trodAll_cons hA
  obtain ⟨v1, vs1, d1, ds1, p1, q1, rfl, rfl, rfl, h1, r1⟩ := trodAll_cons r0
  obtain ⟨v2, vs2, d2, ds2, p2, q2, rfl, rfl, rfl, h2, r2⟩ := trodAll_cons r1
  obtain ⟨v3, vs3, d3, ds3, p3, q3, rfl, rfl, rfl, h3, r3⟩ := trodAll_cons r2
  obtain ⟨rfl, rfl, rfl⟩ := trodAll_nil r3
  obtain rfl : args = #[v0, v1, v2, v3] := by cases args; simp_all
  obtain ⟨rfl, rfl⟩ := trodVars_none hV
  obtain ⟨a0, rfl, rfl, rfl, w0⟩ := ChangeMaps.open_string Tryz.underlying9 (hval 0 9 v0 rfl rfl) h0
  obtain ⟨a1, len1, cap1, rfl⟩ := okWide_slice Tryz.underlying36 (hval 1 36 v1 rfl rfl)
  have k1 := h1
  have lt1 : ∀ x ∈ p1, x.block < W.heap.size := by obtain ⟨m, hm⟩ := k1; exact DataW.trod_lt m _ _ _ hm
  obtain ⟨b1, x1, c1, e1, l1, m1, B1, zz1⟩ : ∃ a L cap, Value.slice a1 len1 cap1 = .slice a L.length cap ∧ L.length ≤ cap ∧ cap ≤ 9223372036854775807 ∧ Ln.Strs W a L ∧ ((∀ n ∈ d1.weights Tryz.prog 36, n ≤ reachBytes) → ∀ s ∈ L, s.size ≤ 140737488351232) := by
    obtain ⟨fuel, hf⟩ := h1
    exact Ln.arg_strsZ hf
  have z1 := zz1 (fun n hn => by
    have := List.all_eq_true.1 hsz n (DataW.weights_mem_each (j := 1) rfl rfl n hn)
    simpa using this)
  injection e1 with e1 f1 g1
  subst e1 f1 g1
  obtain ⟨a2, len2, cap2, rfl⟩ := okWide_slice Tryz.underlying34 (hval 2 34 v2 rfl rfl)
  have k2 := h2
  have lt2 : ∀ x ∈ p2, x.block < W.heap.size := by obtain ⟨m, hm⟩ := k2; exact DataW.trod_lt m _ _ _ hm
  obtain ⟨b2, x2, c2, e2, l2, _, B2, mm2⟩ : ∃ a L cap, Value.slice a2 len2 cap2 = .slice a L.length cap ∧ L.length ≤ cap ∧ cap ≤ 9223372036854775807 ∧ Ln.Bytes (fun k => k < W.heap.size) W a L ∧ ((∀ n ∈ d2.weights Tryz.prog 34, n ≤ reachBytes) → cap ≤ 140737488351232) := by
    obtain ⟨fuel, hf⟩ := h2
    exact Ln.arg_bytesZ hf
  have m2 := mm2 (fun n hn => by
    have := List.all_eq_true.1 hsz n (DataW.weights_mem_each (j := 2) rfl rfl n hn)
    simpa using this)
  injection e2 with e2 f2 g2
  subst e2 f2 g2
  obtain ⟨a3, rfl, rfl, rfl, w3⟩ := open_int Tryz.underlying3 (hval 3 3 v3 rfl rfl) h3
  have m0 : a0.size ≤ 140737488351232 := by have h := sized_string hsz (j := 0) (t := 9) (bytes := a0.data.toList) rfl rfl; rw [Array.length_toList] at h; exact h
  obtain ⟨hE, h9⟩ := Ln.env9 W hL shape
  clear hA0 hval0
  refine (walk a0 a1 x1 cap1 a2 x2 cap2 a3 W m0 l1 m1 B1 z1 l2 m2 B2 w3 hE h9).mono fun e W' ⟨he, bel⟩ => ?_
  subst he
  exact ⟨_, rfl, _, _, _, [], _, [], hW', trodAll_mk1 (shut_bool Tryz.underlying4 _), (trodAll_cons_mk (ChangeMaps.shut_string Tryz.underlying9 w0) (trodAll_cons_mk (Below.trod (by kernel_rfl) (by kernel_rfl) (of_decide_eq_true (by kernel_rfl)) k1 bel lt1) (trodAll_cons_mk (Below.trod (by kernel_rfl) (by kernel_rfl) (of_decide_eq_true (by kernel_rfl)) k2 bel lt2) (trodAll_cons_mk (shut_int Tryz.underlying3 w3) trodAll_mk0)))), rfl, bel.frame _, fun h => by cases h⟩

theorem over : Rows.ServeMailsSaid :=
  OpenClaim.holds_of_cond 4 Tryz.f4 rfl rfl rfl rfl rfl rfl rfl ⟨rfl, rfl, rfl, rfl, rfl⟩ rfl rfl rfl rfl rfl (by kernel_rfl) Tryz.func4 (by kernel_rfl)
    (of_decide_eq_true (by kernel_rfl)) (by unfold Func.isWrapper; first | (rw [if_pos (by decide +kernel)]; kernel_rfl) | (rw [if_neg (by decide +kernel)]; exact ⟨rfl, rfl⟩))
    (fun os started H enc _ F => by rw [OpenClaim.pre_eq_preRow]; exact lifted os started H enc F)

theorem plain (f : FuncId) (fn : Func) (hf : Tryz.pinned.checked.prog.funcNamed "pillarbox/pillarboxlaw09.ServeMails" = some f) (hfn : Tryz.pinned.checked.prog.funcs[f]? = some fn) :
    true = Tryz.pinned.checked.prog.looks [] ∧ ∀ (j : Nat) t, fn.params[j]? = some t → Tryz.pinned.checked.prog.wantsStandIn t = false := by
  obtain rfl : f = 4 := Option.some.inj ((show Tryz.prog.funcNamed "pillarbox/pillarboxlaw09.ServeMails" = some 4 by kernel_rfl).symm.trans hf) |>.symm
  obtain rfl : fn = Tryz.f4 := (Option.some.inj (Tryz.func4.symm.trans hfn)).symm
  refine ⟨by kernel_rfl, fun j t ht => ?_⟩
  rw [Tryz.params4] at ht
  have hm : t ∈ [9, 36, 34, 3] := by simpa using Array.mem_of_getElem? ht
  have hall : ([9, 36, 34, 3].all fun u => !Tryz.prog.wantsStandIn u) = true := by kernel_rfl
  exact (show Tryz.prog.wantsStandIn t = false by simpa using List.all_eq_true.1 hall t hm)

/-- The statement: the tied card. -/
theorem proved : Rows.ServeMailsCardSaid :=
  Claim7.holds_tied_plain_at .later [] _ _ _ _ over (fun _ h => by cases h) (by kernel_rfl) (fun _ h => by cases h) serveMails_row_tie rfl ⟨rfl, rfl⟩ (by kernel_rfl) rfl plain (by kernel_rfl)
#print axioms proved
end Go.Proofs.YtcjljldknekhiaaGreatDoor.serveMails
