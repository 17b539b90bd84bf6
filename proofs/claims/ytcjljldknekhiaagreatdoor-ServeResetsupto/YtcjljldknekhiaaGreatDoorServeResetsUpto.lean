/-
  Proved here: for every list of lines and every text, up to the card's bound: behind HELO a session is as a new one that was greeted, whatever lines were ahead, if it takes no body (the card: for every value of the library's MaxLen, its listed tables as its text lays them).
-/
import Derived.Test.YtcjljldknekhiaaGreatDoorRows
import Derived.Test.YtcjljldknekhiaaGreatDoorCards
import Derived.Test.YtcjljldknekhiaaGreatDoorTie
import Derived.Test.YtcjljldknekhiaaGreatDoorKQh
import Derived.Lib.Hide
import Derived.WalkKit
import Derived.ProofKit
import Derived.OpenShut
import Derived.ShutString
import Derived.ChangeOld
import Derived.Below
import Derived.Lay
import Derived.SevenTiedAt
import Derived.Stop.Joined
import Derived.Deep.DeepHandedRow
namespace Go.Proofs.YtcjljldknekhiaaGreatDoor.serveResets
open Go.ChangeShapes Go.WideShapes Go.ChangeAt Go.RowKit
set_option linter.unusedVariables false

theorem own : ownKnob Tryz.prog.godebug = none := by kernel_rfl

/-! ### The walk -/
set_option maxHeartbeats 4000000 in
set_option maxRecDepth 100000 in
theorem walk (a0 : Option Addr) (x0 : List ByteArray) (cap0 : Nat) (a1 : ByteArray) (w : World) (l0 : x0.length ≤ cap0) (m0 : cap0 ≤ 9223372036854775807) (B0 : Ln.Strs w a0 x0) (m1 : a1.size ≤ 1048576) (hE : Ln.Env w) (h9 : 9 ≤ w.heap.size) :
    Calls Tryz.prog 8 #[.slice a0 x0.length cap0, .string a1] w fun e w' => e = .returned (.bool true) ∧ Below w.heap.size w w' := by
  have HA := Lib.hid (fun W e k => Ln.answersC W e k)
  have HE := Lib.hid hE
  obtain ⟨N, hN⟩ : ∃ N, N = x0.length := ⟨_, rfl⟩
  rw [← hN] at l0
  rw [← hN]
  have HN := Lib.hid hN
  have HB := Lib.hid B0
  clear hN B0 hE
  have HN1 := Lib.hid (Ln.pnew { data := #[109, 120] } (by decide) 100 (by decide) w HE.out h9)
  rw [Ln.host_mx] at HN1
  go_enter Tryz.func8, Tryz.ntmps8
  go_wp2_with fail
  refine HN1.out.mono ?_
  rintro e w1 ⟨g, F1, rfl, hV1, hK1, hF1⟩
  have HV1 := Lib.hid hV1
  have HK1 := Lib.hid hK1
  have HF1 := Lib.hid hF1
  have HE1 := Lib.hid (HE.out.quiet hK1)
  clear hV1 hK1 hF1 HN1
  go_wp2_with fail
  have HN2 := Lib.hid (Ln.pnew { data := #[109, 120] } (by decide) 100 (by decide) w1 HE1.out (Nat.le_trans h9 HK1.out.size))
  rw [Ln.host_mx] at HN2
  refine HN2.out.mono ?_
  rintro e w2 ⟨h, G1, rfl, hV2, hK2, hF2⟩
  have T0 : Hid (Ln.Two w w2 g h F1 G1 (Ln.mx100.fed []) Ln.mx100) := Lib.hid (by rw [Ln.fed_none]; exact Ln.two_made HE.out h9 HV1.out HK1.out HF1.out hV2 hK2 hF2)
  clear hV2 hK2 hF2 HN2 HV1 HK1 HF1 HE1
  have hq0 : Ln.Qd ((Ln.mx100.fed []).go Ln.V9) := by rw [Ln.fed_none, Ln.go_none rfl]; exact Ln.Qd.new
  have HQ0 := Lib.hid hq0
  clear hq0
  go_wp2
  go_loopw [7] (fun i wr => ∃ I : Nat, I ≤ N ∧ i = .int .i64 (I : Int) ∧ ∃ F ls, Hid (Ln.Two w wr g h F G1 (Ln.mx100.fed ls) Ln.mx100) ∧ Hid (Ln.Qd ((Ln.mx100.fed ls).go Ln.V9)) ∧ Hid (ls.length ≤ 202 * I ∧ (0 < I → N ≤ 20 ∧ a1.size ≤ 1000))) (fun i _ => N - (intOf i).toNat)
  case atStart => exact ⟨0, by omega, rfl, F1, [], T0.out, HQ0.out, ⟨by simp, fun h => absurd h (Nat.lt_irrefl _)⟩⟩
  case round =>
    obtain ⟨I, hI, rfl, F, ls, T, Q, HL⟩ := hrel
    by_cases hlt : (I : Int) < (N : Int)
    · by_cases hbig : (20 : Int) < (N : Int)
      · go_wp2_with fail
        refine (HA.out _ T.out.env T.out.sz).mono ?_
        rintro e u1 ⟨rfl, hk1⟩
        have T1 := Lib.hid (T.out.quiet hk1)
        clear hk1
        go_wp2
        go_ret
        exact ⟨rfl, T1.out.kp.below (Nat.le_refl _) (fun _ h => h.elim)⟩
      have hIx : I < x0.length := by have := HN.out; omega
      obtain ⟨t, ht⟩ : ∃ t, x0[I]? = some t := ⟨x0[I], List.getElem?_eq_getElem hIx⟩
      obtain ⟨b, off, hb, ha, hc⟩ := HB.out I t ht
      subst ha
      have c1 := T.out.kp.cell hc (fun h => h)
      clear hc ht hIx
      by_cases hlong : (200 : Int) < ((t.size : Nat) : Int) ∨ (1000 : Int) < ((a1.size : Nat) : Int)
      · have hcut : (decide ((200 : Int) < ((t.size : Nat) : Int)) = true) ∨ (decide ((200 : Int) < ((t.size : Nat) : Int)) = false ∧ (1000 : Int) < ((a1.size : Nat) : Int)) := by
          by_cases h1 : (200 : Int) < ((t.size : Nat) : Int)
          · exact .inl (decide_eq_true h1)
          · exact .inr ⟨decide_eq_false h1, hlong.resolve_left h1⟩
        clear hlong
        rcases hcut with h2 | ⟨h2, h1⟩
        · have h3 := of_decide_eq_true h2
          clear h2
          go_wp2_with fail
          refine (HA.out _ T.out.env T.out.sz).mono ?_
          rintro e u1 ⟨rfl, hk1⟩
          have T1 := Lib.hid (T.out.quiet hk1)
          clear hk1
          go_wp2
          go_ret
          exact ⟨rfl, T1.out.kp.below (Nat.le_refl _) (fun _ h => h.elim)⟩
        · have h3 := of_decide_eq_false h2
          clear h2
          go_wp2_with fail
          refine (HA.out _ T.out.env T.out.sz).mono ?_
          rintro e u1 ⟨rfl, hk1⟩
          have T1 := Lib.hid (T.out.quiet hk1)
          clear hk1
          go_wp2
          go_ret
          exact ⟨rfl, T1.out.kp.below (Nat.le_refl _) (fun _ h => h.elim)⟩
      have ht2 : ¬ (200 : Int) < ((t.size : Nat) : Int) := fun h => hlong (.inl h)
      have ha2 : ¬ (1000 : Int) < ((a1.size : Nat) : Int) := fun h => hlong (.inr h)
      clear hlong
      obtain ⟨nm, hnm⟩ : ∃ nm, nm = (Ln.V9 t).name := ⟨_, rfl⟩
      obtain ⟨ar, har⟩ : ∃ ar, ar = (Ln.V9 t).arg := ⟨_, rfl⟩
      obtain ⟨sz, hsz⟩ : ∃ sz, sz = (Ln.V9 t).size := ⟨_, rfl⟩
      obtain ⟨cd, hcd⟩ : ∃ cd, cd = (Ln.V9 t).code := ⟨_, rfl⟩
      have HVC := Lib.hid (Ln.verbC9.2 t wr (by omega))
      rw [← hnm, ← har, ← hsz, ← hcd] at HVC
      have HNM := Lib.hid hnm
      have HCD := Lib.hid hcd
      clear hnm har hsz hcd
      go_wp2_with fail
      refine HVC.out.mono ?_
      rintro e w5 ⟨rfl, hk5⟩
      have d1 := hk5.cell c1 (fun h => h)
      have hlt5 : b < w5.heap.size := by have h1 := hk5.size; have h2 := T.out.kp.size; omega
      have T5 := Lib.hid (T.out.quiet hk5)
      clear hk5 HVC T c1
      go_wp2
      have kA : Ln.Keep (fun _ => False) w5 (w5.alloc (.cells #[.string nm, .string ar, .int .i64 sz] 58)) := (Ln.Keep.refl (fun _ => False) w5).alloc _
      have T6 := Lib.hid (T5.out.quiet kA)
      have HC1 := Lib.hid (kA.cell d1 (fun h => h))
      have HC2 : Hid ((w5.alloc (.cells #[.string nm, .string ar, .int .i64 sz] 58)).cell? ⟨w5.heap.size, 0, none⟩ = some (.string nm)) := Lib.hid ((Ln.At.new w5 58 _).cell 0)
      clear kA T5 d1
      go_loopw [10, 11] (fun e k wx => ∃ (E : Bool) (K : Nat), K ≤ t.size ∧ e = .bool E ∧ k = .int .i64 (K : Int) ∧ Hid (E = ((Ln.ns t).take K).any Ln.isEnd) ∧ Hid (Ln.Two w wx g h F G1 (Ln.mx100.fed ls) Ln.mx100) ∧ Hid (wx.cell? ⟨b, off + I, none⟩ = some (.string t)) ∧ Hid (wx.cell? ⟨w5.heap.size, 0, none⟩ = some (.string nm))) (fun _ k _ => t.size - (intOf k).toNat)
      case atStart => exact ⟨false, 0, by omega, rfl, rfl, rfl, T6.out, HC1.out, HC2.out⟩
      case round =>
        obtain ⟨E, K, hK, rfl, rfl, HEE, TT, HD1, HD2⟩ := hrel
        have d1 := HD1.out
        have d2 := HD2.out
        by_cases hKl : (K : Int) < ((t.size : Nat) : Int)
        · have hKn : K < t.size := by omega
          have HX := Lib.hid (Ln.any_next t K hKn)
          rw [← HEE.out] at HX
          cases E
          · by_cases h13 : ((t[K].toNat : Nat) : Int) = 13
            · have HY : Hid (true = ((Ln.ns t).take (K + 1)).any Ln.isEnd) := Lib.hid (by
                rw [HX.out, show t[K].toNat = 13 by omega]; rfl)
              go_wp2
              go_roundw
              case rel => exact ⟨true, K + 1, by omega, rfl, by go_num, HY.out, TT.out, HD1.out, HD2.out⟩
              case measure => simp [intOf]; omega
            · by_cases h10 : ((t[K].toNat : Nat) : Int) = 10
              · have HY : Hid (true = ((Ln.ns t).take (K + 1)).any Ln.isEnd) := Lib.hid (by
                  rw [HX.out, show t[K].toNat = 10 by omega]; rfl)
                go_wp2
                go_roundw
                case rel => exact ⟨true, K + 1, by omega, rfl, by go_num, HY.out, TT.out, HD1.out, HD2.out⟩
                case measure => simp [intOf]; omega
              · have HY : Hid (false = ((Ln.ns t).take (K + 1)).any Ln.isEnd) := Lib.hid (by
                  rw [HX.out, ← Ln.cast_end]; simp [h13, h10])
                go_wp2
                go_roundw
                case rel => exact ⟨false, K + 1, by omega, by simp [h13, h10], by go_num, HY.out, TT.out, HD1.out, HD2.out⟩
                case measure => simp [intOf]; omega
          · have HY : Hid (true = ((Ln.ns t).take (K + 1)).any Ln.isEnd) := Lib.hid (by rw [HX.out]; rfl)
            go_wp2
            go_roundw
            case rel => exact ⟨true, K + 1, by omega, rfl, by go_num, HY.out, TT.out, HD1.out, HD2.out⟩
            case measure => simp [intOf]; omega
        · have eK : K = t.size := by omega
          subst eK
          have HEE2 : Hid (E = (Ln.ns t).any Ln.isEnd) := Lib.hid (by rw [HEE.out, Ln.any_all])
          clear HEE
          cases E
          · by_cases hcd : cd = 0
            · by_cases hD : nm = { data := #[68, 65, 84, 65] }
              · rw [hcd]
                go_wp2
                go_roundw
                case rel => exact ⟨I + 1, by omega, by go_num, F, ls, TT.out, Q.out, ⟨by have := HL.out.1; omega, fun _ => ⟨by omega, by omega⟩⟩⟩
                case measure => simp [intOf]; omega
              · have qD : (nm.toList == [68, 65, 84, 65]) = false := Ln.litne9 hD
                by_cases hQ : nm = { data := #[81, 85, 73, 84] }
                · go_wp2
                  go_roundw
                  case rel => exact ⟨I + 1, by omega, by go_num, F, ls, TT.out, Q.out, ⟨by have := HL.out.1; omega, fun _ => ⟨by omega, by omega⟩⟩⟩
                  case measure => simp [intOf]; omega
                · have qQ : (nm.toList == [81, 85, 73, 84]) = false := Ln.litne9 hQ
                  have hfine : ¬ (cd = 0 ∧ (nm = Ln.nDATA ∨ nm = Ln.nQUIT)) := fun h => h.2.elim hD hQ
                  have HF := Lib.hid (Ln.fine_of HEE2.out.symm (by rw [← HNM.out, ← HCD.out]; exact hfine))
                  obtain ⟨c7, w7, kc7, hB7, hK7⟩ := Ln.conv_str (t ++ { data := #[13, 10] }) wr
                  rw [Ln.ns_crlf] at hB7
                  have HB7 := Lib.hid hB7
                  have T7 := Lib.hid (TT.out.quiet hK7)
                  clear hB7 hK7 hfine
                  go_wp2_with fail
                  refine (Ln.pfeed T7.out.a T7.out.env (some ⟨wr.heap.size, 0, none⟩) (t.size + 2) c7 (Ln.ns t ++ [13, 10]) (by rw [List.length_append, Ln.ns_length]; rfl) HB7.out (by have h1 := HL.out.1; have h2 : (Ln.mx100.fed ls).wait.length = ls.length := rfl; rw [h2]; omega)).mono ?_
                  rintro e w8 ⟨rfl, F8, hV8, hK8, hM8⟩
                  have hV8' : Ln.VS F8 w8 g (Ln.mx100.fed (ls ++ (Ln.ns t ++ [13, 10]))) := by rw [← Ln.fed_fed]; exact hV8
                  have T8 := Lib.hid (T7.out.left hV8' hK8 hM8)
                  have Q8 : Hid (Ln.Qd ((Ln.mx100.fed (ls ++ (Ln.ns t ++ [13, 10]))).go Ln.V9)) := Lib.hid (by rw [← Ln.fed_fed]; exact Ln.fine_fed Q.out HF.out)
                  have HL8 : Hid ((ls ++ (Ln.ns t ++ [13, 10])).length ≤ 202 * (I + 1) ∧ (0 < I + 1 → N ≤ 20 ∧ a1.size ≤ 1000)) := Lib.hid ⟨by have := HL.out.1; rw [List.length_append, List.length_append, Ln.ns_length]; simp only [List.length_cons, List.length_nil]; omega, fun _ => ⟨by omega, by omega⟩⟩
                  clear hV8 hV8' hK8 hM8 T7 HB7 kc7
                  go_wp2
                  go_roundw
                  case rel => exact ⟨I + 1, by omega, by go_num, F8, _, T8.out, Q8.out, HL8.out⟩
                  case measure => simp [intOf]; omega
            · have hfine : ¬ (cd = 0 ∧ (nm = Ln.nDATA ∨ nm = Ln.nQUIT)) := fun h => hcd h.1
              have hcb : (cd == 0) = false := by rw [beq_eq_false_iff_ne]; exact hcd
              have HF := Lib.hid (Ln.fine_of HEE2.out.symm (by rw [← HNM.out, ← HCD.out]; exact hfine))
              obtain ⟨c7, w7, kc7, hB7, hK7⟩ := Ln.conv_str (t ++ { data := #[13, 10] }) wr
              rw [Ln.ns_crlf] at hB7
              have HB7 := Lib.hid hB7
              have T7 := Lib.hid (TT.out.quiet hK7)
              clear hB7 hK7 hfine
              go_wp2_with fail
              refine (Ln.pfeed T7.out.a T7.out.env (some ⟨wr.heap.size, 0, none⟩) (t.size + 2) c7 (Ln.ns t ++ [13, 10]) (by rw [List.length_append, Ln.ns_length]; rfl) HB7.out (by have h1 := HL.out.1; have h2 : (Ln.mx100.fed ls).wait.length = ls.length := rfl; rw [h2]; omega)).mono ?_
              rintro e w8 ⟨rfl, F8, hV8, hK8, hM8⟩
              have hV8' : Ln.VS F8 w8 g (Ln.mx100.fed (ls ++ (Ln.ns t ++ [13, 10]))) := by rw [← Ln.fed_fed]; exact hV8
              have T8 := Lib.hid (T7.out.left hV8' hK8 hM8)
              have Q8 : Hid (Ln.Qd ((Ln.mx100.fed (ls ++ (Ln.ns t ++ [13, 10]))).go Ln.V9)) := Lib.hid (by rw [← Ln.fed_fed]; exact Ln.fine_fed Q.out HF.out)
              have HL8 : Hid ((ls ++ (Ln.ns t ++ [13, 10])).length ≤ 202 * (I + 1) ∧ (0 < I + 1 → N ≤ 20 ∧ a1.size ≤ 1000)) := Lib.hid ⟨by have := HL.out.1; rw [List.length_append, List.length_append, Ln.ns_length]; simp only [List.length_cons, List.length_nil]; omega, fun _ => ⟨by omega, by omega⟩⟩
              clear hV8 hV8' hK8 hM8 T7 HB7 kc7
              go_wp2
              go_roundw
              case rel => exact ⟨I + 1, by omega, by go_num, F8, _, T8.out, Q8.out, HL8.out⟩
              case measure => simp [intOf]; omega
          · go_wp2
            go_roundw
            case rel => exact ⟨I + 1, by omega, by go_num, F, ls, TT.out, Q.out, ⟨by have := HL.out.1; omega, fun _ => ⟨by omega, by omega⟩⟩⟩
            case measure => simp [intOf]; omega
    · have HGD : Hid (Ln.Gd (Ln.mx100.fed ls)) := Lib.hid ((Ln.Gd.new _ _ (by decide)).fed _ (by
        have h1 := HL.out.1
        have h2 := HL.out.2
        show 0 + ls.length ≤ _
        by_cases h0 : 0 < I
        · have := (h2 h0).1; omega
        · omega))
      clear HL
      go_wp2
      go_loopw [] (fun wx => ∃ F s, Hid (Ln.Two w wx g h F G1 s Ln.mx100) ∧ Hid (Ln.Gd s) ∧ Hid (Ln.Qd (s.go Ln.V9))) (fun wx => Ln.muW wx g)
      case atStart => exact ⟨_, _, T.out, HGD.out, Q.out⟩
      case round =>
        obtain ⟨F3, s3, T3, GD3, Q3⟩ := hrel
        cases hn : (s3.go Ln.V9).out with
        | cons ev L =>
          have HNE := Lib.hid hn
          clear hn
          go_wp2_with fail
          refine (Ln.pnext_some T3.out.a T3.out.env GD3.out ev L HNE.out).mono ?_
          rintro e u2 ⟨k2, t2, f2, rx2, rn2, rc2, bx2, bn2, bc2, s6, F6, E6, rfl, _, _, _, hgo6, gd6, _, _, hmu6, hV6, hK6, hM6⟩
          obtain ⟨W2, V2, HW2, HVV2, hk2, hA2⟩ := Ln.laid_ev u2 k2 t2 f2 rx2 bx2 rn2 rc2 bn2 bc2
          have T6 := Lib.hid ((T3.out.left hV6 hK6 hM6).quiet hk2)
          have Q6 : Hid (Ln.Qd (s6.go Ln.V9)) := Lib.hid (by rw [hgo6]; exact Q3.out.pop)
          have GD6 := Lib.hid gd6
          have HMU : Hid (Ln.muW W2 g < Ln.muW wr g) := Lib.hid (by
            have h1 : Ln.muW W2 g = Ln.mu s6 := (Ln.PS.muW T6.out.a).trans rfl
            have h2 : Ln.muW wr g = Ln.mu s3 := (Ln.PS.muW T3.out.a).trans rfl
            rw [h1, h2]; exact hmu6)
          rw [← HVV2.out]
          clear hgo6 gd6 hmu6 hV6 hK6 hM6 hk2 hA2
          go_wp2_with (refine Ln.step_laidE (by rfl) (.tmp 12) (.tmp 105) (by rfl) u2 (by rfl) k2 t2 f2 rx2 bx2 rn2 rc2 bn2 bc2 W2 HW2.out (by rfl) HVV2.out ?_)
          go_roundw
          case rel => exact ⟨F6, s6, T6.out, GD6.out, Q6.out⟩
          case measure => exact HMU.out
        | nil =>
          have HNE := Lib.hid hn
          clear hn
          go_wp2_with fail
          refine (Ln.pnext_none T3.out.a T3.out.env GD3.out HNE.out).mono ?_
          rintro e u2 ⟨he, F6, hV6, hK6, hM6⟩
          obtain ⟨W2, V2, HW2, HVV2, hk2, hA2⟩ := Ln.laid_ev u2 0 Ln.nobody Ln.nobody none none 0 0 0 0
          rw [Ln.zev_is, ← HVV2.out] at he
          subst he
          have T6 := Lib.hid ((T3.out.left hV6 hK6 hM6).quiet hk2)
          clear hV6 hK6 hM6 hk2 hA2
          go_wp2_with (refine Ln.step_laidE (by rfl) (.tmp 12) (.tmp 105) (by rfl) u2 (by rfl) 0 Ln.nobody Ln.nobody none none 0 0 0 0 W2 HW2.out (by rfl) HVV2.out ?_)
          have hgn : Ln.mx100.go Ln.V9 = Ln.mx100 := Ln.go_none rfl
          refine (Ln.pnext_some T6.out.b T6.out.env (Ln.Gd.new _ _ (by decide)) (.say (Ln.hello { data := #[109, 120] })) [] (by rw [hgn]; rfl)).mono ?_
          rintro e u3 ⟨_, _, _, _, _, _, _, _, _, t7, G7, _, rfl, _, _, _, hgo7, gd7, _, hwl7, _, hV7, hK7, hM7⟩
          have HG7 : Hid (t7.go Ln.V9 = Ln.mx100.pop) := Lib.hid (by rw [hgo7, hgn])
          have GD7 := Lib.hid gd7
          have HWL7 : Hid (t7.wait.length = 0) := Lib.hid (Nat.le_zero.1 hwl7)
          have T7 := Lib.hid (T6.out.right hV7 hK7 hM7)
          obtain ⟨X, hX⟩ : ∃ X, X = [72, 69, 76, 79, 32, 97, 13, 10] ++ Ln.ns a1 := ⟨_, rfl⟩
          have hXl : X.length = 8 + a1.size := by rw [hX, List.length_append, Ln.ns_length]; rfl
          obtain ⟨c8, w8, kc8, hB8, hK8⟩ := Ln.conv_str ({ data := #[72, 69, 76, 79, 32, 97, 13, 10] } ++ a1) u3
          rw [Ln.ns_helo, ← hX] at hB8
          have HB8 := Lib.hid hB8
          have T8 := Lib.hid (T7.out.quiet hK8)
          have HX := Lib.hid hX
          clear hgo7 gd7 hwl7 hV7 hK7 hM7 hgn hB8 hK8 T7 T6 hX
          go_wp2_with fail
          refine (Ln.pfeed T8.out.a T8.out.env (some ⟨u3.heap.size, 0, none⟩) _ c8 X (by rw [hXl]) HB8.out (by rw [Q3.out.wait]; simp only [List.length_nil]; omega)).mono ?_
          rintro e w9 ⟨rfl, F9, hV9, hK9, hM9⟩
          have T9 := Lib.hid (T8.out.left (s' := (s3.go Ln.V9).fed X) hV9 hK9 hM9)
          obtain ⟨c10, w10, kc10, hB10, hK10⟩ := Ln.conv_str ({ data := #[72, 69, 76, 79, 32, 97, 13, 10] } ++ a1) w9
          rw [Ln.ns_helo, ← HX.out] at hB10
          have HB10 := Lib.hid hB10
          have T10 := Lib.hid (T9.out.quiet hK10)
          clear hV9 hK9 hM9 hB10 hK10 T9 T8 kc8 HB8
          go_wp2_with fail
          refine (Ln.pfeed T10.out.b T10.out.env (some ⟨w9.heap.size, 0, none⟩) _ c10 X (by rw [hXl]) HB10.out (by rw [HWL7.out]; omega)).mono ?_
          rintro e w11 ⟨rfl, G11, hV11, hK11, hM11⟩
          have T11 := Lib.hid (T10.out.right (t' := t7.fed X) hV11 hK11 hM11)
          clear hV11 hK11 hM11 T10 kc10 HB10
          have A0 : Hid (Ln.Alike w w11 g h F9 G11 ((s3.go Ln.V9).fed X) (t7.fed X)) := Lib.hid (by
            have g1 := (GD3.out.go HNE.out).fed X (by rw [Q3.out.wait]; simp only [List.length_nil]; omega)
            have g2 := GD7.out.fed X (by rw [HWL7.out]; omega)
            refine ⟨T11.out, g1, g2, ?_, Ln.Ro.go Ln.V9 _ _ rfl g1.ok (fun e he => by have he' : e ∈ (s3.go Ln.V9).out := he; rw [HNE.out] at he'; cases he')⟩
            rw [← Ln.fed_go Ln.V9 X _ t7 rfl, HG7.out, HX.out]
            exact Ln.helo_same Q3.out Ln.Qd.new.pop HNE.out rfl _)
          clear T11 HX GD7 HWL7 HG7 GD3 Q3 T3
          go_wp2
          go_loopw [] (fun wx => ∃ F G s t, Hid (Ln.Alike w wx g h F G s t)) (fun wx => Ln.muW wx g)
          case atStart => exact ⟨_, _, _, _, A0.out⟩
          case round =>
            obtain ⟨F5, G5, s5, t5, A5⟩ := hrel
            cases hn : (s5.go Ln.V9).out with
            | cons ev L =>
              have HNE := Lib.hid hn
              clear hn
              go_wp2_with fail
              refine (Ln.pnext_some A5.out.two.a A5.out.two.env A5.out.gs ev L HNE.out).mono ?_
              rintro e u2 ⟨k2, t2, f2, rx2, rn2, rc2, bx2, bn2, bc2, s6, F6, E6, rfl, hEv6, hmE6, _, hgo6, gd6, _, _, hmu6, hV6, hK6, hM6⟩
              obtain ⟨W2, V2, HW2, HVV2, hk2, hA2⟩ := Ln.laid_ev u2 k2 t2 f2 rx2 bx2 rn2 rc2 bn2 bc2
              have T6 := Lib.hid ((A5.out.two.left hV6 hK6 hM6).quiet hk2)
              have hne : ∀ k, G5 k → k ≠ u2.heap.size := fun k hk => by have h1 := A5.out.two.b.lt k hk; have h2 := hK6.size; omega
              have HNE2 := Lib.hid hne
              have HEv6 := Lib.hid (hEv6.keepW hk2 (fun b _ hb => ⟨fun h => h, hb⟩))
              have HME6 := Lib.hid hmE6
              have HG6 := Lib.hid hgo6
              have HGD6 := Lib.hid gd6
              have HMU6 := Lib.hid hmu6
              have HA2 := Lib.hid hA2
              rw [← HVV2.out]
              clear hne hEv6 hmE6 hgo6 gd6 hmu6 hV6 hK6 hM6 hk2 hA2
              go_wp2_with (refine Ln.step_laidE (by rfl) (.tmp 14) (.tmp 124) (by rfl) u2 (by rfl) k2 t2 f2 rx2 bx2 rn2 rc2 bn2 bc2 W2 HW2.out (by rfl) HVV2.out ?_)
              refine (Ln.pnext_some T6.out.b T6.out.env A5.out.gt ev L (by rw [← A5.out.go]; exact HNE.out)).mono ?_
              rintro e u3 ⟨k3, t3, f3, rx3, rn3, rc3, bx3, bn3, bc3, s7, G7, E7, rfl, hEv7, _, _, hgo7, gd7, _, _, _, hV7, hK7, hM7⟩
              obtain ⟨W3, V3, HW3, HVV3, hk3, hA3⟩ := Ln.laid_ev u3 k3 t3 f3 rx3 bx3 rn3 rc3 bn3 bc3
              have T7 := Lib.hid ((T6.out.right hV7 hK7 hM7).quiet hk3)
              have A7 : Hid (Ln.Alike w W3 g h F6 G7 s6 s7) := Lib.hid ⟨T7.out, HGD6.out, gd7, by rw [HG6.out, hgo7, A5.out.go], by rw [HG6.out]; exact A5.out.ro.pop⟩
              obtain ⟨q0, q1, q2, q3, q4, q5, q6, q7⟩ := ((HA2.out.keep hK7 (fun e => HNE2.out _ e rfl)).keep hk3 (fun h => h)).eight
              obtain ⟨p0, p1, p2, p3, p4, p5, p6, p7⟩ := hA3.eight
              have HS := Lib.hid (Ln.same_ev ((A5.out.two.ev HME6.out HEv6.out hK7).keepW hk3 (fun b _ hb => ⟨fun h => h, hb⟩)) (hEv7.keepW hk3 (fun b _ hb => ⟨fun h => h, hb⟩)) (Ln.ro_ev A5.out.ro HNE.out))
              rw [← HVV3.out]
              clear hEv7 hgo7 gd7 hV7 hK7 hM7 hk3 hA3 T6 HEv6 HA2
              go_wp2_with (refine Ln.step_laidE (by rfl) (.tmp 16) (.tmp 129) (by rfl) u3 (by rfl) k3 t3 f3 rx3 bx3 rn3 rc3 bn3 bc3 W3 HW3.out (by rfl) HVV3.out ?_)
              refine HS.out.mono ?_
              rintro e u4 ⟨rfl, hk4⟩
              have A8 : Hid (Ln.Alike w u4 g h F6 G7 s6 s7) := Lib.hid ⟨A7.out.two.quiet hk4, A7.out.gs, A7.out.gt, A7.out.go, A7.out.ro⟩
              clear hk4 q0 q1 q2 q3 q4 q5 q6 q7 p0 p1 p2 p3 p4 p5 p6 p7
              go_wp2
              go_roundw
              case rel => exact ⟨F6, G7, s6, s7, A8.out⟩
              case measure => rw [A8.out.mu, A5.out.mu]; exact HMU6.out
            | nil =>
              have HNE := Lib.hid hn
              clear hn
              go_wp2_with fail
              refine (Ln.pnext_none A5.out.two.a A5.out.two.env A5.out.gs HNE.out).mono ?_
              rintro e u2 ⟨he, F6, hV6, hK6, hM6⟩
              obtain ⟨W2, V2, HW2, HVV2, hk2, hA2⟩ := Ln.laid_ev u2 0 Ln.nobody Ln.nobody none none 0 0 0 0
              rw [Ln.zev_is, ← HVV2.out] at he
              subst he
              have T6 := Lib.hid ((A5.out.two.left hV6 hK6 hM6).quiet hk2)
              have hne : ∀ k, G5 k → k ≠ u2.heap.size := fun k hk => by have h1 := A5.out.two.b.lt k hk; have h2 := hK6.size; omega
              have HNE2 := Lib.hid hne
              have HA2 := Lib.hid hA2
              clear hne hV6 hK6 hM6 hk2 hA2
              go_wp2_with (refine Ln.step_laidE (by rfl) (.tmp 14) (.tmp 124) (by rfl) u2 (by rfl) 0 Ln.nobody Ln.nobody none none 0 0 0 0 W2 HW2.out (by rfl) HVV2.out ?_)
              refine (Ln.pnext_none T6.out.b T6.out.env A5.out.gt (by rw [← A5.out.go]; exact HNE.out)).mono ?_
              rintro e u3 ⟨he, G7, hV7, hK7, hM7⟩
              obtain ⟨W3, V3, HW3, HVV3, hk3, hA3⟩ := Ln.laid_ev u3 0 Ln.nobody Ln.nobody none none 0 0 0 0
              rw [Ln.zev_is, ← HVV3.out] at he
              subst he
              have T7 := Lib.hid ((T6.out.right hV7 hK7 hM7).quiet hk3)
              obtain ⟨q0, q1, q2, q3, q4, q5, q6, q7⟩ := ((HA2.out.keep hK7 (fun e => HNE2.out _ e rfl)).keep hk3 (fun h => h)).eight
              obtain ⟨p0, p1, p2, p3, p4, p5, p6, p7⟩ := hA3.eight
              clear hV7 hK7 hM7 hk3 hA3 T6 HA2
              go_wp2_with (refine Ln.step_laidE (by rfl) (.tmp 16) (.tmp 129) (by rfl) u3 (by rfl) 0 Ln.nobody Ln.nobody none none 0 0 0 0 W3 HW3.out (by rfl) HVV3.out ?_)
              refine (Ln.same_none _).mono ?_
              rintro e u4 ⟨rfl, hk4⟩
              have T8 := Lib.hid (T7.out.quiet hk4)
              clear hk4 q0 q1 q2 q3 q4 q5 q6 q7 p0 p1 p2 p3 p4 p5 p6 p7 T7
              go_wp2_with fail
              refine (HA.out _ T8.out.env T8.out.sz).mono ?_
              rintro e u6 ⟨rfl, hk6⟩
              have T10 := Lib.hid (T8.out.quiet hk6)
              clear hk6 T8
              go_wp2
              go_ret
              exact ⟨rfl, T10.out.kp.below (Nat.le_refl _) (fun _ h => h.elim)⟩

/-! ### The row's step -/
theorem met (os : Os) : laidMetH Tryz.prog Rows.serveResetsUptoRow.laid ((World.laidAll Tryz.prog os Rows.serveResetsUptoRow.laid).forCall (fun _ _ => 0) ⟨#[], #[.slice none 0 0, .string { data := #[] }], []⟩).memory := by
  rw [MakeChecks.laidMetH_plain _ _ _ (by kernel_rfl)]; exact laidMet_laidAll _ (by kernel_rfl) (by kernel_rfl)
theorem reads (os : Os) {H : Type} (enc : TypeId × Value → H) : ∃ places, DataW.whole enc Tryz.prog ((World.laidAll Tryz.prog os Rows.serveResetsUptoRow.laid).forCall (fun _ _ => 0) ⟨#[], #[.slice none 0 0, .string { data := #[] }], []⟩).memory Tryz.f8.params.toList Rows.serveResetsSpec.vars false (#[.slice none 0 0, .string { data := #[] }] : Array Value).toList 8 = some ([.nil, .lit (.string [])], [], places) :=
  ⟨[], by kernel_rfl⟩
set_option maxRecDepth 100000 in
theorem fits (os : Os) {H : Type} (enc : TypeId × Value → H) : ∃ (w : World) (tape : Tape) (i : Input), w.os = os ∧ (w.forCall tape i).Shaped Tryz.checked.prog ∧ i.vars = [] ∧ Input.okWide Tryz.checked.prog (w.forCall tape i) .any w.heap.size 8 i ∧
    (Rows.OpenSpec.upto Rows.serveResetsSpec).preRow enc Tryz.checked.prog Tryz.f8 Rows.serveResetsUptoRow.domain false Rows.serveResetsUptoRow.laid (w.forCall tape i).memory i.args ∧ ({} : Assume).holds Tryz.checked.prog (lone (Frame.enter Tryz.checked.prog 8 i.args .normal) [] (w.forCall tape i)) := by
  obtain ⟨places, hx⟩ := reads os enc
  have hok : Input.okWideB Tryz.checked.prog ((World.laidAll Tryz.prog os Rows.serveResetsUptoRow.laid).forCall (fun _ _ => 0) ⟨#[], #[.slice none 0 0, .string { data := #[] }], []⟩) 8 ⟨#[], #[.slice none 0 0, .string { data := #[] }], []⟩ = true := by kernel_rfl
  exact ⟨(World.laidAll Tryz.prog os Rows.serveResetsUptoRow.laid), fun _ _ => 0, ⟨#[], #[.slice none 0 0, .string { data := #[] }], []⟩, World.laidAll_os _ _ _, World.shaped_of_ZipB (by kernel_rfl) (by kernel_rfl), (Input.okWide_of_okWideB (base := 0) hok).1, (Input.okWide_of_okWideB hok).2,
    OpenSpec.preRow_of_cond 8 hx (by kernel_rfl) (fun k hk => by cases hk; kernel_rfl) (by kernel_rfl) (met os), by
      simp only [Assume.holds]
      exact ⟨by simp, by simp, fun _ => Modest.zero, by simp, by simp⟩⟩

set_option maxRecDepth 100000 in
theorem lifted (os : Os) (started : os.Started) (H : Type) (enc : TypeId × Value → H) (F : Stop.Interp) :
    ReturnsInHanded {} Tryz.checked os 8 .any ((Rows.OpenSpec.upto Rows.serveResetsSpec).preRow enc Tryz.prog Tryz.f8 Rows.serveResetsUptoRow.domain false Rows.serveResetsUptoRow.laid) (((Rows.OpenSpec.upto Rows.serveResetsSpec).at F).post enc Tryz.prog Tryz.f8 false true false false) := by
  refine returnsInHanded_of_row (C := Tryz.checked) (s := Rows.OpenSpec.upto Rows.serveResetsSpec) own started (by kernel_rfl) Tryz.func8 (fits os enc) ?_
  intro W base args ds gs before hval0 hW0 _ hcond hsz hL shape _
  show Calls Tryz.prog 8 args W fun e W' => ∃ v, e = .returned v ∧ Rows.serveResetsSpec.post enc Tryz.prog Tryz.f8 false true false false W args v W'
  have hval : ∀ (j : Nat) t v, Tryz.f8.params[j]? = some t → args[j]? = some v → Value.okWide Tryz.prog W .any base t v := hval0
  have hW : DataW.Whole enc Tryz.prog Tryz.f8.params.toList Rows.serveResetsSpec.vars false W args.toList ds gs before := hW0
  have hW' := hW
  obtain ⟨p, q, hA0, hV, rfl, hfz, hnd⟩ := hW
  have hA : DataW.TrodAll enc Tryz.prog W 0 (fun _ => true) true Tryz.f8.params.toList args.toList ds p := hA0
  rw [Tryz.params8] at hA hval
  obtain ⟨v0, vs0, d0, ds0, p0, q0, hargs, rfl, rfl, h0, r0⟩ := trodAll_cons hA
  obtain ⟨v1, vs1, d1, ds1, p1, q1, rfl, rfl, rfl, h1, r1⟩ := trodAll_cons r0
  obtain ⟨rfl, rfl, rfl⟩ := trodAll_nil r1
  obtain rfl : args = #[v0, v1] := by cases args; simp_all
  obtain ⟨rfl, rfl⟩ := trodVars_none hV
  obtain ⟨a0, len0, cap0, rfl⟩ := okWide_slice Tryz.underlying36 (hval 0 36 v0 rfl rfl)
  have k0 := h0
  have lt0 : ∀ x ∈ p0, x.block < W.heap.size := by obtain ⟨m, hm⟩ := k0; exact DataW.trod_lt m _ _ _ hm
  obtain ⟨b0, x0, c0, e0, l0, m0, B0⟩ : ∃ a L cap, Value.slice a0 len0 cap0 = .slice a L.length cap ∧ L.length ≤ cap ∧ cap ≤ 9223372036854775807 ∧ Ln.Strs W a L := by
    obtain ⟨fuel, hf⟩ := h0
    exact Ln.arg_strs hf
  injection e0 with e0 f0 g0
  subst e0 f0 g0
  obtain ⟨a1, rfl, rfl, rfl, w1⟩ := ChangeMaps.open_string Tryz.underlying9 (hval 1 9 v1 rfl rfl) h1
  have hk := of_decide_eq_true (hcond _ rfl)
  simp only [List.append_nil, Rows.uptoBulkAll, Rows.uptoBulk] at hk
  have m1 : a1.size ≤ 1048576 := by have h : a1.data.toList.length = a1.size := Array.length_toList; omega
  obtain ⟨hE, h9⟩ := Ln.env9 W hL shape
  clear hA0 hval0
  refine (walk a0 x0 cap0 a1 W l0 m0 B0 m1 hE h9).mono fun e W' ⟨he, bel⟩ => ?_
  subst he
  exact ⟨_, rfl, _, _, _, [], _, [], hW', trodAll_mk1 (shut_bool Tryz.underlying4 _), (trodAll_cons_mk (Below.trod (by kernel_rfl) (by kernel_rfl) (of_decide_eq_true (by kernel_rfl)) k0 bel lt0) (trodAll_cons_mk (ChangeMaps.shut_string Tryz.underlying9 w1) trodAll_mk0)), rfl, bel.frame _, fun h => by cases h⟩

theorem over : Rows.ServeResetsUptoSaid :=
  OpenClaim.holds_of_cond 8 Tryz.f8 rfl rfl rfl rfl rfl rfl rfl ⟨rfl, rfl, rfl, rfl, rfl⟩ rfl rfl rfl rfl rfl (by kernel_rfl) Tryz.func8 (by kernel_rfl)
    (of_decide_eq_true (by kernel_rfl)) (by unfold Func.isWrapper; first | (rw [if_pos (by decide +kernel)]; kernel_rfl) | (rw [if_neg (by decide +kernel)]; exact ⟨rfl, rfl⟩))
    (fun os started H enc _ F => by rw [OpenClaim.pre_eq_preRow]; exact lifted os started H enc F)

theorem plain (f : FuncId) (fn : Func) (hf : Tryz.pinned.checked.prog.funcNamed "pillarbox/pillarboxlaw09.ServeResets" = some f) (hfn : Tryz.pinned.checked.prog.funcs[f]? = some fn) :
    true = Tryz.pinned.checked.prog.looks [] ∧ ∀ (j : Nat) t, fn.params[j]? = some t → Tryz.pinned.checked.prog.wantsStandIn t = false := by
  obtain rfl : f = 8 := Option.some.inj ((show Tryz.prog.funcNamed "pillarbox/pillarboxlaw09.ServeResets" = some 8 by kernel_rfl).symm.trans hf) |>.symm
  obtain rfl : fn = Tryz.f8 := (Option.some.inj (Tryz.func8.symm.trans hfn)).symm
  refine ⟨by kernel_rfl, fun j t ht => ?_⟩
  rw [Tryz.params8] at ht
  have hm : t ∈ [36, 9] := by simpa using Array.mem_of_getElem? ht
  have hall : ([36, 9].all fun u => !Tryz.prog.wantsStandIn u) = true := by kernel_rfl
  exact (show Tryz.prog.wantsStandIn t = false by simpa using List.all_eq_true.1 hall t hm)

/-- The statement: the tied card. -/
theorem proved : Rows.ServeResetsUptoCardSaid :=
  Claim7.holds_tied_plain_at .later [] _ _ _ _ over (fun _ h => by cases h) (by kernel_rfl) (fun _ h => by cases h) serveResetsUpto_row_tie rfl ⟨rfl, rfl⟩ (by kernel_rfl) rfl plain (by kernel_rfl)
#print axioms proved
end Go.Proofs.YtcjljldknekhiaaGreatDoor.serveResets
