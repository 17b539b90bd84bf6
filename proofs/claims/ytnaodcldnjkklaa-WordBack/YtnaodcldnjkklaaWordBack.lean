/-
  Proved here: what was put is read again, one by one, and nothing more (the law WordBack returns true). Conditions: none.
-/
import Derived.Test.YtnaodcldnjkklaaRows
import Derived.Test.YtnaodcldnjkklaaInv
import Derived.Lib.Hide
import Derived.WalkKit
import Derived.ProofKit
import Derived.OpenShut
import Derived.ShutString
import Derived.ChangeOld
import Derived.Below
namespace Go.Proofs.Ytnaodcldnjkklaa.wordBack
open Go.ChangeShapes Go.WideShapes Go.ChangeAt Go.RowKit
set_option linter.unusedVariables false

theorem own : ownKnob Try.prog.godebug = none := by kernel_rfl
theorem laidOut : laidOutB Try.prog = true := by kernel_rfl

/-! ### The walk -/
set_option maxHeartbeats 4000000 in
set_option maxRecDepth 100000 in
theorem walk (a0 : Option Addr) (x0 : List Wd.OpR) (cap0 : Nat) (w : World) (l0 : x0.length ≤ cap0) (m0 : cap0 ≤ 9223372036854775807) (B0 : Wd.Ops w a0 x0) :
    Calls Try.prog 5 #[.slice a0 x0.length cap0] w fun e w' => e = .returned (.bool true) ∧ Below w.heap.size w w' := by
  obtain ⟨L, hL⟩ : ∃ L, L = x0.length := ⟨_, rfl⟩
  rw [← hL] at l0
  rw [← hL]
  have HL := Lib.hid hL
  have HB := Lib.hid B0
  clear hL B0
  go_enter Try.func5, Try.ntmps5
  go_wp2
  go_loopw [4] (fun i wr => ∃ (k : Nat) (s : Option (List Nat)) (q : Option Nat), k ≤ L ∧ i = .int .i64 (k : Int) ∧ Wd.BInv w w.heap.size x0 k s q wr ∧ (0 < k → k ≤ 50)) (fun i _ => L - (intOf i).toNat)
  case atStart => exact ⟨0, some [], none, by omega, rfl, Wd.BInv.start w x0, by omega⟩
  case round =>
    obtain ⟨k, s, q, hkL, rfl, hinv, hk50⟩ := hrel
    have HI := Lib.hid hinv
    have hkp := hinv.2.2.2.2
    clear hinv
    by_cases hlt : (k : Int) < (L : Int)
    · obtain ⟨b, off, x, c, o, HOP, ha, c0, c1, c2, hblt, hol, HTX⟩ := HB.out.at hkp k (by have := HL.out; omega)
      subst ha
      obtain ⟨kind, num, txt⟩ := o
      obtain ⟨lt, hlt2⟩ : ∃ m, m = txt.length := ⟨_, rfl⟩
      simp only [← hlt2] at c0 c1 c2 hol
      have HLT := Lib.hid hlt2
      clear hlt2
      have k0 : (0 : Int) ≤ (k : Int) := by omega
      by_cases hbig : (500 : Int) < (lt : Int)
      · go_wp2_with (go_at_call 8; refine (Wd.answers wr).mono ?_; rintro e w1 ⟨rfl, hk1⟩)
        go_ret
        exact ⟨rfl, (hkp.trans hk1 (fun _ _ h => h.elim)).below (Nat.le_refl _) (fun _ h => h)⟩
      by_cases hbig2 : (50 : Int) < (L : Int)
      · go_wp2_with (go_at_call 8; refine (Wd.answers wr).mono ?_; rintro e w1 ⟨rfl, hk1⟩)
        go_ret
        exact ⟨rfl, (hkp.trans hk1 (fun _ _ h => h.elim)).below (Nat.le_refl _) (fun _ h => h)⟩
      have hb2 : (s.getD []).length ≤ 30000 := by have := HI.out.2.2.2.1; omega
      have HTL : Hid (txt.length ≤ 500) := by show txt.length ≤ 500; have := HLT.out; omega
      by_cases hkind : kind = 1
      · subst hkind
        go_wp2_with fail
        refine (Wd.wNum w.heap.size q s num (by omega) wr HI.out.1).mono ?_
        rintro e w1 ⟨q1, rfl, hW1, hk1, hnew1⟩
        have HI1 : Hid (Wd.BInv w w.heap.size x0 (k + 1) (Wd.putNum s num) q1 w1) := by
          refine HI.out.next HOP.out (Nat.le_refl _) hW1 hk1 hnew1 HTL.out ?_
          by_cases hm : 0 ≤ num ∧ num ≤ 4611686018427387904
          · exact .inr ⟨⟨fun _ => hm, HTL.out⟩, Wd.putNum_some _ _ hm⟩
          · exact .inl (Wd.putNum_none _ _ hm)
        clear hW1 hk1 hnew1
        go_wp2
        go_roundw
        case rel => exact ⟨k + 1, _, q1, by omega, by go_num, HI1.out, by omega⟩
        case measure => simp [intOf]; omega
      · have hkd : (kind == 1) = false := by simpa using hkind
        have HKD := Lib.hid hkind
        clear hkind
        go_wp2_with fail
        refine (Wd.wBytes (fun k => k < w.heap.size) w.heap.size q s x lt c txt HLT.out.symm (by omega) wr HI.out.1 HTX.out (fun j hj => ⟨by omega, fun h => by have := HI.out.2.2.1 j h; omega⟩)).mono ?_
        rintro e w1 ⟨q1, rfl, hW1, hk1, hnew1⟩
        have HI1 : Hid (Wd.BInv w w.heap.size x0 (k + 1) (Wd.putBytes s txt) q1 w1) :=
          HI.out.next HOP.out (Nat.le_refl _) hW1 hk1 hnew1 HTL.out (.inr ⟨⟨fun h => absurd h HKD.out, HTL.out⟩, by simp [Wd.encOp, HKD.out, Wd.putBytes]⟩)
        clear hW1 hk1 hnew1
        go_wp2
        go_roundw
        case rel => exact ⟨k + 1, _, q1, by omega, by go_num, HI1.out, by omega⟩
        case measure => simp [intOf]; omega
    · have hkk : k = L := by omega
      subst hkk
      have hsb : (s.getD []).length ≤ 1099511627776 := by have := HI.out.2.2.2.1; omega
      go_wp2_with fail
      refine (Wd.out w.heap.size q s hsb wr HI.out.1).mono ?_
      rcases s with _ | bs
      · rintro e w1 ⟨rfl, rfl⟩
        go_wp2_with (go_at_call 8; refine (Wd.answers wr).mono ?_; rintro e w2 ⟨rfl, hk2⟩)
        go_ret
        exact ⟨rfl, (hkp.trans hk2 (fun _ _ h => h.elim)).below (Nat.le_refl _) (fun _ h => h)⟩
      · rintro e w1 ⟨g1, m1, hm1, hg1, rfl, hat1, hk1⟩
        obtain ⟨hbs, hfit⟩ := HI.out.2.1 bs rfl
        have etk : x0.take k = x0 := List.take_of_length_le (by have := HL.out; omega)
        rw [etk] at hbs hfit
        have hlt256 : ∀ c ∈ bs, c < 256 := by
          obtain ⟨_, _, _, _, _, _, hO⟩ := HI.out.1
          exact hO.2
        have HM1 := Lib.hid hm1
        have HA1 : Hid (Wd.Bytes (fun j => j = g1) w1 (some ⟨g1, 0, none⟩) bs) := Wd.Bytes.of_at hat1 hlt256
        have HFIT := Lib.hid hfit
        have HBS := Lib.hid hbs
        have hm1b : m1 ≤ 1099511627776 := by rw [HM1.out]; exact hsb
        clear hm1 hat1 hbs hfit etk hlt256 hsb
        go_wp2_with fail
        refine (Wd.read (fun j => j = g1) (some ⟨g1, 0, none⟩) m1 m1 bs HM1.out.symm hm1b w1 HA1.out).mono ?_
        rintro e w2 ⟨p, g, rfl, hp, hg, hne, hR, hk2, hglt⟩
        have HR : Hid (Wd.Rd (fun b => b = g) w2 p (some (Wd.encAll x0))) := by rw [← HBS.out]; exact hR
        have kp2 : Wd.Keep (fun b => w.heap.size ≤ b) w w2 := (hkp.trans hk1 (fun _ _ h => h.elim)).trans hk2 (fun _ _ h => h.elim)
        have KP2 := Lib.hid kp2
        have hsz : w.heap.size ≤ p := by have := hkp.size; have := hk1.size; omega
        clear hR kp2
        go_wp2
        go_loopw [8] (fun i wx => ∃ j : Nat, j ≤ k ∧ i = .int .i64 (j : Int) ∧ Hid (Wd.Rd (fun b => b = g) wx p (some (Wd.encAll (x0.drop j)))) ∧ Wd.Keep (fun b => w.heap.size ≤ b) w wx) (fun i _ => k - (intOf i).toNat)
        case atStart => exact ⟨0, by omega, rfl, HR.out, KP2.out⟩
        case round =>
          obtain ⟨j, hjk, rfl, HRx, hkx⟩ := hrel
          by_cases hjlt : (j : Int) < (k : Int)
          · obtain ⟨b, off, x, c, o, HOP, ha, c0, c1, c2, hblt, hol, HTX⟩ := HB.out.at hkx j (by have := HL.out; omega)
            subst ha
            have hfo : Wd.Fit o := HFIT.out o (List.mem_of_getElem? HOP.out)
            have hdrop := Wd.encAll_drop x0 j o HOP.out
            obtain ⟨kind, num, txt⟩ := o
            obtain ⟨lt, hlt2⟩ : ∃ m, m = txt.length := ⟨_, rfl⟩
            simp only [← hlt2] at c0 c1 c2 hol
            have HLT := Lib.hid hlt2
            have HFO := Lib.hid hfo
            have HDR := Lib.hid hdrop
            clear hlt2 hfo hdrop HOP
            have k0 : (0 : Int) ≤ (j : Int) := by omega
            by_cases hkind : kind = 1
            · subst hkind
              obtain ⟨hn0, hn1⟩ := HFO.out.1 rfl
              obtain ⟨N, hNN⟩ := Int.eq_ofNat_of_zero_le hn0
              have hNN' : num = (N : Int) := hNN
              subst hNN'
              obtain ⟨e1, e2, e3⟩ := Wd.num_back N (by unfold Wd.top; omega) (Wd.encAll (x0.drop (j + 1)))
              have ed : Wd.encAll (x0.drop j) = Wd.num8 N ++ Wd.encAll (x0.drop (j + 1)) := HDR.out
              rw [← ed] at e1 e2 e3
              have HE3 := Lib.hid e3
              clear e3 ed hNN
              go_wp2_with fail
              refine (Wd.num (fun b => b = g) p (Ne.symm hne) _ _ HRx.out).mono ?_
              rintro e w3 ⟨rfl, hR3, hk3⟩
              rw [HE3.out] at hR3
              rw [e1, e2]
              have d1 := hk3.cell c1 (by simp; omega)
              have HR3 := Lib.hid hR3
              have kp3 : Wd.Keep (fun b => w.heap.size ≤ b) w w3 := hkx.trans hk3 (fun b _ h => by have : b = p := h; omega)
              clear hR3 hk3 e1 e2
              go_wp2
              go_roundw
              case rel => exact ⟨j + 1, by omega, by go_num, HR3.out, kp3⟩
              case measure => simp [intOf]; omega
            · have hkd : (kind == 1) = false := by simpa using hkind
              have ed : Wd.encAll (x0.drop j) = Wd.enc txt ++ Wd.encAll (x0.drop (j + 1)) := by rw [HDR.out]; simp [Wd.encOp, hkind]
              obtain ⟨e1, e2, e3⟩ := Wd.byt_back txt (by have := HFO.out.2; simp at this; unfold Wd.top; omega) (Wd.encAll (x0.drop (j + 1)))
              rw [← ed] at e1 e2 e3
              have HE3 := Lib.hid e3
              clear e3 ed hkind
              go_wp2_with fail
              refine (Wd.byt (fun b => b = g) p (Ne.symm hne) _ _ HRx.out).mono ?_
              rintro e w3 ⟨x3, m3, hm3, rfl, hB3, hR3, hk3⟩
              rw [HE3.out] at hR3
              rw [e2] at hm3 hB3
              rw [e1]
              have d2 := hk3.cell c2 (by simp; omega)
              have HR3 := Lib.hid hR3
              have kp3 : Wd.Keep (fun b => w.heap.size ≤ b) w w3 := hkx.trans hk3 (fun b _ h => by have : b = p := h; omega)
              have s1 : ∀ n, (convert 24 9 (.slice x3 m3 m3)).run Try.prog (w3.drewN n) = .ok (.string (Wd.str txt)) (w3.drewN n) := fun n => Wd.run_str (hB3.drewN n) m3 m3 hm3.symm
              have s2 : ∀ n, (convert 24 9 (.slice x lt c)).run Try.prog (w3.drewN n) = .ok (.string (Wd.str txt)) (w3.drewN n) := fun n => Wd.run_str ((HTX.out.keep hk3 (fun b _ h1 h2 => by omega)).drewN n) lt c HLT.out.symm
              clear hR3 hk3 e1 e2 hB3 hm3
              go_wp2
              go_quiet (fail)
              go_wp2
              go_roundw
              case rel => exact ⟨j + 1, by omega, by go_num, HR3.out.drewN _, kp3.drewN _⟩
              case measure => simp [intOf]; omega
          · have e0 : Wd.encAll (x0.drop j) = [] := by rw [List.drop_of_length_le (by have := HL.out; omega)]; rfl
            have HE0 := Lib.hid e0
            have hno : Wd.numOk (some (Wd.encAll (x0.drop j))) = false := by rw [e0]; exact Wd.num_short [] (by simp)
            clear e0
            go_wp2_with fail
            refine (Wd.num (fun b => b = g) p (Ne.symm hne) _ _ HRx.out).mono ?_
            rintro e w3 ⟨rfl, hR3, hk3⟩
            rw [Wd.numS_no hno] at hR3
            rw [hno]
            have HR3 := Lib.hid hR3
            have kp3 : Wd.Keep (fun b => w.heap.size ≤ b) w w3 := hkx.trans hk3 (fun b _ h => by have : b = p := h; omega)
            clear hR3 hk3 hno
            go_wp2_with fail
            refine (Wd.answers w3).mono ?_
            rintro e w4 ⟨rfl, hk4⟩
            have hd : Wd.doneB none = false := rfl
            go_wp2_with fail
            refine (Wd.done (fun b => b = g) p none w4 (HR3.out.keep hk4 (fun h => h) (fun _ _ _ h => h))).mono ?_
            rintro e w5 ⟨rfl, rfl⟩
            go_wp2
            go_ret
            exact ⟨rfl, (kp3.trans hk4 (fun _ _ h => h.elim)).below (Nat.le_refl _) (fun _ h => h)⟩

/-! ### The row's step -/
set_option maxRecDepth 100000 in
theorem lifted (os : Os) (started : os.Started) (H : Type) (enc : TypeId × Value → H) :
    ReturnsInHanded {} Try.checked os 5 .any (Rows.wordBackSpec.pre6 enc Try.prog Try.f5 Rows.wordBackRow.domain false) (Rows.wordBackSpec.post enc Try.prog Try.f5 false true false false) := by
  refine returnsInHanded_of_change_sized (C := Try.checked) own started (by kernel_rfl) Try.func5
    (ChangeSpec.witness6 (enc := enc) (C := Try.checked) false ⟨#[], #[.slice none 0 0], []⟩ 8 (by kernel_rfl) (by kernel_rfl) (by kernel_rfl) (by kernel_rfl)) ?_
  intro W base args ds gs before hval0 hW hcnd hsz _
  have hval : ∀ (j : Nat) t v, Try.f5.params[j]? = some t → args[j]? = some v → Value.okWide Try.prog W .any base t v := hval0
  have hW' := hW
  obtain ⟨p, q, hA0, hV, rfl, hfz, hnd⟩ := hW
  have hA : DataW.TrodAll enc Try.prog W 0 (fun _ => true) true Try.f5.params.toList args.toList ds p := hA0
  rw [Try.params5] at hA hval hsz
  obtain ⟨v0, vs0, d0, ds0, p0, q0, hargs, rfl, rfl, h0, r0⟩ := trodAll_cons hA
  obtain ⟨rfl, rfl, rfl⟩ := trodAll_nil r0
  obtain rfl : args = #[v0] := by cases args; simp_all
  obtain ⟨rfl, rfl⟩ := trodVars_none hV
  obtain ⟨a0, len0, cap0, rfl⟩ := okWide_slice Try.underlying22 (hval 0 22 v0 rfl rfl)
  have k0 := h0
  have lt0 : ∀ x ∈ p0, x.block < W.heap.size := by obtain ⟨m, hm⟩ := k0; exact DataW.trod_lt m _ _ _ hm
  obtain ⟨b0, x0, c0, e0, l0, m0, B0⟩ : ∃ a ops cap, Value.slice a0 len0 cap0 = .slice a ops.length cap ∧ ops.length ≤ cap ∧ cap ≤ 9223372036854775807 ∧ Wd.Ops W a ops := by
    obtain ⟨fuel, hf⟩ := h0
    exact Wd.arg_ops hf
  injection e0 with e0 f0 g0
  subst e0 f0 g0
  clear hA0 hval0
  refine (walk a0 x0 cap0 W l0 m0 B0).mono fun e W' ⟨he, bel⟩ => ?_
  subst he
  exact ⟨_, rfl, _, _, _, [], _, [], hW', trodAll_mk1 (shut_bool Try.underlying4 _), (trodAll_cons_mk (Below.trod laidOut (by kernel_rfl) (of_decide_eq_true (by kernel_rfl)) k0 bel lt0) trodAll_mk0), rfl, bel.frame _, fun h => by cases h⟩

theorem over : Rows.wordBackRow.holds Try.pinned (OpenSpec.ofChange Rows.wordBackSpec) :=
  OpenClaim.holds_of_wide 5 Try.f5 rfl rfl rfl rfl rfl rfl rfl ⟨rfl, rfl, rfl, rfl, rfl⟩ rfl rfl rfl rfl rfl (by kernel_rfl) Try.func5 (by kernel_rfl)
    (of_decide_eq_true (by kernel_rfl)) (by unfold Func.isWrapper; first | (rw [if_pos (by decide +kernel)]; kernel_rfl) | (rw [if_neg (by decide +kernel)]; exact ⟨rfl, rfl⟩))
    (fun os started H enc _ => lifted os started H enc)

/-- The statement. -/
theorem proved : Rows.WordBackSaid := over
#print axioms proved
end Go.Proofs.Ytnaodcldnjkklaa.wordBack
