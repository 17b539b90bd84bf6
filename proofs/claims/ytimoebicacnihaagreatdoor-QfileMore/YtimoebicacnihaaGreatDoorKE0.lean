/-
  What the layers below return, as the mails' layer asks for it: mailboxes, bodies.
-/
import Derived.Test.YtimoebicacnihaaGreatDoorKEBase
import Derived.Test.YtimoebicacnihaaGreatDoorKLns
import Derived.Test.YtimoebicacnihaaGreatDoorKg6
namespace Go.Proofs.YtimoebicacnihaaGreatDoor.Ln
open Go.RowKit
set_option linter.unusedVariables false
set_option linter.unusedSimpArgs false

/-! ### A mail, whatever room its slices have -/
structure MlIt (P : Nat → Prop) (w : World) (m : Ml) (rx : Option Addr) (rn : Nat) (bx : Option Addr) (bn : Nat) : Prop where
  rs : TxP P w rx m.rcpts
  bs : Bytes P w bx m.body
  hrn : rn = m.rcpts.length
  hbn : bn = m.body.length
theorem MlIt.keep {P S : Nat → Prop} {w w' : World} {m : Ml} {rx bx : Option Addr} {rn bn : Nat} (h : MlIt P w m rx rn bx bn) (k : Keep S w w') (hs : ∀ b, b < w.heap.size → P b → ¬ S b) : MlIt P w' m rx rn bx bn := ⟨h.rs.keep k hs, h.bs.keep k hs, h.hrn, h.hbn⟩
theorem MlIt.quiet {P : Nat → Prop} {w w' : World} {m : Ml} {rx bx : Option Addr} {rn bn : Nat} (h : MlIt P w m rx rn bx bn) (k : Keep (fun _ => False) w w') : MlIt P w' m rx rn bx bn := h.keep k (fun _ _ _ h => h)
theorem MlIt.mono {P Q : Nat → Prop} {w : World} {m : Ml} {rx bx : Option Addr} {rn bn : Nat} (h : MlIt P w m rx rn bx bn) (hq : ∀ b, b < w.heap.size → P b → Q b) : MlIt Q w m rx rn bx bn := ⟨h.rs.mono hq, h.bs.mono hq, h.hrn, h.hbn⟩
theorem MlAt.it {P : Nat → Prop} {w : World} {m : Ml} {rx bx : Option Addr} {rn rc bn bc : Nat} (h : MlAt P w m rx rn rc bx bn bc) : MlIt P w m rx rn bx bn := ⟨h.rs, h.bs, h.hrn, h.hbn⟩

theorem linesC : LinesC := fun x n c bs P w hn hc hl h ⟨m, hm⟩ => by
  refine (lines hn hc h (by omega) m hm).mono ?_
  rintro e w' ⟨v, he, _, hk⟩
  exact ⟨⟨v, he⟩, hk⟩
theorem bs_inj {l : List UInt8} {s : ByteArray} : Ad.bs l = s ↔ l = s.data.toList := by
  constructor
  · rintro rfl
    exact (Ad.bs_data l).symm
  · rintro rfl
    exact Ad.bs_of s
set_option maxHeartbeats 1000000 in
theorem boxC : BoxC := by
  rintro s w ⟨m, hm⟩
  have HC := Lib.hid (Ad.parse_walk s m w hm)
  cases hb : Ad.isBox s.data.toList with
  | false =>
    have hv : boxB s = false := by rw [boxB, hb]; rfl
    rw [Ad.parseV_none hb] at HC
    have HV := Lib.hid hv
    clear hv hb
    go_enter Tryz.func55, Tryz.ntmps55
    go_wp2_with fail
    refine HC.out.mono ?_
    rintro e w1 ⟨rfl, hb1⟩
    go_wp2
    go_ret
    exact ⟨by rw [HV.out]; rfl, Keep.of_below hb1⟩
  | true =>
    have e1 : Ad.parseV s.data.toList = .tuple #[.string (Ad.bs (Ad.parseM s.data.toList)), .bool true] := by rw [Ad.parseV, hb]
    rw [e1] at HC
    obtain ⟨t, ht⟩ : ∃ t, t = Ad.bs (Ad.parseM s.data.toList) := ⟨_, rfl⟩
    rw [← ht] at HC
    have hv : boxB s = decide (t = s) := by
      rw [boxB, hb, ht, Bool.true_and]
      simp only [bs_inj]
    have HV := Lib.hid hv
    clear hv hb e1 ht
    by_cases hts : t = s
    · subst hts
      go_enter Tryz.func55, Tryz.ntmps55
      go_wp2_with fail
      refine HC.out.mono ?_
      rintro e w1 ⟨rfl, hb1⟩
      go_wp2
      go_ret
      exact ⟨by rw [HV.out]; simp, Keep.of_below hb1⟩
    · have hne := list_beq hts
      have HD : Hid (decide (t = s) = false) := Lib.hid (decide_eq_false hts)
      go_enter Tryz.func55, Tryz.ntmps55
      go_wp2_with fail
      refine HC.out.mono ?_
      rintro e w1 ⟨rfl, hb1⟩
      go_wp2
      go_ret
      exact ⟨by rw [HV.out, HD.out]; rfl, Keep.of_below hb1⟩
end Go.Proofs.YtimoebicacnihaaGreatDoor.Ln
