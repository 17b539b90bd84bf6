/-
  For the law that plays: what holds between two of its turns.
-/
import Derived.Test.YtcjljldknekhiaaGreatDoorKQk
import Derived.Test.YtcjljldknekhiaaGreatDoorKg11
import Derived.Test.YtcjljldknekhiaaGreatDoorKRx7
import Derived.Test.YtcjljldknekhiaaGreatDoorKVy
namespace Go.Proofs.YtcjljldknekhiaaGreatDoor.Ln
open Go.RowKit
set_option linter.unusedVariables false
set_option linter.unusedSimpArgs false

theorem mute_go {V : ByteArray → VC} {r : Se} (h : r.go V = r) : r.mute.go V = r.mute := by
  have e : r = r.mute.pre r.out := by cases r; simp [Se.mute, Se.pre]
  have hg : r.go V = (r.mute.go V).pre r.out := by
    conv => lhs; rw [e]
    exact pre_go V r.out _ r.mute rfl
  have h2 : r = (r.mute.go V).pre r.out := h.symm.trans hg
  have ho : (r.mute.go V).out = [] := by
    have := congrArg Se.out h2
    simp only [Se.pre] at this
    have hl := congrArg List.length this
    rw [List.length_append] at hl
    exact List.eq_nil_of_length_eq_zero (by omega)
  have h3 : r.mute = ((r.mute.go V).pre r.out).mute := by rw [← h2]
  rw [h3]
  conv => lhs; rw [← h3]
  cases hx : r.mute.go V
  rw [hx] at ho
  simp only at ho
  subst ho
  simp [Se.pre, Se.mute]
structure Lp (w0 w : World) (g h ob : Nat) (F G : Nat → Prop) (r : Se) (over : Bool) (k : Nat) : Prop where
  pl : Pl w0 w g h ob F G r r over
  go : r.go V9 = r
  out : r.out = []
  sh : Sh over r
  gd : Gd r
  wt : r.wait.length ≤ 3000 * k
theorem Lp.ro {w0 w : World} {g h ob : Nat} {F G : Nat → Prop} {r : Se} {over : Bool} {k : Nat} (T : Lp w0 w g h ob F G r over k) : Ro r := fun e he => by rw [T.out] at he; cases he
/-- A turn behind which all is told. -/
theorem lp_drained {w0 w' : World} {g h ob : Nat} {s : Se} {e : Ending} {k : Nat} (hs : Gd s) (hw : s.wait.length ≤ 3000 * k) (d : Drained w0 g h ob (s.go V9) e w') :
    e = .returned (.bool true) ∧ ∃ F G r over, Lp w0 w' g h ob F G r over k := by
  obtain ⟨he, F, G, over, T, hsh⟩ := d
  obtain ⟨a, b, c⟩ := go_keeps V9 _ s rfl hs.ok
  have hh := hs.host
  have hwt := hs.wait
  exact ⟨he, F, G, (s.go V9).mute, over, T, mute_go (go_go V9 s), rfl, hsh, ⟨⟨a.size, a.body, a.rcpts, a.bad, a.st⟩, by show (s.go V9).host.size ≤ 1000; rw [b]; exact hh, Nat.le_trans c hwt, by show List.length [] ≤ 2; simp⟩, Nat.le_trans c hw⟩
/-- What is to be told behind a turn. -/
theorem dr_turn {s : Se} {over : Bool} (hs : Gd s) (ho : Ro s) (hsh : Sh over s) : Dr s (s.go V9) over := ⟨rfl, hs, Ro.go V9 _ _ rfl hs.ok ho, Sh.go V9 _ _ rfl hsh⟩
theorem new_go (host : ByteArray) (size : Int) : (Se.new host size).go V9 = Se.new host size := go_none rfl
theorem dr_new (host : ByteArray) (size : Int) (h : host.size ≤ 1000) : Dr (Se.new host size) (Se.new host size) false := ⟨new_go host size, Gd.new host size h, Ro.new host size, Sh.new host size⟩
theorem answer_wait (r : Se) (c : Int) : (r.answer c).wait = r.wait := by
  unfold Se.answer
  split <;> rfl
theorem host9_is (host : ByteArray) : low9 (if dom9 host = true then host else nX) = host9 host := rfl
end Go.Proofs.YtcjljldknekhiaaGreatDoor.Ln
