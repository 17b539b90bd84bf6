/-
  What the document's own text returns and does at a wrong body's end, and at a line of a body.
-/
import Derived.Test.YtcjljldknekhiaaGreatDoorKRx1
import Derived.BigQuiet
namespace Go.Proofs.YtcjljldknekhiaaGreatDoor.Ln
open Go.RowKit
set_option linter.unusedVariables false
set_option linter.unusedSimpArgs false

set_option maxHeartbeats 4000000 in
set_option maxRecDepth 100000 in
theorem refBody_bad {F : Nat → Prop} {w : World} {g : Nat} {s : Se} (h : RS F w g s) (hok : Ok s) (hb : 0 < s.bad) (l : ByteArray) (hl : l.size ≤ 900000) (hE : unE (ns l) = true) (ho : s.out.length ≤ 1000000) :
    Calls Tryz.prog 37 #[.pointer (some ⟨g, 0, none⟩), .string l] w (Did F g ((s.say (reply s.bad)).reset) w) := by
  obtain ⟨T, hT⟩ : ∃ T, T = str (unT (ns l)) := ⟨_, rfl⟩
  have hU := refUnstuff l w (by omega)
  rw [← hT, hE] at hU
  have N1 := Lib.hid (Now.start h)
  obtain ⟨_, _, _, _, c8, _⟩ := N1.out.cells
  have HU := Lib.hid hU
  have hbb : s.bad < 1000000000 := by rcases hok.bad with h | h | h <;> omega
  have hb' : (0 : Int) < (s.bad : Int) := by omega
  have hst := hok.st
  clear h hok hU hT
  go_enter Tryz.func37, Tryz.ntmps37
  go_wp2_with fail
  refine HU.out.mono ?_
  rintro e w1 ⟨rfl, hw⟩
  obtain rfl : w = w1 := hw.symm
  go_wp2_with fail
  refine (refText s.bad hb hbb _).mono ?_
  rintro e w2 ⟨rfl, hk2⟩
  have N2 := Lib.hid (N1.out.quiet hk2)
  clear hk2
  go_wp2_with fail
  refine (refSay N2.out.rs _ ho).mono ?_
  rintro e w3 hd
  obtain ⟨rfl, F3, hN3⟩ := N2.out.did hd
  have N3 := Lib.hid hN3
  clear hd hN3
  go_wp2_with fail
  refine (refReset N3.out.rs (by simp only [Se.say]; omega)).mono ?_
  rintro e w4 hd
  obtain ⟨rfl, F4, hN4⟩ := N3.out.did hd
  have N4 := Lib.hid hN4
  clear hd hN4
  go_wp2
  (try simp only [Exit.inBlock, Exit.then])
  first | go_end0 | refine bodyPost_ret (results_none rfl _ _ _) rfl ?_
  exact N4.out.done
end Go.Proofs.YtcjljldknekhiaaGreatDoor.Ln
