/-
  What the document's own command returns and does.
-/
import Derived.Test.YtcjljldknekhiaaGreatDoorKg2
import Derived.BigRegion
namespace Go.Proofs.YtcjljldknekhiaaGreatDoor.Ln
open Go.RowKit
set_option linter.unusedVariables false
set_option linter.unusedSimpArgs false

set_option maxHeartbeats 4000000 in
set_option maxRecDepth 100000 in
theorem cmd_rcpt0 {F : Nat → Prop} {w : World} {g : Nat} {s : Se} (h : RS F w g s) (hok : Ok s) (ho : s.out.length + 2 ≤ 1000000) (l : ByteArray) (hl : l.size ≤ 512) (A : ByteArray) (z : Int) (h1 : (s.st : Int) < 2)
    (hv : ∀ w, Calls Tryz.prog 25 #[.string l] w fun e w' => e = .returned (.tuple #[.agg #[.string { data := #[82, 67, 80, 84] }, .string A, .int .i64 z], .int .i64 0]) ∧ Keep (fun _ => False) w w') :
    Calls Tryz.prog 38 #[.pointer (some ⟨g, 0, none⟩), .string l] w (Did F g (s.say (reply 503)) w) := by
  have N0 := Lib.hid (Now.start h)
  have HV := Lib.hid hv
  have HOK := Lib.hid hok
  have hst := hok.st
  have hsz := hok.size
  have hl' : (l.size : Int) ≤ 512 := by omega
  clear h hv hok
  go_enter Tryz.func38, Tryz.ntmps38
  go_wp2_with fail
  refine (HV.out _).mono ?_
  rintro e w1 ⟨rfl, hk1⟩
  have N1 := Lib.hid (N0.out.quiet (hk1.trans (laidV_keep w1 { data := #[82, 67, 80, 84] } A z) (fun _ _ h => h)))
  obtain ⟨v0, v1, v2⟩ := laidV_cells w1 { data := #[82, 67, 80, 84] } A z
  obtain ⟨c0, c1, c4, c5, c8, fz⟩ := N1.out.cells
  have f4 := fz 4
  clear hk1 fz
  go_wp2_with (refine step_laidV (by rfl) (.tmp 4) (.tmp 15) (by rfl) { data := #[82, 67, 80, 84] } A z (by rfl) (by rfl) ?_)
  refine (refText 503 (by decide) (by decide) _).mono ?_
  rintro e w2 ⟨rfl, hk2⟩
  have N2 := Lib.hid (N1.out.quiet hk2)
  clear hk2
  go_wp2_with fail
  refine (refSay N2.out.rs _ (by have : s.out.length + 2 ≤ 1000000 := ho; omega)).mono ?_
  rintro e w3 hd
  obtain ⟨rfl, F3, hN3⟩ := N2.out.did hd
  have N3 := Lib.hid hN3
  clear hd hN3
  go_wp2_with fail
  (try simp only [Exit.inBlock, Exit.then])
  first | go_end0 | refine bodyPost_ret (results_none rfl _ _ _) rfl ?_
  exact N3.out.done

set_option maxHeartbeats 4000000 in
set_option maxRecDepth 100000 in
theorem cmd_rcpt1 {F : Nat → Prop} {w : World} {g : Nat} {s : Se} (h : RS F w g s) (hok : Ok s) (ho : s.out.length + 2 ≤ 1000000) (l : ByteArray) (hl : l.size ≤ 512) (A : ByteArray) (z : Int) (h1 : ¬ ((s.st : Int) < 2)) (h8 : 8 ≤ s.rcpts.length)
    (hv : ∀ w, Calls Tryz.prog 25 #[.string l] w fun e w' => e = .returned (.tuple #[.agg #[.string { data := #[82, 67, 80, 84] }, .string A, .int .i64 z], .int .i64 0]) ∧ Keep (fun _ => False) w w') :
    Calls Tryz.prog 38 #[.pointer (some ⟨g, 0, none⟩), .string l] w (Did F g (s.say (reply 452)) w) := by
  have N0 := Lib.hid (Now.start h)
  have HV := Lib.hid hv
  have HOK := Lib.hid hok
  have hst := hok.st
  have hsz := hok.size
  have hl' : (l.size : Int) ≤ 512 := by omega
  clear h hv hok
  go_enter Tryz.func38, Tryz.ntmps38
  go_wp2_with fail
  refine (HV.out _).mono ?_
  rintro e w1 ⟨rfl, hk1⟩
  have N1 := Lib.hid (N0.out.quiet (hk1.trans (laidV_keep w1 { data := #[82, 67, 80, 84] } A z) (fun _ _ h => h)))
  obtain ⟨v0, v1, v2⟩ := laidV_cells w1 { data := #[82, 67, 80, 84] } A z
  obtain ⟨c0, c1, c4, c5, c8, fz⟩ := N1.out.cells
  have f4 := fz 4
  obtain ⟨wv, ov, rv, bv, qo, qb, xs, hR1⟩ := N1.out.rs
  obtain ⟨rx, rc, hrv, hrc, _⟩ := hR1.rc
  subst hrv
  obtain ⟨_, _, _, _, _, _, c6, _⟩ := hR1.cells
  obtain ⟨n, hn⟩ : ∃ n, n = s.rcpts.length := ⟨_, rfl⟩
  rw [← hn] at c6 hrc hR1
  have h8' : (8 : Int) ≤ (n : Int) := by omega
  clear hR1 hn
  clear hk1 fz
  go_wp2_with (refine step_laidV (by rfl) (.tmp 4) (.tmp 15) (by rfl) { data := #[82, 67, 80, 84] } A z (by rfl) (by rfl) ?_)
  refine (refText 452 (by decide) (by decide) _).mono ?_
  rintro e w2 ⟨rfl, hk2⟩
  have N2 := Lib.hid (N1.out.quiet hk2)
  clear hk2
  go_wp2_with fail
  refine (refSay N2.out.rs _ (by have : s.out.length + 2 ≤ 1000000 := ho; omega)).mono ?_
  rintro e w3 hd
  obtain ⟨rfl, F3, hN3⟩ := N2.out.did hd
  have N3 := Lib.hid hN3
  clear hd hN3
  go_wp2_with fail
  (try simp only [Exit.inBlock, Exit.then])
  first | go_end0 | refine bodyPost_ret (results_none rfl _ _ _) rfl ?_
  exact N3.out.done

end Go.Proofs.YtcjljldknekhiaaGreatDoor.Ln
