/-
  What the document's own command returns and does.
-/
import Derived.Test.YtcjljldknekhiaaGreatDoorKg2
import Derived.BigQuiet
namespace Go.Proofs.YtcjljldknekhiaaGreatDoor.Ln
open Go.RowKit
set_option linter.unusedVariables false
set_option linter.unusedSimpArgs false

set_option maxHeartbeats 4000000 in
set_option maxRecDepth 100000 in
theorem cmd_data {F : Nat → Prop} {w : World} {g : Nat} {s : Se} (h : RS F w g s) (hok : Ok s) (ho : s.out.length + 2 ≤ 1000000) (l : ByteArray) (hl : l.size ≤ 512) (A : ByteArray) (z : Int) (h3 : (s.st : Int) = 3)
    (hv : ∀ w, Calls Tryz.prog 25 #[.string l] w fun e w' => e = .returned (.tuple #[.agg #[.string { data := #[68, 65, 84, 65] }, .string A, .int .i64 z], .int .i64 0]) ∧ Keep (fun _ => False) w w') :
    Calls Tryz.prog 38 #[.pointer (some ⟨g, 0, none⟩), .string l] w (Did F g ((s.to 4).say (reply 354)) w) := by
  have N0 := Lib.hid (Now.start h)
  have HV := Lib.hid hv
  have HOK := Lib.hid hok
  have hst := hok.st
  have hsz := hok.size
  have hl' : (l.size : Int) ≤ 512 := by omega
  clear h hv hok
  go_enter Tryz.func38, Tryz.ntmps38
  go_wp2_with fail
  refine (HV.out _).mono ?_
  rintro e w1 ⟨rfl, hk1⟩
  have N1 := Lib.hid (N0.out.quiet (hk1.trans (laidV_keep w1 { data := #[68, 65, 84, 65] } A z) (fun _ _ h => h)))
  obtain ⟨v0, v1, v2⟩ := laidV_cells w1 { data := #[68, 65, 84, 65] } A z
  obtain ⟨c0, c1, c4, c5, c8, fz⟩ := N1.out.cells
  have f4 := fz 4
  have N2 := Lib.hid (N1.out.put (s' := s.to 4) 4 (.int .i64 4) (fun _ _ _ _ => rfl) rfl rfl rfl rfl)
  clear hk1 fz
  go_wp2_with (refine step_laidV (by rfl) (.tmp 4) (.tmp 15) (by rfl) { data := #[68, 65, 84, 65] } A z (by rfl) (by rfl) ?_)
  refine (refText 354 (by decide) (by decide) _).mono ?_
  rintro e w3 ⟨rfl, hk3⟩
  have N3 := Lib.hid (N2.out.quiet hk3)
  clear hk3
  go_wp2_with fail
  refine (refSay N3.out.rs _ (by have : s.out.length + 2 ≤ 1000000 := ho; simp only [Se.to, Se.reset]; omega)).mono ?_
  rintro e w4 hd
  obtain ⟨rfl, F4, hN4⟩ := N3.out.did hd
  have N4 := Lib.hid hN4
  clear hd hN4
  go_wp2_with fail
  (try simp only [Exit.inBlock, Exit.then])
  first | go_end0 | refine bodyPost_ret (results_none rfl _ _ _) rfl ?_
  exact N4.out.done

set_option maxHeartbeats 4000000 in
set_option maxRecDepth 100000 in
theorem cmd_helo1 {F : Nat → Prop} {w : World} {g : Nat} {s : Se} (h : RS F w g s) (hok : Ok s) (ho : s.out.length + 2 ≤ 1000000) (l : ByteArray) (hl : l.size ≤ 512) (A : ByteArray) (z : Int) (h1 : (1 : Int) ≤ (s.st : Int))
    (hv : ∀ w, Calls Tryz.prog 25 #[.string l] w fun e w' => e = .returned (.tuple #[.agg #[.string { data := #[72, 69, 76, 79] }, .string A, .int .i64 z], .int .i64 0]) ∧ Keep (fun _ => False) w w') :
    Calls Tryz.prog 38 #[.pointer (some ⟨g, 0, none⟩), .string l] w (Did F g (((s.to (max s.st 1)).reset).say (reply 250)) w) := by
  have N0 := Lib.hid (Now.start h)
  have HV := Lib.hid hv
  have HOK := Lib.hid hok
  have hst := hok.st
  have hsz := hok.size
  have hl' : (l.size : Int) ≤ 512 := by omega
  clear h hv hok
  go_enter Tryz.func38, Tryz.ntmps38
  go_wp2_with fail
  refine (HV.out _).mono ?_
  rintro e w1 ⟨rfl, hk1⟩
  have N1 := Lib.hid (N0.out.quiet (hk1.trans (laidV_keep w1 { data := #[72, 69, 76, 79] } A z) (fun _ _ h => h)))
  obtain ⟨v0, v1, v2⟩ := laidV_cells w1 { data := #[72, 69, 76, 79] } A z
  obtain ⟨c0, c1, c4, c5, c8, fz⟩ := N1.out.cells
  have f4 := fz 4
  have N2 : Hid (Now F w g F ((laidV w1 { data := #[72, 69, 76, 79] } A z).setCell ⟨g, 4, none⟩ (.int .i64 (s.st : Int))) (s.to (max s.st 1))) := Lib.hid (N1.out.put (s' := s.to (max s.st 1)) 4 (.int .i64 (s.st : Int)) (fun _ _ _ _ => by rw [show max s.st 1 = s.st by omega]; rfl) rfl rfl rfl rfl)
  clear hk1 fz
  go_wp2_with (refine step_laidV (by rfl) (.tmp 4) (.tmp 15) (by rfl) { data := #[72, 69, 76, 79] } A z (by rfl) (by rfl) ?_)
  refine (refReset N2.out.rs (by first | omega | (simp [Se.to]; omega))).mono ?_
  rintro e w3 hd
  obtain ⟨rfl, F3, hN3⟩ := N2.out.did hd
  have N3 := Lib.hid hN3
  clear hd hN3
  go_wp2_with fail
  refine (refText 250 (by decide) (by decide) _).mono ?_
  rintro e w4 ⟨rfl, hk4⟩
  have N4 := Lib.hid (N3.out.quiet hk4)
  clear hk4
  go_wp2_with fail
  refine (refSay N4.out.rs _ (by have : s.out.length + 2 ≤ 1000000 := ho; simp only [Se.to, Se.reset]; omega)).mono ?_
  rintro e w5 hd
  obtain ⟨rfl, F5, hN5⟩ := N4.out.did hd
  have N5 := Lib.hid hN5
  clear hd hN5
  go_wp2_with fail
  (try simp only [Exit.inBlock, Exit.then])
  first | go_end0 | refine bodyPost_ret (results_none rfl _ _ _) rfl ?_
  exact N5.out.done

set_option maxHeartbeats 4000000 in
set_option maxRecDepth 100000 in
theorem cmd_helo0 {F : Nat → Prop} {w : World} {g : Nat} {s : Se} (h : RS F w g s) (hok : Ok s) (ho : s.out.length + 2 ≤ 1000000) (l : ByteArray) (hl : l.size ≤ 512) (A : ByteArray) (z : Int) (h1 : s.st = 0)
    (hv : ∀ w, Calls Tryz.prog 25 #[.string l] w fun e w' => e = .returned (.tuple #[.agg #[.string { data := #[72, 69, 76, 79] }, .string A, .int .i64 z], .int .i64 0]) ∧ Keep (fun _ => False) w w') :
    Calls Tryz.prog 38 #[.pointer (some ⟨g, 0, none⟩), .string l] w (Did F g (((s.to (max s.st 1)).reset).say (reply 250)) w) := by
  have N0 := Lib.hid (Now.start h)
  have HV := Lib.hid hv
  have HOK := Lib.hid hok
  have hst := hok.st
  have hsz := hok.size
  have hl' : (l.size : Int) ≤ 512 := by omega
  clear h hv hok
  go_enter Tryz.func38, Tryz.ntmps38
  go_wp2_with fail
  refine (HV.out _).mono ?_
  rintro e w1 ⟨rfl, hk1⟩
  have N1 := Lib.hid (N0.out.quiet (hk1.trans (laidV_keep w1 { data := #[72, 69, 76, 79] } A z) (fun _ _ h => h)))
  obtain ⟨v0, v1, v2⟩ := laidV_cells w1 { data := #[72, 69, 76, 79] } A z
  obtain ⟨c0, c1, c4, c5, c8, fz⟩ := N1.out.cells
  have f4 := fz 4
  rw [h1] at c4
  have N2 : Hid (Now F w g F ((laidV w1 { data := #[72, 69, 76, 79] } A z).setCell ⟨g, 4, none⟩ (.int .i64 1)) (s.to (max s.st 1))) := Lib.hid (N1.out.put (s' := s.to (max s.st 1)) 4 (.int .i64 1) (fun _ _ _ _ => by rw [show max s.st 1 = 1 by omega]; rfl) rfl rfl rfl rfl)
  clear hk1 fz
  go_wp2_with (refine step_laidV (by rfl) (.tmp 4) (.tmp 15) (by rfl) { data := #[72, 69, 76, 79] } A z (by rfl) (by rfl) ?_)
  refine (refReset N2.out.rs (by first | omega | (simp [Se.to]; omega))).mono ?_
  rintro e w3 hd
  obtain ⟨rfl, F3, hN3⟩ := N2.out.did hd
  have N3 := Lib.hid hN3
  clear hd hN3
  go_wp2_with fail
  refine (refText 250 (by decide) (by decide) _).mono ?_
  rintro e w4 ⟨rfl, hk4⟩
  have N4 := Lib.hid (N3.out.quiet hk4)
  clear hk4
  go_wp2_with fail
  refine (refSay N4.out.rs _ (by have : s.out.length + 2 ≤ 1000000 := ho; simp only [Se.to, Se.reset]; omega)).mono ?_
  rintro e w5 hd
  obtain ⟨rfl, F5, hN5⟩ := N4.out.did hd
  have N5 := Lib.hid hN5
  clear hd hN5
  go_wp2_with fail
  (try simp only [Exit.inBlock, Exit.then])
  first | go_end0 | refine bodyPost_ret (results_none rfl _ _ _) rfl ?_
  exact N5.out.done

end Go.Proofs.YtcjljldknekhiaaGreatDoor.Ln
