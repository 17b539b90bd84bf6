/-
  What the document's own command returns and does.
-/
import Derived.Test.YtcjljldknekhiaaGreatDoorKg2
import Derived.BigQuiet
namespace Go.Proofs.YtcjljldknekhiaaGreatDoor.Ln
open Go.RowKit
set_option linter.unusedVariables false
set_option linter.unusedSimpArgs false

set_option maxHeartbeats 4000000 in
set_option maxRecDepth 100000 in
theorem cmd_long {F : Nat → Prop} {w : World} {g : Nat} {s : Se} (h : RS F w g s) (ho : s.out.length + 2 ≤ 1000000) (l : ByteArray) (hl : 512 < l.size) (hl2 : l.size ≤ 9223372036854775807) :
    Calls Tryz.prog 38 #[.pointer (some ⟨g, 0, none⟩), .string l] w (Did F g (s.say (reply 500)) w) := by
  have N1 := Lib.hid (Now.start h)
  have hl' : (512 : Int) < (l.size : Int) := by omega
  clear h
  go_enter Tryz.func38, Tryz.ntmps38
  go_wp2_with fail
  refine (refText 500 (by decide) (by decide) _).mono ?_
  rintro e w2 ⟨rfl, hk2⟩
  have N2 := Lib.hid (N1.out.quiet hk2)
  clear hk2
  go_wp2_with fail
  refine (refSay N2.out.rs _ (by have : s.out.length + 2 ≤ 1000000 := ho; omega)).mono ?_
  rintro e w3 hd
  obtain ⟨rfl, F3, hN3⟩ := N2.out.did hd
  have N3 := Lib.hid hN3
  clear hd hN3
  go_wp2_with fail
  (try simp only [Exit.inBlock, Exit.then])
  first | go_end0 | refine bodyPost_ret (results_none rfl _ _ _) rfl ?_
  exact N3.out.done

set_option maxHeartbeats 4000000 in
set_option maxRecDepth 100000 in
theorem cmd_code {F : Nat → Prop} {w : World} {g : Nat} {s : Se} (h : RS F w g s) (ho : s.out.length + 2 ≤ 1000000) (l : ByteArray) (hl : l.size ≤ 512) (B A : ByteArray) (z : Int) (c : Nat) (hc : 0 < c) (hc2 : c ≤ 999)
    (hv : ∀ w, Calls Tryz.prog 25 #[.string l] w fun e w' => e = .returned (.tuple #[.agg #[.string B, .string A, .int .i64 z], .int .i64 (c : Int)]) ∧ Keep (fun _ => False) w w') :
    Calls Tryz.prog 38 #[.pointer (some ⟨g, 0, none⟩), .string l] w (Did F g (s.say (reply c)) w) := by
  have N0 := Lib.hid (Now.start h)
  have HV := Lib.hid hv
  have hl' : (l.size : Int) ≤ 512 := by omega
  have hc' : (0 : Int) < (c : Int) := by omega
  clear h hv
  go_enter Tryz.func38, Tryz.ntmps38
  go_wp2_with fail
  refine (HV.out _).mono ?_
  rintro e w1 ⟨rfl, hk1⟩
  have N1 := Lib.hid (N0.out.quiet (hk1.trans (laidV_keep w1 B A z) (fun _ _ h => h)))
  clear hk1
  go_wp2_with (refine step_laidV (by rfl) (.tmp 4) (.tmp 15) (by rfl) B A z (by rfl) (by rfl) ?_)
  refine (refText c hc (by omega) _).mono ?_
  rintro e w2 ⟨rfl, hk2⟩
  have N2 := Lib.hid (N1.out.quiet hk2)
  clear hk2
  go_wp2_with fail
  refine (refSay N2.out.rs _ (by have : s.out.length + 2 ≤ 1000000 := ho; omega)).mono ?_
  rintro e w3 hd
  obtain ⟨rfl, F3, hN3⟩ := N2.out.did hd
  have N3 := Lib.hid hN3
  clear hd hN3
  go_wp2_with fail
  (try simp only [Exit.inBlock, Exit.then])
  first | go_end0 | refine bodyPost_ret (results_none rfl _ _ _) rfl ?_
  exact N3.out.done

set_option maxHeartbeats 4000000 in
set_option maxRecDepth 100000 in
theorem cmd_noop {F : Nat → Prop} {w : World} {g : Nat} {s : Se} (h : RS F w g s) (hok : Ok s) (ho : s.out.length + 2 ≤ 1000000) (l : ByteArray) (hl : l.size ≤ 512) (A : ByteArray) (z : Int) 
    (hv : ∀ w, Calls Tryz.prog 25 #[.string l] w fun e w' => e = .returned (.tuple #[.agg #[.string { data := #[78, 79, 79, 80] }, .string A, .int .i64 z], .int .i64 0]) ∧ Keep (fun _ => False) w w') :
    Calls Tryz.prog 38 #[.pointer (some ⟨g, 0, none⟩), .string l] w (Did F g (s.say (reply 250)) w) := by
  have N0 := Lib.hid (Now.start h)
  have HV := Lib.hid hv
  have HOK := Lib.hid hok
  have hst := hok.st
  have hsz := hok.size
  have hl' : (l.size : Int) ≤ 512 := by omega
  clear h hv hok
  go_enter Tryz.func38, Tryz.ntmps38
  go_wp2_with fail
  refine (HV.out _).mono ?_
  rintro e w1 ⟨rfl, hk1⟩
  have N1 := Lib.hid (N0.out.quiet (hk1.trans (laidV_keep w1 { data := #[78, 79, 79, 80] } A z) (fun _ _ h => h)))
  obtain ⟨v0, v1, v2⟩ := laidV_cells w1 { data := #[78, 79, 79, 80] } A z
  obtain ⟨c0, c1, c4, c5, c8, fz⟩ := N1.out.cells
  have f4 := fz 4
  clear hk1 fz
  go_wp2_with (refine step_laidV (by rfl) (.tmp 4) (.tmp 15) (by rfl) { data := #[78, 79, 79, 80] } A z (by rfl) (by rfl) ?_)
  refine (refText 250 (by decide) (by decide) _).mono ?_
  rintro e w2 ⟨rfl, hk2⟩
  have N2 := Lib.hid (N1.out.quiet hk2)
  clear hk2
  go_wp2_with fail
  refine (refSay N2.out.rs _ (by have : s.out.length + 2 ≤ 1000000 := ho; omega)).mono ?_
  rintro e w3 hd
  obtain ⟨rfl, F3, hN3⟩ := N2.out.did hd
  have N3 := Lib.hid hN3
  clear hd hN3
  go_wp2_with fail
  (try simp only [Exit.inBlock, Exit.then])
  first | go_end0 | refine bodyPost_ret (results_none rfl _ _ _) rfl ?_
  exact N3.out.done

set_option maxHeartbeats 4000000 in
set_option maxRecDepth 100000 in
theorem cmd_vrfy {F : Nat → Prop} {w : World} {g : Nat} {s : Se} (h : RS F w g s) (hok : Ok s) (ho : s.out.length + 2 ≤ 1000000) (l : ByteArray) (hl : l.size ≤ 512) (A : ByteArray) (z : Int) 
    (hv : ∀ w, Calls Tryz.prog 25 #[.string l] w fun e w' => e = .returned (.tuple #[.agg #[.string { data := #[86, 82, 70, 89] }, .string A, .int .i64 z], .int .i64 0]) ∧ Keep (fun _ => False) w w') :
    Calls Tryz.prog 38 #[.pointer (some ⟨g, 0, none⟩), .string l] w (Did F g (s.say (reply 252)) w) := by
  have N0 := Lib.hid (Now.start h)
  have HV := Lib.hid hv
  have HOK := Lib.hid hok
  have hst := hok.st
  have hsz := hok.size
  have hl' : (l.size : Int) ≤ 512 := by omega
  clear h hv hok
  go_enter Tryz.func38, Tryz.ntmps38
  go_wp2_with fail
  refine (HV.out _).mono ?_
  rintro e w1 ⟨rfl, hk1⟩
  have N1 := Lib.hid (N0.out.quiet (hk1.trans (laidV_keep w1 { data := #[86, 82, 70, 89] } A z) (fun _ _ h => h)))
  obtain ⟨v0, v1, v2⟩ := laidV_cells w1 { data := #[86, 82, 70, 89] } A z
  obtain ⟨c0, c1, c4, c5, c8, fz⟩ := N1.out.cells
  have f4 := fz 4
  clear hk1 fz
  go_wp2_with (refine step_laidV (by rfl) (.tmp 4) (.tmp 15) (by rfl) { data := #[86, 82, 70, 89] } A z (by rfl) (by rfl) ?_)
  refine (refText 252 (by decide) (by decide) _).mono ?_
  rintro e w2 ⟨rfl, hk2⟩
  have N2 := Lib.hid (N1.out.quiet hk2)
  clear hk2
  go_wp2_with fail
  refine (refSay N2.out.rs _ (by have : s.out.length + 2 ≤ 1000000 := ho; omega)).mono ?_
  rintro e w3 hd
  obtain ⟨rfl, F3, hN3⟩ := N2.out.did hd
  have N3 := Lib.hid hN3
  clear hd hN3
  go_wp2_with fail
  (try simp only [Exit.inBlock, Exit.then])
  first | go_end0 | refine bodyPost_ret (results_none rfl _ _ _) rfl ?_
  exact N3.out.done

set_option maxHeartbeats 4000000 in
set_option maxRecDepth 100000 in
theorem cmd_rset {F : Nat → Prop} {w : World} {g : Nat} {s : Se} (h : RS F w g s) (hok : Ok s) (ho : s.out.length + 2 ≤ 1000000) (l : ByteArray) (hl : l.size ≤ 512) (A : ByteArray) (z : Int) 
    (hv : ∀ w, Calls Tryz.prog 25 #[.string l] w fun e w' => e = .returned (.tuple #[.agg #[.string { data := #[82, 83, 69, 84] }, .string A, .int .i64 z], .int .i64 0]) ∧ Keep (fun _ => False) w w') :
    Calls Tryz.prog 38 #[.pointer (some ⟨g, 0, none⟩), .string l] w (Did F g (s.reset.say (reply 250)) w) := by
  have N0 := Lib.hid (Now.start h)
  have HV := Lib.hid hv
  have HOK := Lib.hid hok
  have hst := hok.st
  have hsz := hok.size
  have hl' : (l.size : Int) ≤ 512 := by omega
  clear h hv hok
  go_enter Tryz.func38, Tryz.ntmps38
  go_wp2_with fail
  refine (HV.out _).mono ?_
  rintro e w1 ⟨rfl, hk1⟩
  have N1 := Lib.hid (N0.out.quiet (hk1.trans (laidV_keep w1 { data := #[82, 83, 69, 84] } A z) (fun _ _ h => h)))
  obtain ⟨v0, v1, v2⟩ := laidV_cells w1 { data := #[82, 83, 69, 84] } A z
  obtain ⟨c0, c1, c4, c5, c8, fz⟩ := N1.out.cells
  have f4 := fz 4
  clear hk1 fz
  go_wp2_with (refine step_laidV (by rfl) (.tmp 4) (.tmp 15) (by rfl) { data := #[82, 83, 69, 84] } A z (by rfl) (by rfl) ?_)
  refine (refReset N1.out.rs (by first | omega | (simp [Se.to]; omega))).mono ?_
  rintro e w2 hd
  obtain ⟨rfl, F2, hN2⟩ := N1.out.did hd
  have N2 := Lib.hid hN2
  clear hd hN2
  go_wp2_with fail
  refine (refText 250 (by decide) (by decide) _).mono ?_
  rintro e w3 ⟨rfl, hk3⟩
  have N3 := Lib.hid (N2.out.quiet hk3)
  clear hk3
  go_wp2_with fail
  refine (refSay N3.out.rs _ (by simpa [Se.reset] using (show s.out.length ≤ 1000000 by omega))).mono ?_
  rintro e w4 hd
  obtain ⟨rfl, F4, hN4⟩ := N3.out.did hd
  have N4 := Lib.hid hN4
  clear hd hN4
  go_wp2_with fail
  (try simp only [Exit.inBlock, Exit.then])
  first | go_end0 | refine bodyPost_ret (results_none rfl _ _ _) rfl ?_
  exact N4.out.done

set_option maxHeartbeats 4000000 in
set_option maxRecDepth 100000 in
theorem cmd_data0 {F : Nat → Prop} {w : World} {g : Nat} {s : Se} (h : RS F w g s) (hok : Ok s) (ho : s.out.length + 2 ≤ 1000000) (l : ByteArray) (hl : l.size ≤ 512) (A : ByteArray) (z : Int) (h3 : ¬ ((s.st : Int) = 3))
    (hv : ∀ w, Calls Tryz.prog 25 #[.string l] w fun e w' => e = .returned (.tuple #[.agg #[.string { data := #[68, 65, 84, 65] }, .string A, .int .i64 z], .int .i64 0]) ∧ Keep (fun _ => False) w w') :
    Calls Tryz.prog 38 #[.pointer (some ⟨g, 0, none⟩), .string l] w (Did F g (s.say (reply 503)) w) := by
  have N0 := Lib.hid (Now.start h)
  have HV := Lib.hid hv
  have HOK := Lib.hid hok
  have hst := hok.st
  have hsz := hok.size
  have hl' : (l.size : Int) ≤ 512 := by omega
  clear h hv hok
  go_enter Tryz.func38, Tryz.ntmps38
  go_wp2_with fail
  refine (HV.out _).mono ?_
  rintro e w1 ⟨rfl, hk1⟩
  have N1 := Lib.hid (N0.out.quiet (hk1.trans (laidV_keep w1 { data := #[68, 65, 84, 65] } A z) (fun _ _ h => h)))
  obtain ⟨v0, v1, v2⟩ := laidV_cells w1 { data := #[68, 65, 84, 65] } A z
  obtain ⟨c0, c1, c4, c5, c8, fz⟩ := N1.out.cells
  have f4 := fz 4
  clear hk1 fz
  go_wp2_with (refine step_laidV (by rfl) (.tmp 4) (.tmp 15) (by rfl) { data := #[68, 65, 84, 65] } A z (by rfl) (by rfl) ?_)
  refine (refText 503 (by decide) (by decide) _).mono ?_
  rintro e w2 ⟨rfl, hk2⟩
  have N2 := Lib.hid (N1.out.quiet hk2)
  clear hk2
  go_wp2_with fail
  refine (refSay N2.out.rs _ (by have : s.out.length + 2 ≤ 1000000 := ho; omega)).mono ?_
  rintro e w3 hd
  obtain ⟨rfl, F3, hN3⟩ := N2.out.did hd
  have N3 := Lib.hid hN3
  clear hd hN3
  go_wp2_with fail
  (try simp only [Exit.inBlock, Exit.then])
  first | go_end0 | refine bodyPost_ret (results_none rfl _ _ _) rfl ?_
  exact N3.out.done

end Go.Proofs.YtcjljldknekhiaaGreatDoor.Ln
