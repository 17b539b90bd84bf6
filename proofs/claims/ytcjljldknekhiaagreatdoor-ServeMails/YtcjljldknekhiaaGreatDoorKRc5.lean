/-
  What the document's own command returns and does.
-/
import Derived.Test.YtcjljldknekhiaaGreatDoorKg2
import Derived.BigQuiet
import Derived.BigRegion
namespace Go.Proofs.YtcjljldknekhiaaGreatDoor.Ln
open Go.RowKit
set_option linter.unusedVariables false
set_option linter.unusedSimpArgs false

theorem keep_drewN {S : Nat → Prop} {a w : World} (h : Keep S a w) (n : Nat) : Keep S a (w.drewN n) := ⟨h.os, h.tape, h.output, h.size, h.block⟩
set_option maxHeartbeats 4000000 in
set_option maxRecDepth 100000 in
theorem cmd_mail0 {F : Nat → Prop} {w : World} {g : Nat} {s : Se} (h : RS F w g s) (hok : Ok s) (ho : s.out.length + 2 ≤ 1000000) (l : ByteArray) (hl : l.size ≤ 512) (A : ByteArray) (z : Int) (h1 : ¬ ((s.st : Int) = 1))
    (hv : ∀ w, Calls Tryz.prog 25 #[.string l] w fun e w' => e = .returned (.tuple #[.agg #[.string { data := #[77, 65, 73, 76] }, .string A, .int .i64 z], .int .i64 0]) ∧ Keep (fun _ => False) w w') :
    Calls Tryz.prog 38 #[.pointer (some ⟨g, 0, none⟩), .string l] w (Did F g (s.say (reply 503)) w) := by
  have N0 := Lib.hid (Now.start h)
  have HV := Lib.hid hv
  have HOK := Lib.hid hok
  have hst := hok.st
  have hsz := hok.size
  have hl' : (l.size : Int) ≤ 512 := by omega
  clear h hv hok
  go_enter Tryz.func38, Tryz.ntmps38
  go_wp2_with fail
  refine (HV.out _).mono ?_
  rintro e w1 ⟨rfl, hk1⟩
  have N1 := Lib.hid (N0.out.quiet (hk1.trans (laidV_keep w1 { data := #[77, 65, 73, 76] } A z) (fun _ _ h => h)))
  obtain ⟨v0, v1, v2⟩ := laidV_cells w1 { data := #[77, 65, 73, 76] } A z
  obtain ⟨c0, c1, c4, c5, c8, fz⟩ := N1.out.cells
  have f4 := fz 4
  clear hk1 fz
  go_wp2_with (refine step_laidV (by rfl) (.tmp 4) (.tmp 15) (by rfl) { data := #[77, 65, 73, 76] } A z (by rfl) (by rfl) ?_)
  refine (refText 503 (by decide) (by decide) _).mono ?_
  rintro e w2 ⟨rfl, hk2⟩
  have N2 := Lib.hid (N1.out.quiet hk2)
  clear hk2
  go_wp2_with fail
  refine (refSay N2.out.rs _ (by have : s.out.length + 2 ≤ 1000000 := ho; omega)).mono ?_
  rintro e w3 hd
  obtain ⟨rfl, F3, hN3⟩ := N2.out.did hd
  have N3 := Lib.hid hN3
  clear hd hN3
  go_wp2_with fail
  (try simp only [Exit.inBlock, Exit.then])
  first | go_end0 | refine bodyPost_ret (results_none rfl _ _ _) rfl ?_
  exact N3.out.done

set_option maxHeartbeats 4000000 in
set_option maxRecDepth 100000 in
theorem cmd_mail1 {F : Nat → Prop} {w : World} {g : Nat} {s : Se} (h : RS F w g s) (hok : Ok s) (ho : s.out.length + 2 ≤ 1000000) (l : ByteArray) (hl : l.size ≤ 512) (A : ByteArray) (z : Int) (h1 : (s.st : Int) = 1) (h2 : (s.size : Int) < z)
    (hv : ∀ w, Calls Tryz.prog 25 #[.string l] w fun e w' => e = .returned (.tuple #[.agg #[.string { data := #[77, 65, 73, 76] }, .string A, .int .i64 z], .int .i64 0]) ∧ Keep (fun _ => False) w w') :
    Calls Tryz.prog 38 #[.pointer (some ⟨g, 0, none⟩), .string l] w (Did F g (s.say (reply 552)) w) := by
  have N0 := Lib.hid (Now.start h)
  have HV := Lib.hid hv
  have HOK := Lib.hid hok
  have hst := hok.st
  have hsz := hok.size
  have hl' : (l.size : Int) ≤ 512 := by omega
  clear h hv hok
  go_enter Tryz.func38, Tryz.ntmps38
  go_wp2_with fail
  refine (HV.out _).mono ?_
  rintro e w1 ⟨rfl, hk1⟩
  have N1 := Lib.hid (N0.out.quiet (hk1.trans (laidV_keep w1 { data := #[77, 65, 73, 76] } A z) (fun _ _ h => h)))
  obtain ⟨v0, v1, v2⟩ := laidV_cells w1 { data := #[77, 65, 73, 76] } A z
  obtain ⟨c0, c1, c4, c5, c8, fz⟩ := N1.out.cells
  have f4 := fz 4
  have hd : decide ((s.size : Int) < z) = true := decide_eq_true h2
  clear hk1 fz
  go_wp2_with (refine step_laidV (by rfl) (.tmp 4) (.tmp 15) (by rfl) { data := #[77, 65, 73, 76] } A z (by rfl) (by rfl) ?_)
  go_quiet (fail)
  have N2 : Hid (Now F w g F ((laidV w1 { data := #[77, 65, 73, 76] } A z).drewN nq) s) := Lib.hid (N1.out.quiet (keep_drewN (Keep.refl (fun _ => False) _) nq))
  have vW : ((laidV w1 { data := #[77, 65, 73, 76] } A z).drewN nq).cell? ⟨w1.heap.size, 1, none⟩ = some (.string A) := v1
  generalize (laidV w1 { data := #[77, 65, 73, 76] } A z).drewN nq = W at N2 vW ⊢
  go_wp2_with fail
  refine (refText 552 (by decide) (by decide) _).mono ?_
  rintro e w3 ⟨rfl, hk3⟩
  have N3 := Lib.hid (N2.out.quiet hk3)
  clear hk3
  go_wp2_with fail
  refine (refSay N3.out.rs _ (by have : s.out.length + 2 ≤ 1000000 := ho; omega)).mono ?_
  rintro e w4 hd
  obtain ⟨rfl, F4, hN4⟩ := N3.out.did hd
  have N4 := Lib.hid hN4
  clear hd hN4
  go_wp2_with fail
  (try simp only [Exit.inBlock, Exit.then])
  first | go_end0 | refine bodyPost_ret (results_none rfl _ _ _) rfl ?_
  exact N4.out.done

set_option maxHeartbeats 4000000 in
set_option maxRecDepth 100000 in
theorem cmd_mail2 {F : Nat → Prop} {w : World} {g : Nat} {s : Se} (h : RS F w g s) (hok : Ok s) (ho : s.out.length + 2 ≤ 1000000) (l : ByteArray) (hl : l.size ≤ 512) (A : ByteArray) (z : Int) (h1 : (s.st : Int) = 1) (h2 : ¬ ((s.size : Int) < z))
    (hv : ∀ w, Calls Tryz.prog 25 #[.string l] w fun e w' => e = .returned (.tuple #[.agg #[.string { data := #[77, 65, 73, 76] }, .string A, .int .i64 z], .int .i64 0]) ∧ Keep (fun _ => False) w w') :
    Calls Tryz.prog 38 #[.pointer (some ⟨g, 0, none⟩), .string l] w (Did F g ({ s with st := 2, frm := A }.say (reply 250)) w) := by
  have N0 := Lib.hid (Now.start h)
  have HV := Lib.hid hv
  have HOK := Lib.hid hok
  have hst := hok.st
  have hsz := hok.size
  have hl' : (l.size : Int) ≤ 512 := by omega
  clear h hv hok
  go_enter Tryz.func38, Tryz.ntmps38
  go_wp2_with fail
  refine (HV.out _).mono ?_
  rintro e w1 ⟨rfl, hk1⟩
  have N1 := Lib.hid (N0.out.quiet (hk1.trans (laidV_keep w1 { data := #[77, 65, 73, 76] } A z) (fun _ _ h => h)))
  obtain ⟨v0, v1, v2⟩ := laidV_cells w1 { data := #[77, 65, 73, 76] } A z
  obtain ⟨c0, c1, c4, c5, c8, fz⟩ := N1.out.cells
  have f4 := fz 4
  have hd : decide ((s.size : Int) < z) = false := decide_eq_false (by omega)
  have hgv : g ≠ w1.heap.size := by
    obtain ⟨_, _, _, _, _, _, _, hR⟩ := N0.out.rs
    have := hR.flt g hR.fg
    have := hk1.size
    omega
  clear hk1 fz
  go_wp2_with (refine step_laidV (by rfl) (.tmp 4) (.tmp 15) (by rfl) { data := #[77, 65, 73, 76] } A z (by rfl) (by rfl) ?_)
  go_quiet (fail)
  have N2 : Hid (Now F w g F ((laidV w1 { data := #[77, 65, 73, 76] } A z).drewN nq) s) := Lib.hid (N1.out.quiet (keep_drewN (Keep.refl (fun _ => False) _) nq))
  have vW : ((laidV w1 { data := #[77, 65, 73, 76] } A z).drewN nq).cell? ⟨w1.heap.size, 1, none⟩ = some (.string A) := v1
  generalize (laidV w1 { data := #[77, 65, 73, 76] } A z).drewN nq = W at N2 vW ⊢
  have N3 := Lib.hid (N2.out.put (s' := s.to 2) 4 (.int .i64 2) (fun _ _ _ _ => rfl) rfl rfl rfl rfl)
  have N4 := Lib.hid (N3.out.put (s' := { s with st := 2, frm := A }) 5 (.string A) (fun _ _ _ _ => rfl) rfl rfl rfl rfl)
  obtain ⟨_, _, k4, k5, _, kf⟩ := N2.out.cells
  have kf4 := kf 4
  have kf5 := kf 5
  clear kf
  go_wp2_with fail
  go_region
  have N5 := Lib.hid (N4.out.quiet ((Keep.refl (fun _ => False) _).drew))
  go_wp2_with fail
  refine (refText 250 (by decide) (by decide) _).mono ?_
  rintro e w6 ⟨rfl, hk6⟩
  have N6 := Lib.hid (N5.out.quiet hk6)
  clear hk6
  go_wp2_with fail
  refine (refSay N6.out.rs _ (by have : s.out.length + 2 ≤ 1000000 := ho; show s.out.length ≤ 1000000; omega)).mono ?_
  rintro e w7 hd
  obtain ⟨rfl, F7, hN7⟩ := N6.out.did hd
  have N7 := Lib.hid hN7
  clear hd hN7
  go_wp2_with fail
  (try simp only [Exit.inBlock, Exit.then])
  first | go_end0 | refine bodyPost_ret (results_none rfl _ _ _) rfl ?_
  exact N7.out.done

end Go.Proofs.YtcjljldknekhiaaGreatDoor.Ln
