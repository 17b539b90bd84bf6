/-
  Several texts in one: Px Pd Pe Mh Pf.
-/
import Derived.Test.YtcjljldknekhiaaGreatDoorKg6
import Derived.Test.YtcjljldknekhiaaGreatDoorKg8
import Derived.Test.YtcjljldknekhiaaGreatDoorKg3
import Derived.Deep.RegionLaw
import Derived.Test.YtcjljldknekhiaaGreatDoorKg1

section
/-
  What the program's obey and command return.
-/
namespace Go.Proofs.YtcjljldknekhiaaGreatDoor.Ln
open Go.RowKit
set_option linter.unusedVariables false
set_option linter.unusedSimpArgs false

theorem mailC_le (p : Se) (z : Int) : p.mailC z ≤ 1000000 := by
  unfold Se.mailC
  split; · decide
  split <;> decide
theorem rcptC_le (p : Se) : p.rcptC ≤ 1000000 := by
  unfold Se.rcptC
  split; · decide
  split <;> decide
theorem dataC_le (p : Se) : p.dataC ≤ 1000000 := by
  unfold Se.dataC
  split <;> decide
theorem mailS_out (p : Se) (a : ByteArray) (z : Int) : (p.mailS a z).out = p.out := by
  unfold Se.mailS
  split; · rfl
  split <;> rfl
theorem rcptS_out (p : Se) (a : ByteArray) : (p.rcptS a).out = p.out := by
  unfold Se.rcptS
  split; · rfl
  split <;> rfl
theorem dataS_out (p : Se) : p.dataS.out = p.out := by
  unfold Se.dataS
  split <;> rfl

set_option maxHeartbeats 4000000 in
set_option maxRecDepth 100000 in
theorem obey_HELO {F : Nat → Prop} {w : World} {g : Nat} {p : Se} (h : PS F w g p) (hE : Env w) (hok : Ok p) (hst : p.st ≤ 3) (hh : p.host.size ≤ 100000) (hl : p.out.length + 2 ≤ 1000000) (a : ByteArray) (z : Int) :
    Calls Tryz.prog 89 #[.pointer (some ⟨g, 0, none⟩), verbV { data := #[72, 69, 76, 79] } a z] w (PDid F g ((p.reset.to 1).say (reply 250)) w) := by
  unfold verbV
  have hk1 : Keep (fun _ => False) w (w.alloc (.cells #[.string { data := #[72, 69, 76, 79] }, .string a, .int .i64 z] 58)) := (Keep.refl (fun _ => False) w).alloc _
  have N1 := Lib.hid ((PNow.start h hE).quiet hk1)
  have HZ := Lib.hid hok.size.2
  have HH := Lib.hid hh
  clear h hE hk1 hok hh
  go_enter Tryz.func89, Tryz.ntmps89
  go_wp2_with fail
  refine (pgreet N1.out.rs N1.out.env (by omega)).mono ?_
  rintro e w2 hd
  obtain ⟨rfl, F2, hN⟩ := N1.out.did hd
  have N2 := Lib.hid hN
  clear hd hN
  go_wp2_with fail
  refine (preply N2.out.rs N2.out.env 250 (by decide) (by show p.out.length ≤ 1000000; omega)).mono ?_
  rintro e w3 hd
  obtain ⟨rfl, F3, hN⟩ := N2.out.did hd
  have N3 := Lib.hid hN
  clear hd hN
  go_wp2_with fail
  (try simp only [Exit.inBlock, Exit.then])
  first | go_end0 | refine bodyPost_ret (results_none rfl _ _ _) rfl ?_
  exact N3.out.done

set_option maxHeartbeats 4000000 in
set_option maxRecDepth 100000 in
theorem obey_EHLO {F : Nat → Prop} {w : World} {g : Nat} {p : Se} (h : PS F w g p) (hE : Env w) (hok : Ok p) (hst : p.st ≤ 3) (hh : p.host.size ≤ 100000) (hl : p.out.length + 2 ≤ 1000000) (a : ByteArray) (z : Int) :
    Calls Tryz.prog 89 #[.pointer (some ⟨g, 0, none⟩), verbV { data := #[69, 72, 76, 79] } a z] w (PDid F g ((p.reset.to 1).say (ehlo p.host p.size)) w) := by
  unfold verbV
  have hk1 : Keep (fun _ => False) w (w.alloc (.cells #[.string { data := #[69, 72, 76, 79] }, .string a, .int .i64 z] 58)) := (Keep.refl (fun _ => False) w).alloc _
  have N1 := Lib.hid ((PNow.start h hE).quiet hk1)
  have HZ := Lib.hid hok.size.2
  have HH := Lib.hid hh
  clear h hE hk1 hok hh
  go_enter Tryz.func89, Tryz.ntmps89
  go_wp2_with fail
  refine (pgreet N1.out.rs N1.out.env (by omega)).mono ?_
  rintro e w2 hd
  obtain ⟨rfl, F2, hN⟩ := N1.out.did hd
  have N2 := Lib.hid hN
  clear hd hN
  go_wp2_with fail
  refine (poffer N2.out.rs N2.out.env HZ.out HH.out).mono ?_
  rintro e w3 ⟨rfl, hk3⟩
  have N3 := Lib.hid (N2.out.quiet hk3)
  clear hk3
  go_wp2_with fail
  refine (psay N3.out.rs _ (by show p.out.length ≤ 1000000; omega)).mono ?_
  rintro e w4 hd
  obtain ⟨rfl, F4, hN⟩ := N3.out.did hd
  have N4 := Lib.hid hN
  clear hd hN
  go_wp2_with fail
  (try simp only [Exit.inBlock, Exit.then])
  first | go_end0 | refine bodyPost_ret (results_none rfl _ _ _) rfl ?_
  exact N4.out.done

set_option maxHeartbeats 4000000 in
set_option maxRecDepth 100000 in
theorem obey_RSET {F : Nat → Prop} {w : World} {g : Nat} {p : Se} (h : PS F w g p) (hE : Env w) (hok : Ok p) (hst : p.st ≤ 3) (hh : p.host.size ≤ 100000) (hl : p.out.length + 2 ≤ 1000000) (a : ByteArray) (z : Int) :
    Calls Tryz.prog 89 #[.pointer (some ⟨g, 0, none⟩), verbV { data := #[82, 83, 69, 84] } a z] w (PDid F g (p.reset.say (reply 250)) w) := by
  unfold verbV
  have hk1 : Keep (fun _ => False) w (w.alloc (.cells #[.string { data := #[82, 83, 69, 84] }, .string a, .int .i64 z] 58)) := (Keep.refl (fun _ => False) w).alloc _
  have N1 := Lib.hid ((PNow.start h hE).quiet hk1)
  have HZ := Lib.hid hok.size.2
  have HH := Lib.hid hh
  clear h hE hk1 hok hh
  go_enter Tryz.func89, Tryz.ntmps89
  go_wp2_with fail
  refine (preset N1.out.rs (by omega)).mono ?_
  rintro e w2 hd
  obtain ⟨rfl, F2, hN⟩ := N1.out.did hd
  have N2 := Lib.hid hN
  clear hd hN
  go_wp2_with fail
  refine (preply N2.out.rs N2.out.env 250 (by decide) (by show p.out.length ≤ 1000000; omega)).mono ?_
  rintro e w3 hd
  obtain ⟨rfl, F3, hN⟩ := N2.out.did hd
  have N3 := Lib.hid hN
  clear hd hN
  go_wp2_with fail
  (try simp only [Exit.inBlock, Exit.then])
  first | go_end0 | refine bodyPost_ret (results_none rfl _ _ _) rfl ?_
  exact N3.out.done

set_option maxHeartbeats 4000000 in
set_option maxRecDepth 100000 in
theorem obey_NOOP {F : Nat → Prop} {w : World} {g : Nat} {p : Se} (h : PS F w g p) (hE : Env w) (hok : Ok p) (hst : p.st ≤ 3) (hh : p.host.size ≤ 100000) (hl : p.out.length + 2 ≤ 1000000) (a : ByteArray) (z : Int) :
    Calls Tryz.prog 89 #[.pointer (some ⟨g, 0, none⟩), verbV { data := #[78, 79, 79, 80] } a z] w (PDid F g (p.say (reply 250)) w) := by
  unfold verbV
  have hk1 : Keep (fun _ => False) w (w.alloc (.cells #[.string { data := #[78, 79, 79, 80] }, .string a, .int .i64 z] 58)) := (Keep.refl (fun _ => False) w).alloc _
  have N1 := Lib.hid ((PNow.start h hE).quiet hk1)
  have HZ := Lib.hid hok.size.2
  have HH := Lib.hid hh
  clear h hE hk1 hok hh
  go_enter Tryz.func89, Tryz.ntmps89
  go_wp2_with fail
  refine (preply N1.out.rs N1.out.env 250 (by decide) (by show p.out.length ≤ 1000000; omega)).mono ?_
  rintro e w2 hd
  obtain ⟨rfl, F2, hN⟩ := N1.out.did hd
  have N2 := Lib.hid hN
  clear hd hN
  go_wp2_with fail
  (try simp only [Exit.inBlock, Exit.then])
  first | go_end0 | refine bodyPost_ret (results_none rfl _ _ _) rfl ?_
  exact N2.out.done

set_option maxHeartbeats 4000000 in
set_option maxRecDepth 100000 in
theorem obey_VRFY {F : Nat → Prop} {w : World} {g : Nat} {p : Se} (h : PS F w g p) (hE : Env w) (hok : Ok p) (hst : p.st ≤ 3) (hh : p.host.size ≤ 100000) (hl : p.out.length + 2 ≤ 1000000) (a : ByteArray) (z : Int) :
    Calls Tryz.prog 89 #[.pointer (some ⟨g, 0, none⟩), verbV { data := #[86, 82, 70, 89] } a z] w (PDid F g (p.say (reply 252)) w) := by
  unfold verbV
  have hk1 : Keep (fun _ => False) w (w.alloc (.cells #[.string { data := #[86, 82, 70, 89] }, .string a, .int .i64 z] 58)) := (Keep.refl (fun _ => False) w).alloc _
  have N1 := Lib.hid ((PNow.start h hE).quiet hk1)
  have HZ := Lib.hid hok.size.2
  have HH := Lib.hid hh
  clear h hE hk1 hok hh
  go_enter Tryz.func89, Tryz.ntmps89
  go_wp2_with fail
  refine (preply N1.out.rs N1.out.env 252 (by decide) (by show p.out.length ≤ 1000000; omega)).mono ?_
  rintro e w2 hd
  obtain ⟨rfl, F2, hN⟩ := N1.out.did hd
  have N2 := Lib.hid hN
  clear hd hN
  go_wp2_with fail
  (try simp only [Exit.inBlock, Exit.then])
  first | go_end0 | refine bodyPost_ret (results_none rfl _ _ _) rfl ?_
  exact N2.out.done

set_option maxHeartbeats 4000000 in
set_option maxRecDepth 100000 in
theorem obey_QUIT {F : Nat → Prop} {w : World} {g : Nat} {p : Se} (h : PS F w g p) (hE : Env w) (hok : Ok p) (hst : p.st ≤ 3) (hh : p.host.size ≤ 100000) (hl : p.out.length + 2 ≤ 1000000) (a : ByteArray) (z : Int) :
    Calls Tryz.prog 89 #[.pointer (some ⟨g, 0, none⟩), verbV { data := #[81, 85, 73, 84] } a z] w (PDid F g (p.reset.quit) w) := by
  unfold verbV
  have hk1 : Keep (fun _ => False) w (w.alloc (.cells #[.string { data := #[81, 85, 73, 84] }, .string a, .int .i64 z] 58)) := (Keep.refl (fun _ => False) w).alloc _
  have N1 := Lib.hid ((PNow.start h hE).quiet hk1)
  have HZ := Lib.hid hok.size.2
  have HH := Lib.hid hh
  clear h hE hk1 hok hh
  go_enter Tryz.func89, Tryz.ntmps89
  go_wp2_with fail
  refine (pquit N1.out.rs N1.out.env (by omega) hl).mono ?_
  rintro e w2 hd
  obtain ⟨rfl, F2, hN⟩ := N1.out.did hd
  have N2 := Lib.hid hN
  clear hd hN
  go_wp2_with fail
  (try simp only [Exit.inBlock, Exit.then])
  first | go_end0 | refine bodyPost_ret (results_none rfl _ _ _) rfl ?_
  exact N2.out.done

set_option maxHeartbeats 4000000 in
set_option maxRecDepth 100000 in
theorem obey_MAIL {F : Nat → Prop} {w : World} {g : Nat} {p : Se} (h : PS F w g p) (hE : Env w) (hok : Ok p) (hst : p.st ≤ 3) (hh : p.host.size ≤ 100000) (hl : p.out.length + 2 ≤ 1000000) (a : ByteArray) (z : Int) :
    Calls Tryz.prog 89 #[.pointer (some ⟨g, 0, none⟩), verbV { data := #[77, 65, 73, 76] } a z] w (PDid F g ((p.mailS a z).say (reply (p.mailC z))) w) := by
  unfold verbV
  have hk1 : Keep (fun _ => False) w (w.alloc (.cells #[.string { data := #[77, 65, 73, 76] }, .string a, .int .i64 z] 58)) := (Keep.refl (fun _ => False) w).alloc _
  have N1 := Lib.hid ((PNow.start h hE).quiet hk1)
  have HZ := Lib.hid hok.size.2
  have HH := Lib.hid hh
  clear h hE hk1 hok hh
  go_enter Tryz.func89, Tryz.ntmps89
  go_wp2_with fail
  refine (psender N1.out.rs N1.out.env _ a z).mono ?_
  rintro e w2 hd
  obtain ⟨rfl, F2, hN⟩ := N1.out.code hd
  have N2 := Lib.hid hN
  clear hd hN
  go_wp2_with fail
  refine (preply N2.out.rs N2.out.env (p.mailC z) (mailC_le p z) (by rw [mailS_out]; omega)).mono ?_
  rintro e w3 hd
  obtain ⟨rfl, F3, hN⟩ := N2.out.did hd
  have N3 := Lib.hid hN
  clear hd hN
  go_wp2_with fail
  (try simp only [Exit.inBlock, Exit.then])
  first | go_end0 | refine bodyPost_ret (results_none rfl _ _ _) rfl ?_
  exact N3.out.done

set_option maxHeartbeats 4000000 in
set_option maxRecDepth 100000 in
theorem obey_RCPT {F : Nat → Prop} {w : World} {g : Nat} {p : Se} (h : PS F w g p) (hE : Env w) (hok : Ok p) (hst : p.st ≤ 3) (hh : p.host.size ≤ 100000) (hl : p.out.length + 2 ≤ 1000000) (a : ByteArray) (z : Int) :
    Calls Tryz.prog 89 #[.pointer (some ⟨g, 0, none⟩), verbV { data := #[82, 67, 80, 84] } a z] w (PDid F g ((p.rcptS a).say (reply p.rcptC)) w) := by
  unfold verbV
  have hk1 : Keep (fun _ => False) w (w.alloc (.cells #[.string { data := #[82, 67, 80, 84] }, .string a, .int .i64 z] 58)) := (Keep.refl (fun _ => False) w).alloc _
  have N1 := Lib.hid ((PNow.start h hE).quiet hk1)
  have HZ := Lib.hid hok.size.2
  have HH := Lib.hid hh
  clear h hE hk1 hok hh
  go_enter Tryz.func89, Tryz.ntmps89
  go_wp2_with fail
  refine (prcpt N1.out.rs N1.out.env _ a z (by omega)).mono ?_
  rintro e w2 hd
  obtain ⟨rfl, F2, hN⟩ := N1.out.code hd
  have N2 := Lib.hid hN
  clear hd hN
  go_wp2_with fail
  refine (preply N2.out.rs N2.out.env p.rcptC (rcptC_le p) (by rw [rcptS_out]; omega)).mono ?_
  rintro e w3 hd
  obtain ⟨rfl, F3, hN⟩ := N2.out.did hd
  have N3 := Lib.hid hN
  clear hd hN
  go_wp2_with fail
  (try simp only [Exit.inBlock, Exit.then])
  first | go_end0 | refine bodyPost_ret (results_none rfl _ _ _) rfl ?_
  exact N3.out.done

set_option maxHeartbeats 4000000 in
set_option maxRecDepth 100000 in
theorem obey_DATA {F : Nat → Prop} {w : World} {g : Nat} {p : Se} (h : PS F w g p) (hE : Env w) (hok : Ok p) (hst : p.st ≤ 3) (hh : p.host.size ≤ 100000) (hl : p.out.length + 2 ≤ 1000000) (a : ByteArray) (z : Int) :
    Calls Tryz.prog 89 #[.pointer (some ⟨g, 0, none⟩), verbV { data := #[68, 65, 84, 65] } a z] w (PDid F g (p.dataS.say (reply p.dataC)) w) := by
  unfold verbV
  have hk1 : Keep (fun _ => False) w (w.alloc (.cells #[.string { data := #[68, 65, 84, 65] }, .string a, .int .i64 z] 58)) := (Keep.refl (fun _ => False) w).alloc _
  have N1 := Lib.hid ((PNow.start h hE).quiet hk1)
  have HZ := Lib.hid hok.size.2
  have HH := Lib.hid hh
  clear h hE hk1 hok hh
  go_enter Tryz.func89, Tryz.ntmps89
  go_wp2_with fail
  refine (pdata N1.out.rs N1.out.env).mono ?_
  rintro e w2 hd
  obtain ⟨rfl, F2, hN⟩ := N1.out.code hd
  have N2 := Lib.hid hN
  clear hd hN
  go_wp2_with fail
  refine (preply N2.out.rs N2.out.env p.dataC (dataC_le p) (by rw [dataS_out]; omega)).mono ?_
  rintro e w3 hd
  obtain ⟨rfl, F3, hN⟩ := N2.out.did hd
  have N3 := Lib.hid hN
  clear hd hN
  go_wp2_with fail
  (try simp only [Exit.inBlock, Exit.then])
  first | go_end0 | refine bodyPost_ret (results_none rfl _ _ _) rfl ?_
  exact N3.out.done

theorem greet_same (p : Se) : (p.to (max p.st 1)).reset = p.reset.to 1 := by
  have h : (p.to (max p.st 1)).reset.st = 1 := by
    show (if 1 < max p.st 1 then 1 else max p.st 1) = 1
    split <;> omega
  show (⟨p.host, p.size, p.wait, p.out, (p.to (max p.st 1)).reset.st, nobody, [], [], 0⟩ : Se) = _
  rw [h]
  rfl
/-- What obey does, whichever of the nine. -/
theorem pobey {F : Nat → Prop} {w : World} {g : Nat} {p : Se} (h : PS F w g p) (hE : Env w) (hok : Ok p) (hst : p.st ≤ 3) (hh : p.host.size ≤ 100000) (hl : p.out.length + 2 ≤ 1000000) (v : VC) (hv : Nine v.name) :
    Calls Tryz.prog 89 #[.pointer (some ⟨g, 0, none⟩), .agg #[.string v.name, .string v.arg, .int .i64 v.size]] w (PDid F g (p.pverb v) w) := by
  obtain ⟨n, a, z, c⟩ := v
  simp only at hv ⊢
  rcases hv with rfl | rfl | rfl | rfl | rfl | rfl | rfl | rfl | rfl
  · rw [show p.pverb ⟨nHELO, a, z, c⟩ = (p.reset.to 1).say (reply 250) from by rw [show p.pverb ⟨nHELO, a, z, c⟩ = ((p.to (max p.st 1)).reset).say (reply 250) from rfl, greet_same]]
    exact obey_HELO h hE hok hst hh hl a z
  · rw [show p.pverb ⟨nEHLO, a, z, c⟩ = (p.reset.to 1).say (ehlo p.host p.size) from by rw [show p.pverb ⟨nEHLO, a, z, c⟩ = ((p.to (max p.st 1)).reset).say (ehlo p.host p.size) from rfl, greet_same]]
    exact obey_EHLO h hE hok hst hh hl a z
  · rw [show p.pverb ⟨nRSET, a, z, c⟩ = p.reset.say (reply 250) from rfl]
    exact obey_RSET h hE hok hst hh hl a z
  · rw [show p.pverb ⟨nNOOP, a, z, c⟩ = p.say (reply 250) from rfl]
    exact obey_NOOP h hE hok hst hh hl a z
  · rw [show p.pverb ⟨nVRFY, a, z, c⟩ = p.say (reply 252) from rfl]
    exact obey_VRFY h hE hok hst hh hl a z
  · rw [show p.pverb ⟨nQUIT, a, z, c⟩ = p.reset.quit from rfl]
    exact obey_QUIT h hE hok hst hh hl a z
  · rw [show p.pverb ⟨nMAIL, a, z, c⟩ = (p.mailS a z).say (reply (p.mailC z)) from by rw [show p.pverb ⟨nMAIL, a, z, c⟩ = p.mail ⟨nMAIL, a, z, c⟩ from rfl, ← mail_parts]]
    exact obey_MAIL h hE hok hst hh hl a z
  · rw [show p.pverb ⟨nRCPT, a, z, c⟩ = (p.rcptS a).say (reply p.rcptC) from by rw [show p.pverb ⟨nRCPT, a, z, c⟩ = p.rcpt ⟨nRCPT, a, z, c⟩ from rfl, ← rcpt_parts]]
    exact obey_RCPT h hE hok hst hh hl a z
  · rw [show p.pverb ⟨nDATA, a, z, c⟩ = p.dataS.say (reply p.dataC) from by rw [show p.pverb ⟨nDATA, a, z, c⟩ = p.data from rfl, ← data_parts]]
    exact obey_DATA h hE hok hst hh hl a z

set_option maxHeartbeats 1000000 in
theorem pcommandLong {F : Nat → Prop} {w : World} {g : Nat} {p : Se} (h : PS F w g p) (hE : Env w) (hl : p.out.length + 2 ≤ 1000000) (t : ByteArray) :
    Calls Tryz.prog 68 #[.pointer (some ⟨g, 0, none⟩), .string t, .bool true] w (PDid F g (p.say (reply 500)) w) := by
  have N1 := Lib.hid (PNow.start h hE)
  clear h hE
  go_enter Tryz.func68, Tryz.ntmps68
  go_wp2_with fail
  refine (preply N1.out.rs N1.out.env 500 (by decide) (by show p.out.length ≤ 1000000; omega)).mono ?_
  rintro e w2 hd
  obtain ⟨rfl, F2, hN⟩ := N1.out.did hd
  have N2 := Lib.hid hN
  clear hd hN
  go_wp2_with fail
  (try simp only [Exit.inBlock, Exit.then])
  first | go_end0 | refine bodyPost_ret (results_none rfl _ _ _) rfl ?_
  exact N2.out.done

set_option maxHeartbeats 4000000 in
set_option maxRecDepth 100000 in
theorem pcommandC {F : Nat → Prop} {w : World} {g : Nat} {p : Se} (h : PS F w g p) (hE : Env w) (hok : Ok p) (hst : p.st ≤ 3) (hh : p.host.size ≤ 100000) (hl : p.out.length + 2 ≤ 1000000) (l : ByteArray) (hz : l.size ≤ 512) :
    Calls Tryz.prog 68 #[.pointer (some ⟨g, 0, none⟩), .string l, .bool false] w (PDid F g (p.pcommand V9 l) w) := by
  have N0 := Lib.hid (PNow.start h hE)
  have HP := Lib.hid (fun W e => parseC l (by omega) W e)
  have HC := Lib.hid (V9_codes l)
  have HN := Lib.hid (V9_nine l)
  have HS : Hid (p.pcommand V9 l = if 0 < (V9 l).code then p.say (reply (V9 l).code.toNat) else p.pverb (V9 l)) := Lib.hid (by rw [Se.pcommand, if_neg (by omega)])
  have HOK := Lib.hid hok
  have HH := Lib.hid hh
  clear h hE hok hh
  obtain ⟨v, hv⟩ : ∃ v, v = V9 l := ⟨_, rfl⟩
  rw [← hv] at HP HC HN HS
  clear hv
  obtain ⟨n, a, z, c⟩ := v
  simp only at HP HC HN HS
  by_cases h0 : c = 0
  · have HS' : Hid (p.pcommand V9 l = p.pverb ⟨n, a, z, c⟩) := Lib.hid (by rw [HS.out, if_neg (by omega)])
    have HN' := Lib.hid (HN.out h0)
    subst h0
    go_enter Tryz.func68, Tryz.ntmps68
    go_wp2_with fail
    refine (HP.out _ N0.out.env).mono ?_
    rintro e w1 ⟨rfl, hk1⟩
    have N1 := Lib.hid (N0.out.quiet (hk1.trans (laidV_keep w1 n a z) (fun _ _ h => h)))
    obtain ⟨v0, v1, v2⟩ := laidV_cells w1 n a z
    clear hk1
    go_wp2_with (refine step_laidV (by rfl) (.tmp 6) (.tmp 14) (by rfl) n a z (by rfl) (by rfl) ?_)
    refine (pobey N1.out.rs N1.out.env HOK.out hst HH.out hl ⟨n, a, z, 0⟩ HN'.out).mono ?_
    rintro e w2 hd
    obtain ⟨rfl, F2, hN⟩ := N1.out.did hd
    have N2 := Lib.hid hN
    clear hd hN
    go_wp2_with fail
    (try simp only [Exit.inBlock, Exit.then])
    first | go_end0 | refine bodyPost_ret (results_none rfl _ _ _) rfl ?_
    rw [HS'.out]
    exact N2.out.done
  · have hc : ∃ k : Nat, c = (k : Int) ∧ k ≤ 1000000 := by
      rcases HC.out with e | e | e | e
      · exact absurd e h0
      · exact ⟨500, e, by decide⟩
      · exact ⟨501, e, by decide⟩
      · exact ⟨555, e, by decide⟩
    obtain ⟨k, rfl, hk⟩ := hc
    have HS' : Hid (p.pcommand V9 l = p.say (reply k)) := Lib.hid (by rw [HS.out, if_pos (by omega), Int.toNat_natCast])
    go_enter Tryz.func68, Tryz.ntmps68
    go_wp2_with fail
    refine (HP.out _ N0.out.env).mono ?_
    rintro e w1 ⟨rfl, hk1⟩
    have N1 := Lib.hid (N0.out.quiet (hk1.trans (laidV_keep w1 n a z) (fun _ _ h => h)))
    clear hk1
    go_wp2_with (refine step_laidV (by rfl) (.tmp 6) (.tmp 14) (by rfl) n a z (by rfl) (by rfl) ?_)
    refine (preply N1.out.rs N1.out.env k hk (by omega)).mono ?_
    rintro e w2 hd
    obtain ⟨rfl, F2, hN⟩ := N1.out.did hd
    have N2 := Lib.hid hN
    clear hd hN
    go_wp2_with fail
    (try simp only [Exit.inBlock, Exit.then])
    first | go_end0 | refine bodyPost_ret (results_none rfl _ _ _) rfl ?_
    rw [HS'.out]
    exact N2.out.done
end Go.Proofs.YtcjljldknekhiaaGreatDoor.Ln
end

section
/-
  What the program's doer and doLine return.
-/
namespace Go.Proofs.YtcjljldknekhiaaGreatDoor.Ln
open Go.RowKit
set_option linter.unusedVariables false
set_option linter.unusedSimpArgs false

set_option maxHeartbeats 1000000 in
theorem pdoer4 {F : Nat → Prop} {w : World} {g : Nat} {p : Se} (h : PS F w g p) (h4 : p.st = 4) :
    Calls Tryz.prog 55 #[.pointer (some ⟨g, 0, none⟩)] w fun e w' => e = .returned (.tuple #[.func (.func 67) #[.pointer (some ⟨g, 0, none⟩)] #[], .int .i64 1000]) ∧ w' = w := by
  obtain ⟨lv, ev, rv, bv, o, xs, h⟩ := h
  obtain ⟨_, _, c2, _⟩ := h.cells
  rw [h4] at c2
  clear h
  go_enter Tryz.func55, Tryz.ntmps55
  go_wp2
  go_ret2
  exact ⟨rfl, rfl⟩
set_option maxHeartbeats 1000000 in
theorem pdoer {F : Nat → Prop} {w : World} {g : Nat} {p : Se} (h : PS F w g p) (h4 : ¬ (p.st : Int) = 4) :
    Calls Tryz.prog 55 #[.pointer (some ⟨g, 0, none⟩)] w fun e w' => e = .returned (.tuple #[.func (.func 68) #[.pointer (some ⟨g, 0, none⟩)] #[], .int .i64 512]) ∧ w' = w := by
  obtain ⟨lv, ev, rv, bv, o, xs, h⟩ := h
  obtain ⟨_, _, c2, _⟩ := h.cells
  clear h
  go_enter Tryz.func55, Tryz.ntmps55
  go_wp2
  go_ret2
  exact ⟨rfl, rfl⟩

/-! ### The stream -/
theorem PSat.lined {F S : Nat → Prop} {w w' : World} {g k : Nat} {p : Se} {lv ev rv bv : Value} {o : Own} {xs : List Value} {q' : Option Nat} {bs : List Nat} (h : PSat F w g p lv ev rv bv o xs) (h6 : p.st ≠ 6) (hk : o.gl = some k) (hv : lv = .pointer (some ⟨k, 0, none⟩)) (K : Keep S w w') (hS : ∀ i, S i → i = k ∨ o.ql = some i) (hL : Lin 0 w' k q' bs) (hN : New w o.ql q') :
    ∃ F', PS F' w' g { p with wait := bs } ∧ Keep F w w' ∧ More F F' w := by
  have h1 := h.neg
  have h2 := h.nee
  have h3 := h.ner
  have h4 := h.neb
  have hne : ∀ b, b ≠ k → o.ql ≠ some b → ¬ S b := fun b e1 e2 e3 => (hS b e3).elim e1 e2
  have hlq : ∀ i, q' = some i → o.qe ≠ some i ∧ o.qr ≠ some i ∧ o.qb ≠ some i := fun i hi => by
    rcases hN i hi with e | e
    · have := h.nel i e; exact ⟨this.1, this.2.1, this.2.2.1⟩
    · have hx : ∀ {z : Option Nat}, (z = some i → o.has i) → z ≠ some i := fun hz ez => by have := h.flt i (h.own i (hz ez)); omega
      exact ⟨hx .inl, hx (fun e => .inr (.inl e)), hx (fun e => .inr (.inr (.inl e)))⟩
  have ek : ∀ {b : Nat}, o.gl ≠ some b → b ≠ k := fun hb e => hb (by rw [hk, e])
  obtain ⟨F', H1, H2, H3⟩ := h.turn (p' := { p with wait := bs }) (lv' := lv) (ev' := ev) (rv' := rv) (bv' := bv) (o' := { o with ql := q' }) (xs' := xs) (R1 := PRd F g o) K
    (fun i _ e => (hS i e).elim (fun e => .inr (.inr (.inr (.inr (.inr (by rw [hk, e])))))) (fun e => .inr (.inr (.inr (.inr (.inl e))))))
    (h.row.keep K (hne g (fun e => h1 k (.inr (.inr (.inr (.inr hk)))) e.symm) (fun e => h1 g (.inr (.inr (.inr (.inl e)))) rfl)))
    (h.out.keep K (fun b hb => hne b (ek (h2 b hb).2.2.2) (h2 b hb).2.2.1)) (h.evs.keepW K (fun b _ hR => ⟨hne b (ek (fun e => hR.2.2 (.inr (.inr (.inr (.inr e)))))) (fun e => hR.2.2 (.inr (.inr (.inr (.inl e))))), hR⟩))
    (h.rc.keep K (fun b hb => hne b (ek (h3 b hb).2.2.2) (h3 b hb).2.2.1)) (h.body.keep K (fun b hb => hne b (ek (h4 b hb).2.2.2) (h4 b hb).2.2.1)) (.inr ⟨h6, k, hv, hk, hL⟩)
    (fun i hi e => (hlq i e).2.2 hi) (fun i hi => by
      rcases hi with hi | hi | hi | hi | hi
      · exact .inl (.inl hi)
      · exact .inl (.inr (.inl hi))
      · exact .inl (.inr (.inr (.inl hi)))
      · rcases hN i hi with e | e
        · exact .inl (.inr (.inr (.inr (.inl e))))
        · exact .inr e
      · exact .inl (.inr (.inr (.inr (.inr hi))))) (fun i _ hR => ⟨.inl hR.1, hR.2.1, fun hi => by
      rcases hi with hi | hi | hi | hi | hi
      · exact hR.2.2 (.inl hi)
      · exact hR.2.2 (.inr (.inl hi))
      · exact hR.2.2 (.inr (.inr (.inl hi)))
      · rcases hN i hi with e | e
        · exact hR.2.2 (.inr (.inr (.inr (.inl e))))
        · have := h.flt i hR.1; omega
      · exact hR.2.2 (.inr (.inr (.inr (.inr hi))))⟩)
  exact ⟨F', ⟨_, _, _, _, _, _, H1⟩, H2, H3⟩
/-- A line is asked for. -/
theorem lnextC {F : Nat → Prop} {w : World} {g : Nat} {p : Se} (h : PS F w g p) (hE : Env w) (h6 : p.st ≠ 6) (hl : p.wait.length ≤ 4294967280) (most : Int) (hm : (Lit.int .i64 most).wf = true) :
    ∃ k, w.cell? ⟨g, 3, none⟩ = some (.pointer (some ⟨k, 0, none⟩)) ∧ (∀ c ∈ p.wait, c < 256) ∧ Calls Tryz.prog 56 #[.pointer (some ⟨k, 0, none⟩), .int .i64 most] w fun e w' => e = .returned (.tuple #[.string (str (nextT p.wait most)), .bool (nextL p.wait most), .bool (nextK p.wait)]) ∧
      ∃ F', PS F' w' g { p with wait := nextS p.wait } ∧ Keep F w w' ∧ More F F' w := by
  obtain ⟨lv, ev, rv, bv, o, xs, h⟩ := h
  obtain ⟨_, _, _, c3, _⟩ := h.cells
  obtain ⟨⟨m, hc⟩, _⟩ := hE
  have hlin := h.lin
  rcases hlin with ⟨e6, _⟩ | ⟨_, k, hv, hk, hL⟩
  · exact absurd e6 h6
  · obtain ⟨v, _, hMid⟩ := hL.row
    refine ⟨k, by rw [c3, hv], hMid.1, (next hL most hm hl m hc).mono ?_⟩
    rintro e w' ⟨rfl, q', hL', hK, hN⟩
    exact ⟨rfl, h.lined h6 hk hv hK (fun i e => .inl e) hL' hN⟩

/-! ### A line is done -/
def PTried (F : Nat → Prop) (g : Nat) (b : Bool) (p : Se) (w : World) (e : Ending) (w' : World) : Prop := e = .returned (.bool b) ∧ ∃ F', PS F' w' g p ∧ Keep F w w' ∧ More F F' w
theorem PNow.tried {F F' : Nat → Prop} {w w' w'' : World} {g : Nat} {p p' : Se} {b : Bool} {e : Ending} (h : PNow F w g F' w' p) (d : PTried F' g b p' w' e w'') : e = .returned (.bool b) ∧ ∃ F'', PNow F w g F'' w'' p' := by
  obtain ⟨he, F'', h1, h2, h3⟩ := d
  exact ⟨he, F'', h.on h1 h2 h3⟩
theorem PNow.try {F F' : Nat → Prop} {w w' : World} {g : Nat} {p : Se} {b : Bool} (h : PNow F w g F' w' p) : PTried F g b p w (.returned (.bool b)) w' := ⟨rfl, F', h.rs, h.kp, h.more⟩

set_option maxHeartbeats 4000000 in
set_option maxRecDepth 100000 in
theorem pdoLine_no {F : Nat → Prop} {w : World} {g : Nat} {p : Se} (h : PS F w g p) (hE : Env w) (hl : p.wait.length ≤ 4294967280) (hs : p.st = 5 ∨ p.st = 6 ∨ (p.st < 5 ∧ pos p.wait = none)) :
    Calls Tryz.prog 40 #[.pointer (some ⟨g, 0, none⟩)] w (PTried F g false p w) := by
  have N0 := Lib.hid (PNow.start h hE)
  obtain ⟨_, _, c2, _, _, _⟩ := N0.out.cells
  rcases hs with h5 | h6 | ⟨h5, hp⟩
  · rw [h5] at c2
    clear h hE
    go_enter Tryz.func40, Tryz.ntmps40
    go_wp2
    go_ret
    exact N0.out.try
  · have HD := Lib.hid (pdoer h (by omega))
    obtain ⟨lv, ev, rv, bv, o, xs, hP⟩ := h
    obtain ⟨_, _, _, c3, _⟩ := hP.cells
    have hv : lv = .pointer none := by
      rcases hP.lin with ⟨_, hv, _⟩ | ⟨e6, _⟩
      · exact hv
      · exact absurd h6 e6
    rw [hv] at c3
    rw [h6] at c2
    clear hE hP hv
    go_enter Tryz.func40, Tryz.ntmps40
    go_wp2_with fail
    refine HD.out.mono ?_
    rintro e w1 ⟨rfl, hw⟩
    subst w1
    go_wp2_with fail
    refine (next_nil _ _).mono ?_
    rintro e w1 ⟨rfl, hw⟩
    subst w1
    go_wp2
    go_ret
    exact N0.out.try
  · obtain ⟨k, c3, _, hC⟩ := lnextC h hE (by omega) hl (if p.st = 4 then 1000 else 512) (by split <;> decide)
    rw [nextT_none hp, nextL_none hp, nextK_none hp, nextS_none hp] at hC
    have HC := Lib.hid hC
    by_cases h4 : (p.st : Int) = 4
    · have HD := Lib.hid (pdoer4 h (by omega))
      rw [if_pos (by omega)] at HC
      rw [h4] at c2
      clear h hE hC
      go_enter Tryz.func40, Tryz.ntmps40
      go_wp2_with fail
      refine HD.out.mono ?_
      rintro e w1 ⟨rfl, hw⟩
      subst w1
      go_wp2_with fail
      refine HC.out.mono ?_
      rintro e w1 ⟨rfl, F1, a1, b1, m1⟩
      have N1 := Lib.hid (N0.out.on a1 b1 m1)
      clear a1 b1 m1
      go_wp2
      go_ret
      exact N1.out.try
    · have HD := Lib.hid (pdoer h h4)
      rw [if_neg (by omega)] at HC
      have n5 : ¬ (p.st : Int) = 5 := by omega
      clear h hE hC
      go_enter Tryz.func40, Tryz.ntmps40
      go_wp2_with fail
      refine HD.out.mono ?_
      rintro e w1 ⟨rfl, hw⟩
      subst w1
      go_wp2_with fail
      refine HC.out.mono ?_
      rintro e w1 ⟨rfl, F1, a1, b1, m1⟩
      have N1 := Lib.hid (N0.out.on a1 b1 m1)
      clear a1 b1 m1
      go_wp2
      go_ret
      exact N1.out.try

set_option maxHeartbeats 4000000 in
set_option maxRecDepth 100000 in
theorem pdoLine_yes {F : Nat → Prop} {w : World} {g : Nat} {p : Se} {i : Nat} (h : PS F w g p) (hE : Env w) (hok : Ok p) (hl : p.wait.length ≤ 4294967280) (h5 : p.st < 5) (hp : pos p.wait = some i) (hh : p.host.size ≤ 100000) (ho : p.out.length + 2 ≤ 1000000) :
    Calls Tryz.prog 40 #[.pointer (some ⟨g, 0, none⟩)] w (PTried F g true ((p.cut i).pline V9 (p.wait.take i)) w) := by
  have N0 := Lib.hid (PNow.start h hE)
  obtain ⟨_, _, c2, _, _, _⟩ := N0.out.cells
  obtain ⟨k, c3, hby, hC⟩ := lnextC h hE (by omega) hl (if p.st = 4 then 1000 else 512) (by split <;> decide)
  have hb : ∀ c ∈ p.wait.take i, c < 256 := fun c hc => hby c (List.mem_of_mem_take hc)
  have hli := pos_lt hp
  have hti : (p.wait.take i).length = i := by rw [List.length_take]; omega
  rw [nextK_some hp, nextS_some hp] at hC
  have HOK : Hid (Ok (p.cut i)) := Lib.hid (hok.cut i)
  by_cases h4 : (p.st : Int) = 4
  · have HD := Lib.hid (pdoer4 h (by omega))
    rw [if_pos (by omega)] at hC
    have h4' : p.st = 4 := by omega
    rw [h4] at c2
    by_cases hlong : 1000 < i
    · rw [nextT_long hp (by omega), nextL_long hp (by omega)] at hC
      have HC := Lib.hid hC
      have HS : Hid ((p.cut i).pline V9 (p.wait.take i) = (p.cut i).ptext (p.wait.take i)) := Lib.hid (by rw [Se.pline, if_pos (show (p.cut i).st = 4 from h4')])
      have HT : Hid (1000 < (p.wait.take i).length) := Lib.hid (by omega)
      have HBY := Lib.hid hb
      clear h hE hC hok hby hb
      go_enter Tryz.func40, Tryz.ntmps40
      go_wp2_with fail
      refine HD.out.mono ?_
      rintro e w1 ⟨rfl, hw⟩
      subst w1
      go_wp2_with fail
      refine HC.out.mono ?_
      rintro e w1 ⟨rfl, F1, a1, b1, m1⟩
      have N1 := Lib.hid (N0.out.on (p' := p.cut i) a1 b1 m1)
      clear a1 b1 m1
      go_wp2_with fail
      refine (bodyC N1.out.rs N1.out.env HOK.out h4' ho (str []) (by decide) true _ HBY.out (.inr ⟨rfl, rfl, HT.out⟩)).mono ?_
      rintro e w2 hd
      obtain ⟨rfl, F2, hN2⟩ := N1.out.did hd
      have N2 := Lib.hid hN2
      clear hd hN2
      go_wp2
      go_ret
      rw [HS.out]
      exact N2.out.try
    · rw [nextT_short hp (by omega), nextL_short hp (by omega)] at hC
      have HC := Lib.hid hC
      have HS : Hid ((p.cut i).pline V9 (p.wait.take i) = (p.cut i).ptext (p.wait.take i)) := Lib.hid (by rw [Se.pline, if_pos (show (p.cut i).st = 4 from h4')])
      have HT : Hid ((str (p.wait.take i)).size ≤ 1000) := Lib.hid (by rw [str_size]; omega)
      have HBY := Lib.hid hb
      clear h hE hC hok hby hb
      go_enter Tryz.func40, Tryz.ntmps40
      go_wp2_with fail
      refine HD.out.mono ?_
      rintro e w1 ⟨rfl, hw⟩
      subst w1
      go_wp2_with fail
      refine HC.out.mono ?_
      rintro e w1 ⟨rfl, F1, a1, b1, m1⟩
      have N1 := Lib.hid (N0.out.on (p' := p.cut i) a1 b1 m1)
      clear a1 b1 m1
      go_wp2_with fail
      refine (bodyC N1.out.rs N1.out.env HOK.out h4' ho _ HT.out false _ HBY.out (.inl ⟨rfl, rfl⟩)).mono ?_
      rintro e w2 hd
      obtain ⟨rfl, F2, hN2⟩ := N1.out.did hd
      have N2 := Lib.hid hN2
      clear hd hN2
      go_wp2
      go_ret
      rw [HS.out]
      exact N2.out.try
  · have HD := Lib.hid (pdoer h h4)
    have h4' : ¬ p.st = 4 := by omega
    rw [if_neg h4'] at hC
    have n5 : ¬ (p.st : Int) = 5 := by omega
    by_cases hlong : 512 < i
    · rw [nextT_long hp (by omega), nextL_long hp (by omega)] at hC
      have HC := Lib.hid hC
      have HS : Hid ((p.cut i).pline V9 (p.wait.take i) = (p.cut i).say (reply 500)) := Lib.hid (by rw [Se.pline, if_neg (show ¬ (p.cut i).st = 4 from h4'), Se.pcommand, if_pos (by rw [str_size]; omega)])
      clear h hE hC hok hby hb
      go_enter Tryz.func40, Tryz.ntmps40
      go_wp2_with fail
      refine HD.out.mono ?_
      rintro e w1 ⟨rfl, hw⟩
      subst w1
      go_wp2_with fail
      refine HC.out.mono ?_
      rintro e w1 ⟨rfl, F1, a1, b1, m1⟩
      have N1 := Lib.hid (N0.out.on (p' := p.cut i) a1 b1 m1)
      clear a1 b1 m1
      go_wp2_with fail
      refine (pcommandLong N1.out.rs N1.out.env ho _).mono ?_
      rintro e w2 hd
      obtain ⟨rfl, F2, hN2⟩ := N1.out.did hd
      have N2 := Lib.hid hN2
      clear hd hN2
      go_wp2
      go_ret
      rw [HS.out]
      exact N2.out.try
    · rw [nextT_short hp (by omega), nextL_short hp (by omega)] at hC
      have HC := Lib.hid hC
      have HS : Hid ((p.cut i).pline V9 (p.wait.take i) = (p.cut i).pcommand V9 (str (p.wait.take i))) := Lib.hid (by rw [Se.pline, if_neg (show ¬ (p.cut i).st = 4 from h4')])
      have HT : Hid ((str (p.wait.take i)).size ≤ 512) := Lib.hid (by rw [str_size]; omega)
      have HH := Lib.hid hh
      clear h hE hC hok hby hb hh
      go_enter Tryz.func40, Tryz.ntmps40
      go_wp2_with fail
      refine HD.out.mono ?_
      rintro e w1 ⟨rfl, hw⟩
      subst w1
      go_wp2_with fail
      refine HC.out.mono ?_
      rintro e w1 ⟨rfl, F1, a1, b1, m1⟩
      have N1 := Lib.hid (N0.out.on (p' := p.cut i) a1 b1 m1)
      clear a1 b1 m1
      go_wp2_with fail
      refine (pcommandC N1.out.rs N1.out.env HOK.out (by show p.st ≤ 3; omega) HH.out ho _ HT.out).mono ?_
      rintro e w2 hd
      obtain ⟨rfl, F2, hN2⟩ := N1.out.did hd
      have N2 := Lib.hid hN2
      clear hd hN2
      go_wp2
      go_ret
      rw [HS.out]
      exact N2.out.try
end Go.Proofs.YtcjljldknekhiaaGreatDoor.Ln
end

section
/-
  What the library's slices.Delete does to a row of one or two events, its first taken away.
-/
namespace Go.Proofs.YtcjljldknekhiaaGreatDoor.Ln
open Go.RowKit
set_option linter.unusedVariables false
set_option linter.unusedSimpArgs false

def zev : List Value := evCells 0 nobody nobody nilV nilV
theorem info46 : (Tryz.prog.info? 46).map (fun i => (i.size)) = some 8 := by kernel_rfl
theorem zero46 : ∀ w, (zeroValue 46).run Tryz.prog w = .ok (.agg zev.toArray) w := fun w => by
  go_simp
  try rfl
theorem run_clearE (w : World) (ty : TypeId) (b o c : Nat) (hc : ∀ j, j < 8 → (w.cell? ⟨b, o + j, none⟩).isSome = true) (hf : ∀ j, j < 8 → w.frozen? ⟨b, o + j, none⟩ = false) :
    (Builtin.clear_ #[35] ty #[.slice (some ⟨b, o, none⟩) 1 c]).run Tryz.prog w = .ok (.tuple #[]) (w.setCells b o zev) := by
  have hz : (Builtin.zeroCells (Value.agg #[.int .i64 0, .string { data := #[] }, .int .i64 0, .int .i64 0, .int .i64 0, .string { data := #[] }, .slice none 0 0, .slice none 0 0]).cells 1).toList = zev := by kernel_rfl
  have hst := run_storeCells_cells (P := Tryz.prog) b o zev 0 w (by simpa [zev, evCells] using hc) (by simpa [zev, evCells] using hf) (evCells_one _ _ _ _ _ _ _ _ _)
  simp only [Nat.add_zero] at hst
  have h46 : (zeroValue 46).run Tryz.prog w = .ok (.agg #[.int .i64 0, .string { data := #[] }, .int .i64 0, .int .i64 0, .int .i64 0, .string { data := #[] }, .slice none 0 0, .slice none 0 0]) w := zero46 w
  simp only [Builtin.clear_, Sem.run_bind, run_underlying Tryz.underlying35, Result.andThen_ok, List.getElem?_toArray, List.getElem?_cons_zero, h46]
  rw [hz, hst]
  rfl
/-- A row of events, cut. -/
theorem cutE (x : Option Addr) (L C l h : Nat) (hlh : l ≤ h) (hh : h ≤ C) :
    (∀ w, (Instr.slice 35 (.slice x L C) (some (.int .i64 (l : Int))) (some (.int .i64 (h : Int))) none).run Tryz.prog w = .ok (.slice (if C = l then x else x.map (fun a => a.add (l * 8))) (h - l) (C - l)) w) ∧
    (∀ w, (Instr.sliceAt 35 (.slice x L C) (some (.int .i64 (l : Int))) (some (.int .i64 (h : Int))) none).run Tryz.prog w = .ok (.slice (if C = l then x else x.map (fun a => a.add (l * 8))) (h - l) (C - l)) w) := by
  obtain ⟨i0, hi, hz⟩ := Option.map_eq_some_iff.1 info46
  have h1 : (h : Int) ≤ (C : Int) := by omega
  have h2 : (l : Int) ≤ (h : Int) := by omega
  have r : ∀ w, (Instr.slice 35 (.slice x L C) (some (.int .i64 (l : Int))) (some (.int .i64 (h : Int))) none).run Tryz.prog w = .ok (.slice (if C = l then x else x.map (fun a => a.add (l * 8))) (h - l) (C - l)) w := by
    intro w
    have hb : ∀ code, (Instr.sliceBound (.int .i64 (h : Int)) C code).run Tryz.prog w = .ok h w := by
      intro code; simp [Instr.sliceBound, asIntOf, h1]
    have hc : ∀ code, (Instr.sliceBound (.int .i64 (l : Int)) h code).run Tryz.prog w = .ok l w := by
      intro code; simp [Instr.sliceBound, asIntOf, h2]
    simp [Instr.slice, run_underlying Tryz.underlying35, Instr.sliceBounds, hb, hc, sizeOf, typeInfo, hi, hz]
  refine ⟨r, fun w => ?_⟩
  rw [← r w]
  simp [Instr.sliceAt, run_underlying Tryz.underlying35]
theorem cutE_pre (x : Option Addr) (L C : Nat) :
    (∀ w, (Instr.slice 35 (.slice x L C) none (some (.int .i64 0)) none).run Tryz.prog w = .ok (.slice x 0 C) w) ∧
    (∀ w, (Instr.sliceAt 35 (.slice x L C) none (some (.int .i64 0)) none).run Tryz.prog w = .ok (.slice x 0 C) w) := by
  obtain ⟨i0, hi, hz⟩ := Option.map_eq_some_iff.1 info46
  have h1 : (0 : Int) ≤ (C : Int) := by omega
  have r : ∀ w, (Instr.slice 35 (.slice x L C) none (some (.int .i64 0)) none).run Tryz.prog w = .ok (.slice x 0 C) w := by
    intro w
    have hb : ∀ code, (Instr.sliceBound (.int .i64 0) C code).run Tryz.prog w = .ok 0 w := by
      intro code; simp [Instr.sliceBound, asIntOf]
    have e : (if C = 0 then x else x.map (fun a => a.add 0)) = x := by
      rcases x with _ | a <;> simp [Addr.add]
    simp [Instr.slice, run_underlying Tryz.underlying35, Instr.sliceBounds, hb, sizeOf, typeInfo, hi]
    simpa using e
  refine ⟨r, fun w => ?_⟩
  rw [← r w]
  simp [Instr.sliceAt, run_underlying Tryz.underlying35]
theorem cutE_drop (x : Option Addr) (L C : Nat) (hL : 1 ≤ L) (hC : L ≤ C) :
    (∀ w, (Instr.slice 35 (.slice x L C) (some (.int .i64 1)) none none).run Tryz.prog w = .ok (.slice (if C = 1 then x else x.map (fun a => a.add 8)) (L - 1) (C - 1)) w) ∧
    (∀ w, (Instr.sliceAt 35 (.slice x L C) (some (.int .i64 1)) none none).run Tryz.prog w = .ok (.slice (if C = 1 then x else x.map (fun a => a.add 8)) (L - 1) (C - 1)) w) := by
  obtain ⟨i0, hi, hz⟩ := Option.map_eq_some_iff.1 info46
  have h1 : (1 : Int) ≤ (L : Int) := by omega
  have r : ∀ w, (Instr.slice 35 (.slice x L C) (some (.int .i64 1)) none none).run Tryz.prog w = .ok (.slice (if C = 1 then x else x.map (fun a => a.add 8)) (L - 1) (C - 1)) w := by
    intro w
    have hb : ∀ code, (Instr.sliceBound (.int .i64 1) L code).run Tryz.prog w = .ok 1 w := by
      intro code; simp [Instr.sliceBound, asIntOf, h1]
    simp [Instr.slice, run_underlying Tryz.underlying35, Instr.sliceBounds, hb, sizeOf, typeInfo, hi, hz]
  refine ⟨r, fun w => ?_⟩
  rw [← r w]
  simp [Instr.sliceAt, run_underlying Tryz.underlying35]
theorem cutE3 (x : Option Addr) (L C : Nat) (hL : 1 ≤ L) (hC : L ≤ C) :
    ∃ v, (∀ w, (Instr.slice 35 (.slice x L C) (some (.int .i64 0)) (some (.int .i64 1)) (some (.int .i64 (L : Int)))).run Tryz.prog w = .ok v w) := by
  obtain ⟨i0, hi, hz⟩ := Option.map_eq_some_iff.1 info46
  have h1 : (1 : Int) ≤ (L : Int) := by omega
  have h2 : (L : Int) ≤ (C : Int) := by omega
  refine ⟨.slice (if L = 0 then x else x.map (fun a => a.add 0)) 1 L, fun w => ?_⟩
  have ha : ∀ code, (Instr.sliceBound (.int .i64 (L : Int)) C code).run Tryz.prog w = .ok L w := by
    intro code; simp [Instr.sliceBound, asIntOf, h2]
  have hb : ∀ code, (Instr.sliceBound (.int .i64 1) L code).run Tryz.prog w = .ok 1 w := by
    intro code; simp [Instr.sliceBound, asIntOf, h1]
  have hc : ∀ code, (Instr.sliceBound (.int .i64 0) 1 code).run Tryz.prog w = .ok 0 w := by
    intro code; simp [Instr.sliceBound, asIntOf]
  simp [Instr.slice, run_underlying Tryz.underlying35, Instr.sliceBounds, ha, hb, hc, sizeOf, typeInfo, hi, hz]

/-- An append as a step, by its run. -/
theorem step_append_run {w w' : World} {ops : Array Oper} {o : Oper} {a : Act} {K : Act → World → Prop} {Q : Exit → Act → World → Prop} {E : Prop} (hgd : o.guard = none) (s t : Operand) (T : TypeId)
    (ho : o.op = .call { callee := .builtin .append, args := #[s, t], argTypes := #[T, T] }) (v u r : Value) (hs : a.eval s = v) (hx : a.eval t = u) (hr : (Builtin.append_ #[T, T] o.type #[v, u]).run Tryz.prog w = .ok r w')
    (hK : K (a.put o.dst r) w') : if Region.wanted o (yielded ops a.tmps) = true then Oper.wp Tryz.prog o a w K Q else E := by
  have hw : Region.wanted o (yielded ops a.tmps) = true := by simp [Region.wanted, hgd]
  rw [if_pos hw]
  unfold Oper.wp execOp
  simp only [ho, resolve, invoke, builtin, Sem.run_bind, Sem.run_pure, Result.andThen_ok, List.map_toArray, List.map_cons, List.map_nil, hs, hx, hr]
  exact hK

set_option maxHeartbeats 4000000 in
set_option maxRecDepth 100000 in
/-- One event: nothing is left. -/
theorem pdelete1 {w : World} {b off c : Nat} {cur : Array Value} (hA : At w b 46 cur) (hc : 1 ≤ c) (hz : off + c * 8 ≤ cur.size) :
    Calls Tryz.prog 41 #[.slice (some ⟨b, off, none⟩) 1 c, .int .i64 0, .int .i64 1] w fun e w' => e = .returned (.slice (some ⟨b, off, none⟩) 0 c) ∧ MidG 46 8 w' (.slice (some ⟨b, off, none⟩) 0 c) (some b) 0 [] ∧ Keep (fun k => k = b) w w' := by
  obtain ⟨i0, z, hi, hzz, hzs, h8, hby⟩ := infoEv
  obtain ⟨v3, r3⟩ := cutE3 (some ⟨b, off, none⟩) 1 c (Nat.le_refl _) hc
  obtain ⟨p1, p2⟩ := cutE_pre (some ⟨b, off, none⟩) 1 c
  obtain ⟨d1, d2⟩ := cutE_drop (some ⟨b, off, none⟩) 1 c (Nat.le_refl _) hc
  obtain ⟨m1, m2⟩ := cutE (some ⟨b, off, none⟩) 0 c 0 1 (by omega) hc
  have em : (if c = 0 then (some (⟨b, off, none⟩ : Addr)) else (some (⟨b, off, none⟩ : Addr)).map (fun a => a.add (0 * 8))) = some ⟨b, off, none⟩ := by
    rw [if_neg (by omega)]; simp [Addr.add]
  rw [em] at m1 m2
  have exd : ∃ x1, (if c = 1 then (some (⟨b, off, none⟩ : Addr)) else (some (⟨b, off, none⟩ : Addr)).map (fun a => a.add 8)) = some x1 := by
    by_cases h1 : c = 1
    · exact ⟨_, by rw [if_pos h1]⟩
    · exact ⟨_, by rw [if_neg h1]; rfl⟩
  obtain ⟨x1, hx1⟩ := exd
  rw [hx1] at d1 d2
  have hap : ∀ ty, (Builtin.append_ #[35, 35] ty #[.slice (some ⟨b, off, none⟩) 0 c, .slice (some x1) 0 (c - 1)]).run Tryz.prog w.drew = .ok (.slice (some ⟨b, off, none⟩) 0 c) w.drew := fun ty =>
    run_append_nothing w.drew 35 35 ty 46 i0 Tryz.underlying35 hi (some ⟨b, off, none⟩) 0 c (Nat.zero_le _) _ (by rw [h8]; exact Src.ofSlice w.drew Tryz.underlying35 x1 0 (c - 1) [] (by simp) (by simp) (by simp))
  have HAP := Lib.hid hap
  have hcl := fun ty => run_clearE w.drew ty b off c (fun j hj => by show (w.cell? _).isSome = true; rw [hA.cell, Array.getElem?_eq_getElem (by omega)]; rfl) (fun j hj => hA.frozen _)
  have HA := Lib.hid hA
  have n1 : (0 : Int) ≤ (c : Int) := by omega
  simp only [Nat.sub_self, Nat.sub_zero] at d1 d2 m1 m2
  clear hap hA hi hzz hzs h8 hby
  go_enter Tryz.func41, Tryz.ntmps41
  go_wp2
  go_region_law ((refine step_append_run (by rfl) (.tmp 22) (.tmp 25) 35 (by rfl) _ _ _ (by rfl) (by rfl) (HAP.out _) ?_))
  all_goals
    go_wp2
    go_ret
    obtain ⟨cs', hA', hsz⟩ := (HA.out.drew).setCells zev off
    exact ⟨rfl, ⟨by simp, by simp, some ⟨b, off, none⟩, c, rfl, Nat.zero_le _, .inr ⟨b, off, cs', rfl, rfl, hA', by omega, fun i hi => by simp at hi⟩⟩, Keep.setCells (S := fun k => k = b) (g := b) (fun _ => rfl) _ _ ((Keep.refl _ w).drew)⟩

set_option maxHeartbeats 4000000 in
set_option maxRecDepth 100000 in
/-- Two events: the second one is left. -/
theorem pdelete2 {w : World} {b off c : Nat} {cur : Array Value} {xs : List Value} (hA : At w b 46 cur) (hc : 2 ≤ c) (hz : off + c * 8 ≤ cur.size) (hxs : xs.length = 16) (ho : ∀ u ∈ xs, u.oneCell' = true) (hx : ∀ i, i < xs.length → cur[off + i]? = xs[i]?) :
    Calls Tryz.prog 41 #[.slice (some ⟨b, off, none⟩) 2 c, .int .i64 0, .int .i64 1] w fun e w' => e = .returned (.slice (some ⟨b, off, none⟩) 1 c) ∧ MidG 46 8 w' (.slice (some ⟨b, off, none⟩) 1 c) (some b) 1 (xs.drop 8) ∧ Keep (fun k => k = b) w w' := by
  obtain ⟨i0, z, hi, hzz, hzs, h8, hby⟩ := infoEv
  obtain ⟨v3, r3⟩ := cutE3 (some ⟨b, off, none⟩) 2 c (by omega) hc
  obtain ⟨p1, p2⟩ := cutE_pre (some ⟨b, off, none⟩) 2 c
  obtain ⟨d1, d2⟩ := cutE_drop (some ⟨b, off, none⟩) 2 c (by omega) hc
  obtain ⟨m1, m2⟩ := cutE (some ⟨b, off, none⟩) 1 c 1 2 (by omega) hc
  have em : (if c = 1 then (some (⟨b, off, none⟩ : Addr)) else (some (⟨b, off, none⟩ : Addr)).map (fun a => a.add (1 * 8))) = some ⟨b, off + 8, none⟩ := by
    rw [if_neg (by omega)]; simp [Addr.add_mid]
  have ed : (if c = 1 then (some (⟨b, off, none⟩ : Addr)) else (some (⟨b, off, none⟩ : Addr)).map (fun a => a.add 8)) = some ⟨b, off + 8, none⟩ := by
    rw [if_neg (by omega)]; simp [Addr.add_mid]
  rw [em] at m1 m2
  rw [ed] at d1 d2
  have hcell : ∀ j, j < 8 → w.drew.cell? ⟨b, off + 8 + j, none⟩ = xs[8 + j]? := fun j hj => by
    show w.cell? _ = _
    rw [hA.cell, Nat.add_assoc, hx (8 + j) (by omega)]
  have hsrc : Src Tryz.prog i0.size 35 (.slice (some ⟨b, off + 8, none⟩) 1 (c - 1)) 1 (xs.drop 8) w.drew := by
    rw [h8]
    refine Src.ofSlice w.drew Tryz.underlying35 _ 1 (c - 1) _ (by simp [hxs]) (fun j u hu => ?_) (fun u hu => ho u (List.mem_of_mem_drop hu))
    have hj : j < 8 := by
      have := (List.getElem?_eq_some_iff.1 hu).1
      simp [hxs] at this
      exact this
    rw [Addr.add_mid, hcell j hj]
    rw [List.getElem?_drop] at hu
    exact hu
  have hroomc : ∀ j, j < (xs.drop 8).length → (w.drew.cell? ⟨b, off + 0 * i0.size + j, none⟩).isSome = true := fun j hj => by
    simp [hxs] at hj
    show (w.cell? _).isSome = true
    rw [hA.cell, Array.getElem?_eq_getElem (by omega)]
    rfl
  have hap : ∀ ty, (Builtin.append_ #[35, 35] ty #[.slice (some ⟨b, off, none⟩) 0 c, .slice (some ⟨b, off + 8, none⟩) 1 (c - 1)]).run Tryz.prog w.drew = .ok (.slice (some ⟨b, off, none⟩) 1 c) (w.drew.setCells b off (xs.drop 8)) := fun ty => by
    have := run_append_room_src w.drew 35 35 ty 46 i0 Tryz.underlying35 hi b off 0 c _ 1 (xs.drop 8) hsrc (by omega) hroomc (fun j _ => hA.frozen _)
    simpa using this
  have HAP := Lib.hid hap
  obtain ⟨cs1, hA1, hs1⟩ := (hA.drew).setCells (xs.drop 8) off
  obtain ⟨W1, hW1⟩ : ∃ W1, W1 = w.drew.setCells b off (xs.drop 8) := ⟨_, rfl⟩
  have HR : Hid (∀ j, j < 8 → W1.cell? ⟨b, off + j, none⟩ = (xs.drop 8)[j]?) := Lib.hid (fun j hj => by
    rw [hW1, World.cell?_setCells_in _ _ _ _ (fun j hj => by have := hroomc j hj; simpa using this) j (by simp [hxs]; omega), List.getElem?_eq_getElem (by simp [hxs]; omega)])
  have HK1 : Hid (Keep (fun k => k = b) w W1) := Lib.hid (by rw [hW1]; exact Keep.setCells (S := fun k => k = b) (g := b) (fun _ => rfl) _ _ ((Keep.refl _ w).drew))
  rw [← hW1] at HAP hA1
  have hcl := fun ty => run_clearE W1 ty b (off + 8) (c - 1) (fun j hj => by rw [hA1.cell, Array.getElem?_eq_getElem (by omega)]; rfl) (fun j hj => hA1.frozen _)
  have HA1 := Lib.hid hA1
  have HXS := Lib.hid hxs
  have HO := Lib.hid ho
  have n1 : (0 : Int) ≤ (c : Int) := by omega
  have n2 : (2 : Int) ≤ (c : Int) := by omega
  have e21 : (2 : Nat) - 1 = 1 := rfl
  rw [e21] at d1 d2 m1 m2
  clear hap hA hi hzz hzs h8 hby hcell hsrc hroomc hW1 hxs ho hx hA1
  go_enter Tryz.func41, Tryz.ntmps41
  go_wp2
  go_region_law ((refine step_append_run (by rfl) (.tmp 22) (.tmp 25) 35 (by rfl) _ _ _ (by rfl) (by rfl) (HAP.out _) ?_))
  all_goals
    go_wp2
    go_ret
    obtain ⟨cs', hA', hsz⟩ := HA1.out.setCells zev (off + 8)
    have hz8 : zev.length = 8 := rfl
    refine ⟨rfl, ⟨by simp [HXS.out], fun u hu => HO.out u (List.mem_of_mem_drop hu), some ⟨b, off, none⟩, c, rfl, by omega, .inr ⟨b, off, cs', rfl, rfl, hA', by omega, fun i hi => ?_⟩⟩, Keep.setCells (S := fun k => k = b) (g := b) (fun _ => rfl) _ _ HK1.out⟩
    have hi8 : i < 8 := by rw [List.length_drop, HXS.out] at hi; omega
    rw [← hA'.cell, World.cell?_setCells_out _ _ _ _ _ (fun _ _ => .inl (by simp; omega)), HR.out i hi8]
/-- What Delete does to a row of one or two events. -/
theorem pdelete {w : World} {v : Value} {q : Option Nat} {n : Nat} {xs : List Value} (hM : MidG 46 8 w v q n xs) (hn : n = 1 ∨ n = 2) :
    Calls Tryz.prog 41 #[v, .int .i64 0, .int .i64 1] w fun e w' => ∃ v', e = .returned v' ∧ (∃ y m c', v' = .slice y m c') ∧ MidG 46 8 w' v' q (n - 1) (xs.drop 8) ∧ Keep (fun k => q = some k) w w' := by
  obtain ⟨hb, h1, x, cap, rfl, hcap, ⟨h0, _⟩ | ⟨g, off, cur, rfl, rfl, hA, hz, hcur⟩⟩ := hM
  · omega
  · rcases hn with rfl | rfl
    · refine (pdelete1 hA hcap hz).mono ?_
      rintro e w' ⟨rfl, h2, h3⟩
      have : xs.drop 8 = [] := List.drop_eq_nil_of_le (by omega)
      rw [this]
      exact ⟨_, rfl, ⟨_, _, _, rfl⟩, h2, h3.mono (fun i _ e => by rw [e])⟩
    · refine (pdelete2 hA hcap hz (by omega) h1 hcur).mono ?_
      rintro e w' ⟨rfl, h2, h3⟩
      exact ⟨_, rfl, ⟨_, _, _, rfl⟩, h2, h3.mono (fun i _ e => by rw [e])⟩
end Go.Proofs.YtcjljldknekhiaaGreatDoor.Ln
end

section
/-
  No line turns the host's name.
-/
namespace Go.Proofs.YtcjljldknekhiaaGreatDoor.Ln
set_option linter.unusedVariables false

theorem text_host (s : Se) (l : List Nat) : (s.text l).host = s.host := by
  unfold Se.text
  split
  · split <;> rfl
  · rfl
theorem verb_host (s : Se) (v : VC) : (s.verb v).host = s.host := by
  unfold Se.verb
  split; · rfl
  split; · rfl
  split; · rfl
  split; · rfl
  split; · rfl
  split; · rfl
  split
  · unfold Se.mail; split; · rfl
    split <;> rfl
  split
  · unfold Se.rcpt; split; · rfl
    split <;> rfl
  split
  · unfold Se.data; split <;> rfl
  rfl
theorem line_host (V : ByteArray → VC) (s : Se) (l : List Nat) : (s.line V l).host = s.host := by
  unfold Se.line
  split
  · exact text_host s l
  · unfold Se.command
    split; · rfl
    split; · rfl
    exact verb_host s _
end Go.Proofs.YtcjljldknekhiaaGreatDoor.Ln
end

section
/-
  What the program's Over, Answer and Feed return, in the words of the document's own session.
-/
namespace Go.Proofs.YtcjljldknekhiaaGreatDoor.Ln
open Go.RowKit
set_option linter.unusedVariables false
set_option linter.unusedSimpArgs false

/-- The program's session in block g is what the document's own would be. -/
def VS (F : Nat → Prop) (w : World) (g : Nat) (s : Se) : Prop := PS F w g s.view
structure VNow (F : Nat → Prop) (w : World) (g : Nat) (F' : Nat → Prop) (w' : World) (s : Se) : Prop where
  now : PNow F w g F' w' s.view
theorem VNow.start {F : Nat → Prop} {w : World} {g : Nat} {s : Se} (h : VS F w g s) (e : Env w) : VNow F w g F w s := ⟨PNow.start h e⟩

/-! ### Bounds -/
theorem Ok.view {s : Se} (h : Ok s) : Ok s.view := by
  refine ⟨h.size, ?_, ?_, ?_, h.st⟩
  · show List.length (if 5 ≤ s.st ∨ s.bad ≠ 0 then [] else s.body) ≤ s.size
    split
    · simp
    · exact h.body
  · show List.length (if 5 ≤ s.st then [] else s.rcpts) ≤ 8
    split
    · simp
    · exact h.rcpts
  · show (if 5 ≤ s.st then 0 else s.bad) = 0 ∨ (if 5 ≤ s.st then 0 else s.bad) = 500 ∨ (if 5 ≤ s.st then 0 else s.bad) = 552
    split
    · exact .inl rfl
    · exact h.bad
structure Gd (s : Se) : Prop where
  ok : Ok s
  host : s.host.size ≤ 1000
  wait : s.wait.length ≤ 4000000000
  out : s.out.length ≤ 2
theorem Gd.line {s : Se} (h : Gd s) {i : Nat} (V : ByteArray → VC) (ho : s.out = []) (l : List Nat) : Gd ((s.cut i).line V l) := by
  refine ⟨(h.ok.cut i).line V l, by rw [line_host]; exact h.host, ?_, ?_⟩
  · rw [line_wait]
    have := h.wait
    simp [Se.cut]
    omega
  · have := out_line V (s.cut i) l
    rw [show (s.cut i).out = [] from ho] at this
    simpa using this
theorem Gd.new (host : ByteArray) (size : Int) (h : host.size ≤ 1000) : Gd (Se.new host size) := ⟨Ok.new host size, h, by simp [Se.new, Se.say], by simp [Se.new, Se.say]⟩
theorem Gd.fed {s : Se} (h : Gd s) (b : List Nat) (hb : s.wait.length + b.length ≤ 4000000000) : Gd (s.fed b) := ⟨h.ok.fed b, h.host, by simp [Se.fed]; exact hb, h.out⟩
theorem Gd.pop {s : Se} (h : Gd s) : Gd s.pop := ⟨h.ok.pop, h.host, h.wait, by have := h.out; simp [Se.pop]; omega⟩
theorem Gd.answer {s : Se} (h : Gd s) (ho : s.out = []) (code : Int) : Gd (s.answer code) := by
  refine ⟨h.ok.answer code, ?_, ?_, ?_⟩
  · unfold Se.answer; split <;> exact h.host
  · unfold Se.answer; split <;> exact h.wait
  · unfold Se.answer
    split
    · show (s.out ++ [_]).length ≤ 2
      rw [ho]; simp
    · exact h.out
theorem go_keeps (V : ByteArray → VC) : ∀ (n : Nat) (s : Se), s.wait.length = n → Ok s → Ok (s.go V) ∧ (s.go V).host = s.host ∧ (s.go V).wait.length ≤ s.wait.length := by
  intro n
  induction n using Nat.strongRecOn with
  | _ n ih =>
    intro s hn h
    by_cases h5 : s.st < 5
    · cases hp : pos s.wait with
      | none => rw [go_none hp]; exact ⟨h, rfl, Nat.le_refl _⟩
      | some i =>
        rw [go_some h5 hp]
        have hl := pos_lt hp
        have hw : ((s.cut i).line V (s.wait.take i)).wait.length = s.wait.length - (i + 2) := by rw [line_wait]; simp [Se.cut]
        obtain ⟨a, b, c⟩ := ih _ (by omega) _ rfl ((h.cut i).line V (s.wait.take i))
        exact ⟨a, by rw [b, line_host]; rfl, by omega⟩
    · rw [go_over h5]; exact ⟨h, rfl, Nat.le_refl _⟩

set_option maxHeartbeats 1000000 in
theorem pover {F : Nat → Prop} {w : World} {g : Nat} {s : Se} (h : VS F w g s) :
    Calls Tryz.prog 24 #[.pointer (some ⟨g, 0, none⟩)] w fun e w' => e = .returned (.bool (decide (s.st = 6 ∧ s.out = []))) ∧ w' = w := by
  obtain ⟨lv, ev, rv, bv, o, xs, h⟩ := h
  obtain ⟨x, c, rfl, _⟩ := h.out.shape
  obtain ⟨_, _, c2, _, c4, _⟩ := h.cells
  have e2 : (s.view.st : Int) = (s.st : Int) := rfl
  have e4 : s.view.out = s.out := rfl
  rw [e2] at c2
  rw [e4] at c4
  obtain ⟨n, hn⟩ : ∃ n, n = s.out.length := ⟨_, rfl⟩
  rw [← hn] at c4
  have HN := Lib.hid hn
  clear h e2 e4 hn
  by_cases h6 : (s.st : Int) = 6
  · rw [h6] at c2
    have HR : Hid (decide (s.st = 6 ∧ s.out = []) = decide ((n : Int) = 0)) := Lib.hid (by
      have := HN.out
      rw [decide_eq_decide]
      constructor
      · rintro ⟨_, h0⟩; rw [h0] at this; simp at this; omega
      · intro h0; exact ⟨by omega, List.eq_nil_of_length_eq_zero (by omega)⟩)
    by_cases h0 : (n : Int) = 0
    · have hb : ((n : Int) == 0) = true := by rw [beq_iff_eq]; exact h0
      go_enter Tryz.func24, Tryz.ntmps24
      go_wp2
      go_ret
      refine ⟨?_, rfl⟩
      rw [HR.out, decide_eq_true h0]
      first | rfl | (simp [h0]; done) | simp
    · have hb : ((n : Int) == 0) = false := by rw [beq_eq_false_iff_ne]; exact h0
      go_enter Tryz.func24, Tryz.ntmps24
      go_wp2
      go_ret
      refine ⟨?_, rfl⟩
      rw [HR.out, decide_eq_false h0]
      first | rfl | (simp [h0]; done) | simp
  · have HR : Hid (decide (s.st = 6 ∧ s.out = []) = false) := Lib.hid (by rw [decide_eq_false_iff_not]; intro h; omega)
    have hb : ((s.st : Int) == 6) = false := by rw [beq_eq_false_iff_ne]; exact h6
    go_enter Tryz.func24, Tryz.ntmps24
    go_wp2
    go_ret
    refine ⟨?_, rfl⟩
    rw [HR.out]
    first | rfl | simp

/-! ### Answer -/
theorem answer_view {s : Se} {code : Int} (h : ansOk s code = true) : (s.answer code).view = s.view.reset.say (reply (if code < 300 then 250 else code.toNat)) := by
  rw [Se.answer, if_pos h, view_reset, reset_view]
  rfl
theorem ansOk_iff {s : Se} (ho : s.out = []) (code : Int) : ansOk s code = decide (s.st = 5 ∧ 200 ≤ code ∧ code ≤ 599) := by
  unfold ansOk
  rw [decide_eq_decide]
  constructor
  · rintro ⟨a, _, b, c⟩; exact ⟨a, b, c⟩
  · rintro ⟨a, b, c⟩; exact ⟨a, ho, b, c⟩
set_option maxHeartbeats 4000000 in
theorem panswer {F : Nat → Prop} {w : World} {g : Nat} {s : Se} (h : VS F w g s) (hE : Env w) (ho : s.out = []) (code : Int) (hc : (Lit.int .i64 code).wf = true) :
    Calls Tryz.prog 13 #[.pointer (some ⟨g, 0, none⟩), .int .i64 code] w (PTried F g (ansOk s code) (s.answer code).view w) := by
  have b := bounds_i64 hc
  have N0 := Lib.hid (PNow.start h hE)
  obtain ⟨_, _, c2, _, _, _⟩ := N0.out.cells
  have e2 : (s.view.st : Int) = (s.st : Int) := rfl
  rw [e2] at c2
  have hol : s.view.out.length = 0 := by show s.out.length = 0; rw [ho]; rfl
  have hno : ∀ (hx : ansOk s code = false), PTried F g (ansOk s code) (s.answer code).view w (.returned (.bool false)) w := fun hx => by
    have e : s.answer code = s := by rw [Se.answer, hx]; rfl
    rw [hx, e]
    exact N0.out.try
  have HNO := Lib.hid hno
  have HI := Lib.hid (ansOk_iff ho code)
  have HV := Lib.hid (fun hx => answer_view (s := s) (code := code) hx)
  clear h hE hno e2 ho
  by_cases h5 : (s.st : Int) = 5
  · rw [h5] at c2
    by_cases h2 : code < 200
    · have HX := Lib.hid (HNO.out (by rw [HI.out, decide_eq_false_iff_not]; rintro ⟨_, h, _⟩; omega))
      go_enter Tryz.func13, Tryz.ntmps13
      go_wp2
      go_ret
      exact HX.out
    · by_cases h6 : 599 < code
      · have HX := Lib.hid (HNO.out (by rw [HI.out, decide_eq_false_iff_not]; rintro ⟨_, _, h⟩; omega))
        go_enter Tryz.func13, Tryz.ntmps13
        go_wp2
        go_ret
        exact HX.out
      · have hx : ansOk s code = true := by rw [HI.out, decide_eq_true_iff]; exact ⟨by omega, by omega, by omega⟩
        have HX := Lib.hid hx
        have HW := Lib.hid (HV.out hx)
        clear hx
        by_cases h3 : code < 300
        · go_enter Tryz.func13, Tryz.ntmps13
          go_wp2_with fail
          refine (preset N0.out.rs (by show s.st ≠ 6; omega)).mono ?_
          rintro e w1 hd
          obtain ⟨rfl, F1, hN1⟩ := N0.out.did hd
          have N1 := Lib.hid hN1
          clear hd hN1
          go_wp2_with fail
          refine (preply N1.out.rs N1.out.env 250 (by decide) (by show s.view.out.length ≤ 1000000; omega)).mono ?_
          rintro e w2 hd
          obtain ⟨rfl, F2, hN2⟩ := N1.out.did hd
          have N2 := Lib.hid hN2
          clear hd hN2
          go_wp2
          go_ret
          rw [HX.out, HW.out, if_pos h3]
          exact N2.out.try
        · obtain ⟨n, rfl⟩ : ∃ n : Nat, code = (n : Int) := ⟨code.toNat, by omega⟩
          go_enter Tryz.func13, Tryz.ntmps13
          go_wp2_with fail
          refine (preset N0.out.rs (by show s.st ≠ 6; omega)).mono ?_
          rintro e w1 hd
          obtain ⟨rfl, F1, hN1⟩ := N0.out.did hd
          have N1 := Lib.hid hN1
          clear hd hN1
          go_wp2_with fail
          refine (preply N1.out.rs N1.out.env n (by omega) (by show s.view.out.length ≤ 1000000; omega)).mono ?_
          rintro e w2 hd
          obtain ⟨rfl, F2, hN2⟩ := N1.out.did hd
          have N2 := Lib.hid hN2
          clear hd hN2
          go_wp2
          go_ret
          rw [HX.out, HW.out, if_neg (by omega), Int.toNat_natCast]
          exact N2.out.try
  · have HX := Lib.hid (HNO.out (by rw [HI.out, decide_eq_false_iff_not]; rintro ⟨h, _⟩; omega))
    have hb : ((s.st : Int) != 5) = true := by rw [bne_iff_ne]; exact h5
    go_enter Tryz.func13, Tryz.ntmps13
    go_wp2
    go_ret
    exact HX.out
set_option maxHeartbeats 1000000 in
theorem panswer_nil (w : World) (code : Int) : Calls Tryz.prog 13 #[.pointer none, .int .i64 code] w fun e w' => e = .returned (.bool false) ∧ w' = w := by
  go_enter Tryz.func13, Tryz.ntmps13
  go_wp2
  go_ret
  exact ⟨rfl, rfl⟩
set_option maxHeartbeats 1000000 in
theorem pover_nil (w : World) : Calls Tryz.prog 24 #[.pointer none] w fun e w' => e = .returned (.bool false) ∧ w' = w := by
  go_enter Tryz.func24, Tryz.ntmps24
  go_wp2
  go_ret
  exact ⟨rfl, rfl⟩
set_option maxHeartbeats 1000000 in
theorem pfeed_nil (w : World) (x : Option Addr) (m c : Nat) : Calls Tryz.prog 15 #[.pointer none, .slice x m c] w fun e w' => e = .returned (.tuple #[]) ∧ w' = w := by
  go_enter Tryz.func15, Tryz.ntmps15
  go_wp2
  (try simp only [Exit.inBlock, Exit.then]); refine bodyPost_ret (results_none rfl _ _ _) rfl ?_
  exact ⟨rfl, rfl⟩

/-! ### Feed -/
theorem fed_over {F : Nat → Prop} {w : World} {g : Nat} {s : Se} (h : VS F w g s) (h6 : s.st = 6) (b : List Nat) : VS F w g (s.fed b) := by
  obtain ⟨lv, ev, rv, bv, o, xs, h⟩ := h
  refine ⟨lv, ev, rv, bv, o, xs, ⟨h.row, h.fg, h.flt, h.lo, h.own, h.out, h.evs, h.rc, h.body, ?_, h.nbl⟩⟩
  rcases h.lin with hx | ⟨hx, _⟩
  · exact .inl hx
  · exact absurd h6 hx
set_option maxHeartbeats 1000000 in
theorem pfeed {F : Nat → Prop} {w : World} {g : Nat} {s : Se} (h : VS F w g s) (hE : Env w) {P : Nat → Prop} (x : Option Addr) (m c : Nat) (cs : List Nat) (hm : cs.length = m) (hB : Bytes P w x cs) (hl : s.wait.length + m ≤ 1099511627776) :
    Calls Tryz.prog 15 #[.pointer (some ⟨g, 0, none⟩), .slice x m c] w (PDid F g (s.fed cs).view w) := by
  by_cases h6 : s.st = 6
  · have N0 := Lib.hid (PNow.start (fed_over h h6 cs) hE)
    obtain ⟨lv, ev, rv, bv, o, xs, h⟩ := h
    obtain ⟨_, _, _, c3, _⟩ := h.cells
    have hv : lv = .pointer none := by
      rcases h.lin with ⟨_, hx, _⟩ | ⟨hx, _⟩
      · exact hx
      · exact absurd h6 hx
    rw [hv] at c3
    clear h hE hB hv
    go_enter Tryz.func15, Tryz.ntmps15
    go_wp2_with fail
    refine (feed_nil _ _ _ _).mono ?_
    rintro e w1 ⟨rfl, hw⟩
    subst w1
    go_wp2_with fail
    (try simp only [Exit.inBlock, Exit.then])
    first | go_end0 | refine bodyPost_ret (results_none rfl _ _ _) rfl ?_
    exact N0.out.done
  · obtain ⟨lv, ev, rv, bv, o, xs, h⟩ := h
    obtain ⟨_, _, _, c3, _⟩ := h.cells
    rcases h.lin with ⟨hx, _⟩ | ⟨_, k, hv, hk, hL⟩
    · exact absurd hx h6
    · rw [hv] at c3
      have H := Lib.hid h
      have HF := Lib.hid (feed hL x m c cs hm hB hl)
      have HK := Lib.hid hk
      have HV := Lib.hid hv
      clear h hE hB hL hk hv
      go_enter Tryz.func15, Tryz.ntmps15
      go_wp2_with fail
      refine HF.out.mono ?_
      rintro e w1 ⟨rfl, q', hL1, hK1, hN1⟩
      have HX := Lib.hid (H.out.lined h6 HK.out HV.out hK1 (fun i e => e) hL1 hN1)
      clear hL1 hK1 hN1
      go_wp2_with fail
      (try simp only [Exit.inBlock, Exit.then])
      first | go_end0 | refine bodyPost_ret (results_none rfl _ _ _) rfl ?_
      exact ⟨rfl, HX.out⟩
end Go.Proofs.YtcjljldknekhiaaGreatDoor.Ln
end
