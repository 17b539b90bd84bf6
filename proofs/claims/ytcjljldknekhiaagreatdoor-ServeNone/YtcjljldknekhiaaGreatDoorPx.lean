/-
  What the program's obey and command return.
-/
import Derived.Test.YtcjljldknekhiaaGreatDoorPw
import Derived.Test.YtcjljldknekhiaaGreatDoorVz
namespace Go.Proofs.YtcjljldknekhiaaGreatDoor.Ln
open Go.RowKit
set_option linter.unusedVariables false
set_option linter.unusedSimpArgs false

theorem mailC_le (p : Se) (z : Int) : p.mailC z ≤ 1000000 := by
  unfold Se.mailC
  split; · decide
  split <;> decide
theorem rcptC_le (p : Se) : p.rcptC ≤ 1000000 := by
  unfold Se.rcptC
  split; · decide
  split <;> decide
theorem dataC_le (p : Se) : p.dataC ≤ 1000000 := by
  unfold Se.dataC
  split <;> decide
theorem mailS_out (p : Se) (a : ByteArray) (z : Int) : (p.mailS a z).out = p.out := by
  unfold Se.mailS
  split; · rfl
  split <;> rfl
theorem rcptS_out (p : Se) (a : ByteArray) : (p.rcptS a).out = p.out := by
  unfold Se.rcptS
  split; · rfl
  split <;> rfl
theorem dataS_out (p : Se) : p.dataS.out = p.out := by
  unfold Se.dataS
  split <;> rfl

set_option maxHeartbeats 4000000 in
set_option maxRecDepth 100000 in
theorem obey_HELO {F : Nat → Prop} {w : World} {g : Nat} {p : Se} (h : PS F w g p) (hE : Env w) (hok : Ok p) (hst : p.st ≤ 3) (hh : p.host.size ≤ 100000) (hl : p.out.length + 2 ≤ 1000000) (a : ByteArray) (z : Int) :
    Calls Tryz.prog 89 #[.pointer (some ⟨g, 0, none⟩), verbV { data := #[72, 69, 76, 79] } a z] w (PDid F g ((p.reset.to 1).say (reply 250)) w) := by
  unfold verbV
  have hk1 : Keep (fun _ => False) w (w.alloc (.cells #[.string { data := #[72, 69, 76, 79] }, .string a, .int .i64 z] 58)) := (Keep.refl (fun _ => False) w).alloc _
  have N1 := Lib.hid ((PNow.start h hE).quiet hk1)
  have HZ := Lib.hid hok.size.2
  have HH := Lib.hid hh
  clear h hE hk1 hok hh
  go_enter Tryz.func89, Tryz.ntmps89
  go_wp2_with fail
  refine (pgreet N1.out.rs N1.out.env (by omega)).mono ?_
  rintro e w2 hd
  obtain ⟨rfl, F2, hN⟩ := N1.out.did hd
  have N2 := Lib.hid hN
  clear hd hN
  go_wp2_with fail
  refine (preply N2.out.rs N2.out.env 250 (by decide) (by show p.out.length ≤ 1000000; omega)).mono ?_
  rintro e w3 hd
  obtain ⟨rfl, F3, hN⟩ := N2.out.did hd
  have N3 := Lib.hid hN
  clear hd hN
  go_wp2_with fail
  (try simp only [Exit.inBlock, Exit.then])
  first | go_end0 | refine bodyPost_ret (results_none rfl _ _ _) rfl ?_
  exact N3.out.done

set_option maxHeartbeats 4000000 in
set_option maxRecDepth 100000 in
theorem obey_EHLO {F : Nat → Prop} {w : World} {g : Nat} {p : Se} (h : PS F w g p) (hE : Env w) (hok : Ok p) (hst : p.st ≤ 3) (hh : p.host.size ≤ 100000) (hl : p.out.length + 2 ≤ 1000000) (a : ByteArray) (z : Int) :
    Calls Tryz.prog 89 #[.pointer (some ⟨g, 0, none⟩), verbV { data := #[69, 72, 76, 79] } a z] w (PDid F g ((p.reset.to 1).say (ehlo p.host p.size)) w) := by
  unfold verbV
  have hk1 : Keep (fun _ => False) w (w.alloc (.cells #[.string { data := #[69, 72, 76, 79] }, .string a, .int .i64 z] 58)) := (Keep.refl (fun _ => False) w).alloc _
  have N1 := Lib.hid ((PNow.start h hE).quiet hk1)
  have HZ := Lib.hid hok.size.2
  have HH := Lib.hid hh
  clear h hE hk1 hok hh
  go_enter Tryz.func89, Tryz.ntmps89
  go_wp2_with fail
  refine (pgreet N1.out.rs N1.out.env (by omega)).mono ?_
  rintro e w2 hd
  obtain ⟨rfl, F2, hN⟩ := N1.out.did hd
  have N2 := Lib.hid hN
  clear hd hN
  go_wp2_with fail
  refine (poffer N2.out.rs N2.out.env HZ.out HH.out).mono ?_
  rintro e w3 ⟨rfl, hk3⟩
  have N3 := Lib.hid (N2.out.quiet hk3)
  clear hk3
  go_wp2_with fail
  refine (psay N3.out.rs _ (by show p.out.length ≤ 1000000; omega)).mono ?_
  rintro e w4 hd
  obtain ⟨rfl, F4, hN⟩ := N3.out.did hd
  have N4 := Lib.hid hN
  clear hd hN
  go_wp2_with fail
  (try simp only [Exit.inBlock, Exit.then])
  first | go_end0 | refine bodyPost_ret (results_none rfl _ _ _) rfl ?_
  exact N4.out.done

set_option maxHeartbeats 4000000 in
set_option maxRecDepth 100000 in
theorem obey_RSET {F : Nat → Prop} {w : World} {g : Nat} {p : Se} (h : PS F w g p) (hE : Env w) (hok : Ok p) (hst : p.st ≤ 3) (hh : p.host.size ≤ 100000) (hl : p.out.length + 2 ≤ 1000000) (a : ByteArray) (z : Int) :
    Calls Tryz.prog 89 #[.pointer (some ⟨g, 0, none⟩), verbV { data := #[82, 83, 69, 84] } a z] w (PDid F g (p.reset.say (reply 250)) w) := by
  unfold verbV
  have hk1 : Keep (fun _ => False) w (w.alloc (.cells #[.string { data := #[82, 83, 69, 84] }, .string a, .int .i64 z] 58)) := (Keep.refl (fun _ => False) w).alloc _
  have N1 := Lib.hid ((PNow.start h hE).quiet hk1)
  have HZ := Lib.hid hok.size.2
  have HH := Lib.hid hh
  clear h hE hk1 hok hh
  go_enter Tryz.func89, Tryz.ntmps89
  go_wp2_with fail
  refine (preset N1.out.rs (by omega)).mono ?_
  rintro e w2 hd
  obtain ⟨rfl, F2, hN⟩ := N1.out.did hd
  have N2 := Lib.hid hN
  clear hd hN
  go_wp2_with fail
  refine (preply N2.out.rs N2.out.env 250 (by decide) (by show p.out.length ≤ 1000000; omega)).mono ?_
  rintro e w3 hd
  obtain ⟨rfl, F3, hN⟩ := N2.out.did hd
  have N3 := Lib.hid hN
  clear hd hN
  go_wp2_with fail
  (try simp only [Exit.inBlock, Exit.then])
  first | go_end0 | refine bodyPost_ret (results_none rfl _ _ _) rfl ?_
  exact N3.out.done

set_option maxHeartbeats 4000000 in
set_option maxRecDepth 100000 in
theorem obey_NOOP {F : Nat → Prop} {w : World} {g : Nat} {p : Se} (h : PS F w g p) (hE : Env w) (hok : Ok p) (hst : p.st ≤ 3) (hh : p.host.size ≤ 100000) (hl : p.out.length + 2 ≤ 1000000) (a : ByteArray) (z : Int) :
    Calls Tryz.prog 89 #[.pointer (some ⟨g, 0, none⟩), verbV { data := #[78, 79, 79, 80] } a z] w (PDid F g (p.say (reply 250)) w) := by
  unfold verbV
  have hk1 : Keep (fun _ => False) w (w.alloc (.cells #[.string { data := #[78, 79, 79, 80] }, .string a, .int .i64 z] 58)) := (Keep.refl (fun _ => False) w).alloc _
  have N1 := Lib.hid ((PNow.start h hE).quiet hk1)
  have HZ := Lib.hid hok.size.2
  have HH := Lib.hid hh
  clear h hE hk1 hok hh
  go_enter Tryz.func89, Tryz.ntmps89
  go_wp2_with fail
  refine (preply N1.out.rs N1.out.env 250 (by decide) (by show p.out.length ≤ 1000000; omega)).mono ?_
  rintro e w2 hd
  obtain ⟨rfl, F2, hN⟩ := N1.out.did hd
  have N2 := Lib.hid hN
  clear hd hN
  go_wp2_with fail
  (try simp only [Exit.inBlock, Exit.then])
  first | go_end0 | refine bodyPost_ret (results_none rfl _ _ _) rfl ?_
  exact N2.out.done

set_option maxHeartbeats 4000000 in
set_option maxRecDepth 100000 in
theorem obey_VRFY {F : Nat → Prop} {w : World} {g : Nat} {p : Se} (h : PS F w g p) (hE : Env w) (hok : Ok p) (hst : p.st ≤ 3) (hh : p.host.size ≤ 100000) (hl : p.out.length + 2 ≤ 1000000) (a : ByteArray) (z : Int) :
    Calls Tryz.prog 89 #[.pointer (some ⟨g, 0, none⟩), verbV { data := #[86, 82, 70, 89] } a z] w (PDid F g (p.say (reply 252)) w) := by
  unfold verbV
  have hk1 : Keep (fun _ => False) w (w.alloc (.cells #[.string { data := #[86, 82, 70, 89] }, .string a, .int .i64 z] 58)) := (Keep.refl (fun _ => False) w).alloc _
  have N1 := Lib.hid ((PNow.start h hE).quiet hk1)
  have HZ := Lib.hid hok.size.2
  have HH := Lib.hid hh
  clear h hE hk1 hok hh
  go_enter Tryz.func89, Tryz.ntmps89
  go_wp2_with fail
  refine (preply N1.out.rs N1.out.env 252 (by decide) (by show p.out.length ≤ 1000000; omega)).mono ?_
  rintro e w2 hd
  obtain ⟨rfl, F2, hN⟩ := N1.out.did hd
  have N2 := Lib.hid hN
  clear hd hN
  go_wp2_with fail
  (try simp only [Exit.inBlock, Exit.then])
  first | go_end0 | refine bodyPost_ret (results_none rfl _ _ _) rfl ?_
  exact N2.out.done

set_option maxHeartbeats 4000000 in
set_option maxRecDepth 100000 in
theorem obey_QUIT {F : Nat → Prop} {w : World} {g : Nat} {p : Se} (h : PS F w g p) (hE : Env w) (hok : Ok p) (hst : p.st ≤ 3) (hh : p.host.size ≤ 100000) (hl : p.out.length + 2 ≤ 1000000) (a : ByteArray) (z : Int) :
    Calls Tryz.prog 89 #[.pointer (some ⟨g, 0, none⟩), verbV { data := #[81, 85, 73, 84] } a z] w (PDid F g (p.reset.quit) w) := by
  unfold verbV
  have hk1 : Keep (fun _ => False) w (w.alloc (.cells #[.string { data := #[81, 85, 73, 84] }, .string a, .int .i64 z] 58)) := (Keep.refl (fun _ => False) w).alloc _
  have N1 := Lib.hid ((PNow.start h hE).quiet hk1)
  have HZ := Lib.hid hok.size.2
  have HH := Lib.hid hh
  clear h hE hk1 hok hh
  go_enter Tryz.func89, Tryz.ntmps89
  go_wp2_with fail
  refine (pquit N1.out.rs N1.out.env (by omega) hl).mono ?_
  rintro e w2 hd
  obtain ⟨rfl, F2, hN⟩ := N1.out.did hd
  have N2 := Lib.hid hN
  clear hd hN
  go_wp2_with fail
  (try simp only [Exit.inBlock, Exit.then])
  first | go_end0 | refine bodyPost_ret (results_none rfl _ _ _) rfl ?_
  exact N2.out.done

set_option maxHeartbeats 4000000 in
set_option maxRecDepth 100000 in
theorem obey_MAIL {F : Nat → Prop} {w : World} {g : Nat} {p : Se} (h : PS F w g p) (hE : Env w) (hok : Ok p) (hst : p.st ≤ 3) (hh : p.host.size ≤ 100000) (hl : p.out.length + 2 ≤ 1000000) (a : ByteArray) (z : Int) :
    Calls Tryz.prog 89 #[.pointer (some ⟨g, 0, none⟩), verbV { data := #[77, 65, 73, 76] } a z] w (PDid F g ((p.mailS a z).say (reply (p.mailC z))) w) := by
  unfold verbV
  have hk1 : Keep (fun _ => False) w (w.alloc (.cells #[.string { data := #[77, 65, 73, 76] }, .string a, .int .i64 z] 58)) := (Keep.refl (fun _ => False) w).alloc _
  have N1 := Lib.hid ((PNow.start h hE).quiet hk1)
  have HZ := Lib.hid hok.size.2
  have HH := Lib.hid hh
  clear h hE hk1 hok hh
  go_enter Tryz.func89, Tryz.ntmps89
  go_wp2_with fail
  refine (psender N1.out.rs N1.out.env _ a z).mono ?_
  rintro e w2 hd
  obtain ⟨rfl, F2, hN⟩ := N1.out.code hd
  have N2 := Lib.hid hN
  clear hd hN
  go_wp2_with fail
  refine (preply N2.out.rs N2.out.env (p.mailC z) (mailC_le p z) (by rw [mailS_out]; omega)).mono ?_
  rintro e w3 hd
  obtain ⟨rfl, F3, hN⟩ := N2.out.did hd
  have N3 := Lib.hid hN
  clear hd hN
  go_wp2_with fail
  (try simp only [Exit.inBlock, Exit.then])
  first | go_end0 | refine bodyPost_ret (results_none rfl _ _ _) rfl ?_
  exact N3.out.done

set_option maxHeartbeats 4000000 in
set_option maxRecDepth 100000 in
theorem obey_RCPT {F : Nat → Prop} {w : World} {g : Nat} {p : Se} (h : PS F w g p) (hE : Env w) (hok : Ok p) (hst : p.st ≤ 3) (hh : p.host.size ≤ 100000) (hl : p.out.length + 2 ≤ 1000000) (a : ByteArray) (z : Int) :
    Calls Tryz.prog 89 #[.pointer (some ⟨g, 0, none⟩), verbV { data := #[82, 67, 80, 84] } a z] w (PDid F g ((p.rcptS a).say (reply p.rcptC)) w) := by
  unfold verbV
  have hk1 : Keep (fun _ => False) w (w.alloc (.cells #[.string { data := #[82, 67, 80, 84] }, .string a, .int .i64 z] 58)) := (Keep.refl (fun _ => False) w).alloc _
  have N1 := Lib.hid ((PNow.start h hE).quiet hk1)
  have HZ := Lib.hid hok.size.2
  have HH := Lib.hid hh
  clear h hE hk1 hok hh
  go_enter Tryz.func89, Tryz.ntmps89
  go_wp2_with fail
  refine (prcpt N1.out.rs N1.out.env _ a z (by omega)).mono ?_
  rintro e w2 hd
  obtain ⟨rfl, F2, hN⟩ := N1.out.code hd
  have N2 := Lib.hid hN
  clear hd hN
  go_wp2_with fail
  refine (preply N2.out.rs N2.out.env p.rcptC (rcptC_le p) (by rw [rcptS_out]; omega)).mono ?_
  rintro e w3 hd
  obtain ⟨rfl, F3, hN⟩ := N2.out.did hd
  have N3 := Lib.hid hN
  clear hd hN
  go_wp2_with fail
  (try simp only [Exit.inBlock, Exit.then])
  first | go_end0 | refine bodyPost_ret (results_none rfl _ _ _) rfl ?_
  exact N3.out.done

set_option maxHeartbeats 4000000 in
set_option maxRecDepth 100000 in
theorem obey_DATA {F : Nat → Prop} {w : World} {g : Nat} {p : Se} (h : PS F w g p) (hE : Env w) (hok : Ok p) (hst : p.st ≤ 3) (hh : p.host.size ≤ 100000) (hl : p.out.length + 2 ≤ 1000000) (a : ByteArray) (z : Int) :
    Calls Tryz.prog 89 #[.pointer (some ⟨g, 0, none⟩), verbV { data := #[68, 65, 84, 65] } a z] w (PDid F g (p.dataS.say (reply p.dataC)) w) := by
  unfold verbV
  have hk1 : Keep (fun _ => False) w (w.alloc (.cells #[.string { data := #[68, 65, 84, 65] }, .string a, .int .i64 z] 58)) := (Keep.refl (fun _ => False) w).alloc _
  have N1 := Lib.hid ((PNow.start h hE).quiet hk1)
  have HZ := Lib.hid hok.size.2
  have HH := Lib.hid hh
  clear h hE hk1 hok hh
  go_enter Tryz.func89, Tryz.ntmps89
  go_wp2_with fail
  refine (pdata N1.out.rs N1.out.env).mono ?_
  rintro e w2 hd
  obtain ⟨rfl, F2, hN⟩ := N1.out.code hd
  have N2 := Lib.hid hN
  clear hd hN
  go_wp2_with fail
  refine (preply N2.out.rs N2.out.env p.dataC (dataC_le p) (by rw [dataS_out]; omega)).mono ?_
  rintro e w3 hd
  obtain ⟨rfl, F3, hN⟩ := N2.out.did hd
  have N3 := Lib.hid hN
  clear hd hN
  go_wp2_with fail
  (try simp only [Exit.inBlock, Exit.then])
  first | go_end0 | refine bodyPost_ret (results_none rfl _ _ _) rfl ?_
  exact N3.out.done

theorem greet_same (p : Se) : (p.to (max p.st 1)).reset = p.reset.to 1 := by
  have h : (p.to (max p.st 1)).reset.st = 1 := by
    show (if 1 < max p.st 1 then 1 else max p.st 1) = 1
    split <;> omega
  show (⟨p.host, p.size, p.wait, p.out, (p.to (max p.st 1)).reset.st, nobody, [], [], 0⟩ : Se) = _
  rw [h]
  rfl
/-- What obey does, whichever of the nine. -/
theorem pobey {F : Nat → Prop} {w : World} {g : Nat} {p : Se} (h : PS F w g p) (hE : Env w) (hok : Ok p) (hst : p.st ≤ 3) (hh : p.host.size ≤ 100000) (hl : p.out.length + 2 ≤ 1000000) (v : VC) (hv : Nine v.name) :
    Calls Tryz.prog 89 #[.pointer (some ⟨g, 0, none⟩), .agg #[.string v.name, .string v.arg, .int .i64 v.size]] w (PDid F g (p.pverb v) w) := by
  obtain ⟨n, a, z, c⟩ := v
  simp only at hv ⊢
  rcases hv with rfl | rfl | rfl | rfl | rfl | rfl | rfl | rfl | rfl
  · rw [show p.pverb ⟨nHELO, a, z, c⟩ = (p.reset.to 1).say (reply 250) from by rw [show p.pverb ⟨nHELO, a, z, c⟩ = ((p.to (max p.st 1)).reset).say (reply 250) from rfl, greet_same]]
    exact obey_HELO h hE hok hst hh hl a z
  · rw [show p.pverb ⟨nEHLO, a, z, c⟩ = (p.reset.to 1).say (ehlo p.host p.size) from by rw [show p.pverb ⟨nEHLO, a, z, c⟩ = ((p.to (max p.st 1)).reset).say (ehlo p.host p.size) from rfl, greet_same]]
    exact obey_EHLO h hE hok hst hh hl a z
  · rw [show p.pverb ⟨nRSET, a, z, c⟩ = p.reset.say (reply 250) from rfl]
    exact obey_RSET h hE hok hst hh hl a z
  · rw [show p.pverb ⟨nNOOP, a, z, c⟩ = p.say (reply 250) from rfl]
    exact obey_NOOP h hE hok hst hh hl a z
  · rw [show p.pverb ⟨nVRFY, a, z, c⟩ = p.say (reply 252) from rfl]
    exact obey_VRFY h hE hok hst hh hl a z
  · rw [show p.pverb ⟨nQUIT, a, z, c⟩ = p.reset.quit from rfl]
    exact obey_QUIT h hE hok hst hh hl a z
  · rw [show p.pverb ⟨nMAIL, a, z, c⟩ = (p.mailS a z).say (reply (p.mailC z)) from by rw [show p.pverb ⟨nMAIL, a, z, c⟩ = p.mail ⟨nMAIL, a, z, c⟩ from rfl, ← mail_parts]]
    exact obey_MAIL h hE hok hst hh hl a z
  · rw [show p.pverb ⟨nRCPT, a, z, c⟩ = (p.rcptS a).say (reply p.rcptC) from by rw [show p.pverb ⟨nRCPT, a, z, c⟩ = p.rcpt ⟨nRCPT, a, z, c⟩ from rfl, ← rcpt_parts]]
    exact obey_RCPT h hE hok hst hh hl a z
  · rw [show p.pverb ⟨nDATA, a, z, c⟩ = p.dataS.say (reply p.dataC) from by rw [show p.pverb ⟨nDATA, a, z, c⟩ = p.data from rfl, ← data_parts]]
    exact obey_DATA h hE hok hst hh hl a z

set_option maxHeartbeats 1000000 in
theorem pcommandLong {F : Nat → Prop} {w : World} {g : Nat} {p : Se} (h : PS F w g p) (hE : Env w) (hl : p.out.length + 2 ≤ 1000000) (t : ByteArray) :
    Calls Tryz.prog 68 #[.pointer (some ⟨g, 0, none⟩), .string t, .bool true] w (PDid F g (p.say (reply 500)) w) := by
  have N1 := Lib.hid (PNow.start h hE)
  clear h hE
  go_enter Tryz.func68, Tryz.ntmps68
  go_wp2_with fail
  refine (preply N1.out.rs N1.out.env 500 (by decide) (by show p.out.length ≤ 1000000; omega)).mono ?_
  rintro e w2 hd
  obtain ⟨rfl, F2, hN⟩ := N1.out.did hd
  have N2 := Lib.hid hN
  clear hd hN
  go_wp2_with fail
  (try simp only [Exit.inBlock, Exit.then])
  first | go_end0 | refine bodyPost_ret (results_none rfl _ _ _) rfl ?_
  exact N2.out.done

set_option maxHeartbeats 4000000 in
set_option maxRecDepth 100000 in
theorem pcommandC {F : Nat → Prop} {w : World} {g : Nat} {p : Se} (h : PS F w g p) (hE : Env w) (hok : Ok p) (hst : p.st ≤ 3) (hh : p.host.size ≤ 100000) (hl : p.out.length + 2 ≤ 1000000) (l : ByteArray) (hz : l.size ≤ 512) :
    Calls Tryz.prog 68 #[.pointer (some ⟨g, 0, none⟩), .string l, .bool false] w (PDid F g (p.pcommand V9 l) w) := by
  have N0 := Lib.hid (PNow.start h hE)
  have HP := Lib.hid (fun W e => parseC l (by omega) W e)
  have HC := Lib.hid (V9_codes l)
  have HN := Lib.hid (V9_nine l)
  have HS : Hid (p.pcommand V9 l = if 0 < (V9 l).code then p.say (reply (V9 l).code.toNat) else p.pverb (V9 l)) := Lib.hid (by rw [Se.pcommand, if_neg (by omega)])
  have HOK := Lib.hid hok
  have HH := Lib.hid hh
  clear h hE hok hh
  obtain ⟨v, hv⟩ : ∃ v, v = V9 l := ⟨_, rfl⟩
  rw [← hv] at HP HC HN HS
  clear hv
  obtain ⟨n, a, z, c⟩ := v
  simp only at HP HC HN HS
  by_cases h0 : c = 0
  · have HS' : Hid (p.pcommand V9 l = p.pverb ⟨n, a, z, c⟩) := Lib.hid (by rw [HS.out, if_neg (by omega)])
    have HN' := Lib.hid (HN.out h0)
    subst h0
    go_enter Tryz.func68, Tryz.ntmps68
    go_wp2_with fail
    refine (HP.out _ N0.out.env).mono ?_
    rintro e w1 ⟨rfl, hk1⟩
    have N1 := Lib.hid (N0.out.quiet (hk1.trans (laidV_keep w1 n a z) (fun _ _ h => h)))
    obtain ⟨v0, v1, v2⟩ := laidV_cells w1 n a z
    clear hk1
    go_wp2_with (refine step_laidV (by rfl) (.tmp 6) (.tmp 14) (by rfl) n a z (by rfl) (by rfl) ?_)
    refine (pobey N1.out.rs N1.out.env HOK.out hst HH.out hl ⟨n, a, z, 0⟩ HN'.out).mono ?_
    rintro e w2 hd
    obtain ⟨rfl, F2, hN⟩ := N1.out.did hd
    have N2 := Lib.hid hN
    clear hd hN
    go_wp2_with fail
    (try simp only [Exit.inBlock, Exit.then])
    first | go_end0 | refine bodyPost_ret (results_none rfl _ _ _) rfl ?_
    rw [HS'.out]
    exact N2.out.done
  · have hc : ∃ k : Nat, c = (k : Int) ∧ k ≤ 1000000 := by
      rcases HC.out with e | e | e | e
      · exact absurd e h0
      · exact ⟨500, e, by decide⟩
      · exact ⟨501, e, by decide⟩
      · exact ⟨555, e, by decide⟩
    obtain ⟨k, rfl, hk⟩ := hc
    have HS' : Hid (p.pcommand V9 l = p.say (reply k)) := Lib.hid (by rw [HS.out, if_pos (by omega), Int.toNat_natCast])
    go_enter Tryz.func68, Tryz.ntmps68
    go_wp2_with fail
    refine (HP.out _ N0.out.env).mono ?_
    rintro e w1 ⟨rfl, hk1⟩
    have N1 := Lib.hid (N0.out.quiet (hk1.trans (laidV_keep w1 n a z) (fun _ _ h => h)))
    clear hk1
    go_wp2_with (refine step_laidV (by rfl) (.tmp 6) (.tmp 14) (by rfl) n a z (by rfl) (by rfl) ?_)
    refine (preply N1.out.rs N1.out.env k hk (by omega)).mono ?_
    rintro e w2 hd
    obtain ⟨rfl, F2, hN⟩ := N1.out.did hd
    have N2 := Lib.hid hN
    clear hd hN
    go_wp2_with fail
    (try simp only [Exit.inBlock, Exit.then])
    first | go_end0 | refine bodyPost_ret (results_none rfl _ _ _) rfl ?_
    rw [HS'.out]
    exact N2.out.done
end Go.Proofs.YtcjljldknekhiaaGreatDoor.Ln
