/-
  Several texts in one: J1 J2 J3.
-/
import Derived.Test.YtimoebicacnihaaGreatDoorKg4
import Derived.Test.YtimoebicacnihaaGreatDoorKg12
import Derived.Test.YtimoebicacnihaaGreatDoorKg13
import Derived.Test.YtimoebicacnihaaGreatDoorKg14
import Derived.Test.YtimoebicacnihaaGreatDoorKg10

section
/-
  Files in memory; what the program's Parse returns, for all bytes.
-/
namespace Go.Proofs.YtimoebicacnihaaGreatDoor.Ln
open Go.RowKit
set_option linter.unusedVariables false
set_option linter.unusedSimpArgs false

/-! ### A File's eight cells -/
def qC (m : Ml) (rx : Option Addr) (rn rc : Nat) (bx : Option Addr) (bn bc : Nat) (y : Option Addr) (k c : Nat) (g : Int) : Array Value := #[.int .i64 m.id, .int .i64 m.parent, .int .i64 m.born, .string m.frm, .slice rx rn rc, .slice bx bn bc, .slice y k c, .int .i64 g]
def zQ : Array Value := #[.int .i64 0, .int .i64 0, .int .i64 0, .string { data := #[] }, .slice none 0 0, .slice none 0 0, .slice none 0 0, .int .i64 0]
theorem infoQ : (Tryz.prog.info? 31).map (·.size) = some 8 := by kernel_rfl
theorem one_q (i p b : Int) (f : ByteArray) (rx : Option Addr) (rn rc : Nat) (bx : Option Addr) (bn bc : Nat) (y : Option Addr) (k c : Nat) (g : Int) : (#[Value.int .i64 i, .int .i64 p, .int .i64 b, .string f, .slice rx rn rc, .slice bx bn bc, .slice y k c, .int .i64 g] : Array Value).all (·.oneCell') = true := by simp [Value.oneCell']
theorem ret_q {fn : Func} {p u : Tmp} (h : fn.results = #[.cell p 31, .tmp u]) (tmps : Array Value) (w : World) (g : Nat) {cs : Array Value} (hp : tmps.getD p undef = .pointer (some ⟨g, 0, none⟩)) (hg : At w g 31 cs ∧ cs.size = 8) :
    (results fn tmps).run Tryz.prog w = .ok (.tuple #[.agg cs, tmps.getD u undef]) w := by
  rw [results_cell_tmp h, hp]
  have := run_loadVar_row (P := Tryz.prog) w g 31 31 cs (0, 0) _ hg.1 Tryz.underlying31 rfl (by rw [hg.2]; exact infoQ)
  simp [asAddr, this, Result.andThen]
structure QAt (P : Nat → Prop) (w : World) (m : Ml) (L : List Mk) (rx : Option Addr) (rn rc : Nat) (bx : Option Addr) (bn bc : Nat) (y : Option Addr) (k c : Nat) : Prop where
  ml : MlAt P w m rx rn rc bx bn bc
  ms : MkP P w y L
  hk : k = L.length
  kc : k ≤ c
section
variable {P Q S : Nat → Prop} {w w' : World} {m : Ml} {L : List Mk} {rx bx y : Option Addr} {rn rc bn bc k c : Nat}
theorem QAt.keep (h : QAt P w m L rx rn rc bx bn bc y k c) (kp : Keep S w w') (hs : ∀ b, b < w.heap.size → P b → ¬ S b) : QAt P w' m L rx rn rc bx bn bc y k c := ⟨h.ml.keep kp hs, mk_keep h.ms kp hs, h.hk, h.kc⟩
theorem QAt.quiet (h : QAt P w m L rx rn rc bx bn bc y k c) (kp : Keep (fun _ => False) w w') : QAt P w' m L rx rn rc bx bn bc y k c := h.keep kp (fun _ _ _ h => h)
theorem QAt.mono (h : QAt P w m L rx rn rc bx bn bc y k c) (hq : ∀ b, b < w.heap.size → P b → Q b) : QAt Q w m L rx rn rc bx bn bc y k c := ⟨h.ml.mono hq, StP.mono h.ms hq, h.hk, h.kc⟩
end
theorem qat_zero (P : Nat → Prop) (w : World) : QAt P w noMl [] none 0 0 none 0 0 none 0 0 := ⟨⟨TxP.nil _ _ _, Bytes.nil _ _ _, rfl, rfl, Nat.le_refl _, Nat.le_refl _⟩, StP.nil _ _ _, rfl, Nat.le_refl _⟩
/-- What Parse answers. -/
def Parsed (bs : List Nat) (w : World) (e : Ending) (w' : World) : Prop :=
  ∃ m L rx rn rc bx bn bc y k c g, e = .returned (.tuple #[.agg (qC m rx rn rc bx bn bc y k c g), .bool (beginsB bs)]) ∧ QAt (fun b => w.heap.size ≤ b) w' m L rx rn rc bx bn bc y k c ∧ Keep (fun _ => False) w w' ∧
    (if beginsB bs = true then m = readMl (innerM bs) ∧ L = marksM (bs.drop ((innerM bs).length + 12)) ∧ g = (((innerM bs).length + 12 + 28 * L.length : Nat) : Int) else m = noMl ∧ L = [] ∧ g = 0)
theorem parsed_no {bs : List Nat} {w w' : World} (h : beginsB bs = false) (k : Keep (fun _ => False) w w') : Parsed bs w (.returned (.tuple #[.agg zQ, .bool false])) w' :=
  ⟨noMl, [], none, 0, 0, none, 0, 0, none, 0, 0, 0, by rw [h]; rfl, qat_zero _ _, k, by rw [h]; exact ⟨rfl, rfl, rfl⟩⟩
theorem begins_len {b : List Nat} (hb : ∀ c ∈ b, c < 256) (h : beginsB b = true) : (innerM b).length + 12 ≤ b.length := by
  obtain ⟨rest, e, _, e2, _⟩ := begins_form hb h
  have h1 := congrArg List.length e
  rw [List.length_append, record_length, ← e2] at h1
  omega
set_option maxHeartbeats 8000000 in
set_option maxRecDepth 100000 in
theorem parseQ {P : Nat → Prop} {w : World} (hE : Env w) (x : Option Addr) (n cap : Nat) (bs : List Nat) (hn : bs.length = n) (hc : n ≤ cap) (hl : n ≤ 1000000) (h : Bytes P w x bs) :
    Calls Tryz.prog 11 #[.slice x n cap] w (Parsed bs w) := by
  have kA := keep_new w (.cells #[.int .i64 0, .int .i64 0, .int .i64 0, .string { data := #[] }, .slice none 0 0, .slice none 0 0, .slice none 0 0, .int .i64 0] 31)
  have HD := Lib.hid (decodeC boxC linesC (hE.quiet kA) x n cap bs hn hc hl (h.quiet kA))
  have HZA : Hid (At (w.alloc (.cells #[.int .i64 0, .int .i64 0, .int .i64 0, .string { data := #[] }, .slice none 0 0, .slice none 0 0, .slice none 0 0, .int .i64 0] 31)) w.heap.size 31 zQ) := Lib.hid (At.new w _ _)
  have KA := Lib.hid kA
  have HX := Lib.hid (h.quiet kA)
  have HN := Lib.hid hn
  have HB8 := Lib.hid h.1
  clear h hn kA hE
  obtain ⟨A, hA⟩ : ∃ A, A = w.heap.size := ⟨_, rfl⟩
  have HA := Lib.hid hA
  go_enter Tryz.func11, Tryz.ntmps11
  go_wp2_with fail
  rw [← hA] at HZA ⊢
  clear hA
  refine HD.out.mono ?_
  rintro e w1 ⟨m, i, rx, rn, rc, bx, bn, bc, rfl, hM1, hk1, hif⟩
  obtain ⟨W, hW, kW, hAW, hsW⟩ := put_mail w1 m rx rn rc bx bn bc
  have hA1 := HZA.out.keep hk1 (fun h => h)
  have HAQ := Lib.hid (hA1.keep kW (fun h => h))
  have KW := Lib.hid ((KA.out.trans hk1 (fun _ _ h => h)).trans kW (fun _ _ h => h))
  have HXW := Lib.hid ((HX.out.quiet hk1).quiet kW)
  have HMW : Hid (MlAt (fun b => A + 1 ≤ b) W m rx rn rc bx bn bc) := Lib.hid ((hM1.quiet kW).mono (fun b _ hb => by
    have h1 : (w.alloc (.cells #[.int .i64 0, .int .i64 0, .int .i64 0, .string { data := #[] }, .slice none 0 0, .slice none 0 0, .slice none 0 0, .int .i64 0] 31)).heap.size = w.heap.size + 1 := by simp
    have := HA.out
    omega))
  have HZ1 := Lib.hid (mz_new w1)
  have HW := Lib.hid hW
  have hAL := hA1.lt
  have HWS : Hid (A + 1 ≤ W.heap.size) := Lib.hid (by omega)
  have HIF := Lib.hid hif
  obtain ⟨G, hG⟩ : ∃ G, G = w1.heap.size := ⟨_, rfl⟩
  rw [← hG] at hAW HZ1
  have HGG := Lib.hid hG
  have HMA := Lib.hid hAW
  clear HD HX HZA KA hM1 hk1 hif kW hsW hW hA1 hAL hG hAW
  obtain ⟨ok, hok⟩ : ∃ ok, ok = beginsB bs := ⟨_, rfl⟩
  rw [← hok]
  have HOK := Lib.hid hok
  clear hok
  cases ok with
  | false =>
    go_wp2_with (first
      | (rw [← HGG.out]; refine wpList_store_row (by rfl) 25 (.tmp 4) (.tmp 12) (by rfl) G (mlC m rx rn rc bx bn bc) (by rfl) (by rfl) 25 _ HZ1.out infoM rfl (one_ml _ _ _ _ _ _ _ _ _ _) ?_; rw [HGG.out, ← HW.out, ← HGG.out])
      | (refine wpList_store_row (by rfl) 31 (.tmp 2) (.tmp 17) (by rfl) A zQ (by rfl) (by rfl) 31 _ HAQ.out infoQ rfl (one_q _ _ _ _ _ _ _ _ _ _ _ _ _ _) ?_))
    (try simp only [Exit.inBlock, Exit.then])
    refine bodyPost_ret (ret_q (fn := Tryz.f11) (p := 2) (u := 3) rfl _ _ A rfl ⟨HAQ.out.setRow _, rfl⟩) rfl ?_
    exact parsed_no HOK.out.symm (KW.out.setRow (fun h => by have := HA.out; omega) _)
  | true =>
    have hif := HIF.out
    rw [← HOK.out, if_pos rfl] at hif
    obtain ⟨hm, hi⟩ := hif
    have hin : i ≤ n := by rw [hi, ← HN.out]; exact begins_len HB8.out HOK.out.symm
    have HMM := Lib.hid hm
    have HI := Lib.hid hi
    clear hm hi
    have i0 : (0 : Int) ≤ (i : Int) := by omega
    have i1 : (i : Int) ≤ (n : Int) := by omega
    obtain ⟨r1, r2⟩ := cut_drop x n cap i hin hc
    have hB := HXW.out.mid cap i n hin (by have := HN.out; omega) (by have := HN.out; omega)
    rw [List.take_of_length_le (by rw [HN.out]; omega)] at hB
    obtain ⟨xd, hxd⟩ : ∃ xd, xd = (if cap = i then x else x.map (fun b => b.add i)) := ⟨_, rfl⟩
    rw [← hxd] at r1 r2 hB
    have HB := Lib.hid hB
    have HDL : Hid ((bs.drop i).length = n - i) := Lib.hid (by rw [List.length_drop, HN.out])
    clear hB hxd
    go_wp2_with (rw [← HGG.out]; refine wpList_store_row (by rfl) 25 (.tmp 4) (.tmp 12) (by rfl) G (mlC m rx rn rc bx bn bc) (by rfl) (by rfl) 25 _ HZ1.out infoM rfl (one_ml _ _ _ _ _ _ _ _ _ _) ?_; rw [HGG.out, ← HW.out, ← HGG.out])
    refine (decodeK xd (n - i) (cap - i) (bs.drop i) HDL.out (by omega) (by omega) HB.out).mono ?_
    rintro e w2 ⟨y, k, c, g, hk, hg, hkc, rfl, hK, hk2⟩
    have K2 := Lib.hid (KW.out.trans hk2 (fun _ _ h => h))
    have HAQ2 := Lib.hid (HAQ.out.keep hk2 (fun h => h))
    have HQ2 : Hid (QAt (fun b => A + 1 ≤ b) w2 m (marksM (bs.drop i)) rx rn rc bx bn bc y k c) := Lib.hid ⟨HMW.out.quiet hk2, StP.mono hK (fun b _ hb => Nat.le_trans HWS.out hb), hk, hkc⟩
    have hkl : k ≤ 4096 := by rw [hk]; exact marksM_le _
    have HK := Lib.hid hk
    have HG := Lib.hid hg
    have hgb : g ≤ 114688 ∧ 0 ≤ g := by omega
    have hgb1 := hgb.1
    have hgb0 := hgb.2
    have hgw : IntKind.i64.wrap ((i : Int) + g) = (i : Int) + g := wrap_small _ (by omega) (by omega)
    obtain ⟨z0, z1, z2, z3, z4, z5⟩ := cells_of (HMA.out.keep hk2 (fun h => h))
    clear hK hk2 hk hg r1 r2 hgb
    go_wp2_with (refine wpList_store_row (by rfl) 31 (.tmp 2) (.tmp 30) (by rfl) A (qC m rx rn rc bx bn bc y k c ((i : Int) + g)) (by rfl) (by rfl) 31 _ HAQ2.out infoQ rfl (one_q _ _ _ _ _ _ _ _ _ _ _ _ _ _) ?_)
    (try simp only [Exit.inBlock, Exit.then])
    refine bodyPost_ret (ret_q (fn := Tryz.f11) (p := 2) (u := 3) rfl _ _ A rfl ⟨HAQ2.out.setRow _, rfl⟩) rfl ?_
    have kf : Keep (fun k => k = A) w2 (w2.setRow A (qC m rx rn rc bx bn bc y k c ((i : Int) + g))) := (Keep.refl (fun k => k = A) w2).setRow (fun _ => rfl) _
    refine ⟨m, marksM (bs.drop i), rx, rn, rc, bx, bn, bc, y, k, c, (i : Int) + g, by rw [← HOK.out]; rfl, (HQ2.out.keep kf (fun b _ hb e => by omega)).mono (fun b _ hb => by have := HA.out; omega), K2.out.setRow (fun h => by have := HA.out; omega) _, ?_⟩
    rw [← HOK.out, if_pos rfl, ← HI.out]
    refine ⟨HMM.out, rfl, ?_⟩
    rw [HG.out, HK.out]
    omega
end Go.Proofs.YtimoebicacnihaaGreatDoor.Ln
end

section
/-
  What the program says of a File: its fates, who is open, the greatest crashes, over, due.
-/
namespace Go.Proofs.YtimoebicacnihaaGreatDoor.Ln
open Go.RowKit
set_option linter.unusedVariables false
set_option linter.unusedSimpArgs false

/-! ### Fates -/
set_option maxHeartbeats 4000000 in
set_option maxRecDepth 100000 in
theorem fatesQ {P : Nat → Prop} {w : World} {m : Ml} {L : List Mk} {rx bx y : Option Addr} {rn rc bn bc k c : Nat} (g : Int) (h : QAt P w m L rx rn rc bx bn bc y k c) (hl : k ≤ 1000000000) (hr : rn ≤ 8) :
    Calls Tryz.prog 18 #[.agg (qC m rx rn rc bx bn bc y k c g)] w (FatP rn L w) := by
  have k0 := keep_new w (.cells (qC m rx rn rc bx bn bc y k c g) 31)
  have HQ := Lib.hid (h.quiet k0)
  have K0 := Lib.hid k0
  have HF := Lib.hid (fatesC (rn : Int) y k c L h.hk hl (mk_quiet h.ms k0))
  have e : cntF (rn : Int) = rn := by unfold cntF; omega
  rw [e] at HF
  clear h k0 e
  unfold qC at *
  go_enter Tryz.func18, Tryz.ntmps18
  go_wp2_with fail
  refine HF.out.mono ?_
  rintro e w1 ⟨gg, hg, rfl, hR, hk1⟩
  have K1 := Lib.hid (K0.out.trans hk1 (fun _ _ h => h))
  have HR := Lib.hid hR
  have HG : Hid (w.heap.size ≤ gg) := Lib.hid (Nat.le_trans K0.out.size hg)
  clear hk1 hR hg
  go_wp2
  go_ret
  exact ⟨gg, HG.out, rfl, HR.out, K1.out⟩

/-! ### A row of fates that stands still -/
structure Fs (w wr : World) (g : Nat) (F : List Ft) : Prop where
  row : FtR wr g F
  kp : Keep (fun _ => False) w wr
theorem Fs.quiet {w wr w' : World} {g : Nat} {F : List Ft} (h : Fs w wr g F) (k : Keep (fun _ => False) wr w') : Fs w w' g F := ⟨StR.keep h.row k (fun h => h), h.kp.trans k (fun _ _ h => h)⟩
theorem Fs.at {w wr : World} {g : Nat} {F : List Ft} (h : Fs w wr g F) (i : Nat) (hi : i < F.length) : wr.cell? ⟨g, i * 5, none⟩ = some (.int .i64 F[i].st) ∧ wr.cell? ⟨g, i * 5 + 1, none⟩ = some (.int .i64 F[i].tries) ∧ wr.cell? ⟨g, i * 5 + 2, none⟩ = some (.int .i64 F[i].next) ∧ wr.cell? ⟨g, i * 5 + 3, none⟩ = some (.int .i64 F[i].crashes) ∧ wr.cell? ⟨g, i * 5 + 4, none⟩ = some (.bool F[i].op) := by
  obtain ⟨b, off, rfl, _, hx, c0, c1, c2, c3, c4⟩ := ft_at (StR.row h.row) i hi
  cases hx
  simp only [Nat.zero_add] at c0 c1 c2 c3 c4
  exact ⟨c0, c1, c2, c3, c4⟩
theorem takeSnoc {α : Type} (F : List α) (i : Nat) (hi : i < F.length) : F.take (i + 1) = F.take i ++ [F[i]] := List.take_succ_eq_append_getElem hi

/-! ### Crashes -/
set_option maxHeartbeats 4000000 in
set_option maxRecDepth 100000 in
theorem crashesQ {P : Nat → Prop} {w : World} {m : Ml} {L : List Mk} {rx bx y : Option Addr} {rn rc bn bc k c : Nat} (g : Int) (h : QAt P w m L rx rn rc bx bn bc y k c) (hl : k ≤ 1000000000) (hr : rn ≤ 8) :
    Calls Tryz.prog 21 #[.agg (qC m rx rn rc bx bn bc y k c g)] w (Quiet (.int .i64 (crashF (fatesM rn L))) w) := by
  have k0 := keep_new w (.cells (qC m rx rn rc bx bn bc y k c g) 31)
  have HF := Lib.hid (fatesQ g (h.quiet k0) hl hr)
  have K0 := Lib.hid k0
  obtain ⟨F, hF⟩ : ∃ F, F = fatesM rn L := ⟨_, rfl⟩
  have HFl : Hid (F.length = rn) := Lib.hid (by rw [hF, fatesM_length])
  have HFP : Hid (∀ W e W', FatP rn L W e W' → ∃ gg, e = .returned (.slice (some ⟨gg, 0, none⟩) rn rn) ∧ FtR W' gg F ∧ Keep (fun _ => False) W W') := Lib.hid (fun W e W' ⟨gg, _, he, hR, hk⟩ => ⟨gg, he, by rw [hF]; exact hR, hk⟩)
  rw [← hF]
  clear h k0 hF
  unfold qC at *
  go_enter Tryz.func21, Tryz.ntmps21
  go_wp2_with fail
  refine HF.out.mono ?_
  rintro e w1 h1
  obtain ⟨gg, rfl, hR, hk1⟩ := HFP.out _ _ _ h1
  have FS : Hid (Fs w w1 gg F) := Lib.hid ⟨hR, K0.out.trans hk1 (fun _ _ h => h)⟩
  clear hk1 hR h1
  go_wp2
  go_loopw [3, 9] (fun v i wr => ∃ k : Nat, k ≤ rn ∧ v = .int .i64 (crashF (F.take k)) ∧ i = .int .i64 (k : Int) ∧ Hid (Fs w wr gg F)) (fun _ i _ => rn - (intOf i).toNat)
  case atStart => exact ⟨0, by omega, rfl, rfl, FS.out⟩
  case round =>
    obtain ⟨k, hk, rfl, rfl, FK⟩ := hrel
    by_cases hlt : (k : Int) < (rn : Int)
    · have hkl : k < F.length := by have := HFl.out; omega
      have k0 : (0 : Int) ≤ (k : Int) := by omega
      obtain ⟨c0, c1, c2, c3, c4⟩ := FK.out.at k hkl
      have hs : crashF (F.take (k + 1)) = max (crashF (F.take k)) F[k].crashes := by rw [takeSnoc F k hkl, crashF_snoc]
      obtain ⟨f, hf⟩ : ∃ f, f = F[k] := ⟨_, rfl⟩
      rw [← hf] at c0 c1 c2 c3 c4 hs
      have HS := Lib.hid hs
      obtain ⟨cc, hcc⟩ : ∃ cc, cc = crashF (F.take k) := ⟨_, rfl⟩
      rw [← hcc] at HS
      have FX : Hid (Fs w (wr.alloc (.cells #[.int .i64 f.st, .int .i64 f.tries, .int .i64 f.next, .int .i64 f.crashes, .bool f.op] 46)) gg F) := Lib.hid (FK.out.quiet (keep_new wr _))
      rw [← hcc]
      clear hf hs hcc
      by_cases hm : cc < f.crashes
      · have e : (if f.crashes > cc then f.crashes else cc) = f.crashes := if_pos hm
        go_wp2
        go_roundw
        case rel => exact ⟨k + 1, by omega, by rw [HS.out], by go_num, FX⟩
        case measure => simp [intOf]; omega
      · have e : (if f.crashes > cc then f.crashes else cc) = cc := if_neg hm
        go_wp2
        go_roundw
        case rel => exact ⟨k + 1, by omega, by rw [HS.out], by go_num, FX⟩
        case measure => simp [intOf]; omega
    · have hkn : k = rn := by omega
      have e : F.take k = F := List.take_of_length_le (by rw [HFl.out]; omega)
      rw [e]
      clear e
      go_wp2
      go_ret
      exact ⟨rfl, FK.out.kp⟩

/-! ### Over -/
set_option maxHeartbeats 4000000 in
set_option maxRecDepth 100000 in
theorem overQ {P : Nat → Prop} {w : World} {m : Ml} {L : List Mk} {rx bx y : Option Addr} {rn rc bn bc k c : Nat} (g : Int) (h : QAt P w m L rx rn rc bx bn bc y k c) (hl : k ≤ 1000000000) (hr : rn ≤ 8) :
    Calls Tryz.prog 22 #[.agg (qC m rx rn rc bx bn bc y k c g)] w (Quiet (.bool (overF (fatesM rn L))) w) := by
  have k0 := keep_new w (.cells (qC m rx rn rc bx bn bc y k c g) 31)
  have HF := Lib.hid (fatesQ g (h.quiet k0) hl hr)
  have K0 := Lib.hid k0
  obtain ⟨F, hF⟩ : ∃ F, F = fatesM rn L := ⟨_, rfl⟩
  have HFl : Hid (F.length = rn) := Lib.hid (by rw [hF, fatesM_length])
  have HFP : Hid (∀ W e W', FatP rn L W e W' → ∃ gg, e = .returned (.slice (some ⟨gg, 0, none⟩) rn rn) ∧ FtR W' gg F ∧ Keep (fun _ => False) W W') := Lib.hid (fun W e W' ⟨gg, _, he, hR, hk⟩ => ⟨gg, he, by rw [hF]; exact hR, hk⟩)
  rw [← hF]
  clear h k0 hF
  unfold qC at *
  go_enter Tryz.func22, Tryz.ntmps22
  go_wp2_with fail
  refine HF.out.mono ?_
  rintro e w1 h1
  obtain ⟨gg, rfl, hR, hk1⟩ := HFP.out _ _ _ h1
  have FS : Hid (Fs w w1 gg F) := Lib.hid ⟨hR, K0.out.trans hk1 (fun _ _ h => h)⟩
  clear hk1 hR h1
  go_wp2
  go_loopw [8] (fun i wr => ∃ k : Nat, k ≤ rn ∧ i = .int .i64 (k : Int) ∧ Hid (overF (F.take k) = true) ∧ Hid (Fs w wr gg F)) (fun i _ => rn - (intOf i).toNat)
  case atStart => exact ⟨0, by omega, rfl, Lib.hid rfl, FS.out⟩
  case round =>
    obtain ⟨k, hk, rfl, HO, FK⟩ := hrel
    by_cases hlt : (k : Int) < (rn : Int)
    · have hkl : k < F.length := by have := HFl.out; omega
      have k0 : (0 : Int) ≤ (k : Int) := by omega
      obtain ⟨c0, c1, c2, c3, c4⟩ := FK.out.at k hkl
      obtain ⟨f, hf⟩ : ∃ f, f = F[k] := ⟨_, rfl⟩
      rw [← hf] at c0 c1 c2 c3 c4
      have HS : Hid (overF (F.take (k + 1)) = decide (f.st ≠ 0)) := Lib.hid (by rw [takeSnoc F k hkl, overF_snoc, HO.out, Bool.true_and, hf])
      have HA : Hid (f.st = 0 → overF F = false) := Lib.hid (fun h0 => by
        cases ho : overF F with
        | false => rfl
        | true =>
          have := List.all_eq_true.1 ho F[k] (List.getElem_mem hkl)
          rw [← hf, h0] at this
          exact absurd this (by decide))
      have FX : Hid (Fs w (wr.alloc (.cells #[.int .i64 f.st, .int .i64 f.tries, .int .i64 f.next, .int .i64 f.crashes, .bool f.op] 46)) gg F) := Lib.hid (FK.out.quiet (keep_new wr _))
      clear hf
      obtain ⟨st, tr, nx, cr, op⟩ := f
      simp only at c0 c1 c2 c3 c4 FX HS HA
      by_cases hm : st = 0
      · subst hm
        have HA0 := Lib.hid (HA.out rfl)
        go_wp2
        go_ret
        exact ⟨by rw [HA0.out]; rfl, FX.out.kp⟩
      · have hd : decide (st = 0) = false := decide_eq_false hm
        have HT : Hid (overF (F.take (k + 1)) = true) := Lib.hid (by rw [HS.out]; exact decide_eq_true hm)
        go_wp2
        go_roundw
        case rel => exact ⟨k + 1, by omega, by go_num, HT, FX⟩
        case measure => simp [intOf]; omega
    · have hkn : k = rn := by omega
      have e : F.take k = F := List.take_of_length_le (by rw [HFl.out]; omega)
      rw [e] at HO
      clear e
      go_wp2
      go_ret
      exact ⟨by rw [HO.out]; rfl, FK.out.kp⟩

/-! ### Due -/
set_option maxHeartbeats 4000000 in
set_option maxRecDepth 100000 in
theorem dueQ {P : Nat → Prop} {w : World} {m : Ml} {L : List Mk} {rx bx y : Option Addr} {rn rc bn bc k c : Nat} (g : Int) (h : QAt P w m L rx rn rc bx bn bc y k c) (hl : k ≤ 1000000000) (hr : rn ≤ 8) :
    Calls Tryz.prog 23 #[.agg (qC m rx rn rc bx bn bc y k c g)] w (Quiet (.int .i64 (dueF (fatesM rn L))) w) := by
  have k0 := keep_new w (.cells (qC m rx rn rc bx bn bc y k c g) 31)
  have HF := Lib.hid (fatesQ g (h.quiet k0) hl hr)
  have K0 := Lib.hid k0
  obtain ⟨F, hF⟩ : ∃ F, F = fatesM rn L := ⟨_, rfl⟩
  have HFl : Hid (F.length = rn) := Lib.hid (by rw [hF, fatesM_length])
  have HFP : Hid (∀ W e W', FatP rn L W e W' → ∃ gg, e = .returned (.slice (some ⟨gg, 0, none⟩) rn rn) ∧ FtR W' gg F ∧ Keep (fun _ => False) W W') := Lib.hid (fun W e W' ⟨gg, _, he, hR, hk⟩ => ⟨gg, he, by rw [hF]; exact hR, hk⟩)
  rw [← hF]
  clear h k0 hF
  unfold qC at *
  go_enter Tryz.func23, Tryz.ntmps23
  go_wp2_with fail
  refine HF.out.mono ?_
  rintro e w1 h1
  obtain ⟨gg, rfl, hR, hk1⟩ := HFP.out _ _ _ h1
  have FS : Hid (Fs w w1 gg F) := Lib.hid ⟨hR, K0.out.trans hk1 (fun _ _ h => h)⟩
  clear hk1 hR h1
  go_wp2
  go_loopw [3, 9] (fun v i wr => ∃ k : Nat, k ≤ rn ∧ v = .int .i64 (dueF (F.take k)) ∧ i = .int .i64 (k : Int) ∧ Hid (Fs w wr gg F)) (fun _ i _ => rn - (intOf i).toNat)
  case atStart => exact ⟨0, by omega, rfl, rfl, FS.out⟩
  case round =>
    obtain ⟨k, hk, rfl, rfl, FK⟩ := hrel
    by_cases hlt : (k : Int) < (rn : Int)
    · have hkl : k < F.length := by have := HFl.out; omega
      have k0 : (0 : Int) ≤ (k : Int) := by omega
      obtain ⟨c0, c1, c2, c3, c4⟩ := FK.out.at k hkl
      have hs : dueF (F.take (k + 1)) = if F[k].st = 0 ∧ F[k].op = false ∧ F[k].next < dueF (F.take k) then F[k].next else dueF (F.take k) := by rw [takeSnoc F k hkl, dueF_snoc]
      obtain ⟨f, hf⟩ : ∃ f, f = F[k] := ⟨_, rfl⟩
      rw [← hf] at c0 c1 c2 c3 c4 hs
      obtain ⟨cc, hcc⟩ : ∃ cc, cc = dueF (F.take k) := ⟨_, rfl⟩
      rw [← hcc] at hs
      have HS := Lib.hid hs
      have FX : Hid (Fs w (wr.alloc (.cells #[.int .i64 f.st, .int .i64 f.tries, .int .i64 f.next, .int .i64 f.crashes, .bool f.op] 46)) gg F) := Lib.hid (FK.out.quiet (keep_new wr _))
      rw [← hcc]
      clear hf hs hcc
      obtain ⟨st, tr, nx, cr, op⟩ := f
      simp only at c0 c1 c2 c3 c4 FX HS
      by_cases h0 : st = 0
      · subst h0
        cases op with
        | true =>
          have HE : Hid (dueF (F.take (k + 1)) = cc) := Lib.hid (by rw [HS.out, if_neg (fun h => by cases h.2.1)])
          go_wp2
          go_roundw
          case rel => exact ⟨k + 1, by omega, by rw [HE.out], by go_num, FX⟩
          case measure => simp [intOf]; omega
        | false =>
          by_cases hm : nx < cc
          · have HE : Hid (dueF (F.take (k + 1)) = nx) := Lib.hid (by rw [HS.out, if_pos ⟨rfl, rfl, hm⟩])
            go_wp2
            go_roundw
            case rel => exact ⟨k + 1, by omega, by rw [HE.out]; congr 1; omega, by go_num, FX⟩
            case measure => simp [intOf]; omega
          · have HE : Hid (dueF (F.take (k + 1)) = cc) := Lib.hid (by rw [HS.out, if_neg (fun h => hm h.2.2)])
            go_wp2
            go_roundw
            case rel => exact ⟨k + 1, by omega, by rw [HE.out]; congr 1; omega, by go_num, FX⟩
            case measure => simp [intOf]; omega
      · have d0 : decide (st = 0) = false := decide_eq_false h0
        have HE : Hid (dueF (F.take (k + 1)) = cc) := Lib.hid (by rw [HS.out, if_neg (fun h => h0 h.1)])
        go_wp2
        go_roundw
        case rel => exact ⟨k + 1, by omega, by rw [HE.out], by go_num, FX⟩
        case measure => simp [intOf]; omega
    · have hkn : k = rn := by omega
      have e : F.take k = F := List.take_of_length_le (by rw [HFl.out]; omega)
      rw [e]
      clear e
      go_wp2
      go_ret
      exact ⟨rfl, FK.out.kp⟩
end Go.Proofs.YtimoebicacnihaaGreatDoor.Ln
end

section
/-
  Rows of numbers of one's own; who is open, as the program says it; the document's Ints of equal rows.
-/
namespace Go.Proofs.YtimoebicacnihaaGreatDoor.Ln
open Go.RowKit
set_option linter.unusedVariables false
set_option linter.unusedSimpArgs false

def intL (i : Int) : List Value := [.int .i64 i]
theorem intL_len (i : Int) : (intL i).length = 1 := rfl
theorem intL_one (i : Int) : ∀ u ∈ intL i, u.oneCell' = true := by simp [intL, Value.oneCell']
abbrev IntP := StP 1 intL
abbrev IntO := StO 3 1 intL
section
variable {P : Nat → Prop} {w w' : World} {x : Option Addr} {L : List Int}
theorem int_at (h : IntP P w x L) (i : Nat) (hi : i < L.length) : ∃ b off, P b ∧ b < w.heap.size ∧ x = some ⟨b, off, none⟩ ∧ w.cell? ⟨b, off + i, none⟩ = some (.int .i64 L[i]) := by
  obtain ⟨b, off, h1, h2, h3, h4⟩ := h i L[i] (List.getElem?_eq_getElem hi)
  have := h4 0 (by decide)
  rw [Nat.mul_one, Nat.add_zero] at this
  exact ⟨b, off, h1, h2, h3, this⟩
theorem int_quiet (h : IntP P w x L) (k : Keep (fun _ => False) w w') : IntP P w' x L := StP.keep h intL_len k (fun _ _ _ h => h)
theorem int_keep {S : Nat → Prop} (h : IntP P w x L) (k : Keep S w w') (hs : ∀ b, b < w.heap.size → P b → ¬ S b) : IntP P w' x L := StP.keep h intL_len k hs
end
theorem app_int {P : Nat → Prop} {w : World} {v : Value} {q : Option Nat} {L : List Int} (h : IntO w v q L) {x : Option Addr} {n c : Nat} {M : List Int} (hn : n = M.length) (hM : IntP P w x M) (ty : TypeId) (hl : L.length + n ≤ 1000000) :
    ∃ y k cap q' w', (Builtin.append_ #[44, 44] ty #[v, .slice x n c]).run Tryz.prog w = .ok (.slice y k cap) w' ∧ k = (L ++ M).length ∧ IntO w' (.slice y k cap) q' (L ++ M) ∧ Keep (fun k => q = some k) w w' ∧ New w q q' := by
  obtain ⟨i0, hi, hz0, hz1, hz2⟩ := info_parts info3
  have hsrc : Src Tryz.prog i0.size 44 (.slice x n c) n (cellsG intL M) w := by rw [hz1]; exact StP.src intL_len intL_one Tryz.underlying44 hM hn
  have hM' : MidG 3 i0.size w v q L.length (cellsG intL L) := by rw [hz1]; exact h
  obtain ⟨y, k, cap, q', w', hr, h2, h3, h4⟩ := run_append_midG (t := 44) ty Tryz.underlying44 hi hz0 (by rw [hz1]; rfl) (by rw [hz1]; decide) (by rw [hz2]; decide) w v q L.length (cellsG intL L) hM' _ n (cellsG intL M) hsrc (by omega)
  rw [hz1, hn, ← cellsG_append, ← List.length_append] at h2
  obtain ⟨_, _, hv, _⟩ := h2.shape
  injection hv with e1 e2 e3
  exact ⟨y, k, cap, q', w', hr, e2, h2, h3, h4⟩
theorem wpList_app_int {P : Nat → Prop} {w : World} {ops : Array Oper} {rest : List Oper} {o : Oper} {a : Act} {Q : Exit → Act → World → Prop} (hgd : o.guard = none) (s t : Operand)
    (ho : o.op = .call { callee := .builtin .append, args := #[s, t], argTypes := #[44, 44] })
    (v : Value) (hs : a.eval s = v) (q : Option Nat) (L : List Int) (h : IntO w v q L) (x : Option Addr) (n c : Nat) (hx : a.eval t = .slice x n c) (M : List Int) (hn : n = M.length) (hM : IntP P w x M) (hl : L.length + n ≤ 1000000)
    (hK : ∀ y k cap q' w', Hid (k = (L ++ M).length) → IntO w' (.slice y k cap) q' (L ++ M) → Keep (fun k => q = some k) w w' → New w q q' → wpList Tryz.prog ops Q rest (a.put o.dst (.slice y k cap)) w') :
    wpList Tryz.prog ops Q (o :: rest) a w := by
  refine wpList_plain hgd fun K hK' => ?_
  obtain ⟨y, k, cap, q', w', hr, h1, h2, h3, h4⟩ := app_int (c := c) h hn hM o.type hl
  exact wp_append_runB ho hs hx hr (hK' _ _ (hK y k cap q' w' (Lib.hid h1) h2 h3 h4))
theorem int_one (w : World) (k : Int) : IntP (fun b => b = w.heap.size) (w.alloc (.cells #[.int .i64 k] 3)) (some ⟨w.heap.size, 0, none⟩) [k] := fun i t ht => by
  have hA := At.new w 3 #[.int .i64 k]
  rcases i with _ | i
  · have : t = k := by simpa using ht.symm
    subst this
    refine ⟨w.heap.size, 0, rfl, hA.lt, rfl, fun j hj => ?_⟩
    rw [show (0 : Nat) + 0 * 1 + j = j by omega]
    refine (hA.cell j).trans ?_
    show (intL t).toArray[j]? = _
    simp
  · simp at ht
/-- A row of numbers of one's own, grown number by number. -/
structure Io (w wr : World) (y : Option Addr) (n c : Nat) (q : Option Nat) (L : List Int) : Prop where
  own : IntO wr (.slice y n c) q L
  new : ∀ b, q = some b → w.heap.size ≤ b
  kp : Keep (fun _ => False) w wr
theorem Io.start {w wr : World} (k : Keep (fun _ => False) w wr) (y : Option Addr) : Io w wr y 0 0 none [] := ⟨StO.empty _ _ _ _ _, fun b h => (by cases h), k⟩
theorem Io.quiet {w wr w' : World} {y : Option Addr} {n c : Nat} {q : Option Nat} {L : List Int} (h : Io w wr y n c q L) (k : Keep (fun _ => False) wr w') : Io w w' y n c q L := ⟨MidG.keep h.own k (fun _ _ h => h), h.new, h.kp.trans k (fun _ _ h => h)⟩
theorem Io.app {w wr w' : World} {y y' : Option Addr} {n c n' c' : Nat} {q q' : Option Nat} {L M : List Int} (h : Io w wr y n c q L) (ho : IntO w' (.slice y' n' c') q' (L ++ M)) (kp : Keep (fun j => q = some j) wr w') (hn : New wr q q') : Io w w' y' n' c' q' (L ++ M) :=
  ⟨ho, fun b hb => by
    rcases hn b hb with h1 | h1
    · exact h.new b h1
    · exact Nat.le_trans h.kp.size h1, h.kp.trans kp (fun i hi e => by have := h.new i e; omega)⟩
theorem Io.row {w wr : World} {y : Option Addr} {n c : Nat} {q : Option Nat} {L : List Int} (h : Io w wr y n c q L) : n = L.length ∧ n ≤ c ∧ IntP (fun b => q = some b) wr y L := by
  obtain ⟨x, c', hv, hc, hp⟩ := StO.row intL_len h.own
  injection hv with e1 e2 e3
  subst e1 e3
  exact ⟨e2, by omega, hp⟩

/-! ### Who is open -/
theorem fold_ended : ∀ (L : List Mk) (f : Ft), (f.st ≠ 0 → f.op = false) → (L.foldl stepF f).st ≠ 0 → (L.foldl stepF f).op = false
  | [], f, h => h
  | k :: L, f, h => fold_ended L (stepF f k) (step_open h k)
theorem fates_ended (N : Nat) (L : List Mk) (i : Nat) (hi : i < (fatesM N L).length) : (fatesM N L)[i].st ≠ 0 → (fatesM N L)[i].op = false := by
  have h := fatesM_own N L i (by rwa [fatesM_length] at hi)
  have e : (fatesM N L)[i] = (fatesM N L).getD i ft0 := by simp [List.getD_eq_getElem?_getD, hi]
  rw [e, h]
  exact fold_ended _ _ (fun h => absurd rfl h)
def openI (F : List Ft) : List Int := (openF F).map fun (i : Nat) => (i : Int)
theorem openI_snoc (F : List Ft) (f : Ft) : openI (F ++ [f]) = openI F ++ (if f.st = 0 ∧ f.op = true then [(F.length : Int)] else []) := by
  unfold openI
  rw [openF_snoc, List.map_append]
  congr 1
  split <;> rfl
theorem openI_len (F : List Ft) : (openI F).length ≤ F.length := by
  unfold openI openF
  rw [List.length_map]
  exact Nat.le_trans (List.length_filter_le _ _) (by simp)
/-- What Open answers. -/
def Opened (F : List Ft) (w : World) (e : Ending) (w' : World) : Prop := ∃ z n c, n = (openI F).length ∧ n ≤ c ∧ e = .returned (.slice z n c) ∧ IntP (fun b => w.heap.size ≤ b) w' z (openI F) ∧ Keep (fun _ => False) w w'
set_option maxHeartbeats 8000000 in
set_option maxRecDepth 100000 in
theorem openQ {P : Nat → Prop} {w : World} {m : Ml} {L : List Mk} {rx bx y : Option Addr} {rn rc bn bc k c : Nat} (g : Int) (h : QAt P w m L rx rn rc bx bn bc y k c) (hl : k ≤ 1000000000) (hr : rn ≤ 8) :
    Calls Tryz.prog 20 #[.agg (qC m rx rn rc bx bn bc y k c g)] w (Opened (fatesM rn L) w) := by
  have k0 := keep_new w (.cells (qC m rx rn rc bx bn bc y k c g) 31)
  have HF := Lib.hid (fatesQ g (h.quiet k0) hl hr)
  have K0 := Lib.hid k0
  have HEn := Lib.hid (fates_ended rn L)
  obtain ⟨F, hF⟩ : ∃ F, F = fatesM rn L := ⟨_, rfl⟩
  have HFl : Hid (F.length = rn) := Lib.hid (by rw [hF, fatesM_length])
  have HFP : Hid (∀ W e W', FatP rn L W e W' → ∃ gg, e = .returned (.slice (some ⟨gg, 0, none⟩) rn rn) ∧ FtR W' gg F ∧ Keep (fun _ => False) W W') := Lib.hid (fun W e W' ⟨gg, _, he, hR, hk⟩ => ⟨gg, he, by rw [hF]; exact hR, hk⟩)
  rw [← hF] at HEn ⊢
  clear h k0 hF
  unfold qC at *
  go_enter Tryz.func20, Tryz.ntmps20
  go_wp2_with fail
  refine HF.out.mono ?_
  rintro e w1 h1
  obtain ⟨gg, rfl, hR, hk1⟩ := HFP.out _ _ _ h1
  have FR : Hid (FtR w1 gg F) := Lib.hid hR
  have K1 : Hid (Keep (fun _ => False) w w1) := Lib.hid (K0.out.trans hk1 (fun _ _ h => h))
  clear hk1 hR h1
  go_wp2
  go_loopw [3, 9] (fun v i wr => ∃ (k : Nat) (z : Option Addr) (n c : Nat) (q : Option Nat), k ≤ rn ∧ v = .slice z n c ∧ i = .int .i64 (k : Int) ∧ Hid (Io w1 wr z n c q (openI (F.take k)))) (fun _ i _ => rn - (intOf i).toNat)
  case atStart => exact ⟨0, none, 0, 0, none, by omega, rfl, rfl, Lib.hid (Io.start (Keep.refl _ _) none)⟩
  case round =>
    obtain ⟨k, z, n, c, q, hk, rfl, rfl, G⟩ := hrel
    have FK : Hid (Fs w wr gg F) := Lib.hid ⟨StR.keep FR.out G.out.kp (fun h => h), K1.out.trans G.out.kp (fun _ _ h => h)⟩
    by_cases hlt : (k : Int) < (rn : Int)
    · have hkl : k < F.length := by have := HFl.out; omega
      have k0 : (0 : Int) ≤ (k : Int) := by omega
      obtain ⟨c0, c1, c2, c3, c4⟩ := FK.out.at k hkl
      have hend := HEn.out k hkl
      have hs : openI (F.take (k + 1)) = openI (F.take k) ++ (if F[k].st = 0 ∧ F[k].op = true then [((F.take k).length : Int)] else []) := by rw [takeSnoc F k hkl, openI_snoc]
      have hkt : (F.take k).length = k := by rw [List.length_take]; omega
      rw [hkt] at hs
      have HOL : Hid ((openI (F.take k)).length ≤ k) := Lib.hid (by have := openI_len (F.take k); omega)
      obtain ⟨f, hf⟩ : ∃ f, f = F[k] := ⟨_, rfl⟩
      rw [← hf] at c0 c1 c2 c3 c4 hs hend
      have HS := Lib.hid hs
      have HE := Lib.hid hend
      clear hf hs hkt hend
      obtain ⟨st, tr, nx, cr, op⟩ := f
      simp only at c0 c1 c2 c3 c4 HS HE
      have G1 : Hid (Io w1 (wr.alloc (.cells #[.int .i64 st, .int .i64 tr, .int .i64 nx, .int .i64 cr, .bool op] 46)) z n c q (openI (F.take k))) := Lib.hid (G.out.quiet (keep_new wr _))
      cases op with
      | true =>
        have HE1 : Hid (openI (F.take (k + 1)) = openI (F.take k) ++ [(k : Int)]) := Lib.hid (by
          have h0 : st = 0 := Classical.byContradiction fun h => by have := HE.out h; cases this
          rw [HS.out, if_pos ⟨h0, rfl⟩])
        obtain ⟨X, hX⟩ : ∃ X, X = wr.alloc (.cells #[.int .i64 st, .int .i64 tr, .int .i64 nx, .int .i64 cr, .bool true] 46) := ⟨_, rfl⟩
        have HXs : Hid (X.heap.size = wr.heap.size + 1) := Lib.hid (by rw [hX]; simp)
        have hone := int_one X (k : Int)
        rw [HXs.out] at hone
        have H1 := Lib.hid hone
        rw [← hX] at G1
        have G2 : Hid (Io w1 (X.alloc (.cells #[.int .i64 (k : Int)] 3)) z n c q (openI (F.take k))) := Lib.hid (G1.out.quiet (keep_new X _))
        have HX := Lib.hid hX
        clear hX hone G1
        go_wp2_with
          (at_builtin
           rw [← HX.out]
           refine wpList_app_int (by rfl) (.tmp 16) (.tmp 18) (by rfl) (.slice z n c) (by rfl) q (openI (F.take k)) G2.out.own (some ⟨wr.heap.size + 1, 0, none⟩) 1 1 (by rfl) [(k : Int)] rfl H1.out (by have := HOL.out; omega) ?_
           intro y4 l4 c4 q4 w4 hl4 ho4 hk4 hn4
           have G4 := Lib.hid (G2.out.app ho4 hk4 hn4)
           rw [← HE1.out] at G4
           clear hl4 ho4 hk4 hn4)
        go_roundw
        case rel => exact ⟨k + 1, y4, l4, c4, q4, by omega, rfl, by go_num, G4⟩
        case measure => simp [intOf]; omega
      | false =>
        have HE1 : Hid (openI (F.take (k + 1)) = openI (F.take k)) := Lib.hid (by rw [HS.out, if_neg (fun h => by cases h.2), List.append_nil])
        rw [← HE1.out] at G1
        go_wp2
        go_roundw
        case rel => exact ⟨k + 1, z, n, c, q, by omega, rfl, by go_num, G1⟩
        case measure => simp [intOf]; omega
    · have hkn : k = rn := by omega
      have e : F.take k = F := List.take_of_length_le (by rw [HFl.out]; omega)
      rw [e] at G
      clear e
      obtain ⟨hn, hc, hp⟩ := G.out.row
      have HP := Lib.hid hp
      have HN := Lib.hid hn
      have HC := Lib.hid hc
      clear hn hc hp
      go_wp2
      go_ret
      exact ⟨z, n, c, HN.out, HC.out, rfl, StP.mono HP.out (fun b _ hb => Nat.le_trans K1.out.size (G.out.new b hb)), K1.out.trans G.out.kp (fun _ _ h => h)⟩

/-! ### The document's Ints, of equal rows -/
set_option maxHeartbeats 4000000 in
set_option maxRecDepth 100000 in
theorem intsC {P Q : Nat → Prop} {w : World} (x y : Option Addr) (l c d : Nat) (L : List Int) (hn : l = L.length) (hl : l ≤ 1000000000) (h : IntP P w x L) (h' : IntP Q w y L) :
    Calls Tryz.prog 19 #[.slice x l c, .slice y l d] w (Quiet (.bool true) w) := by
  have HX := Lib.hid h
  have HY := Lib.hid h'
  have HL := Lib.hid hn
  clear h h' hn
  go_enter Tryz.func19, Tryz.ntmps19
  go_wp2
  go_loopw [5] (fun i wr => ∃ (k : Nat), k ≤ l ∧ i = .int .i64 (k : Int) ∧ Hid (Keep (fun _ => False) w wr)) (fun i _ => l - (intOf i).toNat)
  case atStart => exact ⟨0, by omega, rfl, Lib.hid (Keep.refl _ w)⟩
  case round =>
    obtain ⟨k, hk, rfl, K⟩ := hrel
    by_cases hlt : (k : Int) < (l : Int)
    · have hkl : k < L.length := by have := HL.out; omega
      have k0 : (0 : Int) ≤ (k : Int) := by omega
      obtain ⟨b, off, _, _, hx, c0⟩ := int_at (int_quiet HX.out K.out) k hkl
      obtain ⟨b', off', _, _, hy, d0⟩ := int_at (int_quiet HY.out K.out) k hkl
      subst hx hy
      obtain ⟨m, hm⟩ : ∃ m, m = L[k] := ⟨_, rfl⟩
      rw [← hm] at c0 d0
      clear hm
      go_wp2
      go_quiet (fail)
      obtain ⟨W2, hW2⟩ : ∃ W2, W2 = wr.drewN nq := ⟨_, rfl⟩
      have K2 : Hid (Keep (fun _ => False) w W2) := Lib.hid (by rw [hW2]; exact keepDrewN K.out nq)
      rw [← hW2]
      clear hW2 c0 d0
      go_wp2
      go_roundw
      case rel => exact ⟨k + 1, by omega, by go_num, K2⟩
      case measure => simp [intOf]; omega
    · go_wp2
      go_ret
      exact ⟨rfl, K.out⟩
end Go.Proofs.YtimoebicacnihaaGreatDoor.Ln
end
