/-
  What the document's own command returns and does.
-/
import Derived.Test.YtcjljldknekhiaaGreatDoorKg2
import Derived.BigQuiet
namespace Go.Proofs.YtcjljldknekhiaaGreatDoor.Ln
open Go.RowKit
set_option linter.unusedVariables false
set_option linter.unusedSimpArgs false

set_option maxHeartbeats 4000000 in
set_option maxRecDepth 100000 in
theorem cmd_quit {F : Nat → Prop} {w : World} {g : Nat} {s : Se} (h : RS F w g s) (hok : Ok s) (ho : s.out.length + 2 ≤ 1000000) (l : ByteArray) (hl : l.size ≤ 512) (A : ByteArray) (z : Int) 
    (hv : ∀ w, Calls Tryz.prog 25 #[.string l] w fun e w' => e = .returned (.tuple #[.agg #[.string { data := #[81, 85, 73, 84] }, .string A, .int .i64 z], .int .i64 0]) ∧ Keep (fun _ => False) w w') :
    Calls Tryz.prog 38 #[.pointer (some ⟨g, 0, none⟩), .string l] w (Did F g (s.quit) w) := by
  have N0 := Lib.hid (Now.start h)
  have HV := Lib.hid hv
  have HOK := Lib.hid hok
  have hst := hok.st
  have hsz := hok.size
  have hl' : (l.size : Int) ≤ 512 := by omega
  clear h hv hok
  go_enter Tryz.func38, Tryz.ntmps38
  go_wp2_with fail
  refine (HV.out _).mono ?_
  rintro e w1 ⟨rfl, hk1⟩
  have N1 := Lib.hid (N0.out.quiet (hk1.trans (laidV_keep w1 { data := #[81, 85, 73, 84] } A z) (fun _ _ h => h)))
  obtain ⟨v0, v1, v2⟩ := laidV_cells w1 { data := #[81, 85, 73, 84] } A z
  obtain ⟨c0, c1, c4, c5, c8, fz⟩ := N1.out.cells
  have f4 := fz 4
  clear hk1 fz
  go_wp2_with (refine step_laidV (by rfl) (.tmp 4) (.tmp 15) (by rfl) { data := #[81, 85, 73, 84] } A z (by rfl) (by rfl) ?_)
  refine (refText 221 (by decide) (by decide) _).mono ?_
  rintro e w2 ⟨rfl, hk2⟩
  have N2 := Lib.hid (N1.out.quiet hk2)
  clear hk2
  go_wp2_with fail
  refine (refSay N2.out.rs _ (by have : s.out.length + 2 ≤ 1000000 := ho; omega)).mono ?_
  rintro e w3 hd
  obtain ⟨rfl, F3, hN3⟩ := N2.out.did hd
  have N3 := Lib.hid hN3
  clear hd hN3
  obtain ⟨_, _, _, _, _, fz3⟩ := N3.out.cells
  have f43 := fz3 4
  have c43 := N3.out.cells.2.2.1
  have N4 := Lib.hid (N3.out.put (s' := (s.say (reply 221)).to 6) 4 (.int .i64 6) (fun _ _ _ _ => rfl) rfl rfl rfl rfl)
  obtain ⟨wv, ov, rv, bv, qo, qb, xs, hR4⟩ := N4.out.rs
  obtain ⟨ox, oc, rfl, hoc⟩ := hR4.out.shape
  obtain ⟨_, _, _, d3, _⟩ := hR4.cells
  have hM4 : MidG 46 8 ((w3.setCell ⟨g, 4, none⟩ (.int .i64 6)).alloc (.cells (evCells 3 nobody nobody nilV nilV).toArray 46)) _ qo _ xs := hR4.out.keep ((Keep.refl (fun _ => False) _).alloc _) (fun _ _ h => h)
  have HM4 := Lib.hid hM4
  have HR4 := Lib.hid hR4
  have hs3 : (w3.setCell ⟨g, 4, none⟩ (.int .i64 6)).heap.size = w3.heap.size := by simp [World.setCell]
  have hN4 := cells_new (w3.setCell ⟨g, 4, none⟩ (.int .i64 6)) 46 (evCells 3 nobody nobody nilV nilV)
  rw [hs3] at hN4
  have HN4 := Lib.hid hN4
  clear hR4 hM4 fz3 hN4 hs3
  go_wp2_with (refine wpList_append_ev (by rfl) _ _ (by rfl) _ qo _ xs (by rfl) HM4.out ⟨w3.heap.size, 0, none⟩ (evCells 3 nobody nobody nilV nilV) (by rfl) (by rfl) HN4.out (EvAt.one (R := fun _ => True) (w := w) (e := .shut) rfl) (by simp [Se.to, Se.say]; omega) ?_; intro y k c q' w5 hM5 hK5 hN5; obtain ⟨c3', f3', F5, hR5, hK5', hm5⟩ := HR4.out.told (e := .shut) (R1 := fun _ => False) ((Keep.refl (fun _ => False) _).alloc _) (fun _ h => h.elim) (fun _ h => h.elim) rfl hM5 hK5 hN5; have HR5 := Lib.hid hR5; have HK5 := Lib.hid hK5'; have HM5 := Lib.hid hm5; clear hM5 hK5 hN5 hR5 hK5' hm5)
  (try simp only [Exit.inBlock, Exit.then])
  first | go_end0 | refine bodyPost_ret (results_none rfl _ _ _) rfl ?_
  have hfin := N4.out.did (e := .returned (.tuple #[])) ⟨rfl, F5, ⟨_, _, _, _, _, _, _, HR5.out⟩, HK5.out, HM5.out⟩
  obtain ⟨_, F6, hN6⟩ := hfin
  exact hN6.done

end Go.Proofs.YtcjljldknekhiaaGreatDoor.Ln
