/-
  What the laws ask first; the frame with the sizes handed on.
-/
import Derived.Test.YtjmjcdigoblkjaaDoorRefE
namespace Go.Proofs.YtjmjcdigoblkjaaDoor.Ad
open Go.RowKit
set_option linter.unusedVariables false
set_option linter.unusedSimpArgs false

/-- A listed row's wrap: what is listed, the first world's shape and the sizes, for the contract. -/
theorem wrapZ {H : Type} {enc : TypeId × Value → H} {a : Assume} {C : Checked} {os : Os} {f : FuncId} {fn : Func} {s : ChangeSpec} {conds : List PathCond} {apart fresh handsOn again : Bool} {X : World → Array Value → Prop}
    (own : ownKnob C.prog.godebug = none) (started : os.Started) (noInit : C.prog.inits.idxOf? f = none) (hfn : C.prog.funcs[f]? = some fn)
    (witness : ∃ (w : World) (tape : Tape) (i : Input), w.os = os ∧ (w.forCall tape i).Shaped C.prog ∧ i.vars = [] ∧ Input.okWide C.prog (w.forCall tape i) .any w.heap.size f i ∧
      ((s.pre enc C.prog fn conds apart (w.forCall tape i).memory i.args ∧ X (w.forCall tape i).memory i.args) ∧ sizedMet enc C.prog fn (OpenSpec.ofChange s) apart (w.forCall tape i).memory i.args) ∧ a.holds C.prog (lone (Frame.enter C.prog f i.args .normal) [] (w.forCall tape i)))
    (contract : ∀ (W : World) (base : Nat) (args : Array Value) (ds gs : List (DataW H)) (before : List MemPlace),
      (∀ (j : Nat) t v, fn.params[j]? = some t → args[j]? = some v → Value.okWide C.prog W .any base t v) →
      DataW.Whole enc C.prog fn.params.toList s.vars apart W args.toList ds gs before → W.ShapedOpen C.prog →
      (DataW.weightsEach C.prog (fn.params.toList ++ s.plain.varTypes C.prog) (ds ++ gs)).all (· ≤ reachBytes) = true →
      Calls C.prog f args W fun e W' => ∃ v, e = .returned v ∧ s.post enc C.prog fn apart fresh handsOn again W args v W') :
    ReturnsInHanded a C os f .any (fun w args => (s.pre enc C.prog fn conds apart w args ∧ X w args) ∧ sizedMet enc C.prog fn (OpenSpec.ofChange s) apart w args) (s.post enc C.prog fn apart fresh handsOn again) := by
  refine returnsInHanded_of_calls own started noInit witness ?_
  intro w tape i _ shape _ ok pre _
  obtain ⟨_, _, _, fn', hfn', _, _, _, _, hval⟩ := ok
  cases Option.some.inj (hfn'.symm.trans hfn)
  obtain ⟨⟨⟨ds, gs, before, hw, _⟩, _⟩, hz⟩ := pre
  refine (contract (w.forCall tape i) w.heap.size i.args ds gs before hval (DataW.Whole.of_heap (w' := w.forCall tape i) (by rfl) hw) shape (hz.weights hw)).mono fun e W' ⟨v, he, hp⟩ => ?_
  subst he
  exact ChangeSpec.post_blind hp

set_option maxHeartbeats 1000000 in
set_option maxRecDepth 100000 in
theorem ans_walk (m : Int) (w : World) (hm : w.cell? ⟨0, 0, none⟩ = some (.int .i64 m)) : Calls Tryd.prog 8 #[] w fun e w' => e = .returned (.bool true) ∧ Below w.heap.size w w' := by
  have c1 : ∀ W, W.cell? ⟨0, 0, none⟩ = some (.int .i64 m) → Calls Tryd.prog 9 #[.string { data := #[65, 110, 110, 46, 66, 64, 77, 120, 46, 84, 101, 115, 116] }] W fun e w' => e = .returned (.tuple #[.string { data := #[65, 110, 110, 46, 66, 64, 109, 120, 46, 116, 101, 115, 116] }, .bool true]) ∧ Below W.heap.size W w' := fun W hW => by
    have c := parse_walk { data := #[65, 110, 110, 46, 66, 64, 77, 120, 46, 84, 101, 115, 116] } m W hW
    rw [show parseV ({ data := #[65, 110, 110, 46, 66, 64, 77, 120, 46, 84, 101, 115, 116] } : ByteArray).data.toList = .tuple #[.string { data := #[65, 110, 110, 46, 66, 64, 109, 120, 46, 116, 101, 115, 116] }, .bool true] by kernel_rfl] at c
    exact c
  have c2 : ∀ W, W.cell? ⟨0, 0, none⟩ = some (.int .i64 m) → Calls Tryd.prog 9 #[.string { data := #[97, 64, 98, 45] }] W fun e w' => e = .returned (.tuple #[.string { data := #[] }, .bool false]) ∧ Below W.heap.size W w' := fun W hW => by
    have c := parse_walk { data := #[97, 64, 98, 45] } m W hW
    rw [show parseV ({ data := #[97, 64, 98, 45] } : ByteArray).data.toList = .tuple #[.string { data := #[] }, .bool false] by kernel_rfl] at c
    exact c
  have c3 : ∀ W, W.cell? ⟨0, 0, none⟩ = some (.int .i64 m) → Calls Tryd.prog 13 #[.string { data := #[97, 46, 98] }] W fun e w' => e = .returned (.bool true) ∧ Below W.heap.size W w' := fun W hW => by
    have c := domain_walk { data := #[97, 46, 98] } m W hW
    rw [show domain ({ data := #[97, 46, 98] } : ByteArray).data.toList = true by kernel_rfl] at c
    exact c
  go_enter Tryd.func8, Tryd.ntmps8
  go_wp2_with fail
  refine (c1 _ hm).mono ?_
  rintro e w1 ⟨rfl, hb1⟩
  have hm1 := cell_below hm hb1
  go_wp2_with fail
  refine (c2 _ hm1).mono ?_
  rintro e w2 ⟨rfl, hb2⟩
  have hm2 := cell_below hm1 hb2
  go_wp2_with fail
  refine (c3 _ hm2).mono ?_
  rintro e w3 ⟨rfl, hb3⟩
  go_wp2
  go_ret
  have hb := hb1.trans (hb2.mono hb1.size)
  exact ⟨rfl, hb.trans (hb3.mono hb.size)⟩
end Go.Proofs.YtjmjcdigoblkjaaDoor.Ad
