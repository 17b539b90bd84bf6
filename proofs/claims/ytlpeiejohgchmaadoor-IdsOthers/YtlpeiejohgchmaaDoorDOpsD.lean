/-
  What 'Append' returns and does.
-/
import Derived.Test.YtlpeiejohgchmaaDoorDOpsC
import Derived.IntWalk
namespace Go.Proofs.YtlpeiejohgchmaaDoor.Fs
open Go.RowKit Go.Maps
set_option linter.unusedVariables false

theorem mem_sum {α : Type} (g : α → Nat) : ∀ {l : List α} {x : α}, x ∈ l → g x ≤ (l.map g).sum
  | y :: r, x, h => by
    simp only [List.map_cons, List.sum_cons]
    rcases List.mem_cons.1 h with e | h
    · rw [e]; omega
    · have := mem_sum g h
      omega
theorem file_le_used {s : St} {a : Nm} {i : Nat} (h : get s.now a = some i) : (s.file i).bytes.length ≤ s.used := mem_sum (fun p : Nm × Nat => (s.file p.2).bytes.length) (get_mem h)

/-- What the drawn region of 'Append' keeps. -/
def Rm (w1 : World) (f : Nat) (r : Int) (W : World) : Prop := W.cell? ⟨f, 0, none⟩ = some (.int .i64 r) ∧ Hid (Keep (fun _ => False) w1 W)
theorem Rm.step {w1 W W2 : World} {f : Nat} {r : Int} (k : Hid (Keep (fun _ => False) W W2)) (h : W.cell? ⟨f, 0, none⟩ = some (.int .i64 r)) (h' : Hid (Keep (fun _ => False) w1 W)) : W2.cell? ⟨f, 0, none⟩ = some (.int .i64 r) ∧ Hid (Keep (fun _ => False) w1 W2) :=
  ⟨k.out.cell h (fun h => h), h'.out.trans k.out (fun _ _ h => h)⟩

end Go.Proofs.YtlpeiejohgchmaaDoor.Fs
