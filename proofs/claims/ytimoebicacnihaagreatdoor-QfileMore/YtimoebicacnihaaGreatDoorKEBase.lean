/-
  Mails in memory; what a call may need of the first world.
-/
import Derived.Test.YtimoebicacnihaaGreatDoorKg4
import Derived.Test.YtimoebicacnihaaGreatDoorKg5
namespace Go.Proofs.YtimoebicacnihaaGreatDoor.Ln
open Go.RowKit
set_option linter.unusedVariables false
set_option linter.unusedSimpArgs false

/-! ### The first world -/
def Env (w : World) : Prop := ∃ m, w.cell? ⟨0, 0, none⟩ = some (.int .i64 m)
theorem Env.lt {w : World} (h : Env w) : 0 < w.heap.size := by
  obtain ⟨m, hm⟩ := h
  exact World.block_lt_of_cell? w ⟨0, 0, none⟩ hm
theorem Env.keep {S : Nat → Prop} {w w' : World} (h : Env w) (k : Keep S w w') (hS : ¬ S 0) : Env w' := by
  obtain ⟨m, hm⟩ := h
  exact ⟨m, k.cell hm hS⟩
theorem Env.quiet {w w' : World} (h : Env w) (k : Keep (fun _ => False) w w') : Env w' := h.keep k (fun h => h)

/-! ### Two texts -/
theorem list_beq {s t : ByteArray} (h : s ≠ t) : (s.toList == t.toList) = false := by
  rw [beq_eq_false_iff_ne]
  intro e
  apply h
  rw [Lib.toList_data, Lib.toList_data] at e
  apply ByteArray.ext
  exact Array.ext' e
theorem list_bne {s t : ByteArray} (h : s ≠ t) : (s.toList != t.toList) = true := by
  rw [bne, list_beq h]; rfl

/-! ### Texts in a row -/
def TxP (P : Nat → Prop) (w : World) (x : Option Addr) (L : List ByteArray) : Prop :=
  ∀ (i : Nat) (t : ByteArray), L[i]? = some t → ∃ b off, P b ∧ b < w.heap.size ∧ x = some ⟨b, off, none⟩ ∧ w.cell? ⟨b, off + i, none⟩ = some (.string t)
theorem TxP.keep {P S : Nat → Prop} {w w' : World} {x : Option Addr} {L : List ByteArray} (h : TxP P w x L) (k : Keep S w w') (hs : ∀ b, b < w.heap.size → P b → ¬ S b) : TxP P w' x L := fun i t ht => by
  obtain ⟨b, off, h1, h2, h3, h4⟩ := h i t ht
  exact ⟨b, off, h1, Nat.lt_of_lt_of_le h2 k.size, h3, k.cell h4 (hs b h2 h1)⟩
theorem TxP.quiet {P : Nat → Prop} {w w' : World} {x : Option Addr} {L : List ByteArray} (h : TxP P w x L) (k : Keep (fun _ => False) w w') : TxP P w' x L := h.keep k (fun _ _ _ h => h)
theorem TxP.mono {P Q : Nat → Prop} {w : World} {x : Option Addr} {L : List ByteArray} (h : TxP P w x L) (hq : ∀ b, b < w.heap.size → P b → Q b) : TxP Q w x L := fun i t ht => by
  obtain ⟨b, off, h1, h2, h3, h4⟩ := h i t ht
  exact ⟨b, off, hq b h2 h1, h2, h3, h4⟩
theorem TxP.nil (P : Nat → Prop) (w : World) (x : Option Addr) : TxP P w x [] := fun i t ht => by cases ht
theorem TxP.at {P : Nat → Prop} {w : World} {x : Option Addr} {L : List ByteArray} (h : TxP P w x L) (i : Nat) (hi : i < L.length) : ∃ b off, P b ∧ b < w.heap.size ∧ x = some ⟨b, off, none⟩ ∧ w.cell? ⟨b, off + i, none⟩ = some (.string L[i]) := h i L[i] (List.getElem?_eq_getElem hi)

/-! ### Mails -/
structure MlAt (P : Nat → Prop) (w : World) (m : Ml) (rx : Option Addr) (rn rc : Nat) (bx : Option Addr) (bn bc : Nat) : Prop where
  rs : TxP P w rx m.rcpts
  bs : Bytes P w bx m.body
  hrn : rn = m.rcpts.length
  hbn : bn = m.body.length
  rl : rn ≤ rc
  bl : bn ≤ bc
def mlC (m : Ml) (rx : Option Addr) (rn rc : Nat) (bx : Option Addr) (bn bc : Nat) : Array Value := #[.int .i64 m.id, .int .i64 m.parent, .int .i64 m.born, .string m.frm, .slice rx rn rc, .slice bx bn bc]
section
variable {P Q S : Nat → Prop} {w w' : World} {m : Ml} {rx bx : Option Addr} {rn rc bn bc : Nat}
theorem MlAt.keep (h : MlAt P w m rx rn rc bx bn bc) (k : Keep S w w') (hs : ∀ b, b < w.heap.size → P b → ¬ S b) : MlAt P w' m rx rn rc bx bn bc := ⟨h.rs.keep k hs, h.bs.keep k hs, h.hrn, h.hbn, h.rl, h.bl⟩
theorem MlAt.quiet (h : MlAt P w m rx rn rc bx bn bc) (k : Keep (fun _ => False) w w') : MlAt P w' m rx rn rc bx bn bc := h.keep k (fun _ _ _ h => h)
theorem MlAt.mono (h : MlAt P w m rx rn rc bx bn bc) (hq : ∀ b, b < w.heap.size → P b → Q b) : MlAt Q w m rx rn rc bx bn bc := ⟨h.rs.mono hq, h.bs.mono hq, h.hrn, h.hbn, h.rl, h.bl⟩
end
theorem keep_new (w : World) (o : Obj) : Keep (fun _ => False) w (w.alloc o) := (Keep.refl _ w).alloc o
/-- A call that makes no more than memory of its own. -/
def Quiet (v : Value) (w : World) (e : Ending) (w' : World) : Prop := e = .returned v ∧ Keep (fun _ => False) w w'
theorem quiet_of {v v' : Value} {w w' : World} (h : v' = v) (k : Keep (fun _ => False) w w') : Quiet v w (.returned v') w' := ⟨by rw [h], k⟩

/-! ### What is asked of the layers below -/
def BoxC : Prop := ∀ (s : ByteArray) (w : World), Env w → Calls Tryz.prog 55 #[.string s] w (Quiet (.bool (boxB s)) w)
def LinesC : Prop := ∀ (x : Option Addr) (n c : Nat) (bs : List Nat) (P : Nat → Prop) (w : World), n = bs.length → n ≤ c → n ≤ 8192 → Bytes P w x bs → Env w → Calls Tryz.prog 66 #[.slice x n c] w fun e w' => (∃ v, e = .returned (.tuple #[v, .bool (bodyB bs)])) ∧ Keep (fun _ => False) w w'
end Go.Proofs.YtimoebicacnihaaGreatDoor.Ln
