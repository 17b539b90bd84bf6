/-
  The program's map of parsers, and the parsers that look at nothing.
-/
import Derived.Test.YtcjljldknekhiaaGreatDoorACell
import Derived.Test.YtcjljldknekhiaaGreatDoorAVm
import Derived.Maps.Keyed
import Derived.Carry
import Derived.Laws.StructEq
namespace Go.Proofs.YtcjljldknekhiaaGreatDoor.Ad
open Go.RowKit
set_option linter.unusedVariables false
set_option linter.unusedSimpArgs false

/-- What a parser answers. -/
def outV (o : Out) : Value := .tuple #[.string (bs o.arg), .int .i64 o.size, .int .i64 o.code]

set_option maxHeartbeats 4000000 in
set_option maxRecDepth 100000 in
theorem alone_walk (s : ByteArray) (b : Bool) (w : World) : Calls Tryz.prog 142 #[.string s, .bool b] w fun e w' => e = .returned (outV (aloneM b)) ∧ w' = w := by
  cases b <;>
  · go_enter Tryz.func142, Tryz.ntmps142
    go_wp2
    go_ret3
    exact ⟨rfl, rfl⟩

set_option maxHeartbeats 4000000 in
set_option maxRecDepth 100000 in
theorem noop_walk (s : ByteArray) (b : Bool) (w : World) : Calls Tryz.prog 143 #[.string s, .bool b] w fun e w' => e = .returned (outV noopM) ∧ w' = w := by
  go_enter Tryz.func143, Tryz.ntmps143
  go_wp2
  go_ret3
  exact ⟨rfl, rfl⟩

theorem empty_list {s : ByteArray} (h : s.data.toList = []) : s = { data := #[] } := by rw [← bs_of s, h]; rfl

set_option maxHeartbeats 4000000 in
set_option maxRecDepth 100000 in
theorem vrfy_walk (s : ByteArray) (b : Bool) (w : World) : Calls Tryz.prog 144 #[.string s, .bool b] w fun e w' => e = .returned (outV (vrfyM s.data.toList)) ∧ w' = w := by
  by_cases h : s.data.toList = []
  · have h' := empty_list h
    subst h'
    go_enter Tryz.func144, Tryz.ntmps144
    go_wp2
    go_ret3
    exact ⟨rfl, rfl⟩
  · rw [vrfyM, if_neg h]
    have hne : (s.toList == []) = false := by
      rw [ByteArray.toList_eq, beq_eq_false_iff_ne]
      exact h
    clear h
    go_enter Tryz.func144, Tryz.ntmps144
    go_wp2
    go_ret3
    exact ⟨rfl, rfl⟩

/-! ### The map -/
def fnV (n : Nat) : Value := .func (.func n) #[] #[]
theorem put_run (w : World) (es : Array MapEntry) (c : Nat) (K : ByteArray) (v : Value) (hf : Instr.findNow .string (.string K) es.toList 0 = some none) :
    (Instr.mapUpdate 143 (.map (some w.heap.size)) (.string K) v).run Tryz.prog (w.alloc (.map es c)) = .ok () (w.alloc (.map (es.push ⟨.string K, v, c⟩) (c + 1))) := by
  have hb := (MapKept.heap_alloc w (.map es c)).1
  have hk : ∀ W e, (Instr.checkKey e 10000 9 (.string K)).run Tryz.prog W = .ok () W := fun W e => MapKept.run_checkKey (d := .string) (k := .string K) Tryz.underlying9 trivial e 9999
  have hfk : ∀ W, (Instr.findKey 9 (.string K) es.toList).run Tryz.prog W = .ok none W := fun W => by
    simp [Instr.findKey, run_underlying Tryz.underlying9, hf, Result.andThen]
  simp [Instr.mapUpdate, run_underlying Tryz.underlying143, MapKept.run_getObj_map hb, hk, hfk, MapKept.run_setObj_map _ hb, Result.andThen]
  have e : ∀ (H : Array Obj) (a b : Obj), (H.push a).setIfInBounds H.size b = H.push b := fun H a b => by
    apply Array.ext_getElem?
    intro i
    rw [Array.getElem?_setIfInBounds, Array.getElem?_push, Array.getElem?_push, Array.size_push]
    by_cases h : i = H.size
    · subst h; simp
    · rw [if_neg (fun e => h e.symm), if_neg h, if_neg h]
  rw [show (w.alloc (.map es c)).heap = w.heap.push (.map es c) from rfl, e]
  rfl
def tab : List MapEntry := [⟨.string (bs nHelo), fnV 139, 0⟩, ⟨.string (bs nEhlo), fnV 139, 1⟩, ⟨.string (bs nMail), fnV 140, 2⟩, ⟨.string (bs nRcpt), fnV 141, 3⟩, ⟨.string (bs nData), fnV 142, 4⟩, ⟨.string (bs nRset), fnV 142, 5⟩, ⟨.string (bs nQuit), fnV 142, 6⟩, ⟨.string (bs nNoop), fnV 143, 7⟩, ⟨.string (bs nVrfy), fnV 144, 8⟩]
def tabN (n : Nat) : Array MapEntry := (tab.take n).toArray
theorem put_tab (w : World) (n : Nat) (hn : n < 9) (K : ByteArray) (v : Value) (hK : tab[n]? = some ⟨.string K, v, n⟩) (hf : Instr.findNow .string (.string K) (tab.take n) 0 = some none) :
    (Instr.mapUpdate 143 (.map (some w.heap.size)) (.string K) v).run Tryz.prog (w.alloc (.map (tabN n) n)) = .ok () (w.alloc (.map (tabN (n + 1)) (n + 1))) := by
  have h := put_run w (tabN n) n K v hf
  have e : (tabN n).push ⟨.string K, v, n⟩ = tabN (n + 1) := by
    unfold tabN
    rw [List.push_toArray, List.take_add_one, hK]
    rfl
  rw [e] at h
  exact h

set_option maxHeartbeats 4000000 in
set_option maxRecDepth 100000 in
theorem parsers_walk (w : World) : Calls Tryz.prog 112 #[] w fun e w' => e = .returned (.map (some w.heap.size)) ∧ w' = w.alloc (.map (tabN 9) 9) := by
  have hmk : (Instr.makeMap 143 none).run Tryz.prog w = .ok (.map (some w.heap.size)) (w.alloc (.map (tabN 0) 0)) := by
    simp [Instr.makeMap, Result.andThen]
    rfl
  have h0 := put_tab w 0 (by decide) (bs nHelo) (fnV 139) rfl rfl
  have h1 := put_tab w 1 (by decide) (bs nEhlo) (fnV 139) rfl rfl
  have h2 := put_tab w 2 (by decide) (bs nMail) (fnV 140) rfl rfl
  have h3 := put_tab w 3 (by decide) (bs nRcpt) (fnV 141) rfl rfl
  have h4 := put_tab w 4 (by decide) (bs nData) (fnV 142) rfl rfl
  have h5 := put_tab w 5 (by decide) (bs nRset) (fnV 142) rfl rfl
  have h6 := put_tab w 6 (by decide) (bs nQuit) (fnV 142) rfl rfl
  have h7 := put_tab w 7 (by decide) (bs nNoop) (fnV 143) rfl rfl
  have h8 := put_tab w 8 (by decide) (bs nVrfy) (fnV 144) rfl rfl
  simp only [bs, nHelo, nEhlo, nMail, nRcpt, nData, nRset, nQuit, nNoop, nVrfy, fnV] at h0 h1 h2 h3 h4 h5 h6 h7 h8
  generalize tabN = T at hmk h0 h1 h2 h3 h4 h5 h6 h7 h8 ⊢
  go_enter Tryz.func112, Tryz.ntmps112
  go_wp2
  go_ret
  exact ⟨rfl, rfl⟩

/-! ### What is found there -/
def kindFn : Kind → Nat
  | .hello => 139
  | .mail => 140
  | .rcpt => 141
  | .alone => 142
  | .noop => 143
  | .vrfy => 144
theorem beq_bs (l k : List UInt8) : (bs l == bs k) = decide (l = k) := by
  rw [beq_toListBytes, ByteArray.toList_eq, ByteArray.toList_eq, bs_data, bs_data]
  by_cases h : l = k
  · subst h; simp
  · rw [decide_eq_false h, beq_eq_false_iff_ne]
    exact h
theorem find_kind (l : List UInt8) : (kind l = none ∧ Instr.findNow .string (.string (bs l)) tab 0 = some none) ∨ ∃ k i, kind l = some k ∧ Instr.findNow .string (.string (bs l)) tab 0 = some (some (i, fnV (kindFn k))) := by
  unfold kind tab
  simp only [Instr.findNow, Instr.sameNow, beq_bs]
  by_cases h0 : l = nHelo
  · refine .inr ⟨.hello, 0, ?_, ?_⟩
    · rw [if_pos h0]
    · rw [decide_eq_true h0]
      rfl
  by_cases h1 : l = nEhlo
  · refine .inr ⟨.hello, 1, ?_, ?_⟩
    · rw [if_neg h0, if_pos h1]
    · rw [decide_eq_false h0, decide_eq_true h1]
      rfl
  by_cases h2 : l = nMail
  · refine .inr ⟨.mail, 2, ?_, ?_⟩
    · rw [if_neg h0, if_neg h1, if_pos h2]
    · rw [decide_eq_false h0, decide_eq_false h1, decide_eq_true h2]
      rfl
  by_cases h3 : l = nRcpt
  · refine .inr ⟨.rcpt, 3, ?_, ?_⟩
    · rw [if_neg h0, if_neg h1, if_neg h2, if_pos h3]
    · rw [decide_eq_false h0, decide_eq_false h1, decide_eq_false h2, decide_eq_true h3]
      rfl
  by_cases h4 : l = nData
  · refine .inr ⟨.alone, 4, ?_, ?_⟩
    · rw [if_neg h0, if_neg h1, if_neg h2, if_neg h3, if_pos h4]
    · rw [decide_eq_false h0, decide_eq_false h1, decide_eq_false h2, decide_eq_false h3, decide_eq_true h4]
      rfl
  by_cases h5 : l = nRset
  · refine .inr ⟨.alone, 5, ?_, ?_⟩
    · rw [if_neg h0, if_neg h1, if_neg h2, if_neg h3, if_neg h4, if_pos h5]
    · rw [decide_eq_false h0, decide_eq_false h1, decide_eq_false h2, decide_eq_false h3, decide_eq_false h4, decide_eq_true h5]
      rfl
  by_cases h6 : l = nQuit
  · refine .inr ⟨.alone, 6, ?_, ?_⟩
    · rw [if_neg h0, if_neg h1, if_neg h2, if_neg h3, if_neg h4, if_neg h5, if_pos h6]
    · rw [decide_eq_false h0, decide_eq_false h1, decide_eq_false h2, decide_eq_false h3, decide_eq_false h4, decide_eq_false h5, decide_eq_true h6]
      rfl
  by_cases h7 : l = nNoop
  · refine .inr ⟨.noop, 7, ?_, ?_⟩
    · rw [if_neg h0, if_neg h1, if_neg h2, if_neg h3, if_neg h4, if_neg h5, if_neg h6, if_pos h7]
    · rw [decide_eq_false h0, decide_eq_false h1, decide_eq_false h2, decide_eq_false h3, decide_eq_false h4, decide_eq_false h5, decide_eq_false h6, decide_eq_true h7]
      rfl
  by_cases h8 : l = nVrfy
  · refine .inr ⟨.vrfy, 8, ?_, ?_⟩
    · rw [if_neg h0, if_neg h1, if_neg h2, if_neg h3, if_neg h4, if_neg h5, if_neg h6, if_neg h7, if_pos h8]
    · rw [decide_eq_false h0, decide_eq_false h1, decide_eq_false h2, decide_eq_false h3, decide_eq_false h4, decide_eq_false h5, decide_eq_false h6, decide_eq_false h7, decide_eq_true h8]
      rfl
  refine .inl ⟨?_, ?_⟩
  · rw [if_neg h0, if_neg h1, if_neg h2, if_neg h3, if_neg h4, if_neg h5, if_neg h6, if_neg h7, if_neg h8]
  · rw [decide_eq_false h0, decide_eq_false h1, decide_eq_false h2, decide_eq_false h3, decide_eq_false h4, decide_eq_false h5, decide_eq_false h6, decide_eq_false h7, decide_eq_false h8]
theorem look_some {w : World} {b : Nat} (hb : w.heap[b]? = some (.map (tabN 9) 9)) {l : List UInt8} {k : Kind} (hk : kind l = some k) : (Instr.lookup 143 (.map (some b)) (.string (bs l)) true).run Tryz.prog w = .ok (.tuple #[fnV (kindFn k), .bool true]) w := by
  rcases find_kind l with ⟨h, _⟩ | ⟨k', i, h, hf⟩
  · rw [h] at hk; cases hk
  · rw [h] at hk; cases hk
    have hc : ∀ W e, (Instr.checkKey e 10000 9 (.string (bs l))).run Tryz.prog W = .ok () W := fun W e => MapKept.run_checkKey (d := .string) (k := .string (bs l)) Tryz.underlying9 trivial e 9999
    have hfk : ∀ W, (Instr.findKey 9 (.string (bs l)) (tabN 9).toList).run Tryz.prog W = .ok (some (i, fnV (kindFn k))) W := fun W => by
      rw [show (tabN 9).toList = tab from rfl]
      simp [Instr.findKey, run_underlying Tryz.underlying9, hf, Result.andThen]
    simp [Instr.lookup, run_underlying Tryz.underlying143, MapKept.run_getObj_map hb, hc, hfk, Result.andThen]
theorem look_none {w : World} {b : Nat} (hb : w.heap[b]? = some (.map (tabN 9) 9)) {l : List UInt8} (hk : kind l = none) : (Instr.lookup 143 (.map (some b)) (.string (bs l)) true).run Tryz.prog w = .ok (.tuple #[.nilFunc, .bool false]) w := by
  rcases find_kind l with ⟨_, hf⟩ | ⟨k', i, h, hf⟩
  · have hc : ∀ W e, (Instr.checkKey e 10000 9 (.string (bs l))).run Tryz.prog W = .ok () W := fun W e => MapKept.run_checkKey (d := .string) (k := .string (bs l)) Tryz.underlying9 trivial e 9999
    have hfk : ∀ W, (Instr.findKey 9 (.string (bs l)) (tabN 9).toList).run Tryz.prog W = .ok none W := fun W => by
      rw [show (tabN 9).toList = tab from rfl]
      simp [Instr.findKey, run_underlying Tryz.underlying9, hf, Result.andThen]
    have hz : ∀ W, (zeroValue (Tryz.prog.mapElemOf 143)).run Tryz.prog W = .ok .nilFunc W := fun W => by
      go_simp
    simp [Instr.lookup, run_underlying Tryz.underlying143, MapKept.run_getObj_map hb, hc, hfk, hz, Result.andThen]
  · rw [h] at hk; cases hk
end Go.Proofs.YtcjljldknekhiaaGreatDoor.Ad
