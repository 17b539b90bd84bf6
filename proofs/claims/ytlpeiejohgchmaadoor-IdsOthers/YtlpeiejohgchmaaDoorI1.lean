/-
  Stage 13: the iterator over the numbers that the disk's names bear.
-/
import Derived.RangeFuncNested
import Derived.RangeFuncBound
import Derived.RangeFuncCalls
import Derived.RangeFuncLeaves
import Derived.RangeFuncBox
import Derived.Shelf.Abstract
import Derived.Shelf.RegionOpen
import Derived.WalkKit
import Derived.OwnWalkIn
import Derived.TacticsInMore
import Derived.LoopNIn
import Derived.LoopIn
import Derived.Lib.Hide
import Derived.Test.YtlpeiejohgchmaaDoorDList
import Derived.Test.YtlpeiejohgchmaaDoorIG
import Derived.Shelf.AbstractIn
import Derived.Shelf.SlIter.Nil
namespace Go.Proofs.YtlpeiejohgchmaaDoor.Fs
open Go.RowKit Go.Shelf Go.Sort
set_option linter.unusedVariables false
set_option linter.unusedSimpArgs false
attribute [local go_sem] Oper.semAt_some

/-! ### Numbers, as a type -/
abbrev I9 := { x : Nat // x ≤ 999999999 }
def num9 (a : Nm) : Option I9 := match h : numN a with | some n => some ⟨n, (numN_some h).2⟩ | none => none
theorem num9_none {a : Nm} (h : num9 a = none) : numN a = none := by
  unfold num9 at h
  split at h
  · cases h
  · assumption
theorem num9_some {a : Nm} {x : I9} (h : num9 a = some x) : numN a = some x.1 := by
  unfold num9 at h
  split at h
  · rename_i n hn
    cases h
    exact hn
  · cases h
theorem num9_map (L : List Nm) : (L.filterMap num9).map (·.1) = L.filterMap numN := by
  induction L with
  | nil => rfl
  | cons a L ih =>
    cases h : num9 a with
    | none => rw [List.filterMap_cons_none h, List.filterMap_cons_none (num9_none h), ih]
    | some x => rw [List.filterMap_cons_some h, List.filterMap_cons_some (num9_some h), List.map_cons, ih]

/-! ### What stands still -/
theorem At.below {B : Nat} {w w' : World} {g : Nat} {t : TypeId} {cs : Array Value} (h : At w g t cs) (k : Below B w w') (hb : g < B) : At w' g t cs := (k.block g hb).trans h
theorem strsAt_row {w : World} {B n : Nat} {v : Value} {L : List Nm} (hn : L.length = n) (h : w.ownsRow B 9 1 v n (L.map encStr)) :
    (v = .slice none 0 0 ∧ L = []) ∨ ∃ b off cap t cs, v = .slice (some ⟨b, off, none⟩) n cap ∧ B ≤ b ∧ At w b t cs ∧ ∀ j (hj : j < L.length), cs[off + j]? = some (encStr L[j]) := by
  subst hn
  obtain ⟨x, cap, rfl, hc, h0 | ⟨g, rfl, hb, hcell⟩⟩ := ownsRow_shape (ownsRow_base_a h (Nat.zero_le _))
  · have hL : L = [] := List.eq_nil_of_length_eq_zero h0
    subst hL
    rcases h.2 with ⟨hv, _⟩ | ⟨g, cap', cur, hv, hBg, hg, _⟩
    · exact .inl ⟨hv, rfl⟩
    · injection hv with e1 e2 e3
      subst e1 e3
      exact .inr ⟨g, 0, cap, 9, cur, rfl, hBg, hg, fun j hj => by cases hj⟩
  · rcases h.2 with ⟨hv, _⟩ | ⟨g', cap', cur, hv, hBg, hg, _⟩
    · injection hv with e1 e2 e3
      cases e1
    · injection hv with e1 e2 e3
      injection e1 with e1
      injection e1 with e1
      subst e1 e3
      refine .inr ⟨g, 0, cap, 9, cur, rfl, hBg, hg, fun j hj => ?_⟩
      have h1 := hcell j _ (show (L.map encStr)[j]? = some (encStr L[j]) by simp [hj])
      rw [cell_of_row w g j cur 9 (0, 0) hg] at h1
      rw [Nat.zero_add]
      exact h1
/-- What a round keeps that writes no cells but those of block X. -/
def KC (X : Nat) (W W' : World) : Prop := W.heap.size ≤ W'.heap.size ∧ ∀ g cs t fr, ¬ g = X → W.heap[g]? = some (.cells cs t fr) → W'.heap[g]? = some (.cells cs t fr)
theorem KC.trans {X : Nat} {A B C : World} (h : KC X A B) (k : KC X B C) : KC X A C := ⟨Nat.le_trans h.1 k.1, fun g cs t fr hg ha => k.2 g cs t fr hg (h.2 g cs t fr hg ha)⟩
theorem kc_b {X : Nat} (W : World) (l : Nat) (o o' : Obj) (h : W.heap[l]? = some o) (hc : o.isCells = false) : KC X W (W.putObj l o') := by
  refine ⟨by simp [World.putObj], fun g cs t fr _ ha => ?_⟩
  have hne : l ≠ g := by
    rintro rfl
    rw [h] at ha
    cases ha
    cases hc
  exact (World.putObj_heap_other (fun e => hne e.symm)).trans ha
theorem KC.at {X : Nat} {W W' : World} (h : KC X W W') {g : Nat} {t : TypeId} {cs : Array Value} (ha : At W g t cs) (hg : ¬ g = X) : At W' g t cs := h.2 g cs t (0, 0) hg ha
theorem KC.glob {X : Nat} {W W' : World} (h : KC X W W') (hX : 5 ≤ X) (hG : Glob W) : Glob W' := hG.same h.1 fun g cs t fr hg e => h.2 g cs t fr (by omega) e
theorem below_grown {W W' : World} (h : Below W.heap.size W W') : W.grownBy W' none := ⟨h.os, h.tape, h.output, h.size, fun k hk _ => h.block k hk⟩
theorem abides_new {β : Type} {B : Nat} {J : β → World → Prop} (h : AbidesFrom B J) {s : β} {W W' : World} (hj : J s W) (hb : Below W.heap.size W W') : J s W' := h s W W' none hj (below_grown hb) (fun r e => by cases e)

/-! ### The names' numbers, one by one -/
def pre9 (L : List Nm) (k : Nat) : List I9 := (L.take k).filterMap num9
theorem pre9_all (L : List Nm) {k : Nat} (h : L.length ≤ k) : pre9 L k = L.filterMap num9 := by rw [pre9, List.take_of_length_le h]
theorem pre9_none (L : List Nm) {k : Nat} (h : k < L.length) (hn : num9 L[k] = none) : pre9 L (k + 1) = pre9 L k := by
  rw [pre9, List.take_succ_eq_append_getElem h, List.filterMap_append]
  simp [pre9, hn]
theorem pre9_some (L : List Nm) {k : Nat} (h : k < L.length) {x : I9} (hn : num9 L[k] = some x) : pre9 L (k + 1) = pre9 L k ++ [x] := by
  rw [pre9, List.take_succ_eq_append_getElem h, List.filterMap_append]
  simp [pre9, hn]
theorem pre9_prefix (L : List Nm) (k : Nat) : pre9 L k <+: L.filterMap num9 := by
  refine ⟨(L.drop k).filterMap num9, ?_⟩
  rw [pre9, ← List.filterMap_append, List.take_append_drop]
theorem pre9_lt (L : List Nm) {k : Nat} (h : k < L.length) {x : I9} (hn : num9 L[k] = some x) : (pre9 L k).length < (L.filterMap num9).length := by
  have h1 := (pre9_prefix L (k + 1)).length_le
  rw [pre9_some L h hn] at h1
  simp at h1
  omega

/-- The numbers of a disk's names, in the names' order. -/
def nums9 (s : St) : List I9 := (s.now.map (·.1)).filterMap num9
def ShortD (d : Dir) : Prop := ∀ p ∈ d, p.1.length ≤ 1000
set_option maxRecDepth 100000 in
set_option maxHeartbeats 4000000 in
theorem iter1 {f : Nat} {S : Nat → Prop} {s : St} (l Bs X B0 : Nat) (hX5 : 5 ≤ X) (hd : s.down = false) (hsh : ShortD s.now) (J Jx : List I9 → World → Prop) (hJ : AbidesFrom B0 J)
    (hY : ∀ pre x W, J pre W → pre.length < (nums9 s).length → YieldAt Fence.wide 4 Tryd.prog l #[.int .i64 ((x.1 : Nat) : Int)] W fun e W' =>
      (e = .returned (.bool true) ∧ J (pre ++ [x]) W' ∧ KC X W W') ∨ (e = .returned (.bool false) ∧ Jx (pre ++ [x]) W'))
    (W : World) (hXW : X < W.heap.size) (hD : Disk W S f s) (hG : Glob W) (hBs : W.cell? ⟨Bs, 0, none⟩ = some (.pointer (some ⟨f, 0, none⟩))) (h0 : J [] W) :
    CallsIn Fence.wide 5 Tryd.prog 33 #[.func (.yield l) #[] #[], .pointer (some ⟨Bs, 0, none⟩)] W fun e W' => (∃ v, e = .returned v) ∧
      ((∃ ys, ys = nums9 s ∧ J ys W') ∨ (∃ pre, pre <+: nums9 s ∧ Jx pre W')) := by
  have HLc : Hid (Calls Tryd.prog 17 #[.pointer (some ⟨f, 0, none⟩)] W (Listed W s.now)) := Lib.hid (listUp f S s W hD hd)
  have HNL : Hid (s.now.length ≤ 1000000) := Lib.hid (by have := now_length s; have := hD.good.bulk; omega)
  have hfl : Fence.wide.fn 17 := trivial
  have hfn : Fence.wide.fn 34 := trivial
  have HSL : Hid (∀ a ∈ s.now.map (·.1), a.length ≤ 1000) := Lib.hid fun a ha => by
    obtain ⟨p, hp, rfl⟩ := List.mem_map.1 ha
    exact hsh p hp
  have hlen : (s.now.map (·.1)).length = s.now.length := List.length_map ..
  have hL9 : nums9 s = (s.now.map (·.1)).filterMap num9 := rfl
  rw [hL9] at hY ⊢
  obtain ⟨L, hL⟩ : ∃ L, s.now.map (·.1) = L := ⟨_, rfl⟩
  rw [hL] at hlen HSL hY ⊢
  obtain ⟨n, hn⟩ : ∃ n, n = s.now.length := ⟨_, rfl⟩
  rw [← hn] at hlen HNL
  have HLEN := Lib.hid hlen
  have HL := Lib.hid hL
  have HN := Lib.hid hn
  have HGW := Lib.hid hG
  have HJW := Lib.hid h0
  clear hsh hD hG hd h0 hL hlen hn hL9
  refine callsIn_of_wp Tryd.func33 rfl trivial ?_ rfl
  simp only [Tryd.ntmps33, List.size_toArray, List.length_cons, List.length_nil, Nat.reduceAdd, Nat.reduceSub, Array.replicate_succ, Array.replicate_zero, List.push_toArray, List.append_toArray, List.nil_append, List.cons_append]
  gi_wp2_with (gi_at_call 17; refine (callsIn_wide.2 HLc.out).mono ?_; rintro e w2 ⟨v, rfl, hrow, hb2⟩; refine Hid.out ?_)
  have HJ2 : Hid (J [] w2) := Lib.hid (abides_new hJ HJW.out hb2)
  have HG2 : Hid (Glob w2) := Lib.hid (HGW.out.quiet (Keep.of_below hb2))
  have hXw2 : X < w2.heap.size := by have := hb2.size; omega
  have hst := strsAt_row (L := L) HLEN.out (by rw [← HL.out, List.map_map, HN.out]; exact hrow)
  clear hrow HGW HJW HLc
  refine Lib.hid ?_
  rcases hst with ⟨rfl, rfl⟩ | ⟨b, off, cap, t0, cs0, rfl, hbW, ha, hc⟩
  · clear HNL HLEN HSL hb2
    gi_wp2
    gi_loopw [10] (fun i wr => i = .int .i64 0 ∧ J [] wr) (fun _ _ => 0)
    case atStart => exact ⟨rfl, HJ2.out⟩
    case round =>
      obtain ⟨rfl, hJs⟩ := hrel
      gi_wp2
      go_end0
      exact ⟨⟨_, rfl⟩, .inl ⟨_, rfl, hJs⟩⟩
  · have hbX : ¬ b = X := by omega
    have HC := Lib.hid hc
    clear hc hb2
    gi_wp2
    gi_loopw [10] (fun i wr => ∃ k : Nat, k ≤ n ∧ i = .int .i64 k ∧ J (pre9 L k) wr ∧ At wr b t0 cs0 ∧ Glob wr)
      (fun i _ => n - (intOf i).toNat)
    case atStart => exact ⟨0, Nat.zero_le _, rfl, HJ2.out, ha, HG2.out⟩
    case round =>
      obtain ⟨k, hk, rfl, hJs, hnx, hGr⟩ := hrel
      clear HJ2 HG2 ha
      have hn6 : n ≤ 1000000 := HNL.out
      by_cases hlt : k < n
      · have hkl : k < L.length := by have := HLEN.out; omega
        have hcx0 : wr.cell? ⟨b, off + k, none⟩ = some (encStr L[k]) := (hnx.cell (off + k)).trans (HC.out k hkl)
        obtain ⟨A, hA⟩ : ∃ A : ByteArray, A = ⟨L[k].toArray⟩ := ⟨_, rfl⟩
        have hAn : nm A = L[k] := by rw [hA]; simp [nm]
        have hAs : A.size ≤ 1000 := by
          rw [← nm_length, hAn]
          exact HSL.out _ (List.getElem_mem hkl)
        have hcx : wr.cell? ⟨b, off + k, none⟩ = some (.string A) := by rw [hcx0, hA]
        have HNA : Hid (Calls Tryd.prog 34 #[.string A] wr fun e w' => e = .returned (numT L[k]) ∧ Below wr.heap.size wr w') := Lib.hid (by rw [← hAn]; exact numberC A wr hAs hGr)
        have HJS := Lib.hid hJs
        have HNX := Lib.hid hnx
        have HGR := Lib.hid hGr
        clear hcx0 hA hAn hAs hJs hnx hGr
        cases hn9 : num9 L[k] with
        | none =>
          have hT : numT L[k] = .tuple #[.int .i64 0, .bool false] := by rw [numT, num9_none hn9]; rfl
          rw [hT] at HNA
          have HP := Lib.hid (pre9_none L hkl hn9)
          clear hT hn9
          gi_wp2_with (gi_at_call 34; refine (callsIn_wide.2 HNA.out).mono ?_; rintro e w3 ⟨rfl, hb3⟩)
          refine ⟨fun _ h => (by cases h), ?_⟩
          gi_wp2
          go_roundw
          case rel => exact ⟨k + 1, by omega, by simp, by rw [HP.out]; exact abides_new hJ HJS.out hb3, HNX.out.below hb3 HNX.out.lt, HGR.out.quiet (Keep.of_below hb3)⟩
          case measure => simp [intOf]; omega
        | some x =>
          have hT : numT L[k] = .tuple #[.int .i64 ((x.1 : Nat) : Int), .bool true] := by rw [numT, num9_some hn9]; rfl
          rw [hT] at HNA
          have HP := Lib.hid (pre9_some L hkl hn9)
          have HPL := Lib.hid (pre9_lt L hkl hn9)
          clear hT hn9
          gi_wp2_with (gi_at_call 34; refine (callsIn_wide.2 HNA.out).mono ?_; rintro e w3 ⟨rfl, hb3⟩; refine Hid.out ?_)
          obtain ⟨fn, tmps, assign, body, hy, hR⟩ := hY _ x w3 (abides_new hJ HJS.out hb3) HPL.out
          have HNX3 : Hid (At w3 b t0 cs0) := Lib.hid (HNX.out.below hb3 HNX.out.lt)
          have HGR3 : Hid (Glob w3) := Lib.hid (HGR.out.quiet (Keep.of_below hb3))
          clear HNA HJS HNX HGR HPL hb3 hcx
          refine Lib.hid ?_
          gi_wp2
          refine hR.mono ?_
          rintro e W3 (⟨rfl, hJ3, hk3⟩ | ⟨rfl, hJx3⟩)
          · gi_wp2
            go_roundw
            case rel => exact ⟨k + 1, by omega, by simp, by rw [HP.out]; exact hJ3, hk3.at HNX3.out hbX, hk3.glob hX5 HGR3.out⟩
            case measure => simp [intOf]; omega
          · gi_wp2
            refine bodyPost_ret (results_none rfl _ _ _) rfl ?_
            exact ⟨⟨_, rfl⟩, .inr ⟨_, by rw [← HP.out]; exact pre9_prefix L (k + 1), hJx3⟩⟩
      · obtain rfl : k = n := by omega
        have hall := pre9_all L (k := k) (by have := HLEN.out; omega)
        gi_wp2
        go_end0
        exact ⟨⟨_, rfl⟩, .inl ⟨_, hall, hJs⟩⟩
set_option maxHeartbeats 1000000 in
/-- The maker: the disk's pointer is boxed; the function captures the box. -/
theorem makerC (a : Option Addr) (w : World) :
    CallsIn Fence.wide 5 Tryd.prog 22 #[.pointer a] w fun e w' => e = .returned (.func (.func 33) #[] #[.pointer (some ⟨w.heap.size, 0, none⟩)]) ∧ w' = w.alloc (.cells #[.pointer a] 26) := by
  refine callsIn_of_wp Tryd.func22 rfl trivial ?_ rfl
  simp only [Tryd.ntmps22, List.size_toArray, List.length_cons, List.length_nil, Nat.reduceAdd, Nat.reduceSub, Array.replicate_succ, Array.replicate_zero, List.push_toArray, List.append_toArray, List.nil_append, List.cons_append]
  gi_wp2
  go_ret
  exact ⟨rfl, rfl⟩
/-- What numbers hands back gives all numbers that the disk's names bear, in their order; or a part, a round having said 'no more'. -/
theorem iterC {f : Nat} {S : Nat → Prop} {s : St} (Bs X : Nat) (w : World) (hX5 : 5 ≤ X) (hXw : X < w.heap.size) (hD : Disk w S f s) (hd : s.down = false) (hsh : ShortD s.now) (hG : Glob w)
    (hc : w.cell? ⟨Bs, 0, none⟩ = some (.pointer (some ⟨f, 0, none⟩))) :
    SeqStopsK Fence.wide 5 Tryd.prog 33 #[.pointer (some ⟨Bs, 0, none⟩)] (fun x : I9 => #[Value.int .i64 ((x.1 : Nat) : Int)]) (KC X) (fun ys => ys = nums9 s) (fun pre => pre <+: nums9 s) (nums9 s).length w := fun l J Jx W hW hJ _ hY h0 =>
  iter1 l Bs X _ hX5 hd hsh J Jx hJ hY W (Nat.lt_of_lt_of_le hXw hW.size) (hD.keep (Keep.of_below hW) (fun _ _ h => h)) (hG.quiet (Keep.of_below hW)) ((Keep.of_below hW).cell hc (fun h => h)) h0
end Go.Proofs.YtlpeiejohgchmaaDoor.Fs
