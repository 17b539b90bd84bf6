/-
  What the program's content, checksum and Encode return, for every mail.
-/
import Derived.Test.YtpdopjpibmhamaaDoorE1
import Derived.Test.YtpdopjpibmhamaaDoorCSum
import Derived.Test.YtpdopjpibmhamaaDoorWRef
namespace Go.Proofs.YtpdopjpibmhamaaDoor.Ln
open Go.RowKit
set_option linter.unusedVariables false
set_option linter.unusedSimpArgs false

/-! ### A string's bytes -/
theorem conv_str (A : ByteArray) (w : World) : ∃ cap w1, (convert 9 23 (.string A)).run Tryd.prog w = .ok (.slice (some ⟨w.heap.size, 0, none⟩) A.size cap) w1 ∧ Bytes (fun b => b = w.heap.size) w1 (some ⟨w.heap.size, 0, none⟩) (ns A) ∧ Keep (fun _ => False) w w1 := by
  refine ⟨_, _, run_bytes_of_string w 9 23 5 A Tryd.underlying9 Tryd.underlying23 Tryd.underlying5, ⟨ns_lt A, .inr ⟨w.heap.size, 0, rfl, rfl, fun i hi => ?_⟩⟩, (Keep.refl _ w).drew.alloc _⟩
  have hi' : i < A.size := by rwa [ns_length] at hi
  refine (cell_of_row _ _ (0 + i) _ _ _ (heap_alloc_new w.drew _)).trans ?_
  rw [Nat.zero_add]
  have hi2 : i < A.data.size := hi'
  unfold bytesRow
  rw [Array.getElem?_append_left (by simpa using hi2)]
  simp [ns, Array.getElem?_eq_getElem hi2]

/-! ### A writer of the call's own -/
structure Wg (w0 w : World) (p : Nat) (q : Option Nat) (s : List Nat) : Prop where
  wr : Wr w p q (some s)
  kp : Keep (fun _ => False) w0 w
  pn : w0.heap.size ≤ p
  pl : p < w.heap.size
  qn : ∀ b, q = some b → w0.heap.size ≤ b
theorem Wg.new {w0 w : World} (k : Keep (fun _ => False) w0 w) : Wg w0 (w.alloc (.cells #[.slice none 0 0, .bool false] 39)) w.heap.size none [] := ⟨Wr.new w, k.alloc _, k.size, by simp, fun b hb => by cases hb⟩
theorem Wg.quiet {w0 w w' : World} {p : Nat} {q : Option Nat} {s : List Nat} (h : Wg w0 w p q s) (k : Keep (fun _ => False) w w') : Wg w0 w' p q s := ⟨h.wr.keep k (fun h => h) (fun _ _ h => h), h.kp.trans k (fun _ _ h => h), h.pn, Nat.lt_of_lt_of_le h.pl k.size, h.qn⟩
theorem Wg.more {w0 w w' : World} {p : Nat} {q : Option Nat} {s s' : List Nat} {e : Ending} (h : Wg w0 w p q s) (d : WrP p q (some s') w e w') : e = .returned (.tuple #[]) ∧ ∃ q', Wg w0 w' p q' s' := by
  obtain ⟨q', he, h1, h2, h3⟩ := d
  refine ⟨he, q', h1, h.kp.trans h2 (fun i hi hs => ?_), h.pn, Nat.lt_of_lt_of_le h.pl h2.size, fun b hb => ?_⟩
  · rcases hs with rfl | hs
    · have := h.pn; omega
    · have := h.qn i hs; omega
  · rcases h3 b hb with h4 | h4
    · exact h.qn b h4
    · exact Nat.le_trans h.kp.size h4
theorem Wg.num {w0 w : World} {p : Nat} {q : Option Nat} {s : List Nat} (h : Wg w0 w p q s) (n : Int) (h0 : 0 ≤ n) (h1 : n ≤ 4611686018427387904) (hl : s.length ≤ 1000000) :
    Calls Tryd.prog 26 #[.pointer (some ⟨p, 0, none⟩), .int .i64 n] w fun e w' => e = .returned (.tuple #[]) ∧ ∃ q', Wg w0 w' p q' (s ++ num8 n.toNat) := by
  refine (wNum p q (some s) n (by simp; omega) w h.wr).mono fun e w' d => ?_
  rw [putNum, if_pos ⟨h0, h1⟩] at d
  exact h.more d
theorem Wg.byt {w0 w : World} {p : Nat} {q : Option Nat} {s : List Nat} (h : Wg w0 w p q s) {P : Nat → Prop} (x : Option Addr) (m cap : Nat) (b : List Nat) (hm : b.length = m) (hl : s.length + m ≤ 1000000) (hB : Bytes P w x b) (hP : ∀ k, k < w.heap.size → P k → k ≠ p ∧ q ≠ some k) :
    Calls Tryd.prog 17 #[.pointer (some ⟨p, 0, none⟩), .slice x m cap] w fun e w' => e = .returned (.tuple #[]) ∧ ∃ q', Wg w0 w' p q' (s ++ enc b) :=
  (wBytes (fun k => k < w.heap.size ∧ P k) p q (some s) x m cap b hm (by simp; omega) w h.wr (hB.mono (fun k hk hp => ⟨hk, hp⟩)) (fun k hk => hP k hk.1 hk.2)).mono fun e w' d => h.more d
/-- Bytes that lay there ahead of the writer. -/
theorem Wg.far {w0 w : World} {p : Nat} {q : Option Nat} {s : List Nat} (h : Wg w0 w p q s) : ∀ k, k < w.heap.size → k < w0.heap.size → k ≠ p ∧ q ≠ some k := fun k _ hk => ⟨by have := h.pn; omega, fun e => by have := h.qn k e; omega⟩
/-- Bytes that were made behind the writer's last call. -/
theorem Wg.near {w0 w w' : World} {p : Nat} {q : Option Nat} {s : List Nat} (h : Wg w0 w p q s) : ∀ k, k < w'.heap.size → k = w.heap.size → k ≠ p ∧ q ≠ some k := fun k _ hk => ⟨by have := h.pl; omega, fun e => by have := h.wr.lt k e; omega⟩

theorem encs_take (L : List ByteArray) (k : Nat) (h : k < L.length) : encs (L.take (k + 1)) = encs (L.take k) ++ enc (ns L[k]) := by
  rw [List.take_succ_eq_append_getElem h, encs_append]
  simp [encs]
theorem encs_small {L : List ByteArray} (h : ∀ s ∈ L, boxB s = true) (hl : L.length ≤ 8) (k : Nat) : (encs (L.take k)).length ≤ 600 := by
  have key : ∀ L : List ByteArray, (∀ s ∈ L, boxB s = true) → (encs L).length ≤ 72 * L.length := fun L => by
    induction L with
    | nil => intro _; simp [encs]
    | cons r L ih =>
      intro hL
      have h1 := ih fun s hs => hL s (List.mem_cons_of_mem _ hs)
      have h2 := box_size (hL r (by simp))
      rw [encs_cons, List.length_append, enc_length, ns_length, List.length_cons]
      omega
  have := key (L.take k) (fun s hs => h s (List.mem_of_mem_take hs))
  rw [List.length_take] at this
  omega
def head5 (m : Ml) : List Nat := num8 m.id.toNat ++ num8 m.parent.toNat ++ num8 m.born.toNat ++ enc (ns m.frm) ++ num8 m.rcpts.length
theorem content_head (m : Ml) : content m = head5 m ++ encs m.rcpts ++ enc m.body := by simp [content, head5]
theorem head5_small {m : Ml} (h : Fine m) : (head5 m).length ≤ 200 := by
  have f : m.frm.size ≤ 64 := by rcases h.frm with h | h; omega; exact box_size h
  simp only [head5, List.length_append, num8_length, enc_length, ns_length]
  omega

/-- What content answers. -/
def Contents (m : Ml) (w : World) (e : Ending) (w' : World) : Prop := ∃ g n, n = (content m).length ∧ w.heap.size ≤ g ∧ e = .returned (.tuple #[.slice (some ⟨g, 0, none⟩) n n, .bool true]) ∧ At w' g 5 (cellsOf (content m)).toArray ∧ Keep (fun _ => False) w w'
set_option maxHeartbeats 4000000 in
set_option maxRecDepth 100000 in
theorem contentC {P : Nat → Prop} {w : World} {m : Ml} {rx : Option Addr} {rn rc : Nat} {bx : Option Addr} {bn bc : Nat} (h : MlAt P w m rx rn rc bx bn bc) (hf : Fine m) :
    Calls Tryd.prog 16 #[.agg (mlC m rx rn rc bx bn bc)] w (Contents m w) := by
  have k0 := keep_new w (.cells (mlC m rx rn rc bx bn bc) 25)
  have H := Lib.hid ((h.mono (Q := fun k => k < w.heap.size) (fun k hk _ => hk)).quiet k0)
  have K0 := Lib.hid k0
  have HF := Lib.hid hf
  have HSM := Lib.hid (content_small hf)
  have HH5 := Lib.hid (head5_small hf)
  have i0 := hf.id
  have p0 := hf.parent
  have b0 := hf.born
  have n0 := hf.n
  have f0 : m.frm.size ≤ 64 := by rcases hf.frm with h | h; omega; exact box_size h
  have body0 := hf.body
  have HRN := Lib.hid h.hrn
  have HBN := Lib.hid h.hbn
  obtain ⟨W0, hW0⟩ : ∃ W0, W0 = w.alloc (.cells (mlC m rx rn rc bx bn bc) 25) := ⟨_, rfl⟩
  have HA : Hid (At W0 w.heap.size 25 (mlC m rx rn rc bx bn bc)) := Lib.hid (by rw [hW0]; exact At.new w _ _)
  have hS0 : W0.heap.size = w.heap.size + 1 := by rw [hW0]; simp
  have HS0 := Lib.hid hS0
  have HW0 : Hid (W0 = w.alloc (.cells #[.int .i64 m.id, .int .i64 m.parent, .int .i64 m.born, .string m.frm, .slice rx rn rc, .slice bx bn bc] 25)) := Lib.hid hW0
  rw [← hW0] at H K0
  clear h k0 hf hW0 hS0
  unfold mlC
  have cells : ∀ W, Keep (fun _ => False) W0 W → W.cell? ⟨w.heap.size, 0, none⟩ = some (.int .i64 m.id) ∧ W.cell? ⟨w.heap.size, 1, none⟩ = some (.int .i64 m.parent) ∧ W.cell? ⟨w.heap.size, 2, none⟩ = some (.int .i64 m.born) ∧ W.cell? ⟨w.heap.size, 3, none⟩ = some (.string m.frm) ∧ W.cell? ⟨w.heap.size, 4, none⟩ = some (.slice rx rn rc) ∧ W.cell? ⟨w.heap.size, 5, none⟩ = some (.slice bx bn bc) := fun W k => by
    have hA := HA.out.keep k (fun h => h)
    exact ⟨hA.cell 0, hA.cell 1, hA.cell 2, hA.cell 3, hA.cell 4, hA.cell 5⟩
  have HC := Lib.hid cells
  clear cells
  obtain ⟨p, hp⟩ : ∃ p, p = w.heap.size + 1 := ⟨_, rfl⟩
  have G0 : Hid (Wg W0 (W0.alloc (.cells #[.slice none 0 0, .bool false] 39)) p none []) := Lib.hid (by rw [hp, ← HS0.out]; exact Wg.new (Keep.refl _ _))
  have c0 := (HC.out _ G0.out.kp).1
  rw [HW0.out] at c0
  have HP := Lib.hid hp
  go_enter Tryd.func16, Tryd.ntmps16
  go_wp2_with fail
  rw [← HW0.out, ← HP.out]
  refine (G0.out.num m.id (by omega) (by omega) (by simp)).mono ?_
  rintro e w1 ⟨rfl, q1, hG1⟩
  have G1 : Hid (Wg W0 w1 p q1 (num8 m.id.toNat)) := Lib.hid hG1
  have c1 := (HC.out _ hG1.kp).2.1
  clear hG1 c0 hp G0
  go_wp2_with fail
  refine (G1.out.num m.parent (by omega) (by omega) (by simp [num8_length])).mono ?_
  rintro e w2 ⟨rfl, q2, hG2⟩
  have G2 := Lib.hid hG2
  have c2 := (HC.out _ hG2.kp).2.2.1
  clear hG2 c1 G1
  go_wp2_with fail
  refine (G2.out.num m.born (by omega) (by omega) (by simp [num8_length])).mono ?_
  rintro e w3 ⟨rfl, q3, hG3⟩
  have G3 := Lib.hid hG3
  have c3 := (HC.out _ hG3.kp).2.2.2.1
  clear hG3 c2 G2
  obtain ⟨cc3, w3', kc3, hB3, hK3⟩ := conv_str m.frm w3
  have G3' := Lib.hid (G3.out.quiet hK3)
  have HB3 := Lib.hid hB3
  have HNR := Lib.hid (G3.out.near (w' := w3'))
  clear hB3 hK3
  go_wp2_with fail
  refine (G3'.out.byt (some ⟨w3.heap.size, 0, none⟩) m.frm.size cc3 (ns m.frm) (ns_length _) (by simp [num8_length]; omega) HB3.out HNR.out).mono ?_
  rintro e w4 ⟨rfl, q4, hG4⟩
  have G4 := Lib.hid hG4
  have c4 := (HC.out _ hG4.kp).2.2.2.2.1
  clear hG4 c3 G3 G3' HB3 HNR kc3
  go_wp2_with fail
  refine (G4.out.num (rn : Int) (by omega) (by have := HRN.out; omega) (by simp [num8_length, enc_length, ns_length]; omega)).mono ?_
  rintro e w5 ⟨rfl, q5, hG5⟩
  have G5 : Hid (Wg W0 w5 p q5 (head5 m ++ encs (m.rcpts.take 0))) := Lib.hid (by
    have e : head5 m ++ encs (m.rcpts.take 0) = num8 m.id.toNat ++ num8 m.parent.toNat ++ num8 m.born.toNat ++ enc (ns m.frm) ++ num8 ((rn : Int)).toNat := by
      rw [Int.toNat_natCast, HRN.out]
      simp [head5, encs]
    rw [e]
    exact hG5)
  have c5 := (HC.out _ hG5.kp).2.2.2.2.1
  have hrn8 : rn ≤ 8 := by have := HRN.out; omega
  clear hG5 c4 G4
  go_wp2
  go_loopw [33] (fun i wr => ∃ (k : Nat) (q : Option Nat), k ≤ rn ∧ i = .int .i64 (k : Int) ∧ Hid (Wg W0 wr p q (head5 m ++ encs (m.rcpts.take k)))) (fun i _ => rn - (intOf i).toNat)
  case atStart => exact ⟨0, q5, by omega, rfl, G5.out⟩
  case round =>
    obtain ⟨k, q, hk, rfl, G⟩ := hrel
    by_cases hlt : (k : Int) < (rn : Int)
    · have hkl : k < m.rcpts.length := by have := HRN.out; omega
      obtain ⟨b, off, _, _, hx, hc⟩ := H.out.rs.at k hkl
      subst hx
      have d1 := G.out.kp.cell hc (fun h => h)
      have hs64 := box_size (HF.out.r _ (List.getElem_mem hkl))
      have het := encs_take m.rcpts k hkl
      obtain ⟨s, hs⟩ : ∃ s, s = m.rcpts[k] := ⟨_, rfl⟩
      rw [← hs] at d1 hs64 het
      have HET := Lib.hid het
      have HSL := Lib.hid (encs_small HF.out.r HF.out.n.2 k)
      have k0 : (0 : Int) ≤ (k : Int) := by omega
      obtain ⟨cc, wr', kc, hB, hK⟩ := conv_str s wr
      have G' := Lib.hid (G.out.quiet hK)
      have HB := Lib.hid hB
      have HNR := Lib.hid (G.out.near (w' := wr'))
      clear hc hs hkl het hB hK
      go_wp2_with fail
      refine (G'.out.byt (some ⟨wr.heap.size, 0, none⟩) s.size cc (ns s) (ns_length _) (by have := HSL.out; have := HH5.out; rw [List.length_append]; omega) HB.out HNR.out).mono ?_
      rintro e w6 ⟨rfl, q6, hG6⟩
      rw [List.append_assoc, ← HET.out] at hG6
      have G6 := Lib.hid hG6
      clear hG6 G' HB HNR kc
      go_wp2
      go_roundw
      case rel => exact ⟨k + 1, q6, by omega, by go_num, G6.out⟩
      case measure => simp [intOf]; omega
    · have hkn : k = m.rcpts.length := by have := HRN.out; omega
      have G7 : Hid (Wg W0 wr p q (head5 m ++ encs m.rcpts)) := Lib.hid (by
        have := G.out
        rw [hkn, List.take_length] at this
        exact this)
      have HSL := Lib.hid (encs_small HF.out.r HF.out.n.2 m.rcpts.length)
      have c7 := (HC.out _ G7.out.kp).2.2.2.2.2
      clear hkn G
      go_wp2_with fail
      refine (G7.out.byt bx bn bc m.body HBN.out.symm (by have := HSL.out; have := HH5.out; have := HBN.out; rw [List.take_length] at HSL; have := HSL.out; rw [List.length_append]; omega) (H.out.bs.quiet G7.out.kp) (fun k hk hlt => G7.out.far k hk (by have := HS0.out; omega))).mono ?_
      rintro e w8 ⟨rfl, q8, hG8⟩
      rw [← content_head] at hG8
      have G8 := Lib.hid hG8
      clear hG8 G7 c7
      go_wp2_with fail
      refine (out p q8 (some (content m)) (by have := HSM.out; simp; omega) w8 G8.out.wr).mono ?_
      rintro e w9 ⟨g, n, hn, hg, rfl, hat, hk9⟩
      have HN9 := Lib.hid hn
      clear hn
      go_wp2
      go_ret2
      refine ⟨g, n, HN9.out, ?_, rfl, hat, (K0.out.trans G8.out.kp (fun _ _ h => h)).trans hk9 (fun _ _ h => h)⟩
      have h1 := K0.out.size
      have h2 := G8.out.kp.size
      omega

/-! ### The checksum -/
theorem Bytes.crc {P : Nat → Prop} {w : World} {x : Option Addr} {bs : List Nat} (h : Bytes P w x bs) : Crc.Bytes w x bs := by
  refine ⟨h.1, ?_⟩
  rcases h.2 with h0 | ⟨b, off, _, hx, hc⟩
  · exact .inl h0
  · exact .inr ⟨b, off, hx, hc⟩
theorem sumC {P : Nat → Prop} {w : World} (x : Option Addr) (n cap : Nat) (bs : List Nat) (hn : n = bs.length) (hl : n ≤ 1000000) (h : Bytes P w x bs) :
    Calls Tryd.prog 28 #[.slice x n cap] w fun e w' => e = .returned (.int .u32 ((Crc.sum bs : Nat) : Int)) ∧ Keep (fun _ => False) w w' := by
  subst hn
  exact (Crc.sumOf x cap bs (by omega) w h.crc).mono fun e w' ⟨he, hb⟩ => ⟨he, Keep.of_below hb⟩
set_option maxHeartbeats 2000000 in
theorem checksumC {P : Nat → Prop} {w : World} (x : Option Addr) (n cap : Nat) (bs : List Nat) (hn : n = bs.length) (hl : n ≤ 1000000) (h : Bytes P w x bs) :
    Calls Tryd.prog 19 #[.slice x n cap] w (Copy (sum4 bs) w) := by
  have HC := Lib.hid (sumC x n cap bs hn hl h)
  have hs := Crc.sum_lt bs
  have HS4 : Hid (sum4 bs = [Crc.sum bs / 16777216, Crc.sum bs / 65536 % 256, Crc.sum bs / 256 % 256, Crc.sum bs % 256]) := Lib.hid rfl
  obtain ⟨s, hse⟩ : ∃ s, s = Crc.sum bs := ⟨_, rfl⟩
  rw [← hse] at HC hs HS4
  have s0 : (0 : Int) ≤ (s : Int) := by omega
  have s1 : (s : Int) ≤ 4294967295 := by omega
  clear h hn hse
  go_enter Tryd.func19, Tryd.ntmps19
  go_wp2_with fail
  refine HC.out.mono ?_
  rintro e w1 ⟨rfl, hk1⟩
  go_wp2
  go_ret
  refine ⟨w1.heap.size, 4, rfl, hk1.size, rfl, ?_, hk1.alloc _⟩
  have e4 : (cellsOf (sum4 bs)).toArray = #[.int .u8 ((s : Int) / 16777216), .int .u8 ((s : Int) / 65536 % 256), .int .u8 ((s : Int) / 256 % 256), .int .u8 ((s : Int) % 256)] := by
    rw [HS4.out]
    simp [cellsOf]
  rw [e4]
  exact At.new w1 5 _

/-! ### Encode -/
def EncP (m : Ml) (w : World) (e : Ending) (w' : World) : Prop :=
  Keep (fun _ => False) w w' ∧ if goodM m = true then ∃ y n cap, n = (record m).length ∧ e = .returned (.tuple #[.slice y n cap, .bool true]) ∧ Own w' (.slice y n cap) (record m) ∧ ∀ b, (Value.slice y n cap).ownBlock = some b → w.heap.size ≤ b
    else e = .returned (.tuple #[.slice none 0 0, .bool false])
set_option maxHeartbeats 4000000 in
set_option maxRecDepth 100000 in
theorem encodeC (hB : BoxC) (hL : LinesC) {P : Nat → Prop} {w : World} (hE : Env w) {m : Ml} {rx : Option Addr} {rn rc : Nat} {bx : Option Addr} {bn bc : Nat} (h : MlAt P w m rx rn rc bx bn bc) :
    Calls Tryd.prog 9 #[.agg (mlC m rx rn rc bx bn bc)] w (EncP m w) := by
  have k0 := keep_new w (.cells (mlC m rx rn rc bx bn bc) 25)
  have HA : Hid (At (w.alloc (.cells (mlC m rx rn rc bx bn bc) 25)) w.heap.size 25 (mlC m rx rn rc bx bn bc)) := Lib.hid (At.new w _ _)
  have H := Lib.hid (h.quiet k0)
  have HG := Lib.hid (goodC hB hL (hE.quiet k0) (h.quiet k0))
  have HCo : Hid (∀ W, Keep (fun _ => False) (w.alloc (.cells (mlC m rx rn rc bx bn bc) 25)) W → Fine m → Calls Tryd.prog 16 #[.agg (mlC m rx rn rc bx bn bc)] W (Contents m W)) := Lib.hid (fun W k hf => contentC ((h.quiet k0).quiet k) hf)
  have K0 := Lib.hid k0
  have HBL := Lib.hid h.bs.1
  have HM : Hid (∀ e w', EncP m w e w' = (Keep (fun _ => False) w w' ∧ if goodM m = true then ∃ y n cap, n = (record m).length ∧ e = .returned (.tuple #[.slice y n cap, .bool true]) ∧ Own w' (.slice y n cap) (record m) ∧ ∀ b, (Value.slice y n cap).ownBlock = some b → w.heap.size ≤ b
    else e = .returned (.tuple #[.slice none 0 0, .bool false]))) := Lib.hid (fun _ _ => rfl)
  obtain ⟨M, hM⟩ : ∃ M, M = mlC m rx rn rc bx bn bc := ⟨_, rfl⟩
  clear h k0 hE hB hL
  unfold mlC at HG HCo HA K0 H ⊢
  cases hg : goodM m with
  | false =>
    rw [hg] at HG
    go_enter Tryd.func9, Tryd.ntmps9
    go_wp2_with fail
    refine HG.out.mono ?_
    rintro e w1 ⟨rfl, hk1⟩
    go_wp2
    go_ret2
    refine ⟨K0.out.trans hk1 (fun _ _ h => h), ?_⟩
    rw [hg]
    rfl
  | true =>
    rw [hg] at HG
    have HF := Lib.hid (goodM_fine hg)
    have HSM := Lib.hid (content_small (goodM_fine hg))
    have HGG := Lib.hid hg
    clear hg
    go_enter Tryd.func9, Tryd.ntmps9
    go_wp2_with fail
    refine HG.out.mono ?_
    rintro e w1 ⟨rfl, hk1⟩
    have K1 := Lib.hid hk1
    obtain ⟨a0, a1, a2, a3, a4, a5⟩ : w1.cell? ⟨w.heap.size, 0, none⟩ = some (.int .i64 m.id) ∧ w1.cell? ⟨w.heap.size, 1, none⟩ = some (.int .i64 m.parent) ∧ w1.cell? ⟨w.heap.size, 2, none⟩ = some (.int .i64 m.born) ∧ w1.cell? ⟨w.heap.size, 3, none⟩ = some (.string m.frm) ∧ w1.cell? ⟨w.heap.size, 4, none⟩ = some (.slice rx rn rc) ∧ w1.cell? ⟨w.heap.size, 5, none⟩ = some (.slice bx bn bc) := by
      have hA := HA.out.keep hk1 (fun h => h)
      exact ⟨hA.cell 0, hA.cell 1, hA.cell 2, hA.cell 3, hA.cell 4, hA.cell 5⟩
    clear hk1
    go_wp2_with fail
    refine (HCo.out w1 K1.out HF.out).mono ?_
    rintro e w2 ⟨g2, n2, hn2, hg2, rfl, hat2, hk2⟩
    have K2 := Lib.hid ((K0.out.trans K1.out (fun _ _ h => h)).trans hk2 (fun _ _ h => h))
    have HN2 := Lib.hid hn2
    have hn2b : n2 ≤ 9000 := by rw [hn2]; exact HSM.out
    have HAT2 := Lib.hid hat2
    have g2lt := hat2.lt
    have HG2 := Lib.hid hg2
    clear hn2 hat2 hk2 a0 a1 a2 a3 a4 a5 hg2
    obtain ⟨p, hp⟩ : ∃ p, p = w2.heap.size := ⟨_, rfl⟩
    have G2 : Hid (Wg w2 (w2.alloc (.cells #[.slice none 0 0, .bool false] 39)) p none []) := Lib.hid (by rw [hp]; exact Wg.new (Keep.refl _ _))
    have HP := Lib.hid hp
    have HB2 : Hid (Bytes (· = g2) w2 (some ⟨g2, 0, none⟩) (content m)) := Lib.hid (Bytes.of_at HAT2.out (content_lt HBL.out))
    go_wp2_with fail
    rw [← HP.out]
    refine (G2.out.byt (some ⟨g2, 0, none⟩) n2 n2 (content m) HN2.out.symm (by simp; omega) (HB2.out.quiet G2.out.kp) (fun k hk e => G2.out.far k hk (by have h : k = g2 := e; omega))).mono ?_
    rintro e w3 ⟨rfl, q3, hG3⟩
    have G3 : Hid (Wg w2 w3 p q3 (enc (content m))) := Lib.hid hG3
    clear hG3 G2 hp
    go_wp2_with fail
    refine (out p q3 (some (enc (content m))) (by have := HN2.out; simp [enc_length]; omega) w3 G3.out.wr).mono ?_
    rintro e w4 ⟨g4, n4, hn4, hg4, rfl, hat4, hk4⟩
    have HN4 := Lib.hid hn4
    have K4 := Lib.hid (G3.out.kp.trans hk4 (fun _ _ h => h))
    have hn4b : n4 ≤ 9008 := by rw [hn4, enc_length]; have := HN2.out; omega
    have HAT4 := Lib.hid hat4
    have HG4 : Hid (w2.heap.size ≤ g4) := Lib.hid (Nat.le_trans G3.out.kp.size hg4)
    clear hn4 hat4 hk4 hg4 G3
    go_wp2_with fail
    refine (checksumC (some ⟨g2, 0, none⟩) n2 n2 (content m) HN2.out (by omega) (HB2.out.quiet K4.out)).mono ?_
    rintro e w5 ⟨g5, n5, hn5, hg5, rfl, hat5, hk5⟩
    obtain rfl : n5 = 4 := hn5
    have HAT5 := Lib.hid hat5
    have HO4 : Hid (Own w5 (.slice (some ⟨g4, 0, none⟩) n4 n4) (enc (content m))) := Lib.hid (by
      have := Own.of_at (HAT4.out.keep hk5 (fun h => h)) (enc_lt (content_lt HBL.out)) (by rw [← HN4.out]; simp only [maxLen]; omega)
      rw [← HN4.out] at this
      exact this)
    have K5 := Lib.hid ((K2.out.trans K4.out (fun _ _ h => h)).trans hk5 (fun _ _ h => h))
    clear hg5 hat5 hk5
    go_wp2_with
      (at_builtin
       refine wpList_append_bytes (by rfl) (.tmp 29) (.tmp 31) (by rfl) (.slice (some ⟨g4, 0, none⟩) n4 n4) (enc (content m)) (by rfl) HO4.out (· = g5) (some ⟨g5, 0, none⟩) 4 4 (sum4 (content m)) (by rfl) rfl (Bytes.of_at HAT5.out (sum4_lt _)) (by have := HN4.out; omega) ?_
       intro y6 n6 cap6 w6 hn6 hO6 hk6 hnew6
       have HN6 := Lib.hid hn6.out
       have HO6 := Lib.hid hO6
       have HK6 := Lib.hid hk6
       have HW6 := Lib.hid hnew6
       clear hn6 hO6 hk6 hnew6)
    go_ret2
    have hsz : w.heap.size ≤ w2.heap.size := K2.out.size
    have h4 := HG4.out
    refine ⟨K5.out.trans HK6.out (fun i hi e => ?_), ?_⟩
    · injection e with e
      simp at e
      omega
    · rw [HGG.out, if_pos rfl]
      refine ⟨y6, n6, cap6, HN6.out, rfl, HO6.out, fun b hb => ?_⟩
      rcases HW6.out b hb with h | h
      · injection h with h
        simp at h
        omega
      · have := K5.out.size; omega
end Go.Proofs.YtpdopjpibmhamaaDoor.Ln
