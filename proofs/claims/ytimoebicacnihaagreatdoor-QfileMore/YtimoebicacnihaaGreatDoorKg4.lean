/-
  Several texts in one: EMath HS HMath J0.
-/
import Derived.Test.YtimoebicacnihaaGreatDoorKWMath
import Derived.Test.YtimoebicacnihaaGreatDoorKg3
import Derived.Test.YtimoebicacnihaaGreatDoorKg2
import Derived.Test.YtimoebicacnihaaGreatDoorKg1

section
/-
  The plain words of stage 10: mails, their records as bytes, what is read of any bytes; a record that is cut, or of which a byte is turned, is none. Nothing of the program is imported.
-/
namespace Go.Proofs.YtimoebicacnihaaGreatDoor.Ln
set_option linter.unusedVariables false
set_option linter.unusedSimpArgs false

/-! ### One byte more turned: another sum -/
theorem zip_self : ∀ r : List Nat, List.zipWith (· ^^^ ·) r r = List.replicate r.length 0
  | [] => rfl
  | c :: r => by
    rw [List.zipWith_cons_cons, zip_self r, Nat.xor_self]
    rfl
theorem sum_one {a r : List Nat} {c d : Nat} (ha : ∀ x ∈ a, x < 256) (hr : ∀ x ∈ r, x < 256) (hc : c < 256) (hd : d < 256) (h : c ≠ d) : Crc.sum (a ++ c :: r) ≠ Crc.sum (a ++ d :: r) := by
  intro e
  have hl : ∀ x, x < 256 → ∀ y ∈ a ++ x :: r, y < 256 := fun x hx y hy => by
    rcases List.mem_append.1 hy with hy | hy
    · exact ha y hy
    · rcases List.mem_cons.1 hy with rfl | hy
      · exact hx
      · exact hr y hy
  have l1 := Crc.run_lt _ 4294967295 (by omega) (hl c hc)
  have l2 := Crc.run_lt _ 4294967295 (by omega) (hl d hd)
  have e' : Crc.run 4294967295 (a ++ c :: r) = Crc.run 4294967295 (a ++ d :: r) := by unfold Crc.sum at e; omega
  rw [Crc.run_append, Crc.run_append] at e'
  have hS := Crc.run_lt a 4294967295 (by omega) ha
  obtain ⟨S, hSe⟩ : ∃ S, S = Crc.run 4294967295 a := ⟨_, rfl⟩
  rw [← hSe] at e' hS
  have e2 : Crc.run (Crc.by1 S c) r = Crc.run (Crc.by1 S d) r := e'
  have hx := Crc.run_xor r r (Crc.by1 S c) (Crc.by1 S d) rfl hr hr
  rw [e2, Nat.xor_self, zip_self] at hx
  by_cases h0 : Crc.by1 S c ^^^ Crc.by1 S d = 0
  · rw [Crc.by1_eq, Crc.by1_eq, ← Crc.sts_xor] at h0
    have e3 : (S ^^^ c) ^^^ (S ^^^ d) = c ^^^ d := by
      rw [Nat.xor_comm S c, Nat.xor_assoc, ← Nat.xor_assoc S S d, Nat.xor_self, Nat.zero_xor]
    rw [e3] at h0
    have h1 : c ^^^ d = 0 := Classical.byContradiction fun hn => Crc.sts_ne 8 _ (Crc.xor_lt32 (by omega) (by omega)) hn h0
    have h2 : c ^^^ (c ^^^ d) = c := by rw [h1, Nat.xor_zero]
    rw [← Nat.xor_assoc, Nat.xor_self, Nat.zero_xor] at h2
    exact h h2.symm
  · exact Crc.run_ne _ _ (Crc.xor_lt32 (Crc.by1_lt hS hc) (Crc.by1_lt hS hd)) h0 hx

/-! ### Mails -/
structure Ml where
  id : Int
  parent : Int
  born : Int
  frm : ByteArray
  rcpts : List ByteArray
  body : List Nat
def boxB (s : ByteArray) : Bool := Ad.isBox s.data.toList && decide (Ad.parseM s.data.toList = s.data.toList)
def numsB (m : Ml) : Bool := decide (1 ≤ m.id ∧ m.id ≤ 999999999 ∧ 0 ≤ m.parent ∧ m.parent < m.id ∧ 0 ≤ m.born ∧ m.born ≤ 1099511627776)
def frmB (s : ByteArray) : Bool := decide (s.size = 0) || boxB s
def rcptsB (L : List ByteArray) : Bool := decide (1 ≤ L.length ∧ L.length ≤ 8) && L.all boxB
def textB (b : List Nat) : Bool := decide (b.length ≤ 8192) && bodyB b
def goodM (m : Ml) : Bool := numsB m && (frmB m.frm && (rcptsB m.rcpts && textB m.body))
def encs (L : List ByteArray) : List Nat := (L.map fun r => enc (ns r)).flatten
def content (m : Ml) : List Nat := num8 m.id.toNat ++ (num8 m.parent.toNat ++ (num8 m.born.toNat ++ (enc (ns m.frm) ++ (num8 m.rcpts.length ++ (encs m.rcpts ++ enc m.body)))))
def sum4 (b : List Nat) : List Nat := [Crc.sum b / 16777216, Crc.sum b / 65536 % 256, Crc.sum b / 256 % 256, Crc.sum b % 256]
def record (m : Ml) : List Nat := enc (content m) ++ sum4 (content m)
theorem sum4_length (b : List Nat) : (sum4 b).length = 4 := rfl
theorem sum4_lt (b : List Nat) : ∀ c ∈ sum4 b, c < 256 := by
  have h := Crc.sum_lt b
  intro c hc
  simp only [sum4, List.mem_cons, List.not_mem_nil, or_false] at hc
  omega
theorem sum4_inj {a b : List Nat} (h : sum4 a = sum4 b) : Crc.sum a = Crc.sum b := by
  have h1 := Crc.sum_lt a
  have h2 := Crc.sum_lt b
  simp only [sum4, List.cons.injEq, and_true] at h
  omega
structure May (m : Ml) : Prop where
  i0 : 0 ≤ m.id
  i1 : m.id.toNat ≤ top
  p0 : 0 ≤ m.parent
  p1 : m.parent.toNat ≤ top
  b0 : 0 ≤ m.born
  b1 : m.born.toNat ≤ top
  f : m.frm.size ≤ top
  n : m.rcpts.length ≤ top
  r : ∀ s ∈ m.rcpts, s.size ≤ top
  t : m.body.length ≤ top
  tb : ∀ c ∈ m.body, c < 256
theorem box_size {s : ByteArray} (h : boxB s = true) : s.size ≤ 64 := by
  simp only [boxB, Bool.and_eq_true] at h
  have h1 := h.1
  simp only [Ad.isBox, Bool.and_eq_true, decide_eq_true_eq] at h1
  have := h1.1
  have e : s.data.toList.length = s.size := Array.length_toList
  omega
structure Fine (m : Ml) : Prop where
  id : 1 ≤ m.id ∧ m.id ≤ 999999999
  parent : 0 ≤ m.parent ∧ m.parent < m.id
  born : 0 ≤ m.born ∧ m.born ≤ 1099511627776
  frm : m.frm.size = 0 ∨ boxB m.frm = true
  n : 1 ≤ m.rcpts.length ∧ m.rcpts.length ≤ 8
  r : ∀ s ∈ m.rcpts, boxB s = true
  body : m.body.length ≤ 8192
  bodyB : bodyB m.body = true
theorem goodM_fine {m : Ml} (h : goodM m = true) : Fine m := by
  simp only [goodM, numsB, frmB, rcptsB, textB, Bool.and_eq_true, Bool.or_eq_true, decide_eq_true_eq, List.all_eq_true] at h
  obtain ⟨⟨h1, h2, h3, h4, h5, h6⟩, h7, ⟨⟨h8, h9⟩, h10⟩, h11, h12⟩ := h
  exact ⟨⟨h1, h2⟩, ⟨h3, h4⟩, ⟨h5, h6⟩, h7, ⟨h8, h9⟩, h10, h11, h12⟩
theorem Fine.may {m : Ml} (h : Fine m) (hb : ∀ c ∈ m.body, c < 256) : May m := by
  have a := h.id
  have b := h.parent
  have c := h.born
  have d := h.n
  have e := h.body
  have f : m.frm.size ≤ 64 := by rcases h.frm with h | h; omega; exact box_size h
  refine ⟨by omega, ?_, by omega, ?_, by omega, ?_, ?_, ?_, fun s hs => ?_, ?_, hb⟩
  any_goals (unfold top; omega)
  have := box_size (h.r s hs)
  unfold top; omega

/-! ### Reading -/
def rdS : Nat → Option (List Nat) → Option (List Nat)
  | 0, s => s
  | n + 1, s => bytS (rdS n s)
def rdL : Nat → Option (List Nat) → List ByteArray
  | 0, _ => []
  | n + 1, s => rdL n s ++ [str (bytV (rdS n s))]
def q1 (bs : List Nat) : Option (List Nat) := numS (some bs)
def q2 (bs : List Nat) : Option (List Nat) := numS (q1 bs)
def q3 (bs : List Nat) : Option (List Nat) := numS (q2 bs)
def q4 (bs : List Nat) : Option (List Nat) := bytS (q3 bs)
def q5 (bs : List Nat) : Option (List Nat) := numS (q4 bs)
def cntM (bs : List Nat) : Nat := numV (q4 bs)
def readMl (bs : List Nat) : Ml := ⟨(numV (some bs) : Nat), (numV (q1 bs) : Nat), (numV (q2 bs) : Nat), str (bytV (q3 bs)), rdL (cntM bs) (q5 bs), bytV (rdS (cntM bs) (q5 bs))⟩
def lastS (bs : List Nat) : Option (List Nat) := bytS (rdS (cntM bs) (q5 bs))
def readOk (bs : List Nat) : Bool := decide (cntM bs ≤ 8) && doneB (lastS bs)
def innerM (b : List Nat) : List Nat := bytV (some b)
def tailM (b : List Nat) : List Nat := (bytS (some b)).getD []
def wrapB (b : List Nat) : Bool := bytOk (some b) && (decide (4 ≤ (tailM b).length) && decide ((tailM b).take 4 = sum4 (innerM b)))
def beginsB (b : List Nat) : Bool := wrapB b && (readOk (innerM b) && goodM (readMl (innerM b)))

theorem rdL_length (s : Option (List Nat)) : ∀ n, (rdL n s).length = n
  | 0 => rfl
  | n + 1 => by rw [rdL, List.length_append, rdL_length s n]; rfl
theorem encs_cons (r : ByteArray) (L : List ByteArray) : encs (r :: L) = enc (ns r) ++ encs L := rfl
theorem encs_append (A B : List ByteArray) : encs (A ++ B) = encs A ++ encs B := by simp [encs]
theorem encs_lt (L : List ByteArray) : ∀ c ∈ encs L, c < 256 := by
  intro c hc
  obtain ⟨l, hl, hc⟩ := List.mem_flatten.1 hc
  obtain ⟨r, _, rfl⟩ := List.mem_map.1 hl
  exact enc_lt (ns_lt r) c hc
theorem content_lt {m : Ml} (h : ∀ c ∈ m.body, c < 256) : ∀ c ∈ content m, c < 256 := by
  intro c hc
  simp only [content, List.mem_append] at hc
  rcases hc with hc | hc | hc | hc | hc | hc | hc
  · exact num8_lt _ c hc
  · exact num8_lt _ c hc
  · exact num8_lt _ c hc
  · exact enc_lt (ns_lt _) c hc
  · exact num8_lt _ c hc
  · exact encs_lt _ c hc
  · exact enc_lt h c hc
theorem record_lt {m : Ml} (h : ∀ c ∈ m.body, c < 256) : ∀ c ∈ record m, c < 256 := fun c hc => by
  rcases List.mem_append.1 hc with hc | hc
  · exact enc_lt (content_lt h) c hc
  · exact sum4_lt _ c hc
theorem record_length (m : Ml) : (record m).length = (content m).length + 12 := by
  rw [record, List.length_append, enc_length, sum4_length]; omega

theorem rd_back {L : List ByteArray} (h : ∀ s ∈ L, s.size ≤ top) (rest : List Nat) : ∀ n, n ≤ L.length → rdS n (some (encs L ++ rest)) = some (encs (L.drop n) ++ rest) ∧ rdL n (some (encs L ++ rest)) = L.take n
  | 0, _ => ⟨rfl, rfl⟩
  | n + 1, hn => by
    obtain ⟨h1, h2⟩ := rd_back h rest n (by omega)
    have hd : L.drop n = L[n] :: L.drop (n + 1) := List.drop_eq_getElem_cons (by omega)
    have hs := h L[n] (List.getElem_mem _)
    obtain ⟨_, b2, b3⟩ := byt_back (ns L[n]) (by rw [ns_length]; exact hs) (encs (L.drop (n + 1)) ++ rest)
    rw [← List.append_assoc, ← encs_cons, ← hd] at b2 b3
    refine ⟨by rw [rdS, h1, b3], ?_⟩
    rw [rdL, h2, h1, b2, str_ns, List.take_succ_eq_append_getElem (by omega)]
theorem read_back {m : Ml} (hm : May m) (rest : List Nat) : readMl (content m ++ rest) = m ∧ lastS (content m ++ rest) = some rest ∧ cntM (content m ++ rest) = m.rcpts.length := by
  have e : content m ++ rest = num8 m.id.toNat ++ (num8 m.parent.toNat ++ (num8 m.born.toNat ++ (enc (ns m.frm) ++ (num8 m.rcpts.length ++ (encs m.rcpts ++ (enc m.body ++ rest)))))) := by simp [content]
  obtain ⟨_, a2, a3⟩ := num_back m.id.toNat hm.i1 (num8 m.parent.toNat ++ (num8 m.born.toNat ++ (enc (ns m.frm) ++ (num8 m.rcpts.length ++ (encs m.rcpts ++ (enc m.body ++ rest))))))
  obtain ⟨_, b2, b3⟩ := num_back m.parent.toNat hm.p1 (num8 m.born.toNat ++ (enc (ns m.frm) ++ (num8 m.rcpts.length ++ (encs m.rcpts ++ (enc m.body ++ rest)))))
  obtain ⟨_, c2, c3⟩ := num_back m.born.toNat hm.b1 (enc (ns m.frm) ++ (num8 m.rcpts.length ++ (encs m.rcpts ++ (enc m.body ++ rest))))
  obtain ⟨_, d2, d3⟩ := byt_back (ns m.frm) (by rw [ns_length]; exact hm.f) (num8 m.rcpts.length ++ (encs m.rcpts ++ (enc m.body ++ rest)))
  obtain ⟨_, f2, f3⟩ := num_back m.rcpts.length hm.n (encs m.rcpts ++ (enc m.body ++ rest))
  obtain ⟨g3, g2⟩ := rd_back hm.r (enc m.body ++ rest) m.rcpts.length (Nat.le_refl _)
  rw [List.drop_length, show encs [] ++ (enc m.body ++ rest) = enc m.body ++ rest from rfl] at g3
  rw [List.take_length] at g2
  obtain ⟨_, h2, h3⟩ := byt_back m.body hm.t rest
  rw [← e] at a2 a3
  have k1 : q1 (content m ++ rest) = some (num8 m.parent.toNat ++ (num8 m.born.toNat ++ (enc (ns m.frm) ++ (num8 m.rcpts.length ++ (encs m.rcpts ++ (enc m.body ++ rest)))))) := a3
  have k2 : q2 (content m ++ rest) = some (num8 m.born.toNat ++ (enc (ns m.frm) ++ (num8 m.rcpts.length ++ (encs m.rcpts ++ (enc m.body ++ rest))))) := by rw [q2, k1, b3]
  have k3 : q3 (content m ++ rest) = some (enc (ns m.frm) ++ (num8 m.rcpts.length ++ (encs m.rcpts ++ (enc m.body ++ rest)))) := by rw [q3, k2, c3]
  have k4 : q4 (content m ++ rest) = some (num8 m.rcpts.length ++ (encs m.rcpts ++ (enc m.body ++ rest))) := by rw [q4, k3, d3]
  have k5 : q5 (content m ++ rest) = some (encs m.rcpts ++ (enc m.body ++ rest)) := by rw [q5, k4, f3]
  have kn : cntM (content m ++ rest) = m.rcpts.length := by rw [cntM, k4, f2]
  refine ⟨?_, ?_, kn⟩
  · have i0 := hm.i0
    have p0 := hm.p0
    have b0 := hm.b0
    rw [readMl, kn, k5, k3, k2, k1, a2, b2, c2, d2, g2, g3, h2, str_ns]
    obtain ⟨x1, x2, x3, x4, x5, x6⟩ := m
    simp only at i0 p0 b0
    simp only [Ml.mk.injEq, and_true]
    omega
  · rw [lastS, kn, k5, g3, h3]

/-! ### What was read is what was written -/
theorem num8_val {bs : List Nat} (hb : ∀ c ∈ bs, c < 256) (h : bs.length = 8) : num8 (val bs) = bs := by
  match bs, h with
  | [a, b, c, d, e, f, g, i], _ =>
    have h1 := hb a (by simp)
    have h2 := hb b (by simp)
    have h3 := hb c (by simp)
    have h4 := hb d (by simp)
    have h5 := hb e (by simp)
    have h6 := hb f (by simp)
    have h7 := hb g (by simp)
    have h8 := hb i (by simp)
    clear hb
    have e' : ∀ n, num8 n = [dig n 0, dig n 1, dig n 2, dig n 3, dig n 4, dig n 5, dig n 6, dig n 7] := fun n => rfl
    rw [e']
    simp only [val, List.foldl_cons, List.foldl_nil, dig, Nat.reduceSub, Nat.reduceMul, Nat.reducePow]
    simp only [List.cons.injEq, and_true]
    omega
theorem numS_some {s : Option (List Nat)} {r : List Nat} (h : numS s = some r) : numOk s = true := by
  cases hk : numOk s with
  | true => rfl
  | false => rw [numS_no hk] at h; cases h
theorem bytS_some {s : Option (List Nat)} {r : List Nat} (h : bytS s = some r) : bytOk s = true := by
  cases hk : bytOk s with
  | true => rfl
  | false => rw [bytS_no hk] at h; cases h
theorem numOk_is {s : Option (List Nat)} (h : numOk s = true) : ∃ t, s = some t := by
  obtain ⟨t, h, _⟩ := numOk_some h
  exact ⟨t, h⟩
theorem bytOk_num {s : Option (List Nat)} (h : bytOk s = true) : numOk s = true := by
  cases hk : numOk s with
  | true => rfl
  | false => rw [bytOk_no hk] at h; cases h
theorem rdS_is : ∀ {n : Nat} {s : Option (List Nat)} {r : List Nat}, rdS n s = some r → ∃ t, s = some t
  | 0, s, r, h => ⟨r, h⟩
  | n + 1, s, r, h => by
    obtain ⟨t, ht⟩ := numOk_is (bytOk_num (bytS_some h))
    exact rdS_is ht
theorem num_inv {bs r : List Nat} (hb : ∀ c ∈ bs, c < 256) (h : numS (some bs) = some r) : bs = num8 (numV (some bs)) ++ r ∧ numV (some bs) ≤ top ∧ ∀ c ∈ r, c < 256 := by
  obtain ⟨t, h1, h2, h3, h4, h5⟩ := numOk_some (numS_some h)
  injection h1 with h1
  subst h1
  rw [h5] at h
  injection h with h
  subst h
  refine ⟨?_, numV_le _, fun c hc => hb c (List.mem_of_mem_drop hc)⟩
  rw [h4, num8_val (fun c hc => hb c (List.mem_of_mem_take hc)) (by rw [List.length_take]; omega), List.take_append_drop]
theorem byt_inv {bs r : List Nat} (hb : ∀ c ∈ bs, c < 256) (h : bytS (some bs) = some r) : bs = enc (bytV (some bs)) ++ r ∧ (bytV (some bs)).length ≤ top ∧ (∀ c ∈ r, c < 256) ∧ ∀ c ∈ bytV (some bs), c < 256 := by
  have hk := bytS_some h
  obtain ⟨t, h1, h2, h3, h4, h5⟩ := numOk_some (bytOk_num hk)
  injection h1 with h1
  subst h1
  obtain ⟨g1, g2, g3⟩ := num_inv hb h5
  have hle : numV (some bs) ≤ (bs.drop 8).length := by
    rw [bytOk, h5] at hk
    simpa [takeOk] using hk
  have hV : bytV (some bs) = (bs.drop 8).take (numV (some bs)) := by rw [bytV, h5, takeV_ok hle]
  have hS : bytS (some bs) = some ((bs.drop 8).drop (numV (some bs))) := by rw [bytS, h5, takeS_ok hle]
  rw [hS] at h
  injection h with h
  have hl : (bytV (some bs)).length = numV (some bs) := by rw [hV, List.length_take]; omega
  refine ⟨?_, by rw [hl]; exact g2, fun c hc => g3 c (List.mem_of_mem_drop (h ▸ hc)), fun c hc => g3 c (List.mem_of_mem_take (hV ▸ hc))⟩
  rw [enc, hl, ← h, hV, List.append_assoc, List.take_append_drop]
  exact g1
theorem rd_inv : ∀ (n : Nat) {bs r : List Nat}, (∀ c ∈ bs, c < 256) → rdS n (some bs) = some r → bs = encs (rdL n (some bs)) ++ r ∧ (∀ c ∈ r, c < 256) ∧ ∀ s ∈ rdL n (some bs), s.size ≤ top
  | 0, bs, r, hb, h => by
    injection h with h
    subst h
    exact ⟨rfl, hb, fun s hs => by cases hs⟩
  | n + 1, bs, r, hb, h => by
    obtain ⟨t, ht⟩ := numOk_is (bytOk_num (bytS_some h))
    obtain ⟨h1, h2, h3⟩ := rd_inv n hb ht
    have h' : bytS (rdS n (some bs)) = some r := h
    rw [ht] at h'
    obtain ⟨g1, g2, g3, g4⟩ := byt_inv h2 h'
    have e : rdL (n + 1) (some bs) = rdL n (some bs) ++ [str (bytV (some t))] := by rw [rdL, ht]
    refine ⟨?_, g3, fun s hs => ?_⟩
    · rw [e, encs_append, show encs [str (bytV (some t))] = enc (ns (str (bytV (some t)))) by simp [encs], ns_str g4, List.append_assoc, ← g1]
      exact h1
    · rw [e] at hs
      rcases List.mem_append.1 hs with hs | hs
      · exact h3 s hs
      · rw [List.mem_singleton] at hs
        rw [hs, str_size]
        exact g2
theorem read_inv {bs : List Nat} (hb : ∀ c ∈ bs, c < 256) (h : readOk bs = true) : May (readMl bs) ∧ bs = content (readMl bs) := by
  simp only [readOk, Bool.and_eq_true, decide_eq_true_eq, doneB] at h
  obtain ⟨hn, h⟩ := h
  obtain ⟨t7, e7⟩ := numOk_is (bytOk_num (bytS_some h))
  obtain ⟨t5, e5⟩ := rdS_is e7
  obtain ⟨t4, e4⟩ := numOk_is (numS_some e5)
  obtain ⟨t3, e3⟩ := numOk_is (bytOk_num (bytS_some e4))
  obtain ⟨t2, e2⟩ := numOk_is (numS_some e3)
  obtain ⟨t1, e1⟩ := numOk_is (numS_some e2)
  obtain ⟨a1, a2, a3⟩ := num_inv hb (show numS (some bs) = some t1 from e1)
  obtain ⟨b1, b2, b3⟩ := num_inv a3 (show numS (some t1) = some t2 by rw [← e1]; exact e2)
  obtain ⟨c1, c2, c3⟩ := num_inv b3 (show numS (some t2) = some t3 by rw [← e2]; exact e3)
  obtain ⟨d1, d2, d3, d4⟩ := byt_inv c3 (show bytS (some t3) = some t4 by rw [← e3]; exact e4)
  obtain ⟨f1, f2, f3⟩ := num_inv d3 (show numS (some t4) = some t5 by rw [← e4]; exact e5)
  have hc : cntM bs = numV (some t4) := by rw [cntM, e4]
  rw [hc, e5] at e7
  obtain ⟨g1, g2, g3⟩ := rd_inv _ f3 e7
  have h8 : bytS (some t7) = some [] := by rw [← e7, ← e5, ← hc]; exact h
  obtain ⟨i1, i2, _, i4⟩ := byt_inv g2 h8
  have hm : readMl bs = ⟨(numV (some bs) : Nat), (numV (some t1) : Nat), (numV (some t2) : Nat), str (bytV (some t3)), rdL (numV (some t4)) (some t5), bytV (some t7)⟩ := by
    rw [readMl, hc, e5, e7, e1, e2, e3]
  rw [hm]
  refine ⟨⟨by show (0 : Int) ≤ (numV (some bs) : Nat); omega, by simpa using a2, by show (0 : Int) ≤ (numV (some t1) : Nat); omega, by simpa using b2, by show (0 : Int) ≤ (numV (some t2) : Nat); omega, by simpa using c2, by show (str _).size ≤ top; rw [str_size]; exact d2, by show (rdL _ _).length ≤ top; rw [rdL_length]; exact f2, g3, i2, i4⟩, ?_⟩
  simp only [content, Int.toNat_natCast, rdL_length]
  rw [ns_str d4]
  rw [List.append_nil] at i1
  rw [← i1, ← g1, ← f1, ← d1, ← c1, ← b1, ← a1]

/-! ### Records -/
theorem content_small {m : Ml} (h : Fine m) : (content m).length ≤ 9000 := by
  have a := h.n
  have b := h.body
  have f : m.frm.size ≤ 64 := by rcases h.frm with h | h; omega; exact box_size h
  have k : ∀ L : List ByteArray, (∀ s ∈ L, boxB s = true) → (encs L).length ≤ 72 * L.length := fun L => by
    induction L with
    | nil => intro _; simp [encs]
    | cons r L ih =>
      intro hL
      have h1 := ih fun s hs => hL s (List.mem_cons_of_mem _ hs)
      have h2 := box_size (hL r (by simp))
      rw [encs_cons, List.length_append, enc_length, ns_length, List.length_cons]
      omega
  have := k m.rcpts h.r
  simp only [content, List.length_append, num8_length, enc_length, ns_length]
  omega
theorem inner_back {bs : List Nat} (h : bs.length ≤ top) (rest : List Nat) : bytOk (some (enc bs ++ rest)) = true ∧ innerM (enc bs ++ rest) = bs ∧ tailM (enc bs ++ rest) = rest := by
  obtain ⟨h1, h2, h3⟩ := byt_back bs h rest
  exact ⟨h1, h2, by rw [tailM, h3]; rfl⟩
theorem begins_record {m : Ml} (hg : goodM m = true) (hb : ∀ c ∈ m.body, c < 256) (more : List Nat) : beginsB (record m ++ more) = true ∧ innerM (record m ++ more) = content m ∧ readMl (content m) = m := by
  have hf := goodM_fine hg
  have hs := content_small hf
  have hm := hf.may hb
  obtain ⟨h1, h2, h3⟩ := inner_back (bs := content m) (by unfold top; omega) (sum4 (content m) ++ more)
  have e : record m ++ more = enc (content m) ++ (sum4 (content m) ++ more) := by rw [record, List.append_assoc]
  obtain ⟨r1, r2, r3⟩ := read_back hm []
  rw [List.append_nil] at r1 r2 r3
  refine ⟨?_, by rw [e]; exact h2, r1⟩
  have n := hf.n
  rw [e, beginsB, wrapB, h1, h2, h3, readOk, r1, r2, r3, hg]
  simp [sum4_length, doneB, n]
  rw [List.take_append_of_le_length (by rw [sum4_length]; omega)]
  exact List.take_of_length_le (by rw [sum4_length]; omega)
theorem begins_form {b : List Nat} (hb : ∀ c ∈ b, c < 256) (h : beginsB b = true) : ∃ rest, b = record (readMl (innerM b)) ++ rest ∧ May (readMl (innerM b)) ∧ innerM b = content (readMl (innerM b)) ∧ (innerM b).length ≤ top := by
  simp only [beginsB, wrapB, Bool.and_eq_true, decide_eq_true_eq] at h
  obtain ⟨⟨h1, h2, h3⟩, h4, _⟩ := h
  obtain ⟨r, hr⟩ : ∃ r, bytS (some b) = some r := by
    cases hs : bytS (some b) with
    | some r => exact ⟨r, rfl⟩
    | none =>
      rw [tailM, hs] at h2
      simp at h2
  obtain ⟨g1, g2, g3, g4⟩ := byt_inv hb hr
  obtain ⟨hm, hc⟩ := read_inv (bs := innerM b) g4 h4
  have ht : tailM b = r := by rw [tailM, hr]; rfl
  rw [ht] at h3
  refine ⟨r.drop 4, ?_, hm, hc, g2⟩
  rw [record, ← hc, ← h3, List.append_assoc, List.take_append_drop]
  exact g1
theorem begins_cut {m : Ml} (hg : goodM m = true) (hb : ∀ c ∈ m.body, c < 256) {k : Nat} (hk : k < (record m).length) : beginsB ((record m).take k) = false := by
  cases hB : beginsB ((record m).take k) with
  | false => rfl
  | true =>
    exfalso
    obtain ⟨rest, h1, h2, h3, h4⟩ := begins_form (fun c hc => record_lt hb c (List.mem_of_mem_take hc)) hB
    obtain ⟨m', hm'⟩ : ∃ m', m' = readMl (innerM ((record m).take k)) := ⟨_, rfl⟩
    rw [← hm'] at h1 h2 h3
    rw [h3] at h4
    have e : record m = record m' ++ (rest ++ (record m).drop k) := by
      rw [← List.append_assoc, ← h1, List.take_append_drop]
    have hs := content_small (goodM_fine hg)
    obtain ⟨_, a2, _⟩ := inner_back (bs := content m) (by unfold top; omega) (sum4 (content m))
    obtain ⟨_, b2, _⟩ := inner_back (bs := content m') h4 (sum4 (content m') ++ (rest ++ (record m).drop k))
    have e2 : enc (content m) ++ sum4 (content m) = enc (content m') ++ (sum4 (content m') ++ (rest ++ (record m).drop k)) := by
      rw [← List.append_assoc]
      exact e
    rw [e2, b2] at a2
    have l1 := congrArg List.length h1
    rw [List.length_take, List.length_append, record_length m'] at l1
    rw [record_length m] at hk l1
    rw [a2] at l1
    omega
theorem num8_inj {a b : Nat} (ha : a ≤ top) (hb : b ≤ top) (h : num8 a = num8 b) : a = b := by
  have h1 := val_num8 a (by unfold top at ha; omega)
  have h2 := val_num8 b (by unfold top at hb; omega)
  rw [← h1, ← h2, h]
theorem begins_turned {m : Ml} (hg : goodM m = true) (hb : ∀ c ∈ m.body, c < 256) {k c' : Nat} (hk : k < (record m).length) (hc : c' < 256) (hne : c' ≠ (record m)[k]) : beginsB ((record m).set k c') = false := by
  cases hB : beginsB ((record m).set k c') with
  | false => rfl
  | true =>
    exfalso
    have hlt : ∀ c ∈ (record m).set k c', c < 256 := fun c hcm => by
      rcases List.mem_or_eq_of_mem_set hcm with h | rfl
      · exact record_lt hb c h
      · exact hc
    obtain ⟨rest, h1, h2, h3, h4⟩ := begins_form hlt hB
    obtain ⟨m', hm'⟩ : ∃ m', m' = readMl (innerM ((record m).set k c')) := ⟨_, rfl⟩
    rw [← hm'] at h1 h2 h3
    rw [h3] at h4
    have hf := goodM_fine hg
    have hm := hf.may hb
    have hs := content_small hf
    have hL : (content m).length + 12 = (content m').length + 12 + rest.length := by
      have := congrArg List.length h1
      rw [List.length_set, List.length_append, record_length, record_length] at this
      exact this
    have e0 : record m = num8 (content m).length ++ (content m ++ sum4 (content m)) := by rw [record, enc, List.append_assoc]
    have e1 : record m' ++ rest = num8 (content m').length ++ (content m' ++ (sum4 (content m') ++ rest)) := by rw [record, enc]; simp
    rw [e1] at h1
    by_cases k8 : k < 8
    · have d8 := congrArg (List.drop 8) h1
      rw [List.drop_set, if_pos k8, e0, List.drop_left' (num8_length _), List.drop_left' (num8_length _)] at d8
      by_cases hl : (content m').length = (content m).length
      · have t8 := congrArg (List.take 8) h1
        rw [hl, List.take_left' (num8_length _)] at t8
        have t9 : ((record m).set k c')[k]'(by rw [List.length_set]; exact hk) = (record m)[k] := by
          have a1 : ((record m).set k c')[k]? = (num8 (content m).length)[k]? := by
            have := congrArg (fun l => l[k]?) t8
            simpa [List.getElem?_take, k8] using this
          have a2 : (record m)[k]? = (num8 (content m).length)[k]? := by
            rw [e0, List.getElem?_append_left (by rw [num8_length]; exact k8)]
          have a3 := a1.trans a2.symm
          rw [List.getElem?_eq_getElem (by rw [List.length_set]; exact hk), List.getElem?_eq_getElem hk] at a3
          exact Option.some.inj a3
        rw [List.getElem_set_self] at t9
        exact hne t9
      · have hlt' : (content m').length < (content m).length := by omega
        have p : (content m).take (content m').length = content m' := by
          have := congrArg (List.take (content m').length) d8
          rw [List.take_append_of_le_length (by omega), List.take_left] at this
          exact this
        have q : content m = content m' ++ (content m).drop (content m').length := by
          conv => lhs; rw [← List.take_append_drop (content m').length (content m)]
          rw [p]
        obtain ⟨_, r2, _⟩ := read_back hm []
        obtain ⟨_, s2, _⟩ := read_back h2 ((content m).drop (content m').length)
        rw [← q] at s2
        rw [List.append_nil, s2] at r2
        injection r2 with r2
        have := congrArg List.length r2
        rw [List.length_drop] at this
        simp at this
        omega
    · have t8 := congrArg (List.take 8) h1
      have u8 : ((record m).set k c').take 8 = num8 (content m).length := by
        rw [List.take_set_of_le (by omega), e0, List.take_left' (num8_length _)]
      rw [u8, List.take_left' (num8_length _)] at t8
      have hl := num8_inj (by unfold top; omega) h4 t8
      have hr : rest = [] := List.eq_nil_of_length_eq_zero (by omega)
      subst hr
      have d8 := congrArg (List.drop 8) h1
      have v8 : ((record m).set k c').drop 8 = (content m ++ sum4 (content m)).set (k - 8) c' := by
        rw [List.drop_set, if_neg k8, e0, List.drop_left' (num8_length _)]
      rw [v8, List.drop_left' (num8_length _), List.append_nil] at d8
      obtain ⟨j, rfl⟩ : ∃ j, k = j + 8 := ⟨k - 8, by omega⟩
      rw [Nat.add_sub_cancel] at d8
      have hkj : (record m)[j + 8]? = (content m ++ sum4 (content m))[j]? := by
        rw [e0, List.getElem?_append_right (by rw [num8_length]; omega), num8_length, Nat.add_sub_cancel]
      by_cases hj : j < (content m).length
      · rw [List.set_append_left _ _ hj] at d8
        obtain ⟨g1, g2⟩ := List.append_inj d8 (by rw [List.length_set]; exact hl)
        have hx : content m = (content m).take j ++ (content m)[j] :: (content m).drop (j + 1) := by
          rw [← List.drop_eq_getElem_cons hj, List.take_append_drop]
        have hy : content m' = (content m).take j ++ c' :: (content m).drop (j + 1) := by
          rw [← g1, List.set_eq_take_append_cons_drop, if_pos hj]
        have hcl := content_lt (m := m) hb
        have hz : (content m)[j] = (record m)[j + 8] := by
          rw [List.getElem?_eq_getElem hk, List.getElem?_append_left hj, List.getElem?_eq_getElem hj] at hkj
          exact (Option.some.inj hkj).symm
        have := sum_one (a := (content m).take j) (r := (content m).drop (j + 1)) (c := (content m)[j]) (d := c') (fun x hx => hcl x (List.mem_of_mem_take hx)) (fun x hx => hcl x (List.mem_of_mem_drop hx)) (hcl _ (List.getElem_mem _)) hc (by rw [hz]; exact fun h => hne h.symm)
        rw [← hx, ← hy] at this
        exact this (sum4_inj g2)
      · rw [List.set_append_right _ _ (by omega)] at d8
        obtain ⟨g1, g2⟩ := List.append_inj d8 hl
        rw [← g1] at g2
        have hj2 : j - (content m).length < (sum4 (content m)).length := by
          rw [sum4_length]
          rw [record_length] at hk
          omega
        have a1 := congrArg (fun l => l[j - (content m).length]?) g2
        simp only [List.getElem?_set_self hj2] at a1
        rw [List.getElem?_eq_getElem hk, List.getElem?_append_right (by omega), ← a1] at hkj
        exact hne (Option.some.inj hkj).symm
end Go.Proofs.YtimoebicacnihaaGreatDoor.Ln
end

section
/-
  A sum's four bytes: env's plain words have them.
-/
end

section
/-
  The plain words of stage 11: marks, their bytes, the marks that any bytes begin with, the fates that marks make. Nothing of the program is imported.
-/
namespace Go.Proofs.YtimoebicacnihaaGreatDoor.Ln
set_option linter.unusedVariables false
set_option linter.unusedSimpArgs false

/-! ### Marks -/
structure Mk where
  kind : Int
  rcpt : Int
  n : Int
def goodK (k : Mk) : Bool := decide (1 ≤ k.kind ∧ k.kind ≤ 5 ∧ 0 ≤ k.rcpt ∧ k.rcpt ≤ 7 ∧ 0 ≤ k.n ∧ k.n ≤ 1099511627776)
theorem goodK_iff {k : Mk} : goodK k = true ↔ 1 ≤ k.kind ∧ k.kind ≤ 5 ∧ 0 ≤ k.rcpt ∧ k.rcpt ≤ 7 ∧ 0 ≤ k.n ∧ k.n ≤ 1099511627776 := decide_eq_true_iff
def three (k : Mk) : List Nat := num8 k.kind.toNat ++ (num8 k.rcpt.toNat ++ num8 k.n.toNat)
def markB (k : Mk) : List Nat := three k ++ sum4 (three k)
def s3 (bs : List Nat) : Option (List Nat) := numS (numS (numS (some bs)))
def readK (bs : List Nat) : Mk := ⟨(numV (some bs) : Nat), (numV (numS (some bs)) : Nat), (numV (numS (numS (some bs))) : Nat)⟩
def firstB (b : List Nat) : Bool := decide (28 ≤ b.length) && (decide ((b.drop 24).take 4 = sum4 (b.take 24)) && (doneB (s3 (b.take 24)) && goodK (readK (b.take 24))))
def marksN : Nat → List Nat → List Mk
  | 0, _ => []
  | f + 1, b => if firstB b = true then readK (b.take 24) :: marksN f (b.drop 28) else []
def marksM (b : List Nat) : List Mk := marksN 4096 b
def flatK (L : List Mk) : List Nat := (L.map markB).flatten

theorem three_length (k : Mk) : (three k).length = 24 := by simp [three, num8_length]
theorem three_lt (k : Mk) : ∀ c ∈ three k, c < 256 := by
  intro c hc
  simp only [three, List.mem_append] at hc
  rcases hc with h | h | h <;> exact num8_lt _ c h
theorem markB_length (k : Mk) : (markB k).length = 28 := by rw [markB, List.length_append, three_length, sum4_length]
theorem markB_lt (k : Mk) : ∀ c ∈ markB k, c < 256 := by
  intro c hc
  rcases List.mem_append.1 hc with h | h
  · exact three_lt k c h
  · exact sum4_lt _ c h
theorem flatK_cons (k : Mk) (L : List Mk) : flatK (k :: L) = markB k ++ flatK L := rfl
theorem flatK_append (A B : List Mk) : flatK (A ++ B) = flatK A ++ flatK B := by simp [flatK]
theorem flatK_length : ∀ L : List Mk, (flatK L).length = 28 * L.length
  | [] => rfl
  | k :: L => by rw [flatK_cons, List.length_append, markB_length, flatK_length L, List.length_cons]; omega
theorem flatK_lt (L : List Mk) : ∀ c ∈ flatK L, c < 256 := by
  intro c hc
  obtain ⟨l, hl, hc⟩ := List.mem_flatten.1 hc
  obtain ⟨k, _, rfl⟩ := List.mem_map.1 hl
  exact markB_lt k c hc

theorem num8_valK {bs : List Nat} (h : bs.length = 8) (hb : ∀ c ∈ bs, c < 256) : num8 (val bs) = bs := by
  match bs, h with
  | [a, b, c, d, e, f, g, i], _ =>
    simp only [List.mem_cons, List.not_mem_nil, or_false, forall_eq_or_imp, forall_eq] at hb
    obtain ⟨ha, hb, hc, hd, he, hf, hg, hi⟩ := hb
    have hv : val [a, b, c, d, e, f, g, i] = a * 72057594037927936 + b * 281474976710656 + c * 1099511627776 + d * 4294967296 + e * 16777216 + f * 65536 + g * 256 + i := by
      simp only [val, List.foldl_cons, List.foldl_nil]
      omega
    have hr : List.range 8 = [0, 1, 2, 3, 4, 5, 6, 7] := rfl
    simp only [num8, hr, List.map_cons, List.map_nil, dig, hv, List.cons.injEq, and_true]
    refine ⟨?_, ?_, ?_, ?_, ?_, ?_, ?_, ?_⟩ <;> (simp only [Nat.reduceSub, Nat.reduceMul, Nat.reducePow, Nat.sub_zero]; omega)
theorem s3_some {bs r : List Nat} (h : s3 bs = some r) : 24 ≤ bs.length ∧ r = bs.drop 24 ∧ val (bs.take 8) ≤ top ∧ readK bs = ⟨(val (bs.take 8) : Nat), (val ((bs.drop 8).take 8) : Nat), (val ((bs.drop 16).take 8) : Nat)⟩ := by
  have key : ∀ s : Option (List Nat), (numS s).isSome = true → numOk s = true := fun s hs => by
    cases hk : numOk s with
    | true => rfl
    | false => rw [numS_no hk] at hs; cases hs
  have k3 : numOk (numS (numS (some bs))) = true := key _ (by unfold s3 at h; rw [h]; rfl)
  obtain ⟨b2, e2, l2, t2, v2, r2⟩ := numOk_some k3
  have k2 : numOk (numS (some bs)) = true := key _ (by rw [e2]; rfl)
  obtain ⟨b1, e1, l1, t1, v1, r1⟩ := numOk_some k2
  have k1 : numOk (some bs) = true := key _ (by rw [e1]; rfl)
  obtain ⟨b0, e0, l0, t0, v0, r0⟩ := numOk_some k1
  cases e0
  rw [r0] at e1
  cases e1
  rw [r1] at e2
  cases e2
  unfold s3 at h
  rw [r2] at h
  cases h
  refine ⟨by simp at l2; omega, by simp, t0, ?_⟩
  rw [readK, v0, v1, v2]
  simp
/-- What was read without a fault is what stood there. -/
theorem three_read {bs : List Nat} (hl : bs.length = 24) (hb : ∀ c ∈ bs, c < 256) {r : List Nat} (h : s3 bs = some r) : three (readK bs) = bs ∧ r = [] := by
  obtain ⟨_, hr, _, e⟩ := s3_some h
  refine ⟨?_, by rw [hr]; exact List.drop_of_length_le (by omega)⟩
  rw [e]
  simp only [three, Int.toNat_natCast]
  rw [num8_valK (by simp [hl]) (fun c hc => hb c (List.mem_of_mem_take hc)), num8_valK (by simp [hl]) (fun c hc => hb c (List.mem_of_mem_drop (List.mem_of_mem_take hc))), num8_valK (by simp [hl]) (fun c hc => hb c (List.mem_of_mem_drop (List.mem_of_mem_take hc)))]
  have e3 : (bs.drop 16).take 8 = bs.drop 16 := List.take_of_length_le (by simp [hl])
  rw [e3, show bs.drop 16 = (bs.drop 8).drop 8 by simp, List.take_append_drop, List.take_append_drop]
theorem good_top {k : Mk} (h : goodK k = true) : (0 ≤ k.kind ∧ k.kind.toNat ≤ top) ∧ (0 ≤ k.rcpt ∧ k.rcpt.toNat ≤ top) ∧ (0 ≤ k.n ∧ k.n.toNat ≤ top) := by
  have := goodK_iff.1 h
  unfold top
  omega
theorem read_three {k : Mk} (h : goodK k = true) : s3 (three k) = some [] ∧ readK (three k) = k := by
  obtain ⟨⟨a0, a1⟩, ⟨b0, b1⟩, c0, c1⟩ := good_top h
  obtain ⟨_, v1, r1⟩ := num_back k.kind.toNat a1 (num8 k.rcpt.toNat ++ num8 k.n.toNat)
  obtain ⟨_, v2, r2⟩ := num_back k.rcpt.toNat b1 (num8 k.n.toNat)
  obtain ⟨_, v3, r3⟩ := num_back k.n.toNat c1 []
  rw [List.append_nil] at v3 r3
  refine ⟨by unfold s3 three; rw [r1, r2, r3], ?_⟩
  unfold readK three
  rw [r1, r2, v1, v2, v3]
  obtain ⟨x, y, z⟩ := k
  simp only [Mk.mk.injEq]
  simp only at a0 b0 c0
  omega

/-! ### The first mark of any bytes -/
theorem first_short {b : List Nat} (h : ¬ 28 ≤ b.length) : firstB b = false := by simp [firstB, h]
theorem first_mark {k : Mk} (h : goodK k = true) (r : List Nat) : firstB (markB k ++ r) = true ∧ readK ((markB k ++ r).take 24) = k ∧ (markB k ++ r).drop 28 = r := by
  have e1 : (markB k ++ r).take 24 = three k := by rw [markB, List.append_assoc, List.take_append_of_le_length (by rw [three_length]; omega), List.take_of_length_le (by rw [three_length]; omega)]
  have e2 : (markB k ++ r).drop 24 = sum4 (three k) ++ r := by rw [markB, List.append_assoc]; exact List.drop_left' (three_length k)
  have e3 : (markB k ++ r).drop 28 = r := List.drop_left' (markB_length k)
  obtain ⟨h1, h2⟩ := read_three h
  refine ⟨?_, by rw [e1, h2], e3⟩
  rw [firstB, e1, e2, h1, h2, h, List.take_append_of_le_length (by rw [sum4_length]; omega), List.take_of_length_le (by rw [sum4_length]; omega)]
  simp [doneB, markB_length]
theorem first_bad {b : List Nat} (h : s3 (b.take 24) = none) : firstB b = false := by simp [firstB, h, doneB]
theorem first_not {b : List Nat} (h : goodK (readK (b.take 24)) = false) : firstB b = false := by simp [firstB, h]
theorem first_same {b r : List Nat} (hl : 28 ≤ b.length) (hb : ∀ c ∈ b, c < 256) (h : s3 (b.take 24) = some r) (hg : goodK (readK (b.take 24)) = true) : firstB b = decide (markB (readK (b.take 24)) = b.take 28) := by
  obtain ⟨e1, e2⟩ := three_read (bs := b.take 24) (by simp; omega) (fun c hc => hb c (List.mem_of_mem_take hc)) h
  have e4 : b.take 28 = b.take 24 ++ (b.drop 24).take 4 := by rw [show (28 : Nat) = 24 + 4 from rfl, List.take_add]
  have e5 : doneB (some r) = true := by rw [e2]; rfl
  rw [firstB, h, hg, e5, markB, e1, e4, decide_eq_true hl, Bool.true_and, Bool.and_self, Bool.and_true]
  rw [Bool.eq_iff_iff, decide_eq_true_iff, decide_eq_true_iff, List.append_right_inj]
  exact eq_comm
theorem first_parts {b : List Nat} (h : firstB b = true) : 28 ≤ b.length ∧ (b.drop 24).take 4 = sum4 (b.take 24) ∧ doneB (s3 (b.take 24)) = true ∧ goodK (readK (b.take 24)) = true := by
  simp only [firstB, Bool.and_eq_true, decide_eq_true_iff] at h
  exact h

/-! ### The marks that bytes begin with -/
structure Seen (b : List Nat) (L : List Mk) : Prop where
  n : L.length ≤ 4096
  l : 28 * L.length ≤ b.length
  e : L ++ marksN (4096 - L.length) (b.drop (28 * L.length)) = marksM b
theorem seen_nil (b : List Nat) : Seen b [] := ⟨by simp, by simp, by simp [marksM]⟩
theorem Seen.more {b : List Nat} {L : List Mk} (h : Seen b L) (hl : L.length < 4096) (hf : firstB (b.drop (28 * L.length)) = true) : Seen b (L ++ [readK ((b.drop (28 * L.length)).take 24)]) := by
  have h28 := (first_parts hf).1
  rw [List.length_drop] at h28
  refine ⟨by simp; omega, by simp; omega, ?_⟩
  rw [← h.e, show 4096 - L.length = (4096 - (L.length + 1)) + 1 by omega, marksN, if_pos hf, List.append_assoc]
  simp only [List.length_append, List.length_cons, List.length_nil, List.drop_drop, List.singleton_append]
  rw [show 28 * L.length + 28 = 28 * (L.length + (0 + 1)) by omega]
theorem Seen.stop {b : List Nat} {L : List Mk} (h : Seen b L) (hf : firstB (b.drop (28 * L.length)) = false) : marksM b = L := by
  rw [← h.e]
  cases hn : 4096 - L.length with
  | zero => simp [marksN]
  | succ f => simp [marksN, hf]
theorem Seen.full {b : List Nat} {L : List Mk} (h : Seen b L) (hl : ¬ L.length < 4096) : marksM b = L := by
  rw [← h.e, show 4096 - L.length = 0 by omega]
  simp [marksN]
theorem marksN_torn : ∀ (L : List Mk) (f n : Nat), (∀ k ∈ L, goodK k = true) → L.length ≤ f → marksN f ((flatK L).take n) = L.take (n / 28)
  | [], f, n, _, _ => by
    cases f with
    | zero => simp [marksN]
    | succ f => simp [marksN, flatK, firstB]
  | k :: L, 0, n, _, hf => by simp at hf
  | k :: L, f + 1, n, hg, hf => by
    by_cases hn : 28 ≤ n
    · have e : (flatK (k :: L)).take n = markB k ++ (flatK L).take (n - 28) := by
        rw [flatK_cons, List.take_append, markB_length, List.take_of_length_le (by rw [markB_length]; omega)]
      obtain ⟨h1, h2, h3⟩ := first_mark (hg k (by simp)) ((flatK L).take (n - 28))
      rw [e, marksN, if_pos h1, h2, h3, marksN_torn L f (n - 28) (fun k hk => hg k (List.mem_cons_of_mem _ hk)) (by simp at hf; omega), show n / 28 = (n - 28) / 28 + 1 by omega, List.take_succ_cons]
    · rw [marksN, first_short (by rw [List.length_take]; omega), show n / 28 = 0 by omega]
      rfl
theorem marksM_torn (L : List Mk) (n : Nat) (hg : ∀ k ∈ L, goodK k = true) (hl : L.length ≤ 4096) : marksM ((flatK L).take n) = L.take (n / 28) := marksN_torn L 4096 n hg hl

/-! ### Fates -/
structure Ft where
  st : Int
  tries : Int
  next : Int
  crashes : Int
  op : Bool
def ft0 : Ft := ⟨0, 0, 0, 0, false⟩
def stepF (f : Ft) (k : Mk) : Ft :=
  if f.st ≠ 0 then f else if k.kind = 1 then ⟨f.st, f.tries, f.next, f.crashes, true⟩
  else ⟨if k.kind = 2 then 1 else if k.kind = 3 then 2 else f.st, if f.op = true ∧ k.kind ≠ 5 then f.tries + 1 else f.tries, if k.kind = 4 then k.n else f.next, if k.kind = 5 then f.crashes + 1 else f.crashes, false⟩
def putF (F : List Ft) (k : Mk) : List Ft := if goodK k = true ∧ k.rcpt < F.length then F.set k.rcpt.toNat (stepF (F.getD k.rcpt.toNat ft0) k) else F
def fatesM (n : Nat) (L : List Mk) : List Ft := L.foldl putF (List.replicate n ft0)
theorem putF_length (F : List Ft) (k : Mk) : (putF F k).length = F.length := by
  unfold putF
  split <;> simp
theorem foldF_length : ∀ (L : List Mk) (F : List Ft), (L.foldl putF F).length = F.length
  | [], F => rfl
  | k :: L, F => by rw [List.foldl_cons, foldF_length L, putF_length]
theorem fatesM_length (n : Nat) (L : List Mk) : (fatesM n L).length = n := by rw [fatesM, foldF_length, List.length_replicate]
theorem fatesM_snoc (n : Nat) (L : List Mk) (k : Mk) : fatesM n (L ++ [k]) = putF (fatesM n L) k := by simp [fatesM, List.foldl_append]
theorem fatesM_filter (n : Nat) (L : List Mk) : fatesM n (L.filter goodK) = fatesM n L := by
  have key : ∀ (L : List Mk) (F : List Ft), (L.filter goodK).foldl putF F = L.foldl putF F := fun L => by
    induction L with
    | nil => intro F; rfl
    | cons k L ih =>
      intro F
      cases h : goodK k with
      | true => rw [List.filter_cons_of_pos h, List.foldl_cons, List.foldl_cons, ih]
      | false =>
        rw [List.filter_cons_of_neg (by simp [h]), List.foldl_cons, ih]
        congr 1
        simp [putF, h]
  exact key L _
theorem putF_get (F : List Ft) (k : Mk) (i : Nat) (hi : i < F.length) : (putF F k).getD i ft0 = if goodK k = true ∧ k.rcpt = (i : Int) then stepF (F.getD i ft0) k else F.getD i ft0 := by
  unfold putF
  by_cases h : goodK k = true ∧ k.rcpt < F.length
  · rw [if_pos h]
    have hg := goodK_iff.1 h.1
    by_cases e : k.rcpt = (i : Int)
    · rw [if_pos ⟨h.1, e⟩, e]
      simp [hi]
    · rw [if_neg (fun h => e h.2)]
      have : ¬ k.rcpt.toNat = i := by omega
      simp [List.getElem?_set_ne this]
  · rw [if_neg h, if_neg (fun h' => h ⟨h'.1, by omega⟩)]
/-- A recipient's fate is what its own good marks make. -/
theorem fatesM_own (n : Nat) (L : List Mk) (i : Nat) (hi : i < n) : (fatesM n L).getD i ft0 = (L.filter fun k => goodK k && decide (k.rcpt = (i : Int))).foldl stepF ft0 := by
  have key : ∀ (L : List Mk) (F : List Ft), i < F.length → (L.foldl putF F).getD i ft0 = (L.filter fun k => goodK k && decide (k.rcpt = (i : Int))).foldl stepF (F.getD i ft0) := fun L => by
    induction L with
    | nil => intro F _; rfl
    | cons k L ih =>
      intro F hF
      rw [List.foldl_cons, ih _ (by rw [putF_length]; exact hF), putF_get F k i hF]
      by_cases h : goodK k = true ∧ k.rcpt = (i : Int)
      · rw [if_pos h, List.filter_cons_of_pos (by simp [h.1, h.2]), List.foldl_cons]
      · rw [if_neg h, List.filter_cons_of_neg (by simp; intro h1; exact fun h2 => h ⟨h1, h2⟩)]
  have := key L (List.replicate n ft0) (by simpa using hi)
  rw [fatesM, this]
  simp [hi]
theorem fatesM_apart (n : Nat) (L : List Mk) (i : Nat) (hi : i < n) : (fatesM n (L.filter fun k => decide (k.rcpt = (i : Int)))).getD i ft0 = (fatesM n L).getD i ft0 := by
  rw [fatesM_own n _ i hi, fatesM_own n L i hi, List.filter_filter]
  congr 1
  refine List.filter_congr fun k _ => ?_
  cases goodK k <;> simp
def Later (f g : Ft) : Prop := (f.st ≠ 0 → g = f) ∧ f.tries ≤ g.tries ∧ f.crashes ≤ g.crashes
theorem Later.refl (f : Ft) : Later f f := ⟨fun _ => rfl, Int.le_refl _, Int.le_refl _⟩
theorem later_step (f : Ft) (k : Mk) : Later f (stepF f k) := by
  unfold stepF Later
  by_cases h : f.st ≠ 0
  · rw [if_pos h]
    exact Later.refl f
  · rw [if_neg h]
    refine ⟨fun h' => absurd h' h, ?_, ?_⟩
    · split
      · exact Int.le_refl _
      · simp only []
        split <;> omega
    · split
      · exact Int.le_refl _
      · simp only []
        split <;> omega
theorem Later.trans {f g h : Ft} (a : Later f g) (b : Later g h) : Later f h := ⟨fun hf => by
  have e := a.1 hf
  rw [e] at b
  exact b.1 hf, Int.le_trans a.2.1 b.2.1, Int.le_trans a.2.2 b.2.2⟩
theorem later_fold : ∀ (L : List Mk) (f : Ft), Later f (L.foldl stepF f)
  | [], f => Later.refl f
  | k :: L, f => (later_step f k).trans (later_fold L _)
theorem fatesM_later (n : Nat) (A B : List Mk) (i : Nat) (hi : i < n) : Later ((fatesM n A).getD i ft0) ((fatesM n (A ++ B)).getD i ft0) := by
  rw [fatesM_own n A i hi, fatesM_own n (A ++ B) i hi, List.filter_append, List.foldl_append]
  exact later_fold _ _
structure Small (c : Nat) (f : Ft) : Prop where
  t0 : 0 ≤ f.tries
  t1 : f.tries ≤ (c : Int)
  c0 : 0 ≤ f.crashes
  c1 : f.crashes ≤ (c : Int)
theorem Small.step {c : Nat} {f : Ft} (h : Small c f) (k : Mk) : Small (c + 1) (stepF f k) := by
  obtain ⟨a, b, d, e⟩ := h
  unfold stepF
  split
  · exact ⟨a, by omega, d, by omega⟩
  · split
    · exact ⟨a, by simp only []; omega, d, by simp only []; omega⟩
    · refine ⟨?_, ?_, ?_, ?_⟩ <;> (simp only []; split <;> omega)
theorem small_fold : ∀ (L : List Mk) (c : Nat) (f : Ft), Small c f → Small (c + L.length) (L.foldl stepF f)
  | [], c, f, h => h
  | k :: L, c, f, h => by
    have := small_fold L (c + 1) _ (h.step k)
    rw [List.length_cons, show c + (L.length + 1) = c + 1 + L.length by omega]
    exact this
theorem Small.mono {c d : Nat} {f : Ft} (h : Small c f) (hl : c ≤ d) : Small d f := ⟨h.t0, by have := h.t1; omega, h.c0, by have := h.c1; omega⟩
theorem fatesM_small (n : Nat) (L : List Mk) (i : Nat) (hi : i < n) : Small L.length ((fatesM n L).getD i ft0) := by
  rw [fatesM_own n L i hi]
  exact (small_fold _ 0 ft0 ⟨by decide, by decide, by decide, by decide⟩).mono (by rw [Nat.zero_add]; exact List.length_filter_le _ _)
end Go.Proofs.YtimoebicacnihaaGreatDoor.Ln
end

section
/-
  For stage 12 (qfile): marks with a piece of another behind; a fate behind one mark more; what a mail's fates say (who is open, the greatest crashes, over, due). Plain words over HMath alone.
-/
namespace Go.Proofs.YtimoebicacnihaaGreatDoor.Ln
set_option linter.unusedVariables false
set_option linter.unusedSimpArgs false

theorem marksN_more : ∀ (L : List Mk) (f : Nat) (r : List Nat), (∀ k ∈ L, goodK k = true) → L.length ≤ f → r.length < 28 → marksN f (flatK L ++ r) = L
  | [], f, r, _, _, hr => by
    cases f with
    | zero => simp [marksN]
    | succ f => rw [marksN, if_neg (by rw [first_short (by simp [flatK]; omega)]; decide)]
  | k :: L, 0, r, _, hf, _ => by simp at hf
  | k :: L, f + 1, r, hg, hf, hr => by
    have e : flatK (k :: L) ++ r = markB k ++ (flatK L ++ r) := by rw [flatK_cons, List.append_assoc]
    obtain ⟨h1, h2, h3⟩ := first_mark (hg k (by simp)) (flatK L ++ r)
    rw [e, marksN, if_pos h1, h2, h3, marksN_more L f r (fun k hk => hg k (List.mem_cons_of_mem _ hk)) (by simp at hf; omega) hr]
theorem marksM_more (L : List Mk) (r : List Nat) (hg : ∀ k ∈ L, goodK k = true) (hl : L.length ≤ 4096) (hr : r.length < 28) : marksM (flatK L ++ r) = L := marksN_more L 4096 r hg hl hr
/-- One mark more: its recipient's fate a step on, the others as they were. -/
theorem fates_more (n : Nat) (L : List Mk) (k : Mk) (hk : goodK k = true) (i : Nat) (hi : i < n) : (fatesM n (L ++ [k])).getD i ft0 = if k.rcpt = (i : Int) then stepF ((fatesM n L).getD i ft0) k else (fatesM n L).getD i ft0 := by
  rw [fatesM_snoc, putF_get _ _ _ (by rw [fatesM_length]; exact hi)]
  by_cases h : k.rcpt = (i : Int)
  · rw [if_pos ⟨hk, h⟩, if_pos h]
  · rw [if_neg (fun h' => h h'.2), if_neg h]

/-! ### What fates say -/
def openF (F : List Ft) : List Nat := (List.range F.length).filter fun i => decide ((F.getD i ft0).st = 0) && (F.getD i ft0).op
def crashF (F : List Ft) : Int := F.foldl (fun c f => max c f.crashes) 0
def overF (F : List Ft) : Bool := F.all fun f => decide (f.st ≠ 0)
def dueF (F : List Ft) : Int := F.foldl (fun d f => if f.st = 0 ∧ f.op = false ∧ f.next < d then f.next else d) 1099511627776
theorem crashF_snoc (F : List Ft) (f : Ft) : crashF (F ++ [f]) = max (crashF F) f.crashes := by simp [crashF, List.foldl_append]
theorem dueF_snoc (F : List Ft) (f : Ft) : dueF (F ++ [f]) = if f.st = 0 ∧ f.op = false ∧ f.next < dueF F then f.next else dueF F := by
  unfold dueF
  rw [List.foldl_append]
  rfl
theorem overF_snoc (F : List Ft) (f : Ft) : overF (F ++ [f]) = (overF F && decide (f.st ≠ 0)) := by simp [overF]
theorem openF_snoc (F : List Ft) (f : Ft) : openF (F ++ [f]) = openF F ++ (if f.st = 0 ∧ f.op = true then [F.length] else []) := by
  unfold openF
  rw [List.length_append, List.length_singleton, List.range_succ, List.filter_append]
  congr 1
  · refine List.filter_congr fun i hi => ?_
    have hl : i < F.length := List.mem_range.1 hi
    simp [List.getD_eq_getElem?_getD, List.getElem?_append_left hl]
  · by_cases h : f.st = 0 ∧ f.op = true
    · simp [h.1, h.2]
    · rw [if_neg h]
      simp
      intro h1
      cases h2 : f.op with
      | false => rfl
      | true => exact absurd ⟨h1, h2⟩ h
/-- A fate that waits is open only where its state is 0: an ended one is not open. -/
theorem step_open {f : Ft} (h : f.st ≠ 0 → f.op = false) (k : Mk) : (stepF f k).st ≠ 0 → (stepF f k).op = false := by
  unfold stepF
  split
  · exact h
  · rename_i h0
    split
    · intro h1
      exact absurd h1 (by simpa using h0)
    · intro _; rfl
end Go.Proofs.YtimoebicacnihaaGreatDoor.Ln
end
