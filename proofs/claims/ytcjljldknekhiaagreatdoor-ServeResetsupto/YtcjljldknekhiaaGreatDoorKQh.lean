/-
  The law of resets: behind lines that take no body a session goes on as a new one, once HELO comes.
-/
import Derived.Test.YtcjljldknekhiaaGreatDoorKg11
import Derived.Test.YtcjljldknekhiaaGreatDoorKVy
namespace Go.Proofs.YtcjljldknekhiaaGreatDoor.Ln
open Go.RowKit
set_option linter.unusedVariables false
set_option linter.unusedSimpArgs false

def mx100 : Se := Se.new { data := #[109, 120] } 100
structure Qd (s : Se) : Prop where
  host : s.host = { data := #[109, 120] }
  size : s.size = 100
  wait : s.wait = []
  st : s.st ≤ 3
  body : s.body = []
  bad : s.bad = 0
theorem Qd.new : Qd mx100 := ⟨rfl, by decide, rfl, by decide, rfl, rfl⟩
section
variable {s : Se}
theorem Qd.says (h : Qd s) (t : ByteArray) : Qd (s.say t) := ⟨h.host, h.size, h.wait, h.st, h.body, h.bad⟩
theorem Qd.pop (h : Qd s) : Qd s.pop := ⟨h.host, h.size, h.wait, h.st, h.body, h.bad⟩
theorem Qd.reset (h : Qd s) : Qd s.reset := ⟨h.host, h.size, h.wait, by show (if 1 < s.st then 1 else s.st) ≤ 3; have := h.st; split <;> omega, rfl, rfl⟩
theorem Qd.to (h : Qd s) {n : Nat} (hn : n ≤ 3) : Qd (s.to n) := ⟨h.host, h.size, h.wait, hn, h.body, h.bad⟩
theorem Qd.verb (h : Qd s) (v : VC) (h1 : v.name ≠ nQUIT) (h2 : v.name ≠ nDATA) : Qd (s.verb v) := by
  have h3 : max s.st 1 ≤ 3 := by have := h.st; omega
  unfold Se.verb
  split; · exact ((h.to h3).reset).says _
  split; · exact ((h.to h3).reset).says _
  split; · exact h.reset.says _
  split; · exact h.says _
  split; · exact h.says _
  split
  · unfold Se.mail
    split; · exact h.says _
    split; · exact h.says _
    exact ⟨h.host, h.size, h.wait, by show 2 ≤ 3; decide, h.body, h.bad⟩
  split
  · unfold Se.rcpt
    split; · exact h.says _
    split; · exact h.says _
    exact ⟨h.host, h.size, h.wait, by show 3 ≤ 3; decide, h.body, h.bad⟩
  exact h
/-- A line that is neither DATA nor QUIT. -/
def Fine (l : ByteArray) : Prop := (∀ c ∈ ns l, c ≠ 13) ∧ ¬ ((V9 l).code = 0 ∧ ((V9 l).name = nDATA ∨ (V9 l).name = nQUIT))
theorem Qd.line (h : Qd s) {l : ByteArray} (hl : Fine l) : Qd (s.line V9 (ns l)) := by
  unfold Se.line Se.command
  rw [if_neg (by have := h.st; omega), str_ns]
  split; · exact h.says _
  split; · exact h.says _
  rename_i h5 h6
  have hc : (V9 l).code = 0 := by rcases V9_codes l with e | e | e | e <;> omega
  exact h.verb _ (fun e => hl.2 ⟨hc, .inr e⟩) (fun e => hl.2 ⟨hc, .inl e⟩)
theorem fine_fed (h : Qd (s.go V9)) {l : ByteArray} (hl : Fine l) : Qd ((s.fed (ns l ++ [13, 10])).go V9) := by
  rw [← fed_go V9 _ _ s rfl]
  have e : ((s.go V9).fed (ns l ++ [13, 10])).wait = ns l ++ [13, 10] ++ [] := by simp [Se.fed, h.wait]
  rw [go_line (by show (s.go V9).st < 5; have := h.st; omega) e hl.1]
  have hq : Qd { (s.go V9).fed (ns l ++ [13, 10]) with wait := [] } := ⟨h.host, h.size, rfl, h.st, h.body, h.bad⟩
  have h2 := hq.line hl
  rw [go_none (by rw [h2.wait]; rfl)]
  exact h2
/-- HELO makes it new. -/
theorem helo_same {a b : Se} (ha : Qd a) (hb : Qd b) (ho : a.out = []) (hp : b.out = []) (r : List Nat) : (a.fed ([72, 69, 76, 79, 32, 97, 13, 10] ++ r)).go V9 = (b.fed ([72, 69, 76, 79, 32, 97, 13, 10] ++ r)).go V9 := by
  have key : ∀ {c : Se}, Qd c → c.out = [] → (c.fed ([72, 69, 76, 79, 32, 97, 13, 10] ++ r)).go V9 = (Se.mk { data := #[109, 120] } 100 r [.say (reply 250)] 1 nobody [] [] 0).go V9 := fun {c} hc h0 => by
    have e : (c.fed ([72, 69, 76, 79, 32, 97, 13, 10] ++ r)).wait = [72, 69, 76, 79, 32, 97] ++ [13, 10] ++ r := by simp [Se.fed, hc.wait]
    rw [go_line (by show c.st < 5; have := hc.st; omega) e (by decide)]
    have hv : V9 (str [72, 69, 76, 79, 32, 97]) = ⟨nHELO, { data := #[97] }, -1, 0⟩ := by kernel_rfl
    unfold Se.line Se.command
    rw [if_neg (by show ¬ c.st = 4; have := hc.st; omega), if_neg (by decide), hv, if_neg (by decide)]
    unfold Se.verb
    rw [if_pos rfl]
    have h1 : (if 1 < max c.st 1 then 1 else max c.st 1) = 1 := by split <;> omega
    simp only [Se.to, Se.reset, Se.say, Se.fed, h1, hc.host, hc.size, h0, List.nil_append]
  rw [key ha ho, key hb hp]
end
/-! ### Whether a line has an end in it -/
def isEnd (c : Nat) : Bool := c == 13 || c == 10
theorem any_next (t : ByteArray) (K : Nat) (h : K < t.size) : ((ns t).take (K + 1)).any isEnd = (((ns t).take K).any isEnd || isEnd t[K].toNat) := by
  have h2 : K < t.data.size := h
  have h1 : (ns t)[K]? = some t[K].toNat := by
    rw [ns, List.getElem?_map, Array.getElem?_toList, Array.getElem?_eq_getElem h2]
    rfl
  rw [List.take_add_one, h1, List.any_append]
  simp
theorem any_all (t : ByteArray) : ((ns t).take t.size).any isEnd = (ns t).any isEnd := by rw [List.take_of_length_le (by rw [ns_length]; exact Nat.le_refl _)]
theorem fine_of {t : ByteArray} (h : (ns t).any isEnd = false) (h2 : ¬ ((V9 t).code = 0 ∧ ((V9 t).name = nDATA ∨ (V9 t).name = nQUIT))) : Fine t := by
  refine ⟨fun c hc e => ?_, h2⟩
  rw [List.any_eq_false] at h
  exact h c hc (by rw [e]; rfl)
theorem cast_end (n : Nat) : (((n : Int) == 13) || ((n : Int) == 10)) = isEnd n := by
  unfold isEnd
  rw [Bool.eq_iff_iff]
  simp only [Bool.or_eq_true, beq_iff_eq]
  omega
theorem litne9 {B : ByteArray} {l : List UInt8} (h : B ≠ ⟨l.toArray⟩) : (B.toList == l) = false := by
  rw [beq_eq_false_iff_ne]
  intro e
  apply h
  apply ByteArray.ext
  apply Array.ext'
  rw [← Lib.toList_data]
  simpa using e
theorem ns_crlf (t : ByteArray) : ns (t ++ { data := #[13, 10] }) = ns t ++ [13, 10] := by simp [ns]
theorem ns_helo (t : ByteArray) : ns ({ data := #[72, 69, 76, 79, 32, 97, 13, 10] } ++ t) = [72, 69, 76, 79, 32, 97, 13, 10] ++ ns t := by simp [ns]
end Go.Proofs.YtcjljldknekhiaaGreatDoor.Ln
