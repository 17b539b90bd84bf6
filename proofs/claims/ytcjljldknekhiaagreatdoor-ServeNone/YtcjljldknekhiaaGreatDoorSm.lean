/-
  A session in plain words: what a line does to it, what an answer does, all that can be done. What a command's line says is a function that is left open.
-/
import Derived.Test.YtcjljldknekhiaaGreatDoorSb
namespace Go.Proofs.YtcjljldknekhiaaGreatDoor.Ln
set_option linter.unusedVariables false
set_option linter.unusedSimpArgs false

/-- What a command's line says. -/
structure VC where
  name : ByteArray
  arg : ByteArray
  size : Int
  code : Int
/-- What a session wants. -/
inductive Ev where
  | say (t : ByteArray)
  | keep (f : ByteArray) (r : List ByteArray) (b : List Nat)
  | shut
structure Se where
  host : ByteArray
  size : Nat
  wait : List Nat
  out : List Ev
  st : Nat
  frm : ByteArray
  rcpts : List ByteArray
  body : List Nat
  bad : Nat

def dig (n : Nat) : List Nat := if n < 10 then [48 + n] else dig (n / 10) ++ [48 + n % 10]
def tailOf (code : Nat) : List Nat := if code = 250 then [32, 111, 107, 13, 10] else if code = 221 then [32, 98, 121, 101, 13, 10] else if code = 354 then [32, 103, 111, 32, 111, 110, 13, 10] else [32, 110, 111, 13, 10]
def reply (code : Nat) : ByteArray := str (dig code ++ tailOf code)
def nobody : ByteArray := { data := #[] }
def ehlo (host : ByteArray) (size : Nat) : ByteArray := { data := #[50, 53, 48, 45] } ++ host ++ { data := #[13, 10, 50, 53, 48, 45, 83, 73, 90, 69, 32] } ++ str (dig size) ++ { data := #[13, 10, 50, 53, 48, 32, 80, 73, 80, 69, 76, 73, 78, 73, 78, 71, 13, 10] }
def hello (host : ByteArray) : ByteArray := { data := #[50, 50, 48, 32] } ++ host ++ { data := #[13, 10] }

def Se.say (s : Se) (t : ByteArray) : Se := { s with out := s.out ++ [.say t] }
def Se.reset (s : Se) : Se := { s with frm := nobody, rcpts := [], body := [], bad := 0, st := if 1 < s.st then 1 else s.st }
def Se.to (s : Se) (n : Nat) : Se := { s with st := n }

/-! ### A body's line -/
def odd (t : List Nat) : Bool := t.any (fun c => c == 10 || c == 13)
def bad1 (s : Se) (l : List Nat) : Nat := if 1000 < l.length ∧ s.bad = 0 then 500 else s.bad
def bad2 (s : Se) (l : List Nat) : Nat := if odd (unT l) = true ∧ bad1 s l = 0 then 500 else bad1 s l
def bad3 (s : Se) (l : List Nat) : Nat := if s.size < s.body.length + (unT l).length + 1 ∧ bad2 s l = 0 then 552 else bad2 s l
def Se.text (s : Se) (l : List Nat) : Se :=
  if unE l = true then
    if 0 < s.bad then (s.say (reply s.bad)).reset
    else { s with st := 5, out := s.out ++ [.keep s.frm s.rcpts s.body] }
  else { s with bad := bad3 s l, body := if bad3 s l = 0 then s.body ++ unT l ++ [10] else s.body }

/-! ### A command's line -/
def nHELO : ByteArray := { data := #[72, 69, 76, 79] }
def nEHLO : ByteArray := { data := #[69, 72, 76, 79] }
def nRSET : ByteArray := { data := #[82, 83, 69, 84] }
def nNOOP : ByteArray := { data := #[78, 79, 79, 80] }
def nVRFY : ByteArray := { data := #[86, 82, 70, 89] }
def nQUIT : ByteArray := { data := #[81, 85, 73, 84] }
def nMAIL : ByteArray := { data := #[77, 65, 73, 76] }
def nRCPT : ByteArray := { data := #[82, 67, 80, 84] }
def nDATA : ByteArray := { data := #[68, 65, 84, 65] }
def Se.quit (s : Se) : Se := { s with st := 6, out := s.out ++ [.say (reply 221)] ++ [.shut] }
def Se.mail (s : Se) (v : VC) : Se :=
  if s.st ≠ 1 then s.say (reply 503)
  else if (s.size : Int) < v.size then s.say (reply 552)
  else { s with st := 2, frm := v.arg }.say (reply 250)
def Se.rcpt (s : Se) (v : VC) : Se :=
  if s.st < 2 then s.say (reply 503)
  else if 8 ≤ s.rcpts.length then s.say (reply 452)
  else { s with st := 3, rcpts := s.rcpts ++ [v.arg] }.say (reply 250)
def Se.data (s : Se) : Se := if s.st ≠ 3 then s.say (reply 503) else (s.to 4).say (reply 354)
def Se.verb (s : Se) (v : VC) : Se :=
  if v.name = nHELO then ((s.to (max s.st 1)).reset).say (reply 250)
  else if v.name = nEHLO then ((s.to (max s.st 1)).reset).say (ehlo s.host s.size)
  else if v.name = nRSET then s.reset.say (reply 250)
  else if v.name = nNOOP then s.say (reply 250)
  else if v.name = nVRFY then s.say (reply 252)
  else if v.name = nQUIT then s.quit
  else if v.name = nMAIL then s.mail v
  else if v.name = nRCPT then s.rcpt v
  else if v.name = nDATA then s.data
  else s
def Se.command (V : ByteArray → VC) (s : Se) (l : ByteArray) : Se :=
  if 512 < l.size then s.say (reply 500)
  else if 0 < (V l).code then s.say (reply (V l).code.toNat)
  else s.verb (V l)

/-! ### All that can be done -/
def Se.line (V : ByteArray → VC) (s : Se) (l : List Nat) : Se := if s.st = 4 then s.text l else s.command V (str l)
def Se.cut (s : Se) (i : Nat) : Se := { s with wait := s.wait.drop (i + 2) }

theorem say_wait (s : Se) (t : ByteArray) : (s.say t).wait = s.wait := rfl
theorem reset_wait (s : Se) : s.reset.wait = s.wait := rfl
theorem text_wait (s : Se) (l : List Nat) : (s.text l).wait = s.wait := by
  unfold Se.text
  split
  · split <;> rfl
  · rfl
theorem mail_wait (s : Se) (v : VC) : (s.mail v).wait = s.wait := by unfold Se.mail; split; · rfl
                                                                     · split <;> rfl
theorem rcpt_wait (s : Se) (v : VC) : (s.rcpt v).wait = s.wait := by unfold Se.rcpt; split; · rfl
                                                                     · split <;> rfl
theorem data_wait (s : Se) : s.data.wait = s.wait := by unfold Se.data; split <;> rfl
theorem verb_wait (s : Se) (v : VC) : (s.verb v).wait = s.wait := by
  unfold Se.verb
  split; · rfl
  split; · rfl
  split; · rfl
  split; · rfl
  split; · rfl
  split; · rfl
  split; · exact mail_wait s v
  split; · exact rcpt_wait s v
  split; · exact data_wait s
  rfl
theorem command_wait (V : ByteArray → VC) (s : Se) (l : ByteArray) : (s.command V l).wait = s.wait := by
  unfold Se.command
  split; · rfl
  split; · rfl
  exact verb_wait s _
theorem line_wait (V : ByteArray → VC) (s : Se) (l : List Nat) : (s.line V l).wait = s.wait := by
  unfold Se.line
  split
  · exact text_wait s l
  · exact command_wait V s _

def Se.go (V : ByteArray → VC) (s : Se) : Se :=
  if s.st < 5 then
    match h : pos s.wait with
    | none => s
    | some i => Se.go V ((s.cut i).line V (s.wait.take i))
  else s
termination_by s.wait.length
decreasing_by
  rw [line_wait]
  have := pos_lt h
  simp [Se.cut]
  omega
theorem go_over {V : ByteArray → VC} {s : Se} (h : ¬ s.st < 5) : s.go V = s := by rw [Se.go, if_neg h]
theorem go_none {V : ByteArray → VC} {s : Se} (h : pos s.wait = none) : s.go V = s := by
  rw [Se.go]
  split
  · split
    · rfl
    · rename_i i hi; rw [h] at hi; cases hi
  · rfl
theorem go_some {V : ByteArray → VC} {s : Se} {i : Nat} (h5 : s.st < 5) (h : pos s.wait = some i) : s.go V = ((s.cut i).line V (s.wait.take i)).go V := by
  rw [Se.go, if_pos h5]
  split
  · rename_i hi; rw [h] at hi; cases hi
  · rename_i j hj
    rw [h] at hj
    cases hj
    rfl

/-! ### An answer; a new one -/
def ansOk (s : Se) (code : Int) : Bool := decide (s.st = 5 ∧ s.out = [] ∧ 200 ≤ code ∧ code ≤ 599)
def Se.answer (s : Se) (code : Int) : Se := if ansOk s code = true then (s.say (reply (if code < 300 then 250 else code.toNat))).reset else s
def clampS (n : Int) : Nat := (min (max n 1) 8192).toNat
def Se.new (host : ByteArray) (size : Int) : Se := (Se.mk host (clampS size) [] [] 0 nobody [] [] 0).say (hello host)
def Se.pop (s : Se) : Se := { s with out := s.out.tail }
def Se.fed (s : Se) (b : List Nat) : Se := { s with wait := s.wait ++ b }

/-! ### What bounds it -/
structure Ok (s : Se) : Prop where
  size : 1 ≤ s.size ∧ s.size ≤ 8192
  body : s.body.length ≤ s.size
  rcpts : s.rcpts.length ≤ 8
  bad : s.bad = 0 ∨ s.bad = 500 ∨ s.bad = 552
  st : s.st ≤ 6
theorem Ok.say {s : Se} (h : Ok s) (t : ByteArray) : Ok (s.say t) := ⟨h.size, h.body, h.rcpts, h.bad, h.st⟩
theorem Ok.reset {s : Se} (h : Ok s) : Ok s.reset := ⟨h.size, by simp [Se.reset], by simp [Se.reset], .inl rfl, by have := h.st; simp only [Se.reset]; split <;> omega⟩
theorem Ok.to {s : Se} (h : Ok s) {n : Nat} (hn : n ≤ 6) : Ok (s.to n) := ⟨h.size, h.body, h.rcpts, h.bad, hn⟩
theorem bad1_ok {s : Se} (h : Ok s) (l : List Nat) : bad1 s l = 0 ∨ bad1 s l = 500 ∨ bad1 s l = 552 := by
  unfold bad1
  split
  · exact .inr (.inl rfl)
  · exact h.bad
theorem bad2_ok {s : Se} (h : Ok s) (l : List Nat) : bad2 s l = 0 ∨ bad2 s l = 500 ∨ bad2 s l = 552 := by
  unfold bad2
  split
  · exact .inr (.inl rfl)
  · exact bad1_ok h l
theorem bad3_ok {s : Se} (h : Ok s) (l : List Nat) : bad3 s l = 0 ∨ bad3 s l = 500 ∨ bad3 s l = 552 := by
  unfold bad3
  split
  · exact .inr (.inr rfl)
  · exact bad2_ok h l
theorem bad3_zero {s : Se} {l : List Nat} (h : bad3 s l = 0) : s.body.length + (unT l).length + 1 ≤ s.size := by
  unfold bad3 at h
  split at h
  · cases h
  · rename_i hn
    rcases Nat.lt_or_ge s.size (s.body.length + (unT l).length + 1) with hlt | hge
    · exact absurd ⟨hlt, h⟩ hn
    · exact hge
theorem Ok.text {s : Se} (h : Ok s) (l : List Nat) : Ok (s.text l) := by
  unfold Se.text
  split
  · split
    · exact (h.say _).reset
    · exact ⟨h.size, h.body, h.rcpts, h.bad, by show 5 ≤ 6; omega⟩
  · refine ⟨h.size, ?_, h.rcpts, bad3_ok h l, h.st⟩
    show List.length (if bad3 s l = 0 then s.body ++ unT l ++ [10] else s.body) ≤ s.size
    split
    · rename_i h0
      have := bad3_zero h0
      simp
      omega
    · exact h.body
theorem Ok.verb {s : Se} (h : Ok s) (v : VC) : Ok (s.verb v) := by
  have hm : max s.st 1 ≤ 6 := by have := h.st; omega
  unfold Se.verb
  split; · exact ((h.to hm).reset).say _
  split; · exact ((h.to hm).reset).say _
  split; · exact h.reset.say _
  split; · exact h.say _
  split; · exact h.say _
  split; · exact ⟨h.size, h.body, h.rcpts, h.bad, by show 6 ≤ 6; omega⟩
  split
  · unfold Se.mail
    split; · exact h.say _
    split; · exact h.say _
    exact ⟨h.size, h.body, h.rcpts, h.bad, by simp [Se.say]⟩
  split
  · unfold Se.rcpt
    split; · exact h.say _
    split; · exact h.say _
    · rename_i h8
      exact ⟨h.size, h.body, by simp [Se.say]; omega, h.bad, by simp [Se.say]⟩
  split
  · unfold Se.data
    split; · exact h.say _
    exact (h.to (by omega)).say _
  · exact h
theorem Ok.command {s : Se} (h : Ok s) (V : ByteArray → VC) (l : ByteArray) : Ok (s.command V l) := by
  unfold Se.command
  split; · exact h.say _
  split; · exact h.say _
  exact h.verb _
theorem Ok.line {s : Se} (h : Ok s) (V : ByteArray → VC) (l : List Nat) : Ok (s.line V l) := by
  unfold Se.line
  split
  · exact h.text l
  · exact h.command V _
theorem Ok.cut {s : Se} (h : Ok s) (i : Nat) : Ok (s.cut i) := ⟨h.size, h.body, h.rcpts, h.bad, h.st⟩
theorem Ok.new (host : ByteArray) (size : Int) : Ok (Se.new host size) := ⟨by simp [Se.new, Se.say, clampS]; omega, by simp [Se.new, Se.say], by simp [Se.new, Se.say], .inl rfl, by simp [Se.new, Se.say]⟩
theorem Ok.answer {s : Se} (h : Ok s) (code : Int) : Ok (s.answer code) := by
  unfold Se.answer
  split
  · exact (h.say _).reset
  · exact h
theorem Ok.pop {s : Se} (h : Ok s) : Ok s.pop := ⟨h.size, h.body, h.rcpts, h.bad, h.st⟩
theorem Ok.fed {s : Se} (h : Ok s) (b : List Nat) : Ok (s.fed b) := ⟨h.size, h.body, h.rcpts, h.bad, h.st⟩
/-- A line adds at most two events. -/
theorem out_say (s : Se) (t : ByteArray) : (s.say t).out.length = s.out.length + 1 := by simp [Se.say]
theorem out_text (s : Se) (l : List Nat) : (s.text l).out.length ≤ s.out.length + 2 := by
  unfold Se.text
  split
  · split
    · simp [Se.say, Se.reset]
    · simp
  · simp
theorem out_verb (s : Se) (v : VC) : (s.verb v).out.length ≤ s.out.length + 2 := by
  unfold Se.verb
  split; · simp [Se.say, Se.reset, Se.to]
  split; · simp [Se.say, Se.reset, Se.to]
  split; · simp [Se.say, Se.reset, Se.to]
  split; · simp [Se.say]
  split; · simp [Se.say]
  split; · simp [Se.quit]
  split
  · unfold Se.mail
    split; · simp [Se.say]
    split; · simp [Se.say]
    simp [Se.say]
  split
  · unfold Se.rcpt
    split; · simp [Se.say]
    split; · simp [Se.say]
    simp [Se.say]
  split
  · unfold Se.data
    split <;> simp [Se.say, Se.to]
  · omega
theorem out_line (V : ByteArray → VC) (s : Se) (l : List Nat) : (s.line V l).out.length ≤ s.out.length + 2 := by
  unfold Se.line
  split
  · exact out_text s l
  · unfold Se.command
    split; · simp [Se.say]
    split; · simp [Se.say]
    exact out_verb s _
end Go.Proofs.YtcjljldknekhiaaGreatDoor.Ln
