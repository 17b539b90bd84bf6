/-
  A session as the program holds it, in plain words; events that are told one by one; bytes that come.
-/
import Derived.Test.YtcjljldknekhiaaGreatDoorSm
namespace Go.Proofs.YtcjljldknekhiaaGreatDoor.Ln
set_option linter.unusedVariables false
set_option linter.unusedSimpArgs false

/-! ### What the program holds -/
def Se.view (s : Se) : Se := { s with
  frm := if 5 ≤ s.st then nobody else s.frm
  rcpts := if 5 ≤ s.st then [] else s.rcpts
  body := if 5 ≤ s.st ∨ s.bad ≠ 0 then [] else s.body
  bad := if 5 ≤ s.st then 0 else s.bad }
def pfault (p : Se) (l : List Nat) : Nat := if 1000 < l.length ∨ odd (unT l) = true then 500 else if p.size < p.body.length + (unT l).length + 1 then 552 else 0
def Se.kept (p : Se) : Se := { p with out := p.out ++ [.keep p.frm p.rcpts p.body], frm := nobody, rcpts := [], body := [], st := 5 }
def Se.pend (p : Se) : Se := if p.bad = 0 then p.kept else p.reset.say (reply p.bad)
def Se.ptext (p : Se) (l : List Nat) : Se :=
  if unE l = true then p.pend
  else if p.bad = 0 then
    if pfault p l = 0 then { p with body := p.body ++ unT l ++ [10] } else { p with bad := pfault p l, body := [] }
  else p
def Se.pverb (p : Se) (v : VC) : Se := if v.name = nQUIT then p.reset.quit else p.verb v
def Se.pcommand (V : ByteArray → VC) (p : Se) (l : ByteArray) : Se :=
  if 512 < l.size then p.say (reply 500)
  else if 0 < (V l).code then p.say (reply (V l).code.toNat)
  else p.pverb (V l)
def Se.pline (V : ByteArray → VC) (p : Se) (l : List Nat) : Se := if p.st = 4 then p.ptext l else p.pcommand V (str l)

theorem view_say (s : Se) (t : ByteArray) : (s.say t).view = s.view.say t := rfl
theorem view_reset (s : Se) : s.reset.view = s.reset := by
  have h : ¬ 5 ≤ (if 1 < s.st then 1 else s.st) := by split <;> omega
  simp [Se.view, Se.reset, h]
theorem reset_view (s : Se) : s.view.reset = s.reset := rfl
theorem view_mail (s : Se) (v : VC) (h : s.st ≤ 3) : (s.mail v).view = s.view.mail v := by
  have h5 : ¬ 5 ≤ s.st := by omega
  unfold Se.mail
  by_cases h1 : s.st ≠ 1
  · rw [if_pos h1, if_pos (show s.view.st ≠ 1 from h1)]; rfl
  · rw [if_neg h1, if_neg (show ¬ s.view.st ≠ 1 from h1)]
    by_cases h2 : (s.size : Int) < v.size
    · rw [if_pos h2, if_pos (show (s.view.size : Int) < v.size from h2)]; rfl
    · rw [if_neg h2, if_neg (show ¬ (s.view.size : Int) < v.size from h2)]
      simp [Se.view, Se.say, h5]
theorem view_rcpt (s : Se) (v : VC) (h : s.st ≤ 3) : (s.rcpt v).view = s.view.rcpt v := by
  have h5 : ¬ 5 ≤ s.st := by omega
  have hr : s.view.rcpts = s.rcpts := by simp [Se.view, h5]
  unfold Se.rcpt
  by_cases h1 : s.st < 2
  · rw [if_pos h1, if_pos (show s.view.st < 2 from h1)]; rfl
  · rw [if_neg h1, if_neg (show ¬ s.view.st < 2 from h1), hr]
    by_cases h2 : 8 ≤ s.rcpts.length
    · rw [if_pos h2, if_pos h2]; rfl
    · rw [if_neg h2, if_neg h2]
      simp [Se.view, Se.say, h5]
theorem view_data (s : Se) (h : s.st ≤ 3) : s.data.view = s.view.data := by
  have h5 : ¬ 5 ≤ s.st := by omega
  unfold Se.data
  by_cases h1 : s.st ≠ 3
  · rw [if_pos h1, if_pos (show s.view.st ≠ 3 from h1)]; rfl
  · rw [if_neg h1, if_neg (show ¬ s.view.st ≠ 3 from h1)]
    simp [Se.view, Se.say, Se.to, h5]
theorem view_verb (s : Se) (v : VC) (h : s.st ≤ 3) : (s.verb v).view = s.view.pverb v := by
  unfold Se.pverb
  by_cases hq : v.name = nQUIT
  · rw [if_pos hq]
    have d1 : ¬ nQUIT = nHELO := by decide
    have d2 : ¬ nQUIT = nEHLO := by decide
    have d3 : ¬ nQUIT = nRSET := by decide
    have d4 : ¬ nQUIT = nNOOP := by decide
    have d5 : ¬ nQUIT = nVRFY := by decide
    unfold Se.verb
    rw [hq, if_neg d1, if_neg d2, if_neg d3, if_neg d4, if_neg d5, if_pos rfl]
    simp [Se.view, Se.quit, Se.reset]
  · rw [if_neg hq]
    unfold Se.verb
    rw [if_neg hq, if_neg hq]
    split; · rw [view_say, view_reset]; rfl
    split; · rw [view_say, view_reset]; rfl
    split; · rw [view_say, view_reset]; rfl
    split; · rfl
    split; · rfl
    split; · exact view_mail s v h
    split; · exact view_rcpt s v h
    split; · exact view_data s h
    rfl
theorem bad3_zeroed {s : Se} (h : s.bad = 0) (l : List Nat) : bad3 s l = pfault s l := by
  unfold bad3 bad2 bad1 pfault
  by_cases h1 : 1000 < l.length
  · simp [h, h1]
  · by_cases h2 : odd (unT l) = true
    · simp [h, h1, h2]
    · simp [h, h1, h2]
theorem bad3_stays {s : Se} (h : s.bad ≠ 0) (l : List Nat) : bad3 s l = s.bad := by
  unfold bad3 bad2 bad1
  simp [h]
theorem view_text (s : Se) (l : List Nat) (h : s.st = 4) : (s.text l).view = s.view.ptext l := by
  have h5 : ¬ 5 ≤ s.st := by omega
  have hb : s.view.bad = s.bad := by simp [Se.view, h5]
  unfold Se.text Se.ptext Se.pend
  rw [hb]
  by_cases hE : unE l = true
  · rw [if_pos hE, if_pos hE]
    by_cases h0 : s.bad = 0
    · rw [if_neg (by omega), if_pos h0]
      simp [Se.view, Se.kept, h5, h0]
    · rw [if_pos (by omega), if_neg h0, view_reset, reset_view]
      rfl
  · rw [if_neg hE, if_neg hE]
    by_cases h0 : s.bad = 0
    · rw [if_pos h0, bad3_zeroed h0]
      have hv : s.view = s := by
        obtain ⟨a1, a2, a3, a4, a5, a6, a7, a8, a9⟩ := s
        simp only at h5 h0
        subst h0
        simp [Se.view, h5]
      rw [hv]
      by_cases hf : pfault s l = 0
      · rw [if_pos hf, if_pos hf]
        simp [Se.view, h5, h0, hf]
      · rw [if_neg hf, if_neg hf]
        simp [Se.view, h5, hf]
    · rw [if_neg h0, bad3_stays h0, if_neg h0]
theorem view_line (V : ByteArray → VC) (s : Se) (l : List Nat) (h : s.st < 5) : (s.line V l).view = s.view.pline V l := by
  unfold Se.line Se.pline
  by_cases h4 : s.st = 4
  · rw [if_pos h4, if_pos (show s.view.st = 4 from h4)]
    exact view_text s l h4
  · rw [if_neg h4, if_neg (show ¬ s.view.st = 4 from h4)]
    unfold Se.command Se.pcommand
    split; · rfl
    split; · rfl
    exact view_verb s _ (by omega)

/-! ### Events ahead -/
def Se.pre (a : List Ev) (s : Se) : Se := { s with out := a ++ s.out }
theorem pre_say (a : List Ev) (s : Se) (t : ByteArray) : (s.pre a).say t = (s.say t).pre a := by simp [Se.pre, Se.say]
theorem pre_text (a : List Ev) (s : Se) (l : List Nat) : (s.pre a).text l = (s.text l).pre a := by
  unfold Se.text
  by_cases hE : unE l = true
  · rw [if_pos hE, if_pos hE]
    by_cases h0 : 0 < s.bad
    · rw [if_pos h0, if_pos (show 0 < (s.pre a).bad from h0)]
      simp [Se.pre, Se.say, Se.reset]
      rfl
    · rw [if_neg h0, if_neg (show ¬ 0 < (s.pre a).bad from h0)]
      simp [Se.pre]
  · rw [if_neg hE, if_neg hE]
    rfl
theorem pre_verb (a : List Ev) (s : Se) (v : VC) : (s.pre a).verb v = (s.verb v).pre a := by
  unfold Se.verb
  split; · simp [Se.pre, Se.say, Se.reset, Se.to]; rfl
  split; · simp [Se.pre, Se.say, Se.reset, Se.to]; rfl
  split; · simp [Se.pre, Se.say, Se.reset, Se.to]; rfl
  split; · simp [Se.pre, Se.say]
  split; · simp [Se.pre, Se.say]
  split; · simp [Se.pre, Se.quit]
  split
  · unfold Se.mail
    by_cases h1 : s.st ≠ 1
    · rw [if_pos h1, if_pos (show (s.pre a).st ≠ 1 from h1)]; simp [Se.pre, Se.say]
    · rw [if_neg h1, if_neg (show ¬ (s.pre a).st ≠ 1 from h1)]
      by_cases h2 : (s.size : Int) < v.size
      · rw [if_pos h2, if_pos (show ((s.pre a).size : Int) < v.size from h2)]; simp [Se.pre, Se.say]
      · rw [if_neg h2, if_neg (show ¬ ((s.pre a).size : Int) < v.size from h2)]; simp [Se.pre, Se.say]
  split
  · unfold Se.rcpt
    by_cases h1 : s.st < 2
    · rw [if_pos h1, if_pos (show (s.pre a).st < 2 from h1)]; simp [Se.pre, Se.say]
    · rw [if_neg h1, if_neg (show ¬ (s.pre a).st < 2 from h1)]
      by_cases h2 : 8 ≤ s.rcpts.length
      · rw [if_pos h2, if_pos (show 8 ≤ (s.pre a).rcpts.length from h2)]; simp [Se.pre, Se.say]
      · rw [if_neg h2, if_neg (show ¬ 8 ≤ (s.pre a).rcpts.length from h2)]; simp [Se.pre, Se.say]
  split
  · unfold Se.data
    by_cases h1 : s.st ≠ 3
    · rw [if_pos h1, if_pos (show (s.pre a).st ≠ 3 from h1)]; simp [Se.pre, Se.say]
    · rw [if_neg h1, if_neg (show ¬ (s.pre a).st ≠ 3 from h1)]; simp [Se.pre, Se.say, Se.to]
  rfl
theorem pre_line (V : ByteArray → VC) (a : List Ev) (s : Se) (l : List Nat) : (s.pre a).line V l = (s.line V l).pre a := by
  unfold Se.line
  by_cases h4 : s.st = 4
  · rw [if_pos h4, if_pos (show (s.pre a).st = 4 from h4)]
    exact pre_text a s l
  · rw [if_neg h4, if_neg (show ¬ (s.pre a).st = 4 from h4)]
    unfold Se.command
    split; · exact pre_say a s _
    split; · exact pre_say a s _
    exact pre_verb a s _
theorem pre_go (V : ByteArray → VC) (a : List Ev) : ∀ (n : Nat) (s : Se), s.wait.length = n → (s.pre a).go V = (s.go V).pre a := by
  intro n
  induction n using Nat.strongRecOn with
  | _ n ih =>
    intro s hn
    by_cases h5 : s.st < 5
    · cases hp : pos s.wait with
      | none => rw [go_none hp, go_none (s := s.pre a) hp]
      | some i =>
        rw [go_some h5 hp, go_some (s := s.pre a) h5 hp]
        have e : ((s.pre a).cut i).line V ((s.pre a).wait.take i) = ((s.cut i).line V (s.wait.take i)).pre a := pre_line V a (s.cut i) _
        rw [e]
        refine ih _ ?_ _ rfl
        have := pos_lt hp
        rw [line_wait]
        simp [Se.cut]
        omega
    · rw [go_over h5, go_over (s := s.pre a) h5]
theorem go_pop {V : ByteArray → VC} {s : Se} {e : Ev} {L : List Ev} (h : s.out = e :: L) : (s.go V).out = e :: (s.pop.go V).out ∧ (s.go V).pop = s.pop.go V := by
  have hs : s = s.pop.pre [e] := by
    cases s
    simp only at h
    subst h
    rfl
  have hg : s.go V = (s.pop.go V).pre [e] := by
    conv => lhs; rw [hs]
    exact pre_go V [e] _ s.pop rfl
  rw [hg]
  exact ⟨rfl, rfl⟩

/-! ### Bytes that come -/
theorem hit_more {a : List Nat} {i : Nat} (h : hit a i = true) (b : List Nat) : hit (a ++ b) i = true := by
  have hl := hit_lt h
  simp only [hit] at h ⊢
  rw [List.getElem?_append_left (by omega), List.getElem?_append_left (by omega)]
  exact h
theorem hit_less {a b : List Nat} {i : Nat} (h : hit (a ++ b) i = true) (hl : i + 2 ≤ a.length) : hit a i = true := by
  simp only [hit] at h ⊢
  rw [List.getElem?_append_left (by omega), List.getElem?_append_left (by omega)] at h
  exact h
theorem pos_more {a : List Nat} {i : Nat} (h : pos a = some i) (b : List Nat) : pos (a ++ b) = some i := by
  obtain ⟨h1, h2⟩ := pos_some_hit h
  have hl := hit_lt h1
  refine pos_first (hit_more h1 b) fun j hj => ?_
  cases hh : hit (a ++ b) j with
  | false => rfl
  | true =>
    have := hit_less hh (by omega)
    rw [h2 j hj] at this
    cases this
theorem fed_text (b : List Nat) (s : Se) (l : List Nat) : (s.fed b).text l = (s.text l).fed b := by
  unfold Se.text
  by_cases hE : unE l = true
  · rw [if_pos hE, if_pos hE]
    by_cases h0 : 0 < s.bad
    · rw [if_pos h0, if_pos (show 0 < (s.fed b).bad from h0)]
      rfl
    · rw [if_neg h0, if_neg (show ¬ 0 < (s.fed b).bad from h0)]
      rfl
  · rw [if_neg hE, if_neg hE]
    rfl
theorem fed_verb (b : List Nat) (s : Se) (v : VC) : (s.fed b).verb v = (s.verb v).fed b := by
  unfold Se.verb
  split; · rfl
  split; · rfl
  split; · rfl
  split; · rfl
  split; · rfl
  split; · rfl
  split
  · unfold Se.mail
    by_cases h1 : s.st ≠ 1
    · rw [if_pos h1, if_pos (show (s.fed b).st ≠ 1 from h1)]; rfl
    · rw [if_neg h1, if_neg (show ¬ (s.fed b).st ≠ 1 from h1)]
      by_cases h2 : (s.size : Int) < v.size
      · rw [if_pos h2, if_pos (show ((s.fed b).size : Int) < v.size from h2)]; rfl
      · rw [if_neg h2, if_neg (show ¬ ((s.fed b).size : Int) < v.size from h2)]; rfl
  split
  · unfold Se.rcpt
    by_cases h1 : s.st < 2
    · rw [if_pos h1, if_pos (show (s.fed b).st < 2 from h1)]; rfl
    · rw [if_neg h1, if_neg (show ¬ (s.fed b).st < 2 from h1)]
      by_cases h2 : 8 ≤ s.rcpts.length
      · rw [if_pos h2, if_pos (show 8 ≤ (s.fed b).rcpts.length from h2)]; rfl
      · rw [if_neg h2, if_neg (show ¬ 8 ≤ (s.fed b).rcpts.length from h2)]; rfl
  split
  · unfold Se.data
    by_cases h1 : s.st ≠ 3
    · rw [if_pos h1, if_pos (show (s.fed b).st ≠ 3 from h1)]; rfl
    · rw [if_neg h1, if_neg (show ¬ (s.fed b).st ≠ 3 from h1)]; rfl
  rfl
theorem fed_line (V : ByteArray → VC) (b : List Nat) (s : Se) (l : List Nat) : (s.fed b).line V l = (s.line V l).fed b := by
  unfold Se.line
  by_cases h4 : s.st = 4
  · rw [if_pos h4, if_pos (show (s.fed b).st = 4 from h4)]
    exact fed_text b s l
  · rw [if_neg h4, if_neg (show ¬ (s.fed b).st = 4 from h4)]
    unfold Se.command
    split; · rfl
    split; · rfl
    exact fed_verb b s _
theorem fed_go (V : ByteArray → VC) (b : List Nat) : ∀ (n : Nat) (s : Se), s.wait.length = n → ((s.go V).fed b).go V = (s.fed b).go V := by
  intro n
  induction n using Nat.strongRecOn with
  | _ n ih =>
    intro s hn
    by_cases h5 : s.st < 5
    · cases hp : pos s.wait with
      | none => rw [go_none hp]
      | some i =>
        have hl := pos_lt hp
        have hp2 : pos (s.fed b).wait = some i := pos_more hp b
        rw [go_some h5 hp, go_some (s := s.fed b) h5 hp2]
        have e : ((s.fed b).cut i).line V ((s.fed b).wait.take i) = ((s.cut i).line V (s.wait.take i)).fed b := by
          have e1 : (s.fed b).wait.take i = s.wait.take i := List.take_append_of_le_length (by omega)
          have e2 : (s.fed b).cut i = (s.cut i).fed b := by
            simp only [Se.fed, Se.cut]
            rw [List.drop_append_of_le_length (by omega)]
          rw [e1, e2, fed_line]
        rw [e]
        refine ih _ ?_ _ rfl
        rw [line_wait]
        simp [Se.cut]
        omega
    · rw [go_over h5]
theorem fed_none (s : Se) : s.fed [] = s := by simp [Se.fed]
theorem go_go (V : ByteArray → VC) (s : Se) : (s.go V).go V = s.go V := by
  have := fed_go V [] _ s rfl
  rwa [fed_none, fed_none] at this
theorem fed_fed (s : Se) (a b : List Nat) : (s.fed a).fed b = s.fed (a ++ b) := by simp [Se.fed]

/-! ### What a line tells; whether Shut was told -/
def Tells (s s' : Se) : Prop := ∃ es, s'.out = s.out ++ es ∧ ((s'.st ≠ 6 ∧ Ev.shut ∉ es) ∨ (s'.st = 6 ∧ ∃ t, es = [.say t, .shut]))
theorem Tells.say {s : Se} (t : ByteArray) {s' : Se} (ho : s'.out = s.out ++ [.say t]) (hst : s'.st ≠ 6) : Tells s s' := ⟨[.say t], ho, .inl ⟨hst, by simp⟩⟩
theorem tells_text (s : Se) (l : List Nat) (h : s.st = 4) : Tells s (s.text l) := by
  unfold Se.text
  split
  · split
    · exact Tells.say _ rfl (by show (if 1 < s.st then 1 else s.st) ≠ 6; split <;> omega)
    · exact ⟨[.keep s.frm s.rcpts s.body], rfl, .inl ⟨by show 5 ≠ 6; omega, by simp⟩⟩
  · exact ⟨[], by simp, .inl ⟨by show s.st ≠ 6; omega, by simp⟩⟩
theorem tells_verb (s : Se) (v : VC) (h : s.st < 5) : Tells s (s.verb v) := by
  unfold Se.verb
  split; · exact Tells.say _ rfl (by show (if 1 < max s.st 1 then 1 else max s.st 1) ≠ 6; split <;> omega)
  split; · exact Tells.say _ rfl (by show (if 1 < max s.st 1 then 1 else max s.st 1) ≠ 6; split <;> omega)
  split; · exact Tells.say _ rfl (by show (if 1 < s.st then 1 else s.st) ≠ 6; split <;> omega)
  split; · exact Tells.say _ rfl (by show s.st ≠ 6; omega)
  split; · exact Tells.say _ rfl (by show s.st ≠ 6; omega)
  split; · exact ⟨[.say (reply 221), .shut], by simp [Se.quit], .inr ⟨rfl, _, rfl⟩⟩
  split
  · unfold Se.mail
    split; · exact Tells.say _ rfl (by show s.st ≠ 6; omega)
    split; · exact Tells.say _ rfl (by show s.st ≠ 6; omega)
    exact Tells.say _ rfl (by show 2 ≠ 6; omega)
  split
  · unfold Se.rcpt
    split; · exact Tells.say _ rfl (by show s.st ≠ 6; omega)
    split; · exact Tells.say _ rfl (by show s.st ≠ 6; omega)
    exact Tells.say _ rfl (by show 3 ≠ 6; omega)
  split
  · unfold Se.data
    split; · exact Tells.say _ rfl (by show s.st ≠ 6; omega)
    exact Tells.say _ rfl (by show 4 ≠ 6; omega)
  exact ⟨[], by simp, .inl ⟨by omega, by simp⟩⟩
theorem tells_line (V : ByteArray → VC) (s : Se) (l : List Nat) (h : s.st < 5) : Tells s (s.line V l) := by
  unfold Se.line
  split
  · rename_i h4; exact tells_text s l h4
  · unfold Se.command
    split; · exact Tells.say _ rfl (by show s.st ≠ 6; omega)
    split; · exact Tells.say _ rfl (by show s.st ≠ 6; omega)
    exact tells_verb s _ h
/-- Whether Shut was told, and where it waits. -/
def Sh (over : Bool) (r : Se) : Prop := (over = true ∧ r.st = 6 ∧ r.out = []) ∨ (over = false ∧ r.st = 6 ∧ ∃ L, r.out = L ++ [.shut] ∧ Ev.shut ∉ L) ∨ (over = false ∧ r.st ≠ 6 ∧ Ev.shut ∉ r.out)
theorem Sh.line {over : Bool} {s : Se} (h : Sh over s) (V : ByteArray → VC) (l : List Nat) (h5 : s.st < 5) : Sh over (s.line V l) := by
  obtain ⟨es, ho, ht⟩ := tells_line V s l h5
  rcases h with ⟨_, h6, _⟩ | ⟨_, h6, _⟩ | ⟨h1, _, h3⟩
  · omega
  · omega
  · rcases ht with ⟨h6, hn⟩ | ⟨h6, t, he⟩
    · exact .inr (.inr ⟨h1, h6, by rw [ho]; simp [h3, hn]⟩)
    · refine .inr (.inl ⟨h1, h6, s.out ++ [.say t], by rw [ho, he]; simp, by simp [h3]⟩)
theorem Sh.go {over : Bool} (V : ByteArray → VC) : ∀ (n : Nat) (s : Se), s.wait.length = n → Sh over s → Sh over (s.go V) := by
  intro n
  induction n using Nat.strongRecOn with
  | _ n ih =>
    intro s hn h
    by_cases h5 : s.st < 5
    · cases hp : pos s.wait with
      | none => rw [go_none hp]; exact h
      | some i =>
        rw [go_some h5 hp]
        refine ih _ ?_ _ rfl (Sh.line (s := s.cut i) h V _ h5)
        have := pos_lt hp
        rw [line_wait]
        simp [Se.cut]
        omega
    · rw [go_over h5]; exact h
theorem Sh.fed {over : Bool} {s : Se} (h : Sh over s) (b : List Nat) : Sh over (s.fed b) := h
theorem Sh.new (host : ByteArray) (size : Int) : Sh false (Se.new host size) := .inr (.inr ⟨rfl, by simp [Se.new, Se.say], by simp [Se.new, Se.say]⟩)
theorem Sh.answer {over : Bool} {s : Se} (h : Sh over s) (code : Int) : Sh over (s.answer code) := by
  unfold Se.answer
  split
  · rename_i ha
    have ha := of_decide_eq_true ha
    rcases h with ⟨_, h6, _⟩ | ⟨_, h6, _⟩ | ⟨h1, _, h3⟩
    · omega
    · omega
    · refine .inr (.inr ⟨h1, ?_, ?_⟩)
      · show (if 1 < s.st then 1 else s.st) ≠ 6
        split <;> omega
      · show Ev.shut ∉ s.out ++ [.say _]
        simp [h3]
  · exact h
def isShut : Ev → Bool
  | .shut => true
  | _ => false
theorem Sh.pop {over : Bool} {s : Se} {e : Ev} {L : List Ev} (h : Sh over s) (ho : s.out = e :: L) : Sh (over || isShut e) s.pop := by
  have hp : s.pop.out = L := by simp [Se.pop, ho]
  rcases h with ⟨_, _, h3⟩ | ⟨h1, h6, M, h3, h4⟩ | ⟨h1, h6, h3⟩
  · rw [h3] at ho; cases ho
  · subst h1
    rw [ho] at h3
    rcases M with _ | ⟨m, M⟩
    · simp only [List.nil_append, List.cons.injEq] at h3
      obtain ⟨rfl, rfl⟩ := h3
      exact .inl ⟨rfl, h6, hp⟩
    · simp only [List.cons_append, List.cons.injEq] at h3
      obtain ⟨rfl, rfl⟩ := h3
      have hne : isShut e = false := by
        cases e with
        | shut => simp at h4
        | _ => rfl
      rw [hne]
      refine .inr (.inl ⟨rfl, h6, M, hp, fun hm => h4 (by simp [hm])⟩)
  · subst h1
    have hne : isShut e = false := by
      cases e with
      | shut => rw [ho] at h3; simp at h3
      | _ => rfl
    rw [hne]
    refine .inr (.inr ⟨rfl, h6, fun hm => h3 ?_⟩)
    rw [hp] at hm
    rw [ho]
    simp [hm]
/-- A session that goes on and is over then tells of it. -/
theorem go_six (V : ByteArray → VC) : ∀ (n : Nat) (s : Se), s.wait.length = n → s.st ≠ 6 → (s.go V).st = 6 → Ev.shut ∈ (s.go V).out := by
  intro n
  induction n using Nat.strongRecOn with
  | _ n ih =>
    intro s hn h6 hg
    by_cases h5 : s.st < 5
    · cases hp : pos s.wait with
      | none => rw [go_none hp] at hg; exact absurd hg h6
      | some i =>
        rw [go_some h5 hp] at hg ⊢
        have hlt : ((s.cut i).line V (s.wait.take i)).wait.length < n := by
          have := pos_lt hp
          rw [line_wait]
          simp [Se.cut]
          omega
        by_cases h6' : ((s.cut i).line V (s.wait.take i)).st = 6
        · rw [go_over (by omega)]
          obtain ⟨es, ho, ⟨h7, _⟩ | ⟨_, t, he⟩⟩ := tells_line V (s.cut i) (s.wait.take i) h5
          · exact absurd h6' h7
          · rw [ho, he]; simp
        · exact ih _ hlt _ rfl h6' hg
    · rw [go_over h5] at hg; exact absurd hg h6
theorem over_iff {V : ByteArray → VC} {over : Bool} {p r : Se} (hg : p.go V = r) (hs : Sh over r) : decide (p.st = 6 ∧ p.out = []) = over := by
  cases over with
  | true =>
    rcases hs with ⟨_, h6, h0⟩ | ⟨h1, _⟩ | ⟨h1, _⟩
    · rw [decide_eq_true_iff]
      by_cases hp : p.st = 6
      · rw [go_over (by omega)] at hg
        exact ⟨hp, by rw [hg]; exact h0⟩
      · have := go_six V _ p rfl hp (by rw [hg]; exact h6)
        rw [hg, h0] at this
        cases this
    · cases h1
    · cases h1
  | false =>
    rw [decide_eq_false_iff_not]
    rintro ⟨h6, h0⟩
    rw [go_over (by omega)] at hg
    subst hg
    rcases hs with ⟨h1, _⟩ | ⟨_, _, L, h3, _⟩ | ⟨_, h7, _⟩
    · cases h1
    · rw [h0] at h3
      simp at h3
    · exact h7 h6
end Go.Proofs.YtcjljldknekhiaaGreatDoor.Ln
