/-
  Several texts in one: Sw Spp Bdy Sx.
-/
import Derived.Test.YtcjljldknekhiaaGreatDoorKg8
import Derived.Test.YtcjljldknekhiaaGreatDoorKg2
import Derived.Test.YtcjljldknekhiaaGreatDoorKg12
import Derived.Test.YtcjljldknekhiaaGreatDoorKg1
import Derived.Test.YtcjljldknekhiaaGreatDoorKQi
import Derived.Test.YtcjljldknekhiaaGreatDoorKg11
import Derived.SliceStrings

section
/-
  A mail that is sent line by line, in plain words.
-/
namespace Go.Proofs.YtcjljldknekhiaaGreatDoor.Ln
set_option linter.unusedVariables false
set_option linter.unusedSimpArgs false

/-! ### A line of a session -/
theorem go_lineT {V : ByteArray → VC} {s : Se} {l R : List Nat} (h5 : s.st < 5) (hw : s.wait = l ++ 13 :: 10 :: R) (hl : ∀ c ∈ l, c ≠ 13) : s.go V = (({ s with wait := R } : Se).line V l).go V := by
  have hp := pos_at (R := R) hl
  rw [← hw] at hp
  have e : s.cut l.length = ({ s with wait := R } : Se) := by
    unfold Se.cut
    rw [hw, List.drop_append, List.drop_eq_nil_of_le (by omega), show l.length + 2 - l.length = 2 by omega]
    rfl
  rw [go_some h5 hp, e, hw, List.take_left]
theorem odd_cleanT {l : List Nat} (h : clean l) : odd l = false := by
  rw [odd, List.any_eq_false]
  intro c hc
  obtain ⟨h1, h2⟩ := h c hc
  simp [h1, h2]
/-- A body's texts, and its end. -/
theorem go_body (V : ByteArray → VC) : ∀ (L : List (List Nat)) (s : Se) (R : List Nat), s.st = 4 → s.bad = 0 → (∀ l ∈ L, clean l ∧ l.length ≤ 999) → s.body.length + (joinL L).length ≤ s.size → s.wait = stuffs L ++ 46 :: 13 :: 10 :: R →
    s.go V = { s with wait := R, st := 5, body := s.body ++ joinL L, out := s.out ++ [.keep s.frm s.rcpts (s.body ++ joinL L)] }
  | [], s, R, h4, h0, _, _, hw => by
    rw [go_lineT (l := [46]) (R := R) (by omega) hw (by simp), Se.line, if_pos (by exact h4), Se.text, if_pos (by decide), if_neg (by show ¬ 0 < s.bad; omega), go_over (by show ¬ 5 < 5; omega)]
    simp [joinL]
  | l :: L, s, R, h4, h0, hL, hb, hw => by
    obtain ⟨hc, hl⟩ := hL l (List.mem_cons_self ..)
    have hj : (joinL (l :: L)).length = l.length + 1 + (joinL L).length := by simp [joinL]; omega
    obtain ⟨u1, u2⟩ := un_stuff (l := l)
    have hs : (stuffT l).length ≤ 1000 := by
      unfold stuffT
      split
      · simp; omega
      · omega
    have b1 : bad1 { s with wait := stuffs L ++ 46 :: 13 :: 10 :: R } (stuffT l) = 0 := by
      rw [bad1, if_neg (by omega)]
      exact h0
    have b2 : bad2 { s with wait := stuffs L ++ 46 :: 13 :: 10 :: R } (stuffT l) = 0 := by
      rw [bad2, u2, odd_cleanT hc, b1]
      simp
    have b3 : bad3 { s with wait := stuffs L ++ 46 :: 13 :: 10 :: R } (stuffT l) = 0 := by
      rw [bad3, u2, b2, if_neg (by show ¬ (s.size < s.body.length + l.length + 1 ∧ _); omega)]
    have ht : ({ s with wait := stuffs L ++ 46 :: 13 :: 10 :: R } : Se).text (stuffT l) = { s with wait := stuffs L ++ 46 :: 13 :: 10 :: R, body := s.body ++ l ++ [10] } := by
      rw [Se.text, u1, if_neg (by decide), b3, if_pos rfl, u2, ← h0]
    rw [go_lineT (l := stuffT l) (R := stuffs L ++ 46 :: 13 :: 10 :: R) (by omega) (by rw [hw]; simp [stuffs]) (stuffT_no13 (fun c h => (hc c h).2)), Se.line, if_pos (by exact h4), ht,
      go_body V L { s with wait := stuffs L ++ 46 :: 13 :: 10 :: R, body := s.body ++ l ++ [10] } R h4 h0 (fun l h => hL l (List.mem_cons_of_mem _ h)) (by simp; omega) rfl]
    simp [joinL]

/-! ### Commands -/
theorem go_cmd {V : ByteArray → VC} {s : Se} {A : ByteArray} {R : List Nat} (h4 : s.st < 4) (hw : s.wait = ns A ++ 13 :: 10 :: R) (hl : ∀ c ∈ ns A, c ≠ 13) (hz : A.size ≤ 512) (hv : (V A).code = 0) : s.go V = (({ s with wait := R } : Se).verb (V A)).go V := by
  rw [go_lineT (by omega) hw hl, Se.line, if_neg (by show ¬ s.st = 4; omega), str_ns, Se.command, if_neg (by omega), if_neg (by rw [hv]; decide)]
theorem mail_line {p : List UInt8} (hp : Ad.isPath p = true) (h32 : (32 : UInt8) ∉ p) : Ad.verbM ([77, 65, 73, 76, 32, 70, 82, 79, 77, 58] ++ p) = ⟨Ad.nMail, Ad.pathM p, -1, 0⟩ := by
  have hk : (32 : UInt8) ∉ Ad.kFrom ++ p := by
    rw [List.mem_append]
    rintro (h | h)
    · revert h; decide
    · exact h32 h
  obtain ⟨a1, a2, a3⟩ := Ad.ahd_at 32 (a := [77, 65, 73, 76]) (Ad.kFrom ++ p) (by decide)
  obtain ⟨m1, m2, m3⟩ := Ad.ahd_miss 32 hk
  obtain ⟨k1, k2⟩ := Ad.keyed_append (key := Ad.kFrom) (k := Ad.kFrom) (by decide) p
  have e : ([77, 65, 73, 76, 32, 70, 82, 79, 77, 58] ++ p : List UInt8) = [77, 65, 73, 76] ++ 32 :: (Ad.kFrom ++ p) := rfl
  rw [e, Ad.verbM, a1, a2, a3, show Ad.great [77, 65, 73, 76] = Ad.nMail by decide, Ad.verbN, show Ad.kind Ad.nMail = some .mail by rfl]
  show Ad.cmdOf Ad.nMail (Ad.mailM (Ad.kFrom ++ p)) = _
  rw [Ad.mailM, Ad.pathOk, Ad.wordM, m1, k1, k2, hp, m3]
  rfl
theorem rcpt_line {p : List UInt8} (hp : Ad.isPath p = true) (h32 : (32 : UInt8) ∉ p) (hn : Ad.pathM p ≠ []) : Ad.verbM ([82, 67, 80, 84, 32, 84, 79, 58] ++ p) = ⟨Ad.nRcpt, Ad.pathM p, -1, 0⟩ := by
  have hk : (32 : UInt8) ∉ Ad.kTo ++ p := by
    rw [List.mem_append]
    rintro (h | h)
    · revert h; decide
    · exact h32 h
  obtain ⟨a1, a2, a3⟩ := Ad.ahd_at 32 (a := [82, 67, 80, 84]) (Ad.kTo ++ p) (by decide)
  obtain ⟨m1, m2, m3⟩ := Ad.ahd_miss 32 hk
  obtain ⟨k1, k2⟩ := Ad.keyed_append (key := Ad.kTo) (k := Ad.kTo) (by decide) p
  have e : ([82, 67, 80, 84, 32, 84, 79, 58] ++ p : List UInt8) = [82, 67, 80, 84] ++ 32 :: (Ad.kTo ++ p) := rfl
  have hi : (Ad.pathM p).isEmpty = false := by
    cases h : Ad.pathM p with
    | nil => exact absurd h hn
    | cons a r => rfl
  rw [e, Ad.verbM, a1, a2, a3, show Ad.great [82, 67, 80, 84] = Ad.nRcpt by decide, Ad.verbN, show Ad.kind Ad.nRcpt = some .rcpt by rfl]
  show Ad.cmdOf Ad.nRcpt (Ad.rcptM (Ad.kTo ++ p)) = _
  rw [Ad.rcptM, Ad.pathOk, Ad.wordM, m1, k1, k2, hp, m3, hi]
  rfl

/-! ### The bytes of a mailbox -/
theorem madeOf_no {signs l : List UInt8} (h : Ad.madeOf signs l = true) {c : UInt8} (hp : Ad.plain c = false) (hs : signs.contains c = false) : c ∉ l := fun hm => by
  rw [Ad.madeOf, List.all_eq_true] at h
  have := h c hm
  rw [hp, hs] at this
  cases this
theorem cuts_mem : ∀ {l : List UInt8} {c d : UInt8}, c ∈ l → c ≠ d → ∃ x ∈ Ad.cuts d l, c ∈ x
  | [], c, d, h, _ => by cases h
  | x :: r, c, d, h, hne => by
    unfold Ad.cuts
    by_cases hx : x = d
    · rw [if_pos hx]
      rcases List.mem_cons.1 h with rfl | h
      · exact absurd hx hne
      · obtain ⟨y, hy, hc⟩ := cuts_mem (d := d) h hne
        exact ⟨y, List.mem_cons_of_mem _ hy, hc⟩
    · rw [if_neg hx]
      rcases List.mem_cons.1 h with rfl | h
      · exact ⟨_, List.mem_cons_self .., List.mem_cons_self ..⟩
      · obtain ⟨y, hy, hc⟩ := cuts_mem (d := d) h hne
        cases hC : Ad.cuts d r with
        | nil => rw [hC] at hy; cases hy
        | cons a t =>
          rw [hC] at hy
          rcases List.mem_cons.1 hy with rfl | hy
          · exact ⟨_, List.mem_cons_self .., List.mem_cons_of_mem _ hc⟩
          · exact ⟨y, List.mem_cons_of_mem _ hy, hc⟩
theorem box_no {l : List UInt8} (h : Ad.isBox l = true) {c : UInt8} (hp : Ad.plain c = false) (h1 : ([46, 95, 43, 45] : List UInt8).contains c = false) (h2 : c ≠ 64) : c ∉ l := fun hm => by
  simp only [Ad.isBox, Bool.and_eq_true, decide_eq_true_eq] at h
  obtain ⟨_, h64, hl, hd⟩ := h
  have hs : l = Ad.ahead l ++ 64 :: Ad.behind l := by
    rcases Ad.split_ahd 64 l with ⟨_, e⟩ | ⟨e, _⟩
    · exact e
    · rw [h64] at e; cases e
  rw [hs] at hm
  rcases List.mem_append.1 hm with hm | hm
  · simp only [Ad.loc, Bool.and_eq_true] at hl
    exact madeOf_no hl.2.2.2 hp h1 hm
  · rcases List.mem_cons.1 hm with rfl | hm
    · exact h2 rfl
    · have h46 : c ≠ 46 := fun e => by rw [e] at h1; revert h1; decide
      obtain ⟨x, hx, hc⟩ := cuts_mem (d := 46) hm h46
      simp only [Ad.domain, Bool.and_eq_true, List.all_eq_true] at hd
      have hlab := hd.2 x hx
      simp only [Ad.label, Bool.and_eq_true] at hlab
      have h45 : ([45] : List UInt8).contains c = false := by
        rw [List.contains_cons] at *
        simp only [List.contains_cons, List.contains_nil, Bool.or_eq_false_iff] at h1 ⊢
        exact ⟨h1.2.2.2.1, trivial⟩
      exact madeOf_no hlab.2.2 hp h45 hc
theorem box_len {l : List UInt8} (h : Ad.isBox l = true) : l.length ≤ 64 := by
  simp only [Ad.isBox, Bool.and_eq_true, decide_eq_true_eq] at h
  exact h.1
/-- A path between its angles. -/
def angled (l : List UInt8) : List UInt8 := 60 :: (l ++ [62])
theorem angled_inner (l : List UInt8) : Ad.isAngled (angled l) = true ∧ Ad.inner (angled l) = l ∧ (angled l).length = l.length + 2 := by
  refine ⟨?_, ?_, by simp [angled]⟩
  · have : (60 :: (l ++ [62]) : List UInt8).getLast? = some 62 := by
      exact List.getLast?_concat (l := 60 :: l)
    simp [Ad.isAngled, angled, this]
  · simp [Ad.inner, angled]
theorem angled_path {l : List UInt8} (h : Ad.isPath (angled l) = true) : (l = [] ∨ Ad.isBox l = true) ∧ Ad.pathM (angled l) = Ad.parseM l := by
  obtain ⟨h1, h2, h3⟩ := angled_inner l
  rw [Ad.isPath, h1, h2, h3] at h
  rw [Ad.pathM, h1, h2, h3]
  cases l with
  | nil => exact ⟨.inl rfl, by rfl⟩
  | cons a r =>
    refine ⟨.inr ?_, by simp⟩
    simpa using h
theorem angled_box {l : List UInt8} (h : Ad.isBox l = true) : Ad.isPath (angled l) = true ∧ Ad.pathM (angled l) = Ad.parseM l ∧ Ad.parseM l ≠ [] := by
  obtain ⟨h1, h2, h3⟩ := angled_inner l
  have hp : Ad.isPath (angled l) = true := by rw [Ad.isPath, h1, h2, h]; simp
  exact ⟨hp, (angled_path hp).2, by rw [Ad.parseM, if_pos h]; simp⟩
theorem angled_no {l : List UInt8} (h : l = [] ∨ Ad.isBox l = true) {c : UInt8} (hp : Ad.plain c = false) (h1 : ([46, 95, 43, 45] : List UInt8).contains c = false) (h2 : c ≠ 64) (h3 : c ≠ 60) (h4 : c ≠ 62) : c ∉ angled l := by
  have : c ∉ l := by
    rcases h with rfl | h
    · simp
    · exact box_no h hp h1 h2
  simp [angled, this, h3, h4]

/-! ### The lines -/
def lHelo : ByteArray := { data := #[72, 69, 76, 79, 32, 97] }
def lMail (f : ByteArray) : ByteArray := { data := #[77, 65, 73, 76, 32, 70, 82, 79, 77, 58, 60] } ++ f ++ { data := #[62] }
def lRcpt (r : ByteArray) : ByteArray := { data := #[82, 67, 80, 84, 32, 84, 79, 58, 60] } ++ r ++ { data := #[62] }
def lData : ByteArray := { data := #[68, 65, 84, 65] }
def lNoop : ByteArray := { data := #[78, 79, 79, 80] }
def isF (f : ByteArray) : Prop := f.data.toList = [] ∨ Ad.isBox f.data.toList = true
def box9 (r : ByteArray) : ByteArray := Ad.bs (Ad.parseM r.data.toList)
theorem ns_no13 {A : ByteArray} (h : (13 : UInt8) ∉ A.data.toList) : ∀ c ∈ ns A, c ≠ 13 := fun c hc e => by
  rw [ns, List.mem_map] at hc
  obtain ⟨u, hu, rfl⟩ := hc
  have : u = 13 := UInt8.toNat_inj.1 e
  exact h (this ▸ hu)
theorem lMail_list (f : ByteArray) : (lMail f).data.toList = [77, 65, 73, 76, 32, 70, 82, 79, 77, 58] ++ angled f.data.toList := by simp [lMail, angled]
theorem lRcpt_list (r : ByteArray) : (lRcpt r).data.toList = [82, 67, 80, 84, 32, 84, 79, 58] ++ angled r.data.toList := by simp [lRcpt, angled]
theorem v_helo : V9 lHelo = ⟨nHELO, { data := #[97] }, -1, 0⟩ := by kernel_rfl
theorem v_data : V9 lData = ⟨nDATA, nobody, -1, 0⟩ := by kernel_rfl
theorem v_noop : V9 lNoop = ⟨nNOOP, nobody, -1, 0⟩ := by kernel_rfl
theorem v_mail {f : ByteArray} (h : isF f) : V9 (lMail f) = ⟨nMAIL, box9 f, -1, 0⟩ := by
  have hp : Ad.isPath (angled f.data.toList) = true := by
    rcases h with h | h
    · rw [h]; decide
    · exact (angled_box h).1
  have := mail_line hp (angled_no h (by decide) (by decide) (by decide) (by decide) (by decide))
  rw [V9, lMail_list, this, (angled_path hp).2]
  rfl
theorem v_rcpt {r : ByteArray} (h : Ad.isBox r.data.toList = true) : V9 (lRcpt r) = ⟨nRCPT, box9 r, -1, 0⟩ := by
  obtain ⟨h1, h2, h3⟩ := angled_box h
  have := rcpt_line h1 (angled_no (.inr h) (by decide) (by decide) (by decide) (by decide) (by decide)) (by rw [h2]; exact h3)
  rw [V9, lRcpt_list, this, h2]
  rfl
theorem lMail_ok {f : ByteArray} (h : isF f) : (∀ c ∈ ns (lMail f), c ≠ 13) ∧ (lMail f).size ≤ 512 := by
  constructor
  · apply ns_no13
    rw [lMail_list, List.mem_append]
    rintro (h' | h')
    · revert h'; decide
    · exact angled_no h (by decide) (by decide) (by decide) (by decide) (by decide) h'
  · have h1 : (lMail f).size = f.size + 12 := by
      have e : (lMail f).data.toList.length = (lMail f).size := Array.length_toList
      have e2 : f.data.toList.length = f.size := Array.length_toList
      rw [lMail_list] at e
      simp [angled] at e e2
      omega
    have h2 : f.size ≤ 64 := by
      have e : f.data.toList.length = f.size := Array.length_toList
      rcases h with h | h
      · rw [h] at e; simp at e; omega
      · have := box_len h; omega
    omega
theorem lRcpt_ok {r : ByteArray} (h : Ad.isBox r.data.toList = true) : (∀ c ∈ ns (lRcpt r), c ≠ 13) ∧ (lRcpt r).size ≤ 512 := by
  constructor
  · apply ns_no13
    rw [lRcpt_list, List.mem_append]
    rintro (h' | h')
    · revert h'; decide
    · exact angled_no (.inr h) (by decide) (by decide) (by decide) (by decide) (by decide) h'
  · have h1 : (lRcpt r).size = r.size + 10 := by
      have e : (lRcpt r).data.toList.length = (lRcpt r).size := Array.length_toList
      have e2 : r.data.toList.length = r.size := Array.length_toList
      rw [lRcpt_list] at e
      simp [angled] at e e2
      omega
    have e : r.data.toList.length = r.size := Array.length_toList
    have := box_len h
    omega

/-! ### What is sent, and what is told -/
def rl (A : ByteArray) : List Nat := ns A ++ [13, 10]
def rcptsT : List ByteArray → List Nat
  | [] => []
  | r :: L => rl (lRcpt r) ++ rcptsT L
theorem go_rcpts : ∀ (L : List ByteArray) (s : Se) (R : List Nat), (s.st = 2 ∨ s.st = 3) → (∀ r ∈ L, Ad.isBox r.data.toList = true) → s.rcpts.length + L.length ≤ 8 → s.wait = rcptsT L ++ R →
    s.go V9 = ({ s with wait := R, st := if L = [] then s.st else 3, rcpts := s.rcpts ++ L.map box9, out := s.out ++ List.replicate L.length (.say (reply 250)) } : Se).go V9
  | [], s, R, h, _, _, hw => by
    have hw : s.wait = R := hw
    subst hw
    simp
  | r :: L, s, R, h, hL, hn, hw => by
    have hr := hL r (List.mem_cons_self ..)
    obtain ⟨o1, o2⟩ := lRcpt_ok hr
    have hn' : s.rcpts.length + (L.length + 1) ≤ 8 := hn
    rw [go_cmd (A := lRcpt r) (R := rcptsT L ++ R) (by omega) (by rw [hw]; simp [rcptsT, rl]) o1 o2 (by rw [v_rcpt hr]), v_rcpt hr]
    have e : (({ s with wait := rcptsT L ++ R } : Se).verb ⟨nRCPT, box9 r, -1, 0⟩) = { s with wait := rcptsT L ++ R, st := 3, rcpts := s.rcpts ++ [box9 r], out := s.out ++ [.say (reply 250)] } := by
      rw [Se.verb, if_neg (by show ¬ nRCPT = _; decide), if_neg (by show ¬ nRCPT = _; decide), if_neg (by show ¬ nRCPT = _; decide), if_neg (by show ¬ nRCPT = _; decide), if_neg (by show ¬ nRCPT = _; decide), if_neg (by show ¬ nRCPT = _; decide), if_neg (by show ¬ nRCPT = _; decide), if_pos rfl, Se.rcpt, if_neg (by show ¬ s.st < 2; omega), if_neg (by show ¬ 8 ≤ s.rcpts.length; omega)]
      rfl
    rw [e, go_rcpts L { s with wait := rcptsT L ++ R, st := 3, rcpts := s.rcpts ++ [box9 r], out := s.out ++ [.say (reply 250)] } R (.inr rfl) (fun r h => hL r (List.mem_cons_of_mem _ h)) (by simp; omega) rfl]
    congr 1
    simp [List.replicate_succ]
def mailT (f : ByteArray) (rs : List ByteArray) (L : List (List Nat)) (R : List Nat) : List Nat := rl lHelo ++ (rl (lMail f) ++ (rcptsT rs ++ (rl lData ++ (stuffM L ++ R))))
/-- A mail, sent: all that is told of it. -/
theorem go_mails (host : ByteArray) {f : ByteArray} {rs : List ByteArray} {L : List (List Nat)} (R : List Nat) (hf : isF f) (hr : ∀ r ∈ rs, Ad.isBox r.data.toList = true) (h0 : rs ≠ []) (h8 : rs.length ≤ 8) (hL : ∀ l ∈ L, clean l ∧ l.length ≤ 999) (hb : (joinL L).length ≤ 8192) :
    ((Se.new host 8192).fed (mailT f rs L R)).go V9 = ⟨host, 8192, R, .say (hello host) :: (List.replicate (rs.length + 2) (.say (reply 250)) ++ [.say (reply 354), .keep (box9 f) (rs.map box9) (joinL L)]), 5, box9 f, rs.map box9, joinL L, 0⟩ := by
  obtain ⟨o1, o2⟩ := lMail_ok hf
  have e0 : (Se.new host 8192).fed (mailT f rs L R) = ⟨host, 8192, mailT f rs L R, [.say (hello host)], 0, nobody, [], [], 0⟩ := by rfl
  rw [e0, go_cmd (A := lHelo) (R := rl (lMail f) ++ (rcptsT rs ++ (rl lData ++ (stuffM L ++ R)))) (by show 0 < 4; decide) (by simp [mailT, rl]) (by decide) (by decide) (by rw [v_helo]), v_helo]
  have e1 : (({ host := host, size := 8192, wait := rl (lMail f) ++ (rcptsT rs ++ (rl lData ++ (stuffM L ++ R))), out := [.say (hello host)], st := 0, frm := nobody, rcpts := [], body := [], bad := 0 } : Se).verb ⟨nHELO, { data := #[97] }, -1, 0⟩) = ⟨host, 8192, rl (lMail f) ++ (rcptsT rs ++ (rl lData ++ (stuffM L ++ R))), [.say (hello host), .say (reply 250)], 1, nobody, [], [], 0⟩ := by
    rw [Se.verb, if_pos rfl]
    rfl
  rw [e1, go_cmd (A := lMail f) (R := rcptsT rs ++ (rl lData ++ (stuffM L ++ R))) (by show 1 < 4; decide) (by simp [rl]) o1 o2 (by rw [v_mail hf]), v_mail hf]
  have e2 : (({ host := host, size := 8192, wait := rcptsT rs ++ (rl lData ++ (stuffM L ++ R)), out := [.say (hello host), .say (reply 250)], st := 1, frm := nobody, rcpts := [], body := [], bad := 0 } : Se).verb ⟨nMAIL, box9 f, -1, 0⟩) = ⟨host, 8192, rcptsT rs ++ (rl lData ++ (stuffM L ++ R)), [.say (hello host), .say (reply 250), .say (reply 250)], 2, box9 f, [], [], 0⟩ := by
    rw [Se.verb, if_neg (by show ¬ nMAIL = _; decide), if_neg (by show ¬ nMAIL = _; decide), if_neg (by show ¬ nMAIL = _; decide), if_neg (by show ¬ nMAIL = _; decide), if_neg (by show ¬ nMAIL = _; decide), if_neg (by show ¬ nMAIL = _; decide), if_pos rfl, Se.mail, if_neg (by show ¬ 1 ≠ 1; decide), if_neg (by show ¬ ((8192 : Nat) : Int) < -1; decide)]
    rfl
  rw [e2, go_rcpts rs _ (rl lData ++ (stuffM L ++ R)) (.inl rfl) hr (by simpa using h8) rfl, if_neg h0]
  rw [go_cmd (A := lData) (R := stuffM L ++ R) (by show 3 < 4; decide) (by simp [rl]) (by decide) (by decide) (by rw [v_data]), v_data]
  have e3 : ∀ (o : List Ev) (rr : List ByteArray), (({ host := host, size := 8192, wait := stuffM L ++ R, out := o, st := 3, frm := box9 f, rcpts := rr, body := [], bad := 0 } : Se).verb ⟨nDATA, nobody, -1, 0⟩) = ⟨host, 8192, stuffM L ++ R, o ++ [.say (reply 354)], 4, box9 f, rr, [], 0⟩ := fun o rr => by
    rw [Se.verb, if_neg (by decide), if_neg (by decide), if_neg (by decide), if_neg (by decide), if_neg (by decide), if_neg (by decide), if_neg (by decide), if_neg (by decide), if_pos rfl, Se.data, if_neg (by show ¬ 3 ≠ 3; decide)]
    rfl
  rw [e3, go_body V9 L _ R rfl rfl hL (by simpa using hb) (by simp [stuffM])]
  simp [List.replicate_succ]
end Go.Proofs.YtcjljldknekhiaaGreatDoor.Ln
end

section
/-
  The document's Parse and Path, of texts of any size.
-/
namespace Go.Proofs.YtcjljldknekhiaaGreatDoor.Ad
open Go.RowKit
set_option linter.unusedVariables false
set_option linter.unusedSimpArgs false

set_option maxHeartbeats 4000000 in
set_option maxRecDepth 100000 in
theorem refParse_big (s : ByteArray) (hs : s.size ≤ 9223372036854775000) (w : World) : Calls Tryz.prog 18 #[.string s] w fun e w' => e = .returned (parseV s.data.toList) ∧ Below w.heap.size w w' := by
  have c1 := refSplit_walk s (by omega) w
  cases hb : isBox s.data.toList with
  | false =>
    rw [splitV_none hb] at c1
    rw [parseV_none hb]
    go_enter Tryz.func18, Tryz.ntmps18
    go_wp2_with (go_at_call 39; refine c1.mono ?_; rintro e w1 ⟨rfl, hb1⟩)
    go_ret2
    exact ⟨rfl, hb1⟩
  | true =>
    have hl := splitM_len hb
    rw [splitV, hb] at c1
    rw [parseV_some hb]
    obtain ⟨a, ha⟩ : ∃ a, a = bs (splitM s.data.toList).1 := ⟨_, rfl⟩
    obtain ⟨b, hb'⟩ : ∃ b, b = bs (splitM s.data.toList).2 := ⟨_, rfl⟩
    have la : a.size ≤ 64 := by rw [ha, bs_size]; exact hl.1
    have lb : b.size ≤ 64 := by rw [hb', bs_size]; exact hl.2
    rw [← ha, ← hb'] at c1 ⊢
    clear ha hb' hl
    go_enter Tryz.func18, Tryz.ntmps18
    go_wp2_with (go_at_call 39; refine c1.mono ?_; rintro e w1 ⟨rfl, hb1⟩)
    go_ret2
    exact ⟨rfl, hb1⟩

set_option maxHeartbeats 4000000 in
set_option maxRecDepth 100000 in
theorem refPath_big (s : ByteArray) (hs : s.size ≤ 9223372036854775000) (w : World) : Calls Tryz.prog 17 #[.string s] w fun e w' => e = .returned (pathV s.data.toList) ∧ Below w.heap.size w w' := by
  have hlen := len_size s
  have hnone : isAngled s.data.toList = false → pathV s.data.toList = .tuple #[.string { data := #[] }, .bool false] := fun h => by
    rw [pathV, pathM, isPath, h]
    rfl
  by_cases h2 : (s.size : Int) < 2
  · rw [hnone (by rw [isAngled, hlen, decide_eq_false (by omega), Bool.false_and])]
    go_enter Tryz.func17, Tryz.ntmps17
    go_wp2
    go_ret2
    exact ⟨rfl, Below.refl _ _⟩
  · have hang := angled_at s (by omega)
    obtain ⟨n, hn⟩ : ∃ n, s.size = n := ⟨_, rfl⟩
    have hz : 0 < s.size := by omega
    have hz1 : n - 1 < s.size := by omega
    have hang2 : isAngled s.data.toList = ((s[0]'hz == 60) && (s[n - 1]'hz1 == 62)) := by subst hn; exact hang
    clear hang
    have hw1 : ((n - 1 : Nat) : Int) = (n : Int) - 1 := by omega
    by_cases h3 : ((s[0]'hz).toNat : Int) = 60
    · by_cases h4 : ((s[n - 1]'hz1).toNat : Int) = 62
      · have hang : isAngled s.data.toList = true := by
          rw [hang2, byte_eq (n := 62) (by decide) h4, byte_eq (n := 60) (by decide) h3]
          decide
        clear hang2
        by_cases h5 : (n : Int) = 2
        · obtain rfl : n = 2 := by omega
          have hv : pathV s.data.toList = .tuple #[.string { data := #[] }, .bool true] := by
            rw [pathV, pathM, isPath, hang, hlen, decide_eq_true (by omega)]
            rfl
          rw [hv]
          have hz4 : 1 < s.size := by omega
          have h4' : ((s[1]'hz4).toNat : Int) = 62 := h4
          clear hnone hang hv h4 hw1 h5
          go_enter Tryz.func17, Tryz.ntmps17
          go_wp2
          go_ret2
          exact ⟨rfl, Below.refl _ _⟩
        · obtain ⟨j, rfl⟩ : ∃ j, n = j + 1 := ⟨n - 1, by omega⟩
          have hv : pathV s.data.toList = parseV (inner s.data.toList) := by
            rw [pathV, pathM, isPath, hang, hlen, decide_eq_false (by omega), parseV]
            rfl
          have hin : s.extract 1 j = bs (inner s.data.toList) := by
            rw [extract_bs, inner, List.dropLast_eq_take, List.length_drop, hlen, hn]
            rfl
          have c := refParse_big (bs (inner s.data.toList)) (by rw [← hin, ByteArray.size_extract]; omega) w
          rw [bs_data] at c
          rw [hv]
          unfold parseV at c ⊢
          generalize bs (parseM (inner s.data.toList)) = X at c ⊢
          generalize isBox (inner s.data.toList) = Y at c ⊢
          rw [← hin] at c
          have hz4 : j < s.size := by omega
          have h4' : ((s[j]'hz4).toNat : Int) = 62 := h4
          have j1 : (1 : Int) ≤ (j : Int) := by omega
          have b5 : ((j : Int) + 1 == 2) = false := beq_eq_false_iff_ne.2 (by omega)
          have b6 : ((j : Int) == 1) = false := beq_eq_false_iff_ne.2 (by omega)
          have hsl : ∀ W, (Instr.slice 9 (.string s) (some (.int .i64 1)) (some (.int .i64 (j : Int))) none).run Tryz.prog W = .ok (.string (s.extract 1 j)) W := fun W => by
            rw [run_slice_string_if W 9 s _ _ _ _ Tryz.underlying9, if_pos ⟨by omega, by omega⟩, if_pos ⟨by omega, by omega⟩]
            simp
          clear hnone hang hv hin hz1 h4 hw1
          go_enter Tryz.func17, Tryz.ntmps17
          go_wp2_with (go_at_call 18; go_loud (refine c.mono ?_; rintro e w1 ⟨rfl, hb1⟩))
          go_ret2
          exact ⟨rfl, hb1⟩
      · rw [hnone (by rw [hang2, show (s[n - 1]'hz1 == 62) = false from beq_eq_false_iff_ne.2 (byte_ne (n := 62) (by decide) h4), Bool.and_false])]
        clear hnone hang2
        have q4 : (((s[n - 1]'hz1).toNat : Int) != 62) = true := bne_iff_ne.2 h4
        go_enter Tryz.func17, Tryz.ntmps17
        go_wp2
        go_ret2
        exact ⟨rfl, Below.refl _ _⟩
    · rw [hnone (by rw [hang2, show (s[0]'hz == 60) = false from beq_eq_false_iff_ne.2 (byte_ne (n := 60) (by decide) h3), Bool.false_and])]
      clear hnone hang2
      have q3 : (((s[0]'hz).toNat : Int) != 60) = true := bne_iff_ne.2 h3
      go_enter Tryz.func17, Tryz.ntmps17
      go_wp2
      go_ret2
      exact ⟨rfl, Below.refl _ _⟩
end Go.Proofs.YtcjljldknekhiaaGreatDoor.Ad
end

section
/-
  What the laws' own helper 'body' returns, for all bytes; what the document's own Stuff returns, of a body.
-/
namespace Go.Proofs.YtcjljldknekhiaaGreatDoor.Ln
open Go.RowKit
set_option linter.unusedVariables false
set_option linter.unusedSimpArgs false

theorem mem_getD {bs : List Nat} {k : Nat} (h : k < bs.length) : bs.getD k 0 ∈ bs := by
  have e : bs.getD k 0 = bs[k] := by simp [h]
  rw [e]
  exact List.getElem_mem _
theorem all_getD {bs : List Nat} {v : Nat} (h : ∀ j, j < bs.length → bs.getD j 0 ≠ v) : ∀ c ∈ bs, c ≠ v := fun c hc => by
  obtain ⟨j, hj, rfl⟩ := List.mem_iff_getElem.1 hc
  have := h j hj
  simpa [hj] using this
theorem bodyB_13 {bs : List Nat} {k : Nat} (hk : k < bs.length) (h : bs.getD k 0 = 13) : bodyB bs = false := by
  cases hb : bodyB bs with
  | false => rfl
  | true =>
    simp only [bodyB, Bool.and_eq_true, List.all_eq_true, bne_iff_ne] at hb
    exact absurd h (hb.1 _ (mem_getD hk))
theorem bodyB_nil : bodyB [] = true := rfl
theorem bodyB_last {bs : List Nat} (h : ∀ j, j < bs.length → bs.getD j 0 ≠ 13) (h0 : 0 < bs.length) : bodyB bs = (bs.getD (bs.length - 1) 0 == 10) := by
  have h1 := all_getD h
  have e : bs.getLast? = some (bs.getD (bs.length - 1) 0) := by
    rw [List.getLast?_eq_getElem?, List.getElem?_eq_getElem (by omega)]
    simp [show bs.length - 1 < bs.length by omega]
  have ha : bs.all (fun c => c != 13) = true := by
    rw [List.all_eq_true]
    intro c hc
    simpa using h1 c hc
  rw [bodyB, ha, e]
  simp

/-! ### The document's own Stuff -/
/-- How far it is: D are the texts up to place a; from there to k there is no 10. -/
structure StAt (bs : List Nat) (D : List (List Nat)) (a k : Nat) : Prop where
  le : a ≤ k
  no10 : ∀ l ∈ D, ∀ c ∈ l, c ≠ 10
  front : bs.take a = joinL D
  more : ∀ j, a ≤ j → j < k → bs.getD j 0 ≠ 10
theorem StAt.start (bs : List Nat) : StAt bs [] 0 0 := ⟨Nat.le_refl _, by simp, rfl, fun j _ h => absurd h (Nat.not_lt_zero _)⟩
theorem mid_mem {bs : List Nat} {a k : Nat} (hk : k ≤ bs.length) (h : ∀ j, a ≤ j → j < k → bs.getD j 0 ≠ 10) : ∀ c ∈ (bs.take k).drop a, c ≠ 10 := by
  refine all_getD fun j hj => ?_
  have hj' : a + j < k := by simp at hj; omega
  have := h (a + j) (by omega) hj'
  have e : ((bs.take k).drop a).getD j 0 = bs.getD (a + j) 0 := by simp [hj']
  rw [e]
  exact this
theorem StAt.hit {bs : List Nat} {D : List (List Nat)} {a k : Nat} (h : StAt bs D a k) (hk : k < bs.length) (e : bs.getD k 0 = 10) : StAt bs (D ++ [(bs.take k).drop a]) (k + 1) (k + 1) := by
  refine ⟨Nat.le_refl _, fun l hl => ?_, ?_, fun j h1 h2 => by omega⟩
  · rcases List.mem_append.1 hl with hl | hl
    · exact h.no10 l hl
    · obtain rfl : l = (bs.take k).drop a := by simpa using hl
      exact mid_mem (by omega) h.more
  · have e' : bs[k] = 10 := by simpa [hk] using e
    rw [joinL_snoc, ← h.front, List.take_succ_eq_append_getElem hk, e']
    have : bs.take a = (bs.take k).take a := by rw [List.take_take, Nat.min_eq_left h.le]
    rw [this, List.take_append_drop]
theorem StAt.miss {bs : List Nat} {D : List (List Nat)} {a k : Nat} (h : StAt bs D a k) (e : bs.getD k 0 ≠ 10) : StAt bs D a (k + 1) :=
  ⟨Nat.le_succ_of_le h.le, h.no10, h.front, fun j h1 h2 => by
    rcases Nat.lt_or_eq_of_le (Nat.le_of_lt_succ h2) with h3 | h3
    · exact h.more j h1 h3
    · subst h3; exact e⟩
theorem StAt.done {bs : List Nat} {D : List (List Nat)} {a : Nat} (h : StAt bs D a bs.length) (hb : bodyB bs = true) : linesOf bs = D := by
  have hL := bodyB_body hb
  simp only [bodyB, Bool.and_eq_true, Bool.or_eq_true, beq_iff_eq, List.all_eq_true, bne_iff_ne] at hb
  have ha : bs.length ≤ a := by
    rcases Nat.lt_or_ge a bs.length with hlt | hge
    · exfalso
      have hne : bs ≠ [] := by rintro rfl; simp at hlt
      rcases hb.2 with h2 | h2
      · exact hne (List.getLast?_eq_none_iff.1 h2)
      · have := h.more (bs.length - 1) (by omega) (by omega)
        rw [List.getLast?_eq_getElem?] at h2
        simp [h2] at this
    · exact hge
  have hf := h.front
  rw [List.take_of_length_le ha] at hf
  refine body_lines ⟨fun l hl c hc => ⟨h.no10 l hl c hc, hb.1 c ?_⟩, hf⟩
  rw [hf]
  clear hf hL hb h ha
  induction D with
  | nil => simp at hl
  | cons d D ih =>
    rcases List.mem_cons.1 hl with rfl | hl
    · simp [joinL, hc]
    · simp [joinL, ih hl]
theorem StAt.size {bs : List Nat} {D : List (List Nat)} {a k n : Nat} (h : StAt bs D a k) (hn : n = bs.length) (hl : n ≤ 100000) : (str (stuffs D)).size ≤ 300000 := by
  rw [str_size]
  have h1 := stuffs_count D
  have h2 := congrArg List.length h.front
  rw [List.length_take] at h2
  omega
theorem head_mid {bs : List Nat} {a k : Nat} (h : a < k) (hk : k ≤ bs.length) : ((bs.take k).drop a).head? = some (bs.getD a 0) := by
  rw [List.head?_eq_getElem?]
  simp [h, show a < bs.length by omega]
theorem str_46 (X : List Nat) : str X ++ { data := #[46] } = str (X ++ [46]) := str_append X [46]
theorem str_1310 (X : List Nat) : str X ++ { data := #[13, 10] } = str (X ++ [13, 10]) := str_append X [13, 10]
theorem str_10 (X : List Nat) : str X ++ { data := #[10] } = str (X ++ [10]) := str_append X [10]
theorem str_end (X : List Nat) : str X ++ { data := #[46, 13, 10] } = str (X ++ [46, 13, 10]) := str_append X [46, 13, 10]

set_option maxHeartbeats 4000000 in
set_option maxRecDepth 100000 in
theorem refStuff {P : Nat → Prop} {w : World} {x : Option Addr} {n cap : Nat} {bs : List Nat} (hn : n = bs.length) (hcap : n ≤ cap) (hB : Bytes P w x bs) (hl : n ≤ 100000) (hb : bodyB bs = true) :
    Calls Tryz.prog 19 #[.slice x n cap] w fun e w' => e = .returned (.string (str (stuffM (linesOf bs)))) ∧ w' = w := by
  have HB := Lib.hid hB
  have HN := Lib.hid hn
  have HBB := Lib.hid hb
  clear hB hn hb
  go_enter Tryz.func19, Tryz.ntmps19
  go_wp2
  go_loop [3, 4, 5] (fun s y z => ∃ (k a : Nat) (D : List (List Nat)), k ≤ n ∧ a ≤ k ∧ z = .int .i64 (k : Int) ∧ y = .int .i64 (a : Int) ∧ s = .string (str (stuffs D)) ∧ Hid (StAt bs D a k)) (fun _ _ z => n - (intOf z).toNat)
  case atStart => exact ⟨0, 0, [], Nat.zero_le _, Nat.le_refl _, rfl, rfl, rfl, StAt.start bs⟩
  case round =>
    obtain ⟨k, a, D, hk, hak, rfl, rfl, rfl, HS⟩ := hrel
    have hz1 := HS.out.size HN.out hl
    by_cases h1 : (k : Int) < (n : Int)
    · obtain ⟨b, off, _, rfl, c0⟩ := HB.out.at k (by have := HN.out; omega)
      obtain ⟨c, hc⟩ : ∃ c, c = bs.getD k 0 := ⟨_, rfl⟩
      rw [← hc] at c0
      have HC := Lib.hid hc
      have hcl : c < 256 := by rw [hc]; exact getD_lt HB.out.1 k (by have := HN.out; omega)
      clear hc
      by_cases hc10 : c = 10
      · subst hc10
        obtain ⟨s1, s2⟩ := cut_mid (some ⟨b, off, none⟩) n cap a k hak (by omega)
        have hs := run_str (HB.out.mid cap a k hak (by have := HN.out; omega) (by have := HN.out; omega)) (k - a) (cap - a) (by have := HN.out; simp; omega)
        rw [if_neg (by omega)] at hs s1 s2
        simp only [Option.map, Addr.add_mid] at hs s1 s2
        have HS2 := Lib.hid (HS.out.hit (by have := HN.out; omega) HC.out.symm)
        obtain ⟨t, ht⟩ : ∃ t, t = (bs.take k).drop a := ⟨_, rfl⟩
        rw [← ht] at hs HS2
        have hz2 : (str t).size ≤ 100000 := by rw [str_size, ht]; simp; omega
        by_cases h2 : (a : Int) < (k : Int)
        · obtain ⟨b', off', _, e', c1⟩ := HB.out.at a (by have := HN.out; omega)
          injection e' with e'
          injection e' with e1 e2
          subst e1 e2
          have hh : t.head? = some (bs.getD a 0) := by rw [ht]; exact head_mid (by omega) (by have := HN.out; omega)
          obtain ⟨d, hd⟩ : ∃ d, d = bs.getD a 0 := ⟨_, rfl⟩
          rw [← hd] at c1 hh
          by_cases hd46 : d = 46
          · subst hd46
            have HT : Hid (stuffT t = 46 :: t) := by show _ = _; rw [stuffT, if_pos hh]
            clear hh hd ht
            go_wp2
            go_round
            case rel => exact ⟨k + 1, k + 1, D ++ [t], by omega, by omega, by go_num, by go_num, by
              rw [stuffs_snoc, HT.out]
              simp only [str_46, str_append, str_1310]
              simp, HS2.out⟩
            case measure => simp [intOf]; omega
          · have hd' : ¬ ((d : Int) = 46) := by omega
            have HT : Hid (stuffT t = t) := by show _ = _; rw [stuffT, if_neg (by rw [hh]; simpa using hd46)]
            clear hh hd ht
            go_wp2
            go_round
            case rel => exact ⟨k + 1, k + 1, D ++ [t], by omega, by omega, by go_num, by go_num, by
              rw [stuffs_snoc, HT.out]
              simp only [str_46, str_append, str_1310], HS2.out⟩
            case measure => simp [intOf]; omega
        · have h0 : t = [] := by rw [ht, List.drop_eq_nil_iff]; simp; omega
          have HT : Hid (stuffT t = t) := by show _ = _; rw [h0]; rfl
          clear ht h0
          go_wp2
          go_round
          case rel => exact ⟨k + 1, k + 1, D ++ [t], by omega, by omega, by go_num, by go_num, by
            rw [stuffs_snoc, HT.out]
            simp only [str_46, str_append, str_1310], HS2.out⟩
          case measure => simp [intOf]; omega
      · have hc' : ¬ ((c : Int) = 10) := by omega
        have HS2 := Lib.hid (HS.out.miss (by rw [← HC.out]; exact hc10))
        go_wp2
        go_round
        case rel => exact ⟨k + 1, a, D, by omega, by omega, by go_num, rfl, rfl, HS2.out⟩
        case measure => simp [intOf]; omega
    · have HX : Hid (linesOf bs = D) := by
        have e : k = bs.length := by have := HN.out; omega
        have hS := HS.out
        rw [e] at hS
        exact hS.done HBB.out
      go_wp2
      go_ret
      refine ⟨?_, rfl⟩
      rw [HX.out, str_end]
      rfl
end Go.Proofs.YtcjljldknekhiaaGreatDoor.Ln
end

section
/-
  What the walk of ServeMails asks.
-/
namespace Go.Proofs.YtcjljldknekhiaaGreatDoor.Ln
open Go.RowKit Go.ChangeShapes
set_option linter.unusedVariables false
set_option linter.unusedSimpArgs false

/-! ### Texts in a row -/
def TxP (P : Nat → Prop) (w : World) (x : Option Addr) (L : List ByteArray) : Prop :=
  ∀ (i : Nat) (t : ByteArray), L[i]? = some t → ∃ b off, P b ∧ b < w.heap.size ∧ x = some ⟨b, off, none⟩ ∧ w.cell? ⟨b, off + i, none⟩ = some (.string t)
theorem TxP.keep {P S : Nat → Prop} {w w' : World} {x : Option Addr} {L : List ByteArray} (h : TxP P w x L) (k : Keep S w w') (hs : ∀ b, b < w.heap.size → P b → ¬ S b) : TxP P w' x L := fun i t ht => by
  obtain ⟨b, off, h1, h2, h3, h4⟩ := h i t ht
  exact ⟨b, off, h1, Nat.lt_of_lt_of_le h2 k.size, h3, k.cell h4 (hs b h2 h1)⟩
theorem TxP.quiet {P : Nat → Prop} {w w' : World} {x : Option Addr} {L : List ByteArray} (h : TxP P w x L) (k : Keep (fun _ => False) w w') : TxP P w' x L := h.keep k (fun _ _ _ h => h)
theorem TxP.mono {P Q : Nat → Prop} {w : World} {x : Option Addr} {L : List ByteArray} (h : TxP P w x L) (hq : ∀ b, b < w.heap.size → P b → Q b) : TxP Q w x L := fun i t ht => by
  obtain ⟨b, off, h1, h2, h3, h4⟩ := h i t ht
  exact ⟨b, off, hq b h2 h1, h2, h3, h4⟩
theorem TxP.nil (P : Nat → Prop) (w : World) (x : Option Addr) : TxP P w x [] := fun i t ht => by cases ht
theorem TxP.at {P : Nat → Prop} {w : World} {x : Option Addr} {L : List ByteArray} (h : TxP P w x L) (i : Nat) (hi : i < L.length) : ∃ b off, P b ∧ b < w.heap.size ∧ x = some ⟨b, off, none⟩ ∧ w.cell? ⟨b, off + i, none⟩ = some (.string L[i]) := h i L[i] (List.getElem?_eq_getElem hi)

/-! ### A row of texts of the call's own -/
theorem info9t : (Tryz.prog.info? 9).map (fun i => (i.zero, i.size, i.bytes)) = some (some (.string ByteArray.empty), 1, 16) := by kernel_rfl
def Tso (B : Nat) (w : World) (v : Value) (L : List ByteArray) : Prop := w.ownsRow B 9 1 v L.length (L.map Value.string)
section
variable {B : Nat} {w w' : World} {v : Value} {L : List ByteArray}
theorem Tso.empty (B : Nat) (w : World) : Tso B w (.slice none 0 0) [] := World.ownsRow_nil w B 9 1
theorem Tso.lt (h : Tso B w v L) : ∀ k, v.ownBlock = some k → B ≤ k ∧ k < w.heap.size := fun k hk => World.ownsRow.lt h k hk
theorem Tso.keep {S : Nat → Prop} (h : Tso B w v L) (k : Keep S w w') (hs : ∀ b, v.ownBlock = some b → ¬ S b) : Tso B w' v L := by
  refine ⟨h.1, ?_⟩
  rcases h.2 with h0 | ⟨g, cap, cur, rfl, hb, hg, r⟩
  · exact .inl h0
  · exact .inr ⟨g, cap, cur, rfl, hb, (k.block g (At.lt (t := 9) hg) (hs g rfl)).trans hg, r⟩
theorem Tso.quiet (h : Tso B w v L) (k : Keep (fun _ => False) w w') : Tso B w' v L := h.keep k (fun _ _ h => h)
theorem Tso.ne {g : Nat} {t : TypeId} {cs : Array Value} (h : Tso B w v L) (hg : At w g t cs) (ht : t ≠ 9) : v.ownBlock ≠ some g := by
  rcases h.2 with ⟨rfl, _⟩ | ⟨g', cap, cur, rfl, _, hh, _⟩
  · simp [Value.ownBlock]
  · intro he
    have : g' = g := by simpa [Value.ownBlock] using he
    exact At.ne (t := 9) hh hg (Ne.symm ht) this
theorem Tso.shape (h : Tso B w v L) : ∃ x cap, v = .slice x L.length cap ∧ L.length ≤ cap ∧ TxP (fun b => B ≤ b) w x L := by
  have hc := @World.ownsRow.cells _ _ _ _ _ _ _ h
  rcases h.2 with ⟨rfl, h0⟩ | ⟨g, cap, cur, rfl, hb, hg, hnc, _⟩
  · have : L = [] := List.eq_nil_of_length_eq_zero h0
    subst this
    exact ⟨_, _, rfl, Nat.le_refl _, TxP.nil _ _ _⟩
  · refine ⟨_, _, rfl, hnc, fun i t ht => ⟨g, 0, hb, At.lt (t := 9) hg, rfl, ?_⟩⟩
    have hi : i < L.length := (List.getElem?_eq_some_iff.1 ht).1
    have := hc (g := g) rfl i (.string t) (by rw [List.getElem?_map, ht]; rfl)
    rw [Addr.add_mid, Nat.zero_add] at this
    rw [Nat.zero_add]
    exact this
end
theorem wpList_append_tso {B : Nat} {w : World} {ops : Array Oper} {rest : List Oper} {o : Oper} {a : Act} {Q : Exit → Act → World → Prop} (hgd : o.guard = none) (s t : Operand)
    (ho : o.op = .call { callee := .builtin .append, args := #[s, t], argTypes := #[36, 36] })
    (v : Value) (L : List ByteArray) (hs : a.eval s = v) (hown : Tso B w v L) (hB : B ≤ w.heap.size) (g : Nat) (A : ByteArray) (hx : a.eval t = .slice (some ⟨g, 0, none⟩) 1 1) (hc : w.cell? ⟨g, 0, none⟩ = some (.string A)) (hl : L.length ≤ 1000)
    (hK : ∀ y n cap w', Hid (n = (L ++ [A]).length) → Tso B w' (.slice y n cap) (L ++ [A]) → Keep (fun k => v.ownBlock = some k) w w' → wpList Tryz.prog ops Q rest (a.put o.dst (.slice y n cap)) w') :
    wpList Tryz.prog ops Q (o :: rest) a w := by
  obtain ⟨i0, hi, hz0, hz1, hz2⟩ := info_parts info9t
  refine wpList_append_own _ hgd s t 36 ho B 9 i0 (.string ByteArray.empty) 1 16 Tryz.underlying36 hi hz0 hz1 hz2 rfl (by decide) v L.length (L.map Value.string) hs hown ⟨g, 0, none⟩ 1 1 [.string A] hx rfl (fun j u hj => ?_) (fun x hx => by simp at hx; subst hx; rfl) (by unfold maxLen; omega) (by omega) hB ?_
  · rcases j with _ | j
    · simp at hj
      subst hj
      exact hc
    · simp at hj
  · intro v' w' hown' hgrow _
    have hT : Tso B w' v' (L ++ [A]) := by
      unfold Tso
      rw [List.map_append, List.length_append]
      exact hown'
    obtain ⟨y, cap, rfl, _⟩ := hT.shape
    exact hK y _ cap w' (Lib.hid rfl) hT ((Keep.refl _ w).grown hgrow (fun k hk _ => hk))


/-! ### A path -/
theorem path_big (f : ByteArray) (h : f.size ≤ 140737488351232) (w : World) : Calls Tryz.prog 17 #[.string ({ data := #[60] } ++ f ++ { data := #[62] })] w fun e w' => e = .returned (.tuple #[.string (Ad.bs (Ad.pathM (angled f.data.toList))), .bool (Ad.isPath (angled f.data.toList))]) ∧ Keep (fun _ => False) w w' := by
  have e : (({ data := #[60] } ++ f ++ { data := #[62] } : ByteArray)).data.toList = angled f.data.toList := by simp [angled]
  have hs : ({ data := #[60] } ++ f ++ { data := #[62] } : ByteArray).size ≤ 9223372036854775000 := by
    have h1 : (({ data := #[60] } ++ f ++ { data := #[62] } : ByteArray)).data.toList.length = ({ data := #[60] } ++ f ++ { data := #[62] } : ByteArray).size := Array.length_toList
    have h2 : f.data.toList.length = f.size := Array.length_toList
    rw [e, (angled_inner _).2.2] at h1
    omega
  have := Ad.refPath_big _ hs w
  rw [e] at this
  exact this.mono fun e w' ⟨he, hb⟩ => ⟨he, Keep.of_below hb⟩
theorem parse_big (f : ByteArray) (h : f.size ≤ 9223372036854775000) (w : World) : Calls Tryz.prog 18 #[.string f] w fun e w' => e = .returned (.tuple #[.string (box9 f), .bool (Ad.isBox f.data.toList)]) ∧ Keep (fun _ => False) w w' :=
  (Ad.refParse_big f h w).mono fun e w' ⟨he, hb⟩ => ⟨he, Keep.of_below hb⟩

/-! ### A slice of texts that a law is given, with the card's bound -/
theorem mem_weightsAll {H : Type} {P : Program} {e : TypeId} {d : DataW H} {n : Nat} : ∀ {L : List (DataW H)}, d ∈ L → n ∈ d.weights P e → n ∈ DataW.weightsAll P e L
  | [], h, _ => by cases h
  | x :: r, h, hn => by
    rw [DataW.weightsAll, List.mem_append]
    rcases List.mem_cons.1 h with rfl | h
    · exact .inl hn
    · exact .inr (mem_weightsAll h hn)
theorem arg_strsZ {H : Type} {enc : TypeId × Value → H} {W : World} {fuel : Nat} {v : Value} {x : DataW H × List MemPlace} (h : DataW.trod enc Tryz.prog W 0 (fun _ => true) true fuel 36 [v] = some x) :
    ∃ a L cap, v = .slice a L.length cap ∧ L.length ≤ cap ∧ cap ≤ 9223372036854775807 ∧ Strs W a L ∧ ((∀ n ∈ x.1.weights Tryz.prog 36, n ≤ reachBytes) → ∀ s ∈ L, s.size ≤ 140737488351232) := by
  obtain ⟨a, L, cap, hv, h1, h2, h3⟩ := arg_strs h
  refine ⟨a, L, cap, hv, h1, h2, h3, fun hw s hs => ?_⟩
  rcases Go.ChangeShapes.open_strings Tryz.underlying36 Tryz.underlying9 (by kernel_rfl) h with ⟨hcs, _⟩ | ⟨ad, l, c, ss, hcs, _, hl, hm, hlen, hx, hcell, _⟩
  · injection hcs with hcs _
    rw [hv] at hcs
    injection hcs with _ e2 _
    rw [List.eq_nil_of_length_eq_zero e2] at hs
    cases hs
  · injection hcs with hcs _
    rw [hv] at hcs
    injection hcs with e1 e2 e3
    obtain ⟨i, hi, his⟩ := List.getElem_of_mem hs
    obtain ⟨b, off, _, ha, hc⟩ := h3 i s (by rw [List.getElem?_eq_getElem hi, his])
    have hlen' : ss.length = c := by simpa using hlen
    have hil : i < ss.length := by omega
    have hc2 := hcell i hil
    rw [e1] at ha
    injection ha with ha
    rw [ha, show (⟨b, off, none⟩ : Addr).add i = ⟨b, off + i, none⟩ by unfold Addr.add; split <;> simp_all, hc] at hc2
    injection hc2 with hc2
    injection hc2 with hc2
    have hst : s = ss[i] := by rw [hc2]; simp [hil]
    have hmem : s ∈ ss.take l := by
      rw [hst, List.mem_take_iff_getElem]
      exact ⟨i, by omega, rfl⟩
    have := hw s.data.toList.length (by
      rw [hx]
      simp only [DataW.weights, Tryz.underlying36]
      refine List.mem_cons_of_mem _ (List.mem_append_left _ (mem_weightsAll (d := .lit (.string s.data.toList)) ?_ (by simp [DataW.weights])))
      unfold strs
      exact List.mem_map.2 ⟨s, hmem, rfl⟩)
    have e : reachBytes = 140737488351232 := by decide
    have e2 : s.data.toList.length = s.size := Array.length_toList
    omega
theorem ns_app (a b : ByteArray) : ns (a ++ b) = ns a ++ ns b := by simp [ns]
theorem isF_of {f : ByteArray} (h : Ad.isPath (angled f.data.toList) = true) : isF f ∧ f.size ≤ 64 := by
  have h1 := (angled_path h).1
  refine ⟨h1, ?_⟩
  have e : f.data.toList.length = f.size := Array.length_toList
  rcases h1 with h1 | h1
  · rw [h1] at e; simp at e; omega
  · have := box_len h1; omega
theorem text_0 (f : ByteArray) : ns (({ data := #[72, 69, 76, 79, 32, 97, 13, 10, 77, 65, 73, 76, 32, 70, 82, 79, 77, 58, 60] } ++ f) ++ { data := #[62, 13, 10] }) = rl lHelo ++ (rl (lMail f) ++ rcptsT []) := by
  rw [ns_app, ns_app, rl, rl, lMail, ns_app, ns_app]
  simp [ns, lHelo, rcptsT]
theorem rcptsT_snoc : ∀ (L : List ByteArray) (r : ByteArray), rcptsT (L ++ [r]) = rcptsT L ++ rl (lRcpt r)
  | [], r => by simp [rcptsT]
  | a :: L, r => by
    rw [List.cons_append, rcptsT, rcptsT, rcptsT_snoc L r, List.append_assoc]
theorem text_next {T f r : ByteArray} {L : List ByteArray} (h : ns T = rl lHelo ++ (rl (lMail f) ++ rcptsT L)) : ns (((T ++ { data := #[82, 67, 80, 84, 32, 84, 79, 58, 60] }) ++ r) ++ { data := #[62, 13, 10] }) = rl lHelo ++ (rl (lMail f) ++ rcptsT (L ++ [r])) := by
  rw [ns_app, ns_app, ns_app, h, rcptsT_snoc]
  have : rl (lRcpt r) = ns { data := #[82, 67, 80, 84, 32, 84, 79, 58, 60] } ++ (ns r ++ ns { data := #[62, 13, 10] }) := by
    rw [rl, lRcpt, ns_app, ns_app]
    simp [ns]
  rw [this]
  simp only [List.append_assoc]
theorem text_all {T f : ByteArray} {rs : List ByteArray} {L : List (List Nat)} (h : ns T = rl lHelo ++ (rl (lMail f) ++ rcptsT rs)) (hL : ∀ l ∈ L, ∀ c ∈ l, c < 256) : ns (((T ++ { data := #[68, 65, 84, 65, 13, 10] }) ++ str (stuffM L)) ++ { data := #[78, 79, 79, 80, 13, 10] }) = mailT f rs L (rl lNoop) := by
  rw [ns_app, ns_app, ns_app, h, ns_str (stuffM_lt hL), mailT]
  have e1 : ns { data := #[68, 65, 84, 65, 13, 10] } = rl lData := by decide
  have e2 : ns { data := #[78, 79, 79, 80, 13, 10] } = rl lNoop := by decide
  rw [e1, e2]
  simp only [List.append_assoc]

/-! ### What is told of a mail that is sent -/
def mx9 : ByteArray := { data := #[109, 120] }
def told (n : Nat) (f : ByteArray) (rs : List ByteArray) (b : List Nat) : List Ev := .say (hello mx9) :: (List.replicate (n + 2) (.say (reply 250)) ++ [.say (reply 354), .keep f rs b])
def Zm (n : Nat) (f : ByteArray) (rs : List ByteArray) (b : List Nat) (j : Nat) : Se := ⟨mx9, 8192, rl lNoop, (told n f rs b).drop j, 5, f, rs, b, 0⟩
theorem reply354 : reply 354 = { data := #[51, 53, 52, 32, 103, 111, 32, 111, 110, 13, 10] } := by
  have : dig 354 = [51, 53, 52] := by
    rw [dig, if_neg (by decide), dig, if_neg (by decide), dig, if_pos (by decide)]
    rfl
  rw [reply, this]
  rfl
theorem told_len (n : Nat) (f : ByteArray) (rs : List ByteArray) (b : List Nat) : (told n f rs b).length = n + 5 := by simp [told]
theorem told_at (n : Nat) (f : ByteArray) (rs : List ByteArray) (b : List Nat) (j : Nat) (hj : j < n + 4) : ∃ t, (told n f rs b).drop j = .say t :: (told n f rs b).drop (j + 1) ∧ 3 ≤ t.size ∧ (j = n + 3 → t = reply 354) := by
  have hl : j < (told n f rs b).length := by rw [told_len]; omega
  rw [List.drop_eq_getElem_cons hl]
  have h250 : 3 ≤ (reply 250).size := by rw [reply250]; decide
  have h354 : 3 ≤ (reply 354).size := by rw [reply354]; decide
  rcases j with _ | j
  · exact ⟨hello mx9, by simp [told], by decide, fun h => by omega⟩
  · by_cases h : j < n + 2
    · exact ⟨reply 250, by simp [told, List.getElem_append, h], h250, fun e => by omega⟩
    · have : j = n + 2 := by omega
      subst this
      exact ⟨reply 354, by simp [told, List.getElem_append], h354, fun _ => rfl⟩
theorem told_last (n : Nat) (f : ByteArray) (rs : List ByteArray) (b : List Nat) : (told n f rs b).drop (n + 4) = [.keep f rs b] := by
  have hl : n + 4 < (told n f rs b).length := by rw [told_len]; omega
  rw [List.drop_eq_getElem_cons hl, List.drop_eq_nil_of_le (by rw [told_len]; omega)]
  simp [told, List.getElem_append]
theorem Zm_pop (n : Nat) (f : ByteArray) (rs : List ByteArray) (b : List Nat) (j : Nat) : (Zm n f rs b j).pop = Zm n f rs b (j + 1) := by
  simp [Zm, Se.pop, List.tail_drop]
def szOf : Value → Nat
  | .string s => s.size
  | _ => 0
theorem said_last {said t : ByteArray} {m : Nat} (hm : said.size = m) (ht : t = reply 354) : (((said ++ t.extract 0 3) ++ { data := #[32] })).extract m (m + 4) = { data := #[51, 53, 52, 32] } := by
  subst ht hm
  rw [reply354]
  have e : (({ data := #[51, 53, 52, 32, 103, 111, 32, 111, 110, 13, 10] } : ByteArray).extract 0 3) = { data := #[51, 53, 52] } := by decide
  rw [e]
  apply ByteArray.ext
  simp

/-! ### Where a mail is asked to be kept -/
theorem text_five (s : Se) (l : List Nat) (h : s.st < 5) : (s.text l).st = 5 → (s.text l).out ≠ [] := by
  unfold Se.text
  split
  · split
    · intro _; simp [Se.say, Se.reset]
    · intro _; simp
  · intro h5
    have : s.st = 5 := h5
    omega
theorem verb_five (s : Se) (v : VC) (h : s.st < 5) : (s.verb v).st = 5 → (s.verb v).out ≠ [] := by
  unfold Se.verb
  split; · intro _; simp [Se.say, Se.reset]
  split; · intro _; simp [Se.say, Se.reset]
  split; · intro _; simp [Se.say, Se.reset]
  split; · intro _; simp [Se.say]
  split; · intro _; simp [Se.say]
  split; · intro _; simp [Se.quit]
  split
  · unfold Se.mail
    split; · intro _; simp [Se.say]
    split; · intro _; simp [Se.say]
    intro _; simp [Se.say]
  split
  · unfold Se.rcpt
    split; · intro _; simp [Se.say]
    split; · intro _; simp [Se.say]
    intro _; simp [Se.say]
  split
  · unfold Se.data
    split; · intro _; simp [Se.say]
    intro _; simp [Se.say]
  · intro h5; omega
theorem line_five (V : ByteArray → VC) (s : Se) (l : List Nat) (h : s.st < 5) : (s.line V l).st = 5 → (s.line V l).out ≠ [] := by
  unfold Se.line
  split
  · exact text_five s l h
  · unfold Se.command
    split; · intro _; simp [Se.say]
    split; · intro _; simp [Se.say]
    exact verb_five s _ h
theorem go_out (V : ByteArray → VC) : ∀ (n : Nat) (s : Se), s.wait.length = n → s.out ≠ [] → (s.go V).out ≠ [] := by
  intro n s _ h
  obtain ⟨e, L, he⟩ : ∃ e L, s.out = e :: L := by
    cases hs : s.out with
    | nil => exact absurd hs h
    | cons e L => exact ⟨e, L, rfl⟩
  rw [(go_pop (V := V) he).1]
  simp
theorem go_five (V : ByteArray → VC) : ∀ (n : Nat) (s : Se), s.wait.length = n → s.st ≠ 5 → (s.go V).st = 5 → (s.go V).out ≠ [] := by
  intro n
  induction n using Nat.strongRecOn with
  | _ n ih =>
    intro s hn h6 hg
    by_cases h5 : s.st < 5
    · cases hp : pos s.wait with
      | none => rw [go_none hp] at hg; exact absurd hg h6
      | some i =>
        rw [go_some h5 hp] at hg ⊢
        have hlt : ((s.cut i).line V (s.wait.take i)).wait.length < n := by
          have := pos_lt hp
          rw [line_wait]
          simp [Se.cut]
          omega
        by_cases h6' : ((s.cut i).line V (s.wait.take i)).st = 5
        · exact go_out V _ _ rfl (line_five V (s.cut i) _ h5 h6')
        · exact ih _ hlt _ rfl h6' hg
    · rw [go_over h5] at hg; exact absurd hg h6
/-- A session that waits for an answer, and has nothing to tell, is as it was. -/
theorem is_five {V : ByteArray → VC} {s z : Se} (h : s.go V = z) (h5 : z.st = 5) (ho : z.out = []) : s = z := by
  subst h
  by_cases h5' : s.st = 5
  · exact (go_over (by omega)).symm
  · exact absurd ho (go_five V _ s rfl h5' h5)
theorem Zm_end (n : Nat) (f : ByteArray) (rs : List ByteArray) (b : List Nat) : (Zm n f rs b (n + 5)).st = 5 ∧ (Zm n f rs b (n + 5)).out = [] := ⟨rfl, List.drop_eq_nil_of_le (by rw [told_len]; omega)⟩
def codeN (c : Int) : Nat := if c < 300 then 250 else c.toNat
def Ya (c : Int) : Se := ⟨mx9, 8192, [], [.say (reply (codeN c)), .say (reply 250)], 1, nobody, [], [], 0⟩
theorem Zm_answer (n : Nat) (f : ByteArray) (rs : List ByteArray) (b : List Nat) (c : Int) : ansOk (Zm n f rs b (n + 5)) c = decide (200 ≤ c ∧ c ≤ 599) ∧ (200 ≤ c ∧ c ≤ 599 → ((Zm n f rs b (n + 5)).answer c).go V9 = Ya c) := by
  obtain ⟨h5, ho⟩ := Zm_end n f rs b
  have ha : ansOk (Zm n f rs b (n + 5)) c = decide (200 ≤ c ∧ c ≤ 599) := by rw [ansOk, h5, ho]; simp
  refine ⟨ha, fun hc => ?_⟩
  have e : (Zm n f rs b (n + 5)).answer c = ⟨mx9, 8192, rl lNoop, [.say (reply (codeN c))], 1, nobody, [], [], 0⟩ := by
    rw [Se.answer, ha, decide_eq_true hc, if_pos rfl]
    have e0 : Zm n f rs b (n + 5) = ⟨mx9, 8192, rl lNoop, [], 5, f, rs, b, 0⟩ := by rw [Zm, List.drop_eq_nil_of_le (by rw [told_len]; omega)]
    rw [e0]
    rfl
  rw [e, go_cmd (A := lNoop) (R := []) (by show 1 < 4; decide) (by simp [rl]) (by decide) (by decide) (by rw [v_noop]), v_noop]
  have e2 : (({ host := mx9, size := 8192, wait := [], out := [.say (reply (codeN c))], st := 1, frm := nobody, rcpts := [], body := [], bad := 0 } : Se).verb ⟨nNOOP, nobody, -1, 0⟩) = Ya c := by
    rw [Se.verb, if_neg (by decide), if_neg (by decide), if_neg (by decide), if_pos rfl]
    rfl
  rw [e2]
  exact go_none rfl
theorem go_nil {V : ByteArray → VC} {s : Se} (h : (s.go V).out = []) : s.out = [] := by
  cases hs : s.out with
  | nil => rfl
  | cons e L => exact absurd h (go_out V _ s rfl (by rw [hs]; simp))
theorem not_five {V : ByteArray → VC} {s : Se} (h : (s.go V).st ≠ 5) (c : Int) : ansOk s c = false := by
  rw [ansOk, decide_eq_false]
  rintro ⟨h5, _⟩
  rw [go_over (by omega)] at h
  exact h h5
theorem Tso.txtR {B : Nat} {w : World} {v : Value} {L : List ByteArray} (h : Tso B w v L) : ∃ x cap, v = .slice x L.length cap ∧ TxtR (fun _ => True) w v L := by
  obtain ⟨x, cap, hv, hc, hT⟩ := h.shape
  refine ⟨x, cap, hv, x, cap, hv, hc, ?_⟩
  by_cases h0 : L = []
  · exact .inl h0
  · obtain ⟨b, off, _, _, hx, _⟩ := hT.at 0 (List.length_pos_iff.2 h0)
    refine .inr ⟨b, off, trivial, hx, fun i hi => ?_⟩
    obtain ⟨b', off', _, _, hx', hc'⟩ := hT.at i hi
    rw [hx] at hx'
    injection hx' with hx'
    injection hx' with e1 e2
    subst e1 e2
    rw [hc']
    simp [hi]
end Go.Proofs.YtcjljldknekhiaaGreatDoor.Ln
end
