/-
  The document's Domain.
-/
import Derived.Test.YtpdopjpibmhamaaGreatDoorARefB
import Derived.Test.YtpdopjpibmhamaaGreatDoorARefD
namespace Go.Proofs.YtpdopjpibmhamaaGreatDoor.Ad
open Go.RowKit
set_option linter.unusedVariables false
set_option linter.unusedSimpArgs false

theorem bs_get (l : List UInt8) (k : Nat) (h : k < (bs l).size) : (bs l)[k]'h = l[k]'(by rw [bs_size] at h; exact h) := by
  have := get_list (bs l) k h
  simp only [bs_data] at this
  exact this.symm
theorem label_short {l : List UInt8} (h : l.length < 1 ∨ 32 < l.length) : label l = false := by
  rw [label, fits]
  rcases h with h | h
  · rw [decide_eq_false (show ¬ 1 ≤ l.length by omega)]; rfl
  · rw [decide_eq_false (show ¬ l.length ≤ 32 by omega), Bool.and_false]; rfl
theorem label_first {l : List UInt8} (h0 : 0 < l.length) (h : l[0] = 45) : label l = false := by
  rw [label_eq, at0_lt h0, h]
  simp
theorem label_last {l : List UInt8} (h0 : l.length - 1 < l.length) (h : l[l.length - 1] = 45) : label l = false := by
  rw [label_eq, at0_lt h0, h]
  simp
theorem label_bad {l : List UInt8} {k : Nat} (hk : k < l.length) (h : okLab l[k] = false) : label l = false := by
  rw [label_eq, show l.all okLab = false from List.all_eq_false.2 ⟨_, List.getElem_mem hk, by rw [h]; decide⟩]
  simp
theorem label_good {l : List UInt8} (h1 : 1 ≤ l.length) (h2 : l.length ≤ 32) (ha : l[0] ≠ 45) (hb : l[l.length - 1] ≠ 45) (h : ∀ k (hk : k < l.length), okLab l[k] = true) : label l = true := by
  rw [label_eq, at0_lt (by omega), at0_lt (by omega), beq_eq_false_iff_ne.2 ha, beq_eq_false_iff_ne.2 hb, fits, decide_eq_true h1, decide_eq_true h2]
  simp only [Bool.not_false, Bool.true_and, Bool.and_self, List.all_eq_true]
  intro x hx
  obtain ⟨k, hk, rfl⟩ := List.getElem_of_mem hx
  exact h k hk

set_option maxHeartbeats 2000000 in
set_option maxRecDepth 100000 in
theorem refDomain_walk (s : ByteArray) (hs : s.size ≤ 100000) (w : World) : Calls Tryz.prog 59 #[.string s] w fun e w' => e = .returned (.bool (domain s.data.toList)) ∧ Below w.heap.size w w' := by
  have hlen := len_size s
  have c1 := refCut_walk s 46 hs w
  obtain ⟨L, hL⟩ : ∃ L, cuts 46 s.data.toList = L := ⟨_, rfl⟩
  have hsh := cuts_short 46 s.data.toList
  rw [hL] at c1 hsh
  obtain ⟨D, hD⟩ : ∃ D, domain s.data.toList = D := ⟨_, rfl⟩
  rw [hD]
  have HD : Hid (D = (decide (s.size ≤ 64) && L.all label)) := by
    rw [← hD, domain, hL, hlen]
    exact rfl
  clear hD hL
  obtain ⟨N, hN⟩ : ∃ N, L.length = N := ⟨_, rfl⟩
  obtain ⟨hsh1, hsh2⟩ := hsh
  rw [hN] at hsh1
  rw [hlen] at hsh1 hsh2
  have HP := Lib.hid hsh2
  clear hsh2
  obtain ⟨n, hn⟩ : ∃ n, s.size = n := ⟨_, rfl⟩
  go_enter Tryz.func59, Tryz.ntmps59
  go_wp2_with fail
  refine c1.mono ?_
  rintro e w1 ⟨v, rfl, ⟨g, cap, rfl, hcap, hgl, hcell⟩, hb1⟩
  rw [hN] at hcap ⊢
  have HC := Lib.hid hcell
  clear hcell
  go_wp2
  go_loopw [4] (fun z wr => ∃ i : Nat, i ≤ N ∧ z = .int .i64 (i : Int) ∧ wr = w1 ∧ Hid ((L.take i).all label = true)) (fun z _ => N - (Lib.intOf z).toNat)
  case atStart => exact ⟨0, by omega, rfl, rfl, rfl⟩
  case round =>
    obtain ⟨i, hiN, rfl, rfl, HA⟩ := hrel
    by_cases hlt : (i : Int) < (N : Int)
    · have hil : i < L.length := by omega
      have hcl := HC.out i hil
      have hps := HP.out _ (List.getElem_mem hil)
      have hDf : label L[i] = false → D = false := fun h => by
        have := HD.out
        rw [this, show L.all label = false from List.all_eq_false.2 ⟨_, List.getElem_mem hil, by rw [h]; decide⟩, Bool.and_false]
      have hDt : label L[i] = true → Hid ((L.take (i + 1)).all label = true) := fun h => by
        show (L.take (i + 1)).all label = true
        have := HA.out
        rw [List.take_succ_eq_append_getElem hil, List.all_append, this]
        simp [h]
      obtain ⟨p, hpq⟩ : ∃ p, L[i] = p := ⟨_, rfl⟩
      rw [hpq] at hcl hps hDf hDt
      clear hpq
      obtain ⟨q, hq⟩ : ∃ q, bs p = q := ⟨_, rfl⟩
      have hqg : ∀ k (h : k < q.size) (h' : k < p.length), q[k]'h = p[k]'h' := by
        subst hq
        intro k h h'
        exact bs_get p k h
      obtain ⟨M, hM⟩ : ∃ M, p.length = M := ⟨_, rfl⟩
      have hqs : q.size = M := by rw [← hq, bs_size, hM]
      rw [hq] at hcl
      clear hq
      have HDf := Lib.hid hDf
      have HDt := Lib.hid hDt
      have HQ := Lib.hid hqg
      clear hDf hDt hqg
      by_cases h1 : (M : Int) < 1
      · obtain rfl := HDf.out (label_short (.inl (by omega)))
        clear HDf HDt HA HD HC HP HQ
        go_wp2
        go_ret
        exact ⟨rfl, hb1⟩
      · by_cases h2 : (32 : Int) < (M : Int)
        · obtain rfl := HDf.out (label_short (.inr (by omega)))
          clear HDf HDt HA HD HC HP HQ
          go_wp2
          go_ret
          exact ⟨rfl, hb1⟩
        · have hz : 0 < q.size := by omega
          have hz1 : M - 1 < q.size := by omega
          have hz2 : 0 < p.length := by omega
          have hz3 : M - 1 < p.length := by omega
          have g0 := HQ.out 0 hz hz2
          have g1 := HQ.out (M - 1) hz1 hz3
          have hw1 : ((M - 1 : Nat) : Int) = (M : Int) - 1 := by omega
          by_cases h3 : ((q[0]'hz).toNat : Int) = 45
          · obtain rfl := HDf.out (label_first hz2 (by rw [← g0]; exact byte_eq (n := 45) (by decide) h3))
            clear HDf HDt HA HD HC HP HQ g0 g1
            go_wp2
            go_ret
            exact ⟨rfl, hb1⟩
          · have b3 : (((q[0]'hz).toNat : Int) == 45) = false := beq_eq_false_iff_ne.2 h3
            by_cases h4 : ((q[M - 1]'hz1).toNat : Int) = 45
            · obtain rfl := HDf.out (label_last (by omega) (by
                subst hM
                rw [← g1]
                exact byte_eq (n := 45) (by decide) h4))
              clear HDf HDt HA HD HC HP HQ g0 g1
              go_wp2
              go_ret
              exact ⟨rfl, hb1⟩
            · have b4 : (((q[M - 1]'hz1).toNat : Int) == 45) = false := beq_eq_false_iff_ne.2 h4
              have ha : p[0]'(by omega) ≠ 45 := by rw [← g0]; exact byte_ne (n := 45) (by decide) h3
              have hbb : p[p.length - 1]'(by omega) ≠ 45 := by
                subst hM
                rw [← g1]
                exact byte_ne (n := 45) (by decide) h4
              have HL := Lib.hid (label_good (l := p) (by omega) (by omega) ha hbb)
              clear g0 g1 ha hbb
              go_wp2
              go_loopw [6] (fun z wq => ∃ k : Nat, k ≤ M ∧ z = .int .i64 (k : Int) ∧ wq = wr ∧ Hid (∀ j (hj : j < p.length), j < k → okLab (p[j]'hj) = true)) (fun z _ => M - (Lib.intOf z).toNat)
              case atStart => exact ⟨0, by omega, rfl, rfl, fun j hj hj0 => absurd hj0 (Nat.not_lt_zero _)⟩
              case round =>
                obtain ⟨k, hk, rfl, rfl, HK⟩ := hrel
                by_cases hlk : (k : Int) < (M : Int)
                · have hp : k < q.size := by omega
                  have hpl' : k < p.length := by omega
                  have hg := HQ.out k hp hpl'
                  have hstep : okLab (p[k]'hpl') = true → Hid (∀ j (hj : j < p.length), j < k + 1 → okLab (p[j]'hj) = true) := fun h j hj hj1 => by
                    rcases Nat.lt_or_ge j k with h1 | h1
                    · exact HK.out j hj h1
                    · obtain rfl : j = k := by omega
                      exact h
                  rw [← hg] at hstep
                  have HG := Lib.hid hg
                  clear hg
                  cases hpz : plainZ ((q[k]'hp).toNat : Int) with
                  | true =>
                    have HS := hstep (by rw [okLab, show plain (q[k]'hp) = true from hpz, Bool.true_or])
                    clear hstep
                    go_wp2_with (go_at_call 68; refine (plain_walk _ _).mono ?_; rintro e w2 ⟨rfl, rfl⟩; rw [hpz])
                    go_roundw
                    case rel => exact ⟨k + 1, by omega, by simp, trivial, HS⟩
                    case measure =>
                      simp [Lib.intOf]
                      omega
                  | false =>
                    by_cases h5 : ((q[k]'hp).toNat : Int) = 45
                    · have HS := hstep (by rw [byte_eq (n := 45) (by decide) h5]; decide)
                      clear hstep
                      go_wp2_with (go_at_call 68; refine (plain_walk _ _).mono ?_; rintro e w2 ⟨rfl, rfl⟩; rw [show plainZ 45 = false by decide])
                      go_roundw
                      case rel => exact ⟨k + 1, by omega, by simp, trivial, HS⟩
                      case measure =>
                        simp [Lib.intOf]
                        omega
                    · have q5 : (((q[k]'hp).toNat : Int) != 45) = true := bne_iff_ne.2 h5
                      obtain rfl := HDf.out (label_bad hpl' (by
                        rw [← HG.out, okLab, show plain (q[k]'hp) = false from hpz, Bool.false_or]
                        exact beq_eq_false_iff_ne.2 (byte_ne (n := 45) (by decide) h5)))
                      clear hstep HDf HDt HA HD HC HP HQ HL HK
                      go_wp2_with (go_at_call 68; refine (plain_walk _ _).mono ?_; rintro e w2 ⟨rfl, rfl⟩; rw [hpz])
                      go_ret
                      exact ⟨rfl, hb1⟩
                · have hkM : k = M := by omega
                  have HT := HDt.out (HL.out (fun j hj => HK.out j hj (by omega)))
                  go_wp2
                  go_roundw
                  case rel => exact ⟨i + 1, by omega, by simp, trivial, HT⟩
                  case measure =>
                    simp [Lib.intOf]
                    omega
    · have hiN' : i = N := by omega
      have hall := HA.out
      rw [List.take_of_length_le (by omega)] at hall
      have hDv := HD.out
      rw [hall, Bool.and_true, hn] at hDv
      subst hDv
      clear HA HD HC HP hall
      go_wp2
      go_ret
      refine ⟨?_, hb1⟩
      simp
      omega
end Go.Proofs.YtpdopjpibmhamaaGreatDoor.Ad
