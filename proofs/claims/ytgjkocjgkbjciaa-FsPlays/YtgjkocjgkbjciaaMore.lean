/-
  What the laws' own rows of calls make of the model.
-/
import Derived.Test.YtgjkocjgkbjciaaArgs
namespace Go.Proofs.Ytgjkocjgkbjciaa.Fs
set_option linter.unusedVariables false
set_option linter.unusedSectionVars false

/-! ### A disk with power and without a fuse -/
section
variable {s : St} (hf : s.fuse = none) (hd : s.down = false) {a b : Nm}
include hf
theorem live_burnE : burnE s = 0 := by simp [burnE, hf]
theorem live_burnS : burnS s = s := by unfold burnS; rw [hf]
theorem live_chg (c : Chg) : chgS s c = { s with loose := s.loose ++ [c] } := by unfold chgS; rw [live_burnE hf, live_burnS hf]; rfl
include hd
theorem live_create (ha : isNm a = true) (hg : get s.now a = none) (hl : s.now.length < 256) : createS s a = { s with loose := s.loose ++ [.mk a s.files.length], files := s.files ++ [⟨[], 0⟩] } := by
  unfold createS
  rw [good_ready ha hd, hg]
  simp only [ne_eq, not_true, if_false, Option.isSome_none, Bool.false_eq_true]
  rw [if_neg (by omega), live_burnE hf, if_pos rfl]
  exact live_chg (s := { s with files := s.files ++ [⟨[], 0⟩] }) hf _
theorem live_findE {i : Nat} (ha : isNm a = true) (hg : get s.now a = some i) : findE s a = 0 := by
  unfold findE
  rw [good_ready ha hd, hg]
  rfl
theorem live_append {i : Nat} (ha : isNm a = true) (hg : get s.now a = some i) (bs : List Nat) (hr : s.used + bs.length ≤ s.room) : appendS s a bs = setFile s i ⟨(s.file i).bytes ++ bs, (s.file i).sure⟩ := by
  unfold appendS
  rw [live_findE hf hd ha hg, live_burnE hf, live_burnS hf, hg, if_neg (by simp), if_neg (by omega)]
  rfl
theorem live_sync {i : Nat} (ha : isNm a = true) (hg : get s.now a = some i) : syncS s a = setFile s i ⟨(s.file i).bytes, (s.file i).bytes.length⟩ := by
  unfold syncS
  rw [live_findE hf hd ha hg, live_burnE hf, live_burnS hf, hg]
  rfl
theorem live_unlink {i : Nat} (ha : isNm a = true) (hg : get s.now a = some i) : unlinkS s a = { s with loose := s.loose ++ [.unl a] } := by
  unfold unlinkS
  rw [live_findE hf hd ha hg, live_chg hf]
  rfl
theorem live_dirSync : dirSyncS s = { s with sure := s.now, loose := [] } := by
  unfold dirSyncS
  rw [live_burnE hf, live_burnS hf, hd]
  simp only [Bool.false_eq_true, if_false, if_true]
  unfold settleS St.now
  rw [List.take_length, hd]
end

/-! ### FsFuse: so many writes, and no more -/
/-- The disk of one file, behind i appends of one byte under a fuse of F. -/
def fuseSt (a : Nm) (F i : Nat) : St := ⟨5000, [], [.mk a 0], [⟨List.replicate (min i F) 1, 0⟩], some (F - min i F), decide (F < i)⟩
theorem fuse_now (a : Nm) (F i : Nat) : (fuseSt a F i).now = [(a, 0)] := rfl
theorem fuse_get (a : Nm) (F i : Nat) : get (fuseSt a F i).now a = some 0 := by rw [fuse_now]; simp [get]
theorem fuse_start {a : Nm} (ha : isNm a = true) (F : Nat) : fuseS (createS (newS 5000) a) (F : Int) = fuseSt a F 0 := by
  rw [live_create rfl rfl ha rfl (by decide)]
  unfold fuseS fuseSt newS
  simp
  omega
theorem fuse_used (a : Nm) (F i : Nat) : (fuseSt a F i).used = min i F := by
  unfold St.used
  rw [fuse_now]
  simp [St.file, fuseSt]
theorem fuse_find {a : Nm} (ha : isNm a = true) (F i : Nat) : findE (fuseSt a F i) a = if F < i then 2 else 0 := by
  unfold findE readyE
  rw [fuse_get]
  simp only [List.all_cons, ha, List.all_nil, Bool.and_true, if_true]
  show (if (if decide (F < i) then 2 else 0) ≠ 0 then (if decide (F < i) then 2 else 0) else 0) = _
  by_cases h : F < i <;> simp [h]
theorem fuse_step {a : Nm} (ha : isNm a = true) (F i : Nat) (hF : F ≤ 255) : appendE (fuseSt a F i) a [1] = (if i < F then 0 else 2) ∧ appendS (fuseSt a F i) a [1] = fuseSt a F (i + 1) := by
  have hu := fuse_used a F i
  have hfd := fuse_find ha F i
  by_cases h1 : F < i
  · rw [if_pos h1] at hfd
    refine ⟨?_, ?_⟩
    · unfold appendE
      rw [hfd, if_pos (by decide), if_neg (by omega)]
    · unfold appendS
      rw [hfd]
      unfold fuseSt
      simp
      have e1 : min i F = F := by omega
      have e2 : min (i + 1) F = F := by omega
      rw [e1, e2]
      simp [h1]
      omega
  · rw [if_neg h1] at hfd
    have hr : ¬ (fuseSt a F i).room < (fuseSt a F i).used + [1].length := by rw [hu]; show ¬ (5000 < min i F + 1); omega
    by_cases h2 : i < F
    · have hb : burnE (fuseSt a F i) = 0 := by
        unfold burnE fuseSt
        have : ¬ F - min i F = 0 := by omega
        simp [this]
      refine ⟨?_, ?_⟩
      · unfold appendE
        rw [hfd, if_neg (by simp), if_neg hr, hb, if_pos h2]
      · unfold appendS
        rw [hfd, if_neg (by simp), if_neg hr, hb, if_pos rfl, fuse_get]
        have hbs : burnS (fuseSt a F i) = { fuseSt a F i with fuse := some (F - min i F - 1) } := by
          unfold burnS
          show (match some (F - min i F) with | none => _ | some 0 => _ | some (n + 1) => _) = _
          obtain ⟨n, hn⟩ : ∃ n, F - min i F = n + 1 := ⟨F - min i F - 1, by omega⟩
          rw [hn]
          rfl
        rw [hbs]
        unfold setFile fuseSt
        simp [St.file]
        have e1 : min i F = i := by omega
        have e2 : min (i + 1) F = i + 1 := by omega
        rw [e1, e2]
        rw [List.replicate_succ']
        exact ⟨rfl, by omega, by omega⟩
    · have hiF : i = F := by omega
      subst hiF
      have hb : burnE (fuseSt a i i) = 2 := by
        unfold burnE fuseSt
        simp
      refine ⟨?_, ?_⟩
      · unfold appendE
        rw [hfd, if_neg (by simp), if_neg hr, hb, if_neg h2]
      · unfold appendS
        rw [hfd, if_neg (by simp), if_neg hr, hb]
        have hbs : burnS (fuseSt a i i) = { fuseSt a i i with down := true } := by
          unfold burnS fuseSt
          simp
        rw [hbs]
        unfold fuseSt
        simp
theorem fuse_bulk (a : Nm) (F i : Nat) : (fuseSt a F i).bulk = 2 := rfl
theorem fuse_crash (a : Nm) (F i : Nat) (hF : F ≤ 255) (hi : F < i) : crashS (fuseSt a F i) 9 999 = ⟨5000, [(a, 0)], [], [⟨List.replicate F 1, F⟩], none, false⟩ := by
  have e : min i F = F := by omega
  unfold crashS
  have e2 : ((fuseSt a F i).loose.take (min (9 : Int).toNat (fuseSt a F i).loose.length)).foldl app (fuseSt a F i).sure = [(a, 0)] := rfl
  rw [e2]
  unfold fuseSt keepAll
  simp [keepF, e]
  omega
theorem fuse_read {a : Nm} (ha : isNm a = true) (F : Nat) : findE ⟨5000, [(a, 0)], [], [⟨List.replicate F 1, F⟩], none, false⟩ a = 0 ∧ (readV ⟨5000, [(a, 0)], [], [⟨List.replicate F 1, F⟩], none, false⟩ a).length = F := by
  have hg : get (St.now ⟨5000, [(a, 0)], [], [⟨List.replicate F 1, F⟩], none, false⟩) a = some 0 := by simp [St.now, get]
  have h1 := live_findE (s := ⟨5000, [(a, 0)], [], [⟨List.replicate F 1, F⟩], none, false⟩) rfl rfl ha hg
  refine ⟨h1, ?_⟩
  unfold readV
  rw [h1, hg]
  simp [St.file]

end Go.Proofs.Ytgjkocjgkbjciaa.Fs
