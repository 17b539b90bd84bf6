/-
  What was made sure is there behind any crash: the model's part of FsSure.
-/
import Derived.Test.YtgjkocjgkbjciaaBulk
namespace Go.Proofs.Ytgjkocjgkbjciaa.Fs
open Go.RowKit
set_option linter.unusedVariables false
set_option linter.unusedSectionVars false

def dab (a b : Nm) : Dir := put (put [] a 0) b 1
section
variable {a b : Nm} {data more : List Nat} (ha : isNm a = true) (hb : isNm b = true) (hab : a ≠ b) (hl : data.length + more.length ≤ 1000)
include ha hb hab hl
theorem dab_a : get (dab a b) a = some 0 := by unfold dab; rw [get_put_other _ _ hab, get_put_same]
theorem dab_b : get (dab a b) b = some 1 := get_put_same _ _ _
theorem dab_perm : (dab a b).Perm [(b, 1), (a, 0)] := by
  have e : put [] a 0 = [(a, 0)] := rfl
  have e2 : del [(a, 0)] b = [(a, 0)] := by simp [del, hab]
  have := ins_perm (b, 1) (del [(a, 0)] b)
  rw [e2] at this
  unfold dab
  rw [e]
  show (ins (b, 1) (del [(a, 0)] b)).Perm _
  rw [e2]
  exact this
theorem dab_len : (dab a b).length = 2 := (dab_perm ha hb hab hl).length_eq
theorem sure5 : dirSyncS (syncS (appendS (createS (createS (newS 5000) a) b) a data) a) = ⟨5000, dab a b, [], [⟨data, data.length⟩, ⟨[], 0⟩], none, false⟩ := by
  rw [live_create rfl rfl ha rfl (by decide)]
  have g1 : get (St.now { newS 5000 with loose := (newS 5000).loose ++ [.mk a (newS 5000).files.length], files := (newS 5000).files ++ [⟨[], 0⟩] }) b = none := by
    show get [(a, 0)] b = none
    simp [get, hab]
  rw [live_create rfl rfl hb g1 (by show 1 < 256; omega)]
  rw [show ({ ({ newS 5000 with loose := (newS 5000).loose ++ [.mk a (newS 5000).files.length], files := (newS 5000).files ++ [⟨[], 0⟩] } : St) with loose := ({ newS 5000 with loose := (newS 5000).loose ++ [.mk a (newS 5000).files.length], files := (newS 5000).files ++ [⟨[], 0⟩] } : St).loose ++ [.mk b ({ newS 5000 with loose := (newS 5000).loose ++ [.mk a (newS 5000).files.length], files := (newS 5000).files ++ [⟨[], 0⟩] } : St).files.length], files := ({ newS 5000 with loose := (newS 5000).loose ++ [.mk a (newS 5000).files.length], files := (newS 5000).files ++ [⟨[], 0⟩] } : St).files ++ [⟨[], 0⟩] } : St) = ⟨5000, [], [.mk a 0, .mk b 1], [⟨[], 0⟩, ⟨[], 0⟩], none, false⟩ from rfl]
  have n2 : St.now ⟨5000, [], [.mk a 0, .mk b 1], [⟨[], 0⟩, ⟨[], 0⟩], none, false⟩ = dab a b := rfl
  have u2 : St.used ⟨5000, [], [.mk a 0, .mk b 1], [⟨[], 0⟩, ⟨[], 0⟩], none, false⟩ = 0 := by
    unfold St.used
    rw [n2, ((dab_perm ha hb hab hl).map _).sum_nat]
    simp [St.file]
  rw [live_append (i := 0) rfl rfl ha (by rw [n2]; exact dab_a ha hb hab hl) data (by rw [u2]; show 0 + data.length ≤ 5000; omega)]
  rw [show setFile ⟨5000, [], [.mk a 0, .mk b 1], [⟨[], 0⟩, ⟨[], 0⟩], none, false⟩ 0 ⟨(St.file ⟨5000, [], [.mk a 0, .mk b 1], [⟨[], 0⟩, ⟨[], 0⟩], none, false⟩ 0).bytes ++ data, (St.file ⟨5000, [], [.mk a 0, .mk b 1], [⟨[], 0⟩, ⟨[], 0⟩], none, false⟩ 0).sure⟩ = ⟨5000, [], [.mk a 0, .mk b 1], [⟨data, 0⟩, ⟨[], 0⟩], none, false⟩ from rfl]
  rw [live_sync (i := 0) rfl rfl ha (by exact dab_a ha hb hab hl)]
  rw [show setFile ⟨5000, [], [.mk a 0, .mk b 1], [⟨data, 0⟩, ⟨[], 0⟩], none, false⟩ 0 ⟨(St.file ⟨5000, [], [.mk a 0, .mk b 1], [⟨data, 0⟩, ⟨[], 0⟩], none, false⟩ 0).bytes, (St.file ⟨5000, [], [.mk a 0, .mk b 1], [⟨data, 0⟩, ⟨[], 0⟩], none, false⟩ 0).bytes.length⟩ = ⟨5000, [], [.mk a 0, .mk b 1], [⟨data, data.length⟩, ⟨[], 0⟩], none, false⟩ from rfl]
  rw [live_dirSync rfl rfl]
  rfl
theorem sure8 : dirSyncS (unlinkS (appendS ⟨5000, dab a b, [], [⟨data, data.length⟩, ⟨[], 0⟩], none, false⟩ a more) b) = ⟨5000, del (dab a b) b, [], [⟨data ++ more, data.length⟩, ⟨[], 0⟩], none, false⟩ := by
  have n5 : St.now ⟨5000, dab a b, [], [⟨data, data.length⟩, ⟨[], 0⟩], none, false⟩ = dab a b := rfl
  have u5 : St.used ⟨5000, dab a b, [], [⟨data, data.length⟩, ⟨[], 0⟩], none, false⟩ = data.length := by
    unfold St.used
    rw [n5, ((dab_perm ha hb hab hl).map _).sum_nat]
    simp [St.file]
  rw [live_append (i := 0) rfl rfl ha (by rw [n5]; exact dab_a ha hb hab hl) more (by rw [u5]; show data.length + more.length ≤ 5000; omega)]
  rw [show setFile ⟨5000, dab a b, [], [⟨data, data.length⟩, ⟨[], 0⟩], none, false⟩ 0 ⟨(St.file ⟨5000, dab a b, [], [⟨data, data.length⟩, ⟨[], 0⟩], none, false⟩ 0).bytes ++ more, (St.file ⟨5000, dab a b, [], [⟨data, data.length⟩, ⟨[], 0⟩], none, false⟩ 0).sure⟩ = ⟨5000, dab a b, [], [⟨data ++ more, data.length⟩, ⟨[], 0⟩], none, false⟩ from rfl]
  rw [live_unlink (i := 1) rfl rfl hb (by exact dab_b ha hb hab hl), live_dirSync rfl rfl]
  rfl
theorem sure9 : createS ⟨5000, del (dab a b) b, [], [⟨data ++ more, data.length⟩, ⟨[], 0⟩], none, false⟩ b = ⟨5000, del (dab a b) b, [.mk b 2], [⟨data ++ more, data.length⟩, ⟨[], 0⟩, ⟨[], 0⟩], none, false⟩ := by
  rw [live_create rfl rfl hb (by show get (del (dab a b) b) b = none; exact get_del_same _ _) (by
    show (del (dab a b) b).length < 256
    have h1 := length_del_le (dab a b) b
    have h2 := dab_len ha hb hab hl
    omega)]
  rfl
theorem sureR (dirs bytes : Int) : findE (crashS ⟨5000, del (dab a b) b, [.mk b 2], [⟨data ++ more, data.length⟩, ⟨[], 0⟩, ⟨[], 0⟩], none, false⟩ dirs bytes) a = 0 ∧
    readV (crashS ⟨5000, del (dab a b) b, [.mk b 2], [⟨data ++ more, data.length⟩, ⟨[], 0⟩, ⟨[], 0⟩], none, false⟩ dirs bytes) a = (data ++ more).take (data.length + min bytes.toNat more.length) ∧
    findE (crashS ⟨5000, del (dab a b) b, [.mk b 2], [⟨data ++ more, data.length⟩, ⟨[], 0⟩, ⟨[], 0⟩], none, false⟩ dirs bytes) b = if 0 < dirs then 0 else 4 := by
  have g0 : get (del (dab a b) b) a = some 0 := by rw [get_del_other _ hab]; exact dab_a ha hb hab hl
  have g1 : get (put (del (dab a b) b) b 2) a = some 0 := by rw [get_put_other _ _ hab]; exact g0
  have h1 : get (([Chg.mk b 2].take (min dirs.toNat [Chg.mk b 2].length)).foldl app (del (dab a b) b)) a = some 0 := by
    rcases (show min dirs.toNat [Chg.mk b 2].length = 0 ∨ min dirs.toNat [Chg.mk b 2].length = 1 by simp; omega) with h | h
    · rw [h]; exact g0
    · rw [h]; exact g1
  obtain ⟨r1, r2⟩ := crash_read (s := ⟨5000, del (dab a b) b, [.mk b 2], [⟨data ++ more, data.length⟩, ⟨[], 0⟩, ⟨[], 0⟩], none, false⟩) dirs bytes ha h1 rfl
  refine ⟨r1, ?_, ?_⟩
  · rw [r2]
    simp [keepF]
  · by_cases hd : 0 < dirs
    · rw [if_pos hd]
      have h2 : get (([Chg.mk b 2].take (min dirs.toNat [Chg.mk b 2].length)).foldl app (del (dab a b) b)) b = some 2 := by
        rw [show min dirs.toNat [Chg.mk b 2].length = 1 by simp; omega]
        exact get_put_same _ _ _
      exact (crash_read (s := ⟨5000, del (dab a b) b, [.mk b 2], [⟨data ++ more, data.length⟩, ⟨[], 0⟩, ⟨[], 0⟩], none, false⟩) dirs bytes hb h2 rfl).1
    · rw [if_neg hd]
      have h2 : get (([Chg.mk b 2].take (min dirs.toNat [Chg.mk b 2].length)).foldl app (del (dab a b) b)) b = none := by
        rw [show min dirs.toNat [Chg.mk b 2].length = 0 by simp; omega]
        exact get_del_same _ _
      exact crash_none (s := ⟨5000, del (dab a b) b, [.mk b 2], [⟨data ++ more, data.length⟩, ⟨[], 0⟩, ⟨[], 0⟩], none, false⟩) dirs bytes hb h2
end

/-- An append whose run is known, as a step. -/
theorem wp_append_run {o : Oper} {a : Act} {w w' : World} {K : Act → World → Prop} {Q : Exit → Act → World → Prop} {s t : Operand} {v u r : Value} (ho : o.op = .call { callee := .builtin .append, args := #[s, t], argTypes := #[32, 32] }) (hs : a.eval s = v) (hx : a.eval t = u)
    (hr : (Builtin.append_ #[32, 32] o.type #[v, u]).run Try.prog w = .ok r w') (hK : K (a.put o.dst r) w') : o.wp Try.prog a w K Q := by
  unfold Oper.wp execOp
  simp only [ho, resolve, invoke, builtin, Sem.run_bind, Sem.run_pure, Result.andThen_ok, List.map_toArray, List.map_cons, List.map_nil, hs, hx, hr]
  exact hK

end Go.Proofs.Ytgjkocjgkbjciaa.Fs
