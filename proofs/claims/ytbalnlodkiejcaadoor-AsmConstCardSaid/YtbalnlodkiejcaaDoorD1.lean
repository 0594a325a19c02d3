/- What a word does. -/
import Derived.Test.YtbalnlodkiejcaaDoorP2
import Derived.Test.YtbalnlodkiejcaaDoorR4
import Derived.Deep.QuietTactic
import Derived.BigQuiet
import Derived.StillTailTactics
namespace Go.Proofs.YtbalnlodkiejcaaDoor
open Go.RowKit
set_option linter.unusedVariables false
set_option linter.unusedSimpArgs false
set_option linter.unusedSectionVars false

theorem getX_in {s : St} (h : s.ok) {i : Int} (h0 : 0 ≤ i) (h1 : i < 32) : getX s i = s.x i := by
  unfold getX
  by_cases hi : 0 < i
  · rw [if_pos (by omega)]
  · rw [if_neg (by omega), show i = 0 by omega, h.x0]
theorem doL_46 (s : St) (d a b i : Int) : doL s 46 d a b i = .go 1 { s with pc := (s.pc + 4) % 4294967296 } := by simp [doL]
theorem doL_47 (s : St) (d a b i : Int) : doL s 47 d a b i = .go 2 { s with pc := (s.pc + 4) % 4294967296 } := by simp [doL]
theorem doL_3 (s : St) (d a b i : Int) : doL s 3 d a b i = jumpL s d ((s.pc + i) % 4294967296) := by simp [doL]
theorem doL_4 (s : St) (d a b i : Int) : doL s 4 d a b i = jumpL s d ((s.x a + i) % 4294967296 / 2 * 2) := by simp [doL]
theorem doL_br (s : St) (op d a b i : Int) (h : op = 5 ∨ op = 6 ∨ op = 7 ∨ op = 8 ∨ op = 9 ∨ op = 10) : doL s op d a b i =
    (if takenL op (s.x a) (s.x b) = true then (if (s.pc + i) % 4294967296 % 4 = 0 then .go 0 { s with pc := (s.pc + i) % 4294967296 } else .halt 5 ((s.pc + i) % 4294967296))
      else .go 0 { s with pc := (s.pc + 4) % 4294967296 }) := by
  unfold doL
  rw [if_neg (by omega), if_neg (by omega), if_neg (by omega), if_neg (by omega), if_pos (by omega)]
theorem doL_ld (s : St) (op d a b i : Int) (h : op = 11 ∨ op = 12 ∨ op = 13 ∨ op = 14 ∨ op = 15) : doL s op d a b i =
    (if fitsL ((s.x a + i) % 4294967296) (sizeL op) = true then .go 0 { s with x := setX s.x d (widenL op (wordM s.m ((s.x a + i) % 4294967296) (sizeL op))), pc := (s.pc + 4) % 4294967296 }
      else .halt 3 ((s.x a + i) % 4294967296)) := by
  unfold doL
  rw [if_neg (by omega), if_neg (by omega), if_neg (by omega), if_neg (by omega), if_neg (by omega), if_pos (by omega)]
theorem doL_st (s : St) (op d a b i : Int) (h : op = 16 ∨ op = 17 ∨ op = 18) : doL s op d a b i =
    (if fitsL ((s.x a + i) % 4294967296) (sizeL op) = true then .go 0 { s with m := storeM s.m ((s.x a + i) % 4294967296) (sizeL op) (s.x b), pc := (s.pc + 4) % 4294967296 }
      else .halt 4 ((s.x a + i) % 4294967296)) := by
  unfold doL
  rw [if_neg (by omega), if_neg (by omega), if_neg (by omega), if_neg (by omega), if_neg (by omega), if_neg (by omega), if_pos (by omega)]
theorem doL_2 (s : St) (d a b i : Int) : doL s 2 d a b i = .go 0 { s with x := setX s.x d ((s.pc + i) % 4294967296), pc := (s.pc + 4) % 4294967296 } := by simp [doL]
theorem doL_alu (s : St) (op d a b i : Int) (h : op = 1 ∨ 19 ≤ op ∧ op ≤ 45) : doL s op d a b i = .go 0 { s with x := setX s.x d (aluL op (s.x a) ((s.x b + i) % 4294967296)), pc := (s.pc + 4) % 4294967296 } := by
  unfold doL
  rw [if_neg (by omega), if_neg (by omega), if_neg (by omega), if_neg (by omega), if_neg (by omega), if_neg (by omega), if_neg (by omega), if_neg (by omega)]
theorem jump_yes {s : St} {d t : Int} (h : t % 4 = 0) : jumpL s d t = .go 0 { s with x := setX s.x d ((s.pc + 4) % 4294967296), pc := t } := by unfold jumpL; rw [if_pos h]
theorem jump_no {s : St} {d t : Int} (h : ¬ t % 4 = 0) : jumpL s d t = .halt 5 t := by unfold jumpL; rw [if_neg h]
theorem isL_regs {op d a b i : Int} (h : isL op d a b i = true) : (1 ≤ op ∧ op ≤ 47) ∧ (0 ≤ d ∧ d < 32) ∧ (0 ≤ a ∧ a < 32) ∧ (0 ≤ b ∧ b < 32) ∧ (-2147483648 ≤ i ∧ i ≤ 2147483647) := by
  obtain ⟨k, rfl, h1, h2, h3, h4⟩ := isL_kind h
  obtain ⟨g1, g2, g3, g4, g5, g6⟩ := okF_regs h3
  have r1 := (regL_iff d _).1 g1
  have r2 := (regL_iff a _).1 g2
  have r3 := (regL_iff b _).1 g3
  have hf := opCases (op := k) h1 h2
  refine ⟨by omega, by omega, by omega, by omega, ?_⟩
  clear h h3 h4 g1 g2 g3 g6 r1 r2 r3
  rcases hf with e | e | e | e | e | e | e | e | e <;> rw [e] at g4 g5 <;> simp [leastN, greatestN] at g4 g5 <;> omega
theorem bits_bd (o : BinOp) (a b : Int) : 0 ≤ bits o .u32 a b ∧ bits o .u32 a b ≤ 4294967295 := by
  have h : ∀ z : Int, 0 ≤ IntKind.u32.wrap z ∧ IntKind.u32.wrap z ≤ 4294967295 := fun z => by rw [IntKind.wrap_u32]; omega
  exact h _
theorem quotL_bd {op a b : Int} (ha : 0 ≤ a ∧ a ≤ 4294967295) (hb : 0 ≤ b ∧ b ≤ 4294967295) : 0 ≤ quotL op a b ∧ quotL op a b ≤ 4294967295 := by
  have hd := ediv_bd ha hb.1
  have he := emod_bd ha hb.1
  unfold quotL
  repeat' split
  all_goals omega
theorem prodL_bd {op a b : Int} (ha : 0 ≤ a ∧ a ≤ 4294967295) (hb : 0 ≤ b ∧ b ≤ 4294967295) : 0 ≤ prodL op a b ∧ prodL op a b ≤ 4294967295 := by
  have hp := mul_bd ha hb
  unfold prodL
  split
  · omega
  · split
    · omega
    · split <;> omega
theorem ite_bd {c : Prop} [Decidable c] {x y : Int} (hx : 0 ≤ x ∧ x ≤ 4294967295) (hy : 0 ≤ y ∧ y ≤ 4294967295) : 0 ≤ (if c then x else y) ∧ (if c then x else y) ≤ 4294967295 := by
  by_cases h : c
  · rw [if_pos h]; exact hx
  · rw [if_neg h]; exact hy
theorem w32_bd (x : Int) : 0 ≤ x % 4294967296 ∧ x % 4294967296 ≤ 4294967295 := by omega
theorem oneL_bd (c : Bool) : 0 ≤ oneL c ∧ oneL c ≤ 4294967295 := by unfold oneL; exact ite_bd (by omega) (by omega)
theorem aluL_bd {op a b : Int} (ha : 0 ≤ a ∧ a ≤ 4294967295) (hb : 0 ≤ b ∧ b ≤ 4294967295) : 0 ≤ aluL op a b ∧ aluL op a b ≤ 4294967295 := by
  unfold aluL
  exact ite_bd hb (ite_bd (w32_bd _) (ite_bd (w32_bd _) (ite_bd (oneL_bd _) (ite_bd (oneL_bd _) (ite_bd (bits_bd _ _ _) (ite_bd (bits_bd _ _ _) (ite_bd (bits_bd _ _ _) (ite_bd (w32_bd _) (ite_bd (div_pow_bd _ ha) (ite_bd (w32_bd _) (ite_bd (prodL_bd ha hb) (quotL_bd ha hb))))))))))))
theorem clear1 (x : Int) (hx : 0 ≤ x ∧ x ≤ 4294967295) : bits .andNot .u32 x 1 = x / 2 * 2 := by
  obtain ⟨X, rfl⟩ := Int.eq_ofNat_of_zero_le hx.1
  rw [show (1 : Int) = ((1 : Nat) : Int) from rfl, u32_andNot_nat X 1 (by omega) (by decide), show 4294967295 - 1 = (2 ^ 31 - 1) * 2 ^ 1 by decide, and_field]
  have : X / 2 < 2147483648 := by omega
  simp; omega
theorem widenL_bd {op v : Int} (hv : 0 ≤ v ∧ v ≤ 4294967295) : 0 ≤ widenL op v ∧ widenL op v ≤ 4294967295 := by
  unfold widenL
  split
  · omega
  · split <;> omega
end Go.Proofs.YtbalnlodkiejcaaDoor
