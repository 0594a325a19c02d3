/- The host machine, no program in sight: what is stored is loaded; a word that lies there is done. -/
import Derived.Test.YtbalnlodkiejcaaDoorS0
import Derived.Test.YtbalnlodkiejcaaDoorM1
namespace Go.Proofs.YtbalnlodkiejcaaDoor
open Go.RowKit
set_option linter.unusedVariables false
set_option linter.unusedSimpArgs false
set_option linter.unusedSectionVars false

theorem wordM_1 (m : Int → Int) (a : Int) : wordM m a 1 = m a := by
  simp [wordM, bytesM, wordS, List.range_succ, show Int.toNat 1 = 1 from rfl]
theorem wordM_2 (m : Int → Int) (a : Int) : wordM m a 2 = m a + m (a + 1) * 256 := by
  simp [wordM, bytesM, wordS, List.range_succ, show Int.toNat 2 = 2 from rfl]
theorem wordM_4 (m : Int → Int) (a : Int) : wordM m a 4 = m a + m (a + 1) * 256 + m (a + 2) * 65536 + m (a + 3) * 16777216 := by
  simp [wordM, bytesM, wordS, List.range_succ, show Int.toNat 4 = 4 from rfl]
theorem wordS_bd {zs : List Int} (hz : ∀ z ∈ zs, 0 ≤ z ∧ z ≤ 255) : 0 ≤ wordS zs ∧ wordS zs ≤ 4294967295 := by
  have g0 := getD_bd hz 0
  have g1 := getD_bd hz 1
  have g2 := getD_bd hz 2
  have g3 := getD_bd hz 3
  unfold wordS; omega
theorem bytesM_bd {m : Int → Int} (h : ∀ i, 0 ≤ m i ∧ m i ≤ 255) (a : Int) (n : Nat) : ∀ z ∈ bytesM m a n, 0 ≤ z ∧ z ≤ 255 := by
  intro z hz
  obtain ⟨i, -, rfl⟩ := List.mem_map.1 hz
  exact h _
theorem wordM_bd {m : Int → Int} (h : ∀ i, 0 ≤ m i ∧ m i ≤ 255) (a n : Int) : 0 ≤ wordM m a n ∧ wordM m a n ≤ 4294967295 := wordS_bd (bytesM_bd h a _)
theorem storeM_in {m : Int → Int} {a n v : Int} (j : Nat) (h : (j : Int) < n) : storeM m a n v (a + j) = v / 256 ^ j % 256 := by
  unfold storeM
  rw [if_pos (by omega), show (a + (j : Int) - a).toNat = j by omega]
theorem storeM_out {m : Int → Int} {a n v k : Int} (h : k < a ∨ a + n ≤ k) : storeM m a n v k = m k := by
  unfold storeM
  rw [if_neg (by omega)]
theorem load_store {m : Int → Int} {a v : Int} (hv : 0 ≤ v ∧ v ≤ 4294967295) : wordM (storeM m a 4 v) a 4 = v := by
  have h0 := storeM_in (m := m) (a := a) (n := 4) (v := v) 0 (by decide)
  have h1 := storeM_in (m := m) (a := a) (n := 4) (v := v) 1 (by decide)
  have h2 := storeM_in (m := m) (a := a) (n := 4) (v := v) 2 (by decide)
  have h3 := storeM_in (m := m) (a := a) (n := 4) (v := v) 3 (by decide)
  rw [show a + ((0 : Nat) : Int) = a by omega] at h0
  rw [show a + ((1 : Nat) : Int) = a + 1 by omega] at h1
  rw [show a + ((2 : Nat) : Int) = a + 2 by omega] at h2
  rw [show a + ((3 : Nat) : Int) = a + 3 by omega] at h3
  rw [wordM_4, h0, h1, h2, h3]
  simp only [Int.pow_zero, Int.pow_one, show (256 : Int) ^ 2 = 65536 by decide, show (256 : Int) ^ 3 = 16777216 by decide]
  omega
theorem load_other {m : Int → Int} {a b v : Int} (h : b + 4 ≤ a ∨ a + 4 ≤ b) : wordM (storeM m a 4 v) b 4 = wordM m b 4 := by
  rw [wordM_4, wordM_4, storeM_out (by omega), storeM_out (by omega), storeM_out (by omega), storeM_out (by omega)]
/-- A word that lies at the place is done. -/
theorem step_word {s : St} {op d a b i : Int} (hp : fitsL s.pc 4 = true) (hw : wordM s.m s.pc 4 = encL op d a b i) (hl : isL op d a b i = true) : stepL s = (doL s op d a b i).told s := by
  unfold stepL
  rw [if_pos hp, hw]
  have h := dec_enc hl
  cases hd : decL (encL op d a b i) with
  | none => rw [hd] at h; simp [wordO] at h
  | some k =>
    rw [hd] at h
    simp only [wordO, Value.tuple.injEq, Array.mk.injEq, List.cons.injEq, and_true, wordV, Value.agg.injEq, Value.int.injEq, true_and] at h
    obtain ⟨h1, h2, h3, h4, h5⟩ := h
    simp only [h1, h2, h3, h4, h5]
theorem step_none {s : St} (hp : fitsL s.pc 4 = true) (hw : decL (wordM s.m s.pc 4) = none) : stepL s = (6, s) := by
  unfold stepL
  rw [if_pos hp, hw]
theorem runL_go {k n : Nat} {s : St} (h : (stepL s).1 = 0) : runL (k + 1) n s = runL k (n + 1) (stepL s).2 := by rw [runL, if_pos h]
theorem runL_stop {k n : Nat} {s : St} (h : (stepL s).1 ≠ 0) : runL (k + 1) n s = ((stepL s).1, n + 1, (stepL s).2) := by rw [runL, if_neg h]
end Go.Proofs.YtbalnlodkiejcaaDoor
