/- AsmConst: the document's host does the words. -/
import Derived.Test.YtbalnlodkiejcaaDoorA4
import Derived.Test.YtbalnlodkiejcaaDoorQ6
import Derived.Deep.MidRow
import Derived.Deep.WholeRow
import Derived.ChangeKeysEq
import Derived.Deep.QuietTactic
import Derived.BigQuiet
namespace Go.Proofs.YtbalnlodkiejcaaDoor
open Go.RowKit
set_option linter.unusedVariables false
set_option linter.unusedSimpArgs false
set_option linter.unusedSectionVars false

/-- Registers that are laid, so many of them. -/
def regsK (X : Nat → Int) (k : Nat) : Int → Int := fun j => if 1 ≤ j ∧ j ≤ k then X (j.toNat - 1) else 0
theorem regsK_0 (X : Nat → Int) : regsK X 0 = newS.x := by
  funext j
  unfold regsK newS
  rw [if_neg (by omega)]
theorem regsK_succ (X : Nat → Int) (k : Nat) (hk : k < 31) : setX (regsK X k) ((k : Int) + 1) (X k) = regsK X (k + 1) := by
  funext j
  unfold setX regsK
  by_cases h : j = (k : Int) + 1
  · rw [if_pos ⟨h, by omega, by omega⟩, if_pos (by omega), h, show ((k : Int) + 1).toNat - 1 = k by omega]
  · rw [if_neg (fun e => h e.1)]
    by_cases h2 : 1 ≤ j ∧ j ≤ k
    · rw [if_pos h2, if_pos (by omega)]
    · rw [if_neg h2, if_neg (by omega)]
/-- A new host with registers. -/
def regS (X : Nat → Int) (k : Nat) : St := { newS with x := regsK X k }

/-- A long load in a region that only reads, walked in the order of the text. -/
theorem quiet_load {P : Program} {ops : Array Oper} {C : World → Prop} {Q : Act → Prop} {o : Oper} {rest : List Oper} {a : Act} (hw : Region.wanted o (yielded ops a.tmps) = true) (ty : TypeId) (x : Operand) (ho : o.op = .load ty x)
    (b off : Nat) (hx : a.eval x = .pointer (some ⟨b, off, none⟩)) (cs : List Value) (d : TypeDesc) (hc : ∀ w, C w → w.rangeAt b off cs) (hu : P.underlying ty = some d) (hd : d.isRow = true) (hi : (P.info? ty).map (·.size) = some cs.length)
    (h : wpQuiet P ops C Q rest (a.put o.dst (.agg cs.toArray))) : wpQuiet P ops C Q (o :: rest) a := by
  unfold wpQuiet
  rw [if_pos hw]
  refine ⟨_, fun w hw' => ?_, h⟩
  unfold Oper.quietAt execOp
  simp only [ho, hx, Instr.loadAt, Instr.sureAddr, Sem.run_bind, Sem.run_pure, Result.andThen_ok, run_loadVar_mid w b off ty cs d (hc w hw') hu hd hi]
  exact ⟨rfl, rfl⟩
/-- The registers of a host, as cells. -/
def cells32 (s : St) : List Value := (List.range 32).map fun (i : Nat) => .int .u32 (s.x i)
theorem RAt.row {w : World} {R M : Nat} {s : St} (h : RAt w R M s) : w.rangeAt R 0 (cells32 s) := fun j v hv => by
  have hj : j < 32 := by have := (List.getElem?_eq_some_iff.1 hv).1; simpa [cells32] using this
  simp [cells32, hj] at hv
  subst hv
  rw [Nat.zero_add]
  exact h.x j hj
theorem cells32_len (s : St) : (cells32 s).length = 32 := by simp [cells32]
theorem size32 (s : St) : (Tryd.prog.info? 29).map (·.size) = some (cells32 s).length := by
  rw [cells32_len]
  kernel_rfl
theorem cells32_one (s : St) : (cells32 s).toArray.all (·.oneCell') = true := by
  rw [Array.all_eq_true]
  intro i hi
  simp [cells32]
  rfl
theorem cells32_at (s : St) (j : Nat) (hj : j < 32) : (cells32 s)[j]? = some (.int .u32 (s.x j)) := by simp [cells32, hj]
theorem cells32_set (s t : St) (r : Nat) (v : Int) (hr : 0 < r ∧ r < 32) (ht : t.x = setX s.x r v) : (cells32 s).set r (.int .u32 v) = cells32 t := by
  apply List.ext_getElem?
  intro j
  rw [List.getElem?_set]
  by_cases hj : j < 32
  · rw [cells32_at s j hj, cells32_at t j hj, ht, cells32_len]
    by_cases e : r = j
    · subst e; rw [if_pos rfl, if_pos hj]; simp [setX]; omega
    · rw [if_neg e]; simp [setX]; omega
  · rw [List.getElem?_eq_none (l := cells32 s) (by rw [cells32_len]; omega), List.getElem?_eq_none (l := cells32 t) (by rw [cells32_len]; omega), if_neg (by omega)]
def zero32 : Array Value := #[.int .u32 0, .int .u32 0, .int .u32 0, .int .u32 0, .int .u32 0, .int .u32 0, .int .u32 0, .int .u32 0, .int .u32 0, .int .u32 0, .int .u32 0, .int .u32 0, .int .u32 0, .int .u32 0, .int .u32 0, .int .u32 0, .int .u32 0, .int .u32 0, .int .u32 0, .int .u32 0, .int .u32 0, .int .u32 0, .int .u32 0, .int .u32 0, .int .u32 0, .int .u32 0, .int .u32 0, .int .u32 0, .int .u32 0, .int .u32 0, .int .u32 0, .int .u32 0]
theorem items32 (s : St) (W : World) : ∀ is : List Nat, (∀ i ∈ is, i < 32) → (Op.eqItems 9999 22 1 (cells32 s).toArray (cells32 s).toArray is).run Tryd.prog W = .ok true W
  | [], _ => by simp [Op.eqItems]
  | i :: is, h => by
    have hi := h i (by simp)
    have ha : (cells32 s).toArray[i * 1]? = some (.int .u32 (s.x i)) := by simp [cells32, hi]
    have hp := run_part_plain (P := Tryd.prog) W (e := 22) (by kernel_rfl) ha
    have ih := items32 s W is (fun j hj => h j (by simp [hj]))
    simp only [Op.eqItems, Sem.run_bind, hp, Result.andThen_ok, run_equalIn_int W 9998 22 .u32 .u32 (s.x i) (s.x i) Tryd.underlying22]
    simpa using ih
theorem eq32 (s : St) (W : World) : (Op.equalIn 10000 29 (.agg (cells32 s).toArray) (.agg (cells32 s).toArray)).run Tryd.prog W = .ok true W := by
  have hsome : (Tryd.prog.info? 22).isSome = true := by kernel_rfl
  obtain ⟨i, hi⟩ := Option.isSome_iff_exists.1 hsome
  rw [run_equalIn_array W 9999 _ _ Tryd.underlying29 hi, show Tryd.prog.cellsOf 22 = 1 by kernel_rfl]
  exact items32 s W _ (fun i hi => by simpa using hi)
theorem ix32 (b j : Nat) (h : j < 32) (W : World) : (Instr.indexAt 29 (.pointer (some ⟨b, 0, none⟩)) (.int .i64 (j : Int))).run Tryd.prog W = .ok (.pointer (some ⟨b, j, none⟩)) W := by
  have s1 : ∀ W, (sizeOf 22).run Tryd.prog W = .ok 1 W := fun W => by kernel_rfl
  have hj : (j : Int) < 32 := by omega
  simp [Instr.indexAt, run_underlying Tryd.underlying29, s1, go_sem, hj, h, Instr.sureAddr]
theorem ix_regs (b j : Nat) (h : j < 31) (W : World) : (Instr.indexAt 23 (.pointer (some ⟨b, 0, none⟩)) (.int .i64 j)).run Tryd.prog W = .ok (.pointer (some ⟨b, j, none⟩)) W := by
  have s1 : ∀ W, (sizeOf 22).run Tryd.prog W = .ok 1 W := fun W => by kernel_rfl
  have hj : (j : Int) < 31 := by omega
  simp [Instr.indexAt, run_underlying Tryd.underlying23, s1, go_sem, hj, h, Instr.sureAddr]
theorem ix_host (b j : Nat) (h : j < 31) (W : World) : (Instr.indexAt 29 (.pointer (some ⟨b, 0, none⟩)) (.int .i64 ((j : Int) + 1))).run Tryd.prog W = .ok (.pointer (some ⟨b, j + 1, none⟩)) W := by
  have s1 : ∀ W, (sizeOf 22).run Tryd.prog W = .ok 1 W := fun W => by kernel_rfl
  have hj : (j : Int) + 1 < 32 := by omega
  have hj2 : 0 ≤ (j : Int) + 1 := by omega
  have e : ((j : Int) + 1).toNat = j + 1 := by omega
  simp [Instr.indexAt, run_underlying Tryd.underlying29, s1, go_sem, hj, hj2, e, Instr.sureAddr]
end Go.Proofs.YtbalnlodkiejcaaDoor
