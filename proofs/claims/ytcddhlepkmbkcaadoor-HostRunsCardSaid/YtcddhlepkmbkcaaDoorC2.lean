import Derived.Test.YtcddhlepkmbkcaaDoorC1
import Derived.Test.YtcddhlepkmbkcaaDoorR3
namespace Go.Proofs.YtcddhlepkmbkcaaDoor
open Go.RowKit
set_option linter.unusedVariables false
set_option linter.unusedSimpArgs false
set_option linter.unusedSectionVars false

/-- A word as a value. -/
abbrev wordV (op d s t i : Int) : Value := .agg #[.int .i64 op, .int .i64 d, .int .i64 s, .int .i64 t, .int .i32 i]

/-- The kinds' cells, behind a new block. -/
theorem Tabs.kin1 {w : World} (tabs : Tabs w) {k : Nat} (hk : k < 48) (o : Obj) :
    (w.alloc o).cell? ⟨1, k * 3, none⟩ = some (.string ⟨(nameL k).toArray⟩) ∧ (w.alloc o).cell? ⟨1, k * 3 + 1, none⟩ = some (.int .i64 (formN k)) ∧ (w.alloc o).cell? ⟨1, k * 3 + 2, none⟩ = some (.int .u32 (bitsN k)) :=
  (tabs.below ((Below.refl w.heap.size w).alloc (Nat.le_refl _) o)).2.1 k hk
theorem own_cell {w w1 : World} {cs : Array Value} {t : TypeId} (b : Below (w.alloc (.cells cs t)).heap.size (w.alloc (.cells cs t)) w1) (i : Nat) (v : Value) (h : cs[i]? = some v) :
    w1.cell? ⟨w.heap.size, i, none⟩ = some v := by
  rw [b.cell (by simp)]
  have := alloc_new w (.cells cs t)
  simp only [World.cell?, this]
  exact h
theorem own_cell2 {w w1 : World} {cs : Array Value} {t : TypeId} (b : Below (w.alloc (.cells cs t)).heap.size (w.alloc (.cells cs t)) w1) (i : Nat) (v : Value) (h : cs[i]? = some v) (o2 : Obj) :
    (w1.alloc o2).cell? ⟨w.heap.size, i, none⟩ = some v :=
  own_cell (b.alloc b.size o2) i v h

/-! ### Where an immediate's bits lie -/

theorem f_g (x : Int) (h : 0 ≤ x ∧ x ≤ 4294967295) (A N : Int) (ha : 0 ≤ A ∧ A ≤ 32) (hn : 0 ≤ N ∧ N ≤ 32) (w : World) :
    Calls Tryd.prog 64 #[.int .u32 x, .int .i64 A, .int .i64 N] w fun e w' => e = .returned (.int .u32 (x / 2 ^ A.toNat % 2 ^ N.toNat)) ∧ w = w' := by
  refine (field_any x A N h (by omega) w).mono ?_
  rintro e w' ⟨rfl, rfl⟩
  refine ⟨ret_int ?_, rfl⟩
  unfold fieldS mov held0
  rw [if_pos ha.1, if_neg (by omega), if_neg (by omega), Nat.min_eq_left (by omega)]
end Go.Proofs.YtcddhlepkmbkcaaDoor
