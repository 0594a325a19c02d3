/-
  What the row's own list of variables gives the walks: the table's cells; and that the program's own start meets the list.
-/
import Derived.Test.YtgamghmeefoopaaDoorRows
import Derived.Test.YtgamghmeefoopaaDoorE0
import Derived.WalkKit
import Derived.ProofKit
import Derived.LaidMore
import Derived.OpenShut
import Derived.Stop.Joined
import Derived.Stop.LaidErr
import Derived.Lib.LaidTab
import Derived.Deep.Strs
import Derived.Below
namespace Go.Proofs.YtgamghmeefoopaaDoor
open Go.ChangeShapes Go.WideShapes Go.ChangeAt Go.RowKit
set_option linter.unusedVariables false
set_option linter.unusedSimpArgs false

def bitsTab : List Int := [0, 2, 4, 6, 7, 11]

/-- What the walks ask of the world: the cells of the table that they read. -/
def Tabs (W : World) : Prop :=
  1 ≤ W.heap.size ∧
  W.cell? ⟨0, 0, none⟩ = some (.int .i64 0) ∧
  W.cell? ⟨0, 1, none⟩ = some (.int .i64 2) ∧
  W.cell? ⟨0, 2, none⟩ = some (.int .i64 4) ∧
  W.cell? ⟨0, 3, none⟩ = some (.int .i64 6) ∧
  W.cell? ⟨0, 4, none⟩ = some (.int .i64 7) ∧
  W.cell? ⟨0, 5, none⟩ = some (.int .i64 11)

theorem Tabs.below1 {W W' : World} (h : Tabs W) (b : Below 1 W W') : Tabs W' := by
  obtain ⟨h0, h1, h2, h3, h4, h5, h6⟩ := h
  refine ⟨Nat.le_trans h0 b.size, ?_, ?_, ?_, ?_, ?_, ?_⟩
  · rw [b.cell (show _ < 1 from by simp)]; exact h1
  · rw [b.cell (show _ < 1 from by simp)]; exact h2
  · rw [b.cell (show _ < 1 from by simp)]; exact h3
  · rw [b.cell (show _ < 1 from by simp)]; exact h4
  · rw [b.cell (show _ < 1 from by simp)]; exact h5
  · rw [b.cell (show _ < 1 from by simp)]; exact h6
theorem Tabs.below {W W' : World} (h : Tabs W) (b : Below W.heap.size W W') : Tabs W' := h.below1 (b.mono h.1)
theorem Tabs.but {S : List Nat} {w w' : World} (tabs : Tabs w) (h : But S w.heap.size w w') (hS : ∀ k, k ∈ S → 1 ≤ k) : Tabs w' := tabs.below1 (h.below tabs.1 hS)

theorem gFl : Tryd.prog.globalNamed "ferryman/state.flagBits" = some 0 := by kernel_rfl
theorem gFlType : (Tryd.prog.globals[0]?).map (·.type) = some 64 := by kernel_rfl

theorem of_laid {W : World} (h : laidMetH Tryd.prog Rows.stateTellsRow.laid W) : Tabs W := by
  rw [MakeChecks.laidMetH_plain _ _ _ (by kernel_rfl)] at h
  have e : Lib.TabIs Tryd.prog W "ferryman/state.flagBits" .i64 bitsTab := Lib.tabIs_of_head (rest := []) gFl gFlType Tryd.underlying64 Tryd.underlying3 (by kernel_rfl) (by kernel_rfl) h
  have k0 := e.cell gFl 0 (by decide)
  have k1 := e.cell gFl 1 (by decide)
  have k2 := e.cell gFl 2 (by decide)
  have k3 := e.cell gFl 3 (by decide)
  have k4 := e.cell gFl 4 (by decide)
  have k5 := e.cell gFl 5 (by decide)
  exact ⟨by have := size_of_cell k4; omega, k0, k1, k2, k3, k4, k5⟩

theorem door_met (os : Os) (args : Array Value) : laidMetH Tryd.prog Rows.stateTellsRow.laid ((World.doorLaid Tryd.prog 14 os).forCall (fun _ _ => 0) ⟨#[], args, []⟩).memory :=
  laidMetH_of_parts3 (fuel := 8) (laidMet_of_run' 8 (by kernel_rfl) (by kernel_rfl)) (by kernel_rfl) (by kernel_rfl)

end Go.Proofs.YtgamghmeefoopaaDoor
