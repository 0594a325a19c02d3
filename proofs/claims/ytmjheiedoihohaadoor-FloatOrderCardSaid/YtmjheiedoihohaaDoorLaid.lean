/-
  What the row's own list of variables gives the walks: the tables' cells; and that the program's own start meets the list.
-/
import Derived.Test.YtmjheiedoihohaaDoorRows
import Derived.WalkKit
import Derived.ProofKit
import Derived.LaidMore
import Derived.OpenShut
import Derived.Stop.Joined
import Derived.Stop.LaidErr
import Derived.Lib.LaidTab
import Derived.Below
namespace Go.Proofs.YtmjheiedoihohaaDoor
open Go.ChangeShapes Go.WideShapes Go.ChangeAt Go.RowKit
set_option linter.unusedVariables false

def edgesTab : List Int := [1, 4503599627370496, 9218868437227405312, 9218868437227405313]
def bruijn64 : List Int := [0, 1, 56, 2, 57, 49, 28, 3, 61, 58, 42, 50, 38, 29, 17, 4, 62, 47, 59, 36, 45, 43, 51, 22, 53, 39, 33, 30, 24, 18, 12, 5, 63, 55, 48, 27, 60, 41, 37, 16, 46, 35, 44, 21, 52, 32, 23, 11, 54, 26, 40, 15, 34, 20, 31, 10, 25, 14, 19, 9, 13, 8, 7, 6]

/-- What the walks ask of the world: the cells of the tables that they read. -/
def Tabs (W : World) : Prop :=
  5 ≤ W.heap.size ∧
  W.cell? ⟨0, 0, none⟩ = some (.int .u64 1) ∧
  W.cell? ⟨0, 1, none⟩ = some (.int .u64 4503599627370496) ∧
  W.cell? ⟨0, 2, none⟩ = some (.int .u64 9218868437227405312) ∧
  W.cell? ⟨0, 3, none⟩ = some (.int .u64 9218868437227405313) ∧
  W.cell? ⟨4, 15, none⟩ = some (.int .u8 4)

theorem size_of_cell {W : World} {b o : Nat} {v : Value} (h : W.cell? ⟨b, o, none⟩ = some v) : b < W.heap.size := by
  rcases Nat.lt_or_ge b W.heap.size with hb | hb
  · exact hb
  · simp [World.cell?, Array.getElem?_eq_none hb] at h

theorem Tabs.below {W W' : World} (h : Tabs W) (b : Below W.heap.size W W') : Tabs W' := by
  obtain ⟨h0, h1, h2, h3, h4, h5⟩ := h
  refine ⟨Nat.le_trans h0 b.size, ?_, ?_, ?_, ?_, ?_⟩
  · rw [b.cell (Nat.lt_of_lt_of_le (by decide) h0)]; exact h1
  · rw [b.cell (Nat.lt_of_lt_of_le (by decide) h0)]; exact h2
  · rw [b.cell (Nat.lt_of_lt_of_le (by decide) h0)]; exact h3
  · rw [b.cell (Nat.lt_of_lt_of_le (by decide) h0)]; exact h4
  · rw [b.cell (Nat.lt_of_lt_of_le (by decide) h0)]; exact h5

theorem gEdges : Tryd.prog.globalNamed "ferryman/float.edges" = some 0 := by kernel_rfl
theorem gEdgesType : (Tryd.prog.globals[0]?).map (·.type) = some 45 := by kernel_rfl
theorem gBr : Tryd.prog.globalNamed "math/bits.deBruijn64tab" = some 4 := by kernel_rfl
theorem gBrType : (Tryd.prog.globals[4]?).map (·.type) = some 62 := by kernel_rfl

theorem of_laid {W : World} (h : laidMetH Tryd.prog Rows.floatTellsRow.laid W) : Tabs W := by
  rw [MakeChecks.laidMetH_plain _ _ _ (by kernel_rfl)] at h
  have h1 := laidMet.tail h
  have h2 := laidMet.tail (laidMet.tail h1)
  have e : Lib.TabIs Tryd.prog W "ferryman/float.edges" .u64 edgesTab := Lib.tabIs_of_head (rest := []) gEdges gEdgesType Tryd.underlying45 Tryd.underlying22 (by kernel_rfl) (by kernel_rfl) h2
  have d : Lib.TabIs Tryd.prog W "math/bits.deBruijn64tab" .u8 bruijn64 := Lib.tabIs_of_head (zs := bruijn64) gBr gBrType Tryd.underlying62 Tryd.underlying5 (by kernel_rfl) (by kernel_rfl) h1
  have k0 := e.cell gEdges 0 (by decide)
  have k1 := e.cell gEdges 1 (by decide)
  have k2 := e.cell gEdges 2 (by decide)
  have k3 := e.cell gEdges 3 (by decide)
  have k4 := d.cell gBr 15 (by decide)
  exact ⟨by have := size_of_cell k4; omega, k0, k1, k2, k3, k4⟩

theorem door_met (os : Os) (args : Array Value) : laidMetH Tryd.prog Rows.floatTellsRow.laid ((World.doorLaid Tryd.prog 29 os).forCall (fun _ _ => 0) ⟨#[], args, []⟩).memory :=
  laidMetH_of_parts3 (fuel := 8) (laidMet_of_run' 8 (by kernel_rfl) (by kernel_rfl)) (by kernel_rfl) (by kernel_rfl)

end Go.Proofs.YtmjheiedoihohaaDoor
