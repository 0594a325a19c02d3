/- What is known. -/
import Derived.Test.YtgeeecoclhomiaaDoorKA
namespace Go.Proofs.YtgeeecoclhomiaaDoor
open Go.RowKit
set_option linter.unusedVariables false
set_option linter.unusedSimpArgs false
set_option linter.unusedSectionVars false

def kF : Nat → Bool | 0 => true | 1 => true | 2 => true | 3 => true | _ => false
def kG : Nat → Bool | 0 => true | 5 => true | _ => false
theorem eqF (W : World) : (Op.equalIn 9999 24 (.agg #[.bool true, .bool true, .bool true, .bool true, .bool false, .bool false]) (.agg #[.bool true, .bool true, .bool true, .bool true, .bool false, .bool false])).run Tryd.prog W = .ok true W := by kernel_rfl
set_option maxHeartbeats 2000000 in
theorem knownA (w : World) (tabs : Tabs w) : Calls Tryd.prog 13 #[] w fun e w' => e = .returned (.bool true) ∧ Below w.heap.size w w' := by
  have kb := Below.refl w.heap.size w
  have hSB := kb.size
  go_enter Tryd.func13, Tryd.ntmps13
  go_wp2_with fail
  refine (kDo _ tabs).mono ?_
  rintro e w1 ⟨rfl, bb⟩
  replace tabs := tabs.below bb
  replace kb := kb.trans (bb.mono hSB)
  replace hSB := Nat.le_trans hSB bb.size
  clear bb
  go_wp2_with (first | (with_reducible refine store_as rfl _ _ rfl (w0 := w1) (kF) rfl rfl ?_; intro w2 kX bb; replace tabs := tabs.below bb; replace kb := kb.trans (bb.mono hSB); replace hSB := Nat.le_trans hSB bb.size; clear bb))
  generalize w1.heap.size = BX at *
  refine (kShift _ tabs).mono ?_
  rintro e w3 ⟨rfl, bb⟩
  replace kX := kX.below bb kX.lt
  replace tabs := tabs.below bb
  replace kb := kb.trans (bb.mono hSB)
  replace hSB := Nat.le_trans hSB bb.size
  clear bb
  go_wp2_with (first | (with_reducible refine store_as rfl _ _ rfl (w0 := w3) (kG) rfl rfl ?_; intro w4 kY bb; replace kX := kX.below bb kX.lt; replace tabs := tabs.below bb; replace kb := kb.trans (bb.mono hSB); replace hSB := Nat.le_trans hSB bb.size; clear bb))
  generalize w3.heap.size = BY at *
  refine (kMul _ tabs).mono ?_
  rintro e w5 ⟨rfl, bb⟩
  replace kX := kX.below bb kX.lt
  replace kY := kY.below bb kY.lt
  replace tabs := tabs.below bb
  replace kb := kb.trans (bb.mono hSB)
  replace hSB := Nat.le_trans hSB bb.size
  clear bb
  go_wp2_with (first | (with_reducible refine store_as rfl _ _ rfl (w0 := w5) (kG) rfl rfl ?_; intro w6 kZ bb; replace kX := kX.below bb kX.lt; replace kY := kY.below bb kY.lt; replace tabs := tabs.below bb; replace kb := kb.trans (bb.mono hSB); replace hSB := Nat.le_trans hSB bb.size; clear bb))
  generalize w5.heap.size = BZ at *
  refine (kDiv _).mono ?_
  rintro e w7 ⟨rfl, bb⟩
  replace kX := kX.below bb kX.lt
  replace kY := kY.below bb kY.lt
  replace kZ := kZ.below bb kZ.lt
  replace tabs := tabs.below bb
  replace kb := kb.trans (bb.mono hSB)
  replace hSB := Nat.le_trans hSB bb.size
  clear bb
  go_wp2_with fail
  refine (kDivNo _).mono ?_
  rintro e w8 ⟨rfl, bb⟩
  replace kX := kX.below bb kX.lt
  replace kY := kY.below bb kY.lt
  replace kZ := kZ.below bb kZ.lt
  replace tabs := tabs.below bb
  replace kb := kb.trans (bb.mono hSB)
  replace hSB := Nat.le_trans hSB bb.size
  clear bb
  have x0 := kX.cell (i := 0) (v := .bool true) rfl
  have x1 := kX.cell (i := 1) (v := .bool true) rfl
  have x2 := kX.cell (i := 2) (v := .bool true) rfl
  have x3 := kX.cell (i := 3) (v := .bool true) rfl
  have x4 := kX.cell (i := 4) (v := .bool false) rfl
  have x5 := kX.cell (i := 5) (v := .bool false) rfl
  have y0 := kY.cell (i := 0) (v := .bool true) rfl
  have y1 := kY.cell (i := 1) (v := .bool false) rfl
  have y2 := kY.cell (i := 2) (v := .bool false) rfl
  have y3 := kY.cell (i := 3) (v := .bool false) rfl
  have y4 := kY.cell (i := 4) (v := .bool false) rfl
  have y5 := kY.cell (i := 5) (v := .bool true) rfl
  have z0 := kZ.cell (i := 0) (v := .bool true) rfl
  have z1 := kZ.cell (i := 1) (v := .bool false) rfl
  have z2 := kZ.cell (i := 2) (v := .bool false) rfl
  have z3 := kZ.cell (i := 3) (v := .bool false) rfl
  have z4 := kZ.cell (i := 4) (v := .bool false) rfl
  have z5 := kZ.cell (i := 5) (v := .bool true) rfl
  have hE := eqF
  go_wp2_with (first | (with_reducible refine (kWrites _ tabs).mono ?_; rintro e wA ⟨rfl, bb⟩; replace kX := kX.below bb kX.lt; replace kY := kY.below bb kY.lt; replace kZ := kZ.below bb kZ.lt; replace tabs := tabs.below bb; replace kb := kb.trans (bb.mono hSB); replace hSB := Nat.le_trans hSB bb.size; clear bb) | (with_reducible refine (kReads _ tabs).mono ?_; rintro e wB ⟨rfl, bb⟩; replace kX := kX.below bb kX.lt; replace kY := kY.below bb kY.lt; replace kZ := kZ.below bb kZ.lt; replace tabs := tabs.below bb; replace kb := kb.trans (bb.mono hSB); replace hSB := Nat.le_trans hSB bb.size; clear bb))
  go_ret
  exact ⟨rfl, kb⟩
end Go.Proofs.YtgeeecoclhomiaaDoor
