/- What is known. -/
import Derived.Test.YtobllhibicjbcaaDoorC5
import Derived.Deep.CutRange
import Derived.Deep.RegionHeld
import Derived.Deep.RegionWith
namespace Go.Proofs.YtobllhibicjbcaaDoor
open Go.RowKit
set_option linter.unusedVariables false
set_option linter.unusedSimpArgs false
set_option linter.unusedSectionVars false

theorem reg_any (r : Int) (w : World) : Calls Tryd.prog 10 #[.int .i64 r] w fun e w' => e = .returned (.agg #[.int .i64 1, .int .i64 r, .int .u32 0, .int .i64 0, .int .i64 0, .int .u32 0]) ∧ Below w.heap.size w w' := by
  go_enter Tryd.func10, Tryd.ntmps10
  go_wp2
  refine bodyPost_ret (v := .agg #[.int .i64 1, .int .i64 r, .int .u32 0, .int .i64 0, .int .i64 0, .int .u32 0]) (by simp [results, Tryd.results10, go_sem]) rfl ⟨rfl, ?_⟩
  exact (Below.refl _ _).alloc (Nat.le_refl _) _
theorem kW3 (w : World) (tabs : Tabs w) : Calls Tryd.prog 18 #[.int .i64 3] w fun e w' => e = .returned (.int .i64 63) ∧ Below w.heap.size w w' :=
  (Writes_any 3 1 (by decide) classOf_3 w tabs).mono fun e w' h => ⟨h.1.trans (by kernel_rfl), h.2⟩
theorem kR33 (w : World) (tabs : Tabs w) : Calls Tryd.prog 19 #[.int .i64 33] w fun e w' => e = .returned (.int .i64 63) ∧ Below w.heap.size w w' :=
  (Reads_any 33 7 (by decide) classOf_33 w tabs).mono fun e w' h => ⟨h.1.trans (by kernel_rfl), h.2⟩
theorem kIsA (w : World) (tabs : Tabs w) : Calls Tryd.prog 8 #[.agg #[.int .i64 3, .int .i64 0, .int .i64 1, .int .i64 0, .int .u32 0, .int .i64 0, .int .i64 0, .int .u32 0, .int .i64 3, .int .i64 0, .int .u32 4, .int .i64 3, .int .i64 (-1), .int .u32 1, .bool false, .int .i64 3]] w fun e w' => e = .returned (.bool true) ∧ Below w.heap.size w w' :=
  (Is_any ⟨3, 0, ⟨1, 0, 0, 0, 0, 0⟩, ⟨3, 0, 4, 3, (-1), 1⟩, false, 3⟩ w tabs).mono fun e w' q => ⟨q.1.trans (by kernel_rfl), q.2⟩
theorem kIsM (w : World) (tabs : Tabs w) : Calls Tryd.prog 8 #[.agg #[.int .i64 3, .int .i64 0, .int .i64 3, .int .i64 0, .int .u32 4, .int .i64 3, .int .i64 (-1), .int .u32 1, .int .i64 3, .int .i64 0, .int .u32 4, .int .i64 3, .int .i64 (-1), .int .u32 1, .bool false, .int .i64 0]] w fun e w' => e = .returned (.bool false) ∧ Below w.heap.size w w' :=
  (Is_any ⟨3, 0, ⟨3, 0, 4, 3, (-1), 1⟩, ⟨3, 0, 4, 3, (-1), 1⟩, false, 0⟩ w tabs).mono fun e w' q => ⟨q.1.trans (by kernel_rfl), q.2⟩
theorem kIsZ (w : World) (tabs : Tabs w) : Calls Tryd.prog 8 #[.agg #[.int .i64 0, .int .i64 0, .int .i64 0, .int .i64 0, .int .u32 0, .int .i64 0, .int .i64 0, .int .u32 0, .int .i64 0, .int .i64 0, .int .u32 0, .int .i64 0, .int .i64 0, .int .u32 0, .bool false, .int .i64 0]] w fun e w' => e = .returned (.bool false) ∧ Below w.heap.size w w' :=
  (Is_any ⟨0, 0, ⟨0, 0, 0, 0, 0, 0⟩, ⟨0, 0, 0, 0, 0, 0⟩, false, 0⟩ w tabs).mono fun e w' q => ⟨q.1.trans (by kernel_rfl), q.2⟩
theorem kTou (w : World) (tabs : Tabs w) : Calls Tryd.prog 9 #[.agg #[.int .i64 3, .int .i64 0, .int .i64 1, .int .i64 0, .int .u32 0, .int .i64 0, .int .i64 0, .int .u32 0, .int .i64 3, .int .i64 0, .int .u32 4, .int .i64 3, .int .i64 (-1), .int .u32 1, .bool false, .int .i64 3]] w fun e w' => e = .returned (.bool true) ∧ Below w.heap.size w w' :=
  (Touches_any ⟨3, 0, ⟨1, 0, 0, 0, 0, 0⟩, ⟨3, 0, 4, 3, (-1), 1⟩, false, 3⟩ w tabs).mono fun e w' q => ⟨q.1.trans (by kernel_rfl), q.2⟩
theorem kEnA (w : World) (tabs : Tabs w) : Calls Tryd.prog 12 #[.agg #[.int .i64 3, .int .i64 0, .int .i64 1, .int .i64 0, .int .u32 0, .int .i64 0, .int .i64 0, .int .u32 0, .int .i64 3, .int .i64 0, .int .u32 4, .int .i64 3, .int .i64 (-1), .int .u32 1, .bool false, .int .i64 3]] w fun e w' => e = .returned (.bool false) ∧ Below w.heap.size w w' :=
  (Ends_any ⟨3, 0, ⟨1, 0, 0, 0, 0, 0⟩, ⟨3, 0, 4, 3, (-1), 1⟩, false, 3⟩ w tabs).mono fun e w' q => ⟨q.1.trans (by kernel_rfl), q.2⟩
theorem kEnR (w : World) (tabs : Tabs w) : Calls Tryd.prog 12 #[.agg #[.int .i64 31, .int .i64 0, .int .i64 0, .int .i64 0, .int .u32 0, .int .i64 0, .int .i64 0, .int .u32 0, .int .i64 0, .int .i64 0, .int .u32 0, .int .i64 0, .int .i64 0, .int .u32 0, .bool false, .int .i64 0]] w fun e w' => e = .returned (.bool true) ∧ Below w.heap.size w w' :=
  (Ends_any ⟨31, 0, ⟨0, 0, 0, 0, 0, 0⟩, ⟨0, 0, 0, 0, 0, 0⟩, false, 0⟩ w tabs).mono fun e w' q => ⟨q.1.trans (by kernel_rfl), q.2⟩
theorem kSame (w : World) : Calls Tryd.prog 11 #[.agg #[.int .i64 3, .int .i64 0, .int .i64 1, .int .i64 0, .int .u32 0, .int .i64 0, .int .i64 0, .int .u32 0, .int .i64 3, .int .i64 0, .int .u32 4, .int .i64 3, .int .i64 (-1), .int .u32 1, .bool false, .int .i64 3], .agg #[.int .i64 3, .int .i64 0, .int .i64 1, .int .i64 0, .int .u32 0, .int .i64 0, .int .i64 0, .int .u32 0, .int .i64 3, .int .i64 0, .int .u32 4, .int .i64 3, .int .i64 (-1), .int .u32 1, .bool false, .int .i64 5]] w fun e w' => e = .returned (.bool true) ∧ Below w.heap.size w w' := by
  go_enter Tryd.func11, Tryd.ntmps11
  go_wp2
  go_ret
  refine ⟨rfl, ?_⟩
  exact ((Below.refl _ _).alloc (Nat.le_refl _) _).alloc (by simp) _
theorem kWrA (w : World) (tabs : Tabs w) : Calls Tryd.prog 13 #[.agg #[.int .i64 3, .int .i64 0, .int .i64 1, .int .i64 0, .int .u32 0, .int .i64 0, .int .i64 0, .int .u32 0, .int .i64 3, .int .i64 0, .int .u32 4, .int .i64 3, .int .i64 (-1), .int .u32 1, .bool false, .int .i64 3]] w fun e w' => e = .returned (.int .i64 63) ∧ Below w.heap.size w w' := by
  have kb := (Below.refl w.heap.size w).alloc (Nat.le_refl _) (.cells #[.int .i64 3, .int .i64 0, .int .i64 1, .int .i64 0, .int .u32 0, .int .i64 0, .int .i64 0, .int .u32 0, .int .i64 3, .int .i64 0, .int .u32 4, .int .i64 3, .int .i64 (-1), .int .u32 1, .bool false, .int .i64 3] 26)
  have tabs2 := tabs.below kb
  have q := Lib.hid (kW3 _ tabs2)
  clear tabs2
  go_enter Tryd.func13, Tryd.ntmps13
  go_wp2_with (refine q.out.mono ?_; rintro e w1 ⟨rfl, bb⟩)
  go_ret
  exact ⟨rfl, kb.trans (bb.mono (by simp))⟩
theorem kReJ (w : World) (tabs : Tabs w) : Calls Tryd.prog 14 #[.agg #[.int .i64 33, .int .i64 0, .int .i64 2, .int .i64 0, .int .u32 0, .int .i64 0, .int .i64 0, .int .u32 0, .int .i64 0, .int .i64 0, .int .u32 0, .int .i64 0, .int .i64 0, .int .u32 0, .bool false, .int .i64 0]] w fun e w' => e = .returned (.int .i64 63) ∧ Below w.heap.size w w' := by
  have kb := (Below.refl w.heap.size w).alloc (Nat.le_refl _) (.cells #[.int .i64 33, .int .i64 0, .int .i64 2, .int .i64 0, .int .u32 0, .int .i64 0, .int .i64 0, .int .u32 0, .int .i64 0, .int .i64 0, .int .u32 0, .int .i64 0, .int .i64 0, .int .u32 0, .bool false, .int .i64 0] 26)
  have tabs2 := tabs.below kb
  have q := Lib.hid (kR33 _ tabs2)
  clear tabs2
  go_enter Tryd.func14, Tryd.ntmps14
  go_wp2_with (refine q.out.mono ?_; rintro e w1 ⟨rfl, bb⟩)
  go_ret
  exact ⟨rfl, kb.trans (bb.mono (by simp))⟩
end Go.Proofs.YtobllhibicjbcaaDoor

