/- What the laws of layer 5 know. -/
import Derived.Test.YtbalnlodkiejcaaDoorA2
namespace Go.Proofs.YtbalnlodkiejcaaDoor
open Go.RowKit
set_option linter.unusedVariables false
set_option linter.unusedSimpArgs false
set_option linter.unusedSectionVars false

theorem kn_1 (w : World) (tabs : Tabs w) : Calls Tryd.prog 8 #[.int .i64 5, .int .u32 4096] w fun e w' => ∃ B, e = .returned (.slice (some ⟨B, 0, none⟩) 1 1) ∧ Below w.heap.size w w' :=
  (const_high 5 4096 4791 (by decide) (by decide) (by kernel_rfl) (by decide +kernel) (by kernel_rfl) w tabs).mono fun e w' ⟨B, h, _, _, _, b⟩ => ⟨B, h, b⟩
theorem kn_2 (w : World) (tabs : Tabs w) : Calls Tryd.prog 8 #[.int .i64 5, .int .u32 1] w fun e w' => ∃ B, e = .returned (.slice (some ⟨B, 0, none⟩) 1 1) ∧ Below w.heap.size w w' :=
  (const_low 5 1 1049235 (by decide) (by decide) (by kernel_rfl) (by kernel_rfl) w tabs).mono fun e w' ⟨B, h, _, _, _, b⟩ => ⟨B, h, b⟩
theorem kn_3 (w : World) (tabs : Tabs w) : Calls Tryd.prog 8 #[.int .i64 5, .int .u32 5000] w fun e w' => ∃ B, e = .returned (.slice (some ⟨B, 0, none⟩) 2 2) ∧ Below w.heap.size w w' :=
  (const_both 5 5000 4791 948077203 (by decide) (by decide) (by decide +kernel) (by decide +kernel) (by kernel_rfl) (by kernel_rfl) w tabs).mono fun e w' ⟨B, h, _, _, _, _, b⟩ => ⟨B, h, b⟩
theorem kn_4 (w : World) (tabs : Tabs w) : Calls Tryd.prog 17 #[.int .u32 0, .int .u32 16777216, .int .i64 5] w fun e w' => ∃ B, e = .returned (.slice (some ⟨B, 0, none⟩) 2 2) ∧ Below w.heap.size w w' :=
  (far_any 0 16777216 16777216 5 16777879 163943 (by decide) (by decide) (by kernel_rfl) (by kernel_rfl) w tabs).mono fun e w' ⟨B, h, _, _, _, _, b⟩ => ⟨B, h, b⟩
theorem kn_5 (w : World) (tabs : Tabs w) : Calls Tryd.prog 16 #[.int .u32 1024, .int .u32 1032] w fun e w' => e = .returned (.tuple #[.int .u32 8388719, .bool true]) ∧ Below w.heap.size w w' := by
  have h := jmp_yes 1024 1032 8 (by decide +kernel) (by decide +kernel) w tabs
  rw [show encL 3 0 0 0 8 = 8388719 by kernel_rfl] at h
  exact h
theorem kn_6 (w : World) (tabs : Tabs w) : Calls Tryd.prog 16 #[.int .u32 0, .int .u32 2097152] w fun e w' => e = .returned (.tuple #[.int .u32 0, .bool false]) ∧ Below w.heap.size w w' :=
  jmp_no 0 2097152 2097152 (by decide +kernel) (by decide +kernel) w tabs
theorem kn_7 (w : World) (tabs : Tabs w) : Calls Tryd.prog 13 #[.int .u32 1024, .int .u32 8388719] w fun e w' => e = .returned (.tuple #[.int .u32 1032, .bool true]) ∧ Below w.heap.size w w' :=
  tgt_yes 1024 8388719 (by decide) 3 0 0 0 8 1032 true (by kernel_rfl) (by decide) (by decide) w tabs
theorem kn_8 (w : World) (tabs : Tabs w) : Calls Tryd.prog 14 #[.int .u32 8388719, .int .u32 1024, .int .u32 2048] w fun e w' => e = .returned (.tuple #[.int .u32 1073741935, .int .i64 0]) ∧ Below w.heap.size w w' := by
  have h := patch_yes 8388719 1024 2048 1024 (by decide) (by decide +kernel) 3 0 0 0 8 true (by kernel_rfl) (by decide) (by decide +kernel) w tabs
  rw [show encL 3 0 0 0 1024 = 1073741935 by kernel_rfl] at h
  exact h
theorem kn_9 (w : World) (tabs : Tabs w) : Calls Tryd.prog 13 #[.int .u32 1024, .int .u32 1073741935] w fun e w' => e = .returned (.tuple #[.int .u32 2048, .bool true]) ∧ Below w.heap.size w w' :=
  tgt_yes 1024 1073741935 (by decide) 3 0 0 0 1024 2048 true (by kernel_rfl) (by decide) (by decide) w tabs
theorem kn_10 (w : World) (tabs : Tabs w) : Calls Tryd.prog 14 #[.int .u32 19, .int .u32 0, .int .u32 4] w fun e w' => e = .returned (.tuple #[.int .u32 0, .int .i64 12]) ∧ Below w.heap.size w w' :=
  patch_no 19 0 4 (by decide) 19 0 0 0 0 true (by kernel_rfl) (by decide) w tabs
set_option maxHeartbeats 4000000 in
theorem kn_any (w : World) (tabs : Tabs w) : Calls Tryd.prog 7 #[] w fun e w' => e = .returned (.bool true) ∧ Below w.heap.size w w' := by
  go_enter Tryd.func7, Tryd.ntmps7
  go_wp2_with fail
  refine (kn_1 _ tabs).mono ?_
  rintro e w1 ⟨B1, rfl, b1⟩
  go_wp2_with fail
  refine (kn_5 _ (tabs.below b1)).mono ?_
  rintro e w2 ⟨rfl, c⟩
  replace b1 := b1.trans (c.mono b1.size)
  clear c
  go_wp2_with fail
  refine (kn_7 _ (tabs.below b1)).mono ?_
  rintro e w2 ⟨rfl, c⟩
  replace b1 := b1.trans (c.mono b1.size)
  clear c
  go_wp2_with fail
  refine (kn_8 _ (tabs.below b1)).mono ?_
  rintro e w2 ⟨rfl, c⟩
  replace b1 := b1.trans (c.mono b1.size)
  clear c
  go_wp2_with fail
  refine (kn_9 _ (tabs.below b1)).mono ?_
  rintro e w2 ⟨rfl, c⟩
  replace b1 := b1.trans (c.mono b1.size)
  clear c
  go_wp2_with fail
  refine (kn_6 _ (tabs.below b1)).mono ?_
  rintro e w2 ⟨rfl, c⟩
  replace b1 := b1.trans (c.mono b1.size)
  clear c
  go_wp2_with fail
  refine (kn_10 _ (tabs.below b1)).mono ?_
  rintro e w2 ⟨rfl, c⟩
  replace b1 := b1.trans (c.mono b1.size)
  clear c
  go_wp2_with fail
  refine (kn_2 _ (tabs.below b1)).mono ?_
  rintro e w2 ⟨B2, rfl, c⟩
  replace b1 := b1.trans (c.mono b1.size)
  clear c
  go_wp2_with fail
  refine (kn_3 _ (tabs.below b1)).mono ?_
  rintro e w2 ⟨B2, rfl, c⟩
  replace b1 := b1.trans (c.mono b1.size)
  clear c
  go_wp2_with fail
  refine (kn_4 _ (tabs.below b1)).mono ?_
  rintro e w2 ⟨B2, rfl, c⟩
  replace b1 := b1.trans (c.mono b1.size)
  clear c
  go_wp2_with fail
  go_ret
  exact ⟨rfl, b1⟩
end Go.Proofs.YtbalnlodkiejcaaDoor
