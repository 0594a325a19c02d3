import Derived.Test.YtoeohfbicnolhaaDoorM1
import Derived.Test.YtoeohfbicnolhaaDoorR5
namespace Go.Proofs.YtoeohfbicnolhaaDoor
open Go.RowKit
set_option linter.unusedVariables false
set_option linter.unusedSimpArgs false
set_option linter.unusedSectionVars false

set_option maxHeartbeats 4000000 in
theorem apart_true_false (op d s t i op' d' s' t' i' : Int) (hi : -2147483648 ≤ i ∧ i ≤ 2147483647) (hi' : -2147483648 ≤ i' ∧ i' ≤ 2147483647) (hl : isL op d s t i = true) (hl' : isL op' d' s' t' i' = false)  (w : World) (tabs : Tabs w) :
    Calls Tryd.prog 6 #[wordV op d s t i, wordV op' d' s' t' i'] w fun e w' => e = .returned (.bool true) ∧ Below w.heap.size w w' := by
  have he := fun w tb => enc_true hl w tb
  have he' := fun w tb => enc_false hl' w tb
  clear hl hl'
  go_enter Tryd.func6, Tryd.ntmps6
  go_wp2_with fail
  replace tabs := tabs.below ((Below.refl w.heap.size w).alloc (Nat.le_refl _) (.cells #[.int .i64 (op), .int .i64 (d), .int .i64 (s), .int .i64 (t), .int .i32 (i)] 23))
  have b1 := (Below.refl w.heap.size w).alloc (Nat.le_refl _) (.cells #[.int .i64 (op), .int .i64 (d), .int .i64 (s), .int .i64 (t), .int .i32 (i)] 23)
  have k0 := Below.refl ((w).alloc (.cells #[.int .i64 (op), .int .i64 (d), .int .i64 (s), .int .i64 (t), .int .i32 (i)] 23)).heap.size ((w).alloc (.cells #[.int .i64 (op), .int .i64 (d), .int .i64 (s), .int .i64 (t), .int .i32 (i)] 23))
  replace tabs := tabs.below ((Below.refl ((w).alloc (.cells #[.int .i64 (op), .int .i64 (d), .int .i64 (s), .int .i64 (t), .int .i32 (i)] 23)).heap.size ((w).alloc (.cells #[.int .i64 (op), .int .i64 (d), .int .i64 (s), .int .i64 (t), .int .i32 (i)] 23))).alloc (Nat.le_refl _) (.cells #[.int .i64 (op'), .int .i64 (d'), .int .i64 (s'), .int .i64 (t'), .int .i32 (i')] 23))
  replace b1 := b1.alloc b1.size (.cells #[.int .i64 (op'), .int .i64 (d'), .int .i64 (s'), .int .i64 (t'), .int .i32 (i')] 23)
  replace k0 := k0.alloc k0.size (.cells #[.int .i64 (op'), .int .i64 (d'), .int .i64 (s'), .int .i64 (t'), .int .i32 (i')] 23)
  have k1 := Below.refl ((((w).alloc (.cells #[.int .i64 (op), .int .i64 (d), .int .i64 (s), .int .i64 (t), .int .i32 (i)] 23))).alloc (.cells #[.int .i64 (op'), .int .i64 (d'), .int .i64 (s'), .int .i64 (t'), .int .i32 (i')] 23)).heap.size ((((w).alloc (.cells #[.int .i64 (op), .int .i64 (d), .int .i64 (s), .int .i64 (t), .int .i32 (i)] 23))).alloc (.cells #[.int .i64 (op'), .int .i64 (d'), .int .i64 (s'), .int .i64 (t'), .int .i32 (i')] 23))
  refine (known_any _ tabs).mono ?_
  rintro e W0 ⟨rfl, bZ⟩
  replace b1 := b1.trans (bZ.mono b1.size)
  replace tabs := tabs.below bZ
  replace k0 := k0.trans (bZ.mono k0.size)
  replace k1 := k1.trans (bZ.mono k1.size)
  clear bZ
  have k0c0 : W0.cell? ⟨(w).heap.size, 0, none⟩ = some (.int .i64 (op)) := own_cell k0 0 _ rfl
  have k0c0a : ∀ o, (W0.alloc o).cell? ⟨(w).heap.size, 0, none⟩ = some (.int .i64 (op)) := own_cell2 k0 0 _ rfl
  have k0c1 : W0.cell? ⟨(w).heap.size, 1, none⟩ = some (.int .i64 (d)) := own_cell k0 1 _ rfl
  have k0c1a : ∀ o, (W0.alloc o).cell? ⟨(w).heap.size, 1, none⟩ = some (.int .i64 (d)) := own_cell2 k0 1 _ rfl
  have k0c2 : W0.cell? ⟨(w).heap.size, 2, none⟩ = some (.int .i64 (s)) := own_cell k0 2 _ rfl
  have k0c2a : ∀ o, (W0.alloc o).cell? ⟨(w).heap.size, 2, none⟩ = some (.int .i64 (s)) := own_cell2 k0 2 _ rfl
  have k0c3 : W0.cell? ⟨(w).heap.size, 3, none⟩ = some (.int .i64 (t)) := own_cell k0 3 _ rfl
  have k0c3a : ∀ o, (W0.alloc o).cell? ⟨(w).heap.size, 3, none⟩ = some (.int .i64 (t)) := own_cell2 k0 3 _ rfl
  have k0c4 : W0.cell? ⟨(w).heap.size, 4, none⟩ = some (.int .i32 (i)) := own_cell k0 4 _ rfl
  have k0c4a : ∀ o, (W0.alloc o).cell? ⟨(w).heap.size, 4, none⟩ = some (.int .i32 (i)) := own_cell2 k0 4 _ rfl
  have k1c0 : W0.cell? ⟨w.heap.size + 1, 0, none⟩ = some (.int .i64 (op')) := by have h := own_cell k1 0 _ rfl; simpa using h
  have k1c1 : W0.cell? ⟨w.heap.size + 1, 1, none⟩ = some (.int .i64 (d')) := by have h := own_cell k1 1 _ rfl; simpa using h
  have k1c2 : W0.cell? ⟨w.heap.size + 1, 2, none⟩ = some (.int .i64 (s')) := by have h := own_cell k1 2 _ rfl; simpa using h
  have k1c3 : W0.cell? ⟨w.heap.size + 1, 3, none⟩ = some (.int .i64 (t')) := by have h := own_cell k1 3 _ rfl; simpa using h
  have k1c4 : W0.cell? ⟨w.heap.size + 1, 4, none⟩ = some (.int .i32 (i')) := by have h := own_cell k1 4 _ rfl; simpa using h
  go_wp2_with fail
  clear k0c0 k0c0a k0c1 k0c1a k0c2 k0c2a k0c3 k0c3a k0c4 k0c4a k1c0 k1c1 k1c2 k1c3 k1c4
  refine (he _ tabs).mono ?_
  rintro e W1 ⟨rfl, bZ⟩
  replace b1 := b1.trans (bZ.mono b1.size)
  replace tabs := tabs.below bZ
  replace k0 := k0.trans (bZ.mono k0.size)
  replace k1 := k1.trans (bZ.mono k1.size)
  clear bZ
  have k0c0 : W1.cell? ⟨(w).heap.size, 0, none⟩ = some (.int .i64 (op)) := own_cell k0 0 _ rfl
  have k0c0a : ∀ o, (W1.alloc o).cell? ⟨(w).heap.size, 0, none⟩ = some (.int .i64 (op)) := own_cell2 k0 0 _ rfl
  have k0c1 : W1.cell? ⟨(w).heap.size, 1, none⟩ = some (.int .i64 (d)) := own_cell k0 1 _ rfl
  have k0c1a : ∀ o, (W1.alloc o).cell? ⟨(w).heap.size, 1, none⟩ = some (.int .i64 (d)) := own_cell2 k0 1 _ rfl
  have k0c2 : W1.cell? ⟨(w).heap.size, 2, none⟩ = some (.int .i64 (s)) := own_cell k0 2 _ rfl
  have k0c2a : ∀ o, (W1.alloc o).cell? ⟨(w).heap.size, 2, none⟩ = some (.int .i64 (s)) := own_cell2 k0 2 _ rfl
  have k0c3 : W1.cell? ⟨(w).heap.size, 3, none⟩ = some (.int .i64 (t)) := own_cell k0 3 _ rfl
  have k0c3a : ∀ o, (W1.alloc o).cell? ⟨(w).heap.size, 3, none⟩ = some (.int .i64 (t)) := own_cell2 k0 3 _ rfl
  have k0c4 : W1.cell? ⟨(w).heap.size, 4, none⟩ = some (.int .i32 (i)) := own_cell k0 4 _ rfl
  have k0c4a : ∀ o, (W1.alloc o).cell? ⟨(w).heap.size, 4, none⟩ = some (.int .i32 (i)) := own_cell2 k0 4 _ rfl
  have k1c0 : W1.cell? ⟨w.heap.size + 1, 0, none⟩ = some (.int .i64 (op')) := by have h := own_cell k1 0 _ rfl; simpa using h
  have k1c1 : W1.cell? ⟨w.heap.size + 1, 1, none⟩ = some (.int .i64 (d')) := by have h := own_cell k1 1 _ rfl; simpa using h
  have k1c2 : W1.cell? ⟨w.heap.size + 1, 2, none⟩ = some (.int .i64 (s')) := by have h := own_cell k1 2 _ rfl; simpa using h
  have k1c3 : W1.cell? ⟨w.heap.size + 1, 3, none⟩ = some (.int .i64 (t')) := by have h := own_cell k1 3 _ rfl; simpa using h
  have k1c4 : W1.cell? ⟨w.heap.size + 1, 4, none⟩ = some (.int .i32 (i')) := by have h := own_cell k1 4 _ rfl; simpa using h
  go_wp2_with fail
  clear k0c0 k0c0a k0c1 k0c1a k0c2 k0c2a k0c3 k0c3a k0c4 k0c4a k1c0 k1c1 k1c2 k1c3 k1c4
  refine (he' _ tabs).mono ?_
  rintro e W2 ⟨rfl, bZ⟩
  replace b1 := b1.trans (bZ.mono b1.size)
  replace tabs := tabs.below bZ
  replace k0 := k0.trans (bZ.mono k0.size)
  replace k1 := k1.trans (bZ.mono k1.size)
  clear bZ
  have k0c0 : W2.cell? ⟨(w).heap.size, 0, none⟩ = some (.int .i64 (op)) := own_cell k0 0 _ rfl
  have k0c0a : ∀ o, (W2.alloc o).cell? ⟨(w).heap.size, 0, none⟩ = some (.int .i64 (op)) := own_cell2 k0 0 _ rfl
  have k0c1 : W2.cell? ⟨(w).heap.size, 1, none⟩ = some (.int .i64 (d)) := own_cell k0 1 _ rfl
  have k0c1a : ∀ o, (W2.alloc o).cell? ⟨(w).heap.size, 1, none⟩ = some (.int .i64 (d)) := own_cell2 k0 1 _ rfl
  have k0c2 : W2.cell? ⟨(w).heap.size, 2, none⟩ = some (.int .i64 (s)) := own_cell k0 2 _ rfl
  have k0c2a : ∀ o, (W2.alloc o).cell? ⟨(w).heap.size, 2, none⟩ = some (.int .i64 (s)) := own_cell2 k0 2 _ rfl
  have k0c3 : W2.cell? ⟨(w).heap.size, 3, none⟩ = some (.int .i64 (t)) := own_cell k0 3 _ rfl
  have k0c3a : ∀ o, (W2.alloc o).cell? ⟨(w).heap.size, 3, none⟩ = some (.int .i64 (t)) := own_cell2 k0 3 _ rfl
  have k0c4 : W2.cell? ⟨(w).heap.size, 4, none⟩ = some (.int .i32 (i)) := own_cell k0 4 _ rfl
  have k0c4a : ∀ o, (W2.alloc o).cell? ⟨(w).heap.size, 4, none⟩ = some (.int .i32 (i)) := own_cell2 k0 4 _ rfl
  have k1c0 : W2.cell? ⟨w.heap.size + 1, 0, none⟩ = some (.int .i64 (op')) := by have h := own_cell k1 0 _ rfl; simpa using h
  have k1c1 : W2.cell? ⟨w.heap.size + 1, 1, none⟩ = some (.int .i64 (d')) := by have h := own_cell k1 1 _ rfl; simpa using h
  have k1c2 : W2.cell? ⟨w.heap.size + 1, 2, none⟩ = some (.int .i64 (s')) := by have h := own_cell k1 2 _ rfl; simpa using h
  have k1c3 : W2.cell? ⟨w.heap.size + 1, 3, none⟩ = some (.int .i64 (t')) := by have h := own_cell k1 3 _ rfl; simpa using h
  have k1c4 : W2.cell? ⟨w.heap.size + 1, 4, none⟩ = some (.int .i32 (i')) := by have h := own_cell k1 4 _ rfl; simpa using h
  go_wp2_with fail
  go_ret
  exact ⟨rfl, b1⟩
set_option maxHeartbeats 4000000 in
theorem apart_false_true (op d s t i op' d' s' t' i' : Int) (hi : -2147483648 ≤ i ∧ i ≤ 2147483647) (hi' : -2147483648 ≤ i' ∧ i' ≤ 2147483647) (hl : isL op d s t i = false) (hl' : isL op' d' s' t' i' = true)  (w : World) (tabs : Tabs w) :
    Calls Tryd.prog 6 #[wordV op d s t i, wordV op' d' s' t' i'] w fun e w' => e = .returned (.bool true) ∧ Below w.heap.size w w' := by
  have he := fun w tb => enc_false hl w tb
  have he' := fun w tb => enc_true hl' w tb
  clear hl hl'
  go_enter Tryd.func6, Tryd.ntmps6
  go_wp2_with fail
  replace tabs := tabs.below ((Below.refl w.heap.size w).alloc (Nat.le_refl _) (.cells #[.int .i64 (op), .int .i64 (d), .int .i64 (s), .int .i64 (t), .int .i32 (i)] 23))
  have b1 := (Below.refl w.heap.size w).alloc (Nat.le_refl _) (.cells #[.int .i64 (op), .int .i64 (d), .int .i64 (s), .int .i64 (t), .int .i32 (i)] 23)
  have k0 := Below.refl ((w).alloc (.cells #[.int .i64 (op), .int .i64 (d), .int .i64 (s), .int .i64 (t), .int .i32 (i)] 23)).heap.size ((w).alloc (.cells #[.int .i64 (op), .int .i64 (d), .int .i64 (s), .int .i64 (t), .int .i32 (i)] 23))
  replace tabs := tabs.below ((Below.refl ((w).alloc (.cells #[.int .i64 (op), .int .i64 (d), .int .i64 (s), .int .i64 (t), .int .i32 (i)] 23)).heap.size ((w).alloc (.cells #[.int .i64 (op), .int .i64 (d), .int .i64 (s), .int .i64 (t), .int .i32 (i)] 23))).alloc (Nat.le_refl _) (.cells #[.int .i64 (op'), .int .i64 (d'), .int .i64 (s'), .int .i64 (t'), .int .i32 (i')] 23))
  replace b1 := b1.alloc b1.size (.cells #[.int .i64 (op'), .int .i64 (d'), .int .i64 (s'), .int .i64 (t'), .int .i32 (i')] 23)
  replace k0 := k0.alloc k0.size (.cells #[.int .i64 (op'), .int .i64 (d'), .int .i64 (s'), .int .i64 (t'), .int .i32 (i')] 23)
  have k1 := Below.refl ((((w).alloc (.cells #[.int .i64 (op), .int .i64 (d), .int .i64 (s), .int .i64 (t), .int .i32 (i)] 23))).alloc (.cells #[.int .i64 (op'), .int .i64 (d'), .int .i64 (s'), .int .i64 (t'), .int .i32 (i')] 23)).heap.size ((((w).alloc (.cells #[.int .i64 (op), .int .i64 (d), .int .i64 (s), .int .i64 (t), .int .i32 (i)] 23))).alloc (.cells #[.int .i64 (op'), .int .i64 (d'), .int .i64 (s'), .int .i64 (t'), .int .i32 (i')] 23))
  refine (known_any _ tabs).mono ?_
  rintro e W0 ⟨rfl, bZ⟩
  replace b1 := b1.trans (bZ.mono b1.size)
  replace tabs := tabs.below bZ
  replace k0 := k0.trans (bZ.mono k0.size)
  replace k1 := k1.trans (bZ.mono k1.size)
  clear bZ
  have k0c0 : W0.cell? ⟨(w).heap.size, 0, none⟩ = some (.int .i64 (op)) := own_cell k0 0 _ rfl
  have k0c0a : ∀ o, (W0.alloc o).cell? ⟨(w).heap.size, 0, none⟩ = some (.int .i64 (op)) := own_cell2 k0 0 _ rfl
  have k0c1 : W0.cell? ⟨(w).heap.size, 1, none⟩ = some (.int .i64 (d)) := own_cell k0 1 _ rfl
  have k0c1a : ∀ o, (W0.alloc o).cell? ⟨(w).heap.size, 1, none⟩ = some (.int .i64 (d)) := own_cell2 k0 1 _ rfl
  have k0c2 : W0.cell? ⟨(w).heap.size, 2, none⟩ = some (.int .i64 (s)) := own_cell k0 2 _ rfl
  have k0c2a : ∀ o, (W0.alloc o).cell? ⟨(w).heap.size, 2, none⟩ = some (.int .i64 (s)) := own_cell2 k0 2 _ rfl
  have k0c3 : W0.cell? ⟨(w).heap.size, 3, none⟩ = some (.int .i64 (t)) := own_cell k0 3 _ rfl
  have k0c3a : ∀ o, (W0.alloc o).cell? ⟨(w).heap.size, 3, none⟩ = some (.int .i64 (t)) := own_cell2 k0 3 _ rfl
  have k0c4 : W0.cell? ⟨(w).heap.size, 4, none⟩ = some (.int .i32 (i)) := own_cell k0 4 _ rfl
  have k0c4a : ∀ o, (W0.alloc o).cell? ⟨(w).heap.size, 4, none⟩ = some (.int .i32 (i)) := own_cell2 k0 4 _ rfl
  have k1c0 : W0.cell? ⟨w.heap.size + 1, 0, none⟩ = some (.int .i64 (op')) := by have h := own_cell k1 0 _ rfl; simpa using h
  have k1c1 : W0.cell? ⟨w.heap.size + 1, 1, none⟩ = some (.int .i64 (d')) := by have h := own_cell k1 1 _ rfl; simpa using h
  have k1c2 : W0.cell? ⟨w.heap.size + 1, 2, none⟩ = some (.int .i64 (s')) := by have h := own_cell k1 2 _ rfl; simpa using h
  have k1c3 : W0.cell? ⟨w.heap.size + 1, 3, none⟩ = some (.int .i64 (t')) := by have h := own_cell k1 3 _ rfl; simpa using h
  have k1c4 : W0.cell? ⟨w.heap.size + 1, 4, none⟩ = some (.int .i32 (i')) := by have h := own_cell k1 4 _ rfl; simpa using h
  go_wp2_with fail
  clear k0c0 k0c0a k0c1 k0c1a k0c2 k0c2a k0c3 k0c3a k0c4 k0c4a k1c0 k1c1 k1c2 k1c3 k1c4
  refine (he _ tabs).mono ?_
  rintro e W1 ⟨rfl, bZ⟩
  replace b1 := b1.trans (bZ.mono b1.size)
  replace tabs := tabs.below bZ
  replace k0 := k0.trans (bZ.mono k0.size)
  replace k1 := k1.trans (bZ.mono k1.size)
  clear bZ
  have k0c0 : W1.cell? ⟨(w).heap.size, 0, none⟩ = some (.int .i64 (op)) := own_cell k0 0 _ rfl
  have k0c0a : ∀ o, (W1.alloc o).cell? ⟨(w).heap.size, 0, none⟩ = some (.int .i64 (op)) := own_cell2 k0 0 _ rfl
  have k0c1 : W1.cell? ⟨(w).heap.size, 1, none⟩ = some (.int .i64 (d)) := own_cell k0 1 _ rfl
  have k0c1a : ∀ o, (W1.alloc o).cell? ⟨(w).heap.size, 1, none⟩ = some (.int .i64 (d)) := own_cell2 k0 1 _ rfl
  have k0c2 : W1.cell? ⟨(w).heap.size, 2, none⟩ = some (.int .i64 (s)) := own_cell k0 2 _ rfl
  have k0c2a : ∀ o, (W1.alloc o).cell? ⟨(w).heap.size, 2, none⟩ = some (.int .i64 (s)) := own_cell2 k0 2 _ rfl
  have k0c3 : W1.cell? ⟨(w).heap.size, 3, none⟩ = some (.int .i64 (t)) := own_cell k0 3 _ rfl
  have k0c3a : ∀ o, (W1.alloc o).cell? ⟨(w).heap.size, 3, none⟩ = some (.int .i64 (t)) := own_cell2 k0 3 _ rfl
  have k0c4 : W1.cell? ⟨(w).heap.size, 4, none⟩ = some (.int .i32 (i)) := own_cell k0 4 _ rfl
  have k0c4a : ∀ o, (W1.alloc o).cell? ⟨(w).heap.size, 4, none⟩ = some (.int .i32 (i)) := own_cell2 k0 4 _ rfl
  have k1c0 : W1.cell? ⟨w.heap.size + 1, 0, none⟩ = some (.int .i64 (op')) := by have h := own_cell k1 0 _ rfl; simpa using h
  have k1c1 : W1.cell? ⟨w.heap.size + 1, 1, none⟩ = some (.int .i64 (d')) := by have h := own_cell k1 1 _ rfl; simpa using h
  have k1c2 : W1.cell? ⟨w.heap.size + 1, 2, none⟩ = some (.int .i64 (s')) := by have h := own_cell k1 2 _ rfl; simpa using h
  have k1c3 : W1.cell? ⟨w.heap.size + 1, 3, none⟩ = some (.int .i64 (t')) := by have h := own_cell k1 3 _ rfl; simpa using h
  have k1c4 : W1.cell? ⟨w.heap.size + 1, 4, none⟩ = some (.int .i32 (i')) := by have h := own_cell k1 4 _ rfl; simpa using h
  go_wp2_with fail
  clear k0c0 k0c0a k0c1 k0c1a k0c2 k0c2a k0c3 k0c3a k0c4 k0c4a k1c0 k1c1 k1c2 k1c3 k1c4
  refine (he' _ tabs).mono ?_
  rintro e W2 ⟨rfl, bZ⟩
  replace b1 := b1.trans (bZ.mono b1.size)
  replace tabs := tabs.below bZ
  replace k0 := k0.trans (bZ.mono k0.size)
  replace k1 := k1.trans (bZ.mono k1.size)
  clear bZ
  have k0c0 : W2.cell? ⟨(w).heap.size, 0, none⟩ = some (.int .i64 (op)) := own_cell k0 0 _ rfl
  have k0c0a : ∀ o, (W2.alloc o).cell? ⟨(w).heap.size, 0, none⟩ = some (.int .i64 (op)) := own_cell2 k0 0 _ rfl
  have k0c1 : W2.cell? ⟨(w).heap.size, 1, none⟩ = some (.int .i64 (d)) := own_cell k0 1 _ rfl
  have k0c1a : ∀ o, (W2.alloc o).cell? ⟨(w).heap.size, 1, none⟩ = some (.int .i64 (d)) := own_cell2 k0 1 _ rfl
  have k0c2 : W2.cell? ⟨(w).heap.size, 2, none⟩ = some (.int .i64 (s)) := own_cell k0 2 _ rfl
  have k0c2a : ∀ o, (W2.alloc o).cell? ⟨(w).heap.size, 2, none⟩ = some (.int .i64 (s)) := own_cell2 k0 2 _ rfl
  have k0c3 : W2.cell? ⟨(w).heap.size, 3, none⟩ = some (.int .i64 (t)) := own_cell k0 3 _ rfl
  have k0c3a : ∀ o, (W2.alloc o).cell? ⟨(w).heap.size, 3, none⟩ = some (.int .i64 (t)) := own_cell2 k0 3 _ rfl
  have k0c4 : W2.cell? ⟨(w).heap.size, 4, none⟩ = some (.int .i32 (i)) := own_cell k0 4 _ rfl
  have k0c4a : ∀ o, (W2.alloc o).cell? ⟨(w).heap.size, 4, none⟩ = some (.int .i32 (i)) := own_cell2 k0 4 _ rfl
  have k1c0 : W2.cell? ⟨w.heap.size + 1, 0, none⟩ = some (.int .i64 (op')) := by have h := own_cell k1 0 _ rfl; simpa using h
  have k1c1 : W2.cell? ⟨w.heap.size + 1, 1, none⟩ = some (.int .i64 (d')) := by have h := own_cell k1 1 _ rfl; simpa using h
  have k1c2 : W2.cell? ⟨w.heap.size + 1, 2, none⟩ = some (.int .i64 (s')) := by have h := own_cell k1 2 _ rfl; simpa using h
  have k1c3 : W2.cell? ⟨w.heap.size + 1, 3, none⟩ = some (.int .i64 (t')) := by have h := own_cell k1 3 _ rfl; simpa using h
  have k1c4 : W2.cell? ⟨w.heap.size + 1, 4, none⟩ = some (.int .i32 (i')) := by have h := own_cell k1 4 _ rfl; simpa using h
  go_wp2_with fail
  go_ret
  exact ⟨rfl, b1⟩
set_option maxHeartbeats 4000000 in
theorem apart_false_false (op d s t i op' d' s' t' i' : Int) (hi : -2147483648 ≤ i ∧ i ≤ 2147483647) (hi' : -2147483648 ≤ i' ∧ i' ≤ 2147483647) (hl : isL op d s t i = false) (hl' : isL op' d' s' t' i' = false)  (w : World) (tabs : Tabs w) :
    Calls Tryd.prog 6 #[wordV op d s t i, wordV op' d' s' t' i'] w fun e w' => e = .returned (.bool true) ∧ Below w.heap.size w w' := by
  have he := fun w tb => enc_false hl w tb
  have he' := fun w tb => enc_false hl' w tb
  clear hl hl'
  go_enter Tryd.func6, Tryd.ntmps6
  go_wp2_with fail
  replace tabs := tabs.below ((Below.refl w.heap.size w).alloc (Nat.le_refl _) (.cells #[.int .i64 (op), .int .i64 (d), .int .i64 (s), .int .i64 (t), .int .i32 (i)] 23))
  have b1 := (Below.refl w.heap.size w).alloc (Nat.le_refl _) (.cells #[.int .i64 (op), .int .i64 (d), .int .i64 (s), .int .i64 (t), .int .i32 (i)] 23)
  have k0 := Below.refl ((w).alloc (.cells #[.int .i64 (op), .int .i64 (d), .int .i64 (s), .int .i64 (t), .int .i32 (i)] 23)).heap.size ((w).alloc (.cells #[.int .i64 (op), .int .i64 (d), .int .i64 (s), .int .i64 (t), .int .i32 (i)] 23))
  replace tabs := tabs.below ((Below.refl ((w).alloc (.cells #[.int .i64 (op), .int .i64 (d), .int .i64 (s), .int .i64 (t), .int .i32 (i)] 23)).heap.size ((w).alloc (.cells #[.int .i64 (op), .int .i64 (d), .int .i64 (s), .int .i64 (t), .int .i32 (i)] 23))).alloc (Nat.le_refl _) (.cells #[.int .i64 (op'), .int .i64 (d'), .int .i64 (s'), .int .i64 (t'), .int .i32 (i')] 23))
  replace b1 := b1.alloc b1.size (.cells #[.int .i64 (op'), .int .i64 (d'), .int .i64 (s'), .int .i64 (t'), .int .i32 (i')] 23)
  replace k0 := k0.alloc k0.size (.cells #[.int .i64 (op'), .int .i64 (d'), .int .i64 (s'), .int .i64 (t'), .int .i32 (i')] 23)
  have k1 := Below.refl ((((w).alloc (.cells #[.int .i64 (op), .int .i64 (d), .int .i64 (s), .int .i64 (t), .int .i32 (i)] 23))).alloc (.cells #[.int .i64 (op'), .int .i64 (d'), .int .i64 (s'), .int .i64 (t'), .int .i32 (i')] 23)).heap.size ((((w).alloc (.cells #[.int .i64 (op), .int .i64 (d), .int .i64 (s), .int .i64 (t), .int .i32 (i)] 23))).alloc (.cells #[.int .i64 (op'), .int .i64 (d'), .int .i64 (s'), .int .i64 (t'), .int .i32 (i')] 23))
  refine (known_any _ tabs).mono ?_
  rintro e W0 ⟨rfl, bZ⟩
  replace b1 := b1.trans (bZ.mono b1.size)
  replace tabs := tabs.below bZ
  replace k0 := k0.trans (bZ.mono k0.size)
  replace k1 := k1.trans (bZ.mono k1.size)
  clear bZ
  have k0c0 : W0.cell? ⟨(w).heap.size, 0, none⟩ = some (.int .i64 (op)) := own_cell k0 0 _ rfl
  have k0c0a : ∀ o, (W0.alloc o).cell? ⟨(w).heap.size, 0, none⟩ = some (.int .i64 (op)) := own_cell2 k0 0 _ rfl
  have k0c1 : W0.cell? ⟨(w).heap.size, 1, none⟩ = some (.int .i64 (d)) := own_cell k0 1 _ rfl
  have k0c1a : ∀ o, (W0.alloc o).cell? ⟨(w).heap.size, 1, none⟩ = some (.int .i64 (d)) := own_cell2 k0 1 _ rfl
  have k0c2 : W0.cell? ⟨(w).heap.size, 2, none⟩ = some (.int .i64 (s)) := own_cell k0 2 _ rfl
  have k0c2a : ∀ o, (W0.alloc o).cell? ⟨(w).heap.size, 2, none⟩ = some (.int .i64 (s)) := own_cell2 k0 2 _ rfl
  have k0c3 : W0.cell? ⟨(w).heap.size, 3, none⟩ = some (.int .i64 (t)) := own_cell k0 3 _ rfl
  have k0c3a : ∀ o, (W0.alloc o).cell? ⟨(w).heap.size, 3, none⟩ = some (.int .i64 (t)) := own_cell2 k0 3 _ rfl
  have k0c4 : W0.cell? ⟨(w).heap.size, 4, none⟩ = some (.int .i32 (i)) := own_cell k0 4 _ rfl
  have k0c4a : ∀ o, (W0.alloc o).cell? ⟨(w).heap.size, 4, none⟩ = some (.int .i32 (i)) := own_cell2 k0 4 _ rfl
  have k1c0 : W0.cell? ⟨w.heap.size + 1, 0, none⟩ = some (.int .i64 (op')) := by have h := own_cell k1 0 _ rfl; simpa using h
  have k1c1 : W0.cell? ⟨w.heap.size + 1, 1, none⟩ = some (.int .i64 (d')) := by have h := own_cell k1 1 _ rfl; simpa using h
  have k1c2 : W0.cell? ⟨w.heap.size + 1, 2, none⟩ = some (.int .i64 (s')) := by have h := own_cell k1 2 _ rfl; simpa using h
  have k1c3 : W0.cell? ⟨w.heap.size + 1, 3, none⟩ = some (.int .i64 (t')) := by have h := own_cell k1 3 _ rfl; simpa using h
  have k1c4 : W0.cell? ⟨w.heap.size + 1, 4, none⟩ = some (.int .i32 (i')) := by have h := own_cell k1 4 _ rfl; simpa using h
  go_wp2_with fail
  clear k0c0 k0c0a k0c1 k0c1a k0c2 k0c2a k0c3 k0c3a k0c4 k0c4a k1c0 k1c1 k1c2 k1c3 k1c4
  refine (he _ tabs).mono ?_
  rintro e W1 ⟨rfl, bZ⟩
  replace b1 := b1.trans (bZ.mono b1.size)
  replace tabs := tabs.below bZ
  replace k0 := k0.trans (bZ.mono k0.size)
  replace k1 := k1.trans (bZ.mono k1.size)
  clear bZ
  have k0c0 : W1.cell? ⟨(w).heap.size, 0, none⟩ = some (.int .i64 (op)) := own_cell k0 0 _ rfl
  have k0c0a : ∀ o, (W1.alloc o).cell? ⟨(w).heap.size, 0, none⟩ = some (.int .i64 (op)) := own_cell2 k0 0 _ rfl
  have k0c1 : W1.cell? ⟨(w).heap.size, 1, none⟩ = some (.int .i64 (d)) := own_cell k0 1 _ rfl
  have k0c1a : ∀ o, (W1.alloc o).cell? ⟨(w).heap.size, 1, none⟩ = some (.int .i64 (d)) := own_cell2 k0 1 _ rfl
  have k0c2 : W1.cell? ⟨(w).heap.size, 2, none⟩ = some (.int .i64 (s)) := own_cell k0 2 _ rfl
  have k0c2a : ∀ o, (W1.alloc o).cell? ⟨(w).heap.size, 2, none⟩ = some (.int .i64 (s)) := own_cell2 k0 2 _ rfl
  have k0c3 : W1.cell? ⟨(w).heap.size, 3, none⟩ = some (.int .i64 (t)) := own_cell k0 3 _ rfl
  have k0c3a : ∀ o, (W1.alloc o).cell? ⟨(w).heap.size, 3, none⟩ = some (.int .i64 (t)) := own_cell2 k0 3 _ rfl
  have k0c4 : W1.cell? ⟨(w).heap.size, 4, none⟩ = some (.int .i32 (i)) := own_cell k0 4 _ rfl
  have k0c4a : ∀ o, (W1.alloc o).cell? ⟨(w).heap.size, 4, none⟩ = some (.int .i32 (i)) := own_cell2 k0 4 _ rfl
  have k1c0 : W1.cell? ⟨w.heap.size + 1, 0, none⟩ = some (.int .i64 (op')) := by have h := own_cell k1 0 _ rfl; simpa using h
  have k1c1 : W1.cell? ⟨w.heap.size + 1, 1, none⟩ = some (.int .i64 (d')) := by have h := own_cell k1 1 _ rfl; simpa using h
  have k1c2 : W1.cell? ⟨w.heap.size + 1, 2, none⟩ = some (.int .i64 (s')) := by have h := own_cell k1 2 _ rfl; simpa using h
  have k1c3 : W1.cell? ⟨w.heap.size + 1, 3, none⟩ = some (.int .i64 (t')) := by have h := own_cell k1 3 _ rfl; simpa using h
  have k1c4 : W1.cell? ⟨w.heap.size + 1, 4, none⟩ = some (.int .i32 (i')) := by have h := own_cell k1 4 _ rfl; simpa using h
  go_wp2_with fail
  clear k0c0 k0c0a k0c1 k0c1a k0c2 k0c2a k0c3 k0c3a k0c4 k0c4a k1c0 k1c1 k1c2 k1c3 k1c4
  refine (he' _ tabs).mono ?_
  rintro e W2 ⟨rfl, bZ⟩
  replace b1 := b1.trans (bZ.mono b1.size)
  replace tabs := tabs.below bZ
  replace k0 := k0.trans (bZ.mono k0.size)
  replace k1 := k1.trans (bZ.mono k1.size)
  clear bZ
  have k0c0 : W2.cell? ⟨(w).heap.size, 0, none⟩ = some (.int .i64 (op)) := own_cell k0 0 _ rfl
  have k0c0a : ∀ o, (W2.alloc o).cell? ⟨(w).heap.size, 0, none⟩ = some (.int .i64 (op)) := own_cell2 k0 0 _ rfl
  have k0c1 : W2.cell? ⟨(w).heap.size, 1, none⟩ = some (.int .i64 (d)) := own_cell k0 1 _ rfl
  have k0c1a : ∀ o, (W2.alloc o).cell? ⟨(w).heap.size, 1, none⟩ = some (.int .i64 (d)) := own_cell2 k0 1 _ rfl
  have k0c2 : W2.cell? ⟨(w).heap.size, 2, none⟩ = some (.int .i64 (s)) := own_cell k0 2 _ rfl
  have k0c2a : ∀ o, (W2.alloc o).cell? ⟨(w).heap.size, 2, none⟩ = some (.int .i64 (s)) := own_cell2 k0 2 _ rfl
  have k0c3 : W2.cell? ⟨(w).heap.size, 3, none⟩ = some (.int .i64 (t)) := own_cell k0 3 _ rfl
  have k0c3a : ∀ o, (W2.alloc o).cell? ⟨(w).heap.size, 3, none⟩ = some (.int .i64 (t)) := own_cell2 k0 3 _ rfl
  have k0c4 : W2.cell? ⟨(w).heap.size, 4, none⟩ = some (.int .i32 (i)) := own_cell k0 4 _ rfl
  have k0c4a : ∀ o, (W2.alloc o).cell? ⟨(w).heap.size, 4, none⟩ = some (.int .i32 (i)) := own_cell2 k0 4 _ rfl
  have k1c0 : W2.cell? ⟨w.heap.size + 1, 0, none⟩ = some (.int .i64 (op')) := by have h := own_cell k1 0 _ rfl; simpa using h
  have k1c1 : W2.cell? ⟨w.heap.size + 1, 1, none⟩ = some (.int .i64 (d')) := by have h := own_cell k1 1 _ rfl; simpa using h
  have k1c2 : W2.cell? ⟨w.heap.size + 1, 2, none⟩ = some (.int .i64 (s')) := by have h := own_cell k1 2 _ rfl; simpa using h
  have k1c3 : W2.cell? ⟨w.heap.size + 1, 3, none⟩ = some (.int .i64 (t')) := by have h := own_cell k1 3 _ rfl; simpa using h
  have k1c4 : W2.cell? ⟨w.heap.size + 1, 4, none⟩ = some (.int .i32 (i')) := by have h := own_cell k1 4 _ rfl; simpa using h
  go_wp2_with fail
  go_ret
  exact ⟨rfl, b1⟩
theorem heldB10 {w w1 : World} {p0 p1 p2 p3 p4 p5 p6 p7 p8 p9 : Addr} {v0 v1 v2 v3 v4 v5 v6 v7 v8 v9 : Value} (h : w1.cell? p0 = some v0 ∧ w1.cell? p1 = some v1 ∧ w1.cell? p2 = some v2 ∧ w1.cell? p3 = some v3 ∧ w1.cell? p4 = some v4 ∧ w1.cell? p5 = some v5 ∧ w1.cell? p6 = some v6 ∧ w1.cell? p7 = some v7 ∧ w1.cell? p8 = some v8 ∧ w1.cell? p9 = some v9 ∧ Below w.heap.size w w1) : Below w.heap.size w w1 := h.2.2.2.2.2.2.2.2.2.2
theorem keep10 {w w1 w2 : World} {p0 p1 p2 p3 p4 p5 p6 p7 p8 p9 : Addr} {v0 v1 v2 v3 v4 v5 v6 v7 v8 v9 : Value} (h : w1.cell? p0 = some v0 ∧ w1.cell? p1 = some v1 ∧ w1.cell? p2 = some v2 ∧ w1.cell? p3 = some v3 ∧ w1.cell? p4 = some v4 ∧ w1.cell? p5 = some v5 ∧ w1.cell? p6 = some v6 ∧ w1.cell? p7 = some v7 ∧ w1.cell? p8 = some v8 ∧ w1.cell? p9 = some v9 ∧ Below w.heap.size w w1) (e0 : p0.spot = none) (e1 : p1.spot = none) (e2 : p2.spot = none) (e3 : p3.spot = none) (e4 : p4.spot = none) (e5 : p5.spot = none) (e6 : p6.spot = none) (e7 : p7.spot = none) (e8 : p8.spot = none) (e9 : p9.spot = none) (b : Below w1.heap.size w1 w2) : w2.cell? p0 = some v0 ∧ w2.cell? p1 = some v1 ∧ w2.cell? p2 = some v2 ∧ w2.cell? p3 = some v3 ∧ w2.cell? p4 = some v4 ∧ w2.cell? p5 = some v5 ∧ w2.cell? p6 = some v6 ∧ w2.cell? p7 = some v7 ∧ w2.cell? p8 = some v8 ∧ w2.cell? p9 = some v9 ∧ Below w.heap.size w w2 := by
  obtain ⟨h0, h1, h2, h3, h4, h5, h6, h7, h8, h9, hb⟩ := h
  have k : ∀ {p : Addr} {v : Value}, p.spot = none → w1.cell? p = some v → w2.cell? p = some v := fun {p v} hp h => by
    obtain ⟨b', o, s⟩ := p
    simp only at hp
    subst hp
    exact (b.cell (size_of_cell h)).trans h
  exact ⟨k e0 h0, k e1 h1, k e2 h2, k e3 h3, k e4 h4, k e5 h5, k e6 h6, k e7 h7, k e8 h8, k e9 h9, hb.trans (b.mono hb.size)⟩
set_option maxHeartbeats 4000000 in
theorem apart_5 (op d s t i : Int) (hi : -2147483648 ≤ i ∧ i ≤ 2147483647) (hl : isL op d s t i = true) (w : World) (tabs : Tabs w) :
    Calls Tryd.prog 6 #[wordV op d s t i, wordV op d s t i] w fun e w' => e = .returned (.bool true) ∧ Below w.heap.size w w' := by
  have tabs0 := tabs
  have he := fun w tb => enc_true hl w tb
  have hT := fun w tb => text_any op d s t i hi w tb
  have tl : (bs (textL op d s t i)).toList = textL op d s t i := ByteArray.toList_mk _
  generalize textL op d s t i = TX at *
  generalize encL op d s t i = E at *
  clear hl 
  go_enter Tryd.func6, Tryd.ntmps6
  go_wp2_with fail
  replace tabs := tabs.below ((Below.refl w.heap.size w).alloc (Nat.le_refl _) (.cells #[.int .i64 (op), .int .i64 (d), .int .i64 (s), .int .i64 (t), .int .i32 (i)] 23))
  have b1 := (Below.refl w.heap.size w).alloc (Nat.le_refl _) (.cells #[.int .i64 (op), .int .i64 (d), .int .i64 (s), .int .i64 (t), .int .i32 (i)] 23)
  have k0 := Below.refl ((w).alloc (.cells #[.int .i64 (op), .int .i64 (d), .int .i64 (s), .int .i64 (t), .int .i32 (i)] 23)).heap.size ((w).alloc (.cells #[.int .i64 (op), .int .i64 (d), .int .i64 (s), .int .i64 (t), .int .i32 (i)] 23))
  replace tabs := tabs.below ((Below.refl ((w).alloc (.cells #[.int .i64 (op), .int .i64 (d), .int .i64 (s), .int .i64 (t), .int .i32 (i)] 23)).heap.size ((w).alloc (.cells #[.int .i64 (op), .int .i64 (d), .int .i64 (s), .int .i64 (t), .int .i32 (i)] 23))).alloc (Nat.le_refl _) (.cells #[.int .i64 (op), .int .i64 (d), .int .i64 (s), .int .i64 (t), .int .i32 (i)] 23))
  replace b1 := b1.alloc b1.size (.cells #[.int .i64 (op), .int .i64 (d), .int .i64 (s), .int .i64 (t), .int .i32 (i)] 23)
  replace k0 := k0.alloc k0.size (.cells #[.int .i64 (op), .int .i64 (d), .int .i64 (s), .int .i64 (t), .int .i32 (i)] 23)
  have k1 := Below.refl ((((w).alloc (.cells #[.int .i64 (op), .int .i64 (d), .int .i64 (s), .int .i64 (t), .int .i32 (i)] 23))).alloc (.cells #[.int .i64 (op), .int .i64 (d), .int .i64 (s), .int .i64 (t), .int .i32 (i)] 23)).heap.size ((((w).alloc (.cells #[.int .i64 (op), .int .i64 (d), .int .i64 (s), .int .i64 (t), .int .i32 (i)] 23))).alloc (.cells #[.int .i64 (op), .int .i64 (d), .int .i64 (s), .int .i64 (t), .int .i32 (i)] 23))
  refine (known_any _ tabs).mono ?_
  rintro e W0 ⟨rfl, bZ⟩
  replace b1 := b1.trans (bZ.mono b1.size)
  replace tabs := tabs.below bZ
  replace k0 := k0.trans (bZ.mono k0.size)
  replace k1 := k1.trans (bZ.mono k1.size)
  clear bZ
  have k0c0 : W0.cell? ⟨(w).heap.size, 0, none⟩ = some (.int .i64 (op)) := own_cell k0 0 _ rfl
  have k0c0a : ∀ o, (W0.alloc o).cell? ⟨(w).heap.size, 0, none⟩ = some (.int .i64 (op)) := own_cell2 k0 0 _ rfl
  have k0c1 : W0.cell? ⟨(w).heap.size, 1, none⟩ = some (.int .i64 (d)) := own_cell k0 1 _ rfl
  have k0c1a : ∀ o, (W0.alloc o).cell? ⟨(w).heap.size, 1, none⟩ = some (.int .i64 (d)) := own_cell2 k0 1 _ rfl
  have k0c2 : W0.cell? ⟨(w).heap.size, 2, none⟩ = some (.int .i64 (s)) := own_cell k0 2 _ rfl
  have k0c2a : ∀ o, (W0.alloc o).cell? ⟨(w).heap.size, 2, none⟩ = some (.int .i64 (s)) := own_cell2 k0 2 _ rfl
  have k0c3 : W0.cell? ⟨(w).heap.size, 3, none⟩ = some (.int .i64 (t)) := own_cell k0 3 _ rfl
  have k0c3a : ∀ o, (W0.alloc o).cell? ⟨(w).heap.size, 3, none⟩ = some (.int .i64 (t)) := own_cell2 k0 3 _ rfl
  have k0c4 : W0.cell? ⟨(w).heap.size, 4, none⟩ = some (.int .i32 (i)) := own_cell k0 4 _ rfl
  have k0c4a : ∀ o, (W0.alloc o).cell? ⟨(w).heap.size, 4, none⟩ = some (.int .i32 (i)) := own_cell2 k0 4 _ rfl
  have k1c0 : W0.cell? ⟨w.heap.size + 1, 0, none⟩ = some (.int .i64 (op)) := by have h := own_cell k1 0 _ rfl; simpa using h
  have k1c1 : W0.cell? ⟨w.heap.size + 1, 1, none⟩ = some (.int .i64 (d)) := by have h := own_cell k1 1 _ rfl; simpa using h
  have k1c2 : W0.cell? ⟨w.heap.size + 1, 2, none⟩ = some (.int .i64 (s)) := by have h := own_cell k1 2 _ rfl; simpa using h
  have k1c3 : W0.cell? ⟨w.heap.size + 1, 3, none⟩ = some (.int .i64 (t)) := by have h := own_cell k1 3 _ rfl; simpa using h
  have k1c4 : W0.cell? ⟨w.heap.size + 1, 4, none⟩ = some (.int .i32 (i)) := by have h := own_cell k1 4 _ rfl; simpa using h
  go_wp2_with fail
  clear k0c0 k0c0a k0c1 k0c1a k0c2 k0c2a k0c3 k0c3a k0c4 k0c4a k1c0 k1c1 k1c2 k1c3 k1c4
  refine (he _ tabs).mono ?_
  rintro e W1 ⟨rfl, bZ⟩
  replace b1 := b1.trans (bZ.mono b1.size)
  replace tabs := tabs.below bZ
  replace k0 := k0.trans (bZ.mono k0.size)
  replace k1 := k1.trans (bZ.mono k1.size)
  clear bZ
  have k0c0 : W1.cell? ⟨(w).heap.size, 0, none⟩ = some (.int .i64 (op)) := own_cell k0 0 _ rfl
  have k0c0a : ∀ o, (W1.alloc o).cell? ⟨(w).heap.size, 0, none⟩ = some (.int .i64 (op)) := own_cell2 k0 0 _ rfl
  have k0c1 : W1.cell? ⟨(w).heap.size, 1, none⟩ = some (.int .i64 (d)) := own_cell k0 1 _ rfl
  have k0c1a : ∀ o, (W1.alloc o).cell? ⟨(w).heap.size, 1, none⟩ = some (.int .i64 (d)) := own_cell2 k0 1 _ rfl
  have k0c2 : W1.cell? ⟨(w).heap.size, 2, none⟩ = some (.int .i64 (s)) := own_cell k0 2 _ rfl
  have k0c2a : ∀ o, (W1.alloc o).cell? ⟨(w).heap.size, 2, none⟩ = some (.int .i64 (s)) := own_cell2 k0 2 _ rfl
  have k0c3 : W1.cell? ⟨(w).heap.size, 3, none⟩ = some (.int .i64 (t)) := own_cell k0 3 _ rfl
  have k0c3a : ∀ o, (W1.alloc o).cell? ⟨(w).heap.size, 3, none⟩ = some (.int .i64 (t)) := own_cell2 k0 3 _ rfl
  have k0c4 : W1.cell? ⟨(w).heap.size, 4, none⟩ = some (.int .i32 (i)) := own_cell k0 4 _ rfl
  have k0c4a : ∀ o, (W1.alloc o).cell? ⟨(w).heap.size, 4, none⟩ = some (.int .i32 (i)) := own_cell2 k0 4 _ rfl
  have k1c0 : W1.cell? ⟨w.heap.size + 1, 0, none⟩ = some (.int .i64 (op)) := by have h := own_cell k1 0 _ rfl; simpa using h
  have k1c1 : W1.cell? ⟨w.heap.size + 1, 1, none⟩ = some (.int .i64 (d)) := by have h := own_cell k1 1 _ rfl; simpa using h
  have k1c2 : W1.cell? ⟨w.heap.size + 1, 2, none⟩ = some (.int .i64 (s)) := by have h := own_cell k1 2 _ rfl; simpa using h
  have k1c3 : W1.cell? ⟨w.heap.size + 1, 3, none⟩ = some (.int .i64 (t)) := by have h := own_cell k1 3 _ rfl; simpa using h
  have k1c4 : W1.cell? ⟨w.heap.size + 1, 4, none⟩ = some (.int .i32 (i)) := by have h := own_cell k1 4 _ rfl; simpa using h
  go_wp2_with fail
  clear k0c0 k0c0a k0c1 k0c1a k0c2 k0c2a k0c3 k0c3a k0c4 k0c4a k1c0 k1c1 k1c2 k1c3 k1c4
  refine (he _ tabs).mono ?_
  rintro e W2 ⟨rfl, bZ⟩
  replace b1 := b1.trans (bZ.mono b1.size)
  replace tabs := tabs.below bZ
  replace k0 := k0.trans (bZ.mono k0.size)
  replace k1 := k1.trans (bZ.mono k1.size)
  clear bZ
  have k0c0 : W2.cell? ⟨(w).heap.size, 0, none⟩ = some (.int .i64 (op)) := own_cell k0 0 _ rfl
  have k0c0a : ∀ o, (W2.alloc o).cell? ⟨(w).heap.size, 0, none⟩ = some (.int .i64 (op)) := own_cell2 k0 0 _ rfl
  have k0c1 : W2.cell? ⟨(w).heap.size, 1, none⟩ = some (.int .i64 (d)) := own_cell k0 1 _ rfl
  have k0c1a : ∀ o, (W2.alloc o).cell? ⟨(w).heap.size, 1, none⟩ = some (.int .i64 (d)) := own_cell2 k0 1 _ rfl
  have k0c2 : W2.cell? ⟨(w).heap.size, 2, none⟩ = some (.int .i64 (s)) := own_cell k0 2 _ rfl
  have k0c2a : ∀ o, (W2.alloc o).cell? ⟨(w).heap.size, 2, none⟩ = some (.int .i64 (s)) := own_cell2 k0 2 _ rfl
  have k0c3 : W2.cell? ⟨(w).heap.size, 3, none⟩ = some (.int .i64 (t)) := own_cell k0 3 _ rfl
  have k0c3a : ∀ o, (W2.alloc o).cell? ⟨(w).heap.size, 3, none⟩ = some (.int .i64 (t)) := own_cell2 k0 3 _ rfl
  have k0c4 : W2.cell? ⟨(w).heap.size, 4, none⟩ = some (.int .i32 (i)) := own_cell k0 4 _ rfl
  have k0c4a : ∀ o, (W2.alloc o).cell? ⟨(w).heap.size, 4, none⟩ = some (.int .i32 (i)) := own_cell2 k0 4 _ rfl
  have k1c0 : W2.cell? ⟨w.heap.size + 1, 0, none⟩ = some (.int .i64 (op)) := by have h := own_cell k1 0 _ rfl; simpa using h
  have k1c1 : W2.cell? ⟨w.heap.size + 1, 1, none⟩ = some (.int .i64 (d)) := by have h := own_cell k1 1 _ rfl; simpa using h
  have k1c2 : W2.cell? ⟨w.heap.size + 1, 2, none⟩ = some (.int .i64 (s)) := by have h := own_cell k1 2 _ rfl; simpa using h
  have k1c3 : W2.cell? ⟨w.heap.size + 1, 3, none⟩ = some (.int .i64 (t)) := by have h := own_cell k1 3 _ rfl; simpa using h
  have k1c4 : W2.cell? ⟨w.heap.size + 1, 4, none⟩ = some (.int .i32 (i)) := by have h := own_cell k1 4 _ rfl; simpa using h
  go_wp2_with fail
  clear he tabs k0 k1 k0c0a k0c1a k0c2a k0c3a k0c4a
  replace b1 : Below w.heap.size w W2 := b1
  go_region_held3 (fun w' => w'.cell? ⟨w.heap.size, 0, none⟩ = some (.int .i64 (op)) ∧ w'.cell? ⟨w.heap.size, 1, none⟩ = some (.int .i64 (d)) ∧ w'.cell? ⟨w.heap.size, 2, none⟩ = some (.int .i64 (s)) ∧ w'.cell? ⟨w.heap.size, 3, none⟩ = some (.int .i64 (t)) ∧ w'.cell? ⟨w.heap.size, 4, none⟩ = some (.int .i32 (i)) ∧ w'.cell? ⟨w.heap.size + 1, 0, none⟩ = some (.int .i64 (op)) ∧ w'.cell? ⟨w.heap.size + 1, 1, none⟩ = some (.int .i64 (d)) ∧ w'.cell? ⟨w.heap.size + 1, 2, none⟩ = some (.int .i64 (s)) ∧ w'.cell? ⟨w.heap.size + 1, 3, none⟩ = some (.int .i64 (t)) ∧ w'.cell? ⟨w.heap.size + 1, 4, none⟩ = some (.int .i32 (i)) ∧ Below w.heap.size w w')
    (first | with_reducible assumption | with_reducible exact keep10 (by assumption) rfl rfl rfl rfl rfl rfl rfl rfl rfl rfl (by assumption) | exact ⟨k0c0, k0c1, k0c2, k0c3, k0c4, k1c0, k1c1, k1c2, k1c3, k1c4, b1.drew⟩)
    (first | (go_at_call 15; with_reducible refine (hT _ (tabs0.below (heldB10 (by with_reducible assumption)))).mono ?_; rintro e w' ⟨rfl, bZ⟩))
  all_goals go_wp2_with fail
  all_goals go_ret
  all_goals refine ⟨rfl, heldB10 (by assumption)⟩
set_option maxHeartbeats 4000000 in
theorem apart_0 (op d s t i op' d' s' t' i' : Int) (hi : -2147483648 ≤ i ∧ i ≤ 2147483647) (hi' : -2147483648 ≤ i' ∧ i' ≤ 2147483647) (hl : isL op d s t i = true) (hl' : isL op' d' s' t' i' = true) (hn : ¬ op = op') (w : World) (tabs : Tabs w) :
    Calls Tryd.prog 6 #[wordV op d s t i, wordV op' d' s' t' i'] w fun e w' => e = .returned (.bool true) ∧ Below w.heap.size w w' := by
  have tabs0 := tabs
  have he := fun w tb => enc_true hl w tb
  have he' := fun w tb => enc_true hl' w tb
  have hE : ¬ encL op d s t i = encL op' d' s' t' i' := fun e => by have := enc_inj hl hl' e; omega
  have hX : ¬ textL op d s t i = textL op' d' s' t' i' := fun e => by have := text_inj hl hl' e; omega
  have hT := fun w tb => text_any op d s t i hi w tb
  have tl : (bs (textL op d s t i)).toList = textL op d s t i := ByteArray.toList_mk _
  have hU := fun w tb => text_any op' d' s' t' i' hi' w tb
  have tl' : (bs (textL op' d' s' t' i')).toList = textL op' d' s' t' i' := ByteArray.toList_mk _
  have hE' : (encL op d s t i == encL op' d' s' t' i') = false := by simpa using hE
  have hX' : (textL op d s t i == textL op' d' s' t' i') = false := by simpa using hX
  generalize textL op' d' s' t' i' = TY at *
  generalize encL op' d' s' t' i' = F at *
  generalize textL op d s t i = TX at *
  generalize encL op d s t i = E at *
  clear hl hl'
  go_enter Tryd.func6, Tryd.ntmps6
  go_wp2_with fail
  replace tabs := tabs.below ((Below.refl w.heap.size w).alloc (Nat.le_refl _) (.cells #[.int .i64 (op), .int .i64 (d), .int .i64 (s), .int .i64 (t), .int .i32 (i)] 23))
  have b1 := (Below.refl w.heap.size w).alloc (Nat.le_refl _) (.cells #[.int .i64 (op), .int .i64 (d), .int .i64 (s), .int .i64 (t), .int .i32 (i)] 23)
  have k0 := Below.refl ((w).alloc (.cells #[.int .i64 (op), .int .i64 (d), .int .i64 (s), .int .i64 (t), .int .i32 (i)] 23)).heap.size ((w).alloc (.cells #[.int .i64 (op), .int .i64 (d), .int .i64 (s), .int .i64 (t), .int .i32 (i)] 23))
  replace tabs := tabs.below ((Below.refl ((w).alloc (.cells #[.int .i64 (op), .int .i64 (d), .int .i64 (s), .int .i64 (t), .int .i32 (i)] 23)).heap.size ((w).alloc (.cells #[.int .i64 (op), .int .i64 (d), .int .i64 (s), .int .i64 (t), .int .i32 (i)] 23))).alloc (Nat.le_refl _) (.cells #[.int .i64 (op'), .int .i64 (d'), .int .i64 (s'), .int .i64 (t'), .int .i32 (i')] 23))
  replace b1 := b1.alloc b1.size (.cells #[.int .i64 (op'), .int .i64 (d'), .int .i64 (s'), .int .i64 (t'), .int .i32 (i')] 23)
  replace k0 := k0.alloc k0.size (.cells #[.int .i64 (op'), .int .i64 (d'), .int .i64 (s'), .int .i64 (t'), .int .i32 (i')] 23)
  have k1 := Below.refl ((((w).alloc (.cells #[.int .i64 (op), .int .i64 (d), .int .i64 (s), .int .i64 (t), .int .i32 (i)] 23))).alloc (.cells #[.int .i64 (op'), .int .i64 (d'), .int .i64 (s'), .int .i64 (t'), .int .i32 (i')] 23)).heap.size ((((w).alloc (.cells #[.int .i64 (op), .int .i64 (d), .int .i64 (s), .int .i64 (t), .int .i32 (i)] 23))).alloc (.cells #[.int .i64 (op'), .int .i64 (d'), .int .i64 (s'), .int .i64 (t'), .int .i32 (i')] 23))
  refine (known_any _ tabs).mono ?_
  rintro e W0 ⟨rfl, bZ⟩
  replace b1 := b1.trans (bZ.mono b1.size)
  replace tabs := tabs.below bZ
  replace k0 := k0.trans (bZ.mono k0.size)
  replace k1 := k1.trans (bZ.mono k1.size)
  clear bZ
  have k0c0 : W0.cell? ⟨(w).heap.size, 0, none⟩ = some (.int .i64 (op)) := own_cell k0 0 _ rfl
  have k0c0a : ∀ o, (W0.alloc o).cell? ⟨(w).heap.size, 0, none⟩ = some (.int .i64 (op)) := own_cell2 k0 0 _ rfl
  have k0c1 : W0.cell? ⟨(w).heap.size, 1, none⟩ = some (.int .i64 (d)) := own_cell k0 1 _ rfl
  have k0c1a : ∀ o, (W0.alloc o).cell? ⟨(w).heap.size, 1, none⟩ = some (.int .i64 (d)) := own_cell2 k0 1 _ rfl
  have k0c2 : W0.cell? ⟨(w).heap.size, 2, none⟩ = some (.int .i64 (s)) := own_cell k0 2 _ rfl
  have k0c2a : ∀ o, (W0.alloc o).cell? ⟨(w).heap.size, 2, none⟩ = some (.int .i64 (s)) := own_cell2 k0 2 _ rfl
  have k0c3 : W0.cell? ⟨(w).heap.size, 3, none⟩ = some (.int .i64 (t)) := own_cell k0 3 _ rfl
  have k0c3a : ∀ o, (W0.alloc o).cell? ⟨(w).heap.size, 3, none⟩ = some (.int .i64 (t)) := own_cell2 k0 3 _ rfl
  have k0c4 : W0.cell? ⟨(w).heap.size, 4, none⟩ = some (.int .i32 (i)) := own_cell k0 4 _ rfl
  have k0c4a : ∀ o, (W0.alloc o).cell? ⟨(w).heap.size, 4, none⟩ = some (.int .i32 (i)) := own_cell2 k0 4 _ rfl
  have k1c0 : W0.cell? ⟨w.heap.size + 1, 0, none⟩ = some (.int .i64 (op')) := by have h := own_cell k1 0 _ rfl; simpa using h
  have k1c1 : W0.cell? ⟨w.heap.size + 1, 1, none⟩ = some (.int .i64 (d')) := by have h := own_cell k1 1 _ rfl; simpa using h
  have k1c2 : W0.cell? ⟨w.heap.size + 1, 2, none⟩ = some (.int .i64 (s')) := by have h := own_cell k1 2 _ rfl; simpa using h
  have k1c3 : W0.cell? ⟨w.heap.size + 1, 3, none⟩ = some (.int .i64 (t')) := by have h := own_cell k1 3 _ rfl; simpa using h
  have k1c4 : W0.cell? ⟨w.heap.size + 1, 4, none⟩ = some (.int .i32 (i')) := by have h := own_cell k1 4 _ rfl; simpa using h
  go_wp2_with fail
  clear k0c0 k0c0a k0c1 k0c1a k0c2 k0c2a k0c3 k0c3a k0c4 k0c4a k1c0 k1c1 k1c2 k1c3 k1c4
  refine (he _ tabs).mono ?_
  rintro e W1 ⟨rfl, bZ⟩
  replace b1 := b1.trans (bZ.mono b1.size)
  replace tabs := tabs.below bZ
  replace k0 := k0.trans (bZ.mono k0.size)
  replace k1 := k1.trans (bZ.mono k1.size)
  clear bZ
  have k0c0 : W1.cell? ⟨(w).heap.size, 0, none⟩ = some (.int .i64 (op)) := own_cell k0 0 _ rfl
  have k0c0a : ∀ o, (W1.alloc o).cell? ⟨(w).heap.size, 0, none⟩ = some (.int .i64 (op)) := own_cell2 k0 0 _ rfl
  have k0c1 : W1.cell? ⟨(w).heap.size, 1, none⟩ = some (.int .i64 (d)) := own_cell k0 1 _ rfl
  have k0c1a : ∀ o, (W1.alloc o).cell? ⟨(w).heap.size, 1, none⟩ = some (.int .i64 (d)) := own_cell2 k0 1 _ rfl
  have k0c2 : W1.cell? ⟨(w).heap.size, 2, none⟩ = some (.int .i64 (s)) := own_cell k0 2 _ rfl
  have k0c2a : ∀ o, (W1.alloc o).cell? ⟨(w).heap.size, 2, none⟩ = some (.int .i64 (s)) := own_cell2 k0 2 _ rfl
  have k0c3 : W1.cell? ⟨(w).heap.size, 3, none⟩ = some (.int .i64 (t)) := own_cell k0 3 _ rfl
  have k0c3a : ∀ o, (W1.alloc o).cell? ⟨(w).heap.size, 3, none⟩ = some (.int .i64 (t)) := own_cell2 k0 3 _ rfl
  have k0c4 : W1.cell? ⟨(w).heap.size, 4, none⟩ = some (.int .i32 (i)) := own_cell k0 4 _ rfl
  have k0c4a : ∀ o, (W1.alloc o).cell? ⟨(w).heap.size, 4, none⟩ = some (.int .i32 (i)) := own_cell2 k0 4 _ rfl
  have k1c0 : W1.cell? ⟨w.heap.size + 1, 0, none⟩ = some (.int .i64 (op')) := by have h := own_cell k1 0 _ rfl; simpa using h
  have k1c1 : W1.cell? ⟨w.heap.size + 1, 1, none⟩ = some (.int .i64 (d')) := by have h := own_cell k1 1 _ rfl; simpa using h
  have k1c2 : W1.cell? ⟨w.heap.size + 1, 2, none⟩ = some (.int .i64 (s')) := by have h := own_cell k1 2 _ rfl; simpa using h
  have k1c3 : W1.cell? ⟨w.heap.size + 1, 3, none⟩ = some (.int .i64 (t')) := by have h := own_cell k1 3 _ rfl; simpa using h
  have k1c4 : W1.cell? ⟨w.heap.size + 1, 4, none⟩ = some (.int .i32 (i')) := by have h := own_cell k1 4 _ rfl; simpa using h
  go_wp2_with fail
  clear k0c0 k0c0a k0c1 k0c1a k0c2 k0c2a k0c3 k0c3a k0c4 k0c4a k1c0 k1c1 k1c2 k1c3 k1c4
  refine (he' _ tabs).mono ?_
  rintro e W2 ⟨rfl, bZ⟩
  replace b1 := b1.trans (bZ.mono b1.size)
  replace tabs := tabs.below bZ
  replace k0 := k0.trans (bZ.mono k0.size)
  replace k1 := k1.trans (bZ.mono k1.size)
  clear bZ
  have k0c0 : W2.cell? ⟨(w).heap.size, 0, none⟩ = some (.int .i64 (op)) := own_cell k0 0 _ rfl
  have k0c0a : ∀ o, (W2.alloc o).cell? ⟨(w).heap.size, 0, none⟩ = some (.int .i64 (op)) := own_cell2 k0 0 _ rfl
  have k0c1 : W2.cell? ⟨(w).heap.size, 1, none⟩ = some (.int .i64 (d)) := own_cell k0 1 _ rfl
  have k0c1a : ∀ o, (W2.alloc o).cell? ⟨(w).heap.size, 1, none⟩ = some (.int .i64 (d)) := own_cell2 k0 1 _ rfl
  have k0c2 : W2.cell? ⟨(w).heap.size, 2, none⟩ = some (.int .i64 (s)) := own_cell k0 2 _ rfl
  have k0c2a : ∀ o, (W2.alloc o).cell? ⟨(w).heap.size, 2, none⟩ = some (.int .i64 (s)) := own_cell2 k0 2 _ rfl
  have k0c3 : W2.cell? ⟨(w).heap.size, 3, none⟩ = some (.int .i64 (t)) := own_cell k0 3 _ rfl
  have k0c3a : ∀ o, (W2.alloc o).cell? ⟨(w).heap.size, 3, none⟩ = some (.int .i64 (t)) := own_cell2 k0 3 _ rfl
  have k0c4 : W2.cell? ⟨(w).heap.size, 4, none⟩ = some (.int .i32 (i)) := own_cell k0 4 _ rfl
  have k0c4a : ∀ o, (W2.alloc o).cell? ⟨(w).heap.size, 4, none⟩ = some (.int .i32 (i)) := own_cell2 k0 4 _ rfl
  have k1c0 : W2.cell? ⟨w.heap.size + 1, 0, none⟩ = some (.int .i64 (op')) := by have h := own_cell k1 0 _ rfl; simpa using h
  have k1c1 : W2.cell? ⟨w.heap.size + 1, 1, none⟩ = some (.int .i64 (d')) := by have h := own_cell k1 1 _ rfl; simpa using h
  have k1c2 : W2.cell? ⟨w.heap.size + 1, 2, none⟩ = some (.int .i64 (s')) := by have h := own_cell k1 2 _ rfl; simpa using h
  have k1c3 : W2.cell? ⟨w.heap.size + 1, 3, none⟩ = some (.int .i64 (t')) := by have h := own_cell k1 3 _ rfl; simpa using h
  have k1c4 : W2.cell? ⟨w.heap.size + 1, 4, none⟩ = some (.int .i32 (i')) := by have h := own_cell k1 4 _ rfl; simpa using h
  go_wp2_with fail
  clear he tabs k0 k1 he' k0c0a k0c1a k0c2a k0c3a k0c4a
  replace b1 : Below w.heap.size w W2 := b1
  go_region_held3 (fun w' => w'.cell? ⟨w.heap.size, 0, none⟩ = some (.int .i64 (op)) ∧ w'.cell? ⟨w.heap.size, 1, none⟩ = some (.int .i64 (d)) ∧ w'.cell? ⟨w.heap.size, 2, none⟩ = some (.int .i64 (s)) ∧ w'.cell? ⟨w.heap.size, 3, none⟩ = some (.int .i64 (t)) ∧ w'.cell? ⟨w.heap.size, 4, none⟩ = some (.int .i32 (i)) ∧ w'.cell? ⟨w.heap.size + 1, 0, none⟩ = some (.int .i64 (op')) ∧ w'.cell? ⟨w.heap.size + 1, 1, none⟩ = some (.int .i64 (d')) ∧ w'.cell? ⟨w.heap.size + 1, 2, none⟩ = some (.int .i64 (s')) ∧ w'.cell? ⟨w.heap.size + 1, 3, none⟩ = some (.int .i64 (t')) ∧ w'.cell? ⟨w.heap.size + 1, 4, none⟩ = some (.int .i32 (i')) ∧ Below w.heap.size w w')
    (first | with_reducible assumption | with_reducible exact keep10 (by assumption) rfl rfl rfl rfl rfl rfl rfl rfl rfl rfl (by assumption) | exact ⟨k0c0, k0c1, k0c2, k0c3, k0c4, k1c0, k1c1, k1c2, k1c3, k1c4, b1.drew⟩)
    (first | (go_at_call 15; with_reducible refine (hT _ (tabs0.below (heldB10 (by with_reducible assumption)))).mono ?_; rintro e w' ⟨rfl, bZ⟩) | (go_at_call 15; with_reducible refine (hU _ (tabs0.below (heldB10 (by with_reducible assumption)))).mono ?_; rintro e w' ⟨rfl, bZ⟩))
  all_goals go_wp2_with fail
  all_goals go_ret
  all_goals refine ⟨rfl, heldB10 (by assumption)⟩
set_option maxHeartbeats 4000000 in
theorem apart_1 (op d s t i d' s' t' i' : Int) (hi : -2147483648 ≤ i ∧ i ≤ 2147483647) (hi' : -2147483648 ≤ i' ∧ i' ≤ 2147483647) (hl : isL op d s t i = true) (hl' : isL op d' s' t' i' = true) (hn : ¬ d = d') (w : World) (tabs : Tabs w) :
    Calls Tryd.prog 6 #[wordV op d s t i, wordV op d' s' t' i'] w fun e w' => e = .returned (.bool true) ∧ Below w.heap.size w w' := by
  have tabs0 := tabs
  have he := fun w tb => enc_true hl w tb
  have he' := fun w tb => enc_true hl' w tb
  have hE : ¬ encL op d s t i = encL op d' s' t' i' := fun e => by have := enc_inj hl hl' e; omega
  have hX : ¬ textL op d s t i = textL op d' s' t' i' := fun e => by have := text_inj hl hl' e; omega
  have hT := fun w tb => text_any op d s t i hi w tb
  have tl : (bs (textL op d s t i)).toList = textL op d s t i := ByteArray.toList_mk _
  have hU := fun w tb => text_any op d' s' t' i' hi' w tb
  have tl' : (bs (textL op d' s' t' i')).toList = textL op d' s' t' i' := ByteArray.toList_mk _
  have hE' : (encL op d s t i == encL op d' s' t' i') = false := by simpa using hE
  have hX' : (textL op d s t i == textL op d' s' t' i') = false := by simpa using hX
  generalize textL op d' s' t' i' = TY at *
  generalize encL op d' s' t' i' = F at *
  generalize textL op d s t i = TX at *
  generalize encL op d s t i = E at *
  clear hl hl'
  go_enter Tryd.func6, Tryd.ntmps6
  go_wp2_with fail
  replace tabs := tabs.below ((Below.refl w.heap.size w).alloc (Nat.le_refl _) (.cells #[.int .i64 (op), .int .i64 (d), .int .i64 (s), .int .i64 (t), .int .i32 (i)] 23))
  have b1 := (Below.refl w.heap.size w).alloc (Nat.le_refl _) (.cells #[.int .i64 (op), .int .i64 (d), .int .i64 (s), .int .i64 (t), .int .i32 (i)] 23)
  have k0 := Below.refl ((w).alloc (.cells #[.int .i64 (op), .int .i64 (d), .int .i64 (s), .int .i64 (t), .int .i32 (i)] 23)).heap.size ((w).alloc (.cells #[.int .i64 (op), .int .i64 (d), .int .i64 (s), .int .i64 (t), .int .i32 (i)] 23))
  replace tabs := tabs.below ((Below.refl ((w).alloc (.cells #[.int .i64 (op), .int .i64 (d), .int .i64 (s), .int .i64 (t), .int .i32 (i)] 23)).heap.size ((w).alloc (.cells #[.int .i64 (op), .int .i64 (d), .int .i64 (s), .int .i64 (t), .int .i32 (i)] 23))).alloc (Nat.le_refl _) (.cells #[.int .i64 (op), .int .i64 (d'), .int .i64 (s'), .int .i64 (t'), .int .i32 (i')] 23))
  replace b1 := b1.alloc b1.size (.cells #[.int .i64 (op), .int .i64 (d'), .int .i64 (s'), .int .i64 (t'), .int .i32 (i')] 23)
  replace k0 := k0.alloc k0.size (.cells #[.int .i64 (op), .int .i64 (d'), .int .i64 (s'), .int .i64 (t'), .int .i32 (i')] 23)
  have k1 := Below.refl ((((w).alloc (.cells #[.int .i64 (op), .int .i64 (d), .int .i64 (s), .int .i64 (t), .int .i32 (i)] 23))).alloc (.cells #[.int .i64 (op), .int .i64 (d'), .int .i64 (s'), .int .i64 (t'), .int .i32 (i')] 23)).heap.size ((((w).alloc (.cells #[.int .i64 (op), .int .i64 (d), .int .i64 (s), .int .i64 (t), .int .i32 (i)] 23))).alloc (.cells #[.int .i64 (op), .int .i64 (d'), .int .i64 (s'), .int .i64 (t'), .int .i32 (i')] 23))
  refine (known_any _ tabs).mono ?_
  rintro e W0 ⟨rfl, bZ⟩
  replace b1 := b1.trans (bZ.mono b1.size)
  replace tabs := tabs.below bZ
  replace k0 := k0.trans (bZ.mono k0.size)
  replace k1 := k1.trans (bZ.mono k1.size)
  clear bZ
  have k0c0 : W0.cell? ⟨(w).heap.size, 0, none⟩ = some (.int .i64 (op)) := own_cell k0 0 _ rfl
  have k0c0a : ∀ o, (W0.alloc o).cell? ⟨(w).heap.size, 0, none⟩ = some (.int .i64 (op)) := own_cell2 k0 0 _ rfl
  have k0c1 : W0.cell? ⟨(w).heap.size, 1, none⟩ = some (.int .i64 (d)) := own_cell k0 1 _ rfl
  have k0c1a : ∀ o, (W0.alloc o).cell? ⟨(w).heap.size, 1, none⟩ = some (.int .i64 (d)) := own_cell2 k0 1 _ rfl
  have k0c2 : W0.cell? ⟨(w).heap.size, 2, none⟩ = some (.int .i64 (s)) := own_cell k0 2 _ rfl
  have k0c2a : ∀ o, (W0.alloc o).cell? ⟨(w).heap.size, 2, none⟩ = some (.int .i64 (s)) := own_cell2 k0 2 _ rfl
  have k0c3 : W0.cell? ⟨(w).heap.size, 3, none⟩ = some (.int .i64 (t)) := own_cell k0 3 _ rfl
  have k0c3a : ∀ o, (W0.alloc o).cell? ⟨(w).heap.size, 3, none⟩ = some (.int .i64 (t)) := own_cell2 k0 3 _ rfl
  have k0c4 : W0.cell? ⟨(w).heap.size, 4, none⟩ = some (.int .i32 (i)) := own_cell k0 4 _ rfl
  have k0c4a : ∀ o, (W0.alloc o).cell? ⟨(w).heap.size, 4, none⟩ = some (.int .i32 (i)) := own_cell2 k0 4 _ rfl
  have k1c0 : W0.cell? ⟨w.heap.size + 1, 0, none⟩ = some (.int .i64 (op)) := by have h := own_cell k1 0 _ rfl; simpa using h
  have k1c1 : W0.cell? ⟨w.heap.size + 1, 1, none⟩ = some (.int .i64 (d')) := by have h := own_cell k1 1 _ rfl; simpa using h
  have k1c2 : W0.cell? ⟨w.heap.size + 1, 2, none⟩ = some (.int .i64 (s')) := by have h := own_cell k1 2 _ rfl; simpa using h
  have k1c3 : W0.cell? ⟨w.heap.size + 1, 3, none⟩ = some (.int .i64 (t')) := by have h := own_cell k1 3 _ rfl; simpa using h
  have k1c4 : W0.cell? ⟨w.heap.size + 1, 4, none⟩ = some (.int .i32 (i')) := by have h := own_cell k1 4 _ rfl; simpa using h
  go_wp2_with fail
  clear k0c0 k0c0a k0c1 k0c1a k0c2 k0c2a k0c3 k0c3a k0c4 k0c4a k1c0 k1c1 k1c2 k1c3 k1c4
  refine (he _ tabs).mono ?_
  rintro e W1 ⟨rfl, bZ⟩
  replace b1 := b1.trans (bZ.mono b1.size)
  replace tabs := tabs.below bZ
  replace k0 := k0.trans (bZ.mono k0.size)
  replace k1 := k1.trans (bZ.mono k1.size)
  clear bZ
  have k0c0 : W1.cell? ⟨(w).heap.size, 0, none⟩ = some (.int .i64 (op)) := own_cell k0 0 _ rfl
  have k0c0a : ∀ o, (W1.alloc o).cell? ⟨(w).heap.size, 0, none⟩ = some (.int .i64 (op)) := own_cell2 k0 0 _ rfl
  have k0c1 : W1.cell? ⟨(w).heap.size, 1, none⟩ = some (.int .i64 (d)) := own_cell k0 1 _ rfl
  have k0c1a : ∀ o, (W1.alloc o).cell? ⟨(w).heap.size, 1, none⟩ = some (.int .i64 (d)) := own_cell2 k0 1 _ rfl
  have k0c2 : W1.cell? ⟨(w).heap.size, 2, none⟩ = some (.int .i64 (s)) := own_cell k0 2 _ rfl
  have k0c2a : ∀ o, (W1.alloc o).cell? ⟨(w).heap.size, 2, none⟩ = some (.int .i64 (s)) := own_cell2 k0 2 _ rfl
  have k0c3 : W1.cell? ⟨(w).heap.size, 3, none⟩ = some (.int .i64 (t)) := own_cell k0 3 _ rfl
  have k0c3a : ∀ o, (W1.alloc o).cell? ⟨(w).heap.size, 3, none⟩ = some (.int .i64 (t)) := own_cell2 k0 3 _ rfl
  have k0c4 : W1.cell? ⟨(w).heap.size, 4, none⟩ = some (.int .i32 (i)) := own_cell k0 4 _ rfl
  have k0c4a : ∀ o, (W1.alloc o).cell? ⟨(w).heap.size, 4, none⟩ = some (.int .i32 (i)) := own_cell2 k0 4 _ rfl
  have k1c0 : W1.cell? ⟨w.heap.size + 1, 0, none⟩ = some (.int .i64 (op)) := by have h := own_cell k1 0 _ rfl; simpa using h
  have k1c1 : W1.cell? ⟨w.heap.size + 1, 1, none⟩ = some (.int .i64 (d')) := by have h := own_cell k1 1 _ rfl; simpa using h
  have k1c2 : W1.cell? ⟨w.heap.size + 1, 2, none⟩ = some (.int .i64 (s')) := by have h := own_cell k1 2 _ rfl; simpa using h
  have k1c3 : W1.cell? ⟨w.heap.size + 1, 3, none⟩ = some (.int .i64 (t')) := by have h := own_cell k1 3 _ rfl; simpa using h
  have k1c4 : W1.cell? ⟨w.heap.size + 1, 4, none⟩ = some (.int .i32 (i')) := by have h := own_cell k1 4 _ rfl; simpa using h
  go_wp2_with fail
  clear k0c0 k0c0a k0c1 k0c1a k0c2 k0c2a k0c3 k0c3a k0c4 k0c4a k1c0 k1c1 k1c2 k1c3 k1c4
  refine (he' _ tabs).mono ?_
  rintro e W2 ⟨rfl, bZ⟩
  replace b1 := b1.trans (bZ.mono b1.size)
  replace tabs := tabs.below bZ
  replace k0 := k0.trans (bZ.mono k0.size)
  replace k1 := k1.trans (bZ.mono k1.size)
  clear bZ
  have k0c0 : W2.cell? ⟨(w).heap.size, 0, none⟩ = some (.int .i64 (op)) := own_cell k0 0 _ rfl
  have k0c0a : ∀ o, (W2.alloc o).cell? ⟨(w).heap.size, 0, none⟩ = some (.int .i64 (op)) := own_cell2 k0 0 _ rfl
  have k0c1 : W2.cell? ⟨(w).heap.size, 1, none⟩ = some (.int .i64 (d)) := own_cell k0 1 _ rfl
  have k0c1a : ∀ o, (W2.alloc o).cell? ⟨(w).heap.size, 1, none⟩ = some (.int .i64 (d)) := own_cell2 k0 1 _ rfl
  have k0c2 : W2.cell? ⟨(w).heap.size, 2, none⟩ = some (.int .i64 (s)) := own_cell k0 2 _ rfl
  have k0c2a : ∀ o, (W2.alloc o).cell? ⟨(w).heap.size, 2, none⟩ = some (.int .i64 (s)) := own_cell2 k0 2 _ rfl
  have k0c3 : W2.cell? ⟨(w).heap.size, 3, none⟩ = some (.int .i64 (t)) := own_cell k0 3 _ rfl
  have k0c3a : ∀ o, (W2.alloc o).cell? ⟨(w).heap.size, 3, none⟩ = some (.int .i64 (t)) := own_cell2 k0 3 _ rfl
  have k0c4 : W2.cell? ⟨(w).heap.size, 4, none⟩ = some (.int .i32 (i)) := own_cell k0 4 _ rfl
  have k0c4a : ∀ o, (W2.alloc o).cell? ⟨(w).heap.size, 4, none⟩ = some (.int .i32 (i)) := own_cell2 k0 4 _ rfl
  have k1c0 : W2.cell? ⟨w.heap.size + 1, 0, none⟩ = some (.int .i64 (op)) := by have h := own_cell k1 0 _ rfl; simpa using h
  have k1c1 : W2.cell? ⟨w.heap.size + 1, 1, none⟩ = some (.int .i64 (d')) := by have h := own_cell k1 1 _ rfl; simpa using h
  have k1c2 : W2.cell? ⟨w.heap.size + 1, 2, none⟩ = some (.int .i64 (s')) := by have h := own_cell k1 2 _ rfl; simpa using h
  have k1c3 : W2.cell? ⟨w.heap.size + 1, 3, none⟩ = some (.int .i64 (t')) := by have h := own_cell k1 3 _ rfl; simpa using h
  have k1c4 : W2.cell? ⟨w.heap.size + 1, 4, none⟩ = some (.int .i32 (i')) := by have h := own_cell k1 4 _ rfl; simpa using h
  go_wp2_with fail
  clear he tabs k0 k1 he' k0c0a k0c1a k0c2a k0c3a k0c4a
  replace b1 : Below w.heap.size w W2 := b1
  go_region_held3 (fun w' => w'.cell? ⟨w.heap.size, 0, none⟩ = some (.int .i64 (op)) ∧ w'.cell? ⟨w.heap.size, 1, none⟩ = some (.int .i64 (d)) ∧ w'.cell? ⟨w.heap.size, 2, none⟩ = some (.int .i64 (s)) ∧ w'.cell? ⟨w.heap.size, 3, none⟩ = some (.int .i64 (t)) ∧ w'.cell? ⟨w.heap.size, 4, none⟩ = some (.int .i32 (i)) ∧ w'.cell? ⟨w.heap.size + 1, 0, none⟩ = some (.int .i64 (op)) ∧ w'.cell? ⟨w.heap.size + 1, 1, none⟩ = some (.int .i64 (d')) ∧ w'.cell? ⟨w.heap.size + 1, 2, none⟩ = some (.int .i64 (s')) ∧ w'.cell? ⟨w.heap.size + 1, 3, none⟩ = some (.int .i64 (t')) ∧ w'.cell? ⟨w.heap.size + 1, 4, none⟩ = some (.int .i32 (i')) ∧ Below w.heap.size w w')
    (first | with_reducible assumption | with_reducible exact keep10 (by assumption) rfl rfl rfl rfl rfl rfl rfl rfl rfl rfl (by assumption) | exact ⟨k0c0, k0c1, k0c2, k0c3, k0c4, k1c0, k1c1, k1c2, k1c3, k1c4, b1.drew⟩)
    (first | (go_at_call 15; with_reducible refine (hT _ (tabs0.below (heldB10 (by with_reducible assumption)))).mono ?_; rintro e w' ⟨rfl, bZ⟩) | (go_at_call 15; with_reducible refine (hU _ (tabs0.below (heldB10 (by with_reducible assumption)))).mono ?_; rintro e w' ⟨rfl, bZ⟩))
  all_goals go_wp2_with fail
  all_goals go_ret
  all_goals refine ⟨rfl, heldB10 (by assumption)⟩
set_option maxHeartbeats 4000000 in
theorem apart_2 (op d s t i s' t' i' : Int) (hi : -2147483648 ≤ i ∧ i ≤ 2147483647) (hi' : -2147483648 ≤ i' ∧ i' ≤ 2147483647) (hl : isL op d s t i = true) (hl' : isL op d s' t' i' = true) (hn : ¬ s = s') (w : World) (tabs : Tabs w) :
    Calls Tryd.prog 6 #[wordV op d s t i, wordV op d s' t' i'] w fun e w' => e = .returned (.bool true) ∧ Below w.heap.size w w' := by
  have tabs0 := tabs
  have he := fun w tb => enc_true hl w tb
  have he' := fun w tb => enc_true hl' w tb
  have hE : ¬ encL op d s t i = encL op d s' t' i' := fun e => by have := enc_inj hl hl' e; omega
  have hX : ¬ textL op d s t i = textL op d s' t' i' := fun e => by have := text_inj hl hl' e; omega
  have hT := fun w tb => text_any op d s t i hi w tb
  have tl : (bs (textL op d s t i)).toList = textL op d s t i := ByteArray.toList_mk _
  have hU := fun w tb => text_any op d s' t' i' hi' w tb
  have tl' : (bs (textL op d s' t' i')).toList = textL op d s' t' i' := ByteArray.toList_mk _
  have hE' : (encL op d s t i == encL op d s' t' i') = false := by simpa using hE
  have hX' : (textL op d s t i == textL op d s' t' i') = false := by simpa using hX
  generalize textL op d s' t' i' = TY at *
  generalize encL op d s' t' i' = F at *
  generalize textL op d s t i = TX at *
  generalize encL op d s t i = E at *
  clear hl hl'
  go_enter Tryd.func6, Tryd.ntmps6
  go_wp2_with fail
  replace tabs := tabs.below ((Below.refl w.heap.size w).alloc (Nat.le_refl _) (.cells #[.int .i64 (op), .int .i64 (d), .int .i64 (s), .int .i64 (t), .int .i32 (i)] 23))
  have b1 := (Below.refl w.heap.size w).alloc (Nat.le_refl _) (.cells #[.int .i64 (op), .int .i64 (d), .int .i64 (s), .int .i64 (t), .int .i32 (i)] 23)
  have k0 := Below.refl ((w).alloc (.cells #[.int .i64 (op), .int .i64 (d), .int .i64 (s), .int .i64 (t), .int .i32 (i)] 23)).heap.size ((w).alloc (.cells #[.int .i64 (op), .int .i64 (d), .int .i64 (s), .int .i64 (t), .int .i32 (i)] 23))
  replace tabs := tabs.below ((Below.refl ((w).alloc (.cells #[.int .i64 (op), .int .i64 (d), .int .i64 (s), .int .i64 (t), .int .i32 (i)] 23)).heap.size ((w).alloc (.cells #[.int .i64 (op), .int .i64 (d), .int .i64 (s), .int .i64 (t), .int .i32 (i)] 23))).alloc (Nat.le_refl _) (.cells #[.int .i64 (op), .int .i64 (d), .int .i64 (s'), .int .i64 (t'), .int .i32 (i')] 23))
  replace b1 := b1.alloc b1.size (.cells #[.int .i64 (op), .int .i64 (d), .int .i64 (s'), .int .i64 (t'), .int .i32 (i')] 23)
  replace k0 := k0.alloc k0.size (.cells #[.int .i64 (op), .int .i64 (d), .int .i64 (s'), .int .i64 (t'), .int .i32 (i')] 23)
  have k1 := Below.refl ((((w).alloc (.cells #[.int .i64 (op), .int .i64 (d), .int .i64 (s), .int .i64 (t), .int .i32 (i)] 23))).alloc (.cells #[.int .i64 (op), .int .i64 (d), .int .i64 (s'), .int .i64 (t'), .int .i32 (i')] 23)).heap.size ((((w).alloc (.cells #[.int .i64 (op), .int .i64 (d), .int .i64 (s), .int .i64 (t), .int .i32 (i)] 23))).alloc (.cells #[.int .i64 (op), .int .i64 (d), .int .i64 (s'), .int .i64 (t'), .int .i32 (i')] 23))
  refine (known_any _ tabs).mono ?_
  rintro e W0 ⟨rfl, bZ⟩
  replace b1 := b1.trans (bZ.mono b1.size)
  replace tabs := tabs.below bZ
  replace k0 := k0.trans (bZ.mono k0.size)
  replace k1 := k1.trans (bZ.mono k1.size)
  clear bZ
  have k0c0 : W0.cell? ⟨(w).heap.size, 0, none⟩ = some (.int .i64 (op)) := own_cell k0 0 _ rfl
  have k0c0a : ∀ o, (W0.alloc o).cell? ⟨(w).heap.size, 0, none⟩ = some (.int .i64 (op)) := own_cell2 k0 0 _ rfl
  have k0c1 : W0.cell? ⟨(w).heap.size, 1, none⟩ = some (.int .i64 (d)) := own_cell k0 1 _ rfl
  have k0c1a : ∀ o, (W0.alloc o).cell? ⟨(w).heap.size, 1, none⟩ = some (.int .i64 (d)) := own_cell2 k0 1 _ rfl
  have k0c2 : W0.cell? ⟨(w).heap.size, 2, none⟩ = some (.int .i64 (s)) := own_cell k0 2 _ rfl
  have k0c2a : ∀ o, (W0.alloc o).cell? ⟨(w).heap.size, 2, none⟩ = some (.int .i64 (s)) := own_cell2 k0 2 _ rfl
  have k0c3 : W0.cell? ⟨(w).heap.size, 3, none⟩ = some (.int .i64 (t)) := own_cell k0 3 _ rfl
  have k0c3a : ∀ o, (W0.alloc o).cell? ⟨(w).heap.size, 3, none⟩ = some (.int .i64 (t)) := own_cell2 k0 3 _ rfl
  have k0c4 : W0.cell? ⟨(w).heap.size, 4, none⟩ = some (.int .i32 (i)) := own_cell k0 4 _ rfl
  have k0c4a : ∀ o, (W0.alloc o).cell? ⟨(w).heap.size, 4, none⟩ = some (.int .i32 (i)) := own_cell2 k0 4 _ rfl
  have k1c0 : W0.cell? ⟨w.heap.size + 1, 0, none⟩ = some (.int .i64 (op)) := by have h := own_cell k1 0 _ rfl; simpa using h
  have k1c1 : W0.cell? ⟨w.heap.size + 1, 1, none⟩ = some (.int .i64 (d)) := by have h := own_cell k1 1 _ rfl; simpa using h
  have k1c2 : W0.cell? ⟨w.heap.size + 1, 2, none⟩ = some (.int .i64 (s')) := by have h := own_cell k1 2 _ rfl; simpa using h
  have k1c3 : W0.cell? ⟨w.heap.size + 1, 3, none⟩ = some (.int .i64 (t')) := by have h := own_cell k1 3 _ rfl; simpa using h
  have k1c4 : W0.cell? ⟨w.heap.size + 1, 4, none⟩ = some (.int .i32 (i')) := by have h := own_cell k1 4 _ rfl; simpa using h
  go_wp2_with fail
  clear k0c0 k0c0a k0c1 k0c1a k0c2 k0c2a k0c3 k0c3a k0c4 k0c4a k1c0 k1c1 k1c2 k1c3 k1c4
  refine (he _ tabs).mono ?_
  rintro e W1 ⟨rfl, bZ⟩
  replace b1 := b1.trans (bZ.mono b1.size)
  replace tabs := tabs.below bZ
  replace k0 := k0.trans (bZ.mono k0.size)
  replace k1 := k1.trans (bZ.mono k1.size)
  clear bZ
  have k0c0 : W1.cell? ⟨(w).heap.size, 0, none⟩ = some (.int .i64 (op)) := own_cell k0 0 _ rfl
  have k0c0a : ∀ o, (W1.alloc o).cell? ⟨(w).heap.size, 0, none⟩ = some (.int .i64 (op)) := own_cell2 k0 0 _ rfl
  have k0c1 : W1.cell? ⟨(w).heap.size, 1, none⟩ = some (.int .i64 (d)) := own_cell k0 1 _ rfl
  have k0c1a : ∀ o, (W1.alloc o).cell? ⟨(w).heap.size, 1, none⟩ = some (.int .i64 (d)) := own_cell2 k0 1 _ rfl
  have k0c2 : W1.cell? ⟨(w).heap.size, 2, none⟩ = some (.int .i64 (s)) := own_cell k0 2 _ rfl
  have k0c2a : ∀ o, (W1.alloc o).cell? ⟨(w).heap.size, 2, none⟩ = some (.int .i64 (s)) := own_cell2 k0 2 _ rfl
  have k0c3 : W1.cell? ⟨(w).heap.size, 3, none⟩ = some (.int .i64 (t)) := own_cell k0 3 _ rfl
  have k0c3a : ∀ o, (W1.alloc o).cell? ⟨(w).heap.size, 3, none⟩ = some (.int .i64 (t)) := own_cell2 k0 3 _ rfl
  have k0c4 : W1.cell? ⟨(w).heap.size, 4, none⟩ = some (.int .i32 (i)) := own_cell k0 4 _ rfl
  have k0c4a : ∀ o, (W1.alloc o).cell? ⟨(w).heap.size, 4, none⟩ = some (.int .i32 (i)) := own_cell2 k0 4 _ rfl
  have k1c0 : W1.cell? ⟨w.heap.size + 1, 0, none⟩ = some (.int .i64 (op)) := by have h := own_cell k1 0 _ rfl; simpa using h
  have k1c1 : W1.cell? ⟨w.heap.size + 1, 1, none⟩ = some (.int .i64 (d)) := by have h := own_cell k1 1 _ rfl; simpa using h
  have k1c2 : W1.cell? ⟨w.heap.size + 1, 2, none⟩ = some (.int .i64 (s')) := by have h := own_cell k1 2 _ rfl; simpa using h
  have k1c3 : W1.cell? ⟨w.heap.size + 1, 3, none⟩ = some (.int .i64 (t')) := by have h := own_cell k1 3 _ rfl; simpa using h
  have k1c4 : W1.cell? ⟨w.heap.size + 1, 4, none⟩ = some (.int .i32 (i')) := by have h := own_cell k1 4 _ rfl; simpa using h
  go_wp2_with fail
  clear k0c0 k0c0a k0c1 k0c1a k0c2 k0c2a k0c3 k0c3a k0c4 k0c4a k1c0 k1c1 k1c2 k1c3 k1c4
  refine (he' _ tabs).mono ?_
  rintro e W2 ⟨rfl, bZ⟩
  replace b1 := b1.trans (bZ.mono b1.size)
  replace tabs := tabs.below bZ
  replace k0 := k0.trans (bZ.mono k0.size)
  replace k1 := k1.trans (bZ.mono k1.size)
  clear bZ
  have k0c0 : W2.cell? ⟨(w).heap.size, 0, none⟩ = some (.int .i64 (op)) := own_cell k0 0 _ rfl
  have k0c0a : ∀ o, (W2.alloc o).cell? ⟨(w).heap.size, 0, none⟩ = some (.int .i64 (op)) := own_cell2 k0 0 _ rfl
  have k0c1 : W2.cell? ⟨(w).heap.size, 1, none⟩ = some (.int .i64 (d)) := own_cell k0 1 _ rfl
  have k0c1a : ∀ o, (W2.alloc o).cell? ⟨(w).heap.size, 1, none⟩ = some (.int .i64 (d)) := own_cell2 k0 1 _ rfl
  have k0c2 : W2.cell? ⟨(w).heap.size, 2, none⟩ = some (.int .i64 (s)) := own_cell k0 2 _ rfl
  have k0c2a : ∀ o, (W2.alloc o).cell? ⟨(w).heap.size, 2, none⟩ = some (.int .i64 (s)) := own_cell2 k0 2 _ rfl
  have k0c3 : W2.cell? ⟨(w).heap.size, 3, none⟩ = some (.int .i64 (t)) := own_cell k0 3 _ rfl
  have k0c3a : ∀ o, (W2.alloc o).cell? ⟨(w).heap.size, 3, none⟩ = some (.int .i64 (t)) := own_cell2 k0 3 _ rfl
  have k0c4 : W2.cell? ⟨(w).heap.size, 4, none⟩ = some (.int .i32 (i)) := own_cell k0 4 _ rfl
  have k0c4a : ∀ o, (W2.alloc o).cell? ⟨(w).heap.size, 4, none⟩ = some (.int .i32 (i)) := own_cell2 k0 4 _ rfl
  have k1c0 : W2.cell? ⟨w.heap.size + 1, 0, none⟩ = some (.int .i64 (op)) := by have h := own_cell k1 0 _ rfl; simpa using h
  have k1c1 : W2.cell? ⟨w.heap.size + 1, 1, none⟩ = some (.int .i64 (d)) := by have h := own_cell k1 1 _ rfl; simpa using h
  have k1c2 : W2.cell? ⟨w.heap.size + 1, 2, none⟩ = some (.int .i64 (s')) := by have h := own_cell k1 2 _ rfl; simpa using h
  have k1c3 : W2.cell? ⟨w.heap.size + 1, 3, none⟩ = some (.int .i64 (t')) := by have h := own_cell k1 3 _ rfl; simpa using h
  have k1c4 : W2.cell? ⟨w.heap.size + 1, 4, none⟩ = some (.int .i32 (i')) := by have h := own_cell k1 4 _ rfl; simpa using h
  go_wp2_with fail
  clear he tabs k0 k1 he' k0c0a k0c1a k0c2a k0c3a k0c4a
  replace b1 : Below w.heap.size w W2 := b1
  go_region_held3 (fun w' => w'.cell? ⟨w.heap.size, 0, none⟩ = some (.int .i64 (op)) ∧ w'.cell? ⟨w.heap.size, 1, none⟩ = some (.int .i64 (d)) ∧ w'.cell? ⟨w.heap.size, 2, none⟩ = some (.int .i64 (s)) ∧ w'.cell? ⟨w.heap.size, 3, none⟩ = some (.int .i64 (t)) ∧ w'.cell? ⟨w.heap.size, 4, none⟩ = some (.int .i32 (i)) ∧ w'.cell? ⟨w.heap.size + 1, 0, none⟩ = some (.int .i64 (op)) ∧ w'.cell? ⟨w.heap.size + 1, 1, none⟩ = some (.int .i64 (d)) ∧ w'.cell? ⟨w.heap.size + 1, 2, none⟩ = some (.int .i64 (s')) ∧ w'.cell? ⟨w.heap.size + 1, 3, none⟩ = some (.int .i64 (t')) ∧ w'.cell? ⟨w.heap.size + 1, 4, none⟩ = some (.int .i32 (i')) ∧ Below w.heap.size w w')
    (first | with_reducible assumption | with_reducible exact keep10 (by assumption) rfl rfl rfl rfl rfl rfl rfl rfl rfl rfl (by assumption) | exact ⟨k0c0, k0c1, k0c2, k0c3, k0c4, k1c0, k1c1, k1c2, k1c3, k1c4, b1.drew⟩)
    (first | (go_at_call 15; with_reducible refine (hT _ (tabs0.below (heldB10 (by with_reducible assumption)))).mono ?_; rintro e w' ⟨rfl, bZ⟩) | (go_at_call 15; with_reducible refine (hU _ (tabs0.below (heldB10 (by with_reducible assumption)))).mono ?_; rintro e w' ⟨rfl, bZ⟩))
  all_goals go_wp2_with fail
  all_goals go_ret
  all_goals refine ⟨rfl, heldB10 (by assumption)⟩
set_option maxHeartbeats 4000000 in
theorem apart_3 (op d s t i t' i' : Int) (hi : -2147483648 ≤ i ∧ i ≤ 2147483647) (hi' : -2147483648 ≤ i' ∧ i' ≤ 2147483647) (hl : isL op d s t i = true) (hl' : isL op d s t' i' = true) (hn : ¬ t = t') (w : World) (tabs : Tabs w) :
    Calls Tryd.prog 6 #[wordV op d s t i, wordV op d s t' i'] w fun e w' => e = .returned (.bool true) ∧ Below w.heap.size w w' := by
  have tabs0 := tabs
  have he := fun w tb => enc_true hl w tb
  have he' := fun w tb => enc_true hl' w tb
  have hE : ¬ encL op d s t i = encL op d s t' i' := fun e => by have := enc_inj hl hl' e; omega
  have hX : ¬ textL op d s t i = textL op d s t' i' := fun e => by have := text_inj hl hl' e; omega
  have hT := fun w tb => text_any op d s t i hi w tb
  have tl : (bs (textL op d s t i)).toList = textL op d s t i := ByteArray.toList_mk _
  have hU := fun w tb => text_any op d s t' i' hi' w tb
  have tl' : (bs (textL op d s t' i')).toList = textL op d s t' i' := ByteArray.toList_mk _
  have hE' : (encL op d s t i == encL op d s t' i') = false := by simpa using hE
  have hX' : (textL op d s t i == textL op d s t' i') = false := by simpa using hX
  generalize textL op d s t' i' = TY at *
  generalize encL op d s t' i' = F at *
  generalize textL op d s t i = TX at *
  generalize encL op d s t i = E at *
  clear hl hl'
  go_enter Tryd.func6, Tryd.ntmps6
  go_wp2_with fail
  replace tabs := tabs.below ((Below.refl w.heap.size w).alloc (Nat.le_refl _) (.cells #[.int .i64 (op), .int .i64 (d), .int .i64 (s), .int .i64 (t), .int .i32 (i)] 23))
  have b1 := (Below.refl w.heap.size w).alloc (Nat.le_refl _) (.cells #[.int .i64 (op), .int .i64 (d), .int .i64 (s), .int .i64 (t), .int .i32 (i)] 23)
  have k0 := Below.refl ((w).alloc (.cells #[.int .i64 (op), .int .i64 (d), .int .i64 (s), .int .i64 (t), .int .i32 (i)] 23)).heap.size ((w).alloc (.cells #[.int .i64 (op), .int .i64 (d), .int .i64 (s), .int .i64 (t), .int .i32 (i)] 23))
  replace tabs := tabs.below ((Below.refl ((w).alloc (.cells #[.int .i64 (op), .int .i64 (d), .int .i64 (s), .int .i64 (t), .int .i32 (i)] 23)).heap.size ((w).alloc (.cells #[.int .i64 (op), .int .i64 (d), .int .i64 (s), .int .i64 (t), .int .i32 (i)] 23))).alloc (Nat.le_refl _) (.cells #[.int .i64 (op), .int .i64 (d), .int .i64 (s), .int .i64 (t'), .int .i32 (i')] 23))
  replace b1 := b1.alloc b1.size (.cells #[.int .i64 (op), .int .i64 (d), .int .i64 (s), .int .i64 (t'), .int .i32 (i')] 23)
  replace k0 := k0.alloc k0.size (.cells #[.int .i64 (op), .int .i64 (d), .int .i64 (s), .int .i64 (t'), .int .i32 (i')] 23)
  have k1 := Below.refl ((((w).alloc (.cells #[.int .i64 (op), .int .i64 (d), .int .i64 (s), .int .i64 (t), .int .i32 (i)] 23))).alloc (.cells #[.int .i64 (op), .int .i64 (d), .int .i64 (s), .int .i64 (t'), .int .i32 (i')] 23)).heap.size ((((w).alloc (.cells #[.int .i64 (op), .int .i64 (d), .int .i64 (s), .int .i64 (t), .int .i32 (i)] 23))).alloc (.cells #[.int .i64 (op), .int .i64 (d), .int .i64 (s), .int .i64 (t'), .int .i32 (i')] 23))
  refine (known_any _ tabs).mono ?_
  rintro e W0 ⟨rfl, bZ⟩
  replace b1 := b1.trans (bZ.mono b1.size)
  replace tabs := tabs.below bZ
  replace k0 := k0.trans (bZ.mono k0.size)
  replace k1 := k1.trans (bZ.mono k1.size)
  clear bZ
  have k0c0 : W0.cell? ⟨(w).heap.size, 0, none⟩ = some (.int .i64 (op)) := own_cell k0 0 _ rfl
  have k0c0a : ∀ o, (W0.alloc o).cell? ⟨(w).heap.size, 0, none⟩ = some (.int .i64 (op)) := own_cell2 k0 0 _ rfl
  have k0c1 : W0.cell? ⟨(w).heap.size, 1, none⟩ = some (.int .i64 (d)) := own_cell k0 1 _ rfl
  have k0c1a : ∀ o, (W0.alloc o).cell? ⟨(w).heap.size, 1, none⟩ = some (.int .i64 (d)) := own_cell2 k0 1 _ rfl
  have k0c2 : W0.cell? ⟨(w).heap.size, 2, none⟩ = some (.int .i64 (s)) := own_cell k0 2 _ rfl
  have k0c2a : ∀ o, (W0.alloc o).cell? ⟨(w).heap.size, 2, none⟩ = some (.int .i64 (s)) := own_cell2 k0 2 _ rfl
  have k0c3 : W0.cell? ⟨(w).heap.size, 3, none⟩ = some (.int .i64 (t)) := own_cell k0 3 _ rfl
  have k0c3a : ∀ o, (W0.alloc o).cell? ⟨(w).heap.size, 3, none⟩ = some (.int .i64 (t)) := own_cell2 k0 3 _ rfl
  have k0c4 : W0.cell? ⟨(w).heap.size, 4, none⟩ = some (.int .i32 (i)) := own_cell k0 4 _ rfl
  have k0c4a : ∀ o, (W0.alloc o).cell? ⟨(w).heap.size, 4, none⟩ = some (.int .i32 (i)) := own_cell2 k0 4 _ rfl
  have k1c0 : W0.cell? ⟨w.heap.size + 1, 0, none⟩ = some (.int .i64 (op)) := by have h := own_cell k1 0 _ rfl; simpa using h
  have k1c1 : W0.cell? ⟨w.heap.size + 1, 1, none⟩ = some (.int .i64 (d)) := by have h := own_cell k1 1 _ rfl; simpa using h
  have k1c2 : W0.cell? ⟨w.heap.size + 1, 2, none⟩ = some (.int .i64 (s)) := by have h := own_cell k1 2 _ rfl; simpa using h
  have k1c3 : W0.cell? ⟨w.heap.size + 1, 3, none⟩ = some (.int .i64 (t')) := by have h := own_cell k1 3 _ rfl; simpa using h
  have k1c4 : W0.cell? ⟨w.heap.size + 1, 4, none⟩ = some (.int .i32 (i')) := by have h := own_cell k1 4 _ rfl; simpa using h
  go_wp2_with fail
  clear k0c0 k0c0a k0c1 k0c1a k0c2 k0c2a k0c3 k0c3a k0c4 k0c4a k1c0 k1c1 k1c2 k1c3 k1c4
  refine (he _ tabs).mono ?_
  rintro e W1 ⟨rfl, bZ⟩
  replace b1 := b1.trans (bZ.mono b1.size)
  replace tabs := tabs.below bZ
  replace k0 := k0.trans (bZ.mono k0.size)
  replace k1 := k1.trans (bZ.mono k1.size)
  clear bZ
  have k0c0 : W1.cell? ⟨(w).heap.size, 0, none⟩ = some (.int .i64 (op)) := own_cell k0 0 _ rfl
  have k0c0a : ∀ o, (W1.alloc o).cell? ⟨(w).heap.size, 0, none⟩ = some (.int .i64 (op)) := own_cell2 k0 0 _ rfl
  have k0c1 : W1.cell? ⟨(w).heap.size, 1, none⟩ = some (.int .i64 (d)) := own_cell k0 1 _ rfl
  have k0c1a : ∀ o, (W1.alloc o).cell? ⟨(w).heap.size, 1, none⟩ = some (.int .i64 (d)) := own_cell2 k0 1 _ rfl
  have k0c2 : W1.cell? ⟨(w).heap.size, 2, none⟩ = some (.int .i64 (s)) := own_cell k0 2 _ rfl
  have k0c2a : ∀ o, (W1.alloc o).cell? ⟨(w).heap.size, 2, none⟩ = some (.int .i64 (s)) := own_cell2 k0 2 _ rfl
  have k0c3 : W1.cell? ⟨(w).heap.size, 3, none⟩ = some (.int .i64 (t)) := own_cell k0 3 _ rfl
  have k0c3a : ∀ o, (W1.alloc o).cell? ⟨(w).heap.size, 3, none⟩ = some (.int .i64 (t)) := own_cell2 k0 3 _ rfl
  have k0c4 : W1.cell? ⟨(w).heap.size, 4, none⟩ = some (.int .i32 (i)) := own_cell k0 4 _ rfl
  have k0c4a : ∀ o, (W1.alloc o).cell? ⟨(w).heap.size, 4, none⟩ = some (.int .i32 (i)) := own_cell2 k0 4 _ rfl
  have k1c0 : W1.cell? ⟨w.heap.size + 1, 0, none⟩ = some (.int .i64 (op)) := by have h := own_cell k1 0 _ rfl; simpa using h
  have k1c1 : W1.cell? ⟨w.heap.size + 1, 1, none⟩ = some (.int .i64 (d)) := by have h := own_cell k1 1 _ rfl; simpa using h
  have k1c2 : W1.cell? ⟨w.heap.size + 1, 2, none⟩ = some (.int .i64 (s)) := by have h := own_cell k1 2 _ rfl; simpa using h
  have k1c3 : W1.cell? ⟨w.heap.size + 1, 3, none⟩ = some (.int .i64 (t')) := by have h := own_cell k1 3 _ rfl; simpa using h
  have k1c4 : W1.cell? ⟨w.heap.size + 1, 4, none⟩ = some (.int .i32 (i')) := by have h := own_cell k1 4 _ rfl; simpa using h
  go_wp2_with fail
  clear k0c0 k0c0a k0c1 k0c1a k0c2 k0c2a k0c3 k0c3a k0c4 k0c4a k1c0 k1c1 k1c2 k1c3 k1c4
  refine (he' _ tabs).mono ?_
  rintro e W2 ⟨rfl, bZ⟩
  replace b1 := b1.trans (bZ.mono b1.size)
  replace tabs := tabs.below bZ
  replace k0 := k0.trans (bZ.mono k0.size)
  replace k1 := k1.trans (bZ.mono k1.size)
  clear bZ
  have k0c0 : W2.cell? ⟨(w).heap.size, 0, none⟩ = some (.int .i64 (op)) := own_cell k0 0 _ rfl
  have k0c0a : ∀ o, (W2.alloc o).cell? ⟨(w).heap.size, 0, none⟩ = some (.int .i64 (op)) := own_cell2 k0 0 _ rfl
  have k0c1 : W2.cell? ⟨(w).heap.size, 1, none⟩ = some (.int .i64 (d)) := own_cell k0 1 _ rfl
  have k0c1a : ∀ o, (W2.alloc o).cell? ⟨(w).heap.size, 1, none⟩ = some (.int .i64 (d)) := own_cell2 k0 1 _ rfl
  have k0c2 : W2.cell? ⟨(w).heap.size, 2, none⟩ = some (.int .i64 (s)) := own_cell k0 2 _ rfl
  have k0c2a : ∀ o, (W2.alloc o).cell? ⟨(w).heap.size, 2, none⟩ = some (.int .i64 (s)) := own_cell2 k0 2 _ rfl
  have k0c3 : W2.cell? ⟨(w).heap.size, 3, none⟩ = some (.int .i64 (t)) := own_cell k0 3 _ rfl
  have k0c3a : ∀ o, (W2.alloc o).cell? ⟨(w).heap.size, 3, none⟩ = some (.int .i64 (t)) := own_cell2 k0 3 _ rfl
  have k0c4 : W2.cell? ⟨(w).heap.size, 4, none⟩ = some (.int .i32 (i)) := own_cell k0 4 _ rfl
  have k0c4a : ∀ o, (W2.alloc o).cell? ⟨(w).heap.size, 4, none⟩ = some (.int .i32 (i)) := own_cell2 k0 4 _ rfl
  have k1c0 : W2.cell? ⟨w.heap.size + 1, 0, none⟩ = some (.int .i64 (op)) := by have h := own_cell k1 0 _ rfl; simpa using h
  have k1c1 : W2.cell? ⟨w.heap.size + 1, 1, none⟩ = some (.int .i64 (d)) := by have h := own_cell k1 1 _ rfl; simpa using h
  have k1c2 : W2.cell? ⟨w.heap.size + 1, 2, none⟩ = some (.int .i64 (s)) := by have h := own_cell k1 2 _ rfl; simpa using h
  have k1c3 : W2.cell? ⟨w.heap.size + 1, 3, none⟩ = some (.int .i64 (t')) := by have h := own_cell k1 3 _ rfl; simpa using h
  have k1c4 : W2.cell? ⟨w.heap.size + 1, 4, none⟩ = some (.int .i32 (i')) := by have h := own_cell k1 4 _ rfl; simpa using h
  go_wp2_with fail
  clear he tabs k0 k1 he' k0c0a k0c1a k0c2a k0c3a k0c4a
  replace b1 : Below w.heap.size w W2 := b1
  go_region_held3 (fun w' => w'.cell? ⟨w.heap.size, 0, none⟩ = some (.int .i64 (op)) ∧ w'.cell? ⟨w.heap.size, 1, none⟩ = some (.int .i64 (d)) ∧ w'.cell? ⟨w.heap.size, 2, none⟩ = some (.int .i64 (s)) ∧ w'.cell? ⟨w.heap.size, 3, none⟩ = some (.int .i64 (t)) ∧ w'.cell? ⟨w.heap.size, 4, none⟩ = some (.int .i32 (i)) ∧ w'.cell? ⟨w.heap.size + 1, 0, none⟩ = some (.int .i64 (op)) ∧ w'.cell? ⟨w.heap.size + 1, 1, none⟩ = some (.int .i64 (d)) ∧ w'.cell? ⟨w.heap.size + 1, 2, none⟩ = some (.int .i64 (s)) ∧ w'.cell? ⟨w.heap.size + 1, 3, none⟩ = some (.int .i64 (t')) ∧ w'.cell? ⟨w.heap.size + 1, 4, none⟩ = some (.int .i32 (i')) ∧ Below w.heap.size w w')
    (first | with_reducible assumption | with_reducible exact keep10 (by assumption) rfl rfl rfl rfl rfl rfl rfl rfl rfl rfl (by assumption) | exact ⟨k0c0, k0c1, k0c2, k0c3, k0c4, k1c0, k1c1, k1c2, k1c3, k1c4, b1.drew⟩)
    (first | (go_at_call 15; with_reducible refine (hT _ (tabs0.below (heldB10 (by with_reducible assumption)))).mono ?_; rintro e w' ⟨rfl, bZ⟩) | (go_at_call 15; with_reducible refine (hU _ (tabs0.below (heldB10 (by with_reducible assumption)))).mono ?_; rintro e w' ⟨rfl, bZ⟩))
  all_goals go_wp2_with fail
  all_goals go_ret
  all_goals refine ⟨rfl, heldB10 (by assumption)⟩
set_option maxHeartbeats 4000000 in
theorem apart_4 (op d s t i i' : Int) (hi : -2147483648 ≤ i ∧ i ≤ 2147483647) (hi' : -2147483648 ≤ i' ∧ i' ≤ 2147483647) (hl : isL op d s t i = true) (hl' : isL op d s t i' = true) (hn : ¬ i = i') (w : World) (tabs : Tabs w) :
    Calls Tryd.prog 6 #[wordV op d s t i, wordV op d s t i'] w fun e w' => e = .returned (.bool true) ∧ Below w.heap.size w w' := by
  have tabs0 := tabs
  have he := fun w tb => enc_true hl w tb
  have he' := fun w tb => enc_true hl' w tb
  have hE : ¬ encL op d s t i = encL op d s t i' := fun e => by have := enc_inj hl hl' e; omega
  have hX : ¬ textL op d s t i = textL op d s t i' := fun e => by have := text_inj hl hl' e; omega
  have hT := fun w tb => text_any op d s t i hi w tb
  have tl : (bs (textL op d s t i)).toList = textL op d s t i := ByteArray.toList_mk _
  have hU := fun w tb => text_any op d s t i' hi' w tb
  have tl' : (bs (textL op d s t i')).toList = textL op d s t i' := ByteArray.toList_mk _
  have hE' : (encL op d s t i == encL op d s t i') = false := by simpa using hE
  have hX' : (textL op d s t i == textL op d s t i') = false := by simpa using hX
  generalize textL op d s t i' = TY at *
  generalize encL op d s t i' = F at *
  generalize textL op d s t i = TX at *
  generalize encL op d s t i = E at *
  clear hl hl'
  go_enter Tryd.func6, Tryd.ntmps6
  go_wp2_with fail
  replace tabs := tabs.below ((Below.refl w.heap.size w).alloc (Nat.le_refl _) (.cells #[.int .i64 (op), .int .i64 (d), .int .i64 (s), .int .i64 (t), .int .i32 (i)] 23))
  have b1 := (Below.refl w.heap.size w).alloc (Nat.le_refl _) (.cells #[.int .i64 (op), .int .i64 (d), .int .i64 (s), .int .i64 (t), .int .i32 (i)] 23)
  have k0 := Below.refl ((w).alloc (.cells #[.int .i64 (op), .int .i64 (d), .int .i64 (s), .int .i64 (t), .int .i32 (i)] 23)).heap.size ((w).alloc (.cells #[.int .i64 (op), .int .i64 (d), .int .i64 (s), .int .i64 (t), .int .i32 (i)] 23))
  replace tabs := tabs.below ((Below.refl ((w).alloc (.cells #[.int .i64 (op), .int .i64 (d), .int .i64 (s), .int .i64 (t), .int .i32 (i)] 23)).heap.size ((w).alloc (.cells #[.int .i64 (op), .int .i64 (d), .int .i64 (s), .int .i64 (t), .int .i32 (i)] 23))).alloc (Nat.le_refl _) (.cells #[.int .i64 (op), .int .i64 (d), .int .i64 (s), .int .i64 (t), .int .i32 (i')] 23))
  replace b1 := b1.alloc b1.size (.cells #[.int .i64 (op), .int .i64 (d), .int .i64 (s), .int .i64 (t), .int .i32 (i')] 23)
  replace k0 := k0.alloc k0.size (.cells #[.int .i64 (op), .int .i64 (d), .int .i64 (s), .int .i64 (t), .int .i32 (i')] 23)
  have k1 := Below.refl ((((w).alloc (.cells #[.int .i64 (op), .int .i64 (d), .int .i64 (s), .int .i64 (t), .int .i32 (i)] 23))).alloc (.cells #[.int .i64 (op), .int .i64 (d), .int .i64 (s), .int .i64 (t), .int .i32 (i')] 23)).heap.size ((((w).alloc (.cells #[.int .i64 (op), .int .i64 (d), .int .i64 (s), .int .i64 (t), .int .i32 (i)] 23))).alloc (.cells #[.int .i64 (op), .int .i64 (d), .int .i64 (s), .int .i64 (t), .int .i32 (i')] 23))
  refine (known_any _ tabs).mono ?_
  rintro e W0 ⟨rfl, bZ⟩
  replace b1 := b1.trans (bZ.mono b1.size)
  replace tabs := tabs.below bZ
  replace k0 := k0.trans (bZ.mono k0.size)
  replace k1 := k1.trans (bZ.mono k1.size)
  clear bZ
  have k0c0 : W0.cell? ⟨(w).heap.size, 0, none⟩ = some (.int .i64 (op)) := own_cell k0 0 _ rfl
  have k0c0a : ∀ o, (W0.alloc o).cell? ⟨(w).heap.size, 0, none⟩ = some (.int .i64 (op)) := own_cell2 k0 0 _ rfl
  have k0c1 : W0.cell? ⟨(w).heap.size, 1, none⟩ = some (.int .i64 (d)) := own_cell k0 1 _ rfl
  have k0c1a : ∀ o, (W0.alloc o).cell? ⟨(w).heap.size, 1, none⟩ = some (.int .i64 (d)) := own_cell2 k0 1 _ rfl
  have k0c2 : W0.cell? ⟨(w).heap.size, 2, none⟩ = some (.int .i64 (s)) := own_cell k0 2 _ rfl
  have k0c2a : ∀ o, (W0.alloc o).cell? ⟨(w).heap.size, 2, none⟩ = some (.int .i64 (s)) := own_cell2 k0 2 _ rfl
  have k0c3 : W0.cell? ⟨(w).heap.size, 3, none⟩ = some (.int .i64 (t)) := own_cell k0 3 _ rfl
  have k0c3a : ∀ o, (W0.alloc o).cell? ⟨(w).heap.size, 3, none⟩ = some (.int .i64 (t)) := own_cell2 k0 3 _ rfl
  have k0c4 : W0.cell? ⟨(w).heap.size, 4, none⟩ = some (.int .i32 (i)) := own_cell k0 4 _ rfl
  have k0c4a : ∀ o, (W0.alloc o).cell? ⟨(w).heap.size, 4, none⟩ = some (.int .i32 (i)) := own_cell2 k0 4 _ rfl
  have k1c0 : W0.cell? ⟨w.heap.size + 1, 0, none⟩ = some (.int .i64 (op)) := by have h := own_cell k1 0 _ rfl; simpa using h
  have k1c1 : W0.cell? ⟨w.heap.size + 1, 1, none⟩ = some (.int .i64 (d)) := by have h := own_cell k1 1 _ rfl; simpa using h
  have k1c2 : W0.cell? ⟨w.heap.size + 1, 2, none⟩ = some (.int .i64 (s)) := by have h := own_cell k1 2 _ rfl; simpa using h
  have k1c3 : W0.cell? ⟨w.heap.size + 1, 3, none⟩ = some (.int .i64 (t)) := by have h := own_cell k1 3 _ rfl; simpa using h
  have k1c4 : W0.cell? ⟨w.heap.size + 1, 4, none⟩ = some (.int .i32 (i')) := by have h := own_cell k1 4 _ rfl; simpa using h
  go_wp2_with fail
  clear k0c0 k0c0a k0c1 k0c1a k0c2 k0c2a k0c3 k0c3a k0c4 k0c4a k1c0 k1c1 k1c2 k1c3 k1c4
  refine (he _ tabs).mono ?_
  rintro e W1 ⟨rfl, bZ⟩
  replace b1 := b1.trans (bZ.mono b1.size)
  replace tabs := tabs.below bZ
  replace k0 := k0.trans (bZ.mono k0.size)
  replace k1 := k1.trans (bZ.mono k1.size)
  clear bZ
  have k0c0 : W1.cell? ⟨(w).heap.size, 0, none⟩ = some (.int .i64 (op)) := own_cell k0 0 _ rfl
  have k0c0a : ∀ o, (W1.alloc o).cell? ⟨(w).heap.size, 0, none⟩ = some (.int .i64 (op)) := own_cell2 k0 0 _ rfl
  have k0c1 : W1.cell? ⟨(w).heap.size, 1, none⟩ = some (.int .i64 (d)) := own_cell k0 1 _ rfl
  have k0c1a : ∀ o, (W1.alloc o).cell? ⟨(w).heap.size, 1, none⟩ = some (.int .i64 (d)) := own_cell2 k0 1 _ rfl
  have k0c2 : W1.cell? ⟨(w).heap.size, 2, none⟩ = some (.int .i64 (s)) := own_cell k0 2 _ rfl
  have k0c2a : ∀ o, (W1.alloc o).cell? ⟨(w).heap.size, 2, none⟩ = some (.int .i64 (s)) := own_cell2 k0 2 _ rfl
  have k0c3 : W1.cell? ⟨(w).heap.size, 3, none⟩ = some (.int .i64 (t)) := own_cell k0 3 _ rfl
  have k0c3a : ∀ o, (W1.alloc o).cell? ⟨(w).heap.size, 3, none⟩ = some (.int .i64 (t)) := own_cell2 k0 3 _ rfl
  have k0c4 : W1.cell? ⟨(w).heap.size, 4, none⟩ = some (.int .i32 (i)) := own_cell k0 4 _ rfl
  have k0c4a : ∀ o, (W1.alloc o).cell? ⟨(w).heap.size, 4, none⟩ = some (.int .i32 (i)) := own_cell2 k0 4 _ rfl
  have k1c0 : W1.cell? ⟨w.heap.size + 1, 0, none⟩ = some (.int .i64 (op)) := by have h := own_cell k1 0 _ rfl; simpa using h
  have k1c1 : W1.cell? ⟨w.heap.size + 1, 1, none⟩ = some (.int .i64 (d)) := by have h := own_cell k1 1 _ rfl; simpa using h
  have k1c2 : W1.cell? ⟨w.heap.size + 1, 2, none⟩ = some (.int .i64 (s)) := by have h := own_cell k1 2 _ rfl; simpa using h
  have k1c3 : W1.cell? ⟨w.heap.size + 1, 3, none⟩ = some (.int .i64 (t)) := by have h := own_cell k1 3 _ rfl; simpa using h
  have k1c4 : W1.cell? ⟨w.heap.size + 1, 4, none⟩ = some (.int .i32 (i')) := by have h := own_cell k1 4 _ rfl; simpa using h
  go_wp2_with fail
  clear k0c0 k0c0a k0c1 k0c1a k0c2 k0c2a k0c3 k0c3a k0c4 k0c4a k1c0 k1c1 k1c2 k1c3 k1c4
  refine (he' _ tabs).mono ?_
  rintro e W2 ⟨rfl, bZ⟩
  replace b1 := b1.trans (bZ.mono b1.size)
  replace tabs := tabs.below bZ
  replace k0 := k0.trans (bZ.mono k0.size)
  replace k1 := k1.trans (bZ.mono k1.size)
  clear bZ
  have k0c0 : W2.cell? ⟨(w).heap.size, 0, none⟩ = some (.int .i64 (op)) := own_cell k0 0 _ rfl
  have k0c0a : ∀ o, (W2.alloc o).cell? ⟨(w).heap.size, 0, none⟩ = some (.int .i64 (op)) := own_cell2 k0 0 _ rfl
  have k0c1 : W2.cell? ⟨(w).heap.size, 1, none⟩ = some (.int .i64 (d)) := own_cell k0 1 _ rfl
  have k0c1a : ∀ o, (W2.alloc o).cell? ⟨(w).heap.size, 1, none⟩ = some (.int .i64 (d)) := own_cell2 k0 1 _ rfl
  have k0c2 : W2.cell? ⟨(w).heap.size, 2, none⟩ = some (.int .i64 (s)) := own_cell k0 2 _ rfl
  have k0c2a : ∀ o, (W2.alloc o).cell? ⟨(w).heap.size, 2, none⟩ = some (.int .i64 (s)) := own_cell2 k0 2 _ rfl
  have k0c3 : W2.cell? ⟨(w).heap.size, 3, none⟩ = some (.int .i64 (t)) := own_cell k0 3 _ rfl
  have k0c3a : ∀ o, (W2.alloc o).cell? ⟨(w).heap.size, 3, none⟩ = some (.int .i64 (t)) := own_cell2 k0 3 _ rfl
  have k0c4 : W2.cell? ⟨(w).heap.size, 4, none⟩ = some (.int .i32 (i)) := own_cell k0 4 _ rfl
  have k0c4a : ∀ o, (W2.alloc o).cell? ⟨(w).heap.size, 4, none⟩ = some (.int .i32 (i)) := own_cell2 k0 4 _ rfl
  have k1c0 : W2.cell? ⟨w.heap.size + 1, 0, none⟩ = some (.int .i64 (op)) := by have h := own_cell k1 0 _ rfl; simpa using h
  have k1c1 : W2.cell? ⟨w.heap.size + 1, 1, none⟩ = some (.int .i64 (d)) := by have h := own_cell k1 1 _ rfl; simpa using h
  have k1c2 : W2.cell? ⟨w.heap.size + 1, 2, none⟩ = some (.int .i64 (s)) := by have h := own_cell k1 2 _ rfl; simpa using h
  have k1c3 : W2.cell? ⟨w.heap.size + 1, 3, none⟩ = some (.int .i64 (t)) := by have h := own_cell k1 3 _ rfl; simpa using h
  have k1c4 : W2.cell? ⟨w.heap.size + 1, 4, none⟩ = some (.int .i32 (i')) := by have h := own_cell k1 4 _ rfl; simpa using h
  go_wp2_with fail
  clear he tabs k0 k1 he' k0c0a k0c1a k0c2a k0c3a k0c4a
  replace b1 : Below w.heap.size w W2 := b1
  go_region_held3 (fun w' => w'.cell? ⟨w.heap.size, 0, none⟩ = some (.int .i64 (op)) ∧ w'.cell? ⟨w.heap.size, 1, none⟩ = some (.int .i64 (d)) ∧ w'.cell? ⟨w.heap.size, 2, none⟩ = some (.int .i64 (s)) ∧ w'.cell? ⟨w.heap.size, 3, none⟩ = some (.int .i64 (t)) ∧ w'.cell? ⟨w.heap.size, 4, none⟩ = some (.int .i32 (i)) ∧ w'.cell? ⟨w.heap.size + 1, 0, none⟩ = some (.int .i64 (op)) ∧ w'.cell? ⟨w.heap.size + 1, 1, none⟩ = some (.int .i64 (d)) ∧ w'.cell? ⟨w.heap.size + 1, 2, none⟩ = some (.int .i64 (s)) ∧ w'.cell? ⟨w.heap.size + 1, 3, none⟩ = some (.int .i64 (t)) ∧ w'.cell? ⟨w.heap.size + 1, 4, none⟩ = some (.int .i32 (i')) ∧ Below w.heap.size w w')
    (first | with_reducible assumption | with_reducible exact keep10 (by assumption) rfl rfl rfl rfl rfl rfl rfl rfl rfl rfl (by assumption) | exact ⟨k0c0, k0c1, k0c2, k0c3, k0c4, k1c0, k1c1, k1c2, k1c3, k1c4, b1.drew⟩)
    (first | (go_at_call 15; with_reducible refine (hT _ (tabs0.below (heldB10 (by with_reducible assumption)))).mono ?_; rintro e w' ⟨rfl, bZ⟩) | (go_at_call 15; with_reducible refine (hU _ (tabs0.below (heldB10 (by with_reducible assumption)))).mono ?_; rintro e w' ⟨rfl, bZ⟩))
  all_goals go_wp2_with fail
  all_goals go_ret
  all_goals refine ⟨rfl, heldB10 (by assumption)⟩
theorem apart_walk (op d s t i op' d' s' t' i' : Int) (hi : -2147483648 ≤ i ∧ i ≤ 2147483647) (hi' : -2147483648 ≤ i' ∧ i' ≤ 2147483647) (w : World) (tabs : Tabs w) :
    Calls Tryd.prog 6 #[wordV op d s t i, wordV op' d' s' t' i'] w fun e w' => e = .returned (.bool true) ∧ Below w.heap.size w w' := by
  cases hl : isL op d s t i with
  | false =>
    cases hl' : isL op' d' s' t' i' with
    | false => exact apart_false_false op d s t i op' d' s' t' i' hi hi' hl hl' w tabs
    | true => exact apart_false_true op d s t i op' d' s' t' i' hi hi' hl hl' w tabs
  | true =>
    cases hl' : isL op' d' s' t' i' with
    | false => exact apart_true_false op d s t i op' d' s' t' i' hi hi' hl hl' w tabs
    | true =>
      by_cases e0 : op = op'
      · subst e0
        by_cases e1 : d = d'
        · subst e1
          by_cases e2 : s = s'
          · subst e2
            by_cases e3 : t = t'
            · subst e3
              by_cases e4 : i = i'
              · subst e4
                exact apart_5 op d s t i hi hl w tabs
              · exact apart_4 op d s t i i' hi hi' hl hl' e4 w tabs
            · exact apart_3 op d s t i t' i' hi hi' hl hl' e3 w tabs
          · exact apart_2 op d s t i s' t' i' hi hi' hl hl' e2 w tabs
        · exact apart_1 op d s t i d' s' t' i' hi hi' hl hl' e1 w tabs
      · exact apart_0 op d s t i op' d' s' t' i' hi hi' hl hl' e0 w tabs
end Go.Proofs.YtoeohfbicnolhaaDoor
