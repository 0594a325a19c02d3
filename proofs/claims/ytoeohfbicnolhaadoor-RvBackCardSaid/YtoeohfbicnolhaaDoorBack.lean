import Derived.Test.YtoeohfbicnolhaaDoorM1
namespace Go.Proofs.YtoeohfbicnolhaaDoor
open Go.RowKit
set_option linter.unusedVariables false
set_option linter.unusedSimpArgs false
set_option linter.unusedSectionVars false

set_option maxHeartbeats 4000000 in
theorem back_yes_some (op d s t i : Int) (hi : -2147483648 ≤ i ∧ i ≤ 2147483647) (hl : isL op d s t i = true) (x : Int) (hx : 0 ≤ x ∧ x ≤ 4294967295) (k : Nat) (ho : decL x = some k) (w : World) (tabs : Tabs w) :
    Calls Tryd.prog 5 #[wordV op d s t i, .int .u32 x] w fun e w' => e = .returned (.bool true) ∧ Below w.heap.size w w' := by
  have hd := fun w t => dec_any x hx w t
  rw [ho] at hd
  simp only [wordO] at hd
  obtain ⟨hl2, hen⟩ := enc_dec hx ho
  have he2 := fun w t => enc_true hl2 w t
  rw [hen] at he2
  clear hen
  have he := fun w t => enc_true hl w t
  have hdd := fun w t => dec_true hl w t
  have htn : (textL op d s t i).isEmpty = false := by have := text_ne hl; simpa using this
  have htl : (bs (textL op d s t i)).toList = textL op d s t i := ByteArray.toList_mk _
  go_enter Tryd.func5, Tryd.ntmps5
  go_wp2_with fail
  replace tabs := tabs.below ((Below.refl w.heap.size w).alloc (Nat.le_refl _) (.cells #[.int .i64 (op), .int .i64 (d), .int .i64 (s), .int .i64 (t), .int .i32 (i)] 23))
  have b1 := (Below.refl w.heap.size w).alloc (Nat.le_refl _) (.cells #[.int .i64 (op), .int .i64 (d), .int .i64 (s), .int .i64 (t), .int .i32 (i)] 23)
  have k0 := Below.refl ((w).alloc (.cells #[.int .i64 (op), .int .i64 (d), .int .i64 (s), .int .i64 (t), .int .i32 (i)] 23)).heap.size ((w).alloc (.cells #[.int .i64 (op), .int .i64 (d), .int .i64 (s), .int .i64 (t), .int .i32 (i)] 23))
  refine (known_any _ tabs).mono ?_
  rintro e W0 ⟨rfl, bZ⟩
  replace b1 := b1.trans (bZ.mono b1.size)
  replace tabs := tabs.below bZ
  replace k0 := k0.trans (bZ.mono k0.size)
  clear bZ
  have k0c0 : W0.cell? ⟨(w).heap.size, 0, none⟩ = some (.int .i64 (op)) := own_cell k0 0 _ rfl
  have k0c0a : ∀ o, (W0.alloc o).cell? ⟨(w).heap.size, 0, none⟩ = some (.int .i64 (op)) := own_cell2 k0 0 _ rfl
  have k0c1 : W0.cell? ⟨(w).heap.size, 1, none⟩ = some (.int .i64 (d)) := own_cell k0 1 _ rfl
  have k0c1a : ∀ o, (W0.alloc o).cell? ⟨(w).heap.size, 1, none⟩ = some (.int .i64 (d)) := own_cell2 k0 1 _ rfl
  have k0c2 : W0.cell? ⟨(w).heap.size, 2, none⟩ = some (.int .i64 (s)) := own_cell k0 2 _ rfl
  have k0c2a : ∀ o, (W0.alloc o).cell? ⟨(w).heap.size, 2, none⟩ = some (.int .i64 (s)) := own_cell2 k0 2 _ rfl
  have k0c3 : W0.cell? ⟨(w).heap.size, 3, none⟩ = some (.int .i64 (t)) := own_cell k0 3 _ rfl
  have k0c3a : ∀ o, (W0.alloc o).cell? ⟨(w).heap.size, 3, none⟩ = some (.int .i64 (t)) := own_cell2 k0 3 _ rfl
  have k0c4 : W0.cell? ⟨(w).heap.size, 4, none⟩ = some (.int .i32 (i)) := own_cell k0 4 _ rfl
  have k0c4a : ∀ o, (W0.alloc o).cell? ⟨(w).heap.size, 4, none⟩ = some (.int .i32 (i)) := own_cell2 k0 4 _ rfl
  go_wp2_with fail
  clear k0c0 k0c0a k0c1 k0c1a k0c2 k0c2a k0c3 k0c3a k0c4 k0c4a
  refine (he _ tabs).mono ?_
  rintro e W1 ⟨rfl, bZ⟩
  replace b1 := b1.trans (bZ.mono b1.size)
  replace tabs := tabs.below bZ
  replace k0 := k0.trans (bZ.mono k0.size)
  clear bZ
  have k0c0 : W1.cell? ⟨(w).heap.size, 0, none⟩ = some (.int .i64 (op)) := own_cell k0 0 _ rfl
  have k0c0a : ∀ o, (W1.alloc o).cell? ⟨(w).heap.size, 0, none⟩ = some (.int .i64 (op)) := own_cell2 k0 0 _ rfl
  have k0c1 : W1.cell? ⟨(w).heap.size, 1, none⟩ = some (.int .i64 (d)) := own_cell k0 1 _ rfl
  have k0c1a : ∀ o, (W1.alloc o).cell? ⟨(w).heap.size, 1, none⟩ = some (.int .i64 (d)) := own_cell2 k0 1 _ rfl
  have k0c2 : W1.cell? ⟨(w).heap.size, 2, none⟩ = some (.int .i64 (s)) := own_cell k0 2 _ rfl
  have k0c2a : ∀ o, (W1.alloc o).cell? ⟨(w).heap.size, 2, none⟩ = some (.int .i64 (s)) := own_cell2 k0 2 _ rfl
  have k0c3 : W1.cell? ⟨(w).heap.size, 3, none⟩ = some (.int .i64 (t)) := own_cell k0 3 _ rfl
  have k0c3a : ∀ o, (W1.alloc o).cell? ⟨(w).heap.size, 3, none⟩ = some (.int .i64 (t)) := own_cell2 k0 3 _ rfl
  have k0c4 : W1.cell? ⟨(w).heap.size, 4, none⟩ = some (.int .i32 (i)) := own_cell k0 4 _ rfl
  have k0c4a : ∀ o, (W1.alloc o).cell? ⟨(w).heap.size, 4, none⟩ = some (.int .i32 (i)) := own_cell2 k0 4 _ rfl
  go_wp2_with fail
  clear k0c0 k0c0a k0c1 k0c1a k0c2 k0c2a k0c3 k0c3a k0c4 k0c4a
  refine (is_any _ _ _ _ _ _ tabs).mono ?_
  rintro e W2 ⟨rfl, bZ⟩
  replace b1 := b1.trans (bZ.mono b1.size)
  replace tabs := tabs.below bZ
  replace k0 := k0.trans (bZ.mono k0.size)
  clear bZ
  have k0c0 : W2.cell? ⟨(w).heap.size, 0, none⟩ = some (.int .i64 (op)) := own_cell k0 0 _ rfl
  have k0c0a : ∀ o, (W2.alloc o).cell? ⟨(w).heap.size, 0, none⟩ = some (.int .i64 (op)) := own_cell2 k0 0 _ rfl
  have k0c1 : W2.cell? ⟨(w).heap.size, 1, none⟩ = some (.int .i64 (d)) := own_cell k0 1 _ rfl
  have k0c1a : ∀ o, (W2.alloc o).cell? ⟨(w).heap.size, 1, none⟩ = some (.int .i64 (d)) := own_cell2 k0 1 _ rfl
  have k0c2 : W2.cell? ⟨(w).heap.size, 2, none⟩ = some (.int .i64 (s)) := own_cell k0 2 _ rfl
  have k0c2a : ∀ o, (W2.alloc o).cell? ⟨(w).heap.size, 2, none⟩ = some (.int .i64 (s)) := own_cell2 k0 2 _ rfl
  have k0c3 : W2.cell? ⟨(w).heap.size, 3, none⟩ = some (.int .i64 (t)) := own_cell k0 3 _ rfl
  have k0c3a : ∀ o, (W2.alloc o).cell? ⟨(w).heap.size, 3, none⟩ = some (.int .i64 (t)) := own_cell2 k0 3 _ rfl
  have k0c4 : W2.cell? ⟨(w).heap.size, 4, none⟩ = some (.int .i32 (i)) := own_cell k0 4 _ rfl
  have k0c4a : ∀ o, (W2.alloc o).cell? ⟨(w).heap.size, 4, none⟩ = some (.int .i32 (i)) := own_cell2 k0 4 _ rfl
  go_wp2_with fail
  clear k0c0 k0c0a k0c1 k0c1a k0c2 k0c2a k0c3 k0c3a k0c4 k0c4a
  refine (hdd _ tabs).mono ?_
  rintro e W3 ⟨rfl, bZ⟩
  replace b1 := b1.trans (bZ.mono b1.size)
  replace tabs := tabs.below bZ
  replace k0 := k0.trans (bZ.mono k0.size)
  clear bZ
  have k0c0 : W3.cell? ⟨(w).heap.size, 0, none⟩ = some (.int .i64 (op)) := own_cell k0 0 _ rfl
  have k0c0a : ∀ o, (W3.alloc o).cell? ⟨(w).heap.size, 0, none⟩ = some (.int .i64 (op)) := own_cell2 k0 0 _ rfl
  have k0c1 : W3.cell? ⟨(w).heap.size, 1, none⟩ = some (.int .i64 (d)) := own_cell k0 1 _ rfl
  have k0c1a : ∀ o, (W3.alloc o).cell? ⟨(w).heap.size, 1, none⟩ = some (.int .i64 (d)) := own_cell2 k0 1 _ rfl
  have k0c2 : W3.cell? ⟨(w).heap.size, 2, none⟩ = some (.int .i64 (s)) := own_cell k0 2 _ rfl
  have k0c2a : ∀ o, (W3.alloc o).cell? ⟨(w).heap.size, 2, none⟩ = some (.int .i64 (s)) := own_cell2 k0 2 _ rfl
  have k0c3 : W3.cell? ⟨(w).heap.size, 3, none⟩ = some (.int .i64 (t)) := own_cell k0 3 _ rfl
  have k0c3a : ∀ o, (W3.alloc o).cell? ⟨(w).heap.size, 3, none⟩ = some (.int .i64 (t)) := own_cell2 k0 3 _ rfl
  have k0c4 : W3.cell? ⟨(w).heap.size, 4, none⟩ = some (.int .i32 (i)) := own_cell k0 4 _ rfl
  have k0c4a : ∀ o, (W3.alloc o).cell? ⟨(w).heap.size, 4, none⟩ = some (.int .i32 (i)) := own_cell2 k0 4 _ rfl
  go_wp2_with fail
  replace tabs := tabs.below ((Below.refl W3.heap.size W3).alloc (Nat.le_refl _) (.cells #[.int .i64 (op), .int .i64 (d), .int .i64 (s), .int .i64 (t), .int .i32 (i)] 23))
  replace b1 := b1.alloc b1.size (.cells #[.int .i64 (op), .int .i64 (d), .int .i64 (s), .int .i64 (t), .int .i32 (i)] 23)
  replace k0 := k0.alloc k0.size (.cells #[.int .i64 (op), .int .i64 (d), .int .i64 (s), .int .i64 (t), .int .i32 (i)] 23)
  have k1 := Below.refl ((W3).alloc (.cells #[.int .i64 (op), .int .i64 (d), .int .i64 (s), .int .i64 (t), .int .i32 (i)] 23)).heap.size ((W3).alloc (.cells #[.int .i64 (op), .int .i64 (d), .int .i64 (s), .int .i64 (t), .int .i32 (i)] 23))
  clear k0c0 k0c0a k0c1 k0c1a k0c2 k0c2a k0c3 k0c3a k0c4 k0c4a
  refine (text_any _ _ _ _ _ hi _ tabs).mono ?_
  rintro e W4 ⟨rfl, bZ⟩
  replace b1 := b1.trans (bZ.mono b1.size)
  replace tabs := tabs.below bZ
  replace k0 := k0.trans (bZ.mono k0.size)
  replace k1 := k1.trans (bZ.mono k1.size)
  clear bZ
  have k0c0 : W4.cell? ⟨(w).heap.size, 0, none⟩ = some (.int .i64 (op)) := own_cell k0 0 _ rfl
  have k0c0a : ∀ o, (W4.alloc o).cell? ⟨(w).heap.size, 0, none⟩ = some (.int .i64 (op)) := own_cell2 k0 0 _ rfl
  have k0c1 : W4.cell? ⟨(w).heap.size, 1, none⟩ = some (.int .i64 (d)) := own_cell k0 1 _ rfl
  have k0c1a : ∀ o, (W4.alloc o).cell? ⟨(w).heap.size, 1, none⟩ = some (.int .i64 (d)) := own_cell2 k0 1 _ rfl
  have k0c2 : W4.cell? ⟨(w).heap.size, 2, none⟩ = some (.int .i64 (s)) := own_cell k0 2 _ rfl
  have k0c2a : ∀ o, (W4.alloc o).cell? ⟨(w).heap.size, 2, none⟩ = some (.int .i64 (s)) := own_cell2 k0 2 _ rfl
  have k0c3 : W4.cell? ⟨(w).heap.size, 3, none⟩ = some (.int .i64 (t)) := own_cell k0 3 _ rfl
  have k0c3a : ∀ o, (W4.alloc o).cell? ⟨(w).heap.size, 3, none⟩ = some (.int .i64 (t)) := own_cell2 k0 3 _ rfl
  have k0c4 : W4.cell? ⟨(w).heap.size, 4, none⟩ = some (.int .i32 (i)) := own_cell k0 4 _ rfl
  have k0c4a : ∀ o, (W4.alloc o).cell? ⟨(w).heap.size, 4, none⟩ = some (.int .i32 (i)) := own_cell2 k0 4 _ rfl
  have k1c0 : W4.cell? ⟨(W3).heap.size, 0, none⟩ = some (.int .i64 (op)) := own_cell k1 0 _ rfl
  have k1c0a : ∀ o, (W4.alloc o).cell? ⟨(W3).heap.size, 0, none⟩ = some (.int .i64 (op)) := own_cell2 k1 0 _ rfl
  have k1c1 : W4.cell? ⟨(W3).heap.size, 1, none⟩ = some (.int .i64 (d)) := own_cell k1 1 _ rfl
  have k1c1a : ∀ o, (W4.alloc o).cell? ⟨(W3).heap.size, 1, none⟩ = some (.int .i64 (d)) := own_cell2 k1 1 _ rfl
  have k1c2 : W4.cell? ⟨(W3).heap.size, 2, none⟩ = some (.int .i64 (s)) := own_cell k1 2 _ rfl
  have k1c2a : ∀ o, (W4.alloc o).cell? ⟨(W3).heap.size, 2, none⟩ = some (.int .i64 (s)) := own_cell2 k1 2 _ rfl
  have k1c3 : W4.cell? ⟨(W3).heap.size, 3, none⟩ = some (.int .i64 (t)) := own_cell k1 3 _ rfl
  have k1c3a : ∀ o, (W4.alloc o).cell? ⟨(W3).heap.size, 3, none⟩ = some (.int .i64 (t)) := own_cell2 k1 3 _ rfl
  have k1c4 : W4.cell? ⟨(W3).heap.size, 4, none⟩ = some (.int .i32 (i)) := own_cell k1 4 _ rfl
  have k1c4a : ∀ o, (W4.alloc o).cell? ⟨(W3).heap.size, 4, none⟩ = some (.int .i32 (i)) := own_cell2 k1 4 _ rfl
  go_wp2_with fail
  clear k0c0 k0c0a k0c1 k0c1a k0c2 k0c2a k0c3 k0c3a k0c4 k0c4a k1c0 k1c0a k1c1 k1c1a k1c2 k1c2a k1c3 k1c3a k1c4 k1c4a
  refine (hd _ tabs).mono ?_
  rintro e W5 ⟨rfl, bZ⟩
  replace b1 := b1.trans (bZ.mono b1.size)
  replace tabs := tabs.below bZ
  replace k0 := k0.trans (bZ.mono k0.size)
  replace k1 := k1.trans (bZ.mono k1.size)
  clear bZ
  have k0c0 : W5.cell? ⟨(w).heap.size, 0, none⟩ = some (.int .i64 (op)) := own_cell k0 0 _ rfl
  have k0c0a : ∀ o, (W5.alloc o).cell? ⟨(w).heap.size, 0, none⟩ = some (.int .i64 (op)) := own_cell2 k0 0 _ rfl
  have k0c1 : W5.cell? ⟨(w).heap.size, 1, none⟩ = some (.int .i64 (d)) := own_cell k0 1 _ rfl
  have k0c1a : ∀ o, (W5.alloc o).cell? ⟨(w).heap.size, 1, none⟩ = some (.int .i64 (d)) := own_cell2 k0 1 _ rfl
  have k0c2 : W5.cell? ⟨(w).heap.size, 2, none⟩ = some (.int .i64 (s)) := own_cell k0 2 _ rfl
  have k0c2a : ∀ o, (W5.alloc o).cell? ⟨(w).heap.size, 2, none⟩ = some (.int .i64 (s)) := own_cell2 k0 2 _ rfl
  have k0c3 : W5.cell? ⟨(w).heap.size, 3, none⟩ = some (.int .i64 (t)) := own_cell k0 3 _ rfl
  have k0c3a : ∀ o, (W5.alloc o).cell? ⟨(w).heap.size, 3, none⟩ = some (.int .i64 (t)) := own_cell2 k0 3 _ rfl
  have k0c4 : W5.cell? ⟨(w).heap.size, 4, none⟩ = some (.int .i32 (i)) := own_cell k0 4 _ rfl
  have k0c4a : ∀ o, (W5.alloc o).cell? ⟨(w).heap.size, 4, none⟩ = some (.int .i32 (i)) := own_cell2 k0 4 _ rfl
  have k1c0 : W5.cell? ⟨(W3).heap.size, 0, none⟩ = some (.int .i64 (op)) := own_cell k1 0 _ rfl
  have k1c0a : ∀ o, (W5.alloc o).cell? ⟨(W3).heap.size, 0, none⟩ = some (.int .i64 (op)) := own_cell2 k1 0 _ rfl
  have k1c1 : W5.cell? ⟨(W3).heap.size, 1, none⟩ = some (.int .i64 (d)) := own_cell k1 1 _ rfl
  have k1c1a : ∀ o, (W5.alloc o).cell? ⟨(W3).heap.size, 1, none⟩ = some (.int .i64 (d)) := own_cell2 k1 1 _ rfl
  have k1c2 : W5.cell? ⟨(W3).heap.size, 2, none⟩ = some (.int .i64 (s)) := own_cell k1 2 _ rfl
  have k1c2a : ∀ o, (W5.alloc o).cell? ⟨(W3).heap.size, 2, none⟩ = some (.int .i64 (s)) := own_cell2 k1 2 _ rfl
  have k1c3 : W5.cell? ⟨(W3).heap.size, 3, none⟩ = some (.int .i64 (t)) := own_cell k1 3 _ rfl
  have k1c3a : ∀ o, (W5.alloc o).cell? ⟨(W3).heap.size, 3, none⟩ = some (.int .i64 (t)) := own_cell2 k1 3 _ rfl
  have k1c4 : W5.cell? ⟨(W3).heap.size, 4, none⟩ = some (.int .i32 (i)) := own_cell k1 4 _ rfl
  have k1c4a : ∀ o, (W5.alloc o).cell? ⟨(W3).heap.size, 4, none⟩ = some (.int .i32 (i)) := own_cell2 k1 4 _ rfl
  go_wp2_with fail
  replace tabs := tabs.below ((Below.refl W5.heap.size W5).alloc (Nat.le_refl _) (.cells #[.int .i64 (k), .int .i64 (dL (formN k) x), .int .i64 (sL (formN k) x), .int .i64 (tL (formN k) x), .int .i32 (immL (formN k) x)] 23))
  replace b1 := b1.alloc b1.size (.cells #[.int .i64 (k), .int .i64 (dL (formN k) x), .int .i64 (sL (formN k) x), .int .i64 (tL (formN k) x), .int .i32 (immL (formN k) x)] 23)
  replace k0 := k0.alloc k0.size (.cells #[.int .i64 (k), .int .i64 (dL (formN k) x), .int .i64 (sL (formN k) x), .int .i64 (tL (formN k) x), .int .i32 (immL (formN k) x)] 23)
  replace k1 := k1.alloc k1.size (.cells #[.int .i64 (k), .int .i64 (dL (formN k) x), .int .i64 (sL (formN k) x), .int .i64 (tL (formN k) x), .int .i32 (immL (formN k) x)] 23)
  have k2 := Below.refl ((W5).alloc (.cells #[.int .i64 (k), .int .i64 (dL (formN k) x), .int .i64 (sL (formN k) x), .int .i64 (tL (formN k) x), .int .i32 (immL (formN k) x)] 23)).heap.size ((W5).alloc (.cells #[.int .i64 (k), .int .i64 (dL (formN k) x), .int .i64 (sL (formN k) x), .int .i64 (tL (formN k) x), .int .i32 (immL (formN k) x)] 23))
  clear k0c0 k0c0a k0c1 k0c1a k0c2 k0c2a k0c3 k0c3a k0c4 k0c4a k1c0 k1c0a k1c1 k1c1a k1c2 k1c2a k1c3 k1c3a k1c4 k1c4a
  refine (he2 _ tabs).mono ?_
  rintro e W6 ⟨rfl, bZ⟩
  replace b1 := b1.trans (bZ.mono b1.size)
  replace tabs := tabs.below bZ
  replace k0 := k0.trans (bZ.mono k0.size)
  replace k1 := k1.trans (bZ.mono k1.size)
  replace k2 := k2.trans (bZ.mono k2.size)
  clear bZ
  have k0c0 : W6.cell? ⟨(w).heap.size, 0, none⟩ = some (.int .i64 (op)) := own_cell k0 0 _ rfl
  have k0c0a : ∀ o, (W6.alloc o).cell? ⟨(w).heap.size, 0, none⟩ = some (.int .i64 (op)) := own_cell2 k0 0 _ rfl
  have k0c1 : W6.cell? ⟨(w).heap.size, 1, none⟩ = some (.int .i64 (d)) := own_cell k0 1 _ rfl
  have k0c1a : ∀ o, (W6.alloc o).cell? ⟨(w).heap.size, 1, none⟩ = some (.int .i64 (d)) := own_cell2 k0 1 _ rfl
  have k0c2 : W6.cell? ⟨(w).heap.size, 2, none⟩ = some (.int .i64 (s)) := own_cell k0 2 _ rfl
  have k0c2a : ∀ o, (W6.alloc o).cell? ⟨(w).heap.size, 2, none⟩ = some (.int .i64 (s)) := own_cell2 k0 2 _ rfl
  have k0c3 : W6.cell? ⟨(w).heap.size, 3, none⟩ = some (.int .i64 (t)) := own_cell k0 3 _ rfl
  have k0c3a : ∀ o, (W6.alloc o).cell? ⟨(w).heap.size, 3, none⟩ = some (.int .i64 (t)) := own_cell2 k0 3 _ rfl
  have k0c4 : W6.cell? ⟨(w).heap.size, 4, none⟩ = some (.int .i32 (i)) := own_cell k0 4 _ rfl
  have k0c4a : ∀ o, (W6.alloc o).cell? ⟨(w).heap.size, 4, none⟩ = some (.int .i32 (i)) := own_cell2 k0 4 _ rfl
  have k1c0 : W6.cell? ⟨(W3).heap.size, 0, none⟩ = some (.int .i64 (op)) := own_cell k1 0 _ rfl
  have k1c0a : ∀ o, (W6.alloc o).cell? ⟨(W3).heap.size, 0, none⟩ = some (.int .i64 (op)) := own_cell2 k1 0 _ rfl
  have k1c1 : W6.cell? ⟨(W3).heap.size, 1, none⟩ = some (.int .i64 (d)) := own_cell k1 1 _ rfl
  have k1c1a : ∀ o, (W6.alloc o).cell? ⟨(W3).heap.size, 1, none⟩ = some (.int .i64 (d)) := own_cell2 k1 1 _ rfl
  have k1c2 : W6.cell? ⟨(W3).heap.size, 2, none⟩ = some (.int .i64 (s)) := own_cell k1 2 _ rfl
  have k1c2a : ∀ o, (W6.alloc o).cell? ⟨(W3).heap.size, 2, none⟩ = some (.int .i64 (s)) := own_cell2 k1 2 _ rfl
  have k1c3 : W6.cell? ⟨(W3).heap.size, 3, none⟩ = some (.int .i64 (t)) := own_cell k1 3 _ rfl
  have k1c3a : ∀ o, (W6.alloc o).cell? ⟨(W3).heap.size, 3, none⟩ = some (.int .i64 (t)) := own_cell2 k1 3 _ rfl
  have k1c4 : W6.cell? ⟨(W3).heap.size, 4, none⟩ = some (.int .i32 (i)) := own_cell k1 4 _ rfl
  have k1c4a : ∀ o, (W6.alloc o).cell? ⟨(W3).heap.size, 4, none⟩ = some (.int .i32 (i)) := own_cell2 k1 4 _ rfl
  have k2c0 : W6.cell? ⟨(W5).heap.size, 0, none⟩ = some (.int .i64 (k)) := own_cell k2 0 _ rfl
  have k2c0a : ∀ o, (W6.alloc o).cell? ⟨(W5).heap.size, 0, none⟩ = some (.int .i64 (k)) := own_cell2 k2 0 _ rfl
  have k2c1 : W6.cell? ⟨(W5).heap.size, 1, none⟩ = some (.int .i64 (dL (formN k) x)) := own_cell k2 1 _ rfl
  have k2c1a : ∀ o, (W6.alloc o).cell? ⟨(W5).heap.size, 1, none⟩ = some (.int .i64 (dL (formN k) x)) := own_cell2 k2 1 _ rfl
  have k2c2 : W6.cell? ⟨(W5).heap.size, 2, none⟩ = some (.int .i64 (sL (formN k) x)) := own_cell k2 2 _ rfl
  have k2c2a : ∀ o, (W6.alloc o).cell? ⟨(W5).heap.size, 2, none⟩ = some (.int .i64 (sL (formN k) x)) := own_cell2 k2 2 _ rfl
  have k2c3 : W6.cell? ⟨(W5).heap.size, 3, none⟩ = some (.int .i64 (tL (formN k) x)) := own_cell k2 3 _ rfl
  have k2c3a : ∀ o, (W6.alloc o).cell? ⟨(W5).heap.size, 3, none⟩ = some (.int .i64 (tL (formN k) x)) := own_cell2 k2 3 _ rfl
  have k2c4 : W6.cell? ⟨(W5).heap.size, 4, none⟩ = some (.int .i32 (immL (formN k) x)) := own_cell k2 4 _ rfl
  have k2c4a : ∀ o, (W6.alloc o).cell? ⟨(W5).heap.size, 4, none⟩ = some (.int .i32 (immL (formN k) x)) := own_cell2 k2 4 _ rfl
  go_wp2_with fail
  go_ret
  exact ⟨rfl, b1⟩
set_option maxHeartbeats 4000000 in
theorem back_yes_none (op d s t i : Int) (hi : -2147483648 ≤ i ∧ i ≤ 2147483647) (hl : isL op d s t i = true) (x : Int) (hx : 0 ≤ x ∧ x ≤ 4294967295) (ho : decL x = none) (w : World) (tabs : Tabs w) :
    Calls Tryd.prog 5 #[wordV op d s t i, .int .u32 x] w fun e w' => e = .returned (.bool true) ∧ Below w.heap.size w w' := by
  have hd := fun w t => dec_any x hx w t
  rw [ho] at hd
  simp only [wordO] at hd
  have he := fun w t => enc_true hl w t
  have hdd := fun w t => dec_true hl w t
  have htn : (textL op d s t i).isEmpty = false := by have := text_ne hl; simpa using this
  have htl : (bs (textL op d s t i)).toList = textL op d s t i := ByteArray.toList_mk _
  go_enter Tryd.func5, Tryd.ntmps5
  go_wp2_with fail
  replace tabs := tabs.below ((Below.refl w.heap.size w).alloc (Nat.le_refl _) (.cells #[.int .i64 (op), .int .i64 (d), .int .i64 (s), .int .i64 (t), .int .i32 (i)] 23))
  have b1 := (Below.refl w.heap.size w).alloc (Nat.le_refl _) (.cells #[.int .i64 (op), .int .i64 (d), .int .i64 (s), .int .i64 (t), .int .i32 (i)] 23)
  have k0 := Below.refl ((w).alloc (.cells #[.int .i64 (op), .int .i64 (d), .int .i64 (s), .int .i64 (t), .int .i32 (i)] 23)).heap.size ((w).alloc (.cells #[.int .i64 (op), .int .i64 (d), .int .i64 (s), .int .i64 (t), .int .i32 (i)] 23))
  refine (known_any _ tabs).mono ?_
  rintro e W0 ⟨rfl, bZ⟩
  replace b1 := b1.trans (bZ.mono b1.size)
  replace tabs := tabs.below bZ
  replace k0 := k0.trans (bZ.mono k0.size)
  clear bZ
  have k0c0 : W0.cell? ⟨(w).heap.size, 0, none⟩ = some (.int .i64 (op)) := own_cell k0 0 _ rfl
  have k0c0a : ∀ o, (W0.alloc o).cell? ⟨(w).heap.size, 0, none⟩ = some (.int .i64 (op)) := own_cell2 k0 0 _ rfl
  have k0c1 : W0.cell? ⟨(w).heap.size, 1, none⟩ = some (.int .i64 (d)) := own_cell k0 1 _ rfl
  have k0c1a : ∀ o, (W0.alloc o).cell? ⟨(w).heap.size, 1, none⟩ = some (.int .i64 (d)) := own_cell2 k0 1 _ rfl
  have k0c2 : W0.cell? ⟨(w).heap.size, 2, none⟩ = some (.int .i64 (s)) := own_cell k0 2 _ rfl
  have k0c2a : ∀ o, (W0.alloc o).cell? ⟨(w).heap.size, 2, none⟩ = some (.int .i64 (s)) := own_cell2 k0 2 _ rfl
  have k0c3 : W0.cell? ⟨(w).heap.size, 3, none⟩ = some (.int .i64 (t)) := own_cell k0 3 _ rfl
  have k0c3a : ∀ o, (W0.alloc o).cell? ⟨(w).heap.size, 3, none⟩ = some (.int .i64 (t)) := own_cell2 k0 3 _ rfl
  have k0c4 : W0.cell? ⟨(w).heap.size, 4, none⟩ = some (.int .i32 (i)) := own_cell k0 4 _ rfl
  have k0c4a : ∀ o, (W0.alloc o).cell? ⟨(w).heap.size, 4, none⟩ = some (.int .i32 (i)) := own_cell2 k0 4 _ rfl
  go_wp2_with fail
  clear k0c0 k0c0a k0c1 k0c1a k0c2 k0c2a k0c3 k0c3a k0c4 k0c4a
  refine (he _ tabs).mono ?_
  rintro e W1 ⟨rfl, bZ⟩
  replace b1 := b1.trans (bZ.mono b1.size)
  replace tabs := tabs.below bZ
  replace k0 := k0.trans (bZ.mono k0.size)
  clear bZ
  have k0c0 : W1.cell? ⟨(w).heap.size, 0, none⟩ = some (.int .i64 (op)) := own_cell k0 0 _ rfl
  have k0c0a : ∀ o, (W1.alloc o).cell? ⟨(w).heap.size, 0, none⟩ = some (.int .i64 (op)) := own_cell2 k0 0 _ rfl
  have k0c1 : W1.cell? ⟨(w).heap.size, 1, none⟩ = some (.int .i64 (d)) := own_cell k0 1 _ rfl
  have k0c1a : ∀ o, (W1.alloc o).cell? ⟨(w).heap.size, 1, none⟩ = some (.int .i64 (d)) := own_cell2 k0 1 _ rfl
  have k0c2 : W1.cell? ⟨(w).heap.size, 2, none⟩ = some (.int .i64 (s)) := own_cell k0 2 _ rfl
  have k0c2a : ∀ o, (W1.alloc o).cell? ⟨(w).heap.size, 2, none⟩ = some (.int .i64 (s)) := own_cell2 k0 2 _ rfl
  have k0c3 : W1.cell? ⟨(w).heap.size, 3, none⟩ = some (.int .i64 (t)) := own_cell k0 3 _ rfl
  have k0c3a : ∀ o, (W1.alloc o).cell? ⟨(w).heap.size, 3, none⟩ = some (.int .i64 (t)) := own_cell2 k0 3 _ rfl
  have k0c4 : W1.cell? ⟨(w).heap.size, 4, none⟩ = some (.int .i32 (i)) := own_cell k0 4 _ rfl
  have k0c4a : ∀ o, (W1.alloc o).cell? ⟨(w).heap.size, 4, none⟩ = some (.int .i32 (i)) := own_cell2 k0 4 _ rfl
  go_wp2_with fail
  clear k0c0 k0c0a k0c1 k0c1a k0c2 k0c2a k0c3 k0c3a k0c4 k0c4a
  refine (is_any _ _ _ _ _ _ tabs).mono ?_
  rintro e W2 ⟨rfl, bZ⟩
  replace b1 := b1.trans (bZ.mono b1.size)
  replace tabs := tabs.below bZ
  replace k0 := k0.trans (bZ.mono k0.size)
  clear bZ
  have k0c0 : W2.cell? ⟨(w).heap.size, 0, none⟩ = some (.int .i64 (op)) := own_cell k0 0 _ rfl
  have k0c0a : ∀ o, (W2.alloc o).cell? ⟨(w).heap.size, 0, none⟩ = some (.int .i64 (op)) := own_cell2 k0 0 _ rfl
  have k0c1 : W2.cell? ⟨(w).heap.size, 1, none⟩ = some (.int .i64 (d)) := own_cell k0 1 _ rfl
  have k0c1a : ∀ o, (W2.alloc o).cell? ⟨(w).heap.size, 1, none⟩ = some (.int .i64 (d)) := own_cell2 k0 1 _ rfl
  have k0c2 : W2.cell? ⟨(w).heap.size, 2, none⟩ = some (.int .i64 (s)) := own_cell k0 2 _ rfl
  have k0c2a : ∀ o, (W2.alloc o).cell? ⟨(w).heap.size, 2, none⟩ = some (.int .i64 (s)) := own_cell2 k0 2 _ rfl
  have k0c3 : W2.cell? ⟨(w).heap.size, 3, none⟩ = some (.int .i64 (t)) := own_cell k0 3 _ rfl
  have k0c3a : ∀ o, (W2.alloc o).cell? ⟨(w).heap.size, 3, none⟩ = some (.int .i64 (t)) := own_cell2 k0 3 _ rfl
  have k0c4 : W2.cell? ⟨(w).heap.size, 4, none⟩ = some (.int .i32 (i)) := own_cell k0 4 _ rfl
  have k0c4a : ∀ o, (W2.alloc o).cell? ⟨(w).heap.size, 4, none⟩ = some (.int .i32 (i)) := own_cell2 k0 4 _ rfl
  go_wp2_with fail
  clear k0c0 k0c0a k0c1 k0c1a k0c2 k0c2a k0c3 k0c3a k0c4 k0c4a
  refine (hdd _ tabs).mono ?_
  rintro e W3 ⟨rfl, bZ⟩
  replace b1 := b1.trans (bZ.mono b1.size)
  replace tabs := tabs.below bZ
  replace k0 := k0.trans (bZ.mono k0.size)
  clear bZ
  have k0c0 : W3.cell? ⟨(w).heap.size, 0, none⟩ = some (.int .i64 (op)) := own_cell k0 0 _ rfl
  have k0c0a : ∀ o, (W3.alloc o).cell? ⟨(w).heap.size, 0, none⟩ = some (.int .i64 (op)) := own_cell2 k0 0 _ rfl
  have k0c1 : W3.cell? ⟨(w).heap.size, 1, none⟩ = some (.int .i64 (d)) := own_cell k0 1 _ rfl
  have k0c1a : ∀ o, (W3.alloc o).cell? ⟨(w).heap.size, 1, none⟩ = some (.int .i64 (d)) := own_cell2 k0 1 _ rfl
  have k0c2 : W3.cell? ⟨(w).heap.size, 2, none⟩ = some (.int .i64 (s)) := own_cell k0 2 _ rfl
  have k0c2a : ∀ o, (W3.alloc o).cell? ⟨(w).heap.size, 2, none⟩ = some (.int .i64 (s)) := own_cell2 k0 2 _ rfl
  have k0c3 : W3.cell? ⟨(w).heap.size, 3, none⟩ = some (.int .i64 (t)) := own_cell k0 3 _ rfl
  have k0c3a : ∀ o, (W3.alloc o).cell? ⟨(w).heap.size, 3, none⟩ = some (.int .i64 (t)) := own_cell2 k0 3 _ rfl
  have k0c4 : W3.cell? ⟨(w).heap.size, 4, none⟩ = some (.int .i32 (i)) := own_cell k0 4 _ rfl
  have k0c4a : ∀ o, (W3.alloc o).cell? ⟨(w).heap.size, 4, none⟩ = some (.int .i32 (i)) := own_cell2 k0 4 _ rfl
  go_wp2_with fail
  replace tabs := tabs.below ((Below.refl W3.heap.size W3).alloc (Nat.le_refl _) (.cells #[.int .i64 (op), .int .i64 (d), .int .i64 (s), .int .i64 (t), .int .i32 (i)] 23))
  replace b1 := b1.alloc b1.size (.cells #[.int .i64 (op), .int .i64 (d), .int .i64 (s), .int .i64 (t), .int .i32 (i)] 23)
  replace k0 := k0.alloc k0.size (.cells #[.int .i64 (op), .int .i64 (d), .int .i64 (s), .int .i64 (t), .int .i32 (i)] 23)
  have k1 := Below.refl ((W3).alloc (.cells #[.int .i64 (op), .int .i64 (d), .int .i64 (s), .int .i64 (t), .int .i32 (i)] 23)).heap.size ((W3).alloc (.cells #[.int .i64 (op), .int .i64 (d), .int .i64 (s), .int .i64 (t), .int .i32 (i)] 23))
  clear k0c0 k0c0a k0c1 k0c1a k0c2 k0c2a k0c3 k0c3a k0c4 k0c4a
  refine (text_any _ _ _ _ _ hi _ tabs).mono ?_
  rintro e W4 ⟨rfl, bZ⟩
  replace b1 := b1.trans (bZ.mono b1.size)
  replace tabs := tabs.below bZ
  replace k0 := k0.trans (bZ.mono k0.size)
  replace k1 := k1.trans (bZ.mono k1.size)
  clear bZ
  have k0c0 : W4.cell? ⟨(w).heap.size, 0, none⟩ = some (.int .i64 (op)) := own_cell k0 0 _ rfl
  have k0c0a : ∀ o, (W4.alloc o).cell? ⟨(w).heap.size, 0, none⟩ = some (.int .i64 (op)) := own_cell2 k0 0 _ rfl
  have k0c1 : W4.cell? ⟨(w).heap.size, 1, none⟩ = some (.int .i64 (d)) := own_cell k0 1 _ rfl
  have k0c1a : ∀ o, (W4.alloc o).cell? ⟨(w).heap.size, 1, none⟩ = some (.int .i64 (d)) := own_cell2 k0 1 _ rfl
  have k0c2 : W4.cell? ⟨(w).heap.size, 2, none⟩ = some (.int .i64 (s)) := own_cell k0 2 _ rfl
  have k0c2a : ∀ o, (W4.alloc o).cell? ⟨(w).heap.size, 2, none⟩ = some (.int .i64 (s)) := own_cell2 k0 2 _ rfl
  have k0c3 : W4.cell? ⟨(w).heap.size, 3, none⟩ = some (.int .i64 (t)) := own_cell k0 3 _ rfl
  have k0c3a : ∀ o, (W4.alloc o).cell? ⟨(w).heap.size, 3, none⟩ = some (.int .i64 (t)) := own_cell2 k0 3 _ rfl
  have k0c4 : W4.cell? ⟨(w).heap.size, 4, none⟩ = some (.int .i32 (i)) := own_cell k0 4 _ rfl
  have k0c4a : ∀ o, (W4.alloc o).cell? ⟨(w).heap.size, 4, none⟩ = some (.int .i32 (i)) := own_cell2 k0 4 _ rfl
  have k1c0 : W4.cell? ⟨(W3).heap.size, 0, none⟩ = some (.int .i64 (op)) := own_cell k1 0 _ rfl
  have k1c0a : ∀ o, (W4.alloc o).cell? ⟨(W3).heap.size, 0, none⟩ = some (.int .i64 (op)) := own_cell2 k1 0 _ rfl
  have k1c1 : W4.cell? ⟨(W3).heap.size, 1, none⟩ = some (.int .i64 (d)) := own_cell k1 1 _ rfl
  have k1c1a : ∀ o, (W4.alloc o).cell? ⟨(W3).heap.size, 1, none⟩ = some (.int .i64 (d)) := own_cell2 k1 1 _ rfl
  have k1c2 : W4.cell? ⟨(W3).heap.size, 2, none⟩ = some (.int .i64 (s)) := own_cell k1 2 _ rfl
  have k1c2a : ∀ o, (W4.alloc o).cell? ⟨(W3).heap.size, 2, none⟩ = some (.int .i64 (s)) := own_cell2 k1 2 _ rfl
  have k1c3 : W4.cell? ⟨(W3).heap.size, 3, none⟩ = some (.int .i64 (t)) := own_cell k1 3 _ rfl
  have k1c3a : ∀ o, (W4.alloc o).cell? ⟨(W3).heap.size, 3, none⟩ = some (.int .i64 (t)) := own_cell2 k1 3 _ rfl
  have k1c4 : W4.cell? ⟨(W3).heap.size, 4, none⟩ = some (.int .i32 (i)) := own_cell k1 4 _ rfl
  have k1c4a : ∀ o, (W4.alloc o).cell? ⟨(W3).heap.size, 4, none⟩ = some (.int .i32 (i)) := own_cell2 k1 4 _ rfl
  go_wp2_with fail
  clear k0c0 k0c0a k0c1 k0c1a k0c2 k0c2a k0c3 k0c3a k0c4 k0c4a k1c0 k1c0a k1c1 k1c1a k1c2 k1c2a k1c3 k1c3a k1c4 k1c4a
  refine (hd _ tabs).mono ?_
  rintro e W5 ⟨rfl, bZ⟩
  replace b1 := b1.trans (bZ.mono b1.size)
  replace tabs := tabs.below bZ
  replace k0 := k0.trans (bZ.mono k0.size)
  replace k1 := k1.trans (bZ.mono k1.size)
  clear bZ
  have k0c0 : W5.cell? ⟨(w).heap.size, 0, none⟩ = some (.int .i64 (op)) := own_cell k0 0 _ rfl
  have k0c0a : ∀ o, (W5.alloc o).cell? ⟨(w).heap.size, 0, none⟩ = some (.int .i64 (op)) := own_cell2 k0 0 _ rfl
  have k0c1 : W5.cell? ⟨(w).heap.size, 1, none⟩ = some (.int .i64 (d)) := own_cell k0 1 _ rfl
  have k0c1a : ∀ o, (W5.alloc o).cell? ⟨(w).heap.size, 1, none⟩ = some (.int .i64 (d)) := own_cell2 k0 1 _ rfl
  have k0c2 : W5.cell? ⟨(w).heap.size, 2, none⟩ = some (.int .i64 (s)) := own_cell k0 2 _ rfl
  have k0c2a : ∀ o, (W5.alloc o).cell? ⟨(w).heap.size, 2, none⟩ = some (.int .i64 (s)) := own_cell2 k0 2 _ rfl
  have k0c3 : W5.cell? ⟨(w).heap.size, 3, none⟩ = some (.int .i64 (t)) := own_cell k0 3 _ rfl
  have k0c3a : ∀ o, (W5.alloc o).cell? ⟨(w).heap.size, 3, none⟩ = some (.int .i64 (t)) := own_cell2 k0 3 _ rfl
  have k0c4 : W5.cell? ⟨(w).heap.size, 4, none⟩ = some (.int .i32 (i)) := own_cell k0 4 _ rfl
  have k0c4a : ∀ o, (W5.alloc o).cell? ⟨(w).heap.size, 4, none⟩ = some (.int .i32 (i)) := own_cell2 k0 4 _ rfl
  have k1c0 : W5.cell? ⟨(W3).heap.size, 0, none⟩ = some (.int .i64 (op)) := own_cell k1 0 _ rfl
  have k1c0a : ∀ o, (W5.alloc o).cell? ⟨(W3).heap.size, 0, none⟩ = some (.int .i64 (op)) := own_cell2 k1 0 _ rfl
  have k1c1 : W5.cell? ⟨(W3).heap.size, 1, none⟩ = some (.int .i64 (d)) := own_cell k1 1 _ rfl
  have k1c1a : ∀ o, (W5.alloc o).cell? ⟨(W3).heap.size, 1, none⟩ = some (.int .i64 (d)) := own_cell2 k1 1 _ rfl
  have k1c2 : W5.cell? ⟨(W3).heap.size, 2, none⟩ = some (.int .i64 (s)) := own_cell k1 2 _ rfl
  have k1c2a : ∀ o, (W5.alloc o).cell? ⟨(W3).heap.size, 2, none⟩ = some (.int .i64 (s)) := own_cell2 k1 2 _ rfl
  have k1c3 : W5.cell? ⟨(W3).heap.size, 3, none⟩ = some (.int .i64 (t)) := own_cell k1 3 _ rfl
  have k1c3a : ∀ o, (W5.alloc o).cell? ⟨(W3).heap.size, 3, none⟩ = some (.int .i64 (t)) := own_cell2 k1 3 _ rfl
  have k1c4 : W5.cell? ⟨(W3).heap.size, 4, none⟩ = some (.int .i32 (i)) := own_cell k1 4 _ rfl
  have k1c4a : ∀ o, (W5.alloc o).cell? ⟨(W3).heap.size, 4, none⟩ = some (.int .i32 (i)) := own_cell2 k1 4 _ rfl
  go_wp2_with fail
  replace tabs := tabs.below ((Below.refl W5.heap.size W5).alloc (Nat.le_refl _) (.cells #[.int .i64 (0), .int .i64 (0), .int .i64 (0), .int .i64 (0), .int .i32 (0)] 23))
  replace b1 := b1.alloc b1.size (.cells #[.int .i64 (0), .int .i64 (0), .int .i64 (0), .int .i64 (0), .int .i32 (0)] 23)
  replace k0 := k0.alloc k0.size (.cells #[.int .i64 (0), .int .i64 (0), .int .i64 (0), .int .i64 (0), .int .i32 (0)] 23)
  replace k1 := k1.alloc k1.size (.cells #[.int .i64 (0), .int .i64 (0), .int .i64 (0), .int .i64 (0), .int .i32 (0)] 23)
  go_ret
  exact ⟨rfl, b1⟩
set_option maxHeartbeats 4000000 in
theorem back_no_some (op d s t i : Int) (hi : -2147483648 ≤ i ∧ i ≤ 2147483647) (hl : isL op d s t i = false) (x : Int) (hx : 0 ≤ x ∧ x ≤ 4294967295) (k : Nat) (ho : decL x = some k) (w : World) (tabs : Tabs w) :
    Calls Tryd.prog 5 #[wordV op d s t i, .int .u32 x] w fun e w' => e = .returned (.bool true) ∧ Below w.heap.size w w' := by
  have hd := fun w t => dec_any x hx w t
  rw [ho] at hd
  simp only [wordO] at hd
  obtain ⟨hl2, hen⟩ := enc_dec hx ho
  have he2 := fun w t => enc_true hl2 w t
  rw [hen] at he2
  clear hen
  have he := fun w t => enc_false hl w t
  go_enter Tryd.func5, Tryd.ntmps5
  go_wp2_with fail
  replace tabs := tabs.below ((Below.refl w.heap.size w).alloc (Nat.le_refl _) (.cells #[.int .i64 (op), .int .i64 (d), .int .i64 (s), .int .i64 (t), .int .i32 (i)] 23))
  have b1 := (Below.refl w.heap.size w).alloc (Nat.le_refl _) (.cells #[.int .i64 (op), .int .i64 (d), .int .i64 (s), .int .i64 (t), .int .i32 (i)] 23)
  have k0 := Below.refl ((w).alloc (.cells #[.int .i64 (op), .int .i64 (d), .int .i64 (s), .int .i64 (t), .int .i32 (i)] 23)).heap.size ((w).alloc (.cells #[.int .i64 (op), .int .i64 (d), .int .i64 (s), .int .i64 (t), .int .i32 (i)] 23))
  refine (known_any _ tabs).mono ?_
  rintro e W0 ⟨rfl, bZ⟩
  replace b1 := b1.trans (bZ.mono b1.size)
  replace tabs := tabs.below bZ
  replace k0 := k0.trans (bZ.mono k0.size)
  clear bZ
  have k0c0 : W0.cell? ⟨(w).heap.size, 0, none⟩ = some (.int .i64 (op)) := own_cell k0 0 _ rfl
  have k0c0a : ∀ o, (W0.alloc o).cell? ⟨(w).heap.size, 0, none⟩ = some (.int .i64 (op)) := own_cell2 k0 0 _ rfl
  have k0c1 : W0.cell? ⟨(w).heap.size, 1, none⟩ = some (.int .i64 (d)) := own_cell k0 1 _ rfl
  have k0c1a : ∀ o, (W0.alloc o).cell? ⟨(w).heap.size, 1, none⟩ = some (.int .i64 (d)) := own_cell2 k0 1 _ rfl
  have k0c2 : W0.cell? ⟨(w).heap.size, 2, none⟩ = some (.int .i64 (s)) := own_cell k0 2 _ rfl
  have k0c2a : ∀ o, (W0.alloc o).cell? ⟨(w).heap.size, 2, none⟩ = some (.int .i64 (s)) := own_cell2 k0 2 _ rfl
  have k0c3 : W0.cell? ⟨(w).heap.size, 3, none⟩ = some (.int .i64 (t)) := own_cell k0 3 _ rfl
  have k0c3a : ∀ o, (W0.alloc o).cell? ⟨(w).heap.size, 3, none⟩ = some (.int .i64 (t)) := own_cell2 k0 3 _ rfl
  have k0c4 : W0.cell? ⟨(w).heap.size, 4, none⟩ = some (.int .i32 (i)) := own_cell k0 4 _ rfl
  have k0c4a : ∀ o, (W0.alloc o).cell? ⟨(w).heap.size, 4, none⟩ = some (.int .i32 (i)) := own_cell2 k0 4 _ rfl
  go_wp2_with fail
  clear k0c0 k0c0a k0c1 k0c1a k0c2 k0c2a k0c3 k0c3a k0c4 k0c4a
  refine (he _ tabs).mono ?_
  rintro e W1 ⟨rfl, bZ⟩
  replace b1 := b1.trans (bZ.mono b1.size)
  replace tabs := tabs.below bZ
  replace k0 := k0.trans (bZ.mono k0.size)
  clear bZ
  have k0c0 : W1.cell? ⟨(w).heap.size, 0, none⟩ = some (.int .i64 (op)) := own_cell k0 0 _ rfl
  have k0c0a : ∀ o, (W1.alloc o).cell? ⟨(w).heap.size, 0, none⟩ = some (.int .i64 (op)) := own_cell2 k0 0 _ rfl
  have k0c1 : W1.cell? ⟨(w).heap.size, 1, none⟩ = some (.int .i64 (d)) := own_cell k0 1 _ rfl
  have k0c1a : ∀ o, (W1.alloc o).cell? ⟨(w).heap.size, 1, none⟩ = some (.int .i64 (d)) := own_cell2 k0 1 _ rfl
  have k0c2 : W1.cell? ⟨(w).heap.size, 2, none⟩ = some (.int .i64 (s)) := own_cell k0 2 _ rfl
  have k0c2a : ∀ o, (W1.alloc o).cell? ⟨(w).heap.size, 2, none⟩ = some (.int .i64 (s)) := own_cell2 k0 2 _ rfl
  have k0c3 : W1.cell? ⟨(w).heap.size, 3, none⟩ = some (.int .i64 (t)) := own_cell k0 3 _ rfl
  have k0c3a : ∀ o, (W1.alloc o).cell? ⟨(w).heap.size, 3, none⟩ = some (.int .i64 (t)) := own_cell2 k0 3 _ rfl
  have k0c4 : W1.cell? ⟨(w).heap.size, 4, none⟩ = some (.int .i32 (i)) := own_cell k0 4 _ rfl
  have k0c4a : ∀ o, (W1.alloc o).cell? ⟨(w).heap.size, 4, none⟩ = some (.int .i32 (i)) := own_cell2 k0 4 _ rfl
  go_wp2_with fail
  clear k0c0 k0c0a k0c1 k0c1a k0c2 k0c2a k0c3 k0c3a k0c4 k0c4a
  refine (is_any _ _ _ _ _ _ tabs).mono ?_
  rintro e W2 ⟨rfl, bZ⟩
  replace b1 := b1.trans (bZ.mono b1.size)
  replace tabs := tabs.below bZ
  replace k0 := k0.trans (bZ.mono k0.size)
  clear bZ
  have k0c0 : W2.cell? ⟨(w).heap.size, 0, none⟩ = some (.int .i64 (op)) := own_cell k0 0 _ rfl
  have k0c0a : ∀ o, (W2.alloc o).cell? ⟨(w).heap.size, 0, none⟩ = some (.int .i64 (op)) := own_cell2 k0 0 _ rfl
  have k0c1 : W2.cell? ⟨(w).heap.size, 1, none⟩ = some (.int .i64 (d)) := own_cell k0 1 _ rfl
  have k0c1a : ∀ o, (W2.alloc o).cell? ⟨(w).heap.size, 1, none⟩ = some (.int .i64 (d)) := own_cell2 k0 1 _ rfl
  have k0c2 : W2.cell? ⟨(w).heap.size, 2, none⟩ = some (.int .i64 (s)) := own_cell k0 2 _ rfl
  have k0c2a : ∀ o, (W2.alloc o).cell? ⟨(w).heap.size, 2, none⟩ = some (.int .i64 (s)) := own_cell2 k0 2 _ rfl
  have k0c3 : W2.cell? ⟨(w).heap.size, 3, none⟩ = some (.int .i64 (t)) := own_cell k0 3 _ rfl
  have k0c3a : ∀ o, (W2.alloc o).cell? ⟨(w).heap.size, 3, none⟩ = some (.int .i64 (t)) := own_cell2 k0 3 _ rfl
  have k0c4 : W2.cell? ⟨(w).heap.size, 4, none⟩ = some (.int .i32 (i)) := own_cell k0 4 _ rfl
  have k0c4a : ∀ o, (W2.alloc o).cell? ⟨(w).heap.size, 4, none⟩ = some (.int .i32 (i)) := own_cell2 k0 4 _ rfl
  go_wp2_with fail
  clear k0c0 k0c0a k0c1 k0c1a k0c2 k0c2a k0c3 k0c3a k0c4 k0c4a
  refine (hd _ tabs).mono ?_
  rintro e W3 ⟨rfl, bZ⟩
  replace b1 := b1.trans (bZ.mono b1.size)
  replace tabs := tabs.below bZ
  replace k0 := k0.trans (bZ.mono k0.size)
  clear bZ
  have k0c0 : W3.cell? ⟨(w).heap.size, 0, none⟩ = some (.int .i64 (op)) := own_cell k0 0 _ rfl
  have k0c0a : ∀ o, (W3.alloc o).cell? ⟨(w).heap.size, 0, none⟩ = some (.int .i64 (op)) := own_cell2 k0 0 _ rfl
  have k0c1 : W3.cell? ⟨(w).heap.size, 1, none⟩ = some (.int .i64 (d)) := own_cell k0 1 _ rfl
  have k0c1a : ∀ o, (W3.alloc o).cell? ⟨(w).heap.size, 1, none⟩ = some (.int .i64 (d)) := own_cell2 k0 1 _ rfl
  have k0c2 : W3.cell? ⟨(w).heap.size, 2, none⟩ = some (.int .i64 (s)) := own_cell k0 2 _ rfl
  have k0c2a : ∀ o, (W3.alloc o).cell? ⟨(w).heap.size, 2, none⟩ = some (.int .i64 (s)) := own_cell2 k0 2 _ rfl
  have k0c3 : W3.cell? ⟨(w).heap.size, 3, none⟩ = some (.int .i64 (t)) := own_cell k0 3 _ rfl
  have k0c3a : ∀ o, (W3.alloc o).cell? ⟨(w).heap.size, 3, none⟩ = some (.int .i64 (t)) := own_cell2 k0 3 _ rfl
  have k0c4 : W3.cell? ⟨(w).heap.size, 4, none⟩ = some (.int .i32 (i)) := own_cell k0 4 _ rfl
  have k0c4a : ∀ o, (W3.alloc o).cell? ⟨(w).heap.size, 4, none⟩ = some (.int .i32 (i)) := own_cell2 k0 4 _ rfl
  go_wp2_with fail
  replace tabs := tabs.below ((Below.refl W3.heap.size W3).alloc (Nat.le_refl _) (.cells #[.int .i64 (k), .int .i64 (dL (formN k) x), .int .i64 (sL (formN k) x), .int .i64 (tL (formN k) x), .int .i32 (immL (formN k) x)] 23))
  replace b1 := b1.alloc b1.size (.cells #[.int .i64 (k), .int .i64 (dL (formN k) x), .int .i64 (sL (formN k) x), .int .i64 (tL (formN k) x), .int .i32 (immL (formN k) x)] 23)
  replace k0 := k0.alloc k0.size (.cells #[.int .i64 (k), .int .i64 (dL (formN k) x), .int .i64 (sL (formN k) x), .int .i64 (tL (formN k) x), .int .i32 (immL (formN k) x)] 23)
  have k1 := Below.refl ((W3).alloc (.cells #[.int .i64 (k), .int .i64 (dL (formN k) x), .int .i64 (sL (formN k) x), .int .i64 (tL (formN k) x), .int .i32 (immL (formN k) x)] 23)).heap.size ((W3).alloc (.cells #[.int .i64 (k), .int .i64 (dL (formN k) x), .int .i64 (sL (formN k) x), .int .i64 (tL (formN k) x), .int .i32 (immL (formN k) x)] 23))
  clear k0c0 k0c0a k0c1 k0c1a k0c2 k0c2a k0c3 k0c3a k0c4 k0c4a
  refine (he2 _ tabs).mono ?_
  rintro e W4 ⟨rfl, bZ⟩
  replace b1 := b1.trans (bZ.mono b1.size)
  replace tabs := tabs.below bZ
  replace k0 := k0.trans (bZ.mono k0.size)
  replace k1 := k1.trans (bZ.mono k1.size)
  clear bZ
  have k0c0 : W4.cell? ⟨(w).heap.size, 0, none⟩ = some (.int .i64 (op)) := own_cell k0 0 _ rfl
  have k0c0a : ∀ o, (W4.alloc o).cell? ⟨(w).heap.size, 0, none⟩ = some (.int .i64 (op)) := own_cell2 k0 0 _ rfl
  have k0c1 : W4.cell? ⟨(w).heap.size, 1, none⟩ = some (.int .i64 (d)) := own_cell k0 1 _ rfl
  have k0c1a : ∀ o, (W4.alloc o).cell? ⟨(w).heap.size, 1, none⟩ = some (.int .i64 (d)) := own_cell2 k0 1 _ rfl
  have k0c2 : W4.cell? ⟨(w).heap.size, 2, none⟩ = some (.int .i64 (s)) := own_cell k0 2 _ rfl
  have k0c2a : ∀ o, (W4.alloc o).cell? ⟨(w).heap.size, 2, none⟩ = some (.int .i64 (s)) := own_cell2 k0 2 _ rfl
  have k0c3 : W4.cell? ⟨(w).heap.size, 3, none⟩ = some (.int .i64 (t)) := own_cell k0 3 _ rfl
  have k0c3a : ∀ o, (W4.alloc o).cell? ⟨(w).heap.size, 3, none⟩ = some (.int .i64 (t)) := own_cell2 k0 3 _ rfl
  have k0c4 : W4.cell? ⟨(w).heap.size, 4, none⟩ = some (.int .i32 (i)) := own_cell k0 4 _ rfl
  have k0c4a : ∀ o, (W4.alloc o).cell? ⟨(w).heap.size, 4, none⟩ = some (.int .i32 (i)) := own_cell2 k0 4 _ rfl
  have k1c0 : W4.cell? ⟨(W3).heap.size, 0, none⟩ = some (.int .i64 (k)) := own_cell k1 0 _ rfl
  have k1c0a : ∀ o, (W4.alloc o).cell? ⟨(W3).heap.size, 0, none⟩ = some (.int .i64 (k)) := own_cell2 k1 0 _ rfl
  have k1c1 : W4.cell? ⟨(W3).heap.size, 1, none⟩ = some (.int .i64 (dL (formN k) x)) := own_cell k1 1 _ rfl
  have k1c1a : ∀ o, (W4.alloc o).cell? ⟨(W3).heap.size, 1, none⟩ = some (.int .i64 (dL (formN k) x)) := own_cell2 k1 1 _ rfl
  have k1c2 : W4.cell? ⟨(W3).heap.size, 2, none⟩ = some (.int .i64 (sL (formN k) x)) := own_cell k1 2 _ rfl
  have k1c2a : ∀ o, (W4.alloc o).cell? ⟨(W3).heap.size, 2, none⟩ = some (.int .i64 (sL (formN k) x)) := own_cell2 k1 2 _ rfl
  have k1c3 : W4.cell? ⟨(W3).heap.size, 3, none⟩ = some (.int .i64 (tL (formN k) x)) := own_cell k1 3 _ rfl
  have k1c3a : ∀ o, (W4.alloc o).cell? ⟨(W3).heap.size, 3, none⟩ = some (.int .i64 (tL (formN k) x)) := own_cell2 k1 3 _ rfl
  have k1c4 : W4.cell? ⟨(W3).heap.size, 4, none⟩ = some (.int .i32 (immL (formN k) x)) := own_cell k1 4 _ rfl
  have k1c4a : ∀ o, (W4.alloc o).cell? ⟨(W3).heap.size, 4, none⟩ = some (.int .i32 (immL (formN k) x)) := own_cell2 k1 4 _ rfl
  go_wp2_with fail
  go_ret
  exact ⟨rfl, b1⟩
set_option maxHeartbeats 4000000 in
theorem back_no_none (op d s t i : Int) (hi : -2147483648 ≤ i ∧ i ≤ 2147483647) (hl : isL op d s t i = false) (x : Int) (hx : 0 ≤ x ∧ x ≤ 4294967295) (ho : decL x = none) (w : World) (tabs : Tabs w) :
    Calls Tryd.prog 5 #[wordV op d s t i, .int .u32 x] w fun e w' => e = .returned (.bool true) ∧ Below w.heap.size w w' := by
  have hd := fun w t => dec_any x hx w t
  rw [ho] at hd
  simp only [wordO] at hd
  have he := fun w t => enc_false hl w t
  go_enter Tryd.func5, Tryd.ntmps5
  go_wp2_with fail
  replace tabs := tabs.below ((Below.refl w.heap.size w).alloc (Nat.le_refl _) (.cells #[.int .i64 (op), .int .i64 (d), .int .i64 (s), .int .i64 (t), .int .i32 (i)] 23))
  have b1 := (Below.refl w.heap.size w).alloc (Nat.le_refl _) (.cells #[.int .i64 (op), .int .i64 (d), .int .i64 (s), .int .i64 (t), .int .i32 (i)] 23)
  have k0 := Below.refl ((w).alloc (.cells #[.int .i64 (op), .int .i64 (d), .int .i64 (s), .int .i64 (t), .int .i32 (i)] 23)).heap.size ((w).alloc (.cells #[.int .i64 (op), .int .i64 (d), .int .i64 (s), .int .i64 (t), .int .i32 (i)] 23))
  refine (known_any _ tabs).mono ?_
  rintro e W0 ⟨rfl, bZ⟩
  replace b1 := b1.trans (bZ.mono b1.size)
  replace tabs := tabs.below bZ
  replace k0 := k0.trans (bZ.mono k0.size)
  clear bZ
  have k0c0 : W0.cell? ⟨(w).heap.size, 0, none⟩ = some (.int .i64 (op)) := own_cell k0 0 _ rfl
  have k0c0a : ∀ o, (W0.alloc o).cell? ⟨(w).heap.size, 0, none⟩ = some (.int .i64 (op)) := own_cell2 k0 0 _ rfl
  have k0c1 : W0.cell? ⟨(w).heap.size, 1, none⟩ = some (.int .i64 (d)) := own_cell k0 1 _ rfl
  have k0c1a : ∀ o, (W0.alloc o).cell? ⟨(w).heap.size, 1, none⟩ = some (.int .i64 (d)) := own_cell2 k0 1 _ rfl
  have k0c2 : W0.cell? ⟨(w).heap.size, 2, none⟩ = some (.int .i64 (s)) := own_cell k0 2 _ rfl
  have k0c2a : ∀ o, (W0.alloc o).cell? ⟨(w).heap.size, 2, none⟩ = some (.int .i64 (s)) := own_cell2 k0 2 _ rfl
  have k0c3 : W0.cell? ⟨(w).heap.size, 3, none⟩ = some (.int .i64 (t)) := own_cell k0 3 _ rfl
  have k0c3a : ∀ o, (W0.alloc o).cell? ⟨(w).heap.size, 3, none⟩ = some (.int .i64 (t)) := own_cell2 k0 3 _ rfl
  have k0c4 : W0.cell? ⟨(w).heap.size, 4, none⟩ = some (.int .i32 (i)) := own_cell k0 4 _ rfl
  have k0c4a : ∀ o, (W0.alloc o).cell? ⟨(w).heap.size, 4, none⟩ = some (.int .i32 (i)) := own_cell2 k0 4 _ rfl
  go_wp2_with fail
  clear k0c0 k0c0a k0c1 k0c1a k0c2 k0c2a k0c3 k0c3a k0c4 k0c4a
  refine (he _ tabs).mono ?_
  rintro e W1 ⟨rfl, bZ⟩
  replace b1 := b1.trans (bZ.mono b1.size)
  replace tabs := tabs.below bZ
  replace k0 := k0.trans (bZ.mono k0.size)
  clear bZ
  have k0c0 : W1.cell? ⟨(w).heap.size, 0, none⟩ = some (.int .i64 (op)) := own_cell k0 0 _ rfl
  have k0c0a : ∀ o, (W1.alloc o).cell? ⟨(w).heap.size, 0, none⟩ = some (.int .i64 (op)) := own_cell2 k0 0 _ rfl
  have k0c1 : W1.cell? ⟨(w).heap.size, 1, none⟩ = some (.int .i64 (d)) := own_cell k0 1 _ rfl
  have k0c1a : ∀ o, (W1.alloc o).cell? ⟨(w).heap.size, 1, none⟩ = some (.int .i64 (d)) := own_cell2 k0 1 _ rfl
  have k0c2 : W1.cell? ⟨(w).heap.size, 2, none⟩ = some (.int .i64 (s)) := own_cell k0 2 _ rfl
  have k0c2a : ∀ o, (W1.alloc o).cell? ⟨(w).heap.size, 2, none⟩ = some (.int .i64 (s)) := own_cell2 k0 2 _ rfl
  have k0c3 : W1.cell? ⟨(w).heap.size, 3, none⟩ = some (.int .i64 (t)) := own_cell k0 3 _ rfl
  have k0c3a : ∀ o, (W1.alloc o).cell? ⟨(w).heap.size, 3, none⟩ = some (.int .i64 (t)) := own_cell2 k0 3 _ rfl
  have k0c4 : W1.cell? ⟨(w).heap.size, 4, none⟩ = some (.int .i32 (i)) := own_cell k0 4 _ rfl
  have k0c4a : ∀ o, (W1.alloc o).cell? ⟨(w).heap.size, 4, none⟩ = some (.int .i32 (i)) := own_cell2 k0 4 _ rfl
  go_wp2_with fail
  clear k0c0 k0c0a k0c1 k0c1a k0c2 k0c2a k0c3 k0c3a k0c4 k0c4a
  refine (is_any _ _ _ _ _ _ tabs).mono ?_
  rintro e W2 ⟨rfl, bZ⟩
  replace b1 := b1.trans (bZ.mono b1.size)
  replace tabs := tabs.below bZ
  replace k0 := k0.trans (bZ.mono k0.size)
  clear bZ
  have k0c0 : W2.cell? ⟨(w).heap.size, 0, none⟩ = some (.int .i64 (op)) := own_cell k0 0 _ rfl
  have k0c0a : ∀ o, (W2.alloc o).cell? ⟨(w).heap.size, 0, none⟩ = some (.int .i64 (op)) := own_cell2 k0 0 _ rfl
  have k0c1 : W2.cell? ⟨(w).heap.size, 1, none⟩ = some (.int .i64 (d)) := own_cell k0 1 _ rfl
  have k0c1a : ∀ o, (W2.alloc o).cell? ⟨(w).heap.size, 1, none⟩ = some (.int .i64 (d)) := own_cell2 k0 1 _ rfl
  have k0c2 : W2.cell? ⟨(w).heap.size, 2, none⟩ = some (.int .i64 (s)) := own_cell k0 2 _ rfl
  have k0c2a : ∀ o, (W2.alloc o).cell? ⟨(w).heap.size, 2, none⟩ = some (.int .i64 (s)) := own_cell2 k0 2 _ rfl
  have k0c3 : W2.cell? ⟨(w).heap.size, 3, none⟩ = some (.int .i64 (t)) := own_cell k0 3 _ rfl
  have k0c3a : ∀ o, (W2.alloc o).cell? ⟨(w).heap.size, 3, none⟩ = some (.int .i64 (t)) := own_cell2 k0 3 _ rfl
  have k0c4 : W2.cell? ⟨(w).heap.size, 4, none⟩ = some (.int .i32 (i)) := own_cell k0 4 _ rfl
  have k0c4a : ∀ o, (W2.alloc o).cell? ⟨(w).heap.size, 4, none⟩ = some (.int .i32 (i)) := own_cell2 k0 4 _ rfl
  go_wp2_with fail
  clear k0c0 k0c0a k0c1 k0c1a k0c2 k0c2a k0c3 k0c3a k0c4 k0c4a
  refine (hd _ tabs).mono ?_
  rintro e W3 ⟨rfl, bZ⟩
  replace b1 := b1.trans (bZ.mono b1.size)
  replace tabs := tabs.below bZ
  replace k0 := k0.trans (bZ.mono k0.size)
  clear bZ
  have k0c0 : W3.cell? ⟨(w).heap.size, 0, none⟩ = some (.int .i64 (op)) := own_cell k0 0 _ rfl
  have k0c0a : ∀ o, (W3.alloc o).cell? ⟨(w).heap.size, 0, none⟩ = some (.int .i64 (op)) := own_cell2 k0 0 _ rfl
  have k0c1 : W3.cell? ⟨(w).heap.size, 1, none⟩ = some (.int .i64 (d)) := own_cell k0 1 _ rfl
  have k0c1a : ∀ o, (W3.alloc o).cell? ⟨(w).heap.size, 1, none⟩ = some (.int .i64 (d)) := own_cell2 k0 1 _ rfl
  have k0c2 : W3.cell? ⟨(w).heap.size, 2, none⟩ = some (.int .i64 (s)) := own_cell k0 2 _ rfl
  have k0c2a : ∀ o, (W3.alloc o).cell? ⟨(w).heap.size, 2, none⟩ = some (.int .i64 (s)) := own_cell2 k0 2 _ rfl
  have k0c3 : W3.cell? ⟨(w).heap.size, 3, none⟩ = some (.int .i64 (t)) := own_cell k0 3 _ rfl
  have k0c3a : ∀ o, (W3.alloc o).cell? ⟨(w).heap.size, 3, none⟩ = some (.int .i64 (t)) := own_cell2 k0 3 _ rfl
  have k0c4 : W3.cell? ⟨(w).heap.size, 4, none⟩ = some (.int .i32 (i)) := own_cell k0 4 _ rfl
  have k0c4a : ∀ o, (W3.alloc o).cell? ⟨(w).heap.size, 4, none⟩ = some (.int .i32 (i)) := own_cell2 k0 4 _ rfl
  go_wp2_with fail
  replace tabs := tabs.below ((Below.refl W3.heap.size W3).alloc (Nat.le_refl _) (.cells #[.int .i64 (0), .int .i64 (0), .int .i64 (0), .int .i64 (0), .int .i32 (0)] 23))
  replace b1 := b1.alloc b1.size (.cells #[.int .i64 (0), .int .i64 (0), .int .i64 (0), .int .i64 (0), .int .i32 (0)] 23)
  replace k0 := k0.alloc k0.size (.cells #[.int .i64 (0), .int .i64 (0), .int .i64 (0), .int .i64 (0), .int .i32 (0)] 23)
  go_ret
  exact ⟨rfl, b1⟩
theorem back_walk (op d s t i : Int) (hi : -2147483648 ≤ i ∧ i ≤ 2147483647) (x : Nat) (hx : x < 4294967296) (w : World) (tabs : Tabs w) :
    Calls Tryd.prog 5 #[wordV op d s t i, .int .u32 x] w fun e w' => e = .returned (.bool true) ∧ Below w.heap.size w w' := by
  cases hl : isL op d s t i with
  | true =>
    cases ho : decL (x : Int) with
    | some k => exact back_yes_some op d s t i hi hl x (by omega) k ho w tabs
    | none => exact back_yes_none op d s t i hi hl x (by omega) ho w tabs
  | false =>
    cases ho : decL (x : Int) with
    | some k => exact back_no_some op d s t i hi hl x (by omega) k ho w tabs
    | none => exact back_no_none op d s t i hi hl x (by omega) ho w tabs
end Go.Proofs.YtoeohfbicnolhaaDoor
