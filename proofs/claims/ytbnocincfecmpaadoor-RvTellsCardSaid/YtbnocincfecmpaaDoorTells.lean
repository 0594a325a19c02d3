import Derived.Test.YtbnocincfecmpaaDoorM1
import Derived.Test.YtbnocincfecmpaaDoorT5
import Derived.Deep.RegionHeld3
namespace Go.Proofs.YtbnocincfecmpaaDoor
open Go.RowKit
set_option linter.unusedVariables false
set_option linter.unusedSimpArgs false
set_option linter.unusedSectionVars false

theorem heldB {w w1 : World} {p0 p1 p2 p3 p4 : Addr} {v0 v1 v2 v3 v4 : Value} (h : w1.cell? p0 = some v0 ∧ w1.cell? p1 = some v1 ∧ w1.cell? p2 = some v2 ∧ w1.cell? p3 = some v3 ∧ w1.cell? p4 = some v4 ∧ Below w.heap.size w w1) : Below w.heap.size w w1 := h.2.2.2.2.2
set_option maxHeartbeats 8000000 in
theorem tells_core (op d s t i E : Int) (TX : ByteArray) (Tb : World → Prop) (hTB : ∀ {w w' : World}, Tb w → Below w.heap.size w w' → Tb w')
    (hK : ∀ w, Tb w → Calls Tryd.prog 18 #[] w fun e w' => e = .returned (.bool true) ∧ Below w.heap.size w w')
    (he : ∀ w, Tb w → Calls Tryd.prog 19 #[wordV op d s t i] w fun e w' => e = .returned (.tuple #[.int .u32 E, .int .i64 0]) ∧ Below w.heap.size w w')
    (hr : ∀ w, Calls Tryd.prog 16 #[wordV op d s t i] w fun e w' => e = .returned (.tuple #[.int .u32 E, .bool true]) ∧ Below w.heap.size w w')
    (hI : ∀ w, Tb w → Calls Tryd.prog 20 #[wordV op d s t i] w fun e w' => e = .returned (.bool true) ∧ Below w.heap.size w w')
    (hJ : ∀ w, Calls Tryd.prog 21 #[wordV op d s t i] w fun e w' => e = .returned (.bool true) ∧ Below w.heap.size w w')
    (hT : ∀ w, Tb w → Calls Tryd.prog 22 #[wordV op d s t i] w fun e w' => e = .returned (.string TX) ∧ Below w.heap.size w w')
    (hU : ∀ w, Calls Tryd.prog 23 #[wordV op d s t i] w fun e w' => e = .returned (.string TX) ∧ Below w.heap.size w w')
    (w : World) (tabs : Tb w) :
    Calls Tryd.prog 7 #[wordV op d s t i] w fun e w' => e = .returned (.bool true) ∧ Below w.heap.size w w' := by
  have tabs0 := tabs
  go_enter Tryd.func7, Tryd.ntmps7
  go_wp2_with fail
  replace tabs := hTB tabs ((Below.refl w.heap.size w).alloc (Nat.le_refl _) (.cells #[.int .i64 (op), .int .i64 (d), .int .i64 (s), .int .i64 (t), .int .i32 (i)] 37))
  have b1 := (Below.refl w.heap.size w).alloc (Nat.le_refl _) (.cells #[.int .i64 (op), .int .i64 (d), .int .i64 (s), .int .i64 (t), .int .i32 (i)] 37)
  have k0 := Below.refl ((w).alloc (.cells #[.int .i64 (op), .int .i64 (d), .int .i64 (s), .int .i64 (t), .int .i32 (i)] 37)).heap.size ((w).alloc (.cells #[.int .i64 (op), .int .i64 (d), .int .i64 (s), .int .i64 (t), .int .i32 (i)] 37))
  refine (hK _ tabs).mono ?_
  rintro e W0 ⟨rfl, bZ⟩
  replace b1 := b1.trans (bZ.mono b1.size)
  replace tabs := hTB tabs bZ
  replace k0 := k0.trans (bZ.mono k0.size)
  clear bZ
  have k0c0 : W0.cell? ⟨(w).heap.size, 0, none⟩ = some (.int .i64 (op)) := own_cell k0 0 _ rfl
  have k0c0a : ∀ o, (W0.alloc o).cell? ⟨(w).heap.size, 0, none⟩ = some (.int .i64 (op)) := own_cell2 k0 0 _ rfl
  have k0c1 : W0.cell? ⟨(w).heap.size, 1, none⟩ = some (.int .i64 (d)) := own_cell k0 1 _ rfl
  have k0c1a : ∀ o, (W0.alloc o).cell? ⟨(w).heap.size, 1, none⟩ = some (.int .i64 (d)) := own_cell2 k0 1 _ rfl
  have k0c2 : W0.cell? ⟨(w).heap.size, 2, none⟩ = some (.int .i64 (s)) := own_cell k0 2 _ rfl
  have k0c2a : ∀ o, (W0.alloc o).cell? ⟨(w).heap.size, 2, none⟩ = some (.int .i64 (s)) := own_cell2 k0 2 _ rfl
  have k0c3 : W0.cell? ⟨(w).heap.size, 3, none⟩ = some (.int .i64 (t)) := own_cell k0 3 _ rfl
  have k0c3a : ∀ o, (W0.alloc o).cell? ⟨(w).heap.size, 3, none⟩ = some (.int .i64 (t)) := own_cell2 k0 3 _ rfl
  have k0c4 : W0.cell? ⟨(w).heap.size, 4, none⟩ = some (.int .i32 (i)) := own_cell k0 4 _ rfl
  have k0c4a : ∀ o, (W0.alloc o).cell? ⟨(w).heap.size, 4, none⟩ = some (.int .i32 (i)) := own_cell2 k0 4 _ rfl
  go_wp2_with fail
  clear k0c0 k0c0a k0c1 k0c1a k0c2 k0c2a k0c3 k0c3a k0c4 k0c4a
  refine (he _ tabs).mono ?_
  rintro e W1 ⟨rfl, bZ⟩
  replace b1 := b1.trans (bZ.mono b1.size)
  replace tabs := hTB tabs bZ
  replace k0 := k0.trans (bZ.mono k0.size)
  clear bZ
  have k0c0 : W1.cell? ⟨(w).heap.size, 0, none⟩ = some (.int .i64 (op)) := own_cell k0 0 _ rfl
  have k0c0a : ∀ o, (W1.alloc o).cell? ⟨(w).heap.size, 0, none⟩ = some (.int .i64 (op)) := own_cell2 k0 0 _ rfl
  have k0c1 : W1.cell? ⟨(w).heap.size, 1, none⟩ = some (.int .i64 (d)) := own_cell k0 1 _ rfl
  have k0c1a : ∀ o, (W1.alloc o).cell? ⟨(w).heap.size, 1, none⟩ = some (.int .i64 (d)) := own_cell2 k0 1 _ rfl
  have k0c2 : W1.cell? ⟨(w).heap.size, 2, none⟩ = some (.int .i64 (s)) := own_cell k0 2 _ rfl
  have k0c2a : ∀ o, (W1.alloc o).cell? ⟨(w).heap.size, 2, none⟩ = some (.int .i64 (s)) := own_cell2 k0 2 _ rfl
  have k0c3 : W1.cell? ⟨(w).heap.size, 3, none⟩ = some (.int .i64 (t)) := own_cell k0 3 _ rfl
  have k0c3a : ∀ o, (W1.alloc o).cell? ⟨(w).heap.size, 3, none⟩ = some (.int .i64 (t)) := own_cell2 k0 3 _ rfl
  have k0c4 : W1.cell? ⟨(w).heap.size, 4, none⟩ = some (.int .i32 (i)) := own_cell k0 4 _ rfl
  have k0c4a : ∀ o, (W1.alloc o).cell? ⟨(w).heap.size, 4, none⟩ = some (.int .i32 (i)) := own_cell2 k0 4 _ rfl
  go_wp2_with fail
  clear k0c0 k0c0a k0c1 k0c1a k0c2 k0c2a k0c3 k0c3a k0c4 k0c4a
  refine (hr _).mono ?_
  rintro e W2 ⟨rfl, bZ⟩
  replace b1 := b1.trans (bZ.mono b1.size)
  replace tabs := hTB tabs bZ
  replace k0 := k0.trans (bZ.mono k0.size)
  clear bZ
  have k0c0 : W2.cell? ⟨(w).heap.size, 0, none⟩ = some (.int .i64 (op)) := own_cell k0 0 _ rfl
  have k0c0a : ∀ o, (W2.alloc o).cell? ⟨(w).heap.size, 0, none⟩ = some (.int .i64 (op)) := own_cell2 k0 0 _ rfl
  have k0c1 : W2.cell? ⟨(w).heap.size, 1, none⟩ = some (.int .i64 (d)) := own_cell k0 1 _ rfl
  have k0c1a : ∀ o, (W2.alloc o).cell? ⟨(w).heap.size, 1, none⟩ = some (.int .i64 (d)) := own_cell2 k0 1 _ rfl
  have k0c2 : W2.cell? ⟨(w).heap.size, 2, none⟩ = some (.int .i64 (s)) := own_cell k0 2 _ rfl
  have k0c2a : ∀ o, (W2.alloc o).cell? ⟨(w).heap.size, 2, none⟩ = some (.int .i64 (s)) := own_cell2 k0 2 _ rfl
  have k0c3 : W2.cell? ⟨(w).heap.size, 3, none⟩ = some (.int .i64 (t)) := own_cell k0 3 _ rfl
  have k0c3a : ∀ o, (W2.alloc o).cell? ⟨(w).heap.size, 3, none⟩ = some (.int .i64 (t)) := own_cell2 k0 3 _ rfl
  have k0c4 : W2.cell? ⟨(w).heap.size, 4, none⟩ = some (.int .i32 (i)) := own_cell k0 4 _ rfl
  have k0c4a : ∀ o, (W2.alloc o).cell? ⟨(w).heap.size, 4, none⟩ = some (.int .i32 (i)) := own_cell2 k0 4 _ rfl
  go_wp2_with fail
  replace b1 : Below w.heap.size w W2 := b1
  clear he hr tabs k0c0a k0c1a k0c2a k0c3a k0c4a k0
  first
  | go_region_held (fun w' => w'.cell? ⟨w.heap.size, 0, none⟩ = some (.int .i64 (op)) ∧ w'.cell? ⟨w.heap.size, 1, none⟩ = some (.int .i64 (d)) ∧ w'.cell? ⟨w.heap.size, 2, none⟩ = some (.int .i64 (s)) ∧ w'.cell? ⟨w.heap.size, 3, none⟩ = some (.int .i64 (t)) ∧ w'.cell? ⟨w.heap.size, 4, none⟩ = some (.int .i32 (i)) ∧ Below w.heap.size w w')
      (first | with_reducible assumption | with_reducible exact keepb (by assumption) rfl rfl rfl rfl rfl (by assumption) | exact ⟨k0c0, k0c1, k0c2, k0c3, k0c4, b1.drew⟩)
      (first | (go_at_call 20; with_reducible refine (hI _ (hTB tabs0 (heldB (by assumption)))).mono ?_; rintro e w' ⟨rfl, bZ⟩) | (go_at_call 21; with_reducible refine (hJ _).mono ?_; rintro e w' ⟨rfl, bZ⟩) | (go_at_call 22; with_reducible refine (hT _ (hTB tabs0 (heldB (by assumption)))).mono ?_; rintro e w' ⟨rfl, bZ⟩) | (go_at_call 23; with_reducible refine (hU _).mono ?_; rintro e w' ⟨rfl, bZ⟩))
  | fail
  all_goals go_wp2_with fail
  all_goals go_ret
  all_goals exact ⟨rfl, heldB (by assumption)⟩
theorem tells_yes (op d s t i : Int) (hi : -2147483648 ≤ i ∧ i ≤ 2147483647) (hl : isL op d s t i = true) (w : World) (tabs : Tabs w) :
    Calls Tryd.prog 7 #[wordV op d s t i] w fun e w' => e = .returned (.bool true) ∧ Below w.heap.size w w' := by
  have hr := fun w => rEnc_any op d s t i hi w
  have hI := fun w tb => is_any op d s t i w tb
  have hJ := fun w => rIs_any op d s t i hi w
  rw [hl] at hr hI hJ
  rw [if_pos rfl] at hr
  exact tells_core op d s t i (encL op d s t i) (bs (textL op d s t i)) Tabs (fun h b => h.below b) (fun w tb => known_any w tb) (fun w tb => enc_true hl w tb) hr hI hJ (fun w tb => text_any op d s t i hi w tb) (fun w => rtext_any op d s t i hi w) w tabs
set_option maxHeartbeats 8000000 in
theorem tells_no (op d s t i : Int) (hi : -2147483648 ≤ i ∧ i ≤ 2147483647) (hl : isL op d s t i = false) (w : World) (tabs : Tabs w) :
    Calls Tryd.prog 7 #[wordV op d s t i] w fun e w' => e = .returned (.bool true) ∧ Below w.heap.size w w' := by
  have tabs0 := tabs
  have he := fun w tb => enc_false hl w tb
  have hr := fun w => rEnc_any op d s t i hi w
  have hI := fun w tb => is_any op d s t i w tb
  have hJ := fun w => rIs_any op d s t i hi w
  rw [hl] at hr hI hJ
  rw [if_neg (by decide)] at hr
  have hT := fun w tb => text_any op d s t i hi w tb
  have hU := fun w => rtext_any op d s t i hi w
  generalize textL op d s t i = TX at *
  generalize encL op d s t i = E at *
  clear hl
  go_enter Tryd.func7, Tryd.ntmps7
  go_wp2_with fail
  replace tabs := tabs.below ((Below.refl w.heap.size w).alloc (Nat.le_refl _) (.cells #[.int .i64 (op), .int .i64 (d), .int .i64 (s), .int .i64 (t), .int .i32 (i)] 37))
  have b1 := (Below.refl w.heap.size w).alloc (Nat.le_refl _) (.cells #[.int .i64 (op), .int .i64 (d), .int .i64 (s), .int .i64 (t), .int .i32 (i)] 37)
  have k0 := Below.refl ((w).alloc (.cells #[.int .i64 (op), .int .i64 (d), .int .i64 (s), .int .i64 (t), .int .i32 (i)] 37)).heap.size ((w).alloc (.cells #[.int .i64 (op), .int .i64 (d), .int .i64 (s), .int .i64 (t), .int .i32 (i)] 37))
  refine (known_any _ tabs).mono ?_
  rintro e W0 ⟨rfl, bZ⟩
  replace b1 := b1.trans (bZ.mono b1.size)
  replace tabs := tabs.below bZ
  replace k0 := k0.trans (bZ.mono k0.size)
  clear bZ
  have k0c0 : W0.cell? ⟨(w).heap.size, 0, none⟩ = some (.int .i64 (op)) := own_cell k0 0 _ rfl
  have k0c0a : ∀ o, (W0.alloc o).cell? ⟨(w).heap.size, 0, none⟩ = some (.int .i64 (op)) := own_cell2 k0 0 _ rfl
  have k0c1 : W0.cell? ⟨(w).heap.size, 1, none⟩ = some (.int .i64 (d)) := own_cell k0 1 _ rfl
  have k0c1a : ∀ o, (W0.alloc o).cell? ⟨(w).heap.size, 1, none⟩ = some (.int .i64 (d)) := own_cell2 k0 1 _ rfl
  have k0c2 : W0.cell? ⟨(w).heap.size, 2, none⟩ = some (.int .i64 (s)) := own_cell k0 2 _ rfl
  have k0c2a : ∀ o, (W0.alloc o).cell? ⟨(w).heap.size, 2, none⟩ = some (.int .i64 (s)) := own_cell2 k0 2 _ rfl
  have k0c3 : W0.cell? ⟨(w).heap.size, 3, none⟩ = some (.int .i64 (t)) := own_cell k0 3 _ rfl
  have k0c3a : ∀ o, (W0.alloc o).cell? ⟨(w).heap.size, 3, none⟩ = some (.int .i64 (t)) := own_cell2 k0 3 _ rfl
  have k0c4 : W0.cell? ⟨(w).heap.size, 4, none⟩ = some (.int .i32 (i)) := own_cell k0 4 _ rfl
  have k0c4a : ∀ o, (W0.alloc o).cell? ⟨(w).heap.size, 4, none⟩ = some (.int .i32 (i)) := own_cell2 k0 4 _ rfl
  go_wp2_with fail
  clear k0c0 k0c0a k0c1 k0c1a k0c2 k0c2a k0c3 k0c3a k0c4 k0c4a
  refine (he _ tabs).mono ?_
  rintro e W1 ⟨rfl, bZ⟩
  replace b1 := b1.trans (bZ.mono b1.size)
  replace tabs := tabs.below bZ
  replace k0 := k0.trans (bZ.mono k0.size)
  clear bZ
  have k0c0 : W1.cell? ⟨(w).heap.size, 0, none⟩ = some (.int .i64 (op)) := own_cell k0 0 _ rfl
  have k0c0a : ∀ o, (W1.alloc o).cell? ⟨(w).heap.size, 0, none⟩ = some (.int .i64 (op)) := own_cell2 k0 0 _ rfl
  have k0c1 : W1.cell? ⟨(w).heap.size, 1, none⟩ = some (.int .i64 (d)) := own_cell k0 1 _ rfl
  have k0c1a : ∀ o, (W1.alloc o).cell? ⟨(w).heap.size, 1, none⟩ = some (.int .i64 (d)) := own_cell2 k0 1 _ rfl
  have k0c2 : W1.cell? ⟨(w).heap.size, 2, none⟩ = some (.int .i64 (s)) := own_cell k0 2 _ rfl
  have k0c2a : ∀ o, (W1.alloc o).cell? ⟨(w).heap.size, 2, none⟩ = some (.int .i64 (s)) := own_cell2 k0 2 _ rfl
  have k0c3 : W1.cell? ⟨(w).heap.size, 3, none⟩ = some (.int .i64 (t)) := own_cell k0 3 _ rfl
  have k0c3a : ∀ o, (W1.alloc o).cell? ⟨(w).heap.size, 3, none⟩ = some (.int .i64 (t)) := own_cell2 k0 3 _ rfl
  have k0c4 : W1.cell? ⟨(w).heap.size, 4, none⟩ = some (.int .i32 (i)) := own_cell k0 4 _ rfl
  have k0c4a : ∀ o, (W1.alloc o).cell? ⟨(w).heap.size, 4, none⟩ = some (.int .i32 (i)) := own_cell2 k0 4 _ rfl
  go_wp2_with fail
  clear k0c0 k0c0a k0c1 k0c1a k0c2 k0c2a k0c3 k0c3a k0c4 k0c4a
  refine (hr _).mono ?_
  rintro e W2 ⟨rfl, bZ⟩
  replace b1 := b1.trans (bZ.mono b1.size)
  replace tabs := tabs.below bZ
  replace k0 := k0.trans (bZ.mono k0.size)
  clear bZ
  have k0c0 : W2.cell? ⟨(w).heap.size, 0, none⟩ = some (.int .i64 (op)) := own_cell k0 0 _ rfl
  have k0c0a : ∀ o, (W2.alloc o).cell? ⟨(w).heap.size, 0, none⟩ = some (.int .i64 (op)) := own_cell2 k0 0 _ rfl
  have k0c1 : W2.cell? ⟨(w).heap.size, 1, none⟩ = some (.int .i64 (d)) := own_cell k0 1 _ rfl
  have k0c1a : ∀ o, (W2.alloc o).cell? ⟨(w).heap.size, 1, none⟩ = some (.int .i64 (d)) := own_cell2 k0 1 _ rfl
  have k0c2 : W2.cell? ⟨(w).heap.size, 2, none⟩ = some (.int .i64 (s)) := own_cell k0 2 _ rfl
  have k0c2a : ∀ o, (W2.alloc o).cell? ⟨(w).heap.size, 2, none⟩ = some (.int .i64 (s)) := own_cell2 k0 2 _ rfl
  have k0c3 : W2.cell? ⟨(w).heap.size, 3, none⟩ = some (.int .i64 (t)) := own_cell k0 3 _ rfl
  have k0c3a : ∀ o, (W2.alloc o).cell? ⟨(w).heap.size, 3, none⟩ = some (.int .i64 (t)) := own_cell2 k0 3 _ rfl
  have k0c4 : W2.cell? ⟨(w).heap.size, 4, none⟩ = some (.int .i32 (i)) := own_cell k0 4 _ rfl
  have k0c4a : ∀ o, (W2.alloc o).cell? ⟨(w).heap.size, 4, none⟩ = some (.int .i32 (i)) := own_cell2 k0 4 _ rfl
  go_wp2_with fail
  replace b1 : Below w.heap.size w W2 := b1
  clear he hr tabs k0c0a k0c1a k0c2a k0c3a k0c4a k0
  go_region_held3 (fun w' => w'.cell? ⟨w.heap.size, 0, none⟩ = some (.int .i64 (op)) ∧ w'.cell? ⟨w.heap.size, 1, none⟩ = some (.int .i64 (d)) ∧ w'.cell? ⟨w.heap.size, 2, none⟩ = some (.int .i64 (s)) ∧ w'.cell? ⟨w.heap.size, 3, none⟩ = some (.int .i64 (t)) ∧ w'.cell? ⟨w.heap.size, 4, none⟩ = some (.int .i32 (i)) ∧ Below w.heap.size w w')
    (first | with_reducible assumption | with_reducible exact keepb (by assumption) rfl rfl rfl rfl rfl (by assumption) | exact ⟨k0c0, k0c1, k0c2, k0c3, k0c4, b1.drew⟩)
    (first | (go_at_call 20; with_reducible refine (hI _ (tabs0.below (heldB (by assumption)))).mono ?_; rintro e w' ⟨rfl, bZ⟩) | (go_at_call 21; with_reducible refine (hJ _).mono ?_; rintro e w' ⟨rfl, bZ⟩) | (go_at_call 22; with_reducible refine (hT _ (tabs0.below (heldB (by assumption)))).mono ?_; rintro e w' ⟨rfl, bZ⟩) | (go_at_call 23; with_reducible refine (hU _).mono ?_; rintro e w' ⟨rfl, bZ⟩))
  all_goals go_wp2_with fail
  all_goals go_ret
  all_goals exact ⟨rfl, heldB (by assumption)⟩
end Go.Proofs.YtbnocincfecmpaaDoor
