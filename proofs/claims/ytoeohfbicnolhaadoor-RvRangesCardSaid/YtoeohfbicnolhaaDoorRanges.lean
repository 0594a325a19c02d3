import Derived.Test.YtoeohfbicnolhaaDoorM1
namespace Go.Proofs.YtoeohfbicnolhaaDoor
open Go.RowKit
set_option linter.unusedVariables false
set_option linter.unusedSimpArgs false
set_option linter.unusedSectionVars false

theorem chain_cell (W0 : World) (c0 c1 c2 c3 c4 : Array Value) (t : TypeId) (W : World)
    (b : Below (((((W0.alloc (.cells c0 t)).alloc (.cells c1 t)).alloc (.cells c2 t)).alloc (.cells c3 t)).alloc (.cells c4 t)).heap.size (((((W0.alloc (.cells c0 t)).alloc (.cells c1 t)).alloc (.cells c2 t)).alloc (.cells c3 t)).alloc (.cells c4 t)) W) :
    (∀ i v, c1[i]? = some v → W.cell? ⟨W0.heap.size + 1, i, none⟩ = some v) ∧ (∀ i v, c2[i]? = some v → W.cell? ⟨W0.heap.size + 2, i, none⟩ = some v) ∧
    (∀ i v, c3[i]? = some v → W.cell? ⟨W0.heap.size + 3, i, none⟩ = some v) ∧ (∀ i v, c4[i]? = some v → W.cell? ⟨W0.heap.size + 4, i, none⟩ = some v) := by
  refine ⟨fun i v h => ?_, fun i v h => ?_, fun i v h => ?_, fun i v h => ?_⟩
  · have x := (((Below.refl ((W0.alloc (.cells c0 t)).alloc (.cells c1 t)).heap.size ((W0.alloc (.cells c0 t)).alloc (.cells c1 t))).alloc (Nat.le_refl _) (.cells c2 t)).alloc (by simp) (.cells c3 t)).alloc (by simp <;> omega) (.cells c4 t)
    have := own_cell (x.trans (b.mono (by simp <;> omega))) i v h
    simpa using this
  · have x := ((Below.refl (((W0.alloc (.cells c0 t)).alloc (.cells c1 t)).alloc (.cells c2 t)).heap.size (((W0.alloc (.cells c0 t)).alloc (.cells c1 t)).alloc (.cells c2 t))).alloc (Nat.le_refl _) (.cells c3 t)).alloc (by simp) (.cells c4 t)
    have := own_cell (x.trans (b.mono (by simp <;> omega))) i v h
    simpa using this
  · have x := (Below.refl ((((W0.alloc (.cells c0 t)).alloc (.cells c1 t)).alloc (.cells c2 t)).alloc (.cells c3 t)).heap.size ((((W0.alloc (.cells c0 t)).alloc (.cells c1 t)).alloc (.cells c2 t)).alloc (.cells c3 t))).alloc (Nat.le_refl _) (.cells c4 t)
    have := own_cell (x.trans (b.mono (by simp))) i v h
    simpa using this
  · have := own_cell b i v h
    simpa using this
theorem isL_at (k : Nat) (h1 : 1 ≤ k) (h2 : k ≤ 47) (f : Nat) (hf : formN k = f) (op d s t i : Int) (ho : op = k) : isL op d s t i = okF f d s t i := by
  subst ho hf
  unfold isL
  rw [Int.toNat_natCast, decide_eq_true (show 1 ≤ (k : Int) by omega), decide_eq_true (show (k : Int) ≤ 47 by omega)]; rfl
theorem reg_ok {r : Int} (h : 0 ≤ r ∧ r < 32) : regL r true = true := (regL_iff r true).2 ⟨h.1, h.2, fun e => by cases e⟩
theorem form_b (op : Int) (h : 0 ≤ op ∧ op ≤ 255) : ∃ k : Nat, 5 + op % 6 = k ∧ 1 ≤ k ∧ k ≤ 47 ∧ formN k = 6 := by
  have h6 : ∀ m : Fin 6, formN (5 + m) = 6 := by decide
  exact ⟨5 + (op % 6).toNat, by omega, by omega, by omega, h6 ⟨(op % 6).toNat, by omega⟩⟩
theorem form_l (op : Int) (h : 0 ≤ op ∧ op ≤ 255) : ∃ k : Nat, 11 + op % 5 = k ∧ 1 ≤ k ∧ k ≤ 47 ∧ formN k = 4 := by
  have h6 : ∀ m : Fin 5, formN (11 + m) = 4 := by decide
  exact ⟨11 + (op % 5).toNat, by omega, by omega, by omega, h6 ⟨(op % 5).toNat, by omega⟩⟩
theorem form_h (op : Int) (h : 0 ≤ op ∧ op ≤ 255) : ∃ k : Nat, 25 + op % 3 = k ∧ 1 ≤ k ∧ k ≤ 47 ∧ formN k = 7 := by
  have h6 : ∀ m : Fin 3, formN (25 + m) = 7 := by decide
  exact ⟨25 + (op % 3).toNat, by omega, by omega, by omega, h6 ⟨(op % 3).toNat, by omega⟩⟩
theorem form_s (op : Int) (h : 0 ≤ op ∧ op ≤ 255) : ∃ k : Nat, 16 + op % 3 = k ∧ 1 ≤ k ∧ k ≤ 47 ∧ formN k = 5 := by
  have h6 : ∀ m : Fin 3, formN (16 + m) = 5 := by decide
  exact ⟨16 + (op % 3).toNat, by omega, by omega, by omega, h6 ⟨(op % 3).toNat, by omega⟩⟩
set_option maxHeartbeats 4000000 in
theorem ranges_more (op r1 r2 rd : Int) (h0 : 0 ≤ op ∧ op ≤ 255) (h1 : 0 ≤ r1 ∧ r1 ≤ 255) (h2 : 0 ≤ r2 ∧ r2 ≤ 255) (h3 : 0 ≤ rd ∧ rd ≤ 255) (w : World) (tabs : Tabs w) :
    Calls Tryd.prog 7 #[.int .u8 op, .int .u8 r1, .int .u8 r2, .int .u8 rd, .bool true] w fun e w' => e = .returned (.bool true) ∧ Below w.heap.size w w' := by
  have gd := reg_ok (r := rd % 32) (by omega)
  have ga := reg_ok (r := r1 % 32) (by omega)
  have gb := reg_ok (r := r2 % 32) (by omega)
  have hx0 : isL 3 (rd % 32) 0 0 1048576 = false := by
    rw [isL_at 3 (by decide) (by decide) 2 (by decide) 3 (rd % 32) 0 0 1048576 rfl]
    unfold okF
    rw [show hasD 2 = true by decide, gd]
    decide
  have hx1 : isL (5 + op % 6) (0) (r1 % 32) (r2 % 32) (-4098) = false := by
    obtain ⟨k, e1, e2, e3, e4⟩ := form_b op h0
    rw [isL_at k e2 e3 6 e4 _ _ _ _ _ e1]
    unfold okF
    rw [show hasS 6 = true by decide, ga]
    rw [show hasT 6 = true by decide, gb]
    decide
  have hx2 : isL (11 + op % 5) (rd % 32) (r1 % 32) (0) 2048 = false := by
    obtain ⟨k, e1, e2, e3, e4⟩ := form_l op h0
    rw [isL_at k e2 e3 4 e4 _ _ _ _ _ e1]
    unfold okF
    rw [show hasD 4 = true by decide, gd]
    rw [show hasS 4 = true by decide, ga]
    decide
  have hx3 : isL (25 + op % 3) (rd % 32) (r1 % 32) (0) 32 = false := by
    obtain ⟨k, e1, e2, e3, e4⟩ := form_h op h0
    rw [isL_at k e2 e3 7 e4 _ _ _ _ _ e1]
    unfold okF
    rw [show hasD 7 = true by decide, gd]
    rw [show hasS 7 = true by decide, ga]
    decide
  have hx4 : isL (16 + op % 3) (0) (r1 % 32) (r2 % 32) (-2049) = false := by
    obtain ⟨k, e1, e2, e3, e4⟩ := form_s op h0
    rw [isL_at k e2 e3 5 e4 _ _ _ _ _ e1]
    unfold okF
    rw [show hasS 5 = true by decide, ga]
    rw [show hasT 5 = true by decide, gb]
    decide
  have hxu : isL 1 (rd % 32) 0 0 4095 = false := by
    rw [isL_at 1 (by decide) (by decide) 1 (by decide) 1 (rd % 32) 0 0 4095 rfl]
    unfold okF
    rw [show hasD 1 = true by decide, gd]
    decide
  have hxa : isL 28 (rd % 32) 32 0 0 = false := by
    rw [isL_at 28 (by decide) (by decide) 8 (by decide) 28 (rd % 32) 32 0 0 rfl]
    unfold okF
    rw [show hasD 8 = true by decide, gd]
    decide
  have hxe : isL 46 0 0 0 0 = true := by decide
  have hxf : isL 46 1 0 0 0 = false := by decide
  go_enter Tryd.func7, Tryd.ntmps7
  go_wp2_with fail
  refine (known_any _ tabs).mono ?_
  rintro e w1 ⟨rfl, b1⟩
  replace tabs := tabs.below b1
  go_wp2_with fail
  have bC : Below w.heap.size w (((((w1.alloc (.cells #[.int .i64 (3), .int .i64 (rd % 32), .int .i64 (0), .int .i64 (0), .int .i32 1048576] 23)).alloc (.cells #[.int .i64 (5 + op % 6), .int .i64 (0), .int .i64 (r1 % 32), .int .i64 (r2 % 32), .int .i32 (-4098)] 23)).alloc (.cells #[.int .i64 (11 + op % 5), .int .i64 (rd % 32), .int .i64 (r1 % 32), .int .i64 (0), .int .i32 2048] 23)).alloc (.cells #[.int .i64 (25 + op % 3), .int .i64 (rd % 32), .int .i64 (r1 % 32), .int .i64 (0), .int .i32 32] 23)).alloc (.cells #[.int .i64 (16 + op % 3), .int .i64 (0), .int .i64 (r1 % 32), .int .i64 (r2 % 32), .int .i32 (-2049)] 23)) := ((((b1.alloc b1.size _).alloc (by have := b1.size; simp; omega) _).alloc (by have := b1.size; simp; omega) _).alloc (by have := b1.size; simp; omega) _).alloc (by have := b1.size; simp; omega) _
  have tabsC : Tabs (((((w1.alloc (.cells #[.int .i64 (3), .int .i64 (rd % 32), .int .i64 (0), .int .i64 (0), .int .i32 1048576] 23)).alloc (.cells #[.int .i64 (5 + op % 6), .int .i64 (0), .int .i64 (r1 % 32), .int .i64 (r2 % 32), .int .i32 (-4098)] 23)).alloc (.cells #[.int .i64 (11 + op % 5), .int .i64 (rd % 32), .int .i64 (r1 % 32), .int .i64 (0), .int .i32 2048] 23)).alloc (.cells #[.int .i64 (25 + op % 3), .int .i64 (rd % 32), .int .i64 (r1 % 32), .int .i64 (0), .int .i32 32] 23)).alloc (.cells #[.int .i64 (16 + op % 3), .int .i64 (0), .int .i64 (r1 % 32), .int .i64 (r2 % 32), .int .i32 (-2049)] 23)) := tabs.below (((((Below.refl w1.heap.size w1).alloc (Nat.le_refl _) _).alloc (by simp) _).alloc (by simp; omega) _).alloc (by simp; omega) _ |>.alloc (by simp; omega) _)
  refine (is_any _ _ _ _ _ _ tabsC).mono ?_
  rintro e wA ⟨rfl, bA⟩
  rw [hx0]
  obtain ⟨f1, f2, f3, f4⟩ := chain_cell _ _ _ _ _ _ _ _ bA
  have g10 := f1 0 _ rfl
  have g11 := f1 1 _ rfl
  have g12 := f1 2 _ rfl
  have g13 := f1 3 _ rfl
  have g14 := f1 4 _ rfl
  have g20 := f2 0 _ rfl
  have g21 := f2 1 _ rfl
  have g22 := f2 2 _ rfl
  have g23 := f2 3 _ rfl
  have g24 := f2 4 _ rfl
  have g30 := f3 0 _ rfl
  have g31 := f3 1 _ rfl
  have g32 := f3 2 _ rfl
  have g33 := f3 3 _ rfl
  have g34 := f3 4 _ rfl
  have g40 := f4 0 _ rfl
  have g41 := f4 1 _ rfl
  have g42 := f4 2 _ rfl
  have g43 := f4 3 _ rfl
  have g44 := f4 4 _ rfl
  clear f1 f2 f3 f4
  replace tabsC := tabsC.below bA
  go_wp2_with fail
  refine (is_any _ _ _ _ _ _ tabsC).mono ?_
  rintro e wB ⟨rfl, bZ⟩
  rw [hx1]
  replace bA := bA.trans (bZ.mono bA.size)
  clear g10 g11 g12 g13 g14 g20 g21 g22 g23 g24 g30 g31 g32 g33 g34 g40 g41 g42 g43 g44
  obtain ⟨f1, f2, f3, f4⟩ := chain_cell _ _ _ _ _ _ _ _ bA
  have g20 := f2 0 _ rfl
  have g21 := f2 1 _ rfl
  have g22 := f2 2 _ rfl
  have g23 := f2 3 _ rfl
  have g24 := f2 4 _ rfl
  have g30 := f3 0 _ rfl
  have g31 := f3 1 _ rfl
  have g32 := f3 2 _ rfl
  have g33 := f3 3 _ rfl
  have g34 := f3 4 _ rfl
  have g40 := f4 0 _ rfl
  have g41 := f4 1 _ rfl
  have g42 := f4 2 _ rfl
  have g43 := f4 3 _ rfl
  have g44 := f4 4 _ rfl
  clear f1 f2 f3 f4
  replace tabsC := tabsC.below bZ
  clear bZ
  go_wp2_with fail
  refine (is_any _ _ _ _ _ _ tabsC).mono ?_
  rintro e wC ⟨rfl, bZ⟩
  rw [hx2]
  replace bA := bA.trans (bZ.mono bA.size)
  clear g20 g21 g22 g23 g24 g30 g31 g32 g33 g34 g40 g41 g42 g43 g44
  obtain ⟨f1, f2, f3, f4⟩ := chain_cell _ _ _ _ _ _ _ _ bA
  have g30 := f3 0 _ rfl
  have g31 := f3 1 _ rfl
  have g32 := f3 2 _ rfl
  have g33 := f3 3 _ rfl
  have g34 := f3 4 _ rfl
  have g40 := f4 0 _ rfl
  have g41 := f4 1 _ rfl
  have g42 := f4 2 _ rfl
  have g43 := f4 3 _ rfl
  have g44 := f4 4 _ rfl
  clear f1 f2 f3 f4
  replace tabsC := tabsC.below bZ
  clear bZ
  go_wp2_with fail
  refine (is_any _ _ _ _ _ _ tabsC).mono ?_
  rintro e wD ⟨rfl, bZ⟩
  rw [hx3]
  replace bA := bA.trans (bZ.mono bA.size)
  clear g30 g31 g32 g33 g34 g40 g41 g42 g43 g44
  obtain ⟨f1, f2, f3, f4⟩ := chain_cell _ _ _ _ _ _ _ _ bA
  have g40 := f4 0 _ rfl
  have g41 := f4 1 _ rfl
  have g42 := f4 2 _ rfl
  have g43 := f4 3 _ rfl
  have g44 := f4 4 _ rfl
  clear f1 f2 f3 f4
  replace tabsC := tabsC.below bZ
  clear bZ
  go_wp2_with fail
  refine (is_any _ _ _ _ _ _ tabsC).mono ?_
  rintro e wE ⟨rfl, bZ⟩
  rw [hx4]
  replace bA := bA.trans (bZ.mono bA.size)
  clear g40 g41 g42 g43 g44
  replace tabsC := tabsC.below bZ
  clear bZ
  go_wp2_with fail
  refine (is_any _ _ _ _ _ _ tabsC).mono ?_
  rintro e v0 ⟨rfl, bZ⟩
  rw [hxu]
  replace bA := bA.trans (bZ.mono bA.size)
  replace tabsC := tabsC.below bZ
  clear bZ
  go_wp2_with fail
  refine (is_any _ _ _ _ _ _ tabsC).mono ?_
  rintro e v1 ⟨rfl, bZ⟩
  rw [hxa]
  replace bA := bA.trans (bZ.mono bA.size)
  replace tabsC := tabsC.below bZ
  clear bZ
  go_wp2_with fail
  refine (is_any _ _ _ _ _ _ tabsC).mono ?_
  rintro e v2 ⟨rfl, bZ⟩
  rw [hxe]
  replace bA := bA.trans (bZ.mono bA.size)
  replace tabsC := tabsC.below bZ
  clear bZ
  go_wp2_with fail
  refine (is_any _ _ _ _ _ _ tabsC).mono ?_
  rintro e v3 ⟨rfl, bZ⟩
  rw [hxf]
  replace bA := bA.trans (bZ.mono bA.size)
  replace tabsC := tabsC.below bZ
  clear bZ
  go_wp2_with fail
  go_ret
  exact ⟨rfl, bC.trans (bA.mono bC.size)⟩
set_option maxHeartbeats 4000000 in
theorem ranges_even (op r1 r2 rd : Int) (h0 : 0 ≤ op ∧ op ≤ 255) (h1 : 0 ≤ r1 ∧ r1 ≤ 255) (h2 : 0 ≤ r2 ∧ r2 ≤ 255) (h3 : 0 ≤ rd ∧ rd ≤ 255) (w : World) (tabs : Tabs w) :
    Calls Tryd.prog 7 #[.int .u8 op, .int .u8 r1, .int .u8 r2, .int .u8 rd, .bool false] w fun e w' => e = .returned (.bool true) ∧ Below w.heap.size w w' := by
  have gd := reg_ok (r := rd % 32) (by omega)
  have ga := reg_ok (r := r1 % 32) (by omega)
  have gb := reg_ok (r := r2 % 32) (by omega)
  have hx0 : isL 3 (rd % 32) 0 0 1048574 = true := by
    rw [isL_at 3 (by decide) (by decide) 2 (by decide) 3 (rd % 32) 0 0 1048574 rfl]
    unfold okF
    rw [show hasD 2 = true by decide, gd]
    decide
  have hx1 : isL (5 + op % 6) (0) (r1 % 32) (r2 % 32) (-4096) = true := by
    obtain ⟨k, e1, e2, e3, e4⟩ := form_b op h0
    rw [isL_at k e2 e3 6 e4 _ _ _ _ _ e1]
    unfold okF
    rw [show hasS 6 = true by decide, ga]
    rw [show hasT 6 = true by decide, gb]
    decide
  have hx2 : isL (11 + op % 5) (rd % 32) (r1 % 32) (0) 2047 = true := by
    obtain ⟨k, e1, e2, e3, e4⟩ := form_l op h0
    rw [isL_at k e2 e3 4 e4 _ _ _ _ _ e1]
    unfold okF
    rw [show hasD 4 = true by decide, gd]
    rw [show hasS 4 = true by decide, ga]
    decide
  have hx3 : isL (25 + op % 3) (rd % 32) (r1 % 32) (0) 31 = true := by
    obtain ⟨k, e1, e2, e3, e4⟩ := form_h op h0
    rw [isL_at k e2 e3 7 e4 _ _ _ _ _ e1]
    unfold okF
    rw [show hasD 7 = true by decide, gd]
    rw [show hasS 7 = true by decide, ga]
    decide
  have hx4 : isL (16 + op % 3) (0) (r1 % 32) (r2 % 32) (-2048) = true := by
    obtain ⟨k, e1, e2, e3, e4⟩ := form_s op h0
    rw [isL_at k e2 e3 5 e4 _ _ _ _ _ e1]
    unfold okF
    rw [show hasS 5 = true by decide, ga]
    rw [show hasT 5 = true by decide, gb]
    decide
  have hxu : isL 1 (rd % 32) 0 0 4095 = false := by
    rw [isL_at 1 (by decide) (by decide) 1 (by decide) 1 (rd % 32) 0 0 4095 rfl]
    unfold okF
    rw [show hasD 1 = true by decide, gd]
    decide
  have hxa : isL 28 (rd % 32) 32 0 0 = false := by
    rw [isL_at 28 (by decide) (by decide) 8 (by decide) 28 (rd % 32) 32 0 0 rfl]
    unfold okF
    rw [show hasD 8 = true by decide, gd]
    decide
  have hxe : isL 46 0 0 0 0 = true := by decide
  have hxf : isL 46 1 0 0 0 = false := by decide
  go_enter Tryd.func7, Tryd.ntmps7
  go_wp2_with fail
  refine (known_any _ tabs).mono ?_
  rintro e w1 ⟨rfl, b1⟩
  replace tabs := tabs.below b1
  go_wp2_with fail
  have bC : Below w.heap.size w (((((w1.alloc (.cells #[.int .i64 (3), .int .i64 (rd % 32), .int .i64 (0), .int .i64 (0), .int .i32 1048574] 23)).alloc (.cells #[.int .i64 (5 + op % 6), .int .i64 (0), .int .i64 (r1 % 32), .int .i64 (r2 % 32), .int .i32 (-4096)] 23)).alloc (.cells #[.int .i64 (11 + op % 5), .int .i64 (rd % 32), .int .i64 (r1 % 32), .int .i64 (0), .int .i32 2047] 23)).alloc (.cells #[.int .i64 (25 + op % 3), .int .i64 (rd % 32), .int .i64 (r1 % 32), .int .i64 (0), .int .i32 31] 23)).alloc (.cells #[.int .i64 (16 + op % 3), .int .i64 (0), .int .i64 (r1 % 32), .int .i64 (r2 % 32), .int .i32 (-2048)] 23)) := ((((b1.alloc b1.size _).alloc (by have := b1.size; simp; omega) _).alloc (by have := b1.size; simp; omega) _).alloc (by have := b1.size; simp; omega) _).alloc (by have := b1.size; simp; omega) _
  have tabsC : Tabs (((((w1.alloc (.cells #[.int .i64 (3), .int .i64 (rd % 32), .int .i64 (0), .int .i64 (0), .int .i32 1048574] 23)).alloc (.cells #[.int .i64 (5 + op % 6), .int .i64 (0), .int .i64 (r1 % 32), .int .i64 (r2 % 32), .int .i32 (-4096)] 23)).alloc (.cells #[.int .i64 (11 + op % 5), .int .i64 (rd % 32), .int .i64 (r1 % 32), .int .i64 (0), .int .i32 2047] 23)).alloc (.cells #[.int .i64 (25 + op % 3), .int .i64 (rd % 32), .int .i64 (r1 % 32), .int .i64 (0), .int .i32 31] 23)).alloc (.cells #[.int .i64 (16 + op % 3), .int .i64 (0), .int .i64 (r1 % 32), .int .i64 (r2 % 32), .int .i32 (-2048)] 23)) := tabs.below (((((Below.refl w1.heap.size w1).alloc (Nat.le_refl _) _).alloc (by simp) _).alloc (by simp; omega) _).alloc (by simp; omega) _ |>.alloc (by simp; omega) _)
  refine (is_any _ _ _ _ _ _ tabsC).mono ?_
  rintro e wA ⟨rfl, bA⟩
  rw [hx0]
  obtain ⟨f1, f2, f3, f4⟩ := chain_cell _ _ _ _ _ _ _ _ bA
  have g10 := f1 0 _ rfl
  have g11 := f1 1 _ rfl
  have g12 := f1 2 _ rfl
  have g13 := f1 3 _ rfl
  have g14 := f1 4 _ rfl
  have g20 := f2 0 _ rfl
  have g21 := f2 1 _ rfl
  have g22 := f2 2 _ rfl
  have g23 := f2 3 _ rfl
  have g24 := f2 4 _ rfl
  have g30 := f3 0 _ rfl
  have g31 := f3 1 _ rfl
  have g32 := f3 2 _ rfl
  have g33 := f3 3 _ rfl
  have g34 := f3 4 _ rfl
  have g40 := f4 0 _ rfl
  have g41 := f4 1 _ rfl
  have g42 := f4 2 _ rfl
  have g43 := f4 3 _ rfl
  have g44 := f4 4 _ rfl
  clear f1 f2 f3 f4
  replace tabsC := tabsC.below bA
  go_wp2_with fail
  refine (is_any _ _ _ _ _ _ tabsC).mono ?_
  rintro e wB ⟨rfl, bZ⟩
  rw [hx1]
  replace bA := bA.trans (bZ.mono bA.size)
  clear g10 g11 g12 g13 g14 g20 g21 g22 g23 g24 g30 g31 g32 g33 g34 g40 g41 g42 g43 g44
  obtain ⟨f1, f2, f3, f4⟩ := chain_cell _ _ _ _ _ _ _ _ bA
  have g20 := f2 0 _ rfl
  have g21 := f2 1 _ rfl
  have g22 := f2 2 _ rfl
  have g23 := f2 3 _ rfl
  have g24 := f2 4 _ rfl
  have g30 := f3 0 _ rfl
  have g31 := f3 1 _ rfl
  have g32 := f3 2 _ rfl
  have g33 := f3 3 _ rfl
  have g34 := f3 4 _ rfl
  have g40 := f4 0 _ rfl
  have g41 := f4 1 _ rfl
  have g42 := f4 2 _ rfl
  have g43 := f4 3 _ rfl
  have g44 := f4 4 _ rfl
  clear f1 f2 f3 f4
  replace tabsC := tabsC.below bZ
  clear bZ
  go_wp2_with fail
  refine (is_any _ _ _ _ _ _ tabsC).mono ?_
  rintro e wC ⟨rfl, bZ⟩
  rw [hx2]
  replace bA := bA.trans (bZ.mono bA.size)
  clear g20 g21 g22 g23 g24 g30 g31 g32 g33 g34 g40 g41 g42 g43 g44
  obtain ⟨f1, f2, f3, f4⟩ := chain_cell _ _ _ _ _ _ _ _ bA
  have g30 := f3 0 _ rfl
  have g31 := f3 1 _ rfl
  have g32 := f3 2 _ rfl
  have g33 := f3 3 _ rfl
  have g34 := f3 4 _ rfl
  have g40 := f4 0 _ rfl
  have g41 := f4 1 _ rfl
  have g42 := f4 2 _ rfl
  have g43 := f4 3 _ rfl
  have g44 := f4 4 _ rfl
  clear f1 f2 f3 f4
  replace tabsC := tabsC.below bZ
  clear bZ
  go_wp2_with fail
  refine (is_any _ _ _ _ _ _ tabsC).mono ?_
  rintro e wD ⟨rfl, bZ⟩
  rw [hx3]
  replace bA := bA.trans (bZ.mono bA.size)
  clear g30 g31 g32 g33 g34 g40 g41 g42 g43 g44
  obtain ⟨f1, f2, f3, f4⟩ := chain_cell _ _ _ _ _ _ _ _ bA
  have g40 := f4 0 _ rfl
  have g41 := f4 1 _ rfl
  have g42 := f4 2 _ rfl
  have g43 := f4 3 _ rfl
  have g44 := f4 4 _ rfl
  clear f1 f2 f3 f4
  replace tabsC := tabsC.below bZ
  clear bZ
  go_wp2_with fail
  refine (is_any _ _ _ _ _ _ tabsC).mono ?_
  rintro e wE ⟨rfl, bZ⟩
  rw [hx4]
  replace bA := bA.trans (bZ.mono bA.size)
  clear g40 g41 g42 g43 g44
  replace tabsC := tabsC.below bZ
  clear bZ
  go_wp2_with fail
  refine (is_any _ _ _ _ _ _ tabsC).mono ?_
  rintro e v0 ⟨rfl, bZ⟩
  rw [hxu]
  replace bA := bA.trans (bZ.mono bA.size)
  replace tabsC := tabsC.below bZ
  clear bZ
  go_wp2_with fail
  refine (is_any _ _ _ _ _ _ tabsC).mono ?_
  rintro e v1 ⟨rfl, bZ⟩
  rw [hxa]
  replace bA := bA.trans (bZ.mono bA.size)
  replace tabsC := tabsC.below bZ
  clear bZ
  go_wp2_with fail
  refine (is_any _ _ _ _ _ _ tabsC).mono ?_
  rintro e v2 ⟨rfl, bZ⟩
  rw [hxe]
  replace bA := bA.trans (bZ.mono bA.size)
  replace tabsC := tabsC.below bZ
  clear bZ
  go_wp2_with fail
  refine (is_any _ _ _ _ _ _ tabsC).mono ?_
  rintro e v3 ⟨rfl, bZ⟩
  rw [hxf]
  replace bA := bA.trans (bZ.mono bA.size)
  replace tabsC := tabsC.below bZ
  clear bZ
  go_wp2_with fail
  go_ret
  exact ⟨rfl, bC.trans (bA.mono bC.size)⟩
theorem ranges_walk (op r1 r2 rd : Int) (more : Bool) (h0 : 0 ≤ op ∧ op ≤ 255) (h1 : 0 ≤ r1 ∧ r1 ≤ 255) (h2 : 0 ≤ r2 ∧ r2 ≤ 255) (h3 : 0 ≤ rd ∧ rd ≤ 255) (w : World) (tabs : Tabs w) :
    Calls Tryd.prog 7 #[.int .u8 op, .int .u8 r1, .int .u8 r2, .int .u8 rd, .bool more] w fun e w' => e = .returned (.bool true) ∧ Below w.heap.size w w' := by
  cases more with
  | true => exact ranges_more op r1 r2 rd h0 h1 h2 h3 w tabs
  | false => exact ranges_even op r1 r2 rd h0 h1 h2 h3 w tabs
end Go.Proofs.YtoeohfbicnolhaaDoor
