import Derived.Test.YtbalnlodkiejcaaDoorC1
import Derived.Test.YtbalnlodkiejcaaDoorR3
namespace Go.Proofs.YtbalnlodkiejcaaDoor
open Go.RowKit
set_option linter.unusedVariables false
set_option linter.unusedSimpArgs false
set_option linter.unusedSectionVars false

/-- A word as a value. -/
abbrev wordV (op d s t i : Int) : Value := .agg #[.int .i64 op, .int .i64 d, .int .i64 s, .int .i64 t, .int .i32 i]

theorem is_out (op d s t i : Int) (h : op < 1 ∨ 47 < op) (w : World) :
    Calls Tryd.prog 45 #[wordV op d s t i] w fun e w' => e = .returned (.bool (isL op d s t i)) ∧ Below w.heap.size w w' := by
  have hr : isL op d s t i = false := by
    unfold isL
    rcases h with h | h
    · simp [show ¬ 1 ≤ op by omega]
    · simp [show ¬ op ≤ 47 by omega]
  go_enter Tryd.func45, Tryd.ntmps45
  go_wp2_with fail
  all_goals go_ret
  all_goals first | exact ⟨rfl, (Below.refl w.heap.size w).alloc (Nat.le_refl _) _⟩ | exact ⟨ret_bool hr.symm, (Below.refl w.heap.size w).alloc (Nat.le_refl _) _⟩

/-- The kinds' cells, behind a new block. -/
theorem Tabs.kin1 {w : World} (tabs : Tabs w) {k : Nat} (hk : k < 48) (o : Obj) :
    (w.alloc o).cell? ⟨0, k * 3, none⟩ = some (.string ⟨(nameL k).toArray⟩) ∧ (w.alloc o).cell? ⟨0, k * 3 + 1, none⟩ = some (.int .i64 (formN k)) ∧ (w.alloc o).cell? ⟨0, k * 3 + 2, none⟩ = some (.int .u32 (bitsN k)) :=
  (tabs.below ((Below.refl w.heap.size w).alloc (Nat.le_refl _) o)).2.1 k hk
theorem own_cell {w w1 : World} {cs : Array Value} {t : TypeId} (b : Below (w.alloc (.cells cs t)).heap.size (w.alloc (.cells cs t)) w1) (i : Nat) (v : Value) (h : cs[i]? = some v) :
    w1.cell? ⟨w.heap.size, i, none⟩ = some v := by
  rw [b.cell (by simp)]
  have := alloc_new w (.cells cs t)
  simp only [World.cell?, this]
  exact h
theorem own_cell2 {w w1 : World} {cs : Array Value} {t : TypeId} (b : Below (w.alloc (.cells cs t)).heap.size (w.alloc (.cells cs t)) w1) (i : Nat) (v : Value) (h : cs[i]? = some v) (o2 : Obj) :
    (w1.alloc o2).cell? ⟨w.heap.size, i, none⟩ = some v :=
  own_cell (b.alloc b.size o2) i v h

set_option maxHeartbeats 4000000 in
theorem is_in (k : Nat) (h1 : 1 ≤ k) (h2 : k ≤ 47) (d s t i : Int) (w : World) (tabs : Tabs w) :
    Calls Tryd.prog 45 #[wordV k d s t i] w fun e w' => e = .returned (.bool (isL k d s t i)) ∧ Below w.heap.size w w' := by
  have c2 := fun o => (tabs.kin1 (k := k) (by omega) o).2.1
  have hp := fun w => parts_any (formN k) (by have := opCases h1 h2; omega) w
  unfold partsV at hp
  go_enter Tryd.func45, Tryd.ntmps45
  go_wp2_with fail
  refine (hp _).mono ?_
  rintro e w1 ⟨rfl, b1⟩
  have q0 : ∀ o, (w1.alloc o).cell? ⟨w.heap.size, 0, none⟩ = some (.int .i64 k) := own_cell2 b1 0 _ rfl
  have q1 : ∀ o, (w1.alloc o).cell? ⟨w.heap.size, 1, none⟩ = some (.int .i64 d) := own_cell2 b1 1 _ rfl
  have q2 : ∀ o, (w1.alloc o).cell? ⟨w.heap.size, 2, none⟩ = some (.int .i64 s) := own_cell2 b1 2 _ rfl
  have q3 : ∀ o, (w1.alloc o).cell? ⟨w.heap.size, 3, none⟩ = some (.int .i64 t) := own_cell2 b1 3 _ rfl
  have q4 : ∀ o, (w1.alloc o).cell? ⟨w.heap.size, 4, none⟩ = some (.int .i32 i) := own_cell2 b1 4 _ rfl
  have hb := fun o => (((Below.refl w.heap.size w).alloc (Nat.le_refl _) _).trans (b1.mono (by simp))).alloc (Nat.le_trans (by simp) b1.size) o
  go_wp2_with (first | (go_at_call 51; refine (reg_any _ _ _).mono ?_; rintro e w2 ⟨rfl, rfl⟩))
  all_goals go_ret
  all_goals refine ⟨ret_bool ?_, hb _⟩
  all_goals unfold isL okF
  all_goals rw [Int.toNat_natCast, show decide (1 ≤ (k : Int)) = true by simp; omega, show decide ((k : Int) ≤ 47) = true by simp; omega]
  · rename_i e1 e2 e3 e4 e5
    rw [i32_low _ _ (by have := opCases h1 h2; omega), e1, e2, e3, decide_eq_true e4, decide_eq_true e5]; rfl
  · rename_i e1 e2 e3 e4 e5
    rw [decide_eq_false (show ¬ i ≤ greatestN (formN k) by omega)]; simp
  · rename_i e1 e2 e3 e4
    rw [decide_eq_false (show ¬ leastN (formN k) ≤ i by omega)]; simp
  · rename_i e1 e2 e3
    rw [Bool.eq_false_iff.2 e3]; simp
  · rename_i e1 e2
    rw [Bool.eq_false_iff.2 e2]; simp
  · rename_i e1
    rw [Bool.eq_false_iff.2 e1]; simp
theorem is_any (op d s t i : Int) (w : World) (tabs : Tabs w) :
    Calls Tryd.prog 45 #[wordV op d s t i] w fun e w' => e = .returned (.bool (isL op d s t i)) ∧ Below w.heap.size w w' := by
  by_cases h : op < 1 ∨ 47 < op
  · exact is_out op d s t i h w
  · obtain ⟨k, rfl⟩ : ∃ k : Nat, op = k := ⟨op.toNat, by omega⟩
    exact is_in k (by omega) (by omega) d s t i w tabs

/-! ### Where an immediate's bits lie -/

theorem f_g (x : Int) (h : 0 ≤ x ∧ x ≤ 4294967295) (A N : Int) (ha : 0 ≤ A ∧ A ≤ 32) (hn : 0 ≤ N ∧ N ≤ 32) (w : World) :
    Calls Tryd.prog 52 #[.int .u32 x, .int .i64 A, .int .i64 N] w fun e w' => e = .returned (.int .u32 (x / 2 ^ A.toNat % 2 ^ N.toNat)) ∧ w = w' := by
  refine (field_any x A N h (by omega) w).mono ?_
  rintro e w' ⟨rfl, rfl⟩
  refine ⟨ret_int ?_, rfl⟩
  unfold fieldS mov held0
  rw [if_pos ha.1, if_neg (by omega), if_neg (by omega), Nat.min_eq_left (by omega)]
theorem spread_any (f : Nat) (h1 : 1 ≤ f) (h9 : f ≤ 9) (u : Int) (hu : 0 ≤ u ∧ u ≤ 4294967295) (w : World) :
    Calls Tryd.prog 46 #[.int .i64 f, .int .u32 u] w fun e w' => e = .returned (.int .u32 (spreadL f u)) ∧ w = w' := by
  have j1 := spJ u
  have j2 := spB u
  have j3 := spS u
  have hc : f = 1 ∨ f = 2 ∨ f = 3 ∨ f = 4 ∨ f = 5 ∨ f = 6 ∨ f = 7 ∨ f = 8 ∨ f = 9 := by omega
  rcases hc with rfl | rfl | rfl | rfl | rfl | rfl | rfl | rfl | rfl
  · go_enter Tryd.func46, Tryd.ntmps46
    go_wp2_with (go_at_call 52; refine (f_g u hu _ _ (by decide) (by decide) _).mono ?_; rintro e w2 ⟨rfl, rfl⟩)
    go_ret
    exact ⟨rfl, rfl⟩
  · go_enter Tryd.func46, Tryd.ntmps46
    go_wp2_with (go_at_call 52; refine (f_g u hu _ _ (by decide) (by decide) _).mono ?_; rintro e w2 ⟨rfl, rfl⟩)
    go_ret
    first | exact ⟨rfl, rfl⟩ | exact ⟨ret_int j1.1, rfl⟩
  all_goals
    go_enter Tryd.func46, Tryd.ntmps46
    go_wp2_with (go_at_call 52; refine (f_g u hu _ _ (by decide) (by decide) _).mono ?_; rintro e w2 ⟨rfl, rfl⟩)
    go_ret
    first | exact ⟨rfl, rfl⟩ | exact ⟨ret_int j2.1, rfl⟩ | exact ⟨ret_int j3.1, rfl⟩

theorem enc_out (op d s t i : Int) (h : isL op d s t i = false) (w : World) (tabs : Tabs w) :
    Calls Tryd.prog 35 #[wordV op d s t i] w fun e w' => e = .returned (.tuple #[.int .u32 0, .int .i64 12]) ∧ Below w.heap.size w w' := by
  go_enter Tryd.func35, Tryd.ntmps35
  go_wp2_with fail
  refine (is_any _ _ _ _ _ _ (tabs.below ((Below.refl w.heap.size w).alloc (Nat.le_refl _) _))).mono ?_
  rintro e w1 ⟨rfl, b1⟩
  have hb := ((Below.refl w.heap.size w).alloc (Nat.le_refl _) _).trans (b1.mono (by simp))
  go_wp2_with fail
  all_goals go_ret2
  all_goals exact ⟨rfl, hb⟩
theorem enc_in (k : Nat) (h1 : 1 ≤ k) (h2 : k ≤ 47) (d s t i : Int) (h : okF (formN k) d s t i = true) (w : World) (tabs : Tabs w) :
    Calls Tryd.prog 35 #[wordV k d s t i] w fun e w' => e = .returned (.tuple #[.int .u32 (encL k d s t i), .int .i64 0]) ∧ Below w.heap.size w w' := by
  have hl : isL k d s t i = true := by
    unfold isL; rw [Int.toNat_natCast, h, show decide (1 ≤ (k : Int)) = true by simp; omega, show decide ((k : Int) ≤ 47) = true by simp; omega]; rfl
  have tabs' := fun o => tabs.below ((Below.refl w.heap.size w).alloc (Nat.le_refl _) o)
  go_enter Tryd.func35, Tryd.ntmps35
  go_wp2_with fail
  refine (is_any _ _ _ _ _ _ (tabs' _)).mono ?_
  rintro e w1 ⟨rfl, b1⟩
  have q0 : ∀ o, (w1.alloc o).cell? ⟨w.heap.size, 0, none⟩ = some (.int .i64 k) := own_cell2 b1 0 _ rfl
  have q1 : ∀ o, (w1.alloc o).cell? ⟨w.heap.size, 1, none⟩ = some (.int .i64 d) := own_cell2 b1 1 _ rfl
  have q2 : ∀ o, (w1.alloc o).cell? ⟨w.heap.size, 2, none⟩ = some (.int .i64 s) := own_cell2 b1 2 _ rfl
  have q3 : ∀ o, (w1.alloc o).cell? ⟨w.heap.size, 3, none⟩ = some (.int .i64 t) := own_cell2 b1 3 _ rfl
  have q4 : ∀ o, (w1.alloc o).cell? ⟨w.heap.size, 4, none⟩ = some (.int .i32 i) := own_cell2 b1 4 _ rfl
  have r0 : w1.cell? ⟨w.heap.size, 0, none⟩ = some (.int .i64 k) := own_cell b1 0 _ rfl
  obtain ⟨c1, c2, c3⟩ := ((tabs' _).below b1).2.1 k (by omega)
  have hb := ((Below.refl w.heap.size w).alloc (Nat.le_refl _) _).trans (b1.mono (by simp))
  go_wp2_with fail
  have hf := opCases h1 h2
  go_region_held3 (fun w' => w'.cell? ⟨w1.heap.size, 1, none⟩ = some (.int .i64 (formN k)) ∧ w'.cell? ⟨w1.heap.size, 2, none⟩ = some (.int .u32 (bitsN k)) ∧ w'.cell? ⟨w.heap.size, 4, none⟩ = some (.int .i32 i)) (go_keep) (first | (go_at_call 46; refine (spread_any (formN k) (by omega) (by omega) (i % 4294967296) (by omega) _).mono ?_; rintro e w' ⟨rfl, rfl⟩))
  have hh := h
  simp only [okF, Bool.and_eq_true] at hh
  obtain ⟨⟨⟨⟨⟨hd, hs⟩, ht⟩, -⟩, -⟩, -⟩ := hh
  have gd := (regL_iff _ _).1 hd
  have gs := (regL_iff _ _).1 hs
  have gt := (regL_iff _ _).1 ht
  go_wp2_with fail
  go_ret2
  refine ⟨?_, (hb.alloc (by have := b1.size; simp at this; omega) _).drew⟩
  have ev := enc_or (formN k) (by omega) (by omega) (bitsN k) d s t i (in_bits h1 h2) h
  show Ending.returned (.tuple #[.int .u32 (bits .or .u32 (bits .or .u32 (bitsN k) (bits .or .u32 (bits .or .u32 (d % 4294967296 * 128 % 4294967296) (s % 4294967296 * 32768 % 4294967296)) (t % 4294967296 * 1048576 % 4294967296))) (spreadL (formN k) (i % 4294967296))), .int .i64 0]) = _
  rw [show d % 4294967296 * 128 % 4294967296 = d * 128 by omega, show s % 4294967296 * 32768 % 4294967296 = s * 32768 by omega, show t % 4294967296 * 1048576 % 4294967296 = t * 1048576 by omega, ev]
  rfl
/-- Encode: a word's bits, or that it is none. -/
theorem enc_any (op d s t i : Int) (w : World) (tabs : Tabs w) :
    Calls Tryd.prog 35 #[wordV op d s t i] w fun e w' => e = .returned (if isL op d s t i then .tuple #[.int .u32 (encL op d s t i), .int .i64 0] else .tuple #[.int .u32 0, .int .i64 12]) ∧ Below w.heap.size w w' := by
  cases hl : isL op d s t i with
  | false => exact enc_out op d s t i hl w tabs
  | true =>
    have hl' := hl
    unfold isL at hl'
    simp only [Bool.and_eq_true, decide_eq_true_eq] at hl'
    obtain ⟨⟨g1, g2⟩, g3⟩ := hl'
    obtain ⟨k, rfl⟩ : ∃ k : Nat, op = k := ⟨op.toNat, by omega⟩
    rw [Int.toNat_natCast] at g3
    exact enc_in k (by omega) (by omega) d s t i g3 w tabs
end Go.Proofs.YtbalnlodkiejcaaDoor
