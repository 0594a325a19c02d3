import Derived.Test.YtbalnlodkiejcaaDoorC8
namespace Go.Proofs.YtbalnlodkiejcaaDoor
open Go.RowKit
set_option linter.unusedVariables false
set_option linter.unusedSimpArgs false
set_option linter.unusedSectionVars false

theorem jor2 (u : Int) : bits .or .u32 (bits .or .u32 (bits .or .u32 (u / 4096 % 256 * 4096) (u / 1048576 % 2 * 2048)) (u / 2097152 % 1024 * 2)) (u / 2147483648 % 2 * 1048576)
    = u / 2147483648 % 2 * 1048576 + u / 4096 % 256 * 4096 + u / 1048576 % 2 * 2048 + u / 2097152 % 1024 * 2 := by
  have a1 : In 0x100000 (u / 2147483648 % 2 * 1048576) := fld 20 1 _ (by simp; omega) (by decide) (by decide) (by decide)
  have a2 : In 0xff000 (u / 4096 % 256 * 4096) := fld 12 8 _ (by simp; omega) (by decide) (by decide) (by decide)
  have a3 : In 0x800 (u / 1048576 % 2 * 2048) := fld 11 1 _ (by simp; omega) (by decide) (by decide) (by decide)
  have a4 : In 0x7fe (u / 2097152 % 1024 * 2) := fld 1 10 _ (by simp; omega) (by decide) (by decide) (by decide)
  obtain ⟨e1, m1⟩ := or_in a2 a3 (by decide)
  obtain ⟨e2, m2⟩ := or_in m1 a4 (by decide)
  obtain ⟨e3, m3⟩ := or_in m2 a1 (by decide)
  rw [e1, e2, e3]
  clear a1 a2 a3 a4 m1 m2 m3 e1 e2 e3
  omega
theorem bor2 (u : Int) : bits .or .u32 (bits .or .u32 (bits .or .u32 (u / 128 % 2 * 2048) (u / 256 % 16 * 2)) (u / 33554432 % 64 * 32)) (u / 2147483648 % 2 * 4096)
    = u / 2147483648 % 2 * 4096 + u / 128 % 2 * 2048 + u / 33554432 % 64 * 32 + u / 256 % 16 * 2 := by
  have a1 : In 0x1000 (u / 2147483648 % 2 * 4096) := fld 12 1 _ (by simp; omega) (by decide) (by decide) (by decide)
  have a2 : In 0x800 (u / 128 % 2 * 2048) := fld 11 1 _ (by simp; omega) (by decide) (by decide) (by decide)
  have a3 : In 0x7e0 (u / 33554432 % 64 * 32) := fld 5 6 _ (by simp; omega) (by decide) (by decide) (by decide)
  have a4 : In 0x1e (u / 256 % 16 * 2) := fld 1 4 _ (by simp; omega) (by decide) (by decide) (by decide)
  obtain ⟨e1, m1⟩ := or_in a2 a4 (by decide)
  obtain ⟨e2, m2⟩ := or_in m1 a3 (by decide)
  obtain ⟨e3, m3⟩ := or_in m2 a1 (by decide)
  rw [e1, e2, e3]
  clear a1 a2 a3 a4 m1 m2 m3 e1 e2 e3
  omega
theorem sor2 (u : Int) : bits .or .u32 (u / 128 % 32) (u / 33554432 % 128 * 32) = u / 33554432 % 128 * 32 + u / 128 % 32 := by
  have a1 : In 0xfe0 (u / 33554432 % 128 * 32) := fld 5 7 _ (by simp; omega) (by decide) (by decide) (by decide)
  have a2 : In 0x1f (u / 128 % 32) := fld0 5 _ (by simp; omega) (by decide) (by decide)
  rw [(or_in a2 a1 (by decide)).1]
  omega
theorem rsg12 (x : Int) (h : 0 ≤ x ∧ x < 4096) (w : World) : Calls Tryd.prog 30 #[.int .u32 x, .int .i64 12] w fun e w' => e = .returned (.int .i32 (sx 11 x)) ∧ w = w' := by
  rw [← sgn12 x h]; exact rsigned_any x 12 (by omega) w
theorem rsg13 (x : Int) (h : 0 ≤ x ∧ x < 8192) (w : World) : Calls Tryd.prog 30 #[.int .u32 x, .int .i64 13] w fun e w' => e = .returned (.int .i32 (sx 12 x)) ∧ w = w' := by
  rw [← sgn13 x h]; exact rsigned_any x 13 (by omega) w
theorem rsg21 (x : Int) (h : 0 ≤ x ∧ x < 2097152) (w : World) : Calls Tryd.prog 30 #[.int .u32 x, .int .i64 21] w fun e w' => e = .returned (.int .i32 (sx 20 x)) ∧ w = w' := by
  rw [← sgn21 x h]; exact rsigned_any x 21 (by omega) w
theorem and31 (y : Int) (h : 0 ≤ y ∧ y ≤ 4294967295) : bits .and .u32 y 31 = y % 32 := by
  have := and_mask y 5 h (by decide)
  have e : ((2 : Int) ^ 5 - 1) = 31 := by decide
  rw [e] at this
  simpa using this
theorem sra20 (u : Int) (h : 0 ≤ u ∧ u ≤ 4294967295) : wrap32 u / 1048576 = sx 11 (u / 1048576 % 4096) := by
  unfold sx wrap32
  simp
  split <;> omega
theorem immL_bd (f : Nat) (h1 : 1 ≤ f) (h9 : f ≤ 9) (u : Int) : -2147483648 ≤ immL f u ∧ immL f u ≤ 2147483647 := by
  have hc : f = 1 ∨ f = 2 ∨ f = 3 ∨ f = 4 ∨ f = 5 ∨ f = 6 ∨ f = 7 ∨ f = 8 ∨ f = 9 := by omega
  rcases hc with rfl | rfl | rfl | rfl | rfl | rfl | rfl | rfl | rfl <;> simp only [immL]
  · exact bd32 _
  all_goals try unfold sx
  all_goals try simp
  all_goals try split
  all_goals omega
/-- A kind's word that x is, is written as x. -/
theorem hit_enc (k : Nat) (h1 : 1 ≤ k) (h2 : k ≤ 47) (u : Int) (hu : 0 ≤ u ∧ u ≤ 4294967295) (hm : matchL k u = true) (w : World) :
    Calls Tryd.prog 15 #[wordV k (dL (formN k) u) (sL (formN k) u) (tL (formN k) u) (immL (formN k) u)] w fun e w' => e = .returned (.tuple #[.int .u32 u, .bool true]) ∧ Below w.heap.size w w' := by
  have hf := opCases h1 h2
  obtain ⟨e1, e2⟩ := read_back h1 h2 u hu hm
  refine (rEnc_any k _ _ _ _ (immL_bd _ (by omega) (by omega) u) w).mono ?_
  rintro e w' ⟨rfl, b⟩
  have hl : isL k (dL (formN k) u) (sL (formN k) u) (tL (formN k) u) (immL (formN k) u) = true := by
    unfold isL
    rw [Int.toNat_natCast, decide_eq_true (show 1 ≤ (k : Int) by omega), decide_eq_true (show (k : Int) ≤ 47 by omega), e2]; rfl
  refine ⟨?_, b⟩
  rw [hl, if_pos rfl]
  unfold encL
  rw [Int.toNat_natCast, e1]
theorem miss_enc (k : Nat) (h1 : 1 ≤ k) (h2 : k ≤ 47) (u : Int) (hu : 0 ≤ u ∧ u ≤ 4294967295) (hm : matchL k u = false) (w : World) :
    Calls Tryd.prog 15 #[wordV k (dL (formN k) u) (sL (formN k) u) (tL (formN k) u) (immL (formN k) u)] w fun e w' => (∃ y b, e = .returned (.tuple #[.int .u32 y, .bool b]) ∧ (b = false ∨ y ≠ u)) ∧ Below w.heap.size w w' := by
  have hf := opCases h1 h2
  refine (rEnc_any k _ _ _ _ (immL_bd _ (by omega) (by omega) u) w).mono ?_
  rintro e w' ⟨rfl, b⟩
  refine ⟨⟨_, _, rfl, ?_⟩, b⟩
  cases hl : isL k (dL (formN k) u) (sL (formN k) u) (tL (formN k) u) (immL (formN k) u) with
  | false => exact .inl rfl
  | true =>
    right
    rw [if_pos rfl]
    intro he
    unfold isL at hl
    rw [Int.toNat_natCast] at hl
    simp only [Bool.and_eq_true] at hl
    have := (write_back h1 h2 hl.2).2.1
    unfold encL at he
    rw [Int.toNat_natCast] at he
    rw [he, hm] at this
    cases this
end Go.Proofs.YtbalnlodkiejcaaDoor
