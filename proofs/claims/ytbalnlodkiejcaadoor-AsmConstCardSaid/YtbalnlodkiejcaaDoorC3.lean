import Derived.Test.YtbalnlodkiejcaaDoorC2
namespace Go.Proofs.YtbalnlodkiejcaaDoor
open Go.RowKit
set_option linter.unusedVariables false
set_option linter.unusedSimpArgs false
set_option linter.unusedSectionVars false

theorem jor (u : Int) : bits .or .u32 (bits .or .u32 (bits .or .u32 (u / 2147483648 % 2 * 1048576) (u / 4096 % 256 * 4096)) (u / 1048576 % 2 * 2048)) (u / 2097152 % 1024 * 2)
    = u / 2147483648 % 2 * 1048576 + u / 4096 % 256 * 4096 + u / 1048576 % 2 * 2048 + u / 2097152 % 1024 * 2 := by
  have a1 : In 0x100000 (u / 2147483648 % 2 * 1048576) := fld 20 1 _ (by simp; omega) (by decide) (by decide) (by decide)
  have a2 : In 0xff000 (u / 4096 % 256 * 4096) := fld 12 8 _ (by simp; omega) (by decide) (by decide) (by decide)
  have a3 : In 0x800 (u / 1048576 % 2 * 2048) := fld 11 1 _ (by simp; omega) (by decide) (by decide) (by decide)
  have a4 : In 0x7fe (u / 2097152 % 1024 * 2) := fld 1 10 _ (by simp; omega) (by decide) (by decide) (by decide)
  obtain ⟨e1, m1⟩ := or_in a1 a2 (by decide)
  obtain ⟨e2, m2⟩ := or_in m1 a3 (by decide)
  obtain ⟨e3, m3⟩ := or_in m2 a4 (by decide)
  rw [e1, e2, e3]
theorem bor (u : Int) : bits .or .u32 (bits .or .u32 (bits .or .u32 (u / 2147483648 % 2 * 4096) (u / 128 % 2 * 2048)) (u / 33554432 % 64 * 32)) (u / 256 % 16 * 2)
    = u / 2147483648 % 2 * 4096 + u / 128 % 2 * 2048 + u / 33554432 % 64 * 32 + u / 256 % 16 * 2 := by
  have a1 : In 0x1000 (u / 2147483648 % 2 * 4096) := fld 12 1 _ (by simp; omega) (by decide) (by decide) (by decide)
  have a2 : In 0x800 (u / 128 % 2 * 2048) := fld 11 1 _ (by simp; omega) (by decide) (by decide) (by decide)
  have a3 : In 0x7e0 (u / 33554432 % 64 * 32) := fld 5 6 _ (by simp; omega) (by decide) (by decide) (by decide)
  have a4 : In 0x1e (u / 256 % 16 * 2) := fld 1 4 _ (by simp; omega) (by decide) (by decide) (by decide)
  obtain ⟨e1, m1⟩ := or_in a1 a2 (by decide)
  obtain ⟨e2, m2⟩ := or_in m1 a3 (by decide)
  obtain ⟨e3, m3⟩ := or_in m2 a4 (by decide)
  rw [e1, e2, e3]
theorem sor (u : Int) : bits .or .u32 (u / 33554432 % 128 * 32) (u / 128 % 32) = u / 33554432 % 128 * 32 + u / 128 % 32 := by
  have a1 : In 0xfe0 (u / 33554432 % 128 * 32) := fld 5 7 _ (by simp; omega) (by decide) (by decide) (by decide)
  have a2 : In 0x1f (u / 128 % 32) := fld0 5 _ (by simp; omega) (by decide) (by decide)
  exact (or_in a1 a2 (by decide)).1
theorem sgn12 (x : Int) (h : 0 ≤ x ∧ x < 4096) : sgn (held 12) x = sx 11 x := by
  unfold sgn sx wrap32
  simp [held]
  split <;> omega
theorem sgn13 (x : Int) (h : 0 ≤ x ∧ x < 8192) : sgn (held 13) x = sx 12 x := by
  unfold sgn sx wrap32
  simp [held]
  split <;> omega
theorem sgn21 (x : Int) (h : 0 ≤ x ∧ x < 2097152) : sgn (held 21) x = sx 20 x := by
  unfold sgn sx wrap32
  simp [held]
  split <;> omega
theorem sg12 (x : Int) (h : 0 ≤ x ∧ x < 4096) (w : World) : Calls Tryd.prog 34 #[.int .u32 x, .int .i64 12] w fun e w' => e = .returned (.int .i32 (sx 11 x)) ∧ w = w' := by
  rw [← sgn12 x h]; exact signed_any x 12 (by omega) w
theorem sg13 (x : Int) (h : 0 ≤ x ∧ x < 8192) (w : World) : Calls Tryd.prog 34 #[.int .u32 x, .int .i64 13] w fun e w' => e = .returned (.int .i32 (sx 12 x)) ∧ w = w' := by
  rw [← sgn13 x h]; exact signed_any x 13 (by omega) w
theorem sg21 (x : Int) (h : 0 ≤ x ∧ x < 2097152) (w : World) : Calls Tryd.prog 34 #[.int .u32 x, .int .i64 21] w fun e w' => e = .returned (.int .i32 (sx 20 x)) ∧ w = w' := by
  rw [← sgn21 x h]; exact signed_any x 21 (by omega) w
set_option maxHeartbeats 1000000 in
theorem gath_any (f : Nat) (h1 : 1 ≤ f) (h9 : f ≤ 9) (u : Int) (hu : 0 ≤ u ∧ u ≤ 4294967295) (w : World) :
    Calls Tryd.prog 54 #[.int .i64 f, .int .u32 u] w fun e w' => e = .returned (.int .i32 (immL f u)) ∧ w = w' := by
  have hj := jor u
  have hb := bor u
  have hs := sor u
  have hcl := u32_clear u hu
  have hc : f = 1 ∨ f = 2 ∨ f = 3 ∨ f = 4 ∨ f = 5 ∨ f = 6 ∨ f = 7 ∨ f = 8 ∨ f = 9 := by omega
  rcases hc with rfl | rfl | rfl | rfl | rfl | rfl | rfl | rfl | rfl
  · go_enter Tryd.func54, Tryd.ntmps54
    go_wp2_with (go_at_call 52; refine (f_g u hu _ _ (by decide) (by decide) _).mono ?_; rintro e w2 ⟨rfl, rfl⟩)
    go_ret
    exact ⟨ret_int rfl, rfl⟩
  · go_enter Tryd.func54, Tryd.ntmps54
    go_wp2_with (go_at_call 52; refine (f_g u hu _ _ (by decide) (by decide) _).mono ?_; rintro e w2 ⟨rfl, rfl⟩)
    refine (sg21 _ (by omega) _).mono ?_
    rintro e w2 ⟨rfl, rfl⟩
    go_wp2_with fail
    go_ret
    exact ⟨ret_int rfl, rfl⟩
  · go_enter Tryd.func54, Tryd.ntmps54
    go_wp2_with (go_at_call 52; refine (f_g u hu _ _ (by decide) (by decide) _).mono ?_; rintro e w2 ⟨rfl, rfl⟩)
    refine (sg12 _ (by omega) _).mono ?_
    rintro e w2 ⟨rfl, rfl⟩
    go_wp2_with fail
    go_ret
    exact ⟨ret_int rfl, rfl⟩
  · go_enter Tryd.func54, Tryd.ntmps54
    go_wp2_with (go_at_call 52; refine (f_g u hu _ _ (by decide) (by decide) _).mono ?_; rintro e w2 ⟨rfl, rfl⟩)
    refine (sg12 _ (by omega) _).mono ?_
    rintro e w2 ⟨rfl, rfl⟩
    go_wp2_with fail
    go_ret
    exact ⟨ret_int rfl, rfl⟩
  · go_enter Tryd.func54, Tryd.ntmps54
    go_wp2_with (go_at_call 52; refine (f_g u hu _ _ (by decide) (by decide) _).mono ?_; rintro e w2 ⟨rfl, rfl⟩)
    refine (sg12 _ (by omega) _).mono ?_
    rintro e w2 ⟨rfl, rfl⟩
    go_wp2_with fail
    go_ret
    exact ⟨ret_int rfl, rfl⟩
  · go_enter Tryd.func54, Tryd.ntmps54
    go_wp2_with (go_at_call 52; refine (f_g u hu _ _ (by decide) (by decide) _).mono ?_; rintro e w2 ⟨rfl, rfl⟩)
    refine (sg13 _ (by omega) _).mono ?_
    rintro e w2 ⟨rfl, rfl⟩
    go_wp2_with fail
    go_ret
    exact ⟨ret_int rfl, rfl⟩
  · go_enter Tryd.func54, Tryd.ntmps54
    go_wp2_with (go_at_call 52; refine (f_g u hu _ _ (by decide) (by decide) _).mono ?_; rintro e w2 ⟨rfl, rfl⟩)
    go_ret
    exact ⟨ret_int rfl, rfl⟩
  · go_enter Tryd.func54, Tryd.ntmps54
    go_wp2_with (go_at_call 52; refine (f_g u hu _ _ (by decide) (by decide) _).mono ?_; rintro e w2 ⟨rfl, rfl⟩)
    go_ret
    exact ⟨ret_int rfl, rfl⟩
  · go_enter Tryd.func54, Tryd.ntmps54
    go_wp2_with (go_at_call 52; refine (f_g u hu _ _ (by decide) (by decide) _).mono ?_; rintro e w2 ⟨rfl, rfl⟩)
    go_ret
    exact ⟨ret_int rfl, rfl⟩
set_option maxHeartbeats 2000000 in
theorem apart_in (k : Nat) (h1 : 1 ≤ k) (h2 : k ≤ 47) (u : Int) (hu : 0 ≤ u ∧ u ≤ 4294967295) (w : World) (tabs : Tabs w) :
    Calls Tryd.prog 49 #[.int .i64 k, .int .u32 u] w fun e w' => e = .returned (wordV k (dL (formN k) u) (sL (formN k) u) (tL (formN k) u) (immL (formN k) u)) ∧ Below w.heap.size w w' := by
  obtain ⟨c1, c2, c3⟩ := tabs.2.1 k (by omega)
  have c2' := fun o => (tabs.kin1 (k := k) (by omega) o).2.1
  have hf := opCases h1 h2
  go_enter Tryd.func49, Tryd.ntmps49
  go_wp2_with (first
      | (go_at_call 52; refine (f_g u hu _ _ (by decide) (by decide) _).mono ?_; rintro e w2 ⟨rfl, rfl⟩)
      | (go_at_call 54; refine (gath_any _ (by omega) (by omega) u hu _).mono ?_; rintro e w2 ⟨rfl, rfl⟩))
  all_goals go_returns
  all_goals refine ⟨?_, (Below.refl w.heap.size w).alloc (Nat.le_refl _) _⟩
  all_goals clear c1 c2 c2' c3 tabs
  all_goals simp only [beq_iff_eq, beq_eq_false_iff_ne, ne_eq] at *
  all_goals (rcases hf with hf | hf | hf | hf | hf | hf | hf | hf | hf <;> first | (exfalso; omega) | (rw [hf]; rfl))

end Go.Proofs.YtbalnlodkiejcaaDoor
