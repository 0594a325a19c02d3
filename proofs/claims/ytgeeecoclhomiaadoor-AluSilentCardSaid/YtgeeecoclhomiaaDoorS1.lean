/- Flags that an operation doesn't write, operation by operation. -/
import Derived.Test.YtgeeecoclhomiaaDoorA6
import Derived.Test.YtgeeecoclhomiaaDoorP2
namespace Go.Proofs.YtgeeecoclhomiaaDoor
open Go.RowKit
set_option linter.unusedVariables false
set_option linter.unusedSimpArgs false
set_option linter.unusedSectionVars false

theorem reck_other (op a b : Int) (f : Nat → Bool) (h : op = 21 ∨ op = 22 ∨ op = 23 ∨ op = 24 ∨ op = 25) : Reckons op a b f a f := by
  intro w
  have k : Blk (((w.alloc (.cells (fl6 f) 24)).alloc (.cells (fl6 f) 24)).drew) (w.heap.size + 1) 24 (fl6 f) := by simpa using (Blk.new (w.alloc (.cells (fl6 f) 24)) 24 (fl6 f)).drew
  have h3 : (op == 3) = false := by rcases h with rfl | rfl | rfl | rfl | rfl <;> rfl
  have h4 : (op == 4) = false := by rcases h with rfl | rfl | rfl | rfl | rfl <;> rfl
  have h5 : (op == 5) = false := by rcases h with rfl | rfl | rfl | rfl | rfl <;> rfl
  have h6 : (op == 6) = false := by rcases h with rfl | rfl | rfl | rfl | rfl <;> rfl
  have h7 : (op == 7) = false := by rcases h with rfl | rfl | rfl | rfl | rfl <;> rfl
  have h8 : (op == 8) = false := by rcases h with rfl | rfl | rfl | rfl | rfl <;> rfl
  have h9 : (op == 9) = false := by rcases h with rfl | rfl | rfl | rfl | rfl <;> rfl
  have h10 : (op == 10) = false := by rcases h with rfl | rfl | rfl | rfl | rfl <;> rfl
  have h11 : (op == 11) = false := by rcases h with rfl | rfl | rfl | rfl | rfl <;> rfl
  have h12 : (op == 12) = false := by rcases h with rfl | rfl | rfl | rfl | rfl <;> rfl
  have h13 : (op == 13) = false := by rcases h with rfl | rfl | rfl | rfl | rfl <;> rfl
  have h14 : (op == 14) = false := by rcases h with rfl | rfl | rfl | rfl | rfl <;> rfl
  have h15 : (op == 15) = false := by rcases h with rfl | rfl | rfl | rfl | rfl <;> rfl
  clear h
  go_enter Tryd.func30, Tryd.ntmps30
  go_wp2
  go_region
  go_wp2
  refine bodyPost_ret (v := .tuple #[.int .u32 a, flV f]) (res_sc rfl _ _ (w.heap.size + 1) f _ rfl rfl k) rfl ⟨rfl, ?_⟩
  exact (((Below.refl _ _).alloc (Nat.le_refl _) _).alloc (by simp) _).drew
/-- What an operation leaves as it was. -/
abbrev Leaves (c : Nat) (f g : Nat → Bool) : Prop := ∀ i, wrT c i = false → g i = f i
theorem leaves_mix (c : Nat) (f m : Nat → Bool) : Leaves c f (mixL (wrT c) f m) := fun i h => by unfold mixL; rw [h]; rfl
theorem leaves_all (f m : Nat → Bool) (c : Nat) (hc : c = 1 ∨ c = 2) : Leaves c f m := fun i h => by rcases hc with rfl | rfl <;> cases h
theorem leaves_refl (c : Nat) (f : Nat → Bool) : Leaves c f f := fun i h => rfl
theorem or32_bd {x y : Int} (h : 0 ≤ x ∧ x ≤ 4294967295) (hy : 0 ≤ y ∧ y ≤ 4294967295) : 0 ≤ bits .or .u32 x y ∧ bits .or .u32 x y ≤ 4294967295 := or_bd h hy

theorem shift_leaves_shl (a n : Int) (f : Nat → Bool) (h : 0 ≤ a ∧ a ≤ 4294967295) (hn : 0 ≤ n ∧ n ≤ 4294967295) : ∃ R G, ShiftsTo 23 a n f R G ∧ Leaves 4 f G := by
  by_cases h0 : n % 32 = 0
  · exact ⟨_, _, shift_zero 23 a n f hn h0, leaves_refl _ _⟩
  · obtain ⟨k, hk⟩ := Int.eq_ofNat_of_zero_le (show 0 ≤ n % 32 by omega)
    exact ⟨_, _, shift_shl a n f k (by omega) h hn hk (by omega), leaves_mix _ _ _⟩
theorem shift_leaves_rol (a n : Int) (f : Nat → Bool) (h : 0 ≤ a ∧ a ≤ 4294967295) (hn : 0 ≤ n ∧ n ≤ 4294967295) : ∃ R G, ShiftsTo 21 a n f R G ∧ Leaves 5 f G := by
  by_cases h0 : n % 32 = 0
  · exact ⟨_, _, shift_zero 21 a n f hn h0, leaves_refl _ _⟩
  · obtain ⟨k, hk⟩ := Int.eq_ofNat_of_zero_le (show 0 ≤ n % 32 by omega)
    exact ⟨_, _, shift_rol a n f k (by omega) h hn hk (or_bd (by omega) (div_pow_bd (32 - k) h)), leaves_mix _ _ _⟩
theorem shift_leaves_shr (a n : Int) (f : Nat → Bool) (h : 0 ≤ a ∧ a ≤ 4294967295) (hn : 0 ≤ n ∧ n ≤ 4294967295) : ∃ R G, ShiftsTo 24 a n f R G ∧ Leaves 4 f G := by
  by_cases h0 : n % 32 = 0
  · exact ⟨_, _, shift_zero 24 a n f hn h0, leaves_refl _ _⟩
  · obtain ⟨k, hk⟩ := Int.eq_ofNat_of_zero_le (show 0 ≤ n % 32 by omega)
    exact ⟨_, _, shift_shr a n f k (by omega) h hn hk (div_pow_bd k h), leaves_mix _ _ _⟩
theorem shift_leaves_ror (a n : Int) (f : Nat → Bool) (h : 0 ≤ a ∧ a ≤ 4294967295) (hn : 0 ≤ n ∧ n ≤ 4294967295) : ∃ R G, ShiftsTo 22 a n f R G ∧ Leaves 5 f G := by
  by_cases h0 : n % 32 = 0
  · exact ⟨_, _, shift_zero 22 a n f hn h0, leaves_refl _ _⟩
  · obtain ⟨k, hk⟩ := Int.eq_ofNat_of_zero_le (show 0 ≤ n % 32 by omega)
    exact ⟨_, _, shift_ror a n f k (by omega) h hn hk (or_bd (div_pow_bd k h) (by omega)), leaves_mix _ _ _⟩
theorem shift_leaves_sar (a n : Int) (f : Nat → Bool) (h : 0 ≤ a ∧ a ≤ 4294967295) (hn : 0 ≤ n ∧ n ≤ 4294967295) : ∃ R G, ShiftsTo 25 a n f R G ∧ Leaves 4 f G := by
  by_cases h0 : n % 32 = 0
  · exact ⟨_, _, shift_zero 25 a n f hn h0, leaves_refl _ _⟩
  · obtain ⟨k, hk⟩ := Int.eq_ofNat_of_zero_le (show 0 ≤ n % 32 by omega)
    exact ⟨_, _, shift_sar a n f k (by omega) h hn hk (by omega), leaves_mix _ _ _⟩
abbrev opsT : Array Value := #[.int .i64 3, .int .i64 4, .int .i64 5, .int .i64 6, .int .i64 7, .int .i64 8, .int .i64 9, .int .i64 10, .int .i64 11, .int .i64 12, .int .i64 13, .int .i64 14, .int .i64 15, .int .i64 21, .int .i64 22, .int .i64 23, .int .i64 25]
theorem silent_of (a b : Int) (f : Nat → Bool) (h : 0 ≤ a ∧ a ≤ 4294967295) (hb : 0 ≤ b ∧ b ≤ 4294967295) (t : Nat) (ht : t < 17) :
    ∃ K : Int, ∃ c : Nat, ∃ R : Int, ∃ G : Nat → Bool, opsT[t]? = some (.int .i64 K) ∧ c < 8 ∧ ClassIs K c ∧ Does K a b f R G ∧ Leaves c f G ∧
      (decide (21 ≤ K) = false ∨ decide (21 ≤ K) = true ∧ ∃ R2 : Int, ∃ G2 : Nat → Bool, ShiftsTo K a b f R2 G2 ∧ Leaves c f G2) := by
  rcases (by omega : t = 0 ∨ t = 1 ∨ t = 2 ∨ t = 3 ∨ t = 4 ∨ t = 5 ∨ t = 6 ∨ t = 7 ∨ t = 8 ∨ t = 9 ∨ t = 10 ∨ t = 11 ∨ t = 12 ∨ t = 13 ∨ t = 14 ∨ t = 15 ∨ t = 16) with rfl | rfl | rfl | rfl | rfl | rfl | rfl | rfl | rfl | rfl | rfl | rfl | rfl | rfl | rfl | rfl | rfl
  · exact ⟨3, 1, _, _, rfl, by decide, classOf_3, do_add a b f h hb, leaves_all f _ 1 (by decide), .inl rfl⟩
  · exact ⟨4, 1, _, _, rfl, by decide, classOf_4, do_or a b f (or_bd h hb), leaves_all f _ 1 (by decide), .inl rfl⟩
  · exact ⟨5, 2, _, _, rfl, by decide, classOf_5, do_adc a b f h hb, leaves_all f _ 2 (by decide), .inl rfl⟩
  · exact ⟨6, 2, _, _, rfl, by decide, classOf_6, do_sbb a b f h hb, leaves_all f _ 2 (by decide), .inl rfl⟩
  · exact ⟨7, 1, _, _, rfl, by decide, classOf_7, do_and a b f (and_bd h hb), leaves_all f _ 1 (by decide), .inl rfl⟩
  · exact ⟨8, 1, _, _, rfl, by decide, classOf_8, do_sub a b f h hb, leaves_all f _ 1 (by decide), .inl rfl⟩
  · exact ⟨9, 1, _, _, rfl, by decide, classOf_9, do_xor a b f (xor_bd h hb), leaves_all f _ 1 (by decide), .inl rfl⟩
  · exact ⟨10, 1, _, _, rfl, by decide, classOf_10, do_cmp a b f h hb, leaves_all f _ 1 (by decide), .inl rfl⟩
  · exact ⟨11, 1, _, _, rfl, by decide, classOf_11, do_test a b f (and_bd h hb), leaves_all f _ 1 (by decide), .inl rfl⟩
  · exact ⟨12, 3, _, _, rfl, by decide, classOf_12, do_inc a b f h hb, leaves_mix _ _ _, .inl rfl⟩
  · exact ⟨13, 3, _, _, rfl, by decide, classOf_13, do_dec a b f h hb, leaves_mix _ _ _, .inl rfl⟩
  · exact ⟨14, 0, _, _, rfl, by decide, classOf_14, do_not a b f h, leaves_refl _ _, .inl rfl⟩
  · exact ⟨15, 1, _, _, rfl, by decide, classOf_15, do_neg a b f h hb, leaves_all f _ 1 (by decide), .inl rfl⟩
  · obtain ⟨R2, G2, s1, s2⟩ := shift_leaves_rol a b f h hb
    exact ⟨21, 5, _, _, rfl, by decide, classOf_21, does_of 21 a b a f f 5 (by decide) classOf_21 rfl rfl (reck_other 21 a b f (by decide)), leaves_mix _ _ _, .inr ⟨rfl, R2, G2, s1, s2⟩⟩
  · obtain ⟨R2, G2, s1, s2⟩ := shift_leaves_ror a b f h hb
    exact ⟨22, 5, _, _, rfl, by decide, classOf_22, does_of 22 a b a f f 5 (by decide) classOf_22 rfl rfl (reck_other 22 a b f (by decide)), leaves_mix _ _ _, .inr ⟨rfl, R2, G2, s1, s2⟩⟩
  · obtain ⟨R2, G2, s1, s2⟩ := shift_leaves_shl a b f h hb
    exact ⟨23, 4, _, _, rfl, by decide, classOf_23, does_of 23 a b a f f 4 (by decide) classOf_23 rfl rfl (reck_other 23 a b f (by decide)), leaves_mix _ _ _, .inr ⟨rfl, R2, G2, s1, s2⟩⟩
  · obtain ⟨R2, G2, s1, s2⟩ := shift_leaves_sar a b f h hb
    exact ⟨25, 4, _, _, rfl, by decide, classOf_25, does_of 25 a b a f f 4 (by decide) classOf_25 rfl rfl (reck_other 25 a b f (by decide)), leaves_mix _ _ _, .inr ⟨rfl, R2, G2, s1, s2⟩⟩
theorem bit_of_writes (c i : Nat) (hc : c < 8) (hi : i < 6) : bits .and .i64 (bitsN (wrT c) 6 / 2 ^ i) 1 = if wrT c i then 1 else 0 := by
  rcases (by omega : c = 0 ∨ c = 1 ∨ c = 2 ∨ c = 3 ∨ c = 4 ∨ c = 5 ∨ c = 6 ∨ c = 7) with rfl | rfl | rfl | rfl | rfl | rfl | rfl | rfl <;>
  rcases (by omega : i = 0 ∨ i = 1 ∨ i = 2 ∨ i = 3 ∨ i = 4 ∨ i = 5) with rfl | rfl | rfl | rfl | rfl | rfl <;> kernel_rfl
theorem writes_bd (c : Nat) (hc : c < 8) : 0 ≤ bitsN (wrT c) 6 ∧ bitsN (wrT c) 6 ≤ 63 := by
  rcases (by omega : c = 0 ∨ c = 1 ∨ c = 2 ∨ c = 3 ∨ c = 4 ∨ c = 5 ∨ c = 6 ∨ c = 7) with rfl | rfl | rfl | rfl | rfl | rfl | rfl | rfl <;> decide +kernel
end Go.Proofs.YtgeeecoclhomiaaDoor
