/- The small functions of package state: places, lists of flags, words of a state. -/
import Derived.Test.YtgamghmeefoopaaDoorH0
import Derived.Test.YtgamghmeefoopaaDoorLaid
import Derived.Lib.Hide
namespace Go.Proofs.YtgamghmeefoopaaDoor
open Go.RowKit
set_option linter.unusedVariables false
set_option linter.unusedSimpArgs false
set_option linter.unusedSectionVars false

/-- A state of the guest: registers, the place, flags, the direction, the number. -/
structure Gs where
  r : Nat → Int
  pc : Int
  f : Nat → Bool
  df : Bool
  x : Int
structure Gs.ok (g : Gs) : Prop where
  r : ∀ i, 0 ≤ g.r i ∧ g.r i ≤ 4294967295
  pc : 0 ≤ g.pc ∧ g.pc ≤ 4294967295
  x : 0 ≤ g.x ∧ g.x ≤ 18446744073709551615
abbrev flV (f : Nat → Bool) : Value := .agg #[.bool (f 0), .bool (f 1), .bool (f 2), .bool (f 3), .bool (f 4), .bool (f 5)]
abbrev stV (g : Gs) : Value := .agg #[.int .u32 (g.r 0), .int .u32 (g.r 1), .int .u32 (g.r 2), .int .u32 (g.r 3), .int .u32 (g.r 4), .int .u32 (g.r 5), .int .u32 (g.r 6), .int .u32 (g.r 7), .int .u32 g.pc,
  .bool (g.f 0), .bool (g.f 1), .bool (g.f 2), .bool (g.f 3), .bool (g.f 4), .bool (g.f 5), .bool g.df, .int .u64 g.x]
def oneI (c : Bool) : Int := if c then 1 else 0
theorem oneI_bd (c : Bool) : 0 ≤ oneI c ∧ oneI c ≤ 4294967295 := by cases c <;> decide
/-- The words that a state is. -/
def wordsL (g : Gs) : Nat → Int
  | 0 => g.r 0 | 1 => g.r 1 | 2 => g.r 2 | 3 => g.r 3 | 4 => g.r 4 | 5 => g.r 5 | 6 => g.r 6 | 7 => g.r 7 | 8 => g.pc
  | 9 => oneI (g.f 0) | 10 => oneI (g.f 1) | 11 => oneI (g.f 2) | 12 => oneI (g.f 3) | 13 => oneI (g.f 4) | 14 => oneI (g.f 5) | 15 => oneI g.df
  | 16 => g.x % 4294967296 | 17 => g.x / 4294967296 | _ => 0
theorem wordsL_bd {g : Gs} (h : g.ok) : ∀ i, 0 ≤ wordsL g i ∧ wordsL g i ≤ 4294967295 := by
  intro i
  have hx := h.x
  unfold wordsL
  split <;> first | exact h.r _ | exact h.pc | exact oneI_bd _ | omega
/-- The state that words are. -/
def unL (l : Nat → Int) : Gs := ⟨l, l 8, fun i => l (9 + i) != 0, l 15 != 0, l 17 * 4294967296 + l 16⟩
abbrev wsV (l : Nat → Int) : Value := .agg #[.int .u32 (l 0), .int .u32 (l 1), .int .u32 (l 2), .int .u32 (l 3), .int .u32 (l 4), .int .u32 (l 5), .int .u32 (l 6), .int .u32 (l 7), .int .u32 (l 8),
  .int .u32 (l 9), .int .u32 (l 10), .int .u32 (l 11), .int .u32 (l 12), .int .u32 (l 13), .int .u32 (l 14), .int .u32 (l 15), .int .u32 (l 16), .int .u32 (l 17)]
theorem oneI_ne (c : Bool) : (oneI c != 0) = c := by cases c <;> rfl
theorem st_un (g : Gs) (h : g.ok) : stV (unL (wordsL g)) = stV g := by
  have hx := h.x
  have e : g.x / 4294967296 * 4294967296 + g.x % 4294967296 = g.x := by omega
  simp only [stV, unL, wordsL, oneI_ne, e]

theorem left_eq (i : Int) (n : Nat) (h0 : 0 < n) (h1 : n ≤ 16) (hi : -9223372036854775808 ≤ i ∧ i ≤ 9223372036854775807) : (wrap64 (i.tmod n + n)).tmod n = i % n := by
  have hn : (0 : Int) < n := by omega
  have hm : 0 ≤ i % (n : Int) ∧ i % (n : Int) < n := ⟨Int.emod_nonneg _ (by omega), Int.emod_lt_of_pos _ hn⟩
  have ht : i.tmod n = i % n ∨ i.tmod n = i % n - n := by
    by_cases h : 0 ≤ i
    · exact .inl (Int.tmod_eq_emod_of_nonneg h)
    · rw [Int.tmod_eq_emod]
      split
      · left; omega
      · right; simp
  have hw : wrap64 (i.tmod n + n) = i.tmod n + n := by unfold wrap64; omega
  rw [hw, Int.tmod_eq_emod_of_nonneg (by omega)]
  rcases ht with ht | ht
  · rw [ht, Int.add_emod_right, Int.emod_emod]
  · rw [ht, show i % (n : Int) - n + n = i % n by omega, Int.emod_emod]
theorem left_8 (i : Int) (hi : -9223372036854775808 ≤ i ∧ i ≤ 9223372036854775807) (w : World) : Calls Tryd.prog 30 #[.int .i64 i, .int .i64 8] w fun e w' => e = .returned (.int .i64 (i % 8)) ∧ w = w' := by
  go_enter Tryd.func30, Tryd.ntmps30
  go_wp2
  go_ret
  exact ⟨ret_int (left_eq i 8 (by decide) (by decide) hi), rfl⟩
theorem left_7 (i : Int) (hi : -9223372036854775808 ≤ i ∧ i ≤ 9223372036854775807) (w : World) : Calls Tryd.prog 30 #[.int .i64 i, .int .i64 7] w fun e w' => e = .returned (.int .i64 (i % 7)) ∧ w = w' := by
  go_enter Tryd.func30, Tryd.ntmps30
  go_wp2
  go_ret
  exact ⟨ret_int (left_eq i 7 (by decide) (by decide) hi), rfl⟩
theorem left_16 (i : Int) (hi : -9223372036854775808 ≤ i ∧ i ≤ 9223372036854775807) (w : World) : Calls Tryd.prog 30 #[.int .i64 i, .int .i64 16] w fun e w' => e = .returned (.int .i64 (i % 16)) ∧ w = w' := by
  go_enter Tryd.func30, Tryd.ntmps30
  go_wp2
  go_ret
  exact ⟨ret_int (left_eq i 16 (by decide) (by decide) hi), rfl⟩
theorem wordAt_any (k : Int) (hk : 0 ≤ k ∧ k < 18) (w : World) : Calls Tryd.prog 38 #[.int .i64 k] w fun e w' => e = .returned (.int .u32 (64 + 4 * k)) ∧ w = w' := by
  go_enter Tryd.func38, Tryd.ntmps38
  go_wp2
  go_ret
  exact ⟨ret_int (by omega), rfl⟩
theorem RegAt_any (i : Int) (hi : -9223372036854775808 ≤ i ∧ i ≤ 9223372036854775807) (w : World) : Calls Tryd.prog 25 #[.int .i64 i] w fun e w' => e = .returned (.int .u32 (64 + 4 * (i % 8))) ∧ w = w' := by
  have h8 : 0 ≤ i % 8 ∧ i % 8 < 18 := by omega
  go_enter Tryd.func25, Tryd.ntmps25
  go_wp2_with (first | (go_at_call 30; refine (left_8 _ hi _).mono ?_; rintro e w' ⟨rfl, rfl⟩) | (go_at_call 38; refine (wordAt_any _ h8 _).mono ?_; rintro e w' ⟨rfl, rfl⟩))
  go_ret
  exact ⟨rfl, rfl⟩
theorem FlagAt_any (i : Int) (hi : -9223372036854775808 ≤ i ∧ i ≤ 9223372036854775807) (w : World) : Calls Tryd.prog 26 #[.int .i64 i] w fun e w' => e = .returned (.int .u32 (64 + 4 * (9 + i % 7))) ∧ w = w' := by
  have h7 : 0 ≤ 9 + i % 7 ∧ 9 + i % 7 < 18 := by omega
  have hw := fun w => wordAt_any (9 + i % 7) h7 w
  have hb : 0 ≤ i % 7 ∧ i % 7 < 7 := by omega
  go_enter Tryd.func26, Tryd.ntmps26
  go_wp2_with (first | (go_at_call 30; refine (left_7 _ hi _).mono ?_; rintro e w' ⟨rfl, rfl⟩) | (go_at_call 38; refine (hw _).mono ?_; rintro e w' ⟨rfl, rfl⟩))
  go_ret
  exact ⟨rfl, rfl⟩
theorem one_any (c : Bool) (w : World) : Calls Tryd.prog 33 #[.bool c] w fun e w' => e = .returned (.int .u32 (oneI c)) ∧ w = w' := by
  cases c <;>
  · go_enter Tryd.func33, Tryd.ntmps33
    go_wp2
    go_ret
    exact ⟨rfl, rfl⟩
theorem byteOf_any (i : Int) (hi : -9223372036854775808 ≤ i ∧ i ≤ 9223372036854775807) (w : World) : Calls Tryd.prog 27 #[.int .i64 i] w fun e w' => e = .returned (.tuple #[.int .i64 (i % 8 % 4), .int .i64 (i % 8 / 4)]) ∧ w = w' := by
  have hb : 0 ≤ i % 8 ∧ i % 8 < 8 := by omega
  go_enter Tryd.func27, Tryd.ntmps27
  go_wp2_with (first | (go_at_call 30; refine (left_8 _ hi _).mono ?_; rintro e w' ⟨rfl, rfl⟩))
  generalize i % 8 = k at *
  go_ret2
  exact ⟨ret_ii (by omega) (by omega), rfl⟩
theorem listed_any (f : Nat → Bool) (w : World) : Calls Tryd.prog 32 #[flV f] w fun e w' => e = .returned (flV f) ∧ Below w.heap.size w w' := by
  go_enter Tryd.func32, Tryd.ntmps32
  go_wp2
  refine bodyPost_ret (v := flV f) (by simp [results, Tryd.results32, go_sem]) rfl ⟨rfl, ?_⟩
  exact ((Below.refl _ _).alloc (Nat.le_refl _) _).alloc (by simp) _
theorem unlisted_any (f : Nat → Bool) (w : World) : Calls Tryd.prog 36 #[flV f] w fun e w' => e = .returned (flV f) ∧ Below w.heap.size w w' := by
  go_enter Tryd.func36, Tryd.ntmps36
  go_wp2
  refine bodyPost_ret (v := flV f) (by simp [results, Tryd.results36, go_sem]) rfl ⟨rfl, ?_⟩
  exact ((Below.refl _ _).alloc (Nat.le_refl _) _).alloc (by simp) _
end Go.Proofs.YtgamghmeefoopaaDoor
