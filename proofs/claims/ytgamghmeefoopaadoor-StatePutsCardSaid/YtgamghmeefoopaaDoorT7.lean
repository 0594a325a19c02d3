/- Flags as a word, a word as flags. -/
import Derived.Test.YtgamghmeefoopaaDoorT4
import Derived.BigQuiet
namespace Go.Proofs.YtgamghmeefoopaaDoor
open Go.RowKit
set_option linter.unusedVariables false
set_option linter.unusedSimpArgs false
set_option linter.unusedSectionVars false
def bitL (c : Bool) (n : Nat) : Int := if c then 2 ^ n else 0
def wordK (f : Nat → Bool) : Nat → Int
  | 0 => 2
  | 1 => 2 + bitL (f 0) 0
  | 2 => 2 + bitL (f 0) 0 + bitL (f 1) 2
  | 3 => 2 + bitL (f 0) 0 + bitL (f 1) 2 + bitL (f 2) 4
  | 4 => 2 + bitL (f 0) 0 + bitL (f 1) 2 + bitL (f 2) 4 + bitL (f 3) 6
  | 5 => 2 + bitL (f 0) 0 + bitL (f 1) 2 + bitL (f 2) 4 + bitL (f 3) 6 + bitL (f 4) 7
  | _ => 2 + bitL (f 0) 0 + bitL (f 1) 2 + bitL (f 2) 4 + bitL (f 3) 6 + bitL (f 4) 7 + bitL (f 5) 11
theorem or_00 (f : Nat → Bool) (h : f 0 = false) : bits .or .u32 (wordK f 0) 0 = wordK f 1 := by
  unfold wordK
  simp only [h]
  decide
theorem or_01 (f : Nat → Bool) (h : f 0 = true) : bits .or .u32 (wordK f 0) 1 = wordK f 1 := by
  unfold wordK
  simp only [h]
  decide
theorem or_10 (f : Nat → Bool) (h : f 1 = false) : bits .or .u32 (wordK f 1) 0 = wordK f 2 := by
  unfold wordK
  simp only [h]
  generalize f 0 = c0
  cases c0 <;> decide
theorem or_11 (f : Nat → Bool) (h : f 1 = true) : bits .or .u32 (wordK f 1) 4 = wordK f 2 := by
  unfold wordK
  simp only [h]
  generalize f 0 = c0
  cases c0 <;> decide
theorem or_20 (f : Nat → Bool) (h : f 2 = false) : bits .or .u32 (wordK f 2) 0 = wordK f 3 := by
  unfold wordK
  simp only [h]
  generalize f 0 = c0, f 1 = c1
  cases c0 <;> cases c1 <;> decide
theorem or_21 (f : Nat → Bool) (h : f 2 = true) : bits .or .u32 (wordK f 2) 16 = wordK f 3 := by
  unfold wordK
  simp only [h]
  generalize f 0 = c0, f 1 = c1
  cases c0 <;> cases c1 <;> decide
theorem or_30 (f : Nat → Bool) (h : f 3 = false) : bits .or .u32 (wordK f 3) 0 = wordK f 4 := by
  unfold wordK
  simp only [h]
  generalize f 0 = c0, f 1 = c1, f 2 = c2
  cases c0 <;> cases c1 <;> cases c2 <;> decide
theorem or_31 (f : Nat → Bool) (h : f 3 = true) : bits .or .u32 (wordK f 3) 64 = wordK f 4 := by
  unfold wordK
  simp only [h]
  generalize f 0 = c0, f 1 = c1, f 2 = c2
  cases c0 <;> cases c1 <;> cases c2 <;> decide
theorem or_40 (f : Nat → Bool) (h : f 4 = false) : bits .or .u32 (wordK f 4) 0 = wordK f 5 := by
  unfold wordK
  simp only [h]
  generalize f 0 = c0, f 1 = c1, f 2 = c2, f 3 = c3
  cases c0 <;> cases c1 <;> cases c2 <;> cases c3 <;> decide
theorem or_41 (f : Nat → Bool) (h : f 4 = true) : bits .or .u32 (wordK f 4) 128 = wordK f 5 := by
  unfold wordK
  simp only [h]
  generalize f 0 = c0, f 1 = c1, f 2 = c2, f 3 = c3
  cases c0 <;> cases c1 <;> cases c2 <;> cases c3 <;> decide
theorem or_50 (f : Nat → Bool) (h : f 5 = false) : bits .or .u32 (wordK f 5) 0 = wordK f 6 := by
  unfold wordK
  simp only [h]
  generalize f 0 = c0, f 1 = c1, f 2 = c2, f 3 = c3, f 4 = c4
  cases c0 <;> cases c1 <;> cases c2 <;> cases c3 <;> cases c4 <;> decide
theorem or_51 (f : Nat → Bool) (h : f 5 = true) : bits .or .u32 (wordK f 5) 2048 = wordK f 6 := by
  unfold wordK
  simp only [h]
  generalize f 0 = c0, f 1 = c1, f 2 = c2, f 3 = c3, f 4 = c4
  cases c0 <;> cases c1 <;> cases c2 <;> cases c3 <;> cases c4 <;> decide
theorem Word_any (f : Nat → Bool) (w : World) (tabs : Tabs w) : Calls Tryd.prog 16 #[flV f] w fun e w' => e = .returned (.int .u32 (wordK f 6)) ∧ Below w.heap.size w w' := by
  have o1 : oneI true = 1 := rfl
  have o0 : oneI false = 0 := rfl
  go_enter Tryd.func16, Tryd.ntmps16
  go_wp2_with fail
  refine (listed_any f _).mono ?_
  rintro e w1 ⟨rfl, b1⟩
  have kb : Below w.heap.size w w1 := ((Below.refl _ _).alloc (Nat.le_refl _) _).trans (b1.mono (by simp))
  clear b1
  generalize hN : w.heap.size = N at *
  go_wp2_with fail
  go_loopw [3, 8] (fun v ii W => ∃ k : Nat, k ≤ 6 ∧ ii = .int .i64 k ∧ v = .int .u32 (wordK f k) ∧ Below N w W) (fun _ ii _ => (6 - intOf ii).toNat)
  case atStart => exact ⟨0, by omega, rfl, rfl, kb⟩
  case round =>
    clear kb
    obtain ⟨k, hk, hi, hv, kb⟩ := hrel
    replace tabs := tabs.below (hN ▸ kb)
    obtain ⟨i0, i1, i2, i3, i4, i5⟩ := ix6 f wr
    obtain ⟨-, t0, t1, t2, t3, t4, t5⟩ := tabs
    by_cases h0 : k = 0
    · subst h0
      obtain rfl : _ = Value.int .i64 0 := hi
      obtain rfl : _ = Value.int .u32 (wordK f 0) := hv
      cases hf : f 0
      · have hor := or_00 f hf
        go_wp2_with fail
        go_quiet (first | ((go_at_call 33; refine (one_any _ _).mono ?_; rintro e w'' ⟨rfl, rfl⟩; exact ⟨rfl, _, rfl⟩)))
        go_wp2_with fail
        go_roundw
        case rel => exact ⟨1, by omega, by go_num, by rw [← hor], below_drewN kb _⟩
        case measure => simp [intOf]
      · have hor := or_01 f hf
        go_wp2_with fail
        go_quiet (first | ((go_at_call 33; refine (one_any _ _).mono ?_; rintro e w'' ⟨rfl, rfl⟩; exact ⟨rfl, _, rfl⟩)))
        go_wp2_with fail
        go_roundw
        case rel => exact ⟨1, by omega, by go_num, by rw [← hor], below_drewN kb _⟩
        case measure => simp [intOf]
    by_cases h1 : k = 1
    · subst h1
      obtain rfl : _ = Value.int .i64 1 := hi
      obtain rfl : _ = Value.int .u32 (wordK f 1) := hv
      cases hf : f 1
      · have hor := or_10 f hf
        go_wp2_with fail
        go_quiet (first | ((go_at_call 33; refine (one_any _ _).mono ?_; rintro e w'' ⟨rfl, rfl⟩; exact ⟨rfl, _, rfl⟩)))
        go_wp2_with fail
        go_roundw
        case rel => exact ⟨2, by omega, by go_num, by rw [← hor], below_drewN kb _⟩
        case measure => simp [intOf]
      · have hor := or_11 f hf
        go_wp2_with fail
        go_quiet (first | ((go_at_call 33; refine (one_any _ _).mono ?_; rintro e w'' ⟨rfl, rfl⟩; exact ⟨rfl, _, rfl⟩)))
        go_wp2_with fail
        go_roundw
        case rel => exact ⟨2, by omega, by go_num, by rw [← hor], below_drewN kb _⟩
        case measure => simp [intOf]
    by_cases h2 : k = 2
    · subst h2
      obtain rfl : _ = Value.int .i64 2 := hi
      obtain rfl : _ = Value.int .u32 (wordK f 2) := hv
      cases hf : f 2
      · have hor := or_20 f hf
        go_wp2_with fail
        go_quiet (first | ((go_at_call 33; refine (one_any _ _).mono ?_; rintro e w'' ⟨rfl, rfl⟩; exact ⟨rfl, _, rfl⟩)))
        go_wp2_with fail
        go_roundw
        case rel => exact ⟨3, by omega, by go_num, by rw [← hor], below_drewN kb _⟩
        case measure => simp [intOf]
      · have hor := or_21 f hf
        go_wp2_with fail
        go_quiet (first | ((go_at_call 33; refine (one_any _ _).mono ?_; rintro e w'' ⟨rfl, rfl⟩; exact ⟨rfl, _, rfl⟩)))
        go_wp2_with fail
        go_roundw
        case rel => exact ⟨3, by omega, by go_num, by rw [← hor], below_drewN kb _⟩
        case measure => simp [intOf]
    by_cases h3 : k = 3
    · subst h3
      obtain rfl : _ = Value.int .i64 3 := hi
      obtain rfl : _ = Value.int .u32 (wordK f 3) := hv
      cases hf : f 3
      · have hor := or_30 f hf
        go_wp2_with fail
        go_quiet (first | ((go_at_call 33; refine (one_any _ _).mono ?_; rintro e w'' ⟨rfl, rfl⟩; exact ⟨rfl, _, rfl⟩)))
        go_wp2_with fail
        go_roundw
        case rel => exact ⟨4, by omega, by go_num, by rw [← hor], below_drewN kb _⟩
        case measure => simp [intOf]
      · have hor := or_31 f hf
        go_wp2_with fail
        go_quiet (first | ((go_at_call 33; refine (one_any _ _).mono ?_; rintro e w'' ⟨rfl, rfl⟩; exact ⟨rfl, _, rfl⟩)))
        go_wp2_with fail
        go_roundw
        case rel => exact ⟨4, by omega, by go_num, by rw [← hor], below_drewN kb _⟩
        case measure => simp [intOf]
    by_cases h4 : k = 4
    · subst h4
      obtain rfl : _ = Value.int .i64 4 := hi
      obtain rfl : _ = Value.int .u32 (wordK f 4) := hv
      cases hf : f 4
      · have hor := or_40 f hf
        go_wp2_with fail
        go_quiet (first | ((go_at_call 33; refine (one_any _ _).mono ?_; rintro e w'' ⟨rfl, rfl⟩; exact ⟨rfl, _, rfl⟩)))
        go_wp2_with fail
        go_roundw
        case rel => exact ⟨5, by omega, by go_num, by rw [← hor], below_drewN kb _⟩
        case measure => simp [intOf]
      · have hor := or_41 f hf
        go_wp2_with fail
        go_quiet (first | ((go_at_call 33; refine (one_any _ _).mono ?_; rintro e w'' ⟨rfl, rfl⟩; exact ⟨rfl, _, rfl⟩)))
        go_wp2_with fail
        go_roundw
        case rel => exact ⟨5, by omega, by go_num, by rw [← hor], below_drewN kb _⟩
        case measure => simp [intOf]
    by_cases h5 : k = 5
    · subst h5
      obtain rfl : _ = Value.int .i64 5 := hi
      obtain rfl : _ = Value.int .u32 (wordK f 5) := hv
      cases hf : f 5
      · have hor := or_50 f hf
        go_wp2_with fail
        go_quiet (first | ((go_at_call 33; refine (one_any _ _).mono ?_; rintro e w'' ⟨rfl, rfl⟩; exact ⟨rfl, _, rfl⟩)))
        go_wp2_with fail
        go_roundw
        case rel => exact ⟨6, by omega, by go_num, by rw [← hor], below_drewN kb _⟩
        case measure => simp [intOf]
      · have hor := or_51 f hf
        go_wp2_with fail
        go_quiet (first | ((go_at_call 33; refine (one_any _ _).mono ?_; rintro e w'' ⟨rfl, rfl⟩; exact ⟨rfl, _, rfl⟩)))
        go_wp2_with fail
        go_roundw
        case rel => exact ⟨6, by omega, by go_num, by rw [← hor], below_drewN kb _⟩
        case measure => simp [intOf]
    obtain rfl : k = 6 := by omega
    obtain rfl : _ = Value.int .i64 6 := hi
    obtain rfl : _ = Value.int .u32 (wordK f 6) := hv
    go_wp2_with fail
    go_ret
    exact ⟨rfl, by rw [hN]; exact kb⟩
theorem bit_any (c : Bool) (n : Nat) (hn : n = 0 ∨ n = 2 ∨ n = 4 ∨ n = 6 ∨ n = 7 ∨ n = 11) (w : World) : Calls Tryd.prog 34 #[.bool c, .int .u64 (n : Int)] w fun e w' => e = .returned (.int .u32 (bitL c n)) ∧ w = w' := by
  rcases hn with rfl | rfl | rfl | rfl | rfl | rfl <;> cases c <;>
  · go_enter Tryd.func34, Tryd.ntmps34
    go_wp2
    go_ret
    exact ⟨rfl, rfl⟩
theorem bit_0 (c : Bool) (w : World) : Calls Tryd.prog 34 #[.bool c, .int .u64 0] w fun e w' => e = .returned (.int .u32 (bitL c 0)) ∧ w = w' := bit_any c 0 (by decide) w
theorem bit_2 (c : Bool) (w : World) : Calls Tryd.prog 34 #[.bool c, .int .u64 2] w fun e w' => e = .returned (.int .u32 (bitL c 2)) ∧ w = w' := bit_any c 2 (by decide) w
theorem bit_4 (c : Bool) (w : World) : Calls Tryd.prog 34 #[.bool c, .int .u64 4] w fun e w' => e = .returned (.int .u32 (bitL c 4)) ∧ w = w' := bit_any c 4 (by decide) w
theorem bit_6 (c : Bool) (w : World) : Calls Tryd.prog 34 #[.bool c, .int .u64 6] w fun e w' => e = .returned (.int .u32 (bitL c 6)) ∧ w = w' := bit_any c 6 (by decide) w
theorem bit_7 (c : Bool) (w : World) : Calls Tryd.prog 34 #[.bool c, .int .u64 7] w fun e w' => e = .returned (.int .u32 (bitL c 7)) ∧ w = w' := bit_any c 7 (by decide) w
theorem bit_11 (c : Bool) (w : World) : Calls Tryd.prog 34 #[.bool c, .int .u64 11] w fun e w' => e = .returned (.int .u32 (bitL c 11)) ∧ w = w' := bit_any c 11 (by decide) w
theorem or_all (f : Nat → Bool) : (bits .or .u32 (bits .or .u32 (bits .or .u32 (bits .or .u32 (bits .or .u32 (bits .or .u32 2 (bitL (f 0) 0)) (bitL (f 1) 2)) (bitL (f 2) 4)) (bitL (f 3) 6)) (bitL (f 4) 7)) (bitL (f 5) 11)) = wordK f 6 := by
  unfold wordK
  generalize f 0 = c0, f 1 = c1, f 2 = c2, f 3 = c3, f 4 = c4, f 5 = c5
  cases c0 <;> cases c1 <;> cases c2 <;> cases c3 <;> cases c4 <;> cases c5 <;> decide
theorem rWord_any (f : Nat → Bool) (w : World) : Calls Tryd.prog 17 #[flV f] w fun e w' => e = .returned (.int .u32 (wordK f 6)) ∧ Below w.heap.size w w' := by
  have hor := or_all f
  have q := (Below.refl w.heap.size w)
  go_enter Tryd.func17, Tryd.ntmps17
  go_wp2_with fail
  go_quiet (first  | ((go_at_call 34; with_reducible refine (bit_0 _ _).mono ?_; rintro e w'' ⟨rfl, rfl⟩; exact ⟨rfl, _, rfl⟩)) | ((go_at_call 34; with_reducible refine (bit_2 _ _).mono ?_; rintro e w'' ⟨rfl, rfl⟩; exact ⟨rfl, _, rfl⟩)) | ((go_at_call 34; with_reducible refine (bit_4 _ _).mono ?_; rintro e w'' ⟨rfl, rfl⟩; exact ⟨rfl, _, rfl⟩)) | ((go_at_call 34; with_reducible refine (bit_6 _ _).mono ?_; rintro e w'' ⟨rfl, rfl⟩; exact ⟨rfl, _, rfl⟩)) | ((go_at_call 34; with_reducible refine (bit_7 _ _).mono ?_; rintro e w'' ⟨rfl, rfl⟩; exact ⟨rfl, _, rfl⟩)) | ((go_at_call 34; with_reducible refine (bit_11 _ _).mono ?_; rintro e w'' ⟨rfl, rfl⟩; exact ⟨rfl, _, rfl⟩)))
  go_wp2_with fail
  go_ret
  exact ⟨rfl, below_drewN ((Below.refl _ _).alloc (Nat.le_refl _) _) _⟩
def bitAt (i : Nat) : Nat := match i with | 0 => 0 | 1 => 2 | 2 => 4 | 3 => 6 | 4 => 7 | _ => 11
def flagL (v : Int) : Nat → Bool := fun i => v / 2 ^ bitAt i % 2 != 0
def flagK (v : Int) (k : Nat) : Nat → Bool := fun i => if i < k then flagL v i else false
theorem and_1 {x : Int} (hx : 0 ≤ x ∧ x ≤ 4294967295) : bits .and .u32 x 1 = x % 2 := by
  obtain ⟨X, rfl⟩ := Int.eq_ofNat_of_zero_le hx.1
  have := u32_and_nat X 1 (by omega) (by decide)
  rw [show (1 : Int) = ((1 : Nat) : Int) from rfl, this, show (1 : Nat) = 2 ^ 1 - 1 by decide, Nat.and_two_pow_sub_one_eq_mod]
  omega
theorem rFlags_any (v : Int) (hv : 0 ≤ v ∧ v ≤ 4294967295) (w : World) : Calls Tryd.prog 19 #[.int .u32 v] w fun e w' => e = .returned (flV (flagL v)) ∧ Below w.heap.size w w' := by
  have h0 := and_1 hv
  have h1 := and_1 (x := v / 4) (by omega)
  have h2 := and_1 (x := v / 16) (by omega)
  have h3 := and_1 (x := v / 64) (by omega)
  have h4 := and_1 (x := v / 128) (by omega)
  have h5 := and_1 (x := v / 2048) (by omega)
  go_enter Tryd.func19, Tryd.ntmps19
  go_wp2
  refine bodyPost_ret (v := flV (flagL v)) (by simp [results, Tryd.results19, go_sem, flagL, bitAt, bne]) rfl ⟨rfl, ?_⟩
  exact (Below.refl _ _).alloc (Nat.le_refl _) _
theorem field_bit {v : Int} (hv : 0 ≤ v ∧ v ≤ 4294967295) (n : Nat) (hn : n ≤ 31) : fieldS v n 1 = v / 2 ^ n % 2 := by
  unfold fieldS mov
  rw [if_pos (by omega), show ((n : Int)).toNat = n by omega, show min n 32 = n by omega, show held0 1 = 1 from rfl]
  rfl
theorem ixt_0 (W : World) : (Instr.index 64 (.agg #[.int .i64 0, .int .i64 2, .int .i64 4, .int .i64 6, .int .i64 7, .int .i64 11]) (.int .i64 0)).run Tryd.prog W = .ok (.int .i64 0) W := by kernel_rfl
theorem ixt_1 (W : World) : (Instr.index 64 (.agg #[.int .i64 0, .int .i64 2, .int .i64 4, .int .i64 6, .int .i64 7, .int .i64 11]) (.int .i64 1)).run Tryd.prog W = .ok (.int .i64 2) W := by kernel_rfl
theorem ixt_2 (W : World) : (Instr.index 64 (.agg #[.int .i64 0, .int .i64 2, .int .i64 4, .int .i64 6, .int .i64 7, .int .i64 11]) (.int .i64 2)).run Tryd.prog W = .ok (.int .i64 4) W := by kernel_rfl
theorem ixt_3 (W : World) : (Instr.index 64 (.agg #[.int .i64 0, .int .i64 2, .int .i64 4, .int .i64 6, .int .i64 7, .int .i64 11]) (.int .i64 3)).run Tryd.prog W = .ok (.int .i64 6) W := by kernel_rfl
theorem ixt_4 (W : World) : (Instr.index 64 (.agg #[.int .i64 0, .int .i64 2, .int .i64 4, .int .i64 6, .int .i64 7, .int .i64 11]) (.int .i64 4)).run Tryd.prog W = .ok (.int .i64 7) W := by kernel_rfl
theorem ixt_5 (W : World) : (Instr.index 64 (.agg #[.int .i64 0, .int .i64 2, .int .i64 4, .int .i64 6, .int .i64 7, .int .i64 11]) (.int .i64 5)).run Tryd.prog W = .ok (.int .i64 11) W := by kernel_rfl
theorem fld_0 {v : Int} (hv : 0 ≤ v ∧ v ≤ 4294967295) (w : World) : Calls Tryd.prog 35 #[.int .u32 v, .int .i64 0, .int .i64 1] w fun e w' => e = .returned (.int .u32 (v / 2 ^ bitAt 0 % 2)) ∧ w = w' := by
  have e : fieldS v 0 1 = v / 2 ^ bitAt 0 % 2 := field_bit hv 0 (by decide)
  have := field_any v 0 1 hv (by decide) w
  rw [e] at this
  exact this
theorem fld_1 {v : Int} (hv : 0 ≤ v ∧ v ≤ 4294967295) (w : World) : Calls Tryd.prog 35 #[.int .u32 v, .int .i64 2, .int .i64 1] w fun e w' => e = .returned (.int .u32 (v / 2 ^ bitAt 1 % 2)) ∧ w = w' := by
  have e : fieldS v 2 1 = v / 2 ^ bitAt 1 % 2 := field_bit hv 2 (by decide)
  have := field_any v 2 1 hv (by decide) w
  rw [e] at this
  exact this
theorem fld_2 {v : Int} (hv : 0 ≤ v ∧ v ≤ 4294967295) (w : World) : Calls Tryd.prog 35 #[.int .u32 v, .int .i64 4, .int .i64 1] w fun e w' => e = .returned (.int .u32 (v / 2 ^ bitAt 2 % 2)) ∧ w = w' := by
  have e : fieldS v 4 1 = v / 2 ^ bitAt 2 % 2 := field_bit hv 4 (by decide)
  have := field_any v 4 1 hv (by decide) w
  rw [e] at this
  exact this
theorem fld_3 {v : Int} (hv : 0 ≤ v ∧ v ≤ 4294967295) (w : World) : Calls Tryd.prog 35 #[.int .u32 v, .int .i64 6, .int .i64 1] w fun e w' => e = .returned (.int .u32 (v / 2 ^ bitAt 3 % 2)) ∧ w = w' := by
  have e : fieldS v 6 1 = v / 2 ^ bitAt 3 % 2 := field_bit hv 6 (by decide)
  have := field_any v 6 1 hv (by decide) w
  rw [e] at this
  exact this
theorem fld_4 {v : Int} (hv : 0 ≤ v ∧ v ≤ 4294967295) (w : World) : Calls Tryd.prog 35 #[.int .u32 v, .int .i64 7, .int .i64 1] w fun e w' => e = .returned (.int .u32 (v / 2 ^ bitAt 4 % 2)) ∧ w = w' := by
  have e : fieldS v 7 1 = v / 2 ^ bitAt 4 % 2 := field_bit hv 7 (by decide)
  have := field_any v 7 1 hv (by decide) w
  rw [e] at this
  exact this
theorem fld_5 {v : Int} (hv : 0 ≤ v ∧ v ≤ 4294967295) (w : World) : Calls Tryd.prog 35 #[.int .u32 v, .int .i64 11, .int .i64 1] w fun e w' => e = .returned (.int .u32 (v / 2 ^ bitAt 5 % 2)) ∧ w = w' := by
  have e : fieldS v 11 1 = v / 2 ^ bitAt 5 % 2 := field_bit hv 11 (by decide)
  have := field_any v 11 1 hv (by decide) w
  rw [e] at this
  exact this
theorem Flags_any (v : Int) (hv : 0 ≤ v ∧ v ≤ 4294967295) (w : World) (tabs : Tabs w) : Calls Tryd.prog 18 #[.int .u32 v] w fun e w' => e = .returned (flV (flagL v)) ∧ Below w.heap.size w w' := by
  have kb : Below w.heap.size w ((w.alloc (.cells (fl6 fun _ => false) 25)).alloc (.cells (fl6 fun _ => false) 61)) := ((Below.refl _ _).alloc (Nat.le_refl _) _).alloc (by simp) _
  obtain ⟨hs, t0, t1, t2, t3, t4, t5⟩ := tabs.below kb
  have kR := (Blk.new w 25 (fl6 fun _ => false)).alloc (.cells (fl6 fun _ => false) 61)
  have kF := Blk.new (w.alloc (.cells (fl6 fun _ => false) 25)) 61 (fl6 (flagK v 0))
  rw [World.size_alloc] at kF
  go_enter Tryd.func18, Tryd.ntmps18
  go_wp2_with fail
  clear t0 t1 t2 t3 t4 t5 hs tabs
  generalize hN : w.heap.size = N at *
  go_loopw [7] (fun ii W => ∃ k : Nat, k ≤ 6 ∧ ii = .int .i64 k ∧ Blk W N 25 (fl6 fun _ => false) ∧ Blk W (N + 1) 61 (fl6 (flagK v k)) ∧ Below N w W) (fun ii _ => (6 - intOf ii).toNat)
  case atStart => exact ⟨0, by omega, rfl, kR, kF, kb⟩
  case round =>
    clear kR kF kb
    obtain ⟨k, hk, hi, kR, kF, kb⟩ := hrel
    by_cases h0 : k = 0
    · subst h0
      obtain rfl : _ = Value.int .i64 0 := hi
      have q := kF.cell (i := 0) (v := .bool false) rfl
      have p := kF.fr 0
      have hf := fld_0 hv
      have hix := ixt_0 wr
      go_wp2_with (first | (with_reducible refine (hf _).mono ?_; rintro e w' ⟨rfl, rfl⟩))
      go_roundw
      case rel => exact ⟨1, by omega, by go_num, kR.other _ _ (by omega), kF.set _ _, kb.setCell (by simp) _⟩
      case measure => simp [intOf]
    by_cases h1 : k = 1
    · subst h1
      obtain rfl : _ = Value.int .i64 1 := hi
      have q := kF.cell (i := 1) (v := .bool false) rfl
      have p := kF.fr 1
      have hf := fld_1 hv
      have hix := ixt_1 wr
      go_wp2_with (first | (with_reducible refine (hf _).mono ?_; rintro e w' ⟨rfl, rfl⟩))
      go_roundw
      case rel => exact ⟨2, by omega, by go_num, kR.other _ _ (by omega), kF.set _ _, kb.setCell (by simp) _⟩
      case measure => simp [intOf]
    by_cases h2 : k = 2
    · subst h2
      obtain rfl : _ = Value.int .i64 2 := hi
      have q := kF.cell (i := 2) (v := .bool false) rfl
      have p := kF.fr 2
      have hf := fld_2 hv
      have hix := ixt_2 wr
      go_wp2_with (first | (with_reducible refine (hf _).mono ?_; rintro e w' ⟨rfl, rfl⟩))
      go_roundw
      case rel => exact ⟨3, by omega, by go_num, kR.other _ _ (by omega), kF.set _ _, kb.setCell (by simp) _⟩
      case measure => simp [intOf]
    by_cases h3 : k = 3
    · subst h3
      obtain rfl : _ = Value.int .i64 3 := hi
      have q := kF.cell (i := 3) (v := .bool false) rfl
      have p := kF.fr 3
      have hf := fld_3 hv
      have hix := ixt_3 wr
      go_wp2_with (first | (with_reducible refine (hf _).mono ?_; rintro e w' ⟨rfl, rfl⟩))
      go_roundw
      case rel => exact ⟨4, by omega, by go_num, kR.other _ _ (by omega), kF.set _ _, kb.setCell (by simp) _⟩
      case measure => simp [intOf]
    by_cases h4 : k = 4
    · subst h4
      obtain rfl : _ = Value.int .i64 4 := hi
      have q := kF.cell (i := 4) (v := .bool false) rfl
      have p := kF.fr 4
      have hf := fld_4 hv
      have hix := ixt_4 wr
      go_wp2_with (first | (with_reducible refine (hf _).mono ?_; rintro e w' ⟨rfl, rfl⟩))
      go_roundw
      case rel => exact ⟨5, by omega, by go_num, kR.other _ _ (by omega), kF.set _ _, kb.setCell (by simp) _⟩
      case measure => simp [intOf]
    by_cases h5 : k = 5
    · subst h5
      obtain rfl : _ = Value.int .i64 5 := hi
      have q := kF.cell (i := 5) (v := .bool false) rfl
      have p := kF.fr 5
      have hf := fld_5 hv
      have hix := ixt_5 wr
      go_wp2_with (first | (with_reducible refine (hf _).mono ?_; rintro e w' ⟨rfl, rfl⟩))
      go_roundw
      case rel => exact ⟨6, by omega, by go_num, kR.other _ _ (by omega), kF.set _ _, kb.setCell (by simp) _⟩
      case measure => simp [intOf]
    obtain rfl : k = 6 := by omega
    obtain rfl : _ = Value.int .i64 6 := hi
    have f0 := kF.cell (i := 0) (v := .bool (flagL v 0)) rfl
    have f1 := kF.cell (i := 1) (v := .bool (flagL v 1)) rfl
    have f2 := kF.cell (i := 2) (v := .bool (flagL v 2)) rfl
    have f3 := kF.cell (i := 3) (v := .bool (flagL v 3)) rfl
    have f4 := kF.cell (i := 4) (v := .bool (flagL v 4)) rfl
    have f5 := kF.cell (i := 5) (v := .bool (flagL v 5)) rfl
    have hun := unlisted_any (flagL v) wr
    have hs3 : (Tryd.prog.info? 25).map (·.size) = some (fl6 (flagL v)).size := sz6f
    have hag : flV (flagL v) = Value.agg (fl6 (flagL v)) := rfl
    rw [hag] at hun
    go_wp2_with (first | (with_reducible refine hun.mono ?_; rintro e w2 ⟨rfl, b2⟩; have kR2 := kR.below b2 kR.lt; have kG := kR2.row (fl6 (flagL v)); have kH := below_rowNew (kb.trans (b2.mono (by have := kF.lt; omega))) (Nat.le_refl N) (fl6 (flagL v))) | with_reducible refine wpList_store_row rfl 25 _ _ rfl N _ rfl rfl 25 _ kR2.h hs3 rfl (by simp [Value.oneCell']) ?_)
    exact bodyPost_ret (v := Value.agg (fl6 (flagL v))) (results_cell_row rfl _ _ N 25 _ (0, 0) _ rfl kG.h Tryd.underlying25 rfl hs3) rfl ⟨rfl, by rw [hN]; exact kH⟩
end Go.Proofs.YtgamghmeefoopaaDoor
