import Derived.Test.YtbnocincfecmpaaDoorT2
import Derived.Test.YtbnocincfecmpaaDoorC4
namespace Go.Proofs.YtbnocincfecmpaaDoor
open Go.RowKit
set_option linter.unusedVariables false
set_option linter.unusedSimpArgs false
set_option linter.unusedSectionVars false

theorem text_any (op d s t i : Int) (hi : -2147483648 ≤ i ∧ i ≤ 2147483647) (w : World) (tabs : Tabs w) :
    Calls Tryd.prog 22 #[wordV op d s t i] w fun e w' => e = .returned (.string (bs (textL op d s t i))) ∧ Below w.heap.size w w' := by
  unfold textL
  cases hl : isL op d s t i with
  | false => exact text_out op d s t i hl w tabs
  | true =>
    have hl' := hl
    unfold isL at hl'
    simp only [Bool.and_eq_true, decide_eq_true_eq] at hl'
    obtain ⟨⟨g1, g2⟩, g3⟩ := hl'
    obtain ⟨k, rfl⟩ : ∃ k : Nat, op = k := ⟨op.toNat, by omega⟩
    rw [if_pos rfl]
    rw [Int.toNat_natCast] at g3 ⊢
    exact text_in k (by omega) (by omega) d s t i g3 hi w tabs
theorem k_e1 (w : World) (tabs : Tabs w) : Calls Tryd.prog 19 #[wordV 19 0 0 0 0] w fun e w' => e = .returned (.tuple #[.int .u32 19, .int .i64 0]) ∧ Below w.heap.size w w' := enc_any 19 0 0 0 0 w tabs
theorem k_e2 (w : World) (tabs : Tabs w) : Calls Tryd.prog 19 #[wordV 18 0 2 1 (-4)] w fun e w' => e = .returned (.tuple #[.int .u32 4262538787, .int .i64 0]) ∧ Below w.heap.size w w' := enc_any 18 0 2 1 (-4) w tabs
theorem k_e3 (w : World) (tabs : Tabs w) : Calls Tryd.prog 19 #[wordV 19 0 0 0 2048] w fun e w' => e = .returned (.tuple #[.int .u32 0, .int .i64 12]) ∧ Below w.heap.size w w' := enc_any 19 0 0 0 2048 w tabs
theorem k_d1 (w : World) (tabs : Tabs w) : Calls Tryd.prog 40 #[.int .u32 4262538787] w fun e w' => e = .returned (.tuple #[wordV 18 0 2 1 (-4), .bool true]) ∧ Below w.heap.size w w' := dec_any 4262538787 (by decide) w tabs
theorem k_d2 (w : World) (tabs : Tabs w) : Calls Tryd.prog 40 #[.int .u32 0] w fun e w' => e = .returned (.tuple #[wordV 0 0 0 0 0, .bool false]) ∧ Below w.heap.size w w' := dec_any 0 (by decide) w tabs
theorem k_is (w : World) (tabs : Tabs w) : Calls Tryd.prog 20 #[wordV 18 0 2 1 (-4)] w fun e w' => e = .returned (.bool true) ∧ Below w.heap.size w w' := is_any 18 0 2 1 (-4) w tabs
theorem itoa_small (n : Nat) (h : n < 10) : Lib.itoa (n : Int) = [UInt8.ofNat (48 + n)] := by
  unfold Lib.itoa
  rw [if_neg (by omega), Int.toNat_natCast, Lib.decDigits_one h]
theorem itoa_m4 : Lib.itoa (-4) = [45, 52] := by
  unfold Lib.itoa
  rw [if_pos (by decide), show (-4 : Int).natAbs = 4 by decide, Lib.decDigits_one (by decide)]
  rfl
theorem k_tx : textL 18 0 2 1 (-4) = [115, 119, 32, 120, 49, 44, 45, 52, 40, 120, 50, 41] := by
  have h1 : Lib.itoa 1 = [49] := itoa_small 1 (by decide)
  have h2 : Lib.itoa 2 = [50] := itoa_small 2 (by decide)
  have hi : isL 18 0 2 1 (-4) = true := by decide
  have e : textL 18 0 2 1 (-4) = [115, 119] ++ [32] ++ ((120 :: Lib.itoa 1) ++ ([44] ++ (Lib.itoa (-4) ++ ([40] ++ ((120 :: Lib.itoa 2) ++ ([41] ++ [])))))) := by
    unfold textL
    rw [if_pos hi]
    rfl
  rw [e, h1, h2, itoa_m4]
  rfl
theorem k_t (w : World) (tabs : Tabs w) : Calls Tryd.prog 22 #[wordV 18 0 2 1 (-4)] w fun e w' => e = .returned (.string ⟨#[115, 119, 32, 120, 49, 44, 45, 52, 40, 120, 50, 41]⟩) ∧ Below w.heap.size w w' := by
  have := text_any 18 0 2 1 (-4) (by decide) w tabs
  rw [k_tx] at this
  exact this
set_option maxHeartbeats 2000000 in
theorem known_any (w : World) (tabs : Tabs w) : Calls Tryd.prog 18 #[] w fun e w' => e = .returned (.bool true) ∧ Below w.heap.size w w' := by
  go_enter Tryd.func18, Tryd.ntmps18
  go_wp2_with fail
  refine (k_e1 _ tabs).mono ?_
  rintro e w1 ⟨rfl, b1⟩
  replace tabs := tabs.below b1
  go_wp2_with fail
  refine (k_e2 _ tabs).mono ?_
  rintro e w2 ⟨rfl, b2⟩
  replace tabs := tabs.below b2
  replace b1 := b1.trans (b2.mono b1.size)
  clear b2
  go_wp2_with fail
  refine (k_d1 _ tabs).mono ?_
  rintro e w2 ⟨rfl, b2⟩
  replace tabs := tabs.below b2
  replace b1 := b1.trans (b2.mono b1.size)
  clear b2
  go_wp2_with fail
  replace tabs := tabs.below ((Below.refl _ _).alloc (Nat.le_refl _) (.cells #[.int .i64 18, .int .i64 0, .int .i64 2, .int .i64 1, .int .i32 (-4)] 37))
  replace b1 := b1.alloc b1.size (.cells #[.int .i64 18, .int .i64 0, .int .i64 2, .int .i64 1, .int .i32 (-4)] 37)
  refine (k_d2 _ tabs).mono ?_
  rintro e w3 ⟨rfl, b2⟩
  have b3 := b2
  replace tabs := tabs.below b2
  replace b1 := b1.trans (b2.mono b1.size)
  clear b2
  go_wp2_with fail
  replace tabs := tabs.below ((Below.refl _ _).alloc (Nat.le_refl _) zeroW)
  replace b1 := b1.alloc b1.size zeroW
  replace b3 := b3.alloc b3.size zeroW
  refine (k_e3 _ tabs).mono ?_
  rintro e w4 ⟨rfl, b2⟩
  replace tabs := tabs.below b2
  replace b1 := b1.trans (b2.mono b1.size)
  replace b3 := b3.trans (b2.mono b3.size)
  clear b2
  have c0 : w4.cell? ⟨w2.heap.size, 0, none⟩ = some (.int .i64 18) := own_cell b3 0 _ rfl
  have c1 : w4.cell? ⟨w2.heap.size, 1, none⟩ = some (.int .i64 0) := own_cell b3 1 _ rfl
  have c2 : w4.cell? ⟨w2.heap.size, 2, none⟩ = some (.int .i64 2) := own_cell b3 2 _ rfl
  have c3 : w4.cell? ⟨w2.heap.size, 3, none⟩ = some (.int .i64 1) := own_cell b3 3 _ rfl
  have c4 : w4.cell? ⟨w2.heap.size, 4, none⟩ = some (.int .i32 (-4)) := own_cell b3 4 _ rfl
  go_wp2_with fail
  refine (k_t _ tabs).mono ?_
  rintro e w5 ⟨rfl, b2⟩
  replace tabs := tabs.below b2
  replace b1 := b1.trans (b2.mono b1.size)
  replace b3 := b3.trans (b2.mono b3.size)
  clear b2 c0 c1 c2 c3 c4
  have c0 : w5.cell? ⟨w2.heap.size, 0, none⟩ = some (.int .i64 18) := own_cell b3 0 _ rfl
  have c1 : w5.cell? ⟨w2.heap.size, 1, none⟩ = some (.int .i64 0) := own_cell b3 1 _ rfl
  have c2 : w5.cell? ⟨w2.heap.size, 2, none⟩ = some (.int .i64 2) := own_cell b3 2 _ rfl
  have c3 : w5.cell? ⟨w2.heap.size, 3, none⟩ = some (.int .i64 1) := own_cell b3 3 _ rfl
  have c4 : w5.cell? ⟨w2.heap.size, 4, none⟩ = some (.int .i32 (-4)) := own_cell b3 4 _ rfl
  go_wp2_with fail
  refine (k_is _ tabs).mono ?_
  rintro e w6 ⟨rfl, b2⟩
  replace b1 := b1.trans (b2.mono b1.size)
  go_wp2_with fail
  go_ret
  exact ⟨rfl, b1⟩
end Go.Proofs.YtbnocincfecmpaaDoor
