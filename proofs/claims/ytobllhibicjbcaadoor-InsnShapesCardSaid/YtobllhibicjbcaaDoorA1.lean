/- Sets of flags; classes of operations. -/
import Derived.Test.YtobllhibicjbcaaDoorLaid
import Derived.Test.YtobllhibicjbcaaDoorB0
import Derived.Test.YtobllhibicjbcaaDoorBits
import Derived.Lib.Hide
import Derived.Deep.CutRange
import Derived.Deep.RegionHeld
namespace Go.Proofs.YtobllhibicjbcaaDoor
open Go.RowKit
set_option linter.unusedVariables false
set_option linter.unusedSimpArgs false
set_option linter.unusedSectionVars false

abbrev fl6 (f : Nat → Bool) : Array Value := #[.bool (f 0), .bool (f 1), .bool (f 2), .bool (f 3), .bool (f 4), .bool (f 5)]
abbrev flV (f : Nat → Bool) : Value := .agg #[.bool (f 0), .bool (f 1), .bool (f 2), .bool (f 3), .bool (f 4), .bool (f 5)]
/-- f with the flags of a set as they are in g. -/
def mixL (s f g : Nat → Bool) : Nat → Bool := fun i => bif s i then g i else f i
/-- The same of the lowest n alone. -/
def mixN (n : Nat) (s f g : Nat → Bool) : Nat → Bool := fun i => bif decide (i < n) then (bif s i then g i else f i) else f i

set_option maxHeartbeats 2000000 in
theorem replaced_any (f g s : Nat → Bool) (w : World) : Calls Tryd.prog 26 #[flV f, flV g, flV s] w fun e w' => e = .returned (flV (mixL s f g)) ∧ Below w.heap.size w w' := by
  go_enter Tryd.func26, Tryd.ntmps26
  go_upto_if 8 with fail

  go_cut [] from 7 to 11 (fun W => W = ((((w.alloc (.cells #[.bool (bif s 0 then g 0 else f 0), .bool (f 1), .bool (f 2), .bool (f 3), .bool (f 4), .bool (f 5)] 44)).alloc (.cells (fl6 g) 44)).alloc (.cells (fl6 s) 44)).alloc (.cells #[.bool false, .bool false, .bool false, .bool false, .bool false, .bool false] 44)))
  case first =>
    cases hs0 : s 0
    · go_wp2
      go_meet
      simp [hs0, fl6]
    · go_wp2
      go_meet
      simp [hs0, fl6]
  case rest =>
  subst hcut
  go_upto_if 13 with fail
  go_cut [] from 12 to 16 (fun W => W = ((((w.alloc (.cells #[.bool (bif s 0 then g 0 else f 0), .bool (bif s 1 then g 1 else f 1), .bool (f 2), .bool (f 3), .bool (f 4), .bool (f 5)] 44)).alloc (.cells (fl6 g) 44)).alloc (.cells (fl6 s) 44)).alloc (.cells #[.bool false, .bool false, .bool false, .bool false, .bool false, .bool false] 44)))
  case first =>
    cases hs1 : s 1
    · go_wp2
      go_meet
      simp [hs1, fl6]
    · go_wp2
      go_meet
      simp [hs1, fl6]
  case rest =>
  subst hcut
  go_upto_if 18 with fail
  go_cut [] from 17 to 21 (fun W => W = ((((w.alloc (.cells #[.bool (bif s 0 then g 0 else f 0), .bool (bif s 1 then g 1 else f 1), .bool (bif s 2 then g 2 else f 2), .bool (f 3), .bool (f 4), .bool (f 5)] 44)).alloc (.cells (fl6 g) 44)).alloc (.cells (fl6 s) 44)).alloc (.cells #[.bool false, .bool false, .bool false, .bool false, .bool false, .bool false] 44)))
  case first =>
    cases hs2 : s 2
    · go_wp2
      go_meet
      simp [hs2, fl6]
    · go_wp2
      go_meet
      simp [hs2, fl6]
  case rest =>
  subst hcut
  go_upto_if 23 with fail
  go_cut [] from 22 to 26 (fun W => W = ((((w.alloc (.cells #[.bool (bif s 0 then g 0 else f 0), .bool (bif s 1 then g 1 else f 1), .bool (bif s 2 then g 2 else f 2), .bool (bif s 3 then g 3 else f 3), .bool (f 4), .bool (f 5)] 44)).alloc (.cells (fl6 g) 44)).alloc (.cells (fl6 s) 44)).alloc (.cells #[.bool false, .bool false, .bool false, .bool false, .bool false, .bool false] 44)))
  case first =>
    cases hs3 : s 3
    · go_wp2
      go_meet
      simp [hs3, fl6]
    · go_wp2
      go_meet
      simp [hs3, fl6]
  case rest =>
  subst hcut
  go_upto_if 28 with fail
  go_cut [] from 27 to 31 (fun W => W = ((((w.alloc (.cells #[.bool (bif s 0 then g 0 else f 0), .bool (bif s 1 then g 1 else f 1), .bool (bif s 2 then g 2 else f 2), .bool (bif s 3 then g 3 else f 3), .bool (bif s 4 then g 4 else f 4), .bool (f 5)] 44)).alloc (.cells (fl6 g) 44)).alloc (.cells (fl6 s) 44)).alloc (.cells #[.bool false, .bool false, .bool false, .bool false, .bool false, .bool false] 44)))
  case first =>
    cases hs4 : s 4
    · go_wp2
      go_meet
      simp [hs4, fl6]
    · go_wp2
      go_meet
      simp [hs4, fl6]
  case rest =>
  subst hcut
  go_upto_if 33 with fail
  go_cut [] from 32 to 36 (fun W => W = ((((w.alloc (.cells #[.bool (bif s 0 then g 0 else f 0), .bool (bif s 1 then g 1 else f 1), .bool (bif s 2 then g 2 else f 2), .bool (bif s 3 then g 3 else f 3), .bool (bif s 4 then g 4 else f 4), .bool (bif s 5 then g 5 else f 5)] 44)).alloc (.cells (fl6 g) 44)).alloc (.cells (fl6 s) 44)).alloc (.cells #[.bool false, .bool false, .bool false, .bool false, .bool false, .bool false] 44)))
  case first =>
    cases hs5 : s 5
    · go_wp2
      go_meet
      simp [hs5, fl6]
    · go_wp2
      go_meet
      simp [hs5, fl6]
  case rest =>
  subst hcut
  go_wp2
  refine bodyPost_ret (v := flV (mixL s f g)) (by simp [results, Tryd.results26, go_sem, mixL]) rfl ⟨rfl, ?_⟩
  exact ((((Below.refl _ _).alloc (Nat.le_refl _) _).alloc (by simp) _).alloc (by simp; omega) _).alloc (by simp; omega) _
theorem classOf_3 (w : World) : Calls Tryd.prog 22 #[.int .i64 3] w fun e w' => e = .returned (.int .i64 ((1 : Nat) : Int)) ∧ w = w' := by
  go_enter Tryd.func22, Tryd.ntmps22
  go_wp2
  go_ret
  exact ⟨rfl, rfl⟩
theorem classOf_4 (w : World) : Calls Tryd.prog 22 #[.int .i64 4] w fun e w' => e = .returned (.int .i64 ((1 : Nat) : Int)) ∧ w = w' := by
  go_enter Tryd.func22, Tryd.ntmps22
  go_wp2
  go_ret
  exact ⟨rfl, rfl⟩
theorem classOf_5 (w : World) : Calls Tryd.prog 22 #[.int .i64 5] w fun e w' => e = .returned (.int .i64 ((2 : Nat) : Int)) ∧ w = w' := by
  go_enter Tryd.func22, Tryd.ntmps22
  go_wp2
  go_ret
  exact ⟨rfl, rfl⟩
theorem classOf_6 (w : World) : Calls Tryd.prog 22 #[.int .i64 6] w fun e w' => e = .returned (.int .i64 ((2 : Nat) : Int)) ∧ w = w' := by
  go_enter Tryd.func22, Tryd.ntmps22
  go_wp2
  go_ret
  exact ⟨rfl, rfl⟩
theorem classOf_7 (w : World) : Calls Tryd.prog 22 #[.int .i64 7] w fun e w' => e = .returned (.int .i64 ((1 : Nat) : Int)) ∧ w = w' := by
  go_enter Tryd.func22, Tryd.ntmps22
  go_wp2
  go_ret
  exact ⟨rfl, rfl⟩
theorem classOf_8 (w : World) : Calls Tryd.prog 22 #[.int .i64 8] w fun e w' => e = .returned (.int .i64 ((1 : Nat) : Int)) ∧ w = w' := by
  go_enter Tryd.func22, Tryd.ntmps22
  go_wp2
  go_ret
  exact ⟨rfl, rfl⟩
theorem classOf_9 (w : World) : Calls Tryd.prog 22 #[.int .i64 9] w fun e w' => e = .returned (.int .i64 ((1 : Nat) : Int)) ∧ w = w' := by
  go_enter Tryd.func22, Tryd.ntmps22
  go_wp2
  go_ret
  exact ⟨rfl, rfl⟩
theorem classOf_10 (w : World) : Calls Tryd.prog 22 #[.int .i64 10] w fun e w' => e = .returned (.int .i64 ((1 : Nat) : Int)) ∧ w = w' := by
  go_enter Tryd.func22, Tryd.ntmps22
  go_wp2
  go_ret
  exact ⟨rfl, rfl⟩
theorem classOf_11 (w : World) : Calls Tryd.prog 22 #[.int .i64 11] w fun e w' => e = .returned (.int .i64 ((1 : Nat) : Int)) ∧ w = w' := by
  go_enter Tryd.func22, Tryd.ntmps22
  go_wp2
  go_ret
  exact ⟨rfl, rfl⟩
theorem classOf_12 (w : World) : Calls Tryd.prog 22 #[.int .i64 12] w fun e w' => e = .returned (.int .i64 ((3 : Nat) : Int)) ∧ w = w' := by
  go_enter Tryd.func22, Tryd.ntmps22
  go_wp2
  go_ret
  exact ⟨rfl, rfl⟩
theorem classOf_13 (w : World) : Calls Tryd.prog 22 #[.int .i64 13] w fun e w' => e = .returned (.int .i64 ((3 : Nat) : Int)) ∧ w = w' := by
  go_enter Tryd.func22, Tryd.ntmps22
  go_wp2
  go_ret
  exact ⟨rfl, rfl⟩
theorem classOf_14 (w : World) : Calls Tryd.prog 22 #[.int .i64 14] w fun e w' => e = .returned (.int .i64 ((0 : Nat) : Int)) ∧ w = w' := by
  go_enter Tryd.func22, Tryd.ntmps22
  go_wp2
  go_ret
  exact ⟨rfl, rfl⟩
theorem classOf_15 (w : World) : Calls Tryd.prog 22 #[.int .i64 15] w fun e w' => e = .returned (.int .i64 ((1 : Nat) : Int)) ∧ w = w' := by
  go_enter Tryd.func22, Tryd.ntmps22
  go_wp2
  go_ret
  exact ⟨rfl, rfl⟩
theorem classOf_16 (w : World) : Calls Tryd.prog 22 #[.int .i64 16] w fun e w' => e = .returned (.int .i64 ((6 : Nat) : Int)) ∧ w = w' := by
  go_enter Tryd.func22, Tryd.ntmps22
  go_wp2
  go_ret
  exact ⟨rfl, rfl⟩
theorem classOf_17 (w : World) : Calls Tryd.prog 22 #[.int .i64 17] w fun e w' => e = .returned (.int .i64 ((6 : Nat) : Int)) ∧ w = w' := by
  go_enter Tryd.func22, Tryd.ntmps22
  go_wp2
  go_ret
  exact ⟨rfl, rfl⟩
theorem classOf_18 (w : World) : Calls Tryd.prog 22 #[.int .i64 18] w fun e w' => e = .returned (.int .i64 ((6 : Nat) : Int)) ∧ w = w' := by
  go_enter Tryd.func22, Tryd.ntmps22
  go_wp2
  go_ret
  exact ⟨rfl, rfl⟩
theorem classOf_21 (w : World) : Calls Tryd.prog 22 #[.int .i64 21] w fun e w' => e = .returned (.int .i64 ((5 : Nat) : Int)) ∧ w = w' := by
  go_enter Tryd.func22, Tryd.ntmps22
  go_wp2
  go_ret
  exact ⟨rfl, rfl⟩
theorem classOf_22 (w : World) : Calls Tryd.prog 22 #[.int .i64 22] w fun e w' => e = .returned (.int .i64 ((5 : Nat) : Int)) ∧ w = w' := by
  go_enter Tryd.func22, Tryd.ntmps22
  go_wp2
  go_ret
  exact ⟨rfl, rfl⟩
theorem classOf_23 (w : World) : Calls Tryd.prog 22 #[.int .i64 23] w fun e w' => e = .returned (.int .i64 ((4 : Nat) : Int)) ∧ w = w' := by
  go_enter Tryd.func22, Tryd.ntmps22
  go_wp2
  go_ret
  exact ⟨rfl, rfl⟩
theorem classOf_24 (w : World) : Calls Tryd.prog 22 #[.int .i64 24] w fun e w' => e = .returned (.int .i64 ((4 : Nat) : Int)) ∧ w = w' := by
  go_enter Tryd.func22, Tryd.ntmps22
  go_wp2
  go_ret
  exact ⟨rfl, rfl⟩
theorem classOf_25 (w : World) : Calls Tryd.prog 22 #[.int .i64 25] w fun e w' => e = .returned (.int .i64 ((4 : Nat) : Int)) ∧ w = w' := by
  go_enter Tryd.func22, Tryd.ntmps22
  go_wp2
  go_ret
  exact ⟨rfl, rfl⟩
theorem classOf_33 (w : World) : Calls Tryd.prog 22 #[.int .i64 33] w fun e w' => e = .returned (.int .i64 ((7 : Nat) : Int)) ∧ w = w' := by
  go_enter Tryd.func22, Tryd.ntmps22
  go_wp2
  go_ret
  exact ⟨rfl, rfl⟩
theorem classOf_34 (w : World) : Calls Tryd.prog 22 #[.int .i64 34] w fun e w' => e = .returned (.int .i64 ((7 : Nat) : Int)) ∧ w = w' := by
  go_enter Tryd.func22, Tryd.ntmps22
  go_wp2
  go_ret
  exact ⟨rfl, rfl⟩
theorem classOf_35 (w : World) : Calls Tryd.prog 22 #[.int .i64 35] w fun e w' => e = .returned (.int .i64 ((7 : Nat) : Int)) ∧ w = w' := by
  go_enter Tryd.func22, Tryd.ntmps22
  go_wp2
  go_ret
  exact ⟨rfl, rfl⟩
theorem ix_ef (b k : Nat) (h : k < 8) (W : World) : (Instr.indexAt 47 (.pointer (some ⟨b, 0, none⟩)) (.int .i64 (k : Int))).run Tryd.prog W = .ok (.pointer (some ⟨b, k * 12, none⟩)) W := by
  have s1 : ∀ W, (sizeOf 46).run Tryd.prog W = .ok 12 W := fun W => by kernel_rfl
  have hj : (k : Int) < 8 := by omega
  simp [Instr.indexAt, run_underlying Tryd.underlying47, s1, go_sem, hj, h, Instr.sureAddr]
end Go.Proofs.YtobllhibicjbcaaDoor
