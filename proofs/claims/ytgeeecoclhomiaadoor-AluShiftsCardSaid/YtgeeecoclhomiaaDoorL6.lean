/- AluShifts. -/
import Derived.Test.YtgeeecoclhomiaaDoorKB
import Derived.Test.YtgeeecoclhomiaaDoorP2
import Derived.Test.YtgeeecoclhomiaaDoorA6
namespace Go.Proofs.YtgeeecoclhomiaaDoor
open Go.RowKit
set_option linter.unusedVariables false
set_option linter.unusedSimpArgs false
set_option linter.unusedSectionVars false

theorem bit_form {a : Int} (h : 0 ≤ a ∧ a ≤ 4294967295) (k : Nat) : bitB a k = (bits .and .u32 (a / 2 ^ k) 1 == 1) := by
  obtain ⟨A, rfl⟩ := Int.eq_ofNat_of_zero_le h.1
  rw [at_bit (by omega) k]
  unfold bitB
  rw [← cast_pow2, ← Int.natCast_ediv, Bool.eq_iff_iff]
  simp only [bne_iff_ne, beq_iff_eq, ne_eq]
  omega
theorem shl_bd (a : Int) (k : Nat) : 0 ≤ a * 2 ^ k % 4294967296 ∧ a * 2 ^ k % 4294967296 ≤ 4294967295 := by omega
theorem sar_bd (a : Int) (k : Nat) : 0 ≤ wrap32 a / 2 ^ k % 4294967296 ∧ wrap32 a / 2 ^ k % 4294967296 ≤ 4294967295 := by omega
/-- The flags of a shift one by one. -/
theorem shG_at (k : Nat) (a r : Int) (last : Nat) (f : Nat → Bool) : shG 4 k a r last f 0 = bitB a last ∧ shG 4 k a r last f 1 = evenS r.toNat 8 ∧ shG 4 k a r last f 2 = f 2 ∧ shG 4 k a r last f 3 = (r == 0) ∧ shG 4 k a r last f 4 = bitB r 31 ∧ shG 4 k a r last f 5 = ofL k a r f :=
  ⟨rfl, rfl, rfl, rfl, rfl, rfl⟩
theorem of_more {k : Nat} (hk : k ≠ 1) (a r : Int) (f : Nat → Bool) : ofL k a r f = f 5 := if_neg hk

set_option maxRecDepth 100000 in
set_option maxHeartbeats 4000000 in
theorem shifts_more (a n : Int) (f : Nat → Bool) (h : 0 ≤ a ∧ a ≤ 4294967295) (hn : 0 ≤ n ∧ n ≤ 255) (k : Nat) (hk : 2 ≤ k ∧ k ≤ 31) (hkn : n % 31 + 1 = (k : Int)) (w : World) (tabs : Tabs w) :
    Calls Tryd.prog 11 #[.int .u32 a, .int .u8 n, flV f] w fun e w' => e = .returned (.bool true) ∧ Below w.heap.size w w' := by
  have hm : (k : Int) % 32 = (k : Int) := by omega
  have hdb := div_pow_bd (x := a) k h
  have qA := shift_shl a k f k (by omega) h (by omega) hm (shl_bd a k)
  have qB := shift_shr a k f k (by omega) h (by omega) hm hdb
  have qC := shift_sar a k f k (by omega) h (by omega) hm (sar_bd a k)
  have qD := shift_zero 23 a 32 f (by decide) (by decide)
  have rA := shl_bd a k
  have rC := sar_bd a k
  obtain ⟨a0, a1, a2, a3, a4, a5⟩ := shG_at k a (a * 2 ^ k % 4294967296) (32 - k) f
  obtain ⟨b0, b1, b2, b3, b4, b5⟩ := shG_at k a (a / 2 ^ k) (k - 1) f
  obtain ⟨c0, c1, c2, c3, c4, c5⟩ := shG_at k a (wrap32 a / 2 ^ k % 4294967296) (k - 1) f
  rw [of_more (by omega)] at a5 b5 c5
  rw [bit_form h] at a0 b0 c0
  generalize shG 4 k a (a * 2 ^ k % 4294967296) (32 - k) f = g at *
  generalize shG 4 k a (a / 2 ^ k) (k - 1) f = gh at *
  generalize shG 4 k a (wrap32 a / 2 ^ k % 4294967296) (k - 1) f = gi at *
  clear a1 a3 a4 b1 b2 b3 b4 c1 c2 c3 c4
  have hk0 : ((k : Int) == 1) = false := by simp; omega
  have hk1 : (0 : Int) ≤ (k : Int) := by omega
  have hk6 : ((k : Int) != 1) = true := by simp [bne, hk0]
  have hk7 : ¬ (k : Int) = 1 := by omega
  have hk2 : (k : Int) ≤ 31 := by omega
  have hk3 : (32 - (k : Int)).toNat = 32 - k := by omega
  have hk4 : ((k : Int) - 1).toNat = k - 1 := by omega
  have hk5 : (1 : Int) ≤ (k : Int) := by omega
  replace a0 := Lib.hid a0
  replace a2 := Lib.hid a2
  replace a5 := Lib.hid a5
  replace b0 := Lib.hid b0
  replace b5 := Lib.hid b5
  replace c0 := Lib.hid c0
  replace c5 := Lib.hid c5
  replace qA := Lib.hid qA
  replace qB := Lib.hid qB
  replace qC := Lib.hid qC
  replace qD := Lib.hid qD
  have hE : ∀ W, (Op.equalIn 9999 24 (.agg #[.bool (f 0), .bool (f 1), .bool (f 2), .bool (f 3), .bool (f 4), .bool (f 5)]) (.agg #[.bool (f 0), .bool (f 1), .bool (f 2), .bool (f 3), .bool (f 4), .bool (f 5)])).run Tryd.prog W = .ok true W := by
    intro W
    cases f 0 <;> cases f 1 <;> cases f 2 <;> cases f 3 <;> cases f 4 <;> cases f 5 <;> kernel_rfl
  have kb := (Below.refl w.heap.size w).alloc (Nat.le_refl _) (.cells (fl6 f) 24)
  replace tabs := tabs.below kb
  have hSB := kb.size
  have kF := Blk.new w 24 (fl6 f)
  go_enter Tryd.func11, Tryd.ntmps11
  go_wp2_with fail
  generalize w.alloc (.cells (fl6 f) 24) = w0 at kb tabs hSB kF ⊢
  generalize hN : w.heap.size = N at *
  refine (knownA _ tabs).mono ?_
  rintro e w1 ⟨rfl, bb⟩
  replace kF := kF.below bb kF.lt
  replace tabs := tabs.below bb
  replace kb := kb.trans (bb.mono hSB)
  replace hSB := Nat.le_trans hSB bb.size
  clear bb
  go_wp2_with (first | (with_reducible refine load_fl rfl _ rfl N f rfl kF ?_))
  refine (qA.out _ tabs).mono ?_
  rintro e w2 ⟨rfl, bb⟩
  replace kF := kF.below bb kF.lt
  replace tabs := tabs.below bb
  replace kb := kb.trans (bb.mono hSB)
  replace hSB := Nat.le_trans hSB bb.size
  clear bb
  go_wp2_with (first | (with_reducible refine load_fl rfl _ rfl N f rfl kF ?_) | ((with_reducible refine store_as rfl _ _ rfl (w0 := w2) (g) rfl rfl ?_); intro w3 kG bb; replace kF := kF.below bb kF.lt; replace tabs := tabs.below bb; replace kb := kb.trans (bb.mono hSB); replace hSB := Nat.le_trans hSB bb.size; clear bb))
  generalize w2.heap.size = BG at *
  refine (qB.out _ tabs).mono ?_
  rintro e w4 ⟨rfl, bb⟩
  replace kF := kF.below bb kF.lt
  replace kG := kG.below bb kG.lt
  replace tabs := tabs.below bb
  replace kb := kb.trans (bb.mono hSB)
  replace hSB := Nat.le_trans hSB bb.size
  clear bb
  go_wp2_with (first | (with_reducible refine load_fl rfl _ rfl N f rfl kF ?_) | ((with_reducible refine store_as rfl _ _ rfl (w0 := w4) (gh) rfl rfl ?_); intro w5 kH bb; replace kF := kF.below bb kF.lt; replace kG := kG.below bb kG.lt; replace tabs := tabs.below bb; replace kb := kb.trans (bb.mono hSB); replace hSB := Nat.le_trans hSB bb.size; clear bb))
  generalize w4.heap.size = BH at *
  refine (qC.out _ tabs).mono ?_
  rintro e w6 ⟨rfl, bb⟩
  replace kF := kF.below bb kF.lt
  replace kG := kG.below bb kG.lt
  replace kH := kH.below bb kH.lt
  replace tabs := tabs.below bb
  replace kb := kb.trans (bb.mono hSB)
  replace hSB := Nat.le_trans hSB bb.size
  clear bb
  go_wp2_with (first | (with_reducible refine load_fl rfl _ rfl N f rfl kF ?_) | ((with_reducible refine store_as rfl _ _ rfl (w0 := w6) (gi) rfl rfl ?_); intro w7 kI bb; replace kF := kF.below bb kF.lt; replace kG := kG.below bb kG.lt; replace kH := kH.below bb kH.lt; replace tabs := tabs.below bb; replace kb := kb.trans (bb.mono hSB); replace hSB := Nat.le_trans hSB bb.size; clear bb))
  generalize w6.heap.size = BI at *
  refine (qD.out _ tabs).mono ?_
  rintro e w8 ⟨rfl, bb⟩
  replace kF := kF.below bb kF.lt
  replace kG := kG.below bb kG.lt
  replace kH := kH.below bb kH.lt
  replace kI := kI.below bb kI.lt
  replace tabs := tabs.below bb
  replace kb := kb.trans (bb.mono hSB)
  replace hSB := Nat.le_trans hSB bb.size
  clear bb
  go_wp2_with (first | ((with_reducible refine store_as rfl _ _ rfl (w0 := w8) (f) rfl rfl ?_); intro w9 kJ bb; replace kF := kF.below bb kF.lt; replace kG := kG.below bb kG.lt; replace kH := kH.below bb kH.lt; replace kI := kI.below bb kI.lt; replace tabs := tabs.below bb; replace kb := kb.trans (bb.mono hSB); replace hSB := Nat.le_trans hSB bb.size; clear bb; have f0 := kF.cell (i := 0) (v := .bool (f 0)) rfl; have f1 := kF.cell (i := 1) (v := .bool (f 1)) rfl; have f2 := kF.cell (i := 2) (v := .bool (f 2)) rfl; have f3 := kF.cell (i := 3) (v := .bool (f 3)) rfl; have f4 := kF.cell (i := 4) (v := .bool (f 4)) rfl; have f5 := kF.cell (i := 5) (v := .bool (f 5)) rfl; have j0 := kJ.cell (i := 0) (v := .bool (f 0)) rfl; have j1 := kJ.cell (i := 1) (v := .bool (f 1)) rfl; have j2 := kJ.cell (i := 2) (v := .bool (f 2)) rfl; have j3 := kJ.cell (i := 3) (v := .bool (f 3)) rfl; have j4 := kJ.cell (i := 4) (v := .bool (f 4)) rfl; have j5 := kJ.cell (i := 5) (v := .bool (f 5)) rfl; have x0 := kG.cell (i := 0) (v := .bool (bits .and .u32 (a / 2 ^ (32 - k)) 1 == 1)) (congrArg (fun x => some (Value.bool x)) a0.out); have x2 := kG.cell (i := 2) (v := .bool (f 2)) (congrArg (fun x => some (Value.bool x)) a2.out); have x5 := kG.cell (i := 5) (v := .bool (f 5)) (congrArg (fun x => some (Value.bool x)) a5.out); have y0 := kH.cell (i := 0) (v := .bool (bits .and .u32 (a / 2 ^ (k - 1)) 1 == 1)) (congrArg (fun x => some (Value.bool x)) b0.out); have y5 := kH.cell (i := 5) (v := .bool (f 5)) (congrArg (fun x => some (Value.bool x)) b5.out); have z0 := kI.cell (i := 0) (v := .bool (bits .and .u32 (a / 2 ^ (k - 1)) 1 == 1)) (congrArg (fun x => some (Value.bool x)) c0.out); have z5 := kI.cell (i := 5) (v := .bool (f 5)) (congrArg (fun x => some (Value.bool x)) c5.out)))
  generalize w8.heap.size = BJ at *
  all_goals first | (go_ret; subst hN; exact ⟨rfl, kb⟩) | (exfalso; clear qA qB qC qD; simp_all; done)
end Go.Proofs.YtgeeecoclhomiaaDoor
