/- AluBits. -/
import Derived.Test.YtgeeecoclhomiaaDoorKB
import Derived.Test.YtgeeecoclhomiaaDoorP2
namespace Go.Proofs.YtgeeecoclhomiaaDoor
open Go.RowKit
set_option linter.unusedVariables false
set_option linter.unusedSimpArgs false
set_option linter.unusedSectionVars false

set_option maxRecDepth 100000 in
set_option maxHeartbeats 4000000 in
theorem bits_walk (a b t : Int) (f : Nat → Bool) (h : 0 ≤ a ∧ a ≤ 4294967295) (hb : 0 ≤ b ∧ b ≤ 4294967295) (ht : 0 ≤ t ∧ t ≤ 255) (w : World) (tabs : Tabs w) :
    Calls Tryd.prog 10 #[.int .u32 a, .int .u32 b, .int .u8 t, flV f] w fun e w' => e = .returned (.bool true) ∧ Below w.heap.size w w' := by
  obtain ⟨k, hk⟩ := Int.eq_ofNat_of_zero_le (show 0 ≤ t % 32 by omega)
  have hk32 : k < 32 := by omega
  have hx := and_bd h hb
  have hy := or_bd h hb
  have hz := xor_bd h hb
  have qA := fun W tabs => do_and a b f hx W tabs
  have qB := fun W tabs => do_or a b f hy W tabs
  have qC := fun W tabs => do_xor a b f hz W tabs
  have qD := fun W tabs => do_test a b f hx W tabs
  have hbit := Lib.hid (bits_at h hb rfl rfl rfl k)
  obtain ⟨s1, s2⟩ := bits_sums h hb rfl rfl rfl
  generalize bits .and .u32 a b = x at *
  generalize bits .or .u32 a b = y at *
  generalize bits .xor .u32 a b = z at *
  have e4 := Lib.hid (show resF x 4 = (x / 2147483648 == 1) from bit31_eq hx)
  replace s1 := Lib.hid s1
  replace s2 := Lib.hid s2
  replace qA := Lib.hid qA
  replace qB := Lib.hid qB
  replace qC := Lib.hid qC
  replace qD := Lib.hid qD
  have hk0 : (0 : Int) ≤ (k : Int) := by omega
  have hk1 : (k : Int) < 32 := by omega
  have kb := (Below.refl w.heap.size w).alloc (Nat.le_refl _) (.cells (fl6 f) 24)
  replace tabs := tabs.below kb
  have hSB := kb.size
  have kF := Blk.new w 24 (fl6 f)
  go_enter Tryd.func10, Tryd.ntmps10
  go_wp2_with fail
  generalize w.alloc (.cells (fl6 f) 24) = w0 at kb tabs hSB kF ⊢
  generalize hN : w.heap.size = N at *
  refine (knownA _ tabs).mono ?_
  rintro e w1 ⟨rfl, bb⟩
  replace kF := kF.below bb kF.lt
  replace tabs := tabs.below bb
  replace kb := kb.trans (bb.mono hSB)
  replace hSB := Nat.le_trans hSB bb.size
  clear bb
  go_wp2_with (first | (with_reducible refine load_fl rfl _ rfl N f rfl kF ?_))
  refine (qA.out _ tabs).mono ?_
  rintro e w2 ⟨rfl, bb⟩
  replace kF := kF.below bb kF.lt
  replace tabs := tabs.below bb
  replace kb := kb.trans (bb.mono hSB)
  replace hSB := Nat.le_trans hSB bb.size
  clear bb
  go_wp2_with (first | (with_reducible refine load_fl rfl _ rfl N f rfl kF ?_) | ((with_reducible refine store_as rfl _ _ rfl (w0 := w2) (resF x) rfl rfl ?_); intro w3 kG bb; replace kF := kF.below bb kF.lt; replace tabs := tabs.below bb; replace kb := kb.trans (bb.mono hSB); replace hSB := Nat.le_trans hSB bb.size; clear bb))
  generalize w2.heap.size = BG at *
  refine (qB.out _ tabs).mono ?_
  rintro e w4 ⟨rfl, bb⟩
  replace kF := kF.below bb kF.lt
  replace kG := kG.below bb kG.lt
  replace tabs := tabs.below bb
  replace kb := kb.trans (bb.mono hSB)
  replace hSB := Nat.le_trans hSB bb.size
  clear bb
  go_wp2_with (first | (with_reducible refine load_fl rfl _ rfl N f rfl kF ?_) | ((with_reducible refine store_as rfl _ _ rfl (w0 := w4) (resF y) rfl rfl ?_); intro w5 kH bb; replace kF := kF.below bb kF.lt; replace kG := kG.below bb kG.lt; replace tabs := tabs.below bb; replace kb := kb.trans (bb.mono hSB); replace hSB := Nat.le_trans hSB bb.size; clear bb))
  generalize w4.heap.size = BH at *
  refine (qC.out _ tabs).mono ?_
  rintro e w6 ⟨rfl, bb⟩
  replace kF := kF.below bb kF.lt
  replace kG := kG.below bb kG.lt
  replace kH := kH.below bb kH.lt
  replace tabs := tabs.below bb
  replace kb := kb.trans (bb.mono hSB)
  replace hSB := Nat.le_trans hSB bb.size
  clear bb
  go_wp2_with (first | (with_reducible refine load_fl rfl _ rfl N f rfl kF ?_) | ((with_reducible refine store_as rfl _ _ rfl (w0 := w6) (resF z) rfl rfl ?_); intro w7 kI bb; replace kF := kF.below bb kF.lt; replace kG := kG.below bb kG.lt; replace kH := kH.below bb kH.lt; replace tabs := tabs.below bb; replace kb := kb.trans (bb.mono hSB); replace hSB := Nat.le_trans hSB bb.size; clear bb))
  generalize w6.heap.size = BI at *
  refine (qD.out _ tabs).mono ?_
  rintro e w8 ⟨rfl, bb⟩
  replace kF := kF.below bb kF.lt
  replace kG := kG.below bb kG.lt
  replace kH := kH.below bb kH.lt
  replace kI := kI.below bb kI.lt
  replace tabs := tabs.below bb
  replace kb := kb.trans (bb.mono hSB)
  replace hSB := Nat.le_trans hSB bb.size
  clear bb
  go_wp2_with (first | ((with_reducible refine store_as rfl _ _ rfl (w0 := w8) (resF x) rfl rfl ?_); intro w9 kJ bb; replace kF := kF.below bb kF.lt; replace kG := kG.below bb kG.lt; replace kH := kH.below bb kH.lt; replace kI := kI.below bb kI.lt; replace tabs := tabs.below bb; replace kb := kb.trans (bb.mono hSB); replace hSB := Nat.le_trans hSB bb.size; clear bb; obtain ⟨p, hp⟩ : ∃ p, p = resF x 1 := ⟨_, rfl⟩; have hpp := Lib.hid (show resF x 1 = p from hp.symm); clear hp; have c0 := kG.cell (i := 0) (v := .bool false) rfl; have c1 := kG.cell (i := 1) (v := .bool p) (congrArg (fun x => some (Value.bool x)) hpp.out); have c2 := kG.cell (i := 2) (v := .bool false) rfl; have c3 := kG.cell (i := 3) (v := .bool (x == 0)) rfl; have c4 := kG.cell (i := 4) (v := .bool (x / 2147483648 == 1)) (congrArg (fun x => some (Value.bool x)) e4.out); have c5 := kG.cell (i := 5) (v := .bool false) rfl; have d0 := kJ.cell (i := 0) (v := .bool false) rfl; have d1 := kJ.cell (i := 1) (v := .bool p) (congrArg (fun x => some (Value.bool x)) hpp.out); have d2 := kJ.cell (i := 2) (v := .bool false) rfl; have d3 := kJ.cell (i := 3) (v := .bool (x == 0)) rfl; have d4 := kJ.cell (i := 4) (v := .bool (x / 2147483648 == 1)) (congrArg (fun x => some (Value.bool x)) e4.out); have d5 := kJ.cell (i := 5) (v := .bool false) rfl; have h0 := kH.cell (i := 0) (v := .bool false) rfl; have h5 := kH.cell (i := 5) (v := .bool false) rfl; have i0 := kI.cell (i := 0) (v := .bool false) rfl; have i5 := kI.cell (i := 5) (v := .bool false) rfl; have i2 := kI.cell (i := 2) (v := .bool false) rfl; have ss1 := s1.out; have ss2 := s2.out; rcases hbit.out with ⟨t1, t2, t3, t4, t5⟩ | ⟨t1, t2, t3, t4, t5⟩ | ⟨t1, t2, t3, t4, t5⟩ | ⟨t1, t2, t3, t4, t5⟩))
  all_goals go_ret
  all_goals subst hN
  all_goals exact ⟨rfl, kb⟩
end Go.Proofs.YtgeeecoclhomiaaDoor
