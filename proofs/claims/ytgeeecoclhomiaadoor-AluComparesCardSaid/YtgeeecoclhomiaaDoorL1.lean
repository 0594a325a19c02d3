/- AluCompares. -/
import Derived.Test.YtgeeecoclhomiaaDoorKB
import Derived.Test.YtgeeecoclhomiaaDoorP1
import Derived.Test.YtgeeecoclhomiaaDoorWf
namespace Go.Proofs.YtgeeecoclhomiaaDoor
open Go.RowKit
set_option linter.unusedVariables false
set_option linter.unusedSimpArgs false
set_option linter.unusedSectionVars false

set_option maxHeartbeats 2000000 in
theorem compares_walk (a b : Int) (f : Nat → Bool) (h : 0 ≤ a ∧ a ≤ 4294967295) (hb : 0 ≤ b ∧ b ≤ 4294967295) (w : World) (tabs : Tabs w) :
    Calls Tryd.prog 4 #[.int .u32 a, .int .u32 b, flV f] w fun e w' => e = .returned (.bool true) ∧ Below w.heap.size w w' := by
  have qC := Lib.hid (fun W tabs => do_cmp a b f h hb W tabs)
  have qS := Lib.hid (fun W tabs => do_sub a b f h hb W tabs)
  have hR := subR_bd a b false
  have e0 := Lib.hid (sub_lt h hb)
  have e2 := Lib.hid (sub_af h hb)
  have e3 := Lib.hid (sub_eq h hb)
  have e4 := Lib.hid (sub_top (a := a) (b := b))
  have e5 := sub_less h hb
  have a1 := and15 h
  have a2 := and15 hb
  have eR : subR a b false = (a - b) % 4294967296 := by unfold subR; rw [show c01 false = 0 from rfl, Int.sub_zero]
  generalize subF a b false = g at *
  generalize subR a b false = R at *
  have kb := (Below.refl w.heap.size w).alloc (Nat.le_refl _) (.cells (fl6 f) 24)
  replace tabs := tabs.below kb
  have hSB := kb.size
  have kF := Blk.new w 24 (fl6 f)
  go_enter Tryd.func4, Tryd.ntmps4
  go_wp2_with fail
  generalize w.alloc (.cells (fl6 f) 24) = w0 at kb tabs hSB kF ⊢
  generalize hN : w.heap.size = N at *
  refine (knownA _ tabs).mono ?_
  rintro e w1 ⟨rfl, bb⟩
  replace kF := kF.below bb kF.lt
  replace tabs := tabs.below bb
  replace kb := kb.trans (bb.mono hSB)
  replace hSB := Nat.le_trans hSB bb.size
  clear bb
  go_wp2_with (first | (with_reducible refine load_fl rfl _ rfl N f rfl kF ?_))
  refine (qC.out _ tabs).mono ?_
  rintro e w2 ⟨rfl, bb⟩
  replace kF := kF.below bb kF.lt
  replace tabs := tabs.below bb
  replace kb := kb.trans (bb.mono hSB)
  replace hSB := Nat.le_trans hSB bb.size
  clear bb
  go_wp2_with (first | (with_reducible refine load_fl rfl _ rfl N f rfl kF ?_) | ((with_reducible refine store_as rfl _ _ rfl (w0 := w2) (g) rfl rfl ?_); intro w3 kG bb; replace kF := kF.below bb kF.lt; replace tabs := tabs.below bb; replace kb := kb.trans (bb.mono hSB); replace hSB := Nat.le_trans hSB bb.size; clear bb))
  generalize w2.heap.size = BG at *
  refine (qS.out _ tabs).mono ?_
  rintro e w4 ⟨rfl, bb⟩
  replace kF := kF.below bb kF.lt
  replace kG := kG.below bb kG.lt
  replace tabs := tabs.below bb
  replace kb := kb.trans (bb.mono hSB)
  replace hSB := Nat.le_trans hSB bb.size
  clear bb
  go_wp2_with (first | (with_reducible refine load_fl rfl _ rfl N f rfl kF ?_) | ((with_reducible refine store_as rfl _ _ rfl (w0 := w4) (g) rfl rfl ?_); intro w5 kH bb; replace kF := kF.below bb kF.lt; replace kG := kG.below bb kG.lt; replace tabs := tabs.below bb; replace kb := kb.trans (bb.mono hSB); replace hSB := Nat.le_trans hSB bb.size; clear bb; have c0 := kG.cell (i := 0) (v := .bool (decide (a < b))) (congrArg (fun x => some (Value.bool x)) e0.out); have c1 := kG.cell (i := 1) (v := .bool (g 1)) rfl; have c2 := kG.cell (i := 2) (v := .bool (decide (a % 16 < b % 16))) (congrArg (fun x => some (Value.bool x)) e2.out); have c3 := kG.cell (i := 3) (v := .bool (a == b)) (congrArg (fun x => some (Value.bool x)) e3.out); have c4 := kG.cell (i := 4) (v := .bool (g 4)) rfl; have c5 := kG.cell (i := 5) (v := .bool (g 5)) rfl; have d0 := kH.cell (i := 0) (v := .bool (decide (a < b))) (congrArg (fun x => some (Value.bool x)) e0.out); have d1 := kH.cell (i := 1) (v := .bool (g 1)) rfl; have d2 := kH.cell (i := 2) (v := .bool (decide (a % 16 < b % 16))) (congrArg (fun x => some (Value.bool x)) e2.out); have d3 := kH.cell (i := 3) (v := .bool (a == b)) (congrArg (fun x => some (Value.bool x)) e3.out); have d4 := kH.cell (i := 4) (v := .bool (g 4)) rfl; have d5 := kH.cell (i := 5) (v := .bool (g 5)) rfl))
  generalize w4.heap.size = BH at *
  go_ret
  subst hN
  exact ⟨ret_bool (by rw [e4.out, eR]; simp), kb⟩
end Go.Proofs.YtgeeecoclhomiaaDoor
