/- AluLong. -/
import Derived.Test.YtgeeecoclhomiaaDoorKB
import Derived.Test.YtgeeecoclhomiaaDoorP1
import Derived.Test.YtgeeecoclhomiaaDoorA9
namespace Go.Proofs.YtgeeecoclhomiaaDoor
open Go.RowKit
set_option linter.unusedVariables false
set_option linter.unusedSimpArgs false
set_option linter.unusedSectionVars false

theorem add_long {a b : Int} (h : 0 ≤ a ∧ a ≤ 18446744073709551615) (hb : 0 ≤ b ∧ b ≤ 18446744073709551615) :
    bits .or .u64 (addR (a / 4294967296) (b / 4294967296) (addF (a % 4294967296) (b % 4294967296) false 0) * 4294967296) (addR (a % 4294967296) (b % 4294967296) false) = (a + b) % 18446744073709551616 := by
  rw [or_high (addR_bd _ _ _) (addR_bd _ _ _)]
  show addR _ _ (addK _ _ false) * 4294967296 + _ = _
  unfold addR addK
  rw [show c01 false = 0 from rfl]
  by_cases c : a % 4294967296 + b % 4294967296 + 0 = (a % 4294967296 + b % 4294967296 + 0) % 4294967296
  · rw [show (a % 4294967296 + b % 4294967296 + 0 != (a % 4294967296 + b % 4294967296 + 0) % 4294967296) = false by rw [bne_eq_false_iff_eq]; exact c, show c01 false = 0 from rfl]
    omega
  · rw [show (a % 4294967296 + b % 4294967296 + 0 != (a % 4294967296 + b % 4294967296 + 0) % 4294967296) = true by rw [bne_iff_ne]; exact c, show c01 true = 1 from rfl]
    omega
theorem sub_long {a b : Int} (h : 0 ≤ a ∧ a ≤ 18446744073709551615) (hb : 0 ≤ b ∧ b ≤ 18446744073709551615) :
    bits .or .u64 (subR (a / 4294967296) (b / 4294967296) (subF (a % 4294967296) (b % 4294967296) false 0) * 4294967296) (subR (a % 4294967296) (b % 4294967296) false) = (a - b) % 18446744073709551616 ∧
    subF (a / 4294967296) (b / 4294967296) (subF (a % 4294967296) (b % 4294967296) false 0) 0 = decide (a < b) := by
  rw [or_high (subR_bd _ _ _) (subR_bd _ _ _)]
  have hc := sub_lt (a := a % 4294967296) (b := b % 4294967296) (by omega) (by omega)
  rw [hc]
  show _ ∧ subK _ _ _ = _
  unfold subR subK
  rw [show c01 false = 0 from rfl]
  by_cases c : a % 4294967296 < b % 4294967296
  · rw [decide_eq_true c, show c01 true = 1 from rfl]
    refine ⟨by omega, ?_⟩
    rw [Bool.eq_iff_iff]; simp only [bne_iff_ne, decide_eq_true_eq, ne_eq]; omega
  · rw [decide_eq_false c, show c01 false = 0 from rfl]
    refine ⟨by omega, ?_⟩
    rw [Bool.eq_iff_iff]; simp only [bne_iff_ne, decide_eq_true_eq, ne_eq]; omega
set_option maxHeartbeats 2000000 in
theorem long_walk (a b : Int) (f : Nat → Bool) (h : 0 ≤ a ∧ a ≤ 18446744073709551615) (hb : 0 ≤ b ∧ b ≤ 18446744073709551615) (w : World) (tabs : Tabs w) :
    Calls Tryd.prog 5 #[.int .u64 a, .int .u64 b, flV f] w fun e w' => e = .returned (.bool true) ∧ Below w.heap.size w w' := by
  have e1 := add_long h hb
  obtain ⟨e2, e3⟩ := sub_long h hb
  have r1 := addR_bd (a % 4294967296) (b % 4294967296) false
  have r2 := addR_bd (a / 4294967296) (b / 4294967296) (addF (a % 4294967296) (b % 4294967296) false 0)
  have r3 := subR_bd (a % 4294967296) (b % 4294967296) false
  have r4 := subR_bd (a / 4294967296) (b / 4294967296) (subF (a % 4294967296) (b % 4294967296) false 0)
  have qA := Lib.hid (fun W tabs => do_add (a % 4294967296) (b % 4294967296) f (by omega) (by omega) W tabs)
  have qB := Lib.hid (fun W tabs => do_adc (a / 4294967296) (b / 4294967296) (addF (a % 4294967296) (b % 4294967296) false) (by omega) (by omega) W tabs)
  have qC := Lib.hid (fun W tabs => do_sub (a % 4294967296) (b % 4294967296) f (by omega) (by omega) W tabs)
  have qD := Lib.hid (fun W tabs => do_sbb (a / 4294967296) (b / 4294967296) (subF (a % 4294967296) (b % 4294967296) false) (by omega) (by omega) W tabs)
  generalize addR (a / 4294967296) (b / 4294967296) (addF (a % 4294967296) (b % 4294967296) false 0) = y at *
  generalize addF (a / 4294967296) (b / 4294967296) (addF (a % 4294967296) (b % 4294967296) false 0) = gy at *
  generalize addR (a % 4294967296) (b % 4294967296) false = x at *
  generalize addF (a % 4294967296) (b % 4294967296) false = gx at *
  generalize subR (a / 4294967296) (b / 4294967296) (subF (a % 4294967296) (b % 4294967296) false 0) = v at *
  generalize subF (a / 4294967296) (b / 4294967296) (subF (a % 4294967296) (b % 4294967296) false 0) = gv at *
  generalize subR (a % 4294967296) (b % 4294967296) false = z at *
  generalize subF (a % 4294967296) (b % 4294967296) false = gz at *
  replace e3 := Lib.hid e3
  have kb := (Below.refl w.heap.size w).alloc (Nat.le_refl _) (.cells (fl6 f) 24)
  replace tabs := tabs.below kb
  have hSB := kb.size
  have kF := Blk.new w 24 (fl6 f)
  go_enter Tryd.func5, Tryd.ntmps5
  go_wp2_with fail
  generalize w.alloc (.cells (fl6 f) 24) = w0 at kb tabs hSB kF ⊢
  generalize hN : w.heap.size = N at *
  refine (knownA _ tabs).mono ?_
  rintro e w1 ⟨rfl, bb⟩
  replace kF := kF.below bb kF.lt
  replace tabs := tabs.below bb
  replace kb := kb.trans (bb.mono hSB)
  replace hSB := Nat.le_trans hSB bb.size
  clear bb
  go_wp2_with (first | (with_reducible refine load_fl rfl _ rfl N f rfl kF ?_))
  refine (qA.out _ tabs).mono ?_
  rintro e w2 ⟨rfl, bb⟩
  replace kF := kF.below bb kF.lt
  replace tabs := tabs.below bb
  replace kb := kb.trans (bb.mono hSB)
  replace hSB := Nat.le_trans hSB bb.size
  clear bb
  go_wp2_with (first | (with_reducible refine load_fl rfl _ rfl _ gx rfl kG ?_) | ((with_reducible refine store_as rfl _ _ rfl (w0 := w2) (gx) rfl rfl ?_); intro w3 kG bb; replace kF := kF.below bb kF.lt; replace tabs := tabs.below bb; replace kb := kb.trans (bb.mono hSB); replace hSB := Nat.le_trans hSB bb.size; clear bb))
  generalize w2.heap.size = BG at *
  refine (qB.out _ tabs).mono ?_
  rintro e w4 ⟨rfl, bb⟩
  replace kF := kF.below bb kF.lt
  replace kG := kG.below bb kG.lt
  replace tabs := tabs.below bb
  replace kb := kb.trans (bb.mono hSB)
  replace hSB := Nat.le_trans hSB bb.size
  clear bb
  go_wp2_with (first | (with_reducible refine load_fl rfl _ rfl N f rfl kF ?_) | ((with_reducible refine store_as rfl _ _ rfl (w0 := w4) (gy) rfl rfl ?_); intro w5 kH bb; replace kF := kF.below bb kF.lt; replace kG := kG.below bb kG.lt; replace tabs := tabs.below bb; replace kb := kb.trans (bb.mono hSB); replace hSB := Nat.le_trans hSB bb.size; clear bb))
  generalize w4.heap.size = BH at *
  refine (qC.out _ tabs).mono ?_
  rintro e w6 ⟨rfl, bb⟩
  replace kF := kF.below bb kF.lt
  replace kG := kG.below bb kG.lt
  replace kH := kH.below bb kH.lt
  replace tabs := tabs.below bb
  replace kb := kb.trans (bb.mono hSB)
  replace hSB := Nat.le_trans hSB bb.size
  clear bb
  go_wp2_with (first | (with_reducible refine load_fl rfl _ rfl _ gz rfl kI ?_) | ((with_reducible refine store_as rfl _ _ rfl (w0 := w6) (gz) rfl rfl ?_); intro w7 kI bb; replace kF := kF.below bb kF.lt; replace kG := kG.below bb kG.lt; replace kH := kH.below bb kH.lt; replace tabs := tabs.below bb; replace kb := kb.trans (bb.mono hSB); replace hSB := Nat.le_trans hSB bb.size; clear bb))
  generalize w6.heap.size = BI at *
  refine (qD.out _ tabs).mono ?_
  rintro e w8 ⟨rfl, bb⟩
  replace kF := kF.below bb kF.lt
  replace kG := kG.below bb kG.lt
  replace kH := kH.below bb kH.lt
  replace kI := kI.below bb kI.lt
  replace tabs := tabs.below bb
  replace kb := kb.trans (bb.mono hSB)
  replace hSB := Nat.le_trans hSB bb.size
  clear bb
  go_wp2_with (first | ((with_reducible refine store_as rfl _ _ rfl (w0 := w8) (gv) rfl rfl ?_); intro w9 kJ bb; replace kF := kF.below bb kF.lt; replace kG := kG.below bb kG.lt; replace kH := kH.below bb kH.lt; replace kI := kI.below bb kI.lt; replace tabs := tabs.below bb; replace kb := kb.trans (bb.mono hSB); replace hSB := Nat.le_trans hSB bb.size; clear bb; have c0 := kJ.cell (i := 0) (v := .bool (decide (a < b))) (congrArg (fun x => some (Value.bool x)) e3.out)))
  generalize w8.heap.size = BJ at *
  go_ret
  subst hN
  exact ⟨rfl, kb⟩
end Go.Proofs.YtgeeecoclhomiaaDoor
