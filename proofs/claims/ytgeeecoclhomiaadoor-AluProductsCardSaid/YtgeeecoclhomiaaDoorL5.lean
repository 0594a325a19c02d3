/- AluProducts. -/
import Derived.Test.YtgeeecoclhomiaaDoorKB
import Derived.Test.YtgeeecoclhomiaaDoorP1
import Derived.Test.YtgeeecoclhomiaaDoorA9
import Derived.Test.YtgeeecoclhomiaaDoorA7
namespace Go.Proofs.YtgeeecoclhomiaaDoor
open Go.RowKit
set_option linter.unusedVariables false
set_option linter.unusedSimpArgs false
set_option linter.unusedSectionVars false

theorem wide_eq (V : Int) (h : -4611686018427387904 ≤ V ∧ V ≤ 4611686018427387904) : (V / 4294967296 % 4294967296 != signW (V % 4294967296)) = (V != wrap32 V) := by
  unfold signW
  rw [Bool.eq_iff_iff]
  simp only [bne_iff_ne, ne_eq]
  unfold wrap32
  omega
theorem or_u (a b : Int) (h : 0 ≤ a ∧ a ≤ 4294967295) (hb : 0 ≤ b ∧ b ≤ 4294967295) : bits .or .u64 (hiU a b * 4294967296) (loU a b) = a * b := by
  have hm := mul_bd h hb
  unfold hiU loU
  generalize a * b = p at *
  rw [or_high (by omega) (by omega)]
  omega
theorem or_s (a b : Int) : bits .or .u64 (hiS a b * 4294967296) (loS a b) = wrap32 a * wrap32 b % 18446744073709551616 := by
  unfold hiS loS
  generalize wrap32 a * wrap32 b = p at *
  rw [or_high (by omega) (by omega)]
  omega
set_option maxRecDepth 100000 in
set_option maxHeartbeats 4000000 in
theorem products_walk (a b : Int) (f : Nat → Bool) (h : 0 ≤ a ∧ a ≤ 4294967295) (hb : 0 ≤ b ∧ b ≤ 4294967295) (w : World) (tabs : Tabs w) :
    Calls Tryd.prog 12 #[.int .u32 a, .int .u32 b, flV f] w fun e w' => e = .returned (.bool true) ∧ Below w.heap.size w w' := by
  have hm := mul_bd h hb
  have hs := mul_sbd (bd32 a) (bd32 b)
  have d1 := bd32 a
  have d2 := bd32 b
  have d3 := bd32 (wrap32 a * wrap32 b)
  have f1 := or_u a b h hb
  have f2 := or_s a b
  have r1 : 0 ≤ loU a b ∧ loU a b ≤ 4294967295 := by unfold loU; omega
  have r2 : 0 ≤ hiU a b ∧ hiU a b ≤ 4294967295 := by unfold hiU; omega
  have r3 : 0 ≤ loS a b ∧ loS a b ≤ 4294967295 := by unfold loS; omega
  have r4 : 0 ≤ hiS a b ∧ hiS a b ≤ 4294967295 := by unfold hiS; omega
  have qA := fun W tabs => mul_u a b f h hb W tabs
  have qB := fun W tabs => mul_s a b f h hb W tabs
  have qC := fun W tabs => mul_s2 a b f h hb W tabs
  rw [show (hiS a b != signW (loS a b)) = (wrap32 a * wrap32 b != wrap32 (wrap32 a * wrap32 b)) from wide_eq _ hs] at qB qC
  have g0 : beyF f (hiU a b != 0) 0 = (a * b / 4294967296 != 0) ∧ beyF f (hiU a b != 0) 5 = (a * b / 4294967296 != 0) ∧ beyF f (hiU a b != 0) 3 = f 3 ∧ beyF f (hiU a b != 0) 2 = f 2 := ⟨rfl, rfl, rfl, rfl⟩
  have h0 : ∀ x, beyF f x 0 = x ∧ beyF f x 5 = x ∧ beyF f x 4 = f 4 ∧ beyF f x 1 = f 1 := fun x => ⟨rfl, rfl, rfl, rfl⟩
  replace h0 := h0 (wrap32 a * wrap32 b != wrap32 (wrap32 a * wrap32 b))
  generalize beyF f (hiU a b != 0) = g at *
  generalize beyF f (wrap32 a * wrap32 b != wrap32 (wrap32 a * wrap32 b)) = gh at *
  generalize loU a b = lo at *
  generalize hiU a b = hi at *
  generalize loS a b = ls at *
  generalize hiS a b = hs at *
  replace g0 := Lib.hid g0
  replace h0 := Lib.hid h0
  replace qA := Lib.hid qA
  replace qB := Lib.hid qB
  replace qC := Lib.hid qC
  have kb := (Below.refl w.heap.size w).alloc (Nat.le_refl _) (.cells (fl6 f) 24)
  replace tabs := tabs.below kb
  have hSB := kb.size
  have kF := Blk.new w 24 (fl6 f)
  go_enter Tryd.func12, Tryd.ntmps12
  go_wp2_with fail
  generalize w.alloc (.cells (fl6 f) 24) = w0 at kb tabs hSB kF ⊢
  generalize hN : w.heap.size = N at *
  refine (knownA _ tabs).mono ?_
  rintro e w1 ⟨rfl, bb⟩
  replace kF := kF.below bb kF.lt
  replace tabs := tabs.below bb
  replace kb := kb.trans (bb.mono hSB)
  replace hSB := Nat.le_trans hSB bb.size
  clear bb
  go_wp2_with (first | (with_reducible refine load_fl rfl _ rfl N f rfl kF ?_))
  refine (qA.out _ tabs).mono ?_
  rintro e w2 ⟨rfl, bb⟩
  replace kF := kF.below bb kF.lt
  replace tabs := tabs.below bb
  replace kb := kb.trans (bb.mono hSB)
  replace hSB := Nat.le_trans hSB bb.size
  clear bb
  go_wp2_with (first | (with_reducible refine load_fl rfl _ rfl N f rfl kF ?_) | ((with_reducible refine store_as rfl _ _ rfl (w0 := w2) (g) rfl rfl ?_); intro w3 kG bb; replace kF := kF.below bb kF.lt; replace tabs := tabs.below bb; replace kb := kb.trans (bb.mono hSB); replace hSB := Nat.le_trans hSB bb.size; clear bb))
  generalize w2.heap.size = BG at *
  refine (qB.out _ tabs).mono ?_
  rintro e w4 ⟨rfl, bb⟩
  replace kF := kF.below bb kF.lt
  replace kG := kG.below bb kG.lt
  replace tabs := tabs.below bb
  replace kb := kb.trans (bb.mono hSB)
  replace hSB := Nat.le_trans hSB bb.size
  clear bb
  go_wp2_with (first | (with_reducible refine load_fl rfl _ rfl N f rfl kF ?_) | ((with_reducible refine store_as rfl _ _ rfl (w0 := w4) (gh) rfl rfl ?_); intro w5 kH bb; replace kF := kF.below bb kF.lt; replace kG := kG.below bb kG.lt; replace tabs := tabs.below bb; replace kb := kb.trans (bb.mono hSB); replace hSB := Nat.le_trans hSB bb.size; clear bb))
  generalize w4.heap.size = BH at *
  refine (qC.out _ tabs).mono ?_
  rintro e w6 ⟨rfl, bb⟩
  replace kF := kF.below bb kF.lt
  replace kG := kG.below bb kG.lt
  replace kH := kH.below bb kH.lt
  replace tabs := tabs.below bb
  replace kb := kb.trans (bb.mono hSB)
  replace hSB := Nat.le_trans hSB bb.size
  clear bb
  go_wp2_with (first | ((with_reducible refine store_as rfl _ _ rfl (w0 := w6) (gh) rfl rfl ?_); intro w7 kI bb; replace kF := kF.below bb kF.lt; replace kG := kG.below bb kG.lt; replace kH := kH.below bb kH.lt; replace tabs := tabs.below bb; replace kb := kb.trans (bb.mono hSB); replace hSB := Nat.le_trans hSB bb.size; clear bb; have c0 := kG.cell (i := 0) (v := .bool (a * b / 4294967296 != 0)) (congrArg (fun x => some (Value.bool x)) g0.out.1); have c5 := kG.cell (i := 5) (v := .bool (a * b / 4294967296 != 0)) (congrArg (fun x => some (Value.bool x)) g0.out.2.1); have c3 := kG.cell (i := 3) (v := .bool (f 3)) (congrArg (fun x => some (Value.bool x)) g0.out.2.2.1); have c2 := kG.cell (i := 2) (v := .bool (f 2)) (congrArg (fun x => some (Value.bool x)) g0.out.2.2.2); have d0 := kH.cell (i := 0) (v := .bool (wrap32 a * wrap32 b != wrap32 (wrap32 a * wrap32 b))) (congrArg (fun x => some (Value.bool x)) h0.out.1); have d5 := kH.cell (i := 5) (v := .bool (wrap32 a * wrap32 b != wrap32 (wrap32 a * wrap32 b))) (congrArg (fun x => some (Value.bool x)) h0.out.2.1); have d4 := kH.cell (i := 4) (v := .bool (f 4)) (congrArg (fun x => some (Value.bool x)) h0.out.2.2.1); have e0 := kI.cell (i := 0) (v := .bool (wrap32 a * wrap32 b != wrap32 (wrap32 a * wrap32 b))) (congrArg (fun x => some (Value.bool x)) h0.out.1); have e1 := kI.cell (i := 1) (v := .bool (f 1)) (congrArg (fun x => some (Value.bool x)) h0.out.2.2.2); have f0 := kF.cell (i := 0) (v := .bool (f 0)) rfl; have f1 := kF.cell (i := 1) (v := .bool (f 1)) rfl; have f2 := kF.cell (i := 2) (v := .bool (f 2)) rfl; have f3 := kF.cell (i := 3) (v := .bool (f 3)) rfl; have f4 := kF.cell (i := 4) (v := .bool (f 4)) rfl; have f5 := kF.cell (i := 5) (v := .bool (f 5)) rfl))
  generalize w6.heap.size = BI at *
  go_ret
  subst hN
  exact ⟨rfl, kb⟩
end Go.Proofs.YtgeeecoclhomiaaDoor
