/- AluSteps. -/
import Derived.Test.YtgeeecoclhomiaaDoorKB
import Derived.Test.YtgeeecoclhomiaaDoorP1
namespace Go.Proofs.YtgeeecoclhomiaaDoor
open Go.RowKit
set_option linter.unusedVariables false
set_option linter.unusedSimpArgs false
set_option linter.unusedSectionVars false

theorem step_facts {a b d : Int} (h : 0 ≤ a ∧ a ≤ 4294967295) (hb : b = addR a 1 false) (hd : d = subR 0 a false) :
    b = (a + 1) % 4294967296 ∧ subR b 1 false = a ∧ addF a 1 false 5 = (a == 2147483647) ∧ addF a 1 false 3 = ((a + 1) % 4294967296 == 0) ∧
    subF 0 a false 0 = (a != 0) ∧ subF 0 a false 5 = (a == 2147483648) ∧ subR 0 d false = a ∧ d = (4294967295 - a + 1) % 4294967296 := by
  subst hb hd
  have z : c01 false = 0 := rfl
  refine ⟨by unfold addR; rw [z, Int.add_zero], by unfold subR addR; rw [z]; omega, ?_, by show (addR a 1 false == 0) = _; unfold addR; rw [z, Int.add_zero], ?_, ?_, by unfold subR; rw [z]; omega, by unfold subR; rw [z]; omega⟩
  · show addO a 1 false = _
    unfold addO
    rw [z, Bool.eq_iff_iff, show wrap32 1 = 1 by unfold wrap32; decide]
    simp only [bne_iff_ne, beq_iff_eq, ne_eq]
    unfold wrap32
    omega
  · show subK 0 a false = _
    unfold subK
    rw [z, Bool.eq_iff_iff]
    simp only [bne_iff_ne, ne_eq]
    omega
  · show subO 0 a false = _
    unfold subO
    rw [z, Bool.eq_iff_iff, show wrap32 0 = 0 by unfold wrap32; decide]
    simp only [bne_iff_ne, beq_iff_eq, ne_eq]
    unfold wrap32
    omega
theorem eq_flags (x : Nat → Bool) (W : World) : (Op.equalIn 9999 24 (.agg #[.bool (x 0), .bool (x 1), .bool (x 2), .bool (x 3), .bool (x 4), .bool (x 5)]) (.agg #[.bool (x 0), .bool (x 1), .bool (x 2), .bool (x 3), .bool (x 4), .bool (x 5)])).run Tryd.prog W = .ok true W := by
  cases x 0 <;> cases x 1 <;> cases x 2 <;> cases x 3 <;> cases x 4 <;> cases x 5 <;> kernel_rfl
set_option maxHeartbeats 2000000 in
theorem steps_walk (a : Int) (f : Nat → Bool) (h : 0 ≤ a ∧ a ≤ 4294967295) (w : World) (tabs : Tabs w) :
    Calls Tryd.prog 9 #[.int .u32 a, flV f] w fun e w' => e = .returned (.bool true) ∧ Below w.heap.size w w' := by
  obtain ⟨b, hb⟩ : ∃ b, b = addR a 1 false := ⟨_, rfl⟩
  obtain ⟨d, hd⟩ : ∃ d, d = subR 0 a false := ⟨_, rfl⟩
  obtain ⟨t1, t2, t3, t4, t5, t6, t7, t8⟩ := step_facts h hb hd
  have hbb : 0 ≤ b ∧ b ≤ 4294967295 := by rw [hb]; exact addR_bd _ _ _
  have bd : 0 ≤ d ∧ d ≤ 4294967295 := by rw [hd]; exact subR_bd _ _ _
  have qA := fun W tabs => do_inc a 0 f h (by decide) W tabs
  rw [← hb] at qA
  have hg : mixL (wrT 3) f (addF a 1 false) 0 = f 0 ∧ mixL (wrT 3) f (addF a 1 false) 5 = addF a 1 false 5 ∧ mixL (wrT 3) f (addF a 1 false) 3 = addF a 1 false 3 := ⟨rfl, rfl, rfl⟩
  rw [t3, t4] at hg
  generalize mixL (wrT 3) f (addF a 1 false) = g at *
  obtain ⟨g0, g5, g3⟩ := hg
  have qB := fun W tabs => do_dec b 0 g hbb (by decide) W tabs
  rw [t2] at qB
  have h0 : mixL (wrT 3) g (subF b 1 false) 0 = f 0 := g0
  generalize mixL (wrT 3) g (subF b 1 false) = gh at *
  have qC := fun W tabs => do_neg a 0 f h (by decide) W tabs
  rw [← hd] at qC
  have qD := fun W tabs => do_neg d 0 f bd (by decide) W tabs
  rw [t7] at qD
  generalize subF 0 a false = gi at *
  generalize subF 0 d false = ge at *
  have qE := fun W tabs => do_not a 0 f h W tabs
  have qG := fun W tabs => do_not (4294967295 - a) 0 f (by omega) W tabs
  rw [show 4294967295 - (4294967295 - a) = a by omega] at qG
  obtain ⟨n, hn⟩ : ∃ n, n = 4294967295 - a := ⟨_, rfl⟩
  rw [← hn] at qE qG t8
  clear hb hd t2 t3 t4 t7 hn
  have hE := eq_flags f
  replace qA := Lib.hid qA
  replace qB := Lib.hid qB
  replace qC := Lib.hid qC
  replace qD := Lib.hid qD
  replace qE := Lib.hid qE
  replace qG := Lib.hid qG
  replace t1 := Lib.hid t1
  replace t5 := Lib.hid t5
  replace t6 := Lib.hid t6
  replace t8 := Lib.hid t8
  replace g0 := Lib.hid g0
  replace g3 := Lib.hid g3
  replace g5 := Lib.hid g5
  replace h0 := Lib.hid h0
  have kb := (Below.refl w.heap.size w).alloc (Nat.le_refl _) (.cells (fl6 f) 24)
  replace tabs := tabs.below kb
  have hSB := kb.size
  have kF := Blk.new w 24 (fl6 f)
  go_enter Tryd.func9, Tryd.ntmps9
  go_wp2_with fail
  generalize w.alloc (.cells (fl6 f) 24) = w0 at kb tabs hSB kF ⊢
  generalize hN : w.heap.size = N at *
  refine (knownA _ tabs).mono ?_
  rintro e w1 ⟨rfl, bb⟩
  replace kF := kF.below bb kF.lt
  replace tabs := tabs.below bb
  replace kb := kb.trans (bb.mono hSB)
  replace hSB := Nat.le_trans hSB bb.size
  clear bb
  go_wp2_with (first | (with_reducible refine load_fl rfl _ rfl N f rfl kF ?_))
  refine (qA.out _ tabs).mono ?_
  rintro e w2 ⟨rfl, bb⟩
  replace kF := kF.below bb kF.lt
  replace tabs := tabs.below bb
  replace kb := kb.trans (bb.mono hSB)
  replace hSB := Nat.le_trans hSB bb.size
  clear bb
  go_wp2_with (first | (with_reducible refine load_fl rfl _ rfl _ g rfl kG ?_) | ((with_reducible refine store_as rfl _ _ rfl (w0 := w2) (g) rfl rfl ?_); intro w3 kG bb; replace kF := kF.below bb kF.lt; replace tabs := tabs.below bb; replace kb := kb.trans (bb.mono hSB); replace hSB := Nat.le_trans hSB bb.size; clear bb))
  generalize w2.heap.size = BG at *
  refine (qB.out _ tabs).mono ?_
  rintro e w4 ⟨rfl, bb⟩
  replace kF := kF.below bb kF.lt
  replace kG := kG.below bb kG.lt
  replace tabs := tabs.below bb
  replace kb := kb.trans (bb.mono hSB)
  replace hSB := Nat.le_trans hSB bb.size
  clear bb
  go_wp2_with (first | (with_reducible refine load_fl rfl _ rfl N f rfl kF ?_) | ((with_reducible refine store_as rfl _ _ rfl (w0 := w4) (gh) rfl rfl ?_); intro w5 kH bb; replace kF := kF.below bb kF.lt; replace kG := kG.below bb kG.lt; replace tabs := tabs.below bb; replace kb := kb.trans (bb.mono hSB); replace hSB := Nat.le_trans hSB bb.size; clear bb))
  generalize w4.heap.size = BH at *
  refine (qC.out _ tabs).mono ?_
  rintro e w6 ⟨rfl, bb⟩
  replace kF := kF.below bb kF.lt
  replace kG := kG.below bb kG.lt
  replace kH := kH.below bb kH.lt
  replace tabs := tabs.below bb
  replace kb := kb.trans (bb.mono hSB)
  replace hSB := Nat.le_trans hSB bb.size
  clear bb
  go_wp2_with (first | (with_reducible refine load_fl rfl _ rfl N f rfl kF ?_) | ((with_reducible refine store_as rfl _ _ rfl (w0 := w6) (gi) rfl rfl ?_); intro w7 kI bb; replace kF := kF.below bb kF.lt; replace kG := kG.below bb kG.lt; replace kH := kH.below bb kH.lt; replace tabs := tabs.below bb; replace kb := kb.trans (bb.mono hSB); replace hSB := Nat.le_trans hSB bb.size; clear bb))
  generalize w6.heap.size = BI at *
  refine (qD.out _ tabs).mono ?_
  rintro e w8 ⟨rfl, bb⟩
  replace kF := kF.below bb kF.lt
  replace kG := kG.below bb kG.lt
  replace kH := kH.below bb kH.lt
  replace kI := kI.below bb kI.lt
  replace tabs := tabs.below bb
  replace kb := kb.trans (bb.mono hSB)
  replace hSB := Nat.le_trans hSB bb.size
  clear bb
  go_wp2_with (first | (with_reducible refine load_fl rfl _ rfl N f rfl kF ?_) | ((with_reducible refine store_as rfl _ _ rfl (w0 := w8) (ge) rfl rfl ?_); intro w9 kE bb; replace kF := kF.below bb kF.lt; replace kG := kG.below bb kG.lt; replace kH := kH.below bb kH.lt; replace kI := kI.below bb kI.lt; replace tabs := tabs.below bb; replace kb := kb.trans (bb.mono hSB); replace hSB := Nat.le_trans hSB bb.size; clear bb))
  generalize w8.heap.size = BE at *
  refine (qE.out _ tabs).mono ?_
  rintro e w10 ⟨rfl, bb⟩
  replace kF := kF.below bb kF.lt
  replace kG := kG.below bb kG.lt
  replace kH := kH.below bb kH.lt
  replace kI := kI.below bb kI.lt
  replace kE := kE.below bb kE.lt
  replace tabs := tabs.below bb
  replace kb := kb.trans (bb.mono hSB)
  replace hSB := Nat.le_trans hSB bb.size
  clear bb
  go_wp2_with (first | (with_reducible refine load_fl rfl _ rfl N f rfl kF ?_) | ((with_reducible refine store_as rfl _ _ rfl (w0 := w10) (f) rfl rfl ?_); intro w11 kJ bb; replace kF := kF.below bb kF.lt; replace kG := kG.below bb kG.lt; replace kH := kH.below bb kH.lt; replace kI := kI.below bb kI.lt; replace kE := kE.below bb kE.lt; replace tabs := tabs.below bb; replace kb := kb.trans (bb.mono hSB); replace hSB := Nat.le_trans hSB bb.size; clear bb))
  generalize w10.heap.size = BJ at *
  refine (qG.out _ tabs).mono ?_
  rintro e w12 ⟨rfl, bb⟩
  replace kF := kF.below bb kF.lt
  replace kG := kG.below bb kG.lt
  replace kH := kH.below bb kH.lt
  replace kI := kI.below bb kI.lt
  replace kE := kE.below bb kE.lt
  replace kJ := kJ.below bb kJ.lt
  replace tabs := tabs.below bb
  replace kb := kb.trans (bb.mono hSB)
  replace hSB := Nat.le_trans hSB bb.size
  clear bb
  go_wp2_with (first | ((with_reducible refine store_as rfl _ _ rfl (w0 := w12) (f) rfl rfl ?_); intro w13 kO bb; replace kF := kF.below bb kF.lt; replace kG := kG.below bb kG.lt; replace kH := kH.below bb kH.lt; replace kI := kI.below bb kI.lt; replace kE := kE.below bb kE.lt; replace kJ := kJ.below bb kJ.lt; replace tabs := tabs.below bb; replace kb := kb.trans (bb.mono hSB); replace hSB := Nat.le_trans hSB bb.size; clear bb; have c0 := kG.cell (i := 0) (v := .bool (f 0)) (congrArg (fun x => some (Value.bool x)) g0.out); have c5 := kG.cell (i := 5) (v := .bool (a == 2147483647)) (congrArg (fun x => some (Value.bool x)) g5.out); have c3 := kG.cell (i := 3) (v := .bool ((a + 1) % 4294967296 == 0)) (congrArg (fun x => some (Value.bool x)) g3.out); have d0 := kH.cell (i := 0) (v := .bool (f 0)) (congrArg (fun x => some (Value.bool x)) h0.out); have i0 := kI.cell (i := 0) (v := .bool (a != 0)) (congrArg (fun x => some (Value.bool x)) t5.out); have i5 := kI.cell (i := 5) (v := .bool (a == 2147483648)) (congrArg (fun x => some (Value.bool x)) t6.out); have f0 := kF.cell (i := 0) (v := .bool (f 0)) rfl; have f1 := kF.cell (i := 1) (v := .bool (f 1)) rfl; have f2 := kF.cell (i := 2) (v := .bool (f 2)) rfl; have f3 := kF.cell (i := 3) (v := .bool (f 3)) rfl; have f4 := kF.cell (i := 4) (v := .bool (f 4)) rfl; have f5 := kF.cell (i := 5) (v := .bool (f 5)) rfl; have j0 := kJ.cell (i := 0) (v := .bool (f 0)) rfl; have j1 := kJ.cell (i := 1) (v := .bool (f 1)) rfl; have j2 := kJ.cell (i := 2) (v := .bool (f 2)) rfl; have j3 := kJ.cell (i := 3) (v := .bool (f 3)) rfl; have j4 := kJ.cell (i := 4) (v := .bool (f 4)) rfl; have j5 := kJ.cell (i := 5) (v := .bool (f 5)) rfl; have tt1 := t1.out; have tt8 := t8.out))
  generalize w12.heap.size = BO at *
  go_ret
  subst hN
  exact ⟨rfl, kb⟩
end Go.Proofs.YtgeeecoclhomiaaDoor
