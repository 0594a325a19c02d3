/- AluTurns. -/
import Derived.Test.YtgeeecoclhomiaaDoorKB
import Derived.Test.YtgeeecoclhomiaaDoorRb
import Derived.Deep.CutRange
import Derived.Deep.RegionHeld
namespace Go.Proofs.YtgeeecoclhomiaaDoor
open Go.RowKit
set_option linter.unusedVariables false
set_option linter.unusedSimpArgs false
set_option linter.unusedSectionVars false

theorem store_put {ops : Array Oper} {rest : List Oper} {o : Oper} {a : Act} {w : World} {Q : Exit → Act → World → Prop} (hgd : o.guard = none) (x y : Operand) (ho : o.op = .store 24 x y)
    (N : Nat) (g old : Nat → Bool) (hx : a.eval x = .pointer (some ⟨N, 0, none⟩)) (hy : a.eval y = flV g) (k : Blk w N 24 (fl6 old))
    (h : ∀ W, W = w.setRow N (fl6 g) → wpList Tryd.prog ops Q rest (a.put o.dst undef) W) : wpList Tryd.prog ops Q (o :: rest) a w :=
  store_fl hgd x y ho N g old hx hy k (h _ rfl)
theorem eqFl (x : Nat → Bool) (W : World) : (Op.equalIn 9999 24 (.agg #[.bool (x 0), .bool (x 1), .bool (x 2), .bool (x 3), .bool (x 4), .bool (x 5)]) (.agg #[.bool (x 0), .bool (x 1), .bool (x 2), .bool (x 3), .bool (x 4), .bool (x 5)])).run Tryd.prog W = .ok true W := by
  cases x 0 <;> cases x 1 <;> cases x 2 <;> cases x 3 <;> cases x 4 <;> cases x 5 <;> kernel_rfl
theorem ix_5 (m : Nat) (hm : m < 5) (W : World) : (Instr.index 37 (.agg #[.int .i64 21, .int .i64 22, .int .i64 23, .int .i64 24, .int .i64 25]) (.int .i64 (m : Int))).run Tryd.prog W = .ok (.int .i64 (21 + (m : Int))) W := by
  rcases (by omega : m = 0 ∨ m = 1 ∨ m = 2 ∨ m = 3 ∨ m = 4) with rfl | rfl | rfl | rfl | rfl <;> kernel_rfl
/-- What is told of the flags behind j single steps. -/
def After (K a : Int) (f : Nat → Bool) (j : Nat) (H : Nat → Bool) : Prop :=
  H 0 = flS K a j f 0 ∧ (22 < K → H 1 = flS K a j f 1 ∧ H 3 = flS K a j f 3 ∧ H 4 = flS K a j f 4)
set_option maxRecDepth 100000 in
set_option maxHeartbeats 8000000 in
theorem turns_walk (a n : Int) (f : Nat → Bool) (h : 0 ≤ a ∧ a ≤ 4294967295) (hn : 0 ≤ n ∧ n ≤ 255) (w : World) (tabs : Tabs w) :
    Calls Tryd.prog 6 #[.int .u32 a, .int .u8 n, flV f] w fun e w' => e = .returned (.bool true) ∧ Below w.heap.size w w' := by
  have tabs0 := tabs
  obtain ⟨k, hkn⟩ := Int.eq_ofNat_of_zero_le (show 0 ≤ n % 32 by omega)
  have hk31 : k ≤ 31 := by omega
  have tb := turned_back a h k hk31
  have hxb := res_bd 21 a (.inl rfl) h k hk31
  have qX := shift_gen 21 a k (.inl rfl) f k hk31 h (by omega) (by omega)
  have qY := shift_gen 22 (resS 21 a k) k (.inr (.inl rfl)) f k hk31 hxb (by omega) (by omega)
  rw [tb] at qY
  clear tb
  generalize flS 22 (resS 21 a k) k f = g2 at *
  generalize flS 21 a k f = g1 at *
  generalize resS 21 a k = x at *
  replace qX := Lib.hid qX
  replace qY := Lib.hid qY
  have hk0 : (0 : Int) ≤ (k : Int) := by omega
  have hk2 : (k : Int) ≤ 31 := by omega
  have kb := (Below.refl w.heap.size w).alloc (Nat.le_refl _) (.cells (fl6 f) 24)
  replace tabs := tabs.below kb
  have hSB := kb.size
  have kF := Blk.new w 24 (fl6 f)
  go_enter Tryd.func6, Tryd.ntmps6
  go_wp2_with fail
  generalize w.alloc (.cells (fl6 f) 24) = w0 at kb tabs hSB kF ⊢
  generalize hN : w.heap.size = N at *
  refine (knownA _ tabs).mono ?_
  rintro e w1 ⟨rfl, bb⟩
  replace kF := kF.below bb kF.lt
  replace tabs := tabs.below bb
  replace kb := kb.trans (bb.mono hSB)
  replace hSB := Nat.le_trans hSB bb.size
  clear bb
  go_wp2_with (first | (with_reducible refine load_fl rfl _ rfl N f rfl kF ?_))
  refine (qX.out _ tabs).mono ?_
  rintro e w2 ⟨rfl, bb⟩
  replace kF := kF.below bb kF.lt
  replace tabs := tabs.below bb
  replace kb := kb.trans (bb.mono hSB)
  replace hSB := Nat.le_trans hSB bb.size
  clear bb
  go_wp2_with (first | (with_reducible refine load_fl rfl _ rfl N f rfl kF ?_) | ((with_reducible refine store_as rfl _ _ rfl (w0 := w2) (g1) rfl rfl ?_); intro w3 kX bb; replace kF := kF.below bb kF.lt; replace tabs := tabs.below bb; replace kb := kb.trans (bb.mono hSB); replace hSB := Nat.le_trans hSB bb.size; clear bb))
  generalize w2.heap.size = BX at *
  refine (qY.out _ tabs).mono ?_
  rintro e w4 ⟨rfl, bb⟩
  replace kF := kF.below bb kF.lt
  replace kX := kX.below bb kX.lt
  replace tabs := tabs.below bb
  replace kb := kb.trans (bb.mono hSB)
  replace hSB := Nat.le_trans hSB bb.size
  clear bb
  go_wp2_with (first | ((with_reducible refine store_as rfl _ _ rfl (w0 := w4) (g2) rfl rfl ?_); intro w5 kY bb; replace kF := kF.below bb kF.lt; replace kX := kX.below bb kX.lt; replace tabs := tabs.below bb; replace kb := kb.trans (bb.mono hSB); replace hSB := Nat.le_trans hSB bb.size; clear bb))
  generalize w4.heap.size = BY at *
  clear kX kY qX qY hxb tabs hSB
  go_loopw [41] (fun i W => ∃ m : Nat, m ≤ 5 ∧ i = .int .i64 m ∧ Blk W N 24 (fl6 f) ∧ Below N w W) (fun i _ => 5 - (intOf i).toNat)
  case atStart => exact ⟨0, by omega, rfl, kF, kb⟩
  case round =>
    clear kF kb
    obtain ⟨m, hm, rfl, kF, kb⟩ := hrel
    have tabs := tabs0.below (hN ▸ kb)
    have hSB := kb.size
    rw [hN] at hSB
    by_cases hlt : m < 5
    · have hmi : (m : Int) < 5 := by omega
      have hix := ix_5 m hlt
      have hop : IsShift (21 + (m : Int)) := by unfold IsShift; omega
      generalize 21 + (m : Int) = K at hix hop
      have qV := Lib.hid (shift_gen K a k hop f k hk31 h (by omega) (by omega))
      have qU := Lib.hid (shift_gen K a ((k : Int) + 32) hop f k hk31 h (by omega) (by omega))
      have qS := Lib.hid (fun j (hj : j ≤ 30) (H : Nat → Bool) => show ShiftsTo K (resS K a j) 1 H (resS K a (j + 1)) (flS K (resS K a j) 1 H) from res_step K a hop h j hj ▸ shift_gen K (resS K a j) 1 hop H 1 (by decide) (res_bd K a hop h j (by omega)) (by decide) (by decide))
      have qT := Lib.hid (fun j (hj : j ≤ 30) (H : Nat → Bool) => fl_step K a hop h j hj H f)
      have hE := eqFl (flS K a k f)
      go_wp2_with (first | (with_reducible refine load_fl rfl _ rfl N f rfl kF ?_))
      refine (qV.out _ tabs).mono ?_
      rintro e w8 ⟨rfl, bb⟩
      replace kF := kF.below bb kF.lt
      replace tabs := tabs.below bb
      replace kb := kb.trans (bb.mono hSB)
      replace hSB := Nat.le_trans hSB bb.size
      clear bb
      have hNB := kF.lt
      go_upto_region 10 with (first | ((with_reducible refine store_as rfl _ _ rfl (w0 := w8) (flS K a k f) rfl rfl ?_); intro w9 kG bb; replace kF := kF.below bb kF.lt; replace tabs := tabs.below bb; replace kb := kb.trans (bb.mono hSB); replace hSB := Nat.le_trans hSB bb.size; clear bb))
      have hNC := kF.lt
      have hBC := kG.lt
      generalize w8.heap.size = B at *
      have f0 := kF.cell (i := 0) (v := .bool (f 0)) rfl
      have f1 := kF.cell (i := 1) (v := .bool (f 1)) rfl
      have f2 := kF.cell (i := 2) (v := .bool (f 2)) rfl
      have f3 := kF.cell (i := 3) (v := .bool (f 3)) rfl
      have f4 := kF.cell (i := 4) (v := .bool (f 4)) rfl
      have f5 := kF.cell (i := 5) (v := .bool (f 5)) rfl
      simp only [Act.put]
      go_cut [16, 17, 41] from 41 to 124 (fun t16 t17 t41 W => t16 = .int .u32 a ∧ t17 = .pointer (some ⟨w9.heap.size, 0, none⟩) ∧ t41 = .int .i64 m ∧ W = (w9.alloc (.cells (fl6 f) 24)).drew)
      case first =>
        go_region
        all_goals (go_wp2_with fail; go_meet; exact ⟨rfl, rfl, rfl, rfl⟩)
      case rest =>
        obtain ⟨rfl, rfl, rfl, rfl⟩ := hcut
        have kH := (Blk.new w9 24 (fl6 f)).drew
        replace kF := (kF.alloc (.cells (fl6 f) 24)).drew
        replace kG := (kG.alloc (.cells (fl6 f) 24)).drew
        replace kb := (kb.alloc hSB (.cells (fl6 f) 24)).drew
        clear f0 f1 f2 f3 f4 f5 tabs hSB
        generalize (w9.alloc (.cells (fl6 f) 24)).drew = wa at kH kF kG kb ⊢
        generalize w9.heap.size = C at *
        have hk4 : (0 : Nat) ≤ k := Nat.zero_le k
        go_wp2_with fail
        go_loopw [16, 18] (fun x16 x18 W => ∃ j : Nat, ∃ H : Nat → Bool, j ≤ k ∧ x16 = .int .u32 (resS K a j) ∧ x18 = .int .u32 j ∧ Blk W C 24 (fl6 H) ∧ Blk W B 24 (fl6 (flS K a k f)) ∧ Blk W N 24 (fl6 f) ∧ Below N w W ∧ After K a f j H) (fun _ x18 _ => k - (intOf x18).toNat)
        case atStart => exact ⟨0, f, hk4, by rw [res0], rfl, kH, kG, kF, kb, ⟨by rw [fl0], fun _ => by rw [fl0]; exact ⟨rfl, rfl, rfl⟩⟩⟩
        case round =>
          clear kH kG kF kb
          obtain ⟨j, H, hj, rfl, rfl, kH, kG, kF, kb, hA⟩ := hrel
          have tabs := tabs0.below (hN ▸ kb)
          have hSB := kb.size
          rw [hN] at hSB
          by_cases hlt2 : j < k
          · have hji : (j : Int) < (k : Int) := by omega
            have hj30 : j ≤ 30 := by omega
            have hj31 : (j : Int) ≤ 30 := by omega
            have q1 := Lib.hid (qS.out j hj30 H)
            obtain ⟨t1, t2⟩ := qT.out j hj30 H
            have t3 := Lib.hid (show After K a f (j + 1) (flS K (resS K a j) 1 H) from ⟨t1, t2⟩)
            clear t1 t2 qS qT qV qU hE hix
            generalize flS K (resS K a j) 1 H = H2 at *
            obtain ⟨r2, hr2⟩ : ∃ r2, r2 = resS K a (j + 1) := ⟨_, rfl⟩
            rw [← hr2] at q1
            replace hr2 := Lib.hid hr2
            go_wp2_with (first | (with_reducible refine load_fl rfl _ rfl C H rfl kH ?_))
            refine (q1.out _ tabs).mono ?_
            rintro e wb ⟨rfl, bb⟩
            replace kH := kH.below bb kH.lt
            replace kG := kG.below bb kG.lt
            replace kF := kF.below bb kF.lt
            replace tabs := tabs.below bb
            replace kb := kb.trans (bb.mono hSB)
            replace hSB := Nat.le_trans hSB bb.size
            clear bb
            have kH2 := kH.row (fl6 H2)
            have kG2 := kG.rowOther (fl6 H2) (M := C) (by omega)
            have kF2 := kF.rowOther (fl6 H2) (M := C) (by omega)
            have kb2 := below_rowNew kb (N := C) (by omega) (fl6 H2)
            go_wp2_with (first | (with_reducible refine store_put rfl _ _ rfl C H2 H rfl rfl kH ?_); intro wc hz; rw [← hz] at kH2 kG2 kF2 kb2; clear hz)
            go_roundw
            case rel => exact ⟨j + 1, H2, by omega, by rw [hr2.out], by go_num, kH2, kG2, kF2, kb2, t3.out⟩
            case measure => simp [intOf]; omega
          · obtain rfl : j = k := by omega
            have hjj : decide ((j : Int) < (j : Int)) = false := by simp
            obtain ⟨hA0, hA1⟩ := hA
            replace hA0 := Lib.hid hA0
            clear qS qT qV hix
            rcases Bool.eq_false_or_eq_true (decide (22 < K)) with hK22 | hK22
            · obtain ⟨hB1, hB3, hB4⟩ := hA1 (of_decide_eq_true hK22)
              replace hA1 := Lib.hid hB1
              replace hA3 := Lib.hid hB3
              replace hA4 := Lib.hid hB4
              clear hB1 hB3 hB4
              go_wp2_with (first | (with_reducible refine load_fl rfl _ rfl N f rfl kF ?_))
              refine (qU.out _ tabs).mono ?_
              rintro e wd ⟨rfl, bb⟩
              replace kH := kH.below bb kH.lt
              replace kG := kG.below bb kG.lt
              replace kF := kF.below bb kF.lt
              replace tabs := tabs.below bb
              replace kb := kb.trans (bb.mono hSB)
              replace hSB := Nat.le_trans hSB bb.size
              clear bb
              go_wp2_with (first | ((with_reducible refine store_as rfl _ _ rfl (w0 := wd) (flS K a j f) rfl rfl ?_); intro we kI bb; replace kH := kH.below bb kH.lt; replace kG := kG.below bb kG.lt; replace kF := kF.below bb kF.lt; replace tabs := tabs.below bb; replace kb := kb.trans (bb.mono hSB); replace hSB := Nat.le_trans hSB bb.size; clear bb; have g0 := kG.cell (i := 0) (v := .bool (flS K a j f 0)) rfl; have g1 := kG.cell (i := 1) (v := .bool (flS K a j f 1)) rfl; have g2 := kG.cell (i := 2) (v := .bool (flS K a j f 2)) rfl; have g3 := kG.cell (i := 3) (v := .bool (flS K a j f 3)) rfl; have g4 := kG.cell (i := 4) (v := .bool (flS K a j f 4)) rfl; have g5 := kG.cell (i := 5) (v := .bool (flS K a j f 5)) rfl; have i0 := kI.cell (i := 0) (v := .bool (flS K a j f 0)) rfl; have i1 := kI.cell (i := 1) (v := .bool (flS K a j f 1)) rfl; have i2 := kI.cell (i := 2) (v := .bool (flS K a j f 2)) rfl; have i3 := kI.cell (i := 3) (v := .bool (flS K a j f 3)) rfl; have i4 := kI.cell (i := 4) (v := .bool (flS K a j f 4)) rfl; have i5 := kI.cell (i := 5) (v := .bool (flS K a j f 5)) rfl; have c0 := kH.cell (i := 0) (v := .bool (flS K a j f 0)) (congrArg (fun x => some (Value.bool x)) hA0.out); have c1 := kH.cell (i := 1) (v := .bool (flS K a j f 1)) (congrArg (fun x => some (Value.bool x)) hA1.out); have c3 := kH.cell (i := 3) (v := .bool (flS K a j f 3)) (congrArg (fun x => some (Value.bool x)) hA3.out); have c4 := kH.cell (i := 4) (v := .bool (flS K a j f 4)) (congrArg (fun x => some (Value.bool x)) hA4.out)))
              all_goals exact ⟨⟨m + 1, by omega, by go_num, kF, kb⟩, by simp [intOf]; omega⟩
            · clear hA1
              go_wp2_with (first | (with_reducible refine load_fl rfl _ rfl N f rfl kF ?_))
              refine (qU.out _ tabs).mono ?_
              rintro e wd ⟨rfl, bb⟩
              replace kH := kH.below bb kH.lt
              replace kG := kG.below bb kG.lt
              replace kF := kF.below bb kF.lt
              replace tabs := tabs.below bb
              replace kb := kb.trans (bb.mono hSB)
              replace hSB := Nat.le_trans hSB bb.size
              clear bb
              go_wp2_with (first | ((with_reducible refine store_as rfl _ _ rfl (w0 := wd) (flS K a j f) rfl rfl ?_); intro we kI bb; replace kH := kH.below bb kH.lt; replace kG := kG.below bb kG.lt; replace kF := kF.below bb kF.lt; replace tabs := tabs.below bb; replace kb := kb.trans (bb.mono hSB); replace hSB := Nat.le_trans hSB bb.size; clear bb; have g0 := kG.cell (i := 0) (v := .bool (flS K a j f 0)) rfl; have g1 := kG.cell (i := 1) (v := .bool (flS K a j f 1)) rfl; have g2 := kG.cell (i := 2) (v := .bool (flS K a j f 2)) rfl; have g3 := kG.cell (i := 3) (v := .bool (flS K a j f 3)) rfl; have g4 := kG.cell (i := 4) (v := .bool (flS K a j f 4)) rfl; have g5 := kG.cell (i := 5) (v := .bool (flS K a j f 5)) rfl; have i0 := kI.cell (i := 0) (v := .bool (flS K a j f 0)) rfl; have i1 := kI.cell (i := 1) (v := .bool (flS K a j f 1)) rfl; have i2 := kI.cell (i := 2) (v := .bool (flS K a j f 2)) rfl; have i3 := kI.cell (i := 3) (v := .bool (flS K a j f 3)) rfl; have i4 := kI.cell (i := 4) (v := .bool (flS K a j f 4)) rfl; have i5 := kI.cell (i := 5) (v := .bool (flS K a j f 5)) rfl; have c0 := kH.cell (i := 0) (v := .bool (flS K a j f 0)) (congrArg (fun x => some (Value.bool x)) hA0.out)))
              all_goals exact ⟨⟨m + 1, by omega, by go_num, kF, kb⟩, by simp [intOf]; omega⟩
    · obtain rfl : m = 5 := by omega
      go_wp2
      go_ret
      subst hN
      exact ⟨rfl, kb⟩
end Go.Proofs.YtgeeecoclhomiaaDoor
