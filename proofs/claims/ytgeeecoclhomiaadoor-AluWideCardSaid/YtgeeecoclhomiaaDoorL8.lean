/- AluWide. -/
import Derived.Test.YtgeeecoclhomiaaDoorKB
import Derived.Test.YtgeeecoclhomiaaDoorA8
import Derived.Test.YtgeeecoclhomiaaDoorA10
namespace Go.Proofs.YtgeeecoclhomiaaDoor
open Go.RowKit
set_option linter.unusedVariables false
set_option linter.unusedSimpArgs false
set_option linter.unusedSectionVars false

theorem mul_same (op a b : Int) (f : Nat → Bool) (h : 0 ≤ a ∧ a ≤ 4294967295) (hb : 0 ≤ b ∧ b ≤ 4294967295) : ∃ x y : Int, ∃ g : Nat → Bool, Muls op a b f x y g ∧ RMuls op a b f x y g := by
  by_cases h1 : op = 16
  · subst h1; exact ⟨_, _, _, mul_u a b f h hb, rmul_u a b f h hb⟩
  by_cases h2 : op = 17
  · subst h2; exact ⟨_, _, _, mul_s a b f h hb, rmul_s a b f h hb⟩
  by_cases h3 : op = 18
  · subst h3; exact ⟨_, _, _, mul_s2 a b f h hb, rmul_s2 a b f h hb⟩
  have k1 : (op == 16) = false := by simpa using h1
  have k2 : (op == 17) = false := by simpa using h2
  have k3 : (op == 18) = false := by simpa using h3
  exact ⟨_, _, _, mul_other op a b f k1 k2 k3, rmul_other op a b f k1 k2 k3⟩
theorem div_same (op lo hi d : Int) (h : 0 ≤ lo ∧ lo ≤ 4294967295) (hb : 0 ≤ hi ∧ hi ≤ 4294967295) (hd : 0 ≤ d ∧ d ≤ 4294967295) : ∃ q r : Int, ∃ ok : Bool, Divs op lo hi d q r ok ∧ RDivs op lo hi d q r ok := by
  by_cases h0 : d = 0
  · subst h0; exact ⟨_, _, _, div_zero op lo hi h hb, rdiv_zero op lo hi h hb⟩
  have hd1 : 0 < d ∧ d ≤ 4294967295 := by omega
  by_cases h1 : op = 19
  · subst h1
    obtain ⟨n, hn⟩ : ∃ n, n = hi * 4294967296 + lo := ⟨_, rfl⟩
    have hnb : 0 ≤ n ∧ n ≤ 18446744073709551615 := by omega
    have q0 : 0 ≤ n / d := Int.ediv_nonneg hnb.1 hd.1
    have he : (n / d != n / d % 4294967296) = (n / d / 4294967296 != 0) := by
      rw [Bool.eq_iff_iff]; simp only [bne_iff_ne, ne_eq]; omega
    cases hq : (n / d / 4294967296 != 0)
    · exact ⟨_, _, _, div_u lo hi d _ _ true h hb hd1 (fun w => by rw [← hn]; exact divided_yes n d hnb hd1 (he.trans hq) w), rdiv_u_yes lo hi d n hn h hb hd1 hq⟩
    · exact ⟨_, _, _, div_u lo hi d _ _ false h hb hd1 (fun w => by rw [← hn]; exact divided_no n d hnb hd1 (he.trans hq) w), rdiv_u_no lo hi d n hn h hb hd1 hq⟩
  by_cases h2 : op = 20
  · subst h2
    have hmb : -9223372036854775808 ≤ wrap64 (hi * 4294967296 + lo) ∧ wrap64 (hi * 4294967296 + lo) ≤ 9223372036854775807 := by unfold wrap64; omega
    have heb := bd32 d
    have he0 : wrap32 d ≠ 0 := by unfold wrap32; omega
    have hD := fun q r ok => div_s lo hi d q r ok h hb hd1
    have hY := rdiv_s_yes lo hi d _ _ _ rfl rfl rfl h hb hd1
    have hN := rdiv_s_no lo hi d _ _ _ rfl rfl rfl h hb hd1
    generalize wrap64 (hi * 4294967296 + lo) = m at *
    generalize wrap32 d = e at *
    cases hq : (wrap64 (m.tdiv e) != wrap64 (wrap32 (wrap64 (m.tdiv e))))
    · refine ⟨_, _, true, hD _ _ true (fun w => dividedSigned_yes m e hmb heb he0 hq w), hY ?_ hq⟩
      cases c : (e == -1 && m == -9223372036854775808)
      · rfl
      · exfalso
        simp only [Bool.and_eq_true, beq_iff_eq] at c
        rw [c.1, c.2] at hq
        revert hq
        rw [show Int.tdiv (-9223372036854775808) (-1) = 9223372036854775808 by decide]
        unfold wrap64 wrap32
        decide
    · refine ⟨_, _, false, hD _ _ false (fun w => dividedSigned_no m e hmb heb he0 hq w), hN ?_⟩
      cases c : (e == -1 && m == -9223372036854775808)
      · exact .inr ⟨rfl, hq⟩
      · exact .inl rfl
  have k1 : (op == 19) = false := by simpa using h1
  have k2 : (op == 20) = false := by simpa using h2
  exact ⟨_, _, _, div_other op lo hi d h hb k1 k2, rdiv_other op lo hi d h hb k1 k2⟩
set_option maxHeartbeats 4000000 in
theorem wide_walk (op a b c : Int) (f : Nat → Bool) (h : 0 ≤ a ∧ a ≤ 4294967295) (hb : 0 ≤ b ∧ b ≤ 4294967295) (hc : 0 ≤ c ∧ c ≤ 4294967295) (w : World) (tabs : Tabs w) :
    Calls Tryd.prog 3 #[.int .i64 op, .int .u32 a, .int .u32 b, .int .u32 c, flV f] w fun e w' => e = .returned (.bool true) ∧ Below w.heap.size w w' := by
  obtain ⟨x, y, g, qA, qB⟩ := mul_same op a b f h hb
  obtain ⟨q, r, ok, qC, qD⟩ := div_same op a b c h hb hc
  have hE : ∀ W, (Op.equalIn 9999 24 (.agg #[.bool (g 0), .bool (g 1), .bool (g 2), .bool (g 3), .bool (g 4), .bool (g 5)]) (.agg #[.bool (g 0), .bool (g 1), .bool (g 2), .bool (g 3), .bool (g 4), .bool (g 5)])).run Tryd.prog W = .ok true W := by
    intro W
    cases g 0 <;> cases g 1 <;> cases g 2 <;> cases g 3 <;> cases g 4 <;> cases g 5 <;> kernel_rfl
  replace qA := Lib.hid qA
  replace qB := Lib.hid qB
  replace qC := Lib.hid qC
  replace qD := Lib.hid qD
  have kb := (Below.refl w.heap.size w).alloc (Nat.le_refl _) (.cells (fl6 f) 24)
  replace tabs := tabs.below kb
  have hSB := kb.size
  have kF := Blk.new w 24 (fl6 f)
  go_enter Tryd.func3, Tryd.ntmps3
  go_wp2_with fail
  generalize w.alloc (.cells (fl6 f) 24) = w0 at kb tabs hSB kF ⊢
  generalize hN : w.heap.size = N at *
  refine (knownA _ tabs).mono ?_
  rintro e w1 ⟨rfl, bb⟩
  replace kF := kF.below bb kF.lt
  replace tabs := tabs.below bb
  replace kb := kb.trans (bb.mono hSB)
  replace hSB := Nat.le_trans hSB bb.size
  clear bb
  go_wp2_with (first | (with_reducible refine load_fl rfl _ rfl N f rfl kF ?_))
  refine (qA.out _ tabs).mono ?_
  rintro e w2 ⟨rfl, bb⟩
  replace kF := kF.below bb kF.lt
  replace tabs := tabs.below bb
  replace kb := kb.trans (bb.mono hSB)
  replace hSB := Nat.le_trans hSB bb.size
  clear bb
  go_wp2_with (first | (with_reducible refine load_fl rfl _ rfl N f rfl kF ?_) | ((with_reducible refine store_as rfl _ _ rfl (w0 := w2) (g) rfl rfl ?_); intro w3 kG bb; replace kF := kF.below bb kF.lt; replace tabs := tabs.below bb; replace kb := kb.trans (bb.mono hSB); replace hSB := Nat.le_trans hSB bb.size; clear bb))
  generalize w2.heap.size = BG at *
  refine (qB.out _).mono ?_
  rintro e w4 ⟨rfl, bb⟩
  replace kF := kF.below bb kF.lt
  replace kG := kG.below bb kG.lt
  replace tabs := tabs.below bb
  replace kb := kb.trans (bb.mono hSB)
  replace hSB := Nat.le_trans hSB bb.size
  clear bb
  go_wp2_with (first | ((with_reducible refine store_as rfl _ _ rfl (w0 := w4) (g) rfl rfl ?_); intro w5 kH bb; replace kF := kF.below bb kF.lt; replace kG := kG.below bb kG.lt; replace tabs := tabs.below bb; replace kb := kb.trans (bb.mono hSB); replace hSB := Nat.le_trans hSB bb.size; clear bb))
  generalize w4.heap.size = BH at *
  refine (qC.out _).mono ?_
  rintro e w6 ⟨rfl, bb⟩
  replace kF := kF.below bb kF.lt
  replace kG := kG.below bb kG.lt
  replace kH := kH.below bb kH.lt
  replace tabs := tabs.below bb
  replace kb := kb.trans (bb.mono hSB)
  replace hSB := Nat.le_trans hSB bb.size
  clear bb
  go_wp2_with fail
  refine (qD.out _).mono ?_
  rintro e w7 ⟨rfl, bb⟩
  replace kF := kF.below bb kF.lt
  replace kG := kG.below bb kG.lt
  replace kH := kH.below bb kH.lt
  replace tabs := tabs.below bb
  replace kb := kb.trans (bb.mono hSB)
  replace hSB := Nat.le_trans hSB bb.size
  clear bb
  have c0 := kG.cell (i := 0) (v := .bool (g 0)) rfl
  have d0 := kH.cell (i := 0) (v := .bool (g 0)) rfl
  have c1 := kG.cell (i := 1) (v := .bool (g 1)) rfl
  have d1 := kH.cell (i := 1) (v := .bool (g 1)) rfl
  have c2 := kG.cell (i := 2) (v := .bool (g 2)) rfl
  have d2 := kH.cell (i := 2) (v := .bool (g 2)) rfl
  have c3 := kG.cell (i := 3) (v := .bool (g 3)) rfl
  have d3 := kH.cell (i := 3) (v := .bool (g 3)) rfl
  have c4 := kG.cell (i := 4) (v := .bool (g 4)) rfl
  have d4 := kH.cell (i := 4) (v := .bool (g 4)) rfl
  have c5 := kG.cell (i := 5) (v := .bool (g 5)) rfl
  have d5 := kH.cell (i := 5) (v := .bool (g 5)) rfl
  go_wp2_with fail

  all_goals first | (go_ret; subst hN; exact ⟨rfl, kb⟩)
end Go.Proofs.YtgeeecoclhomiaaDoor
