/- InsnPlaces. -/
import Derived.Test.YtobllhibicjbcaaDoorC7
namespace Go.Proofs.YtobllhibicjbcaaDoor
open Go.RowKit
set_option linter.unusedVariables false
set_option linter.unusedSimpArgs false
set_option linter.unusedSectionVars false

def fineB (b x s : Int) : Bool := decide (-1 ≤ b) && decide (b ≤ 7) && decide (-1 ≤ x) && decide (x ≤ 7) && x != 4 && (s == 1 || decide (0 ≤ x) && (s == 2 || s == 4 || s == 8))
theorem place_eq (b x s : Int) : ((b == -1 || isRegB b) && isIndexB x s) = fineB b x s := by
  unfold fineB isRegB isIndexB isRegB isScaleB
  rw [Bool.eq_iff_iff]
  by_cases h : x = -1
  · subst h
    simp
    omega
  · simp only [Bool.cond_eq_ite, beq_iff_eq, if_neg h]
    simp
    omega
theorem is_at (b x s v : Int) (q : Bool) (h : memA b x s = bif q then 8 else 0) : isB ⟨12, 0, ⟨3, 0, v, b, x, s⟩, ⟨0, 0, 0, 0, 0, 0⟩, false, 0⟩ = q := by
  have e : cA ⟨3, 0, v, b, x, s⟩ = memA b x s := rfl
  have e2 : isB ⟨12, 0, ⟨3, 0, v, b, x, s⟩, ⟨0, 0, 0, 0, 0, 0⟩, false, 0⟩ = takesB 5 (cA ⟨3, 0, v, b, x, s⟩) 1 := by
    have : ∀ t : Bool, (decide (0 ≤ (0 : Int)) && decide ((0 : Int) ≤ 15) && (rR (rowN 12) || !false) && knowsB (rowN 12) 0 && t) = t := by decide
    exact this _
  have k0 : takesB 5 0 1 = false := by kernel_rfl
  have k1 : takesB 5 8 1 = true := by kernel_rfl
  rw [e2, e, h]
  cases q
  · exact k0
  · exact k1
theorem is_place (b x s v : Int) : isB ⟨12, 0, ⟨3, 0, v, b, x, s⟩, ⟨0, 0, 0, 0, 0, 0⟩, false, 0⟩ = fineB b x s := by
  rw [← place_eq]
  exact is_at b x s v _ rfl
set_option maxHeartbeats 4000000 in
theorem places_walk (b x s v : Int) (w : World) (tabs : Tabs w) :
    Calls Tryd.prog 6 #[.int .i64 b, .int .i64 x, .int .u32 s, .int .u32 v] w fun e w' => e = .returned (.bool true) ∧ Below w.heap.size w w' := by
  have qI := Lib.hid (fun W tabs => (Is_any ⟨12, 0, ⟨3, 0, v, b, x, s⟩, ⟨0, 0, 0, 0, 0, 0⟩, false, 0⟩ W tabs))
  rw [is_place] at qI
  have o1 : (op6 ⟨3, 0, v, b, x, s⟩).all (·.oneCell') = true := by simp [Value.oneCell']
  have z1 : (op6 ⟨3, 0, v, b, x, s⟩).size = 6 := rfl
  go_enter Tryd.func6, Tryd.ntmps6
  go_wp2_with fail
  refine (known_any _ tabs).mono ?_
  rintro e w1 ⟨rfl, kb⟩
  replace tabs := tabs.below kb
  have hSB := kb.size
  go_upto_region 4 with (first | ((with_reducible refine store_op_as rfl _ _ rfl (w0 := w1) (op6 ⟨3, 0, v, b, x, s⟩) z1 o1 rfl rfl ?_); intro w2 kM bb; replace tabs := tabs.below bb; replace kb := kb.trans (bb.mono hSB); replace hSB := Nat.le_trans hSB bb.size; clear bb))
  generalize w1.heap.size = N at *
  simp only [Act.put]
  go_cut [10] from 17 to 60 (fun t10 W => t10 = .bool (fineB b x s) ∧ W = w2)
  case first =>
    go_wp2
    all_goals subst_vars
    all_goals go_meet
    all_goals refine ⟨?_, rfl⟩
    all_goals refine congrArg Value.bool ?_
    all_goals clear kM qI o1 z1 tabs kb hSB
    all_goals unfold fineB
    all_goals (first | (simp [*]; done) | (rw [Bool.eq_iff_iff]; simp [*]; done) | (rw [Bool.eq_iff_iff]; simp [*]; omega))
  case rest =>
    obtain ⟨rfl, rfl⟩ := hcut
    go_wp2_with (first | (with_reducible refine load_opG (by kernel_rfl) _ rfl N rfl (op6 ⟨3, 0, v, b, x, s⟩) z1 kM ?_) | ((with_reducible refine (qI.out _ tabs).mono ?_); rintro e w3 ⟨rfl, bb⟩; replace kb := kb.trans (bb.mono hSB)))
    go_ret
    exact ⟨rfl, kb⟩
end Go.Proofs.YtobllhibicjbcaaDoor
