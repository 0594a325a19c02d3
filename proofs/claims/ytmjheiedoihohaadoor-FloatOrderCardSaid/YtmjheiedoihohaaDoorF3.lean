import Derived.Test.YtmjheiedoihohaaDoorF2
namespace Go.Proofs.YtmjheiedoihohaaDoor
open Go.RowKit
set_option linter.unusedVariables false

def isNan (n : Nat) : Bool := decide (9218868437227405312 < absN n)
def ordN (a b : Nat) : Option Ordering := FloatKind.f64.format.order a b
def zf (a b : Nat) : Bool := isNan a || isNan b || (ordN a b == some .eq)
def pf (a b : Nat) : Bool := isNan a || isNan b
def cf (a b : Nat) : Bool := isNan a || isNan b || (ordN a b == some .lt)

theorem kind4 (n : Nat) : ((kindN n : Int) == 4) = isNan n := by
  unfold isNan kindN
  rw [Bool.eq_iff_iff, beq_iff_eq, decide_eq_true_iff]
  split <;> (try split) <;> (try split) <;> (try split) <;> omega
theorem ret_bbb {a b c d e f : Bool} (h : a = d) (h1 : b = e) (h2 : c = f) : Ending.returned (.tuple #[.bool a, .bool b, .bool c]) = .returned (.tuple #[.bool d, .bool e, .bool f]) := by rw [h, h1, h2]

theorem compare_any (a b : Nat) (ha : a < 18446744073709551616) (hb : b < 18446744073709551616) (w : World) (tabs : Tabs w) : Calls Tryd.prog 12 #[.int .u64 a, .int .u64 b] w fun e w' =>
    e = .returned (.tuple #[.bool (zf a b), .bool (pf a b), .bool (cf a b)]) ∧ Below w.heap.size w w' := by
  have ka := kind4 a
  have kb := kind4 b
  have f1 := fun w => run_from a w
  have f2 := fun w => run_from b w
  have hz : zf a b = (isNan a || isNan b || (FloatKind.f64.format.order a b == some .eq)) := rfl
  have hp : pf a b = (isNan a || isNan b) := rfl
  have hc : cf a b = (isNan a || isNan b || (FloatKind.f64.format.order a b == some .lt)) := rfl
  generalize zf a b = Z at *
  generalize pf a b = P at *
  generalize cf a b = C at *
  rcases h1 : isNan a with _ | _ <;> rcases h2 : isNan b with _ | _ <;> rw [h1] at ka hz hp hc <;> rw [h2] at kb hz hp hc <;> clear h1 h2
  all_goals simp only [Bool.true_or, Bool.false_or, Bool.or_true, Bool.or_false] at hz hp hc
  all_goals rw [hz, hp, hc]; clear hz hp hc
  all_goals
    go_enter Tryd.func12, Tryd.ntmps12
    go_wp2_with fail
    refine (kind_any a ha _ tabs).mono ?_
    rintro e w' ⟨rfl, b1⟩
    go_wp2_with fail
    try (refine (kind_any b hb _ (tabs.below b1)).mono ?_
         rintro e w'' ⟨rfl, b2⟩
         have b3 := b1.trans (b2.mono b1.size)
         go_wp2_with fail)
    go_ret3
    exact ⟨rfl, by assumption⟩
theorem rcompare_any (a b : Nat) (ha : a < 18446744073709551616) (hb : b < 18446744073709551616) (w : World) : Calls Tryd.prog 13 #[.int .u64 a, .int .u64 b] w fun e w' =>
    e = .returned (.tuple #[.bool (zf a b), .bool (pf a b), .bool (cf a b)]) ∧ Below w.heap.size w w' := by
  have hz : zf a b = (isNan a || isNan b || (FloatKind.f64.format.order a b == some .eq)) := rfl
  have hp : pf a b = (isNan a || isNan b) := rfl
  have hc : cf a b = (isNan a || isNan b || (FloatKind.f64.format.order a b == some .lt)) := rfl
  have ra : ∀ w, Calls Tryd.prog 27 #[.int .u64 a] w fun e w' => e = .returned (.bool (isNan a)) ∧ w = w' := fun w => rnone_any a ha w
  have rb : ∀ w, Calls Tryd.prog 27 #[.int .u64 b] w fun e w' => e = .returned (.bool (isNan b)) ∧ w = w' := fun w => rnone_any b hb w
  generalize zf a b = Z at *
  generalize pf a b = P at *
  generalize cf a b = C at *
  rcases h1 : isNan a with _ | _ <;> rcases h2 : isNan b with _ | _ <;> rw [h1] at ra hz hp hc <;> rw [h2] at rb hz hp hc <;> clear h1 h2
  all_goals simp only [Bool.true_or, Bool.false_or, Bool.or_true, Bool.or_false] at hz hp hc
  all_goals rw [hz, hp, hc]; clear hz hp hc
  all_goals
    go_enter Tryd.func13, Tryd.ntmps13
    go_wp2_with (first | (go_at_call 27; refine (ra _).mono ?_; rintro e w' ⟨rfl, rfl⟩) | (go_at_call 27; refine (rb _).mono ?_; rintro e w' ⟨rfl, rfl⟩) | (go_at_call 28; refine (num_any _ _).mono ?_; rintro e w' ⟨rfl, rfl⟩))
    go_ret3
    exact ⟨rfl, Below.refl _ _⟩
end Go.Proofs.YtmjheiedoihohaaDoor
