/- The document's products. -/
import Derived.Test.YtgeeecoclhomiaaDoorA7
namespace Go.Proofs.YtgeeecoclhomiaaDoor
open Go.RowKit
set_option linter.unusedVariables false
set_option linter.unusedSimpArgs false
set_option linter.unusedSectionVars false

theorem two_new (w : World) (g : Nat → Bool) : Blk (((w.alloc (.cells (fl6 g) 24)).alloc (.cells (fl6 g) 24)).drew) (w.heap.size + 1) 24 (fl6 g) := by simpa using (Blk.new (w.alloc (.cells (fl6 g) 24)) 24 (fl6 g)).drew
theorem two_below (w : World) (g : Nat → Bool) : Below w.heap.size w (((w.alloc (.cells (fl6 g) 24)).alloc (.cells (fl6 g) 24)).drew) := (((Below.refl _ _).alloc (Nat.le_refl _) _).alloc (by simp) _).drew
theorem rmul_u (a b : Int) (f : Nat → Bool) (h : 0 ≤ a ∧ a ≤ 4294967295) (hb : 0 ≤ b ∧ b ≤ 4294967295) : RMuls 16 a b f (loU a b) (hiU a b) (beyF f (hiU a b != 0)) := by
  intro w
  have qM : ∀ w, Calls Tryd.prog 26 #[.int .u32 a, .int .u32 b] w fun e w' => e = .returned (.tuple #[.int .u32 (loU a b), .int .u32 (hiU a b)]) ∧ w = w' := fun w => rmulU_any a b h hb w
  generalize loU a b = lo at *
  generalize hiU a b = hi at *
  replace qM := Lib.hid qM
  go_enter Tryd.func15, Tryd.ntmps15
  go_wp2_with (first | (with_reducible refine (qM.out _).mono ?_; rintro e w9 ⟨rfl, rfl⟩))
  go_region
  go_wp2
  refine bodyPost_ret (v := .tuple #[.int .u32 lo, .int .u32 hi, flV (beyF f (hi != 0))]) (res_ssc rfl _ _ (w.heap.size + 1) (beyF f (hi != 0)) _ _ rfl rfl rfl (two_new w (beyF f (hi != 0)))) rfl ⟨rfl, two_below w (beyF f (hi != 0))⟩
theorem rmul_s (a b : Int) (f : Nat → Bool) (h : 0 ≤ a ∧ a ≤ 4294967295) (hb : 0 ≤ b ∧ b ≤ 4294967295) : RMuls 17 a b f (loS a b) (hiS a b) (beyF f (hiS a b != signW (loS a b))) := by
  intro w
  have qM : ∀ w, Calls Tryd.prog 27 #[.int .u32 a, .int .u32 b] w fun e w' => e = .returned (.tuple #[.int .u32 (loS a b), .int .u32 (hiS a b)]) ∧ w = w' := fun w => rmulS_any a b w
  generalize loS a b = lo at *
  generalize hiS a b = hi at *
  unfold signW
  replace qM := Lib.hid qM
  go_enter Tryd.func15, Tryd.ntmps15
  go_wp2_with (first | (with_reducible refine (qM.out _).mono ?_; rintro e w9 ⟨rfl, rfl⟩))
  go_region
  go_wp2
  refine bodyPost_ret (v := .tuple #[.int .u32 lo, .int .u32 hi, flV (beyF f (hi != wrap32 lo / 2147483648 % 4294967296))]) (res_ssc rfl _ _ (w.heap.size + 1) (beyF f (hi != wrap32 lo / 2147483648 % 4294967296)) _ _ rfl rfl rfl (two_new w (beyF f (hi != wrap32 lo / 2147483648 % 4294967296)))) rfl ⟨rfl, two_below w (beyF f (hi != wrap32 lo / 2147483648 % 4294967296))⟩
theorem rmul_s2 (a b : Int) (f : Nat → Bool) (h : 0 ≤ a ∧ a ≤ 4294967295) (hb : 0 ≤ b ∧ b ≤ 4294967295) : RMuls 18 a b f (loS a b) 0 (beyF f (hiS a b != signW (loS a b))) := by
  intro w
  have qM : ∀ w, Calls Tryd.prog 27 #[.int .u32 a, .int .u32 b] w fun e w' => e = .returned (.tuple #[.int .u32 (loS a b), .int .u32 (hiS a b)]) ∧ w = w' := fun w => rmulS_any a b w
  generalize loS a b = lo at *
  generalize hiS a b = hi at *
  unfold signW
  replace qM := Lib.hid qM
  go_enter Tryd.func15, Tryd.ntmps15
  go_wp2_with (first | (with_reducible refine (qM.out _).mono ?_; rintro e w9 ⟨rfl, rfl⟩))
  go_region
  go_wp2
  refine bodyPost_ret (v := .tuple #[.int .u32 lo, .int .u32 0, flV (beyF f (hi != wrap32 lo / 2147483648 % 4294967296))]) (res_ssc rfl _ _ (w.heap.size + 1) (beyF f (hi != wrap32 lo / 2147483648 % 4294967296)) _ _ rfl rfl rfl (two_new w (beyF f (hi != wrap32 lo / 2147483648 % 4294967296)))) rfl ⟨rfl, two_below w (beyF f (hi != wrap32 lo / 2147483648 % 4294967296))⟩
theorem rmul_other (op a b : Int) (f : Nat → Bool) (h1 : (op == 16) = false) (h2 : (op == 17) = false) (h3 : (op == 18) = false) : RMuls op a b f a 0 f := by
  intro w
  have qM : ∀ w, Calls Tryd.prog 27 #[.int .u32 a, .int .u32 b] w fun e w' => e = .returned (.tuple #[.int .u32 (loS a b), .int .u32 (hiS a b)]) ∧ w = w' := fun w => rmulS_any a b w
  generalize loS a b = lo at *
  generalize hiS a b = hi at *
  have n2 : (op != 17) = true := by simp [bne, h2]
  have n3 : (op != 18) = true := by simp [bne, h3]
  replace qM := Lib.hid qM
  go_enter Tryd.func15, Tryd.ntmps15
  go_wp2_with (first | (with_reducible refine (qM.out _).mono ?_; rintro e w9 ⟨rfl, rfl⟩))
  go_region
  go_wp2
  refine bodyPost_ret (v := .tuple #[.int .u32 a, .int .u32 0, flV (f)]) (res_ssc rfl _ _ (w.heap.size + 1) (f) _ _ rfl rfl rfl (two_new w (f))) rfl ⟨rfl, two_below w (f)⟩
end Go.Proofs.YtgeeecoclhomiaaDoor
