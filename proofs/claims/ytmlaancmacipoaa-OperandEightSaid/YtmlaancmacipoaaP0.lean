/- The small calls of package page: pages, rights. -/
import Derived.Test.YtmlaancmacipoaaM0
import Derived.Test.YtmlaancmacipoaaChecked
import Derived.Deep.MidRow
namespace Go.Proofs.Ytmlaancmacipoaa
open Go.RowKit
set_option linter.unusedVariables false
set_option linter.unusedSimpArgs false
set_option linter.unusedSectionVars false

theorem hid {p : Prop} (h : p) : RowKit.Hid p := h
abbrev mp (B : Nat) : Value := .pointer (some ⟨B, 0, none⟩)
abbrev PAt (w : World) (B : Nat) (m : Mm) : Prop := MAt 78 w B m
set_option maxRecDepth 8000 in
theorem cutR (B : Nat) (p n : Nat) (h0 : p < 64) (hle : p + n ≤ 64) (W : World) : (Instr.sliceAt 61 (.pointer (some ⟨B, 0, none⟩)) (some (.int .i64 (p : Int))) (some (.int .i64 ((p : Int) + n))) none).run Try.prog W = .ok (.slice (some ⟨B, p, none⟩) n (64 - p)) W := by
  have hl : Try.prog.arrayLen 61 = 64 := by kernel_rfl
  have hs : (sizeOf (Try.prog.elem 61)).run Try.prog W = .ok 1 W := by kernel_rfl
  rw [run_sliceAt_array_lh W _ _ (by kernel_rfl) _ _ _ _ (by omega) (by omega) (by rw [hl]; omega), hs, hl]
  have e : ((p : Int)).toNat = p := by omega
  have e2 : ((p : Int) + n).toNat = p + n := by omega
  simp only [Result.andThen, slicedAt, e, e2]
  rw [if_neg (by omega)]
  simp [Addr.add]
  intro h; omega
set_option maxRecDepth 8000 in
theorem cutB (k : IntKind) (B a n : Nat) (hle : a + n ≤ 16384) (h0 : a < 16384) (W : World) : (Instr.sliceAt 62 (.pointer (some ⟨B, 64, none⟩)) (some (.int k (a : Int))) (some (.int .i64 ((a : Int) + n))) none).run Try.prog W = .ok (.slice (some ⟨B, 64 + a, none⟩) n (16384 - a)) W := by
  have hl : Try.prog.arrayLen 62 = 16384 := by kernel_rfl
  have hs : (sizeOf (Try.prog.elem 62)).run Try.prog W = .ok 1 W := by kernel_rfl
  rw [run_sliceAt_array_lh W _ _ (by kernel_rfl) _ _ _ _ (by omega) (by omega) (by rw [hl]; omega), hs, hl]
  have e : ((a : Int)).toNat = a := by omega
  have e2 : ((a : Int) + n).toNat = a + n := by omega
  simp only [Result.andThen, slicedAt, e, e2]
  rw [if_neg (by omega)]
  simp [Addr.add]
set_option maxRecDepth 8000 in
theorem cutL (k : IntKind) (B a : Nat) (hle : a < 16384) (W : World) : (Instr.sliceAt 62 (.pointer (some ⟨B, 64, none⟩)) (some (.int k (a : Int))) none none).run Try.prog W = .ok (.slice (some ⟨B, 64 + a, none⟩) (16384 - a) (16384 - a)) W := by
  have hl : Try.prog.arrayLen 62 = 16384 := by kernel_rfl
  have hs : (sizeOf (Try.prog.elem 62)).run Try.prog W = .ok 1 W := by kernel_rfl
  rw [run_sliceAt_array_l W _ _ (by kernel_rfl) _ _ (by omega) (by rw [hl]; omega), hs, hl]
  have e : ((a : Int)).toNat = a := by omega
  simp only [Result.andThen, slicedAt, e]
  rw [if_neg (by omega)]
  simp [Addr.add]
theorem isPage_any (p : Int) (w : World) : Calls Try.prog 47 #[.int .i64 p] w fun e w' => e = .returned (.bool (decide (0 ≤ p) && decide (p < 64))) ∧ w = w' := by
  go_enter Try.func47, Try.ntmps47
  go_wp2
  all_goals (go_ret; refine ⟨ret_bool ?_, rfl⟩; first | (simp_all; done) | (simp_all; omega) | (simp; omega))
theorem areR_any (v : Int) (w : World) : Calls Try.prog 39 #[.int .i64 v] w fun e w' => e = .returned (.bool (areL v)) ∧ w = w' := by
  unfold areL
  go_enter Try.func39, Try.ntmps39
  go_wp2
  all_goals (go_ret; refine ⟨ret_bool ?_, rfl⟩; first | (simp_all; done) | (simp_all; omega) | (simp; omega))
def numL (n : Int) : Nat := if n = 1 then 1 else if n = 2 then 2 else 4
def singleL (v : Int) : Int := if v = 2 then 2 else if v = 4 then 4 else 1
theorem number_any (n : Int) (w : World) : Calls Try.prog 60 #[.int .i64 n] w fun e w' => e = .returned (.int .i64 (numL n : Nat)) ∧ w = w' := by
  go_enter Try.func60, Try.ntmps60
  go_wp2
  all_goals (go_ret; refine ⟨ret_int ?_, rfl⟩; first | (simp_all [numL]; done) | (simp_all [numL]; omega))
theorem single_any (n : Int) (w : World) : Calls Try.prog 63 #[.int .i64 n] w fun e w' => e = .returned (.int .i64 (singleL n)) ∧ w = w' := by
  go_enter Try.func63, Try.ntmps63
  go_wp2
  all_goals (go_ret; refine ⟨ret_int ?_, rfl⟩; first | (simp_all [singleL]; done) | (simp_all [singleL]; omega))
/-- The rights of a page, of a place. -/
def rightsL (m : Mm) (p : Int) : Int := if 0 ≤ p ∧ p < 64 then m.r p.toNat else 0
def placeL (m : Mm) (a : Int) : Int := m.r (a / 256).toNat
theorem Rights_any {B : Nat} {m : Mm} {w : World} (h : PAt w B m) (p : Int) : Calls Try.prog 28 #[mp B, .int .i64 p] w fun e w' => e = .returned (.int .i64 (rightsL m p)) ∧ w = w' := by
  unfold rightsL
  have hi := fun w => isPage_any p w
  by_cases hp : 0 ≤ p ∧ p < 64
  · obtain ⟨k, rfl⟩ := Int.eq_ofNat_of_zero_le hp.1
    rw [if_pos hp, Int.toNat_natCast]
    have hc := h.r k (by omega)
    rw [decide_eq_true hp.1, decide_eq_true hp.2] at hi
    have hk : k < 64 := by omega
    clear hp
    go_enter Try.func28, Try.ntmps28
    go_wp2_with (first | (go_at_call 47; refine (hi _).mono ?_; rintro e w' ⟨rfl, rfl⟩))
    all_goals (go_ret; exact ⟨rfl, rfl⟩)
  · rw [if_neg hp]
    rw [show (decide (0 ≤ p) && decide (p < 64)) = false by simp; omega] at hi
    go_enter Try.func28, Try.ntmps28
    go_wp2_with (first | (go_at_call 47; refine (hi _).mono ?_; rintro e w' ⟨rfl, rfl⟩))
    all_goals (go_ret; exact ⟨rfl, rfl⟩)
theorem rightsAt_any {B : Nat} {m : Mm} {w : World} (h : PAt w B m) (ok : m.ok) (a : Int) (ha : 0 ≤ a ∧ a ≤ 4294967295) : Calls Try.prog 61 #[mp B, .int .u32 a] w fun e w' => e = .returned (.int .i64 (placeL m a)) ∧ w = w' := by
  have hr := Rights_any h (a / 256)
  have he : rightsL m (a / 256) = placeL m a := by
    unfold rightsL placeL
    split
    · rfl
    · rw [ok.out _ (by omega)]
  rw [he] at hr
  clear he
  go_enter Try.func61, Try.ntmps61
  go_wp2_with fail
  go_at_call 28
  refine hr.mono ?_
  rintro e w' ⟨rfl, rfl⟩
  go_wp2_with fail
  go_ret
  exact ⟨rfl, rfl⟩
end Go.Proofs.Ytmlaancmacipoaa
