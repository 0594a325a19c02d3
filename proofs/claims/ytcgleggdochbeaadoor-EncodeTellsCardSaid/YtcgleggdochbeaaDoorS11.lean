import Derived.Test.YtcgleggdochbeaaDoorS10
namespace Go.Proofs.YtcgleggdochbeaaDoor
open Go.RowKit
set_option linter.unusedVariables false
set_option linter.unusedSimpArgs false
set_option linter.unusedSectionVars false
theorem pow_scale (k : Int) (h : 0 ≤ k ∧ k < 4) : (2 : Int) ^ k.toNat % 4294967296 = 2 ^ k.toNat := by
 rcases (by omega : k = 0 ∨ k = 1 ∨ k = 2 ∨ k = 3) with rfl | rfl | rfl | rfl <;> decide
theorem scaled_no (s : Int) (h : 0 ≤ s ∧ s ≤ 4294967295) (hx : s / 8 % 8 = 4) (w : World) :
  Calls Tryd.prog 101 #[.int .u32 s] w fun e w' => e = .returned (.tuple #[.int .i64 (s % 8), .int .i64 (-1), .int .u32 1]) ∧ Below w.heap.size w w' := by
 have h1 := fun w => middle_any s h w
 have h2 := fun w => lowest3_any s h w
 have kd : Below w.heap.size w w := Below.refl _ _
 go_enter Tryd.func101, Tryd.ntmps101
 go_wp2_with (first | (go_at_call 92; refine (h1 _).mono ?_; rintro e w' ⟨rfl, rfl⟩) | (go_at_call 97; refine (h2 _).mono ?_; rintro e w' ⟨rfl, rfl⟩))
 go_ret3
 exact ⟨rfl, kd⟩
theorem scaled_yes (s : Int) (h : 0 ≤ s ∧ s ≤ 4294967295) (hx : ¬ s / 8 % 8 = 4) (w : World) :
  Calls Tryd.prog 101 #[.int .u32 s] w fun e w' => e = .returned (.tuple #[.int .i64 (s % 8), .int .i64 (s / 8 % 8), .int .u32 (2 ^ (s / 64 % 4).toNat)]) ∧ Below w.heap.size w w' := by
 have h1 := fun w => middle_any s h w
 have h2 := fun w => lowest3_any s h w
 have h3 := fun w => highest_any s h w
 have hp : IntKind.u32.wrap (2 ^ (s / 64 % 4).toNat) = 2 ^ (s / 64 % 4).toNat := by rw [IntKind.wrap_u32]; exact pow_scale (s / 64 % 4) (by omega)
 have hb : 0 ≤ s / 64 % 4 ∧ s / 64 % 4 < 4 := by omega
 have hm : min (s / 64 % 4).toNat 32 = (s / 64 % 4).toNat := by omega
 have kd : Below w.heap.size w w.drew := ⟨rfl, rfl, rfl, Nat.le_refl _, fun _ _ => rfl⟩
 generalize s / 64 % 4 = k at *
 generalize s / 8 % 8 = x at *
 generalize s % 8 = b at *
 go_enter Tryd.func101, Tryd.ntmps101
 go_wp2_with (first | (go_at_call 92; refine (h1 _).mono ?_; rintro e w' ⟨rfl, rfl⟩))
 refine wp_region_held_drew (S := fun W => Below w.heap.size w W) (by kernel_rfl) kd (fun hHeld => ?_)
 refine tk 0 ?_ ?_ hHeld ?_
 rotate_left
 ·intro W hS
  go_simp
  try rfl
 simp only [pT]
 refine tk 2 ?_ ?_ hHeld ?_
 rotate_left
 ·intro W hS
  go_simp
  try rfl
 simp only [pT]
 refine tk 4 ?_ ?_ hHeld ?_
 rotate_left
 ·intro W hS
  go_simp
  try rfl
 simp only [pT]
 refine rd 1 (fun K hK => ?_)
 go_simp
 with_reducible refine (h2 _).mono ?_
 rintro e w2 ⟨rfl, rfl⟩
 refine hK.out _ _ hHeld (fun _ => ?_)
 clear hK K
 try simp only [pS]
 refine rd 3 (fun K hK => ?_)
 go_simp
 with_reducible refine (h1 _).mono ?_
 rintro e w2 ⟨rfl, rfl⟩
 refine hK.out _ _ hHeld (fun _ => ?_)
 clear hK K
 try simp only [pS]
 refine rd 5 (fun K hK => ?_)
 go_simp
 with_reducible refine (h3 _).mono ?_
 rintro e w2 ⟨rfl, rfl⟩
 refine hK.out _ _ hHeld (fun _ => ?_)
 clear hK K
 try simp only [pS]
 refine tk 6 ?_ ?_ hHeld ?_
 rotate_left
 ·intro W hS
  go_simp
  try rfl
 simp only [pT]
 refine tk 7 ?_ ?_ hHeld ?_
 rotate_left
 ·intro W hS
  go_simp
  try rfl
 simp only [pT]
 refine tk 8 ?_ ?_ hHeld ?_
 rotate_left
 ·intro W hS
  go_simp
  try rfl
 simp only [pT]
 refine tk 9 ?_ ?_ hHeld ?_
 rotate_left
 ·intro W hS
  go_simp
  try rfl
 simp only [pT]
 refine wpAnyH_done (by kernel_rfl) ?_ _
 go_wp2
 go_ret3
 exact ⟨rfl, hHeld⟩
section
variable {w : World} {N B : Nat} {a : Option Addr} {len cap : Nat} {zs : List Int} {p : Nat} {c m : Int}
theorem sign8s_any (x : Int) (w : World) : Calls Tryd.prog 99 #[.int .u32 x] w fun e w' => e = .returned (.int .u32 (sx x)) ∧ w = w' := sign8_any x w
def distV (zs : List Int) (p : Nat) (how : Int) : Int := if how = 1 then sx (zs.getD p 0) else if how = 2 then le4 zs p else 0
def distN (how : Int) : Nat := if how = 1 then 1 else if how = 2 then 4 else 0
theorem distance_no (R : Rd w N B a len cap zs p c m) (how : Int) (h : ¬ p + distN how ≤ zs.length) :
  Calls Tryd.prog 102 #[rp B, .int .i64 how] w fun e w' => e = .panicked (errP 10) ∧ Below w.heap.size w w' := by
 by_cases h1 : how = 1
 ·subst h1
  have hn := next_no R 1 (.inl rfl) h
  go_enter Tryd.func102, Tryd.ntmps102
  go_wp2_with ((go_at_call 83; refine (hn).mono ?_); rintro e w1 ⟨rfl, k⟩)
  exact ⟨rfl, rfl, k⟩
 ·by_cases h2 : how = 2
  ·subst h2
   have hn := next_no R 4 (.inr rfl) h
   go_enter Tryd.func102, Tryd.ntmps102
   go_wp2_with ((go_at_call 83; refine (hn).mono ?_); rintro e w1 ⟨rfl, k⟩)
   exact ⟨rfl, rfl, k⟩
  ·have := R.pl
   have := R.len_eq
   unfold distN at h
   rw [if_neg h1, if_neg h2] at h
   omega
theorem distance_yes (R : Rd w N B a len cap zs p c m) (how : Int) (h : p + distN how ≤ zs.length) :
  Calls Tryd.prog 102 #[rp B, .int .i64 how] w fun e w' => e = .returned (.int .u32 (distV zs p how)) ∧ Rd w' N B a len cap zs (p + distN how) c m ∧ But [B] w.heap.size w w' := by
 by_cases h1 : how = 1
 ·subst h1
  have hn := next_yes R 1 (.inl rfl) h
  rw [num1] at hn
  have hb : distV zs p 1 = sx (zs.getD p 0) := rfl
  generalize zs.getD p 0 = z at *
  go_enter Tryd.func102, Tryd.ntmps102
  go_wp2_with (first | ((go_at_call 83; refine (hn).mono ?_); rintro e w1 ⟨rfl, k⟩) | (go_at_call 99; refine (sign8s_any _ _).mono ?_; rintro e w' ⟨rfl, rfl⟩))
  go_ret
  exact ⟨ret_int hb.symm, k⟩
 ·by_cases h2 : how = 2
  ·subst h2
   have hn := next_yes R 4 (.inr rfl) h
   rw [num4] at hn
   go_enter Tryd.func102, Tryd.ntmps102
   go_wp2_with (first | ((go_at_call 83; refine (hn).mono ?_); rintro e w1 ⟨rfl, k⟩))
   go_ret
   exact ⟨rfl, k⟩
  ·have e1 : distV zs p how = 0 := by unfold distV; rw [if_neg h1, if_neg h2]
   have e2 : distN how = 0 := by unfold distN; rw [if_neg h1, if_neg h2]
   rw [e1, e2]
   go_enter Tryd.func102, Tryd.ntmps102
   go_wp2
   go_ret
   exact ⟨rfl, R, But.refl _ _ _⟩
theorem next1_yes (R : Rd w N B a len cap zs p c m) (h : p + 1 ≤ zs.length) :
  Calls Tryd.prog 83 #[rp B, .int .i64 1] w fun e w' => e = .returned (.int .u32 (zs.getD p 0)) ∧ Rd w' N B a len cap zs (p + 1) c m ∧ But [B] w.heap.size w w' := next_yes R 1 (.inl rfl) h
theorem next4_yes (R : Rd w N B a len cap zs p c m) (h : p + 4 ≤ zs.length) :
  Calls Tryd.prog 83 #[rp B, .int .i64 4] w fun e w' => e = .returned (.int .u32 (le4 zs p)) ∧ Rd w' N B a len cap zs (p + 4) c m ∧ But [B] w.heap.size w w' := next_yes R 4 (.inr rfl) h
theorem next1_no (R : Rd w N B a len cap zs p c m) (h : ¬ p + 1 ≤ zs.length) :
  Calls Tryd.prog 83 #[rp B, .int .i64 1] w fun e w' => e = .panicked (errP 10) ∧ Below w.heap.size w w' := next_no R 1 (.inl rfl) h
theorem next4_no (R : Rd w N B a len cap zs p c m) (h : ¬ p + 4 ≤ zs.length) :
  Calls Tryd.prog 83 #[rp B, .int .i64 4] w fun e w' => e = .panicked (errP 10) ∧ Below w.heap.size w w' := next_no R 4 (.inr rfl) h
end
end Go.Proofs.YtcgleggdochbeaaDoor
