import Derived.Test.YtcdoidnfdkodoaaGreatDoorS17
namespace Go.Proofs.YtcdoidnfdkodoaaGreatDoor
open Go.RowKit
set_option linter.unusedVariables false
set_option linter.unusedSimpArgs false
set_option linter.unusedSectionVars false
theorem pow_scale (k : Int) (h : 0 ≤ k ∧ k < 4) : (2 : Int) ^ k.toNat % 4294967296 = 2 ^ k.toNat := by
  rcases (by omega : k = 0 ∨ k = 1 ∨ k = 2 ∨ k = 3) with rfl | rfl | rfl | rfl <;> decide
theorem scaled_no (s : Int) (h : 0 ≤ s ∧ s ≤ 4294967295) (hx : s / 8 % 8 = 4) (w : World) :
    Calls Tryz.prog 274 #[.int .u32 s] w fun e w' => e = .returned (.tuple #[.int .i64 (s % 8), .int .i64 (-1), .int .u32 1]) ∧ Below w.heap.size w w' := by
  have h1 := fun w => middle_any s h w
  have h2 := fun w => lowest3_any s h w
  have kd : Below w.heap.size w w := Below.refl _ _
  go_enter Tryz.func274, Tryz.ntmps274
  go_wp2_with (first | (go_at_call 266; refine (h1 _).mono ?_; rintro e w' ⟨rfl, rfl⟩) | (go_at_call 269; refine (h2 _).mono ?_; rintro e w' ⟨rfl, rfl⟩))
  go_ret3
  exact ⟨rfl, kd⟩
theorem scaled_yes (s : Int) (h : 0 ≤ s ∧ s ≤ 4294967295) (hx : ¬ s / 8 % 8 = 4) (w : World) :
    Calls Tryz.prog 274 #[.int .u32 s] w fun e w' => e = .returned (.tuple #[.int .i64 (s % 8), .int .i64 (s / 8 % 8), .int .u32 (2 ^ (s / 64 % 4).toNat)]) ∧ Below w.heap.size w w' := by
  have h1 := fun w => middle_any s h w
  have h2 := fun w => lowest3_any s h w
  have h3 := fun w => highest_any s h w
  have hp : IntKind.u32.wrap (2 ^ (s / 64 % 4).toNat) = 2 ^ (s / 64 % 4).toNat := by rw [IntKind.wrap_u32]; exact pow_scale (s / 64 % 4) (by omega)
  have hb : 0 ≤ s / 64 % 4 ∧ s / 64 % 4 < 4 := by omega
  have hm : min (s / 64 % 4).toNat 32 = (s / 64 % 4).toNat := by omega
  have kd : Below w.heap.size w w.drew := ⟨rfl, rfl, rfl, Nat.le_refl _, fun _ _ => rfl⟩
  generalize s / 64 % 4 = k at *
  generalize s / 8 % 8 = x at *
  generalize s % 8 = b at *
  go_enter Tryz.func274, Tryz.ntmps274
  go_wp2_with (first | (go_at_call 266; refine (h1 _).mono ?_; rintro e w' ⟨rfl, rfl⟩))
  refine wp_region_held_drew (S := fun W => Below w.heap.size w W) (by kernel_rfl) kd (fun hHeld => ?_)
  refine wpAnyH_take (i := 0) (v := ?_) rfl (by kernel_rfl) (by kernel_rfl) (by kernel_rfl) (fun _ _ _ h => h) (Or.inl ⟨by kernel_rfl, ?_⟩) hHeld ?_
  rotate_left
  · intro W hS
    go_simp
    try rfl
  simp only [Act.put, List.setIfInBounds_toArray, List.set_cons_zero, List.set_cons_succ, List.getElem_toArray, List.getElem_cons_succ, List.getElem_cons_zero]
  refine wpAnyH_take (i := 2) (v := ?_) rfl (by kernel_rfl) (by kernel_rfl) (by kernel_rfl) (fun _ _ _ h => h) (Or.inl ⟨by kernel_rfl, ?_⟩) hHeld ?_
  rotate_left
  · intro W hS
    go_simp
    try rfl
  simp only [Act.put, List.setIfInBounds_toArray, List.set_cons_zero, List.set_cons_succ, List.getElem_toArray, List.getElem_cons_succ, List.getElem_cons_zero]
  refine wpAnyH_take (i := 4) (v := ?_) rfl (by kernel_rfl) (by kernel_rfl) (by kernel_rfl) (fun _ _ _ h => h) (Or.inl ⟨by kernel_rfl, ?_⟩) hHeld ?_
  rotate_left
  · intro W hS
    go_simp
    try rfl
  simp only [Act.put, List.setIfInBounds_toArray, List.set_cons_zero, List.set_cons_succ, List.getElem_toArray, List.getElem_cons_succ, List.getElem_cons_zero]
  refine wpAnyH_ready (rs := [1]) (by kernel_rfl) (by simp) ?_
  refine AllReadyH.cons rfl (fun K hK => ?_) AllReadyH.nil
  go_simp
  with_reducible refine (h2 _).mono ?_
  rintro e w2 ⟨rfl, rfl⟩
  refine hK.out _ _ hHeld (fun _ => ?_)
  clear hK K
  try simp only [Act.put, List.setIfInBounds_toArray, List.set_cons_zero, List.set_cons_succ]
  refine wpAnyH_ready (rs := [3]) (by kernel_rfl) (by simp) ?_
  refine AllReadyH.cons rfl (fun K hK => ?_) AllReadyH.nil
  go_simp
  with_reducible refine (h1 _).mono ?_
  rintro e w2 ⟨rfl, rfl⟩
  refine hK.out _ _ hHeld (fun _ => ?_)
  clear hK K
  try simp only [Act.put, List.setIfInBounds_toArray, List.set_cons_zero, List.set_cons_succ]
  refine wpAnyH_ready (rs := [5]) (by kernel_rfl) (by simp) ?_
  refine AllReadyH.cons rfl (fun K hK => ?_) AllReadyH.nil
  go_simp
  with_reducible refine (h3 _).mono ?_
  rintro e w2 ⟨rfl, rfl⟩
  refine hK.out _ _ hHeld (fun _ => ?_)
  clear hK K
  try simp only [Act.put, List.setIfInBounds_toArray, List.set_cons_zero, List.set_cons_succ]
  refine wpAnyH_take (i := 6) (v := ?_) rfl (by kernel_rfl) (by kernel_rfl) (by kernel_rfl) (fun _ _ _ h => h) (Or.inl ⟨by kernel_rfl, ?_⟩) hHeld ?_
  rotate_left
  · intro W hS
    go_simp
    try rfl
  simp only [Act.put, List.setIfInBounds_toArray, List.set_cons_zero, List.set_cons_succ, List.getElem_toArray, List.getElem_cons_succ, List.getElem_cons_zero]
  refine wpAnyH_take (i := 7) (v := ?_) rfl (by kernel_rfl) (by kernel_rfl) (by kernel_rfl) (fun _ _ _ h => h) (Or.inl ⟨by kernel_rfl, ?_⟩) hHeld ?_
  rotate_left
  · intro W hS
    go_simp
    try rfl
  simp only [Act.put, List.setIfInBounds_toArray, List.set_cons_zero, List.set_cons_succ, List.getElem_toArray, List.getElem_cons_succ, List.getElem_cons_zero]
  refine wpAnyH_take (i := 8) (v := ?_) rfl (by kernel_rfl) (by kernel_rfl) (by kernel_rfl) (fun _ _ _ h => h) (Or.inl ⟨by kernel_rfl, ?_⟩) hHeld ?_
  rotate_left
  · intro W hS
    go_simp
    try rfl
  simp only [Act.put, List.setIfInBounds_toArray, List.set_cons_zero, List.set_cons_succ, List.getElem_toArray, List.getElem_cons_succ, List.getElem_cons_zero]
  refine wpAnyH_take (i := 9) (v := ?_) rfl (by kernel_rfl) (by kernel_rfl) (by kernel_rfl) (fun _ _ _ h => h) (Or.inl ⟨by kernel_rfl, ?_⟩) hHeld ?_
  rotate_left
  · intro W hS
    go_simp
    try rfl
  simp only [Act.put, List.setIfInBounds_toArray, List.set_cons_zero, List.set_cons_succ, List.getElem_toArray, List.getElem_cons_succ, List.getElem_cons_zero]
  refine wpAnyH_done (by kernel_rfl) ?_ _
  go_wp2
  go_ret3
  exact ⟨rfl, hHeld⟩
section
variable {w : World} {N B : Nat} {a : Option Addr} {len cap : Nat} {zs : List Int} {p : Nat} {c m : Int}
theorem sign8s_any (x : Int) (w : World) : Calls Tryz.prog 155 #[.int .u32 x] w fun e w' => e = .returned (.int .u32 (sx x)) ∧ w = w' := sign8_any x w
def distV (zs : List Int) (p : Nat) (how : Int) : Int := if how = 1 then sx (zs.getD p 0) else if how = 2 then le4 zs p else 0
def distN (how : Int) : Nat := if how = 1 then 1 else if how = 2 then 4 else 0
theorem distance_no (R : Rd w N B a len cap zs p c m) (how : Int) (h : ¬ p + distN how ≤ zs.length) :
    Calls Tryz.prog 275 #[rp B, .int .i64 how] w fun e w' => e = .panicked (errP 10) ∧ Below w.heap.size w w' := by
  by_cases h1 : how = 1
  · subst h1
    have hn := next_no R 1 (.inl rfl) h
    go_enter Tryz.func275, Tryz.ntmps275
    go_wp2_with ((go_at_call 247; refine (hn).mono ?_); rintro e w1 ⟨rfl, k⟩)
    exact ⟨rfl, rfl, k⟩
  · by_cases h2 : how = 2
    · subst h2
      have hn := next_no R 4 (.inr rfl) h
      go_enter Tryz.func275, Tryz.ntmps275
      go_wp2_with ((go_at_call 247; refine (hn).mono ?_); rintro e w1 ⟨rfl, k⟩)
      exact ⟨rfl, rfl, k⟩
    · have := R.pl
      have := R.len_eq
      unfold distN at h
      rw [if_neg h1, if_neg h2] at h
      omega
theorem distance_yes (R : Rd w N B a len cap zs p c m) (how : Int) (h : p + distN how ≤ zs.length) :
    Calls Tryz.prog 275 #[rp B, .int .i64 how] w fun e w' => e = .returned (.int .u32 (distV zs p how)) ∧ Rd w' N B a len cap zs (p + distN how) c m ∧ But [B] w.heap.size w w' := by
  by_cases h1 : how = 1
  · subst h1
    have hn := next_yes R 1 (.inl rfl) h
    rw [num1] at hn
    have hb : distV zs p 1 = sx (zs.getD p 0) := rfl
    generalize zs.getD p 0 = z at *
    go_enter Tryz.func275, Tryz.ntmps275
    go_wp2_with (first | ((go_at_call 247; refine (hn).mono ?_); rintro e w1 ⟨rfl, k⟩) | (go_at_call 155; refine (sign8s_any _ _).mono ?_; rintro e w' ⟨rfl, rfl⟩))
    go_ret
    exact ⟨ret_int hb.symm, k⟩
  · by_cases h2 : how = 2
    · subst h2
      have hn := next_yes R 4 (.inr rfl) h
      rw [num4] at hn
      go_enter Tryz.func275, Tryz.ntmps275
      go_wp2_with (first | ((go_at_call 247; refine (hn).mono ?_); rintro e w1 ⟨rfl, k⟩))
      go_ret
      exact ⟨rfl, k⟩
    · have e1 : distV zs p how = 0 := by unfold distV; rw [if_neg h1, if_neg h2]
      have e2 : distN how = 0 := by unfold distN; rw [if_neg h1, if_neg h2]
      rw [e1, e2]
      go_enter Tryz.func275, Tryz.ntmps275
      go_wp2
      go_ret
      exact ⟨rfl, R, But.refl _ _ _⟩
theorem next1_yes (R : Rd w N B a len cap zs p c m) (h : p + 1 ≤ zs.length) :
    Calls Tryz.prog 247 #[rp B, .int .i64 1] w fun e w' => e = .returned (.int .u32 (zs.getD p 0)) ∧ Rd w' N B a len cap zs (p + 1) c m ∧ But [B] w.heap.size w w' := next_yes R 1 (.inl rfl) h
theorem next4_yes (R : Rd w N B a len cap zs p c m) (h : p + 4 ≤ zs.length) :
    Calls Tryz.prog 247 #[rp B, .int .i64 4] w fun e w' => e = .returned (.int .u32 (le4 zs p)) ∧ Rd w' N B a len cap zs (p + 4) c m ∧ But [B] w.heap.size w w' := next_yes R 4 (.inr rfl) h
theorem next1_no (R : Rd w N B a len cap zs p c m) (h : ¬ p + 1 ≤ zs.length) :
    Calls Tryz.prog 247 #[rp B, .int .i64 1] w fun e w' => e = .panicked (errP 10) ∧ Below w.heap.size w w' := next_no R 1 (.inl rfl) h
theorem next4_no (R : Rd w N B a len cap zs p c m) (h : ¬ p + 4 ≤ zs.length) :
    Calls Tryz.prog 247 #[rp B, .int .i64 4] w fun e w' => e = .panicked (errP 10) ∧ Below w.heap.size w w' := next_no R 4 (.inr rfl) h
end
end Go.Proofs.YtcdoidnfdkodoaaGreatDoor
