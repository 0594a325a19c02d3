/- How long the least way is (no program). -/
import Derived.Test.YtbfkgakkkibejaaDoorW7
namespace Go.Proofs.YtbfkgakkkibejaaDoor
open Go.RowKit
set_option linter.unusedVariables false
set_option linter.unusedSimpArgs false
set_option linter.unusedSectionVars false

theorem enc_len {k : In} {n : Nat} (hi : isB k = true) (hA : 0 ≤ k.A.m ∧ k.A.m ≤ 4294967295) (hB : 0 ≤ k.B.m ∧ k.B.m ≤ 4294967295) (h1 : ∃ w ∈ waysL k, w.length = n) (h2 : ∀ w ∈ waysL k, n ≤ w.length) : (encM k).length = n := by
  obtain ⟨e1, e2, e3⟩ := enc_best hi hA hB
  obtain ⟨w, hw, rfl⟩ := h1
  have a := h2 _ e2
  rcases e3 w hw with h | ⟨h, -⟩ <;> omega
theorem fit_iff {v : Int} (hv : 0 ≤ v ∧ v ≤ 4294967295) : fitI v = (decide (v < 128) || decide (4294967168 ≤ v)) := by
  have hw : ∀ n : Int, IntKind.i8.wrap n = (n + 128) % 256 - 128 := fun n => by
    simp only [IntKind.wrap, IntKind.bits, IntKind.signed]
    simp
    split <;> omega
  unfold fitI sx
  rw [hw]
  by_cases h1 : v < 128
  · rw [decide_eq_true h1, Bool.true_or, beq_iff_eq]; omega
  · by_cases h2 : 4294967168 ≤ v
    · rw [decide_eq_true h2, Bool.or_true, beq_iff_eq]; omega
    · rw [decide_eq_false h1, decide_eq_false h2, Bool.or_false, beq_eq_false_iff_ne]; omega
theorem knows_cw {n : Int} (h : 0 ≤ n ∧ n ≤ 15) : knowsB (rowN 33) n = true := by unfold knowsB; rw [show rC (rowN 33) = true from rfl]; simp; omega
theorem wB_len (v : Int) : (wB v).length = 4 := rfl
theorem mod_reg (r n : Int) : modT (onReg r) n = [[192 + 8 * n + r]] := by unfold modT; rw [if_pos (show (onReg r).k = 1 from rfl)]; rfl
theorem shorta_3 {v r : Int} (hr : 1 ≤ r ∧ r < 8) (hv : 0 ≤ v ∧ v ≤ 4294967295) : (encM ⟨3, 0, onReg r, onImm v, false, 0⟩).length = if fitI v = true then 3 else 6 := by
  have hi : isB ⟨3, 0, onReg r, onImm v, false, 0⟩ = true := isB_sets (SA := [2, 6]) (SB := [16, 48, 112]) (by kernel_rfl) (mem_reg ⟨by omega, hr.2⟩) (mem_imm _) rfl rfl (by decide)
  have hw : waysL ⟨3, 0, onReg r, onImm v, false, 0⟩ = [] ++ (if fitI v = true then [[131, 192 + 8 * 0 + r, v % 256]] else []) ++ [[129, 192 + 8 * 0 + r] ++ wB v] := by
    rw [wl_3, if_pos (kI _), if_neg (isR0_reg (show ¬ r = 0 by omega))]
    unfold mW
    rw [mod_reg]
    rfl
  by_cases hf : fitI v = true
  · rw [if_pos hf] at hw ⊢
    refine enc_len hi (by simp [onReg]) hv ?_ ?_
    · rw [hw]; exact ⟨_, List.mem_append_left _ (List.mem_append_right _ (List.mem_singleton.2 rfl)), rfl⟩
    · rw [hw]; intro w h; simp only [List.mem_append, List.mem_cons, List.not_mem_nil, or_false, false_or] at h; rcases h with rfl | rfl <;> simp [wB]
  · rw [if_neg hf] at hw ⊢
    refine enc_len hi (by simp [onReg]) hv ?_ ?_
    · rw [hw]; exact ⟨_, List.mem_append_right _ (List.mem_singleton.2 rfl), rfl⟩
    · rw [hw]; intro w h; simp only [List.mem_append, List.mem_cons, List.not_mem_nil, or_false, false_or] at h; rcases h with rfl <;> simp [wB]
theorem shortb_3 {v : Int} (hv : 0 ≤ v ∧ v ≤ 4294967295) : (encM ⟨3, 0, onReg 0, onImm v, false, 0⟩).length = if fitI v = true then 3 else 5 := by
  have hi : isB ⟨3, 0, onReg 0, onImm v, false, 0⟩ = true := isB_sets (SA := [2, 6]) (SB := [16, 48, 112]) (by kernel_rfl) (mem_reg (by decide)) (mem_imm _) rfl rfl (by decide)
  have hw : waysL ⟨3, 0, onReg 0, onImm v, false, 0⟩ = [[5] ++ wB v] ++ (if fitI v = true then [[131, 192 + 8 * 0 + 0, v % 256]] else []) ++ [[129, 192 + 8 * 0 + 0] ++ wB v] := by
    rw [wl_3, if_pos (kI _), if_pos (show isR0 (onReg 0) = true from rfl)]
    unfold mW
    rw [mod_reg]
    rfl
  by_cases hf : fitI v = true
  · rw [if_pos hf] at hw ⊢
    refine enc_len hi (by simp [onReg]) hv ?_ ?_
    · rw [hw]; exact ⟨_, List.mem_append_left _ (List.mem_append_right _ (List.mem_singleton.2 rfl)), rfl⟩
    · rw [hw]; intro w h; simp only [List.mem_append, List.mem_cons, List.not_mem_nil, or_false, false_or] at h; rcases h with (rfl | rfl) | rfl <;> simp [wB]
  · rw [if_neg hf] at hw ⊢
    refine enc_len hi (by simp [onReg]) hv ?_ ?_
    · rw [hw]; exact ⟨_, List.mem_append_left _ (List.mem_append_left _ (List.mem_singleton.2 rfl)), rfl⟩
    · rw [hw]; intro w h; simp only [List.mem_append, List.mem_cons, List.not_mem_nil, or_false, false_or] at h; rcases h with rfl | rfl <;> simp [wB]
theorem shorta_4 {v r : Int} (hr : 1 ≤ r ∧ r < 8) (hv : 0 ≤ v ∧ v ≤ 4294967295) : (encM ⟨4, 0, onReg r, onImm v, false, 0⟩).length = if fitI v = true then 3 else 6 := by
  have hi : isB ⟨4, 0, onReg r, onImm v, false, 0⟩ = true := isB_sets (SA := [2, 6]) (SB := [16, 48, 112]) (by kernel_rfl) (mem_reg ⟨by omega, hr.2⟩) (mem_imm _) rfl rfl (by decide)
  have hw : waysL ⟨4, 0, onReg r, onImm v, false, 0⟩ = [] ++ (if fitI v = true then [[131, 192 + 8 * 1 + r, v % 256]] else []) ++ [[129, 192 + 8 * 1 + r] ++ wB v] := by
    rw [wl_4, if_pos (kI _), if_neg (isR0_reg (show ¬ r = 0 by omega))]
    unfold mW
    rw [mod_reg]
    rfl
  by_cases hf : fitI v = true
  · rw [if_pos hf] at hw ⊢
    refine enc_len hi (by simp [onReg]) hv ?_ ?_
    · rw [hw]; exact ⟨_, List.mem_append_left _ (List.mem_append_right _ (List.mem_singleton.2 rfl)), rfl⟩
    · rw [hw]; intro w h; simp only [List.mem_append, List.mem_cons, List.not_mem_nil, or_false, false_or] at h; rcases h with rfl | rfl <;> simp [wB]
  · rw [if_neg hf] at hw ⊢
    refine enc_len hi (by simp [onReg]) hv ?_ ?_
    · rw [hw]; exact ⟨_, List.mem_append_right _ (List.mem_singleton.2 rfl), rfl⟩
    · rw [hw]; intro w h; simp only [List.mem_append, List.mem_cons, List.not_mem_nil, or_false, false_or] at h; rcases h with rfl <;> simp [wB]
theorem shortb_4 {v : Int} (hv : 0 ≤ v ∧ v ≤ 4294967295) : (encM ⟨4, 0, onReg 0, onImm v, false, 0⟩).length = if fitI v = true then 3 else 5 := by
  have hi : isB ⟨4, 0, onReg 0, onImm v, false, 0⟩ = true := isB_sets (SA := [2, 6]) (SB := [16, 48, 112]) (by kernel_rfl) (mem_reg (by decide)) (mem_imm _) rfl rfl (by decide)
  have hw : waysL ⟨4, 0, onReg 0, onImm v, false, 0⟩ = [[13] ++ wB v] ++ (if fitI v = true then [[131, 192 + 8 * 1 + 0, v % 256]] else []) ++ [[129, 192 + 8 * 1 + 0] ++ wB v] := by
    rw [wl_4, if_pos (kI _), if_pos (show isR0 (onReg 0) = true from rfl)]
    unfold mW
    rw [mod_reg]
    rfl
  by_cases hf : fitI v = true
  · rw [if_pos hf] at hw ⊢
    refine enc_len hi (by simp [onReg]) hv ?_ ?_
    · rw [hw]; exact ⟨_, List.mem_append_left _ (List.mem_append_right _ (List.mem_singleton.2 rfl)), rfl⟩
    · rw [hw]; intro w h; simp only [List.mem_append, List.mem_cons, List.not_mem_nil, or_false, false_or] at h; rcases h with (rfl | rfl) | rfl <;> simp [wB]
  · rw [if_neg hf] at hw ⊢
    refine enc_len hi (by simp [onReg]) hv ?_ ?_
    · rw [hw]; exact ⟨_, List.mem_append_left _ (List.mem_append_left _ (List.mem_singleton.2 rfl)), rfl⟩
    · rw [hw]; intro w h; simp only [List.mem_append, List.mem_cons, List.not_mem_nil, or_false, false_or] at h; rcases h with rfl | rfl <;> simp [wB]
theorem shorta_5 {v r : Int} (hr : 1 ≤ r ∧ r < 8) (hv : 0 ≤ v ∧ v ≤ 4294967295) : (encM ⟨5, 0, onReg r, onImm v, false, 0⟩).length = if fitI v = true then 3 else 6 := by
  have hi : isB ⟨5, 0, onReg r, onImm v, false, 0⟩ = true := isB_sets (SA := [2, 6]) (SB := [16, 48, 112]) (by kernel_rfl) (mem_reg ⟨by omega, hr.2⟩) (mem_imm _) rfl rfl (by decide)
  have hw : waysL ⟨5, 0, onReg r, onImm v, false, 0⟩ = [] ++ (if fitI v = true then [[131, 192 + 8 * 2 + r, v % 256]] else []) ++ [[129, 192 + 8 * 2 + r] ++ wB v] := by
    rw [wl_5, if_pos (kI _), if_neg (isR0_reg (show ¬ r = 0 by omega))]
    unfold mW
    rw [mod_reg]
    rfl
  by_cases hf : fitI v = true
  · rw [if_pos hf] at hw ⊢
    refine enc_len hi (by simp [onReg]) hv ?_ ?_
    · rw [hw]; exact ⟨_, List.mem_append_left _ (List.mem_append_right _ (List.mem_singleton.2 rfl)), rfl⟩
    · rw [hw]; intro w h; simp only [List.mem_append, List.mem_cons, List.not_mem_nil, or_false, false_or] at h; rcases h with rfl | rfl <;> simp [wB]
  · rw [if_neg hf] at hw ⊢
    refine enc_len hi (by simp [onReg]) hv ?_ ?_
    · rw [hw]; exact ⟨_, List.mem_append_right _ (List.mem_singleton.2 rfl), rfl⟩
    · rw [hw]; intro w h; simp only [List.mem_append, List.mem_cons, List.not_mem_nil, or_false, false_or] at h; rcases h with rfl <;> simp [wB]
theorem shortb_5 {v : Int} (hv : 0 ≤ v ∧ v ≤ 4294967295) : (encM ⟨5, 0, onReg 0, onImm v, false, 0⟩).length = if fitI v = true then 3 else 5 := by
  have hi : isB ⟨5, 0, onReg 0, onImm v, false, 0⟩ = true := isB_sets (SA := [2, 6]) (SB := [16, 48, 112]) (by kernel_rfl) (mem_reg (by decide)) (mem_imm _) rfl rfl (by decide)
  have hw : waysL ⟨5, 0, onReg 0, onImm v, false, 0⟩ = [[21] ++ wB v] ++ (if fitI v = true then [[131, 192 + 8 * 2 + 0, v % 256]] else []) ++ [[129, 192 + 8 * 2 + 0] ++ wB v] := by
    rw [wl_5, if_pos (kI _), if_pos (show isR0 (onReg 0) = true from rfl)]
    unfold mW
    rw [mod_reg]
    rfl
  by_cases hf : fitI v = true
  · rw [if_pos hf] at hw ⊢
    refine enc_len hi (by simp [onReg]) hv ?_ ?_
    · rw [hw]; exact ⟨_, List.mem_append_left _ (List.mem_append_right _ (List.mem_singleton.2 rfl)), rfl⟩
    · rw [hw]; intro w h; simp only [List.mem_append, List.mem_cons, List.not_mem_nil, or_false, false_or] at h; rcases h with (rfl | rfl) | rfl <;> simp [wB]
  · rw [if_neg hf] at hw ⊢
    refine enc_len hi (by simp [onReg]) hv ?_ ?_
    · rw [hw]; exact ⟨_, List.mem_append_left _ (List.mem_append_left _ (List.mem_singleton.2 rfl)), rfl⟩
    · rw [hw]; intro w h; simp only [List.mem_append, List.mem_cons, List.not_mem_nil, or_false, false_or] at h; rcases h with rfl | rfl <;> simp [wB]
theorem shorta_6 {v r : Int} (hr : 1 ≤ r ∧ r < 8) (hv : 0 ≤ v ∧ v ≤ 4294967295) : (encM ⟨6, 0, onReg r, onImm v, false, 0⟩).length = if fitI v = true then 3 else 6 := by
  have hi : isB ⟨6, 0, onReg r, onImm v, false, 0⟩ = true := isB_sets (SA := [2, 6]) (SB := [16, 48, 112]) (by kernel_rfl) (mem_reg ⟨by omega, hr.2⟩) (mem_imm _) rfl rfl (by decide)
  have hw : waysL ⟨6, 0, onReg r, onImm v, false, 0⟩ = [] ++ (if fitI v = true then [[131, 192 + 8 * 3 + r, v % 256]] else []) ++ [[129, 192 + 8 * 3 + r] ++ wB v] := by
    rw [wl_6, if_pos (kI _), if_neg (isR0_reg (show ¬ r = 0 by omega))]
    unfold mW
    rw [mod_reg]
    rfl
  by_cases hf : fitI v = true
  · rw [if_pos hf] at hw ⊢
    refine enc_len hi (by simp [onReg]) hv ?_ ?_
    · rw [hw]; exact ⟨_, List.mem_append_left _ (List.mem_append_right _ (List.mem_singleton.2 rfl)), rfl⟩
    · rw [hw]; intro w h; simp only [List.mem_append, List.mem_cons, List.not_mem_nil, or_false, false_or] at h; rcases h with rfl | rfl <;> simp [wB]
  · rw [if_neg hf] at hw ⊢
    refine enc_len hi (by simp [onReg]) hv ?_ ?_
    · rw [hw]; exact ⟨_, List.mem_append_right _ (List.mem_singleton.2 rfl), rfl⟩
    · rw [hw]; intro w h; simp only [List.mem_append, List.mem_cons, List.not_mem_nil, or_false, false_or] at h; rcases h with rfl <;> simp [wB]
theorem shortb_6 {v : Int} (hv : 0 ≤ v ∧ v ≤ 4294967295) : (encM ⟨6, 0, onReg 0, onImm v, false, 0⟩).length = if fitI v = true then 3 else 5 := by
  have hi : isB ⟨6, 0, onReg 0, onImm v, false, 0⟩ = true := isB_sets (SA := [2, 6]) (SB := [16, 48, 112]) (by kernel_rfl) (mem_reg (by decide)) (mem_imm _) rfl rfl (by decide)
  have hw : waysL ⟨6, 0, onReg 0, onImm v, false, 0⟩ = [[29] ++ wB v] ++ (if fitI v = true then [[131, 192 + 8 * 3 + 0, v % 256]] else []) ++ [[129, 192 + 8 * 3 + 0] ++ wB v] := by
    rw [wl_6, if_pos (kI _), if_pos (show isR0 (onReg 0) = true from rfl)]
    unfold mW
    rw [mod_reg]
    rfl
  by_cases hf : fitI v = true
  · rw [if_pos hf] at hw ⊢
    refine enc_len hi (by simp [onReg]) hv ?_ ?_
    · rw [hw]; exact ⟨_, List.mem_append_left _ (List.mem_append_right _ (List.mem_singleton.2 rfl)), rfl⟩
    · rw [hw]; intro w h; simp only [List.mem_append, List.mem_cons, List.not_mem_nil, or_false, false_or] at h; rcases h with (rfl | rfl) | rfl <;> simp [wB]
  · rw [if_neg hf] at hw ⊢
    refine enc_len hi (by simp [onReg]) hv ?_ ?_
    · rw [hw]; exact ⟨_, List.mem_append_left _ (List.mem_append_left _ (List.mem_singleton.2 rfl)), rfl⟩
    · rw [hw]; intro w h; simp only [List.mem_append, List.mem_cons, List.not_mem_nil, or_false, false_or] at h; rcases h with rfl | rfl <;> simp [wB]
theorem shorta_7 {v r : Int} (hr : 1 ≤ r ∧ r < 8) (hv : 0 ≤ v ∧ v ≤ 4294967295) : (encM ⟨7, 0, onReg r, onImm v, false, 0⟩).length = if fitI v = true then 3 else 6 := by
  have hi : isB ⟨7, 0, onReg r, onImm v, false, 0⟩ = true := isB_sets (SA := [2, 6]) (SB := [16, 48, 112]) (by kernel_rfl) (mem_reg ⟨by omega, hr.2⟩) (mem_imm _) rfl rfl (by decide)
  have hw : waysL ⟨7, 0, onReg r, onImm v, false, 0⟩ = [] ++ (if fitI v = true then [[131, 192 + 8 * 4 + r, v % 256]] else []) ++ [[129, 192 + 8 * 4 + r] ++ wB v] := by
    rw [wl_7, if_pos (kI _), if_neg (isR0_reg (show ¬ r = 0 by omega))]
    unfold mW
    rw [mod_reg]
    rfl
  by_cases hf : fitI v = true
  · rw [if_pos hf] at hw ⊢
    refine enc_len hi (by simp [onReg]) hv ?_ ?_
    · rw [hw]; exact ⟨_, List.mem_append_left _ (List.mem_append_right _ (List.mem_singleton.2 rfl)), rfl⟩
    · rw [hw]; intro w h; simp only [List.mem_append, List.mem_cons, List.not_mem_nil, or_false, false_or] at h; rcases h with rfl | rfl <;> simp [wB]
  · rw [if_neg hf] at hw ⊢
    refine enc_len hi (by simp [onReg]) hv ?_ ?_
    · rw [hw]; exact ⟨_, List.mem_append_right _ (List.mem_singleton.2 rfl), rfl⟩
    · rw [hw]; intro w h; simp only [List.mem_append, List.mem_cons, List.not_mem_nil, or_false, false_or] at h; rcases h with rfl <;> simp [wB]
theorem shortb_7 {v : Int} (hv : 0 ≤ v ∧ v ≤ 4294967295) : (encM ⟨7, 0, onReg 0, onImm v, false, 0⟩).length = if fitI v = true then 3 else 5 := by
  have hi : isB ⟨7, 0, onReg 0, onImm v, false, 0⟩ = true := isB_sets (SA := [2, 6]) (SB := [16, 48, 112]) (by kernel_rfl) (mem_reg (by decide)) (mem_imm _) rfl rfl (by decide)
  have hw : waysL ⟨7, 0, onReg 0, onImm v, false, 0⟩ = [[37] ++ wB v] ++ (if fitI v = true then [[131, 192 + 8 * 4 + 0, v % 256]] else []) ++ [[129, 192 + 8 * 4 + 0] ++ wB v] := by
    rw [wl_7, if_pos (kI _), if_pos (show isR0 (onReg 0) = true from rfl)]
    unfold mW
    rw [mod_reg]
    rfl
  by_cases hf : fitI v = true
  · rw [if_pos hf] at hw ⊢
    refine enc_len hi (by simp [onReg]) hv ?_ ?_
    · rw [hw]; exact ⟨_, List.mem_append_left _ (List.mem_append_right _ (List.mem_singleton.2 rfl)), rfl⟩
    · rw [hw]; intro w h; simp only [List.mem_append, List.mem_cons, List.not_mem_nil, or_false, false_or] at h; rcases h with (rfl | rfl) | rfl <;> simp [wB]
  · rw [if_neg hf] at hw ⊢
    refine enc_len hi (by simp [onReg]) hv ?_ ?_
    · rw [hw]; exact ⟨_, List.mem_append_left _ (List.mem_append_left _ (List.mem_singleton.2 rfl)), rfl⟩
    · rw [hw]; intro w h; simp only [List.mem_append, List.mem_cons, List.not_mem_nil, or_false, false_or] at h; rcases h with rfl | rfl <;> simp [wB]
theorem shorta_8 {v r : Int} (hr : 1 ≤ r ∧ r < 8) (hv : 0 ≤ v ∧ v ≤ 4294967295) : (encM ⟨8, 0, onReg r, onImm v, false, 0⟩).length = if fitI v = true then 3 else 6 := by
  have hi : isB ⟨8, 0, onReg r, onImm v, false, 0⟩ = true := isB_sets (SA := [2, 6]) (SB := [16, 48, 112]) (by kernel_rfl) (mem_reg ⟨by omega, hr.2⟩) (mem_imm _) rfl rfl (by decide)
  have hw : waysL ⟨8, 0, onReg r, onImm v, false, 0⟩ = [] ++ (if fitI v = true then [[131, 192 + 8 * 5 + r, v % 256]] else []) ++ [[129, 192 + 8 * 5 + r] ++ wB v] := by
    rw [wl_8, if_pos (kI _), if_neg (isR0_reg (show ¬ r = 0 by omega))]
    unfold mW
    rw [mod_reg]
    rfl
  by_cases hf : fitI v = true
  · rw [if_pos hf] at hw ⊢
    refine enc_len hi (by simp [onReg]) hv ?_ ?_
    · rw [hw]; exact ⟨_, List.mem_append_left _ (List.mem_append_right _ (List.mem_singleton.2 rfl)), rfl⟩
    · rw [hw]; intro w h; simp only [List.mem_append, List.mem_cons, List.not_mem_nil, or_false, false_or] at h; rcases h with rfl | rfl <;> simp [wB]
  · rw [if_neg hf] at hw ⊢
    refine enc_len hi (by simp [onReg]) hv ?_ ?_
    · rw [hw]; exact ⟨_, List.mem_append_right _ (List.mem_singleton.2 rfl), rfl⟩
    · rw [hw]; intro w h; simp only [List.mem_append, List.mem_cons, List.not_mem_nil, or_false, false_or] at h; rcases h with rfl <;> simp [wB]
theorem shortb_8 {v : Int} (hv : 0 ≤ v ∧ v ≤ 4294967295) : (encM ⟨8, 0, onReg 0, onImm v, false, 0⟩).length = if fitI v = true then 3 else 5 := by
  have hi : isB ⟨8, 0, onReg 0, onImm v, false, 0⟩ = true := isB_sets (SA := [2, 6]) (SB := [16, 48, 112]) (by kernel_rfl) (mem_reg (by decide)) (mem_imm _) rfl rfl (by decide)
  have hw : waysL ⟨8, 0, onReg 0, onImm v, false, 0⟩ = [[45] ++ wB v] ++ (if fitI v = true then [[131, 192 + 8 * 5 + 0, v % 256]] else []) ++ [[129, 192 + 8 * 5 + 0] ++ wB v] := by
    rw [wl_8, if_pos (kI _), if_pos (show isR0 (onReg 0) = true from rfl)]
    unfold mW
    rw [mod_reg]
    rfl
  by_cases hf : fitI v = true
  · rw [if_pos hf] at hw ⊢
    refine enc_len hi (by simp [onReg]) hv ?_ ?_
    · rw [hw]; exact ⟨_, List.mem_append_left _ (List.mem_append_right _ (List.mem_singleton.2 rfl)), rfl⟩
    · rw [hw]; intro w h; simp only [List.mem_append, List.mem_cons, List.not_mem_nil, or_false, false_or] at h; rcases h with (rfl | rfl) | rfl <;> simp [wB]
  · rw [if_neg hf] at hw ⊢
    refine enc_len hi (by simp [onReg]) hv ?_ ?_
    · rw [hw]; exact ⟨_, List.mem_append_left _ (List.mem_append_left _ (List.mem_singleton.2 rfl)), rfl⟩
    · rw [hw]; intro w h; simp only [List.mem_append, List.mem_cons, List.not_mem_nil, or_false, false_or] at h; rcases h with rfl | rfl <;> simp [wB]
theorem shorta_9 {v r : Int} (hr : 1 ≤ r ∧ r < 8) (hv : 0 ≤ v ∧ v ≤ 4294967295) : (encM ⟨9, 0, onReg r, onImm v, false, 0⟩).length = if fitI v = true then 3 else 6 := by
  have hi : isB ⟨9, 0, onReg r, onImm v, false, 0⟩ = true := isB_sets (SA := [2, 6]) (SB := [16, 48, 112]) (by kernel_rfl) (mem_reg ⟨by omega, hr.2⟩) (mem_imm _) rfl rfl (by decide)
  have hw : waysL ⟨9, 0, onReg r, onImm v, false, 0⟩ = [] ++ (if fitI v = true then [[131, 192 + 8 * 6 + r, v % 256]] else []) ++ [[129, 192 + 8 * 6 + r] ++ wB v] := by
    rw [wl_9, if_pos (kI _), if_neg (isR0_reg (show ¬ r = 0 by omega))]
    unfold mW
    rw [mod_reg]
    rfl
  by_cases hf : fitI v = true
  · rw [if_pos hf] at hw ⊢
    refine enc_len hi (by simp [onReg]) hv ?_ ?_
    · rw [hw]; exact ⟨_, List.mem_append_left _ (List.mem_append_right _ (List.mem_singleton.2 rfl)), rfl⟩
    · rw [hw]; intro w h; simp only [List.mem_append, List.mem_cons, List.not_mem_nil, or_false, false_or] at h; rcases h with rfl | rfl <;> simp [wB]
  · rw [if_neg hf] at hw ⊢
    refine enc_len hi (by simp [onReg]) hv ?_ ?_
    · rw [hw]; exact ⟨_, List.mem_append_right _ (List.mem_singleton.2 rfl), rfl⟩
    · rw [hw]; intro w h; simp only [List.mem_append, List.mem_cons, List.not_mem_nil, or_false, false_or] at h; rcases h with rfl <;> simp [wB]
theorem shortb_9 {v : Int} (hv : 0 ≤ v ∧ v ≤ 4294967295) : (encM ⟨9, 0, onReg 0, onImm v, false, 0⟩).length = if fitI v = true then 3 else 5 := by
  have hi : isB ⟨9, 0, onReg 0, onImm v, false, 0⟩ = true := isB_sets (SA := [2, 6]) (SB := [16, 48, 112]) (by kernel_rfl) (mem_reg (by decide)) (mem_imm _) rfl rfl (by decide)
  have hw : waysL ⟨9, 0, onReg 0, onImm v, false, 0⟩ = [[53] ++ wB v] ++ (if fitI v = true then [[131, 192 + 8 * 6 + 0, v % 256]] else []) ++ [[129, 192 + 8 * 6 + 0] ++ wB v] := by
    rw [wl_9, if_pos (kI _), if_pos (show isR0 (onReg 0) = true from rfl)]
    unfold mW
    rw [mod_reg]
    rfl
  by_cases hf : fitI v = true
  · rw [if_pos hf] at hw ⊢
    refine enc_len hi (by simp [onReg]) hv ?_ ?_
    · rw [hw]; exact ⟨_, List.mem_append_left _ (List.mem_append_right _ (List.mem_singleton.2 rfl)), rfl⟩
    · rw [hw]; intro w h; simp only [List.mem_append, List.mem_cons, List.not_mem_nil, or_false, false_or] at h; rcases h with (rfl | rfl) | rfl <;> simp [wB]
  · rw [if_neg hf] at hw ⊢
    refine enc_len hi (by simp [onReg]) hv ?_ ?_
    · rw [hw]; exact ⟨_, List.mem_append_left _ (List.mem_append_left _ (List.mem_singleton.2 rfl)), rfl⟩
    · rw [hw]; intro w h; simp only [List.mem_append, List.mem_cons, List.not_mem_nil, or_false, false_or] at h; rcases h with rfl | rfl <;> simp [wB]
theorem shorta_10 {v r : Int} (hr : 1 ≤ r ∧ r < 8) (hv : 0 ≤ v ∧ v ≤ 4294967295) : (encM ⟨10, 0, onReg r, onImm v, false, 0⟩).length = if fitI v = true then 3 else 6 := by
  have hi : isB ⟨10, 0, onReg r, onImm v, false, 0⟩ = true := isB_sets (SA := [2, 6]) (SB := [16, 48, 112]) (by kernel_rfl) (mem_reg ⟨by omega, hr.2⟩) (mem_imm _) rfl rfl (by decide)
  have hw : waysL ⟨10, 0, onReg r, onImm v, false, 0⟩ = [] ++ (if fitI v = true then [[131, 192 + 8 * 7 + r, v % 256]] else []) ++ [[129, 192 + 8 * 7 + r] ++ wB v] := by
    rw [wl_10, if_pos (kI _), if_neg (isR0_reg (show ¬ r = 0 by omega))]
    unfold mW
    rw [mod_reg]
    rfl
  by_cases hf : fitI v = true
  · rw [if_pos hf] at hw ⊢
    refine enc_len hi (by simp [onReg]) hv ?_ ?_
    · rw [hw]; exact ⟨_, List.mem_append_left _ (List.mem_append_right _ (List.mem_singleton.2 rfl)), rfl⟩
    · rw [hw]; intro w h; simp only [List.mem_append, List.mem_cons, List.not_mem_nil, or_false, false_or] at h; rcases h with rfl | rfl <;> simp [wB]
  · rw [if_neg hf] at hw ⊢
    refine enc_len hi (by simp [onReg]) hv ?_ ?_
    · rw [hw]; exact ⟨_, List.mem_append_right _ (List.mem_singleton.2 rfl), rfl⟩
    · rw [hw]; intro w h; simp only [List.mem_append, List.mem_cons, List.not_mem_nil, or_false, false_or] at h; rcases h with rfl <;> simp [wB]
theorem shortb_10 {v : Int} (hv : 0 ≤ v ∧ v ≤ 4294967295) : (encM ⟨10, 0, onReg 0, onImm v, false, 0⟩).length = if fitI v = true then 3 else 5 := by
  have hi : isB ⟨10, 0, onReg 0, onImm v, false, 0⟩ = true := isB_sets (SA := [2, 6]) (SB := [16, 48, 112]) (by kernel_rfl) (mem_reg (by decide)) (mem_imm _) rfl rfl (by decide)
  have hw : waysL ⟨10, 0, onReg 0, onImm v, false, 0⟩ = [[61] ++ wB v] ++ (if fitI v = true then [[131, 192 + 8 * 7 + 0, v % 256]] else []) ++ [[129, 192 + 8 * 7 + 0] ++ wB v] := by
    rw [wl_10, if_pos (kI _), if_pos (show isR0 (onReg 0) = true from rfl)]
    unfold mW
    rw [mod_reg]
    rfl
  by_cases hf : fitI v = true
  · rw [if_pos hf] at hw ⊢
    refine enc_len hi (by simp [onReg]) hv ?_ ?_
    · rw [hw]; exact ⟨_, List.mem_append_left _ (List.mem_append_right _ (List.mem_singleton.2 rfl)), rfl⟩
    · rw [hw]; intro w h; simp only [List.mem_append, List.mem_cons, List.not_mem_nil, or_false, false_or] at h; rcases h with (rfl | rfl) | rfl <;> simp [wB]
  · rw [if_neg hf] at hw ⊢
    refine enc_len hi (by simp [onReg]) hv ?_ ?_
    · rw [hw]; exact ⟨_, List.mem_append_left _ (List.mem_append_left _ (List.mem_singleton.2 rfl)), rfl⟩
    · rw [hw]; intro w h; simp only [List.mem_append, List.mem_cons, List.not_mem_nil, or_false, false_or] at h; rcases h with rfl | rfl <;> simp [wB]
theorem shortc {v : Int} (hv : 0 ≤ v ∧ v ≤ 4294967295) : (encM ⟨28, 0, onImm v, onZ, false, 0⟩).length = if fitI v = true then 2 else 5 := by
  have hi : isB ⟨28, 0, onImm v, onZ, false, 0⟩ = true := isB_sets (SA := [16, 48, 112]) (SB := [1]) (by kernel_rfl) (mem_imm _) mem_z rfl rfl (by decide)
  have hw : waysL ⟨28, 0, onImm v, onZ, false, 0⟩ = (if fitI v = true then [[106, v % 256]] else []) ++ [[104] ++ wB v] := by rw [wl_28, if_pos (kI _)]; rfl
  by_cases hf : fitI v = true
  · rw [if_pos hf] at hw ⊢
    refine enc_len hi hv (by simp [onZ]) ?_ ?_
    · rw [hw]; exact ⟨_, List.mem_append_left _ (List.mem_singleton.2 rfl), rfl⟩
    · rw [hw]; intro w h; simp only [List.mem_append, List.mem_cons, List.not_mem_nil, or_false, false_or] at h; rcases h with rfl | rfl <;> simp [wB]
  · rw [if_neg hf] at hw ⊢
    refine enc_len hi hv (by simp [onZ]) ?_ ?_
    · rw [hw]; exact ⟨_, List.mem_append_right _ (List.mem_singleton.2 rfl), rfl⟩
    · rw [hw]; intro w h; simp only [List.mem_append, List.mem_cons, List.not_mem_nil, or_false, false_or] at h; rcases h with rfl <;> simp [wB]
theorem shortd {v : Int} (hv : 0 ≤ v ∧ v ≤ 4294967295) : (encM ⟨32, 0, onImm v, onZ, false, 0⟩).length = if fitI v = true then 2 else 5 := by
  have hi : isB ⟨32, 0, onImm v, onZ, false, 0⟩ = true := isB_sets (SA := [16, 48, 112]) (SB := [1]) (by kernel_rfl) (mem_imm _) mem_z rfl rfl (by decide)
  have hw : waysL ⟨32, 0, onImm v, onZ, false, 0⟩ = (if fitI v = true then [[235, v % 256]] else []) ++ [[233] ++ wB v] := by rw [wl_32, if_pos (kI _)]; rfl
  by_cases hf : fitI v = true
  · rw [if_pos hf] at hw ⊢
    refine enc_len hi hv (by simp [onZ]) ?_ ?_
    · rw [hw]; exact ⟨_, List.mem_append_left _ (List.mem_singleton.2 rfl), rfl⟩
    · rw [hw]; intro w h; simp only [List.mem_append, List.mem_cons, List.not_mem_nil, or_false, false_or] at h; rcases h with rfl | rfl <;> simp [wB]
  · rw [if_neg hf] at hw ⊢
    refine enc_len hi hv (by simp [onZ]) ?_ ?_
    · rw [hw]; exact ⟨_, List.mem_append_right _ (List.mem_singleton.2 rfl), rfl⟩
    · rw [hw]; intro w h; simp only [List.mem_append, List.mem_cons, List.not_mem_nil, or_false, false_or] at h; rcases h with rfl <;> simp [wB]
theorem shorte {v c : Int} (hc : 0 ≤ c ∧ c ≤ 15) (hv : 0 ≤ v ∧ v ≤ 4294967295) : (encM ⟨33, c, onImm v, onZ, false, 0⟩).length = if fitI v = true then 2 else 6 := by
  have hi : isB ⟨33, c, onImm v, onZ, false, 0⟩ = true := isB_sets (SA := [16, 48, 112]) (SB := [1]) (by kernel_rfl) (mem_imm _) mem_z rfl (knows_cw hc) (by decide)
  have hw : waysL ⟨33, c, onImm v, onZ, false, 0⟩ = (if fitI v = true then [[112 + c, v % 256]] else []) ++ [[15, 128 + c] ++ wB v] := by rw [wl_33]; rfl
  by_cases hf : fitI v = true
  · rw [if_pos hf] at hw ⊢
    refine enc_len hi hv (by simp [onZ]) ?_ ?_
    · rw [hw]; exact ⟨_, List.mem_append_left _ (List.mem_singleton.2 rfl), rfl⟩
    · rw [hw]; intro w h; simp only [List.mem_append, List.mem_cons, List.not_mem_nil, or_false, false_or] at h; rcases h with rfl | rfl <;> simp [wB]
  · rw [if_neg hf] at hw ⊢
    refine enc_len hi hv (by simp [onZ]) ?_ ?_
    · rw [hw]; exact ⟨_, List.mem_append_right _ (List.mem_singleton.2 rfl), rfl⟩
    · rw [hw]; intro w h; simp only [List.mem_append, List.mem_cons, List.not_mem_nil, or_false, false_or] at h; rcases h with rfl <;> simp [wB]
/-- How long a place is. -/
def placeLen (m b x : Int) : Nat := (if 0 ≤ x ∨ b = 4 then 2 else 1) + (if b < 0 then 4 else if m = 0 ∧ ¬ b = 5 then 0 else if fitI m = true then 1 else 4)
theorem way_length {m b x s n md : Int} {sib : Bool} {t : List Int} (h : wayT (onMem m b x s) n md sib = some t) : t.length = (if sib then 2 else 1) + (if md = 2 ∨ b < 0 then 4 else if md = 1 then 1 else 0) ∧ ¬ (b < 0 ∧ ¬ md = 0) ∧ ¬ (0 ≤ b ∧ ((md = 0 ∧ (b = 5 ∨ ¬ m = 0)) ∨ (md = 1 ∧ fitI m = false))) ∧ ¬ (sib = false ∧ (0 ≤ x ∨ b = 4)) := by
  unfold wayT at h
  split at h
  · cases h
  rename_i c1
  split at h
  · cases h
  rename_i c2
  split at h
  · cases h
  rename_i c3
  refine ⟨?_, c1, c2, c3⟩
  have e := Option.some.inj h
  rw [← e, List.length_append]
  congr 1
  · cases sib <;> rfl
  · show (if md = 2 ∨ b < 0 then wB m else if md = 1 then [m % 256] else []).length = _
    split
    · rfl
    · split <;> rfl
theorem place_least {m b x s n : Int} (hb : -1 ≤ b) : (∃ t ∈ modT (onMem m b x s) n, t.length = placeLen m b x) ∧ ∀ t ∈ modT (onMem m b x s) n, placeLen m b x ≤ t.length := by
  constructor
  · let sib : Bool := decide (0 ≤ x ∨ b = 4)
    have c3 : ¬ (sib = false ∧ (0 ≤ x ∨ b = 4)) := by
      rintro ⟨h1, h2⟩
      have : sib = true := decide_eq_true h2
      rw [this] at h1; cases h1
    let md : Int := if b < 0 then 0 else if m = 0 ∧ ¬ b = 5 then 0 else if fitI m = true then 1 else 2
    have hmd : md = 0 ∨ md = 1 ∨ md = 2 := by simp only [md]; (repeat' split) <;> simp
    have hc : ¬ (b < 0 ∧ ¬ md = 0) ∧ ¬ (0 ≤ b ∧ ((md = 0 ∧ (b = 5 ∨ ¬ m = 0)) ∨ (md = 1 ∧ fitI m = false))) := by
      show ¬ (b < 0 ∧ ¬ (if b < 0 then (0 : Int) else if m = 0 ∧ ¬ b = 5 then 0 else if fitI m = true then 1 else 2) = 0) ∧ ¬ (0 ≤ b ∧ (((if b < 0 then (0 : Int) else if m = 0 ∧ ¬ b = 5 then 0 else if fitI m = true then 1 else 2) = 0 ∧ (b = 5 ∨ ¬ m = 0)) ∨ ((if b < 0 then (0 : Int) else if m = 0 ∧ ¬ b = 5 then 0 else if fitI m = true then 1 else 2) = 1 ∧ fitI m = false)))
      by_cases h1 : b < 0
      · rw [if_pos h1]; exact ⟨by omega, by omega⟩
      · rw [if_neg h1]
        by_cases h2 : m = 0 ∧ ¬ b = 5
        · rw [if_pos h2]; exact ⟨by omega, by omega⟩
        · rw [if_neg h2]
          cases hf : fitI m
          · exact ⟨by simp; omega, by simp⟩
          · exact ⟨by simp; omega, by simp⟩
    have hw := way_some (x := x) (s := s) (n := n) hc.1 hc.2 c3
    refine ⟨_, way_mem (by simp [onMem]) hmd hw, ?_⟩
    rw [(way_length hw).1]
    unfold placeLen
    congr 1
    · by_cases h : 0 ≤ x ∨ b = 4
      · rw [if_pos h, show sib = true from decide_eq_true h]; rfl
      · rw [if_neg h, show sib = false from decide_eq_false h]; rfl
    · show (if (if b < 0 then (0 : Int) else if m = 0 ∧ ¬ b = 5 then 0 else if fitI m = true then 1 else 2) = 2 ∨ b < 0 then 4 else if (if b < 0 then (0 : Int) else if m = 0 ∧ ¬ b = 5 then 0 else if fitI m = true then 1 else 2) = 1 then 1 else 0) = _
      by_cases h1 : b < 0
      · rw [if_pos (.inr h1), if_pos h1]
      · rw [if_neg h1, if_neg h1]
        by_cases h2 : m = 0 ∧ ¬ b = 5
        · rw [if_pos h2, if_pos h2, if_neg (by omega), if_neg (by decide)]
        · rw [if_neg h2, if_neg h2]
          cases hf : fitI m
          · rw [if_neg Bool.false_ne_true, if_neg Bool.false_ne_true, if_pos (.inl rfl)]
          · rw [if_pos rfl, if_pos rfl, if_neg (by omega), if_pos rfl]
  · intro t ht
    unfold modT at ht
    rw [if_neg (by simp [onMem])] at ht
    obtain ⟨a, ha, e⟩ := List.mem_filterMap.1 ht
    simp only [List.mem_cons, List.not_mem_nil, or_false] at ha
    have e : a = some t := e
    subst e
    have main : ∀ (md : Int) (sib : Bool), (md = 0 ∨ md = 1 ∨ md = 2) → some t = wayT (onMem m b x s) n md sib → placeLen m b x ≤ t.length := by
      intro md sib hmd h
      obtain ⟨hl, c1, c2, c3⟩ := way_length h.symm
      rw [hl]
      unfold placeLen
      have s1 : (if 0 ≤ x ∨ b = 4 then 2 else 1) ≤ (if sib = true then 2 else 1) := by
        cases sib
        · rw [if_neg (fun g => c3 ⟨rfl, g⟩)]; simp
        · split <;> simp
      have s2 : (if b < 0 then 4 else if m = 0 ∧ ¬ b = 5 then 0 else if fitI m = true then 1 else 4) ≤ (if md = 2 ∨ b < 0 then 4 else if md = 1 then 1 else 0) := by
        by_cases h1 : b < 0
        · rw [if_pos h1, if_pos (.inr h1)]; exact Nat.le_refl _
        · rw [if_neg h1]
          rcases hmd with rfl | rfl | rfl
          · rw [if_pos (by omega)]; omega
          · by_cases h2 : m = 0 ∧ ¬ b = 5
            · rw [if_pos h2]; omega
            · have hf : fitI m = true := by
                cases hf : fitI m
                · exact absurd ⟨by omega, .inr ⟨rfl, hf⟩⟩ c2
                · rfl
              rw [if_neg h2, if_pos hf, if_neg (by omega), if_pos rfl]; exact Nat.le_refl _
          · rw [if_pos (Or.inl rfl)]; (repeat' split) <;> omega
      omega
    rcases ha with e | e | e | e | e | e
    · exact main 0 false (.inl rfl) e
    · exact main 1 false (.inr (.inl rfl)) e
    · exact main 2 false (.inr (.inr rfl)) e
    · exact main 0 true (.inl rfl) e
    · exact main 1 true (.inr (.inl rfl)) e
    · exact main 2 true (.inr (.inr rfl)) e
/-- How long MOV from a place to a register is. -/
theorem mov_place {m b x s : Int} (hb : -1 ≤ b ∧ b < 8) (hx : (x = -1 ∧ s = 1) ∨ (0 ≤ x ∧ x < 8 ∧ x ≠ 4 ∧ (s = 1 ∨ s = 2 ∨ s = 4 ∨ s = 8))) (hm : 0 ≤ m ∧ m ≤ 4294967295) :
    (encM ⟨1, 0, onReg 3, onMem m b x s, false, 0⟩).length = 1 + placeLen m b x := by
  have h8 : cA (onMem m b x s) = 8 := cA_mem8 (mem_ok hb hx)
  have hi : isB ⟨1, 0, onReg 3, onMem m b x s, false, 0⟩ = true := isB_sets (SA := [2]) (SB := [8]) (by kernel_rfl) (by decide) (by rw [h8]; decide) rfl rfl (by decide)
  have hw : waysL ⟨1, 0, onReg 3, onMem m b x s, false, 0⟩ = mW [139] (onMem m b x s) 3 := by
    rw [wl_1, if_neg (show ¬ (onMem m b x s).k = 2 by simp [onMem])]
    unfold bothW
    rw [if_neg (show ¬ (onMem m b x s).k = 1 by simp [onMem]), if_pos (kR 3)]
    rfl
  obtain ⟨⟨t, ht, hl⟩, h2⟩ := place_least (m := m) (b := b) (x := x) (s := s) (n := 3) hb.1
  refine enc_len hi (by simp [onReg]) hm ?_ ?_
  · rw [hw]; exact ⟨[139] ++ t, in_mW ht rfl, by rw [List.length_append, hl]; rfl⟩
  · rw [hw]
    intro w h
    obtain ⟨u, hu, rfl⟩ := List.mem_map.1 h
    have := h2 u hu
    rw [List.length_append]
    show _ ≤ 1 + _
    omega
theorem opB_bd {k c n : Int} {X : On} (h : opF k c n X) : ∀ z ∈ opB k X, 0 ≤ z ∧ z ≤ 255 := by
  unfold opB
  split
  · rename_i e
    subst e
    have h : X = onImm X.m ∧ 0 ≤ X.m ∧ X.m ≤ 255 := h
    intro z hz
    rw [List.mem_singleton.1 hz]
    exact h.2
  split
  · intro z hz
    rw [List.mem_singleton.1 hz]
    omega
  split
  · rename_i e
    subst e
    have h : X = onImm X.m ∧ 0 ≤ X.m ∧ X.m ≤ 4294967295 := h
    exact wB_bd _ h.2
  · intro z hz; cases hz
theorem way_bd {k : In} {r : Rw} {c n : Int} {t : List Int} (H : ByRow k r c n t) : ∀ z ∈ wayR r c t k.A k.B, 0 ≤ z ∧ z ≤ 255 := by
  have hc : ∀ z ∈ codeB c, 0 ≤ z ∧ z ≤ 255 := by
    have := H.cb
    unfold codeB
    split
    · intro z hz; rw [List.mem_singleton.1 hz]; omega
    · intro z hz
      simp only [List.mem_cons, List.not_mem_nil, or_false] at hz
      omega
  have ht : ∀ z ∈ t, 0 ≤ z ∧ z ≤ 255 := by
    by_cases ha : r.a = 6
    · have := H.A; rw [if_pos ha] at this; exact (reads_mod H.nb this.1 this.2).bd
    · by_cases hb : r.b = 6
      · have := H.B; rw [if_pos hb] at this; exact (reads_mod H.nb this.1 this.2).bd
      · rw [(H.T (fun h => h.elim ha hb)).1]; intro z hz; cases hz
  have hA : ∀ z ∈ opB r.a k.A, 0 ≤ z ∧ z ≤ 255 := by
    by_cases ha : r.a = 6
    · rw [ha]; intro z hz; cases hz
    · have := H.A; rw [if_neg ha] at this; exact opB_bd this
  have hB : ∀ z ∈ opB r.b k.B, 0 ≤ z ∧ z ≤ 255 := by
    by_cases hb : r.b = 6
    · rw [hb]; intro z hz; cases hz
    · have := H.B; rw [if_neg hb] at this; exact opB_bd this
  unfold wayR
  exact bd_app (bd_app hc ht) (bd_app hA hB)
theorem enc_bd {k : In} (hi : isB k = true) (hA : 0 ≤ k.A.m ∧ k.A.m ≤ 4294967295) (hB : 0 ≤ k.B.m ∧ k.B.m ≤ 4294967295) : ∀ z ∈ encM k, 0 ≤ z ∧ z ≤ 255 := by
  obtain ⟨r, c, n, t, H, e⟩ := bw_any hi hA hB (enc_best hi hA hB).2.1
  rw [e]; exact way_bd H
end Go.Proofs.YtbfkgakkkibejaaDoor
