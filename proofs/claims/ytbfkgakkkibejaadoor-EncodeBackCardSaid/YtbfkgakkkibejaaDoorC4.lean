/- Conditions that a row knows, operands that it takes. -/
import Derived.Test.YtbfkgakkkibejaaDoorC2
import Derived.Test.YtbfkgakkkibejaaDoorC35
import Derived.Test.YtbfkgakkkibejaaDoorCZ
import Derived.Deep.RegionHeld
namespace Go.Proofs.YtbfkgakkkibejaaDoor
open Go.RowKit
set_option linter.unusedVariables false
set_option linter.unusedSimpArgs false
set_option linter.unusedSectionVars false

theorem knows_any (k : Nat) (c : Int) (w : World) : Calls Tryd.prog 26 #[.agg (rowA k), .int .i64 c] w fun e w' => e = .returned (.bool (knowsB k c)) ∧ Below w.heap.size w w' := by
  unfold knowsB
  go_enter Tryd.func26, Tryd.ntmps26
  go_wp2
  all_goals go_ret
  all_goals refine ⟨ret_bool ?_, (Below.refl _ _).alloc (Nat.le_refl _) _⟩
  all_goals (first | (simp_all; done) | (rw [Bool.eq_iff_iff]; simp [*]; done) | (rw [Bool.eq_iff_iff]; simp [*]; omega))
theorem takes_any (k : Nat) (a b : On) (w : World) : Calls Tryd.prog 27 #[.agg (rowA k), opV a, opV b] w fun e w' => e = .returned (.bool (takesB k (cA a) (cA b))) ∧ Below w.heap.size w w' := by
  have kb : Below w.heap.size w (((w.alloc (.cells (rowA k) 60)).alloc (.cells (op6 a) 24)).alloc (.cells (op6 b) 24)) := (((Below.refl _ _).alloc (Nat.le_refl _) _).alloc (by simp) _).alloc (by simp; omega) _
  obtain ⟨a1, a2, a3⟩ := alloc3 w (.cells (rowA k) 60) (.cells (op6 a) 24) (.cells (op6 b) 24)
  have kR : Blk _ w.heap.size 60 (rowA k) := ⟨a1⟩
  have kA : Blk _ (w.heap.size + 1) 24 (op6 a) := ⟨a2⟩
  have kB : Blk _ (w.heap.size + 1 + 1) 24 (op6 b) := ⟨a3⟩
  have qA := Lib.hid (fun W => countsAs_any a W)
  have qB := Lib.hid (fun W => countsAs_any b W)
  clear a1 a2 a3
  unfold takesB
  generalize cA a = ca at *
  generalize cA b = cb at *
  go_enter Tryd.func27, Tryd.ntmps27
  go_wp2_with fail
  generalize hN : w.heap.size = N at *
  have hSB := kb.size
  rw [hN] at hSB
  generalize (((w.alloc (.cells (rowA k) 60)).alloc (.cells (op6 a) 24)).alloc (.cells (op6 b) 24)) = w1 at kb kR kA kB hSB ⊢
  have hS0 : Blk w1.drew N 60 (rowA k) ∧ Blk w1.drew (N + 1) 24 (op6 a) ∧ Blk w1.drew (N + 1 + 1) 24 (op6 b) := ⟨kR.drew, kA.drew, kB.drew⟩
  replace kb := kb.drew
  replace hSB : N ≤ w1.drew.heap.size := hSB
  clear kR kA kB
  refine wp_region_held_drew (S := fun W => Blk W N 60 (rowA k) ∧ Blk W (N + 1) 24 (op6 a) ∧ Blk W (N + 1 + 1) 24 (op6 b)) (by kernel_rfl) hS0 (fun hH0 => ?_)
  refine wpAnyH_take (i := 0) (v := opV a) rfl (by kernel_rfl) (by kernel_rfl) (by kernel_rfl) (fun _ _ _ h => h) (Or.inl ⟨by kernel_rfl, ?_⟩) hH0 ?_
  · intro W hS
    exact run_load_row (by rfl) (by rfl) 24 _ (0, 0) _ hS.2.1.h Tryd.underlying24 rfl (by kernel_rfl)
  simp only [Act.put, List.setIfInBounds_toArray, List.set_cons_zero, List.set_cons_succ]
  refine wpAnyH_take (i := 2) (v := opV b) rfl (by kernel_rfl) (by kernel_rfl) (by kernel_rfl) (fun _ _ _ h => h) (Or.inl ⟨by kernel_rfl, ?_⟩) hH0 ?_
  · intro W hS
    exact run_load_row (by rfl) (by rfl) 24 _ (0, 0) _ hS.2.2.h Tryd.underlying24 rfl (by kernel_rfl)
  simp only [Act.put, List.setIfInBounds_toArray, List.set_cons_zero, List.set_cons_succ]
  refine wpAnyH_ready (rs := [1]) (by kernel_rfl) (by simp) ?_
  refine AllReadyH.cons rfl (fun K hK => ?_) AllReadyH.nil
  go_simp
  with_reducible refine (qA.out _).mono ?_
  rintro e w2 ⟨rfl, bb⟩
  have hH1 := And.intro (hH0.1.below bb hH0.1.lt) (And.intro (hH0.2.1.below bb hH0.2.1.lt) (hH0.2.2.below bb hH0.2.2.lt))
  replace kb := kb.trans (bb.mono hSB)
  replace hSB := Nat.le_trans hSB bb.size
  clear bb
  refine hK.out _ _ hH1 (fun _ => ?_)
  clear hK K
  try simp only [Act.put, List.setIfInBounds_toArray, List.set_cons_zero, List.set_cons_succ]
  refine wpAnyH_ready (rs := [3]) (by kernel_rfl) (by simp) ?_
  refine AllReadyH.cons rfl (fun K hK => ?_) AllReadyH.nil
  go_simp
  with_reducible refine (qB.out _).mono ?_
  rintro e w3 ⟨rfl, bb⟩
  have hH2 := And.intro (hH1.1.below bb hH1.1.lt) (And.intro (hH1.2.1.below bb hH1.2.1.lt) (hH1.2.2.below bb hH1.2.2.lt))
  replace kb := kb.trans (bb.mono hSB)
  replace hSB := Nat.le_trans hSB bb.size
  clear bb
  refine hK.out _ _ hH2 (fun _ => ?_)
  clear hK K
  try simp only [Act.put, List.setIfInBounds_toArray, List.set_cons_zero, List.set_cons_succ]
  refine wpAnyH_take (i := 4) (v := ?_) rfl (by kernel_rfl) (by kernel_rfl) (by kernel_rfl) (fun _ _ _ h => h) (Or.inl ⟨by kernel_rfl, ?_⟩) hH2 ?_
  rotate_left
  · intro W hS
    go_simp
    try rfl
  simp only [Act.put, List.setIfInBounds_toArray, List.set_cons_zero, List.set_cons_succ, List.getElem_toArray, List.getElem_cons_succ, List.getElem_cons_zero]
  refine wpAnyH_take (i := 5) (v := ?_) rfl (by kernel_rfl) (by kernel_rfl) (by kernel_rfl) (fun _ _ _ h => h) (Or.inl ⟨by kernel_rfl, ?_⟩) hH2 ?_
  rotate_left
  · intro W hS
    go_simp
    try rfl
  simp only [Act.put, List.setIfInBounds_toArray, List.set_cons_zero, List.set_cons_succ, List.getElem_toArray, List.getElem_cons_succ, List.getElem_cons_zero]
  refine wpAnyH_done (by kernel_rfl) ?_ _

  obtain ⟨kR, -, -⟩ := hH2
  have c0 := kR.cell (i := 0) (v := .int .i64 (rA k)) rfl
  have c1 := kR.cell (i := 1) (v := .int .i64 (rB k)) rfl
  go_wp2
  all_goals go_ret
  all_goals subst hN
  all_goals refine ⟨ret_bool ?_, kb⟩
  all_goals clear qA qB hS0 hH0 hH1 kb hSB c0 c1 kR
  all_goals simp_all
end Go.Proofs.YtbfkgakkkibejaaDoor
