/- HostLoops. -/
import Derived.Test.YtcddhlepkmbkcaaDoorL0
namespace Go.Proofs.YtcddhlepkmbkcaaDoor
open Go.RowKit
set_option linter.unusedVariables false
set_option linter.unusedSimpArgs false
set_option linter.unusedSectionVars false

set_option maxHeartbeats 2000000 in
set_option maxRecDepth 20000 in
theorem loops_walk (n f : Int) (hn : 0 ≤ n ∧ n ≤ 255) (hf : 0 ≤ f ∧ f ≤ 255) (w : World) (tabs : Tabs w) :
    Calls Tryd.prog 7 #[.int .u8 n, .int .u8 f] w fun e w' => e = .returned (.bool true) ∧ Below w.heap.size w w' := by
  have x0 : ∀ W, (Instr.index 52 (.agg #[.int .i64 (19), .int .i64 (2), .int .i64 (2), .int .i64 (0), .int .i32 (3), .int .i64 (19), .int .i64 (1), .int .i64 (1), .int .i64 (0), .int .i32 (-1), .int .i64 (6), .int .i64 (0), .int .i64 (1), .int .i64 (0), .int .i32 (-8), .int .i64 (46), .int .i64 (0), .int .i64 (0), .int .i64 (0), .int .i32 (0)]) (.int .i64 0)).run Tryd.prog W = .ok (wordV (19) (2) (2) (0) (3)) W := fun W => by kernel_rfl
  have x1 : ∀ W, (Instr.index 52 (.agg #[.int .i64 (19), .int .i64 (2), .int .i64 (2), .int .i64 (0), .int .i32 (3), .int .i64 (19), .int .i64 (1), .int .i64 (1), .int .i64 (0), .int .i32 (-1), .int .i64 (6), .int .i64 (0), .int .i64 (1), .int .i64 (0), .int .i32 (-8), .int .i64 (46), .int .i64 (0), .int .i64 (0), .int .i64 (0), .int .i32 (0)]) (.int .i64 1)).run Tryd.prog W = .ok (wordV (19) (1) (1) (0) (-1)) W := fun W => by kernel_rfl
  have x2 : ∀ W, (Instr.index 52 (.agg #[.int .i64 (19), .int .i64 (2), .int .i64 (2), .int .i64 (0), .int .i32 (3), .int .i64 (19), .int .i64 (1), .int .i64 (1), .int .i64 (0), .int .i32 (-1), .int .i64 (6), .int .i64 (0), .int .i64 (1), .int .i64 (0), .int .i32 (-8), .int .i64 (46), .int .i64 (0), .int .i64 (0), .int .i64 (0), .int .i32 (0)]) (.int .i64 2)).run Tryd.prog W = .ok (wordV (6) (0) (1) (0) (-8)) W := fun W => by kernel_rfl
  have x3 : ∀ W, (Instr.index 52 (.agg #[.int .i64 (19), .int .i64 (2), .int .i64 (2), .int .i64 (0), .int .i32 (3), .int .i64 (19), .int .i64 (1), .int .i64 (1), .int .i64 (0), .int .i32 (-1), .int .i64 (6), .int .i64 (0), .int .i64 (1), .int .i64 (0), .int .i32 (-8), .int .i64 (46), .int .i64 (0), .int .i64 (0), .int .i64 (0), .int .i32 (0)]) (.int .i64 3)).run Tryd.prog W = .ok (wordV (46) (0) (0) (0) (0)) W := fun W => by kernel_rfl
  obtain ⟨K, hK⟩ := Int.eq_ofNat_of_zero_le (show 0 ≤ n % 50 + 1 by omega)
  obtain ⟨F, hF⟩ := Int.eq_ofNat_of_zero_le (show 0 ≤ f % (3 * (n % 50 + 1) + 1) by exact Int.emod_nonneg _ (by omega))
  have hF2 : f % (3 * (n % 50 + 1) + 1) < 3 * (n % 50 + 1) + 1 := Int.emod_lt_of_pos _ (by omega)
  rw [hK] at hF hF2
  have hK1 : 1 ≤ K := by omega
  have hK2 : K ≤ 50 := by omega
  have hF3 : F ≤ 3 * K := by omega
  go_enter Tryd.func7, Tryd.ntmps7
  go_wp2_with fail
  refine (known_any _ tabs).mono ?_
  rintro e w0 ⟨rfl, b0⟩
  have tabs0 := tabs.below b0
  go_wp2_with fail
  refine (aNew _ tabs0).mono ?_
  rintro e w1 ⟨rfl, A⟩
  have hBs := b0.size
  generalize w0.heap.size = B at *
  go_wp2_with fail
  refine (aSetX A 1 K (by omega) rfl).mono ?_
  rintro e w2 ⟨rfl, A⟩
  go_upto_region 6 with fail
  apply wp_region_lit
  iterate 4 (refine wpList_plain rfl fun K hK => ?_; have hK' := hid hK; clear hK; go_wp2_with fail; refine hK'.out _ _ ?_; clear hK' K)
  refine build_to rfl 52 _ rfl #[.int .i64 (19), .int .i64 (2), .int .i64 (2), .int .i64 (0), .int .i32 (3), .int .i64 (19), .int .i64 (1), .int .i64 (1), .int .i64 (0), .int .i32 (-1), .int .i64 (6), .int .i64 (0), .int .i64 (1), .int .i64 (0), .int .i32 (-8), .int .i64 (46), .int .i64 (0), .int .i64 (0), .int .i64 (0), .int .i32 (0)] (by kernel_rfl) ?_
  go_wp2_with fail
  go_loopw [30] (fun ii W => ∃ k : Nat, k ≤ 4 ∧ ii = .int .i64 k ∧ At w0 W B (if k = 0 then lp0 K else if k = 1 then lp1 K else if k = 2 then lp2 K else if k = 3 then lp3 K else lp4 K)) (fun ii _ => (4 - intOf ii).toNat)
  case atStart => exact ⟨0, by omega, rfl, A⟩
  case round =>
    clear A
    obtain ⟨k, hk, rfl, A⟩ := hrel
    rcases (by omega : k = 0 ∨ k = 1 ∨ k = 2 ∨ k = 3 ∨ k = 4) with rfl | rfl | rfl | rfl | rfl
    · have hx := x0
      clear x0 x1 x2 x3
      go_wp2_with fail
      refine (aWord (A.below ((Below.refl wr.heap.size wr).alloc (Nat.le_refl _) _)) (19) (2) (2) (0) (3) 3211539 (by decide) (by decide)).mono ?_
      rintro e v1 ⟨rfl, A⟩
      go_wp2_with fail
      refine (aStore A 1024 4 3211539 (by decide) (by decide) (by decide)).mono ?_
      rintro e v2 ⟨rfl, A⟩
      go_wp2_with fail
      go_roundw
      case rel => exact ⟨1, by omega, by go_num, A⟩
      case measure => simp [intOf]
    · have hx := x1
      clear x0 x1 x2 x3
      go_wp2_with fail
      refine (aWord (A.below ((Below.refl wr.heap.size wr).alloc (Nat.le_refl _) _)) (19) (1) (1) (0) (-1) 4293951635 (by decide) (by decide)).mono ?_
      rintro e v1 ⟨rfl, A⟩
      go_wp2_with fail
      refine (aStore A 1028 4 4293951635 (by decide) (by decide) (by decide)).mono ?_
      rintro e v2 ⟨rfl, A⟩
      go_wp2_with fail
      go_roundw
      case rel => exact ⟨2, by omega, by go_num, A⟩
      case measure => simp [intOf]
    · have hx := x2
      clear x0 x1 x2 x3
      go_wp2_with fail
      refine (aWord (A.below ((Below.refl wr.heap.size wr).alloc (Nat.le_refl _) _)) (6) (0) (1) (0) (-8) 4261453027 (by decide) (by decide)).mono ?_
      rintro e v1 ⟨rfl, A⟩
      go_wp2_with fail
      refine (aStore A 1032 4 4261453027 (by decide) (by decide) (by decide)).mono ?_
      rintro e v2 ⟨rfl, A⟩
      go_wp2_with fail
      go_roundw
      case rel => exact ⟨3, by omega, by go_num, A⟩
      case measure => simp [intOf]
    · have hx := x3
      clear x0 x1 x2 x3
      go_wp2_with fail
      refine (aWord (A.below ((Below.refl wr.heap.size wr).alloc (Nat.le_refl _) _)) (46) (0) (0) (0) (0) 115 (by decide) (by decide)).mono ?_
      rintro e v1 ⟨rfl, A⟩
      go_wp2_with fail
      refine (aStore A 1036 4 115 (by decide) (by decide) (by decide)).mono ?_
      rintro e v2 ⟨rfl, A⟩
      go_wp2_with fail
      go_roundw
      case rel => exact ⟨4, by omega, by go_num, A⟩
      case measure => simp [intOf]
    · clear x0 x1 x2 x3
      replace A : At w0 wr B (lp4 K) := A
      rw [← stF_0 (K := K) hK1] at A
      obtain ⟨D, hD⟩ : ∃ D : Nat, D = 3 * K - F + 1 := ⟨_, rfl⟩
      have hs : (F : Int) + (D : Int) = 3 * (K : Int) + 1 := by omega
      have r1 : runL F 0 (stF K 0) = (0, F, stF K F) := by have := runL_to hK2 F 0 0 (by omega); rw [Nat.zero_add] at this; exact this
      have r2 : runL 1000 0 (stF K F) = (1, D, gS K 0 (3 * K : Nat) 1040) := by rw [hD]; exact runL_end hK2 F 1000 hF3 (by omega)
      go_wp2_with fail
      refine (aRun F (by omega) A r1).mono ?_
      rintro e w3 ⟨rfl, A⟩
      go_wp2_with fail
      refine (aRun 1000 (by decide) A r2).mono ?_
      rintro e w4 ⟨rfl, A⟩
      clear hD
      go_wp2_with fail
      refine (aX A 2 (3 * K) (by simp [getX, g_2])).mono ?_
      rintro e w5 ⟨rfl, A⟩
      go_wp2_with fail
      refine (aX A 1 0 (by simp [getX, g_1])).mono ?_
      rintro e w6 ⟨rfl, A⟩
      go_wp2_with fail
      refine (aPC A 1040 rfl).mono ?_
      rintro e w7 ⟨rfl, A⟩
      go_wp2_with fail
      go_ret
      exact ⟨rfl, b0.trans (A.done.mono hBs)⟩
end Go.Proofs.YtcddhlepkmbkcaaDoor
