/- HostStops. -/
import Derived.Test.YtcddhlepkmbkcaaDoorG1
namespace Go.Proofs.YtcddhlepkmbkcaaDoor
open Go.RowKit
set_option linter.unusedVariables false
set_option linter.unusedSimpArgs false
set_option linter.unusedSectionVars false

set_option maxHeartbeats 1000000 in
set_option maxRecDepth 20000 in
theorem stops_0 (p h v : Int) (hq : 0 ≤ p ∧ p ≤ 4294967295) (hh : 0 ≤ h ∧ h ≤ 255) (hv : 0 ≤ v ∧ v ≤ 4294967295) (hm : h % 4 = 0) (w : World) (tabs : Tabs w) :
    Calls Tryd.prog 8 #[.int .u32 p, .int .u8 h, .int .u32 v] w fun e w' => e = .returned (.bool true) ∧ Below w.heap.size w w' := by
  have e0 : (p + 0) % 4294967296 = p := by omega
  go_enter Tryd.func8, Tryd.ntmps8
  go_wp2_with fail
  refine (known_any _ tabs).mono ?_
  rintro e w0 ⟨rfl, b0⟩
  have tabs0 := tabs.below b0
  go_wp2_with fail
  refine (aNew _ tabs0).mono ?_
  rintro e w1 ⟨rfl, a⟩
  go_wp2_with fail
  refine (aSetX a 1 p hq rfl).mono ?_
  rintro e w2 ⟨rfl, a⟩
  go_wp2_with fail
  refine (aSetX a 2 v hv rfl).mono ?_
  rintro e w3 ⟨rfl, a⟩
  go_upto_region 6 with fail
  apply wp_region_lit
  iterate 4 (refine wpList_plain rfl fun K hK => ?_; have hK' := hid hK; clear hK; go_wp2_with fail; refine hK'.out _ _ ?_; clear hK' K)
  refine build_to rfl 52 _ rfl #[.int .i64 (13), .int .i64 (3), .int .i64 (1), .int .i64 (0), .int .i32 (0), .int .i64 (18), .int .i64 (0), .int .i64 (1), .int .i64 (2), .int .i32 (0), .int .i64 (4), .int .i64 (3), .int .i64 (1), .int .i64 (0), .int .i32 (0), .int .i64 (12), .int .i64 (3), .int .i64 (1), .int .i64 (0), .int .i32 (0)] (by kernel_rfl) ?_
  refine wpList_plain rfl fun K hK => ?_
  unfold Oper.wp execOp
  simp [Instr.alloc, newVar, (zero_of_info info20).1, Result.andThen]
  refine hK _ _ ?_
  clear hK K
  refine wpList_store_row rfl 52 _ _ rfl w3.heap.size #[.int .i64 (13), .int .i64 (3), .int .i64 (1), .int .i64 (0), .int .i32 (0), .int .i64 (18), .int .i64 (0), .int .i64 (1), .int .i64 (2), .int .i32 (0), .int .i64 (4), .int .i64 (3), .int .i64 (1), .int .i64 (0), .int .i32 (0), .int .i64 (12), .int .i64 (3), .int .i64 (1), .int .i64 (0), .int .i32 (0)] (by kernel_rfl) (by kernel_rfl) 52 zero20 (alloc_new _ _) (by kernel_rfl) (by kernel_rfl) (by kernel_rfl) ?_
  apply wpList_nil
  refine exit_world (World.setRow_alloc_new w3 zero20 _ 52) ?_
  simp only [Act.put, List.setIfInBounds_toArray, List.set_cons_zero, List.set_cons_succ]
  have q0 : (w3.alloc (.cells #[.int .i64 (13), .int .i64 (3), .int .i64 (1), .int .i64 (0), .int .i32 (0), .int .i64 (18), .int .i64 (0), .int .i64 (1), .int .i64 (2), .int .i32 (0), .int .i64 (4), .int .i64 (3), .int .i64 (1), .int .i64 (0), .int .i32 (0), .int .i64 (12), .int .i64 (3), .int .i64 (1), .int .i64 (0), .int .i32 (0)] 52)).cell? ⟨w3.heap.size, 0, none⟩ = some (.int .i64 13) := own_cell (Below.refl _ (w3.alloc (.cells #[.int .i64 (13), .int .i64 (3), .int .i64 (1), .int .i64 (0), .int .i32 (0), .int .i64 (18), .int .i64 (0), .int .i64 (1), .int .i64 (2), .int .i32 (0), .int .i64 (4), .int .i64 (3), .int .i64 (1), .int .i64 (0), .int .i32 (0), .int .i64 (12), .int .i64 (3), .int .i64 (1), .int .i64 (0), .int .i32 (0)] 52))) 0 _ rfl
  have q1 : (w3.alloc (.cells #[.int .i64 (13), .int .i64 (3), .int .i64 (1), .int .i64 (0), .int .i32 (0), .int .i64 (18), .int .i64 (0), .int .i64 (1), .int .i64 (2), .int .i32 (0), .int .i64 (4), .int .i64 (3), .int .i64 (1), .int .i64 (0), .int .i32 (0), .int .i64 (12), .int .i64 (3), .int .i64 (1), .int .i64 (0), .int .i32 (0)] 52)).cell? ⟨w3.heap.size, 1, none⟩ = some (.int .i64 3) := own_cell (Below.refl _ (w3.alloc (.cells #[.int .i64 (13), .int .i64 (3), .int .i64 (1), .int .i64 (0), .int .i32 (0), .int .i64 (18), .int .i64 (0), .int .i64 (1), .int .i64 (2), .int .i32 (0), .int .i64 (4), .int .i64 (3), .int .i64 (1), .int .i64 (0), .int .i32 (0), .int .i64 (12), .int .i64 (3), .int .i64 (1), .int .i64 (0), .int .i32 (0)] 52))) 1 _ rfl
  have q2 : (w3.alloc (.cells #[.int .i64 (13), .int .i64 (3), .int .i64 (1), .int .i64 (0), .int .i32 (0), .int .i64 (18), .int .i64 (0), .int .i64 (1), .int .i64 (2), .int .i32 (0), .int .i64 (4), .int .i64 (3), .int .i64 (1), .int .i64 (0), .int .i32 (0), .int .i64 (12), .int .i64 (3), .int .i64 (1), .int .i64 (0), .int .i32 (0)] 52)).cell? ⟨w3.heap.size, 2, none⟩ = some (.int .i64 1) := own_cell (Below.refl _ (w3.alloc (.cells #[.int .i64 (13), .int .i64 (3), .int .i64 (1), .int .i64 (0), .int .i32 (0), .int .i64 (18), .int .i64 (0), .int .i64 (1), .int .i64 (2), .int .i32 (0), .int .i64 (4), .int .i64 (3), .int .i64 (1), .int .i64 (0), .int .i32 (0), .int .i64 (12), .int .i64 (3), .int .i64 (1), .int .i64 (0), .int .i32 (0)] 52))) 2 _ rfl
  have q3 : (w3.alloc (.cells #[.int .i64 (13), .int .i64 (3), .int .i64 (1), .int .i64 (0), .int .i32 (0), .int .i64 (18), .int .i64 (0), .int .i64 (1), .int .i64 (2), .int .i32 (0), .int .i64 (4), .int .i64 (3), .int .i64 (1), .int .i64 (0), .int .i32 (0), .int .i64 (12), .int .i64 (3), .int .i64 (1), .int .i64 (0), .int .i32 (0)] 52)).cell? ⟨w3.heap.size, 3, none⟩ = some (.int .i64 0) := own_cell (Below.refl _ (w3.alloc (.cells #[.int .i64 (13), .int .i64 (3), .int .i64 (1), .int .i64 (0), .int .i32 (0), .int .i64 (18), .int .i64 (0), .int .i64 (1), .int .i64 (2), .int .i32 (0), .int .i64 (4), .int .i64 (3), .int .i64 (1), .int .i64 (0), .int .i32 (0), .int .i64 (12), .int .i64 (3), .int .i64 (1), .int .i64 (0), .int .i32 (0)] 52))) 3 _ rfl
  have q4 : (w3.alloc (.cells #[.int .i64 (13), .int .i64 (3), .int .i64 (1), .int .i64 (0), .int .i32 (0), .int .i64 (18), .int .i64 (0), .int .i64 (1), .int .i64 (2), .int .i32 (0), .int .i64 (4), .int .i64 (3), .int .i64 (1), .int .i64 (0), .int .i32 (0), .int .i64 (12), .int .i64 (3), .int .i64 (1), .int .i64 (0), .int .i32 (0)] 52)).cell? ⟨w3.heap.size, 4, none⟩ = some (.int .i32 0) := own_cell (Below.refl _ (w3.alloc (.cells #[.int .i64 (13), .int .i64 (3), .int .i64 (1), .int .i64 (0), .int .i32 (0), .int .i64 (18), .int .i64 (0), .int .i64 (1), .int .i64 (2), .int .i32 (0), .int .i64 (4), .int .i64 (3), .int .i64 (1), .int .i64 (0), .int .i32 (0), .int .i64 (12), .int .i64 (3), .int .i64 (1), .int .i64 (0), .int .i32 (0)] 52))) 4 _ rfl
  replace a := a.below ((Below.refl w3.heap.size w3).alloc (Nat.le_refl _) (.cells #[.int .i64 (13), .int .i64 (3), .int .i64 (1), .int .i64 (0), .int .i32 (0), .int .i64 (18), .int .i64 (0), .int .i64 (1), .int .i64 (2), .int .i32 (0), .int .i64 (4), .int .i64 (3), .int .i64 (1), .int .i64 (0), .int .i32 (0), .int .i64 (12), .int .i64 (3), .int .i64 (1), .int .i64 (0), .int .i32 (0)] 52))
  generalize w3.alloc (.cells #[.int .i64 (13), .int .i64 (3), .int .i64 (1), .int .i64 (0), .int .i32 (0), .int .i64 (18), .int .i64 (0), .int .i64 (1), .int .i64 (2), .int .i32 (0), .int .i64 (4), .int .i64 (3), .int .i64 (1), .int .i64 (0), .int .i32 (0), .int .i64 (12), .int .i64 (3), .int .i64 (1), .int .i64 (0), .int .i32 (0)] 52) = w4 at *
  generalize w3.heap.size = L at *
  go_wp2_with fail
  refine (aWord a 13 3 1 0 0 41347 (by decide) (by decide)).mono ?_
  rintro e w5 ⟨rfl, a⟩
  go_wp2_with fail
  refine (aStore a 1024 4 41347 (by decide) (by decide) (by decide)).mono ?_
  rintro e w6 ⟨rfl, a⟩
  go_wp2_with fail
  refine (aLoadB a p 4 hq).mono ?_
  rintro e w7 ⟨rfl, a⟩
  go_wp2_with fail
  refine (aLoadB a p 2 hq).mono ?_
  rintro e w7b ⟨rfl, a⟩
  clear q0 q1 q2 q3 q4
  have hs := oneS_step (p := p) (v := v) (x := 41347) (op := 13) (d := 3) (r1 := 1) (r2 := 0) (i := 0) (by decide) (by decide)
  rw [doL_ld _ _ _ _ _ _ (by decide), oneS_x1, e0, show sizeL 13 = 4 from rfl] at hs
  cases hf : fitsL p 4 with
  | true =>
    rw [hf, if_pos rfl] at hs
    go_wp2_with fail
    refine (aStep (s := oneS p v 41347) a hs).mono ?_
    rintro e w8 ⟨rfl, a⟩
    go_wp2_with fail
    go_ret
    exact ⟨rfl, b0.trans (a.done.mono b0.size)⟩
  | false =>
    rw [hf, if_neg (by decide)] at hs
    go_wp2_with fail
    refine (aStep (s := oneS p v 41347) a hs).mono ?_
    rintro e w8 ⟨rfl, a⟩
    go_wp2_with fail
    refine (aWhy a p rfl).mono ?_
    rintro e w9 ⟨rfl, a⟩
    go_wp2_with fail
    refine (aPC a 1024 rfl).mono ?_
    rintro e w10 ⟨rfl, a⟩
    go_wp2_with fail
    refine (aX a 3 0 rfl).mono ?_
    rintro e w11 ⟨rfl, a⟩
    go_wp2_with fail
    go_ret
    exact ⟨rfl, b0.trans (a.done.mono b0.size)⟩
set_option maxHeartbeats 1000000 in
set_option maxRecDepth 20000 in
theorem stops_1 (p h v : Int) (hq : 0 ≤ p ∧ p ≤ 4294967295) (hh : 0 ≤ h ∧ h ≤ 255) (hv : 0 ≤ v ∧ v ≤ 4294967295) (hm : h % 4 = 1) (w : World) (tabs : Tabs w) :
    Calls Tryd.prog 8 #[.int .u32 p, .int .u8 h, .int .u32 v] w fun e w' => e = .returned (.bool true) ∧ Below w.heap.size w w' := by
  have e0 : (p + 0) % 4294967296 = p := by omega
  go_enter Tryd.func8, Tryd.ntmps8
  go_wp2_with fail
  refine (known_any _ tabs).mono ?_
  rintro e w0 ⟨rfl, b0⟩
  have tabs0 := tabs.below b0
  go_wp2_with fail
  refine (aNew _ tabs0).mono ?_
  rintro e w1 ⟨rfl, a⟩
  go_wp2_with fail
  refine (aSetX a 1 p hq rfl).mono ?_
  rintro e w2 ⟨rfl, a⟩
  go_wp2_with fail
  refine (aSetX a 2 v hv rfl).mono ?_
  rintro e w3 ⟨rfl, a⟩
  go_upto_region 6 with fail
  apply wp_region_lit
  iterate 4 (refine wpList_plain rfl fun K hK => ?_; have hK' := hid hK; clear hK; go_wp2_with fail; refine hK'.out _ _ ?_; clear hK' K)
  refine build_to rfl 52 _ rfl #[.int .i64 (13), .int .i64 (3), .int .i64 (1), .int .i64 (0), .int .i32 (0), .int .i64 (18), .int .i64 (0), .int .i64 (1), .int .i64 (2), .int .i32 (0), .int .i64 (4), .int .i64 (3), .int .i64 (1), .int .i64 (0), .int .i32 (0), .int .i64 (12), .int .i64 (3), .int .i64 (1), .int .i64 (0), .int .i32 (0)] (by kernel_rfl) ?_
  refine wpList_plain rfl fun K hK => ?_
  unfold Oper.wp execOp
  simp [Instr.alloc, newVar, (zero_of_info info20).1, Result.andThen]
  refine hK _ _ ?_
  clear hK K
  refine wpList_store_row rfl 52 _ _ rfl w3.heap.size #[.int .i64 (13), .int .i64 (3), .int .i64 (1), .int .i64 (0), .int .i32 (0), .int .i64 (18), .int .i64 (0), .int .i64 (1), .int .i64 (2), .int .i32 (0), .int .i64 (4), .int .i64 (3), .int .i64 (1), .int .i64 (0), .int .i32 (0), .int .i64 (12), .int .i64 (3), .int .i64 (1), .int .i64 (0), .int .i32 (0)] (by kernel_rfl) (by kernel_rfl) 52 zero20 (alloc_new _ _) (by kernel_rfl) (by kernel_rfl) (by kernel_rfl) ?_
  apply wpList_nil
  refine exit_world (World.setRow_alloc_new w3 zero20 _ 52) ?_
  simp only [Act.put, List.setIfInBounds_toArray, List.set_cons_zero, List.set_cons_succ]
  have q0 : (w3.alloc (.cells #[.int .i64 (13), .int .i64 (3), .int .i64 (1), .int .i64 (0), .int .i32 (0), .int .i64 (18), .int .i64 (0), .int .i64 (1), .int .i64 (2), .int .i32 (0), .int .i64 (4), .int .i64 (3), .int .i64 (1), .int .i64 (0), .int .i32 (0), .int .i64 (12), .int .i64 (3), .int .i64 (1), .int .i64 (0), .int .i32 (0)] 52)).cell? ⟨w3.heap.size, 5, none⟩ = some (.int .i64 18) := own_cell (Below.refl _ (w3.alloc (.cells #[.int .i64 (13), .int .i64 (3), .int .i64 (1), .int .i64 (0), .int .i32 (0), .int .i64 (18), .int .i64 (0), .int .i64 (1), .int .i64 (2), .int .i32 (0), .int .i64 (4), .int .i64 (3), .int .i64 (1), .int .i64 (0), .int .i32 (0), .int .i64 (12), .int .i64 (3), .int .i64 (1), .int .i64 (0), .int .i32 (0)] 52))) 5 _ rfl
  have q1 : (w3.alloc (.cells #[.int .i64 (13), .int .i64 (3), .int .i64 (1), .int .i64 (0), .int .i32 (0), .int .i64 (18), .int .i64 (0), .int .i64 (1), .int .i64 (2), .int .i32 (0), .int .i64 (4), .int .i64 (3), .int .i64 (1), .int .i64 (0), .int .i32 (0), .int .i64 (12), .int .i64 (3), .int .i64 (1), .int .i64 (0), .int .i32 (0)] 52)).cell? ⟨w3.heap.size, 6, none⟩ = some (.int .i64 0) := own_cell (Below.refl _ (w3.alloc (.cells #[.int .i64 (13), .int .i64 (3), .int .i64 (1), .int .i64 (0), .int .i32 (0), .int .i64 (18), .int .i64 (0), .int .i64 (1), .int .i64 (2), .int .i32 (0), .int .i64 (4), .int .i64 (3), .int .i64 (1), .int .i64 (0), .int .i32 (0), .int .i64 (12), .int .i64 (3), .int .i64 (1), .int .i64 (0), .int .i32 (0)] 52))) 6 _ rfl
  have q2 : (w3.alloc (.cells #[.int .i64 (13), .int .i64 (3), .int .i64 (1), .int .i64 (0), .int .i32 (0), .int .i64 (18), .int .i64 (0), .int .i64 (1), .int .i64 (2), .int .i32 (0), .int .i64 (4), .int .i64 (3), .int .i64 (1), .int .i64 (0), .int .i32 (0), .int .i64 (12), .int .i64 (3), .int .i64 (1), .int .i64 (0), .int .i32 (0)] 52)).cell? ⟨w3.heap.size, 7, none⟩ = some (.int .i64 1) := own_cell (Below.refl _ (w3.alloc (.cells #[.int .i64 (13), .int .i64 (3), .int .i64 (1), .int .i64 (0), .int .i32 (0), .int .i64 (18), .int .i64 (0), .int .i64 (1), .int .i64 (2), .int .i32 (0), .int .i64 (4), .int .i64 (3), .int .i64 (1), .int .i64 (0), .int .i32 (0), .int .i64 (12), .int .i64 (3), .int .i64 (1), .int .i64 (0), .int .i32 (0)] 52))) 7 _ rfl
  have q3 : (w3.alloc (.cells #[.int .i64 (13), .int .i64 (3), .int .i64 (1), .int .i64 (0), .int .i32 (0), .int .i64 (18), .int .i64 (0), .int .i64 (1), .int .i64 (2), .int .i32 (0), .int .i64 (4), .int .i64 (3), .int .i64 (1), .int .i64 (0), .int .i32 (0), .int .i64 (12), .int .i64 (3), .int .i64 (1), .int .i64 (0), .int .i32 (0)] 52)).cell? ⟨w3.heap.size, 8, none⟩ = some (.int .i64 2) := own_cell (Below.refl _ (w3.alloc (.cells #[.int .i64 (13), .int .i64 (3), .int .i64 (1), .int .i64 (0), .int .i32 (0), .int .i64 (18), .int .i64 (0), .int .i64 (1), .int .i64 (2), .int .i32 (0), .int .i64 (4), .int .i64 (3), .int .i64 (1), .int .i64 (0), .int .i32 (0), .int .i64 (12), .int .i64 (3), .int .i64 (1), .int .i64 (0), .int .i32 (0)] 52))) 8 _ rfl
  have q4 : (w3.alloc (.cells #[.int .i64 (13), .int .i64 (3), .int .i64 (1), .int .i64 (0), .int .i32 (0), .int .i64 (18), .int .i64 (0), .int .i64 (1), .int .i64 (2), .int .i32 (0), .int .i64 (4), .int .i64 (3), .int .i64 (1), .int .i64 (0), .int .i32 (0), .int .i64 (12), .int .i64 (3), .int .i64 (1), .int .i64 (0), .int .i32 (0)] 52)).cell? ⟨w3.heap.size, 9, none⟩ = some (.int .i32 0) := own_cell (Below.refl _ (w3.alloc (.cells #[.int .i64 (13), .int .i64 (3), .int .i64 (1), .int .i64 (0), .int .i32 (0), .int .i64 (18), .int .i64 (0), .int .i64 (1), .int .i64 (2), .int .i32 (0), .int .i64 (4), .int .i64 (3), .int .i64 (1), .int .i64 (0), .int .i32 (0), .int .i64 (12), .int .i64 (3), .int .i64 (1), .int .i64 (0), .int .i32 (0)] 52))) 9 _ rfl
  replace a := a.below ((Below.refl w3.heap.size w3).alloc (Nat.le_refl _) (.cells #[.int .i64 (13), .int .i64 (3), .int .i64 (1), .int .i64 (0), .int .i32 (0), .int .i64 (18), .int .i64 (0), .int .i64 (1), .int .i64 (2), .int .i32 (0), .int .i64 (4), .int .i64 (3), .int .i64 (1), .int .i64 (0), .int .i32 (0), .int .i64 (12), .int .i64 (3), .int .i64 (1), .int .i64 (0), .int .i32 (0)] 52))
  generalize w3.alloc (.cells #[.int .i64 (13), .int .i64 (3), .int .i64 (1), .int .i64 (0), .int .i32 (0), .int .i64 (18), .int .i64 (0), .int .i64 (1), .int .i64 (2), .int .i32 (0), .int .i64 (4), .int .i64 (3), .int .i64 (1), .int .i64 (0), .int .i32 (0), .int .i64 (12), .int .i64 (3), .int .i64 (1), .int .i64 (0), .int .i32 (0)] 52) = w4 at *
  generalize w3.heap.size = L at *
  go_wp2_with fail
  refine (aWord a 18 0 1 2 0 2138147 (by decide) (by decide)).mono ?_
  rintro e w5 ⟨rfl, a⟩
  go_wp2_with fail
  refine (aStore a 1024 4 2138147 (by decide) (by decide) (by decide)).mono ?_
  rintro e w6 ⟨rfl, a⟩
  go_wp2_with fail
  refine (aLoadB a p 4 hq).mono ?_
  rintro e w7 ⟨rfl, a⟩
  go_wp2_with fail
  refine (aLoadB a p 2 hq).mono ?_
  rintro e w7b ⟨rfl, a⟩
  clear q0 q1 q2 q3 q4
  have hs := oneS_step (p := p) (v := v) (x := 2138147) (op := 18) (d := 0) (r1 := 1) (r2 := 2) (i := 0) (by decide) (by decide)
  rw [doL_st _ _ _ _ _ _ (by decide), oneS_x1, oneS_x2, e0, show sizeL 18 = 4 from rfl] at hs
  cases hf : fitsL p 4 with
  | true =>
    rw [hf, if_pos rfl] at hs
    go_wp2_with fail
    refine (aStep (s := oneS p v 2138147) a hs).mono ?_
    rintro e w8 ⟨rfl, a⟩
    go_wp2_with fail
    refine (aLoad a p 4 v hq hf (load_store hv)).mono ?_
    rintro e w9 ⟨rfl, a⟩
    go_wp2_with fail
    go_ret
    exact ⟨rfl, b0.trans (a.done.mono b0.size)⟩
  | false =>
    rw [hf, if_neg (by decide)] at hs
    go_wp2_with fail
    refine (aStep (s := oneS p v 2138147) a hs).mono ?_
    rintro e w8 ⟨rfl, a⟩
    go_wp2_with fail
    refine (aLoadNo a p 4 hq hf).mono ?_
    rintro e w8b ⟨rfl, a⟩
    go_wp2_with fail
    refine (aWhy a p rfl).mono ?_
    rintro e w9 ⟨rfl, a⟩
    go_wp2_with fail
    refine (aPC a 1024 rfl).mono ?_
    rintro e w10 ⟨rfl, a⟩
    go_wp2_with fail
    go_ret
    exact ⟨rfl, b0.trans (a.done.mono b0.size)⟩
set_option maxHeartbeats 1000000 in
set_option maxRecDepth 20000 in
theorem stops_2 (p h v : Int) (hq : 0 ≤ p ∧ p ≤ 4294967295) (hh : 0 ≤ h ∧ h ≤ 255) (hv : 0 ≤ v ∧ v ≤ 4294967295) (hm : h % 4 = 2) (w : World) (tabs : Tabs w) :
    Calls Tryd.prog 8 #[.int .u32 p, .int .u8 h, .int .u32 v] w fun e w' => e = .returned (.bool true) ∧ Below w.heap.size w w' := by
  have e0 : (p + 0) % 4294967296 = p := by omega
  go_enter Tryd.func8, Tryd.ntmps8
  go_wp2_with fail
  refine (known_any _ tabs).mono ?_
  rintro e w0 ⟨rfl, b0⟩
  have tabs0 := tabs.below b0
  go_wp2_with fail
  refine (aNew _ tabs0).mono ?_
  rintro e w1 ⟨rfl, a⟩
  go_wp2_with fail
  refine (aSetX a 1 p hq rfl).mono ?_
  rintro e w2 ⟨rfl, a⟩
  go_wp2_with fail
  refine (aSetX a 2 v hv rfl).mono ?_
  rintro e w3 ⟨rfl, a⟩
  go_upto_region 6 with fail
  apply wp_region_lit
  iterate 4 (refine wpList_plain rfl fun K hK => ?_; have hK' := hid hK; clear hK; go_wp2_with fail; refine hK'.out _ _ ?_; clear hK' K)
  refine build_to rfl 52 _ rfl #[.int .i64 (13), .int .i64 (3), .int .i64 (1), .int .i64 (0), .int .i32 (0), .int .i64 (18), .int .i64 (0), .int .i64 (1), .int .i64 (2), .int .i32 (0), .int .i64 (4), .int .i64 (3), .int .i64 (1), .int .i64 (0), .int .i32 (0), .int .i64 (12), .int .i64 (3), .int .i64 (1), .int .i64 (0), .int .i32 (0)] (by kernel_rfl) ?_
  refine wpList_plain rfl fun K hK => ?_
  unfold Oper.wp execOp
  simp [Instr.alloc, newVar, (zero_of_info info20).1, Result.andThen]
  refine hK _ _ ?_
  clear hK K
  refine wpList_store_row rfl 52 _ _ rfl w3.heap.size #[.int .i64 (13), .int .i64 (3), .int .i64 (1), .int .i64 (0), .int .i32 (0), .int .i64 (18), .int .i64 (0), .int .i64 (1), .int .i64 (2), .int .i32 (0), .int .i64 (4), .int .i64 (3), .int .i64 (1), .int .i64 (0), .int .i32 (0), .int .i64 (12), .int .i64 (3), .int .i64 (1), .int .i64 (0), .int .i32 (0)] (by kernel_rfl) (by kernel_rfl) 52 zero20 (alloc_new _ _) (by kernel_rfl) (by kernel_rfl) (by kernel_rfl) ?_
  apply wpList_nil
  refine exit_world (World.setRow_alloc_new w3 zero20 _ 52) ?_
  simp only [Act.put, List.setIfInBounds_toArray, List.set_cons_zero, List.set_cons_succ]
  have q0 : (w3.alloc (.cells #[.int .i64 (13), .int .i64 (3), .int .i64 (1), .int .i64 (0), .int .i32 (0), .int .i64 (18), .int .i64 (0), .int .i64 (1), .int .i64 (2), .int .i32 (0), .int .i64 (4), .int .i64 (3), .int .i64 (1), .int .i64 (0), .int .i32 (0), .int .i64 (12), .int .i64 (3), .int .i64 (1), .int .i64 (0), .int .i32 (0)] 52)).cell? ⟨w3.heap.size, 10, none⟩ = some (.int .i64 4) := own_cell (Below.refl _ (w3.alloc (.cells #[.int .i64 (13), .int .i64 (3), .int .i64 (1), .int .i64 (0), .int .i32 (0), .int .i64 (18), .int .i64 (0), .int .i64 (1), .int .i64 (2), .int .i32 (0), .int .i64 (4), .int .i64 (3), .int .i64 (1), .int .i64 (0), .int .i32 (0), .int .i64 (12), .int .i64 (3), .int .i64 (1), .int .i64 (0), .int .i32 (0)] 52))) 10 _ rfl
  have q1 : (w3.alloc (.cells #[.int .i64 (13), .int .i64 (3), .int .i64 (1), .int .i64 (0), .int .i32 (0), .int .i64 (18), .int .i64 (0), .int .i64 (1), .int .i64 (2), .int .i32 (0), .int .i64 (4), .int .i64 (3), .int .i64 (1), .int .i64 (0), .int .i32 (0), .int .i64 (12), .int .i64 (3), .int .i64 (1), .int .i64 (0), .int .i32 (0)] 52)).cell? ⟨w3.heap.size, 11, none⟩ = some (.int .i64 3) := own_cell (Below.refl _ (w3.alloc (.cells #[.int .i64 (13), .int .i64 (3), .int .i64 (1), .int .i64 (0), .int .i32 (0), .int .i64 (18), .int .i64 (0), .int .i64 (1), .int .i64 (2), .int .i32 (0), .int .i64 (4), .int .i64 (3), .int .i64 (1), .int .i64 (0), .int .i32 (0), .int .i64 (12), .int .i64 (3), .int .i64 (1), .int .i64 (0), .int .i32 (0)] 52))) 11 _ rfl
  have q2 : (w3.alloc (.cells #[.int .i64 (13), .int .i64 (3), .int .i64 (1), .int .i64 (0), .int .i32 (0), .int .i64 (18), .int .i64 (0), .int .i64 (1), .int .i64 (2), .int .i32 (0), .int .i64 (4), .int .i64 (3), .int .i64 (1), .int .i64 (0), .int .i32 (0), .int .i64 (12), .int .i64 (3), .int .i64 (1), .int .i64 (0), .int .i32 (0)] 52)).cell? ⟨w3.heap.size, 12, none⟩ = some (.int .i64 1) := own_cell (Below.refl _ (w3.alloc (.cells #[.int .i64 (13), .int .i64 (3), .int .i64 (1), .int .i64 (0), .int .i32 (0), .int .i64 (18), .int .i64 (0), .int .i64 (1), .int .i64 (2), .int .i32 (0), .int .i64 (4), .int .i64 (3), .int .i64 (1), .int .i64 (0), .int .i32 (0), .int .i64 (12), .int .i64 (3), .int .i64 (1), .int .i64 (0), .int .i32 (0)] 52))) 12 _ rfl
  have q3 : (w3.alloc (.cells #[.int .i64 (13), .int .i64 (3), .int .i64 (1), .int .i64 (0), .int .i32 (0), .int .i64 (18), .int .i64 (0), .int .i64 (1), .int .i64 (2), .int .i32 (0), .int .i64 (4), .int .i64 (3), .int .i64 (1), .int .i64 (0), .int .i32 (0), .int .i64 (12), .int .i64 (3), .int .i64 (1), .int .i64 (0), .int .i32 (0)] 52)).cell? ⟨w3.heap.size, 13, none⟩ = some (.int .i64 0) := own_cell (Below.refl _ (w3.alloc (.cells #[.int .i64 (13), .int .i64 (3), .int .i64 (1), .int .i64 (0), .int .i32 (0), .int .i64 (18), .int .i64 (0), .int .i64 (1), .int .i64 (2), .int .i32 (0), .int .i64 (4), .int .i64 (3), .int .i64 (1), .int .i64 (0), .int .i32 (0), .int .i64 (12), .int .i64 (3), .int .i64 (1), .int .i64 (0), .int .i32 (0)] 52))) 13 _ rfl
  have q4 : (w3.alloc (.cells #[.int .i64 (13), .int .i64 (3), .int .i64 (1), .int .i64 (0), .int .i32 (0), .int .i64 (18), .int .i64 (0), .int .i64 (1), .int .i64 (2), .int .i32 (0), .int .i64 (4), .int .i64 (3), .int .i64 (1), .int .i64 (0), .int .i32 (0), .int .i64 (12), .int .i64 (3), .int .i64 (1), .int .i64 (0), .int .i32 (0)] 52)).cell? ⟨w3.heap.size, 14, none⟩ = some (.int .i32 0) := own_cell (Below.refl _ (w3.alloc (.cells #[.int .i64 (13), .int .i64 (3), .int .i64 (1), .int .i64 (0), .int .i32 (0), .int .i64 (18), .int .i64 (0), .int .i64 (1), .int .i64 (2), .int .i32 (0), .int .i64 (4), .int .i64 (3), .int .i64 (1), .int .i64 (0), .int .i32 (0), .int .i64 (12), .int .i64 (3), .int .i64 (1), .int .i64 (0), .int .i32 (0)] 52))) 14 _ rfl
  replace a := a.below ((Below.refl w3.heap.size w3).alloc (Nat.le_refl _) (.cells #[.int .i64 (13), .int .i64 (3), .int .i64 (1), .int .i64 (0), .int .i32 (0), .int .i64 (18), .int .i64 (0), .int .i64 (1), .int .i64 (2), .int .i32 (0), .int .i64 (4), .int .i64 (3), .int .i64 (1), .int .i64 (0), .int .i32 (0), .int .i64 (12), .int .i64 (3), .int .i64 (1), .int .i64 (0), .int .i32 (0)] 52))
  generalize w3.alloc (.cells #[.int .i64 (13), .int .i64 (3), .int .i64 (1), .int .i64 (0), .int .i32 (0), .int .i64 (18), .int .i64 (0), .int .i64 (1), .int .i64 (2), .int .i32 (0), .int .i64 (4), .int .i64 (3), .int .i64 (1), .int .i64 (0), .int .i32 (0), .int .i64 (12), .int .i64 (3), .int .i64 (1), .int .i64 (0), .int .i32 (0)] 52) = w4 at *
  generalize w3.heap.size = L at *
  go_wp2_with fail
  refine (aWord a 4 3 1 0 0 33255 (by decide) (by decide)).mono ?_
  rintro e w5 ⟨rfl, a⟩
  go_wp2_with fail
  refine (aStore a 1024 4 33255 (by decide) (by decide) (by decide)).mono ?_
  rintro e w6 ⟨rfl, a⟩
  go_wp2_with fail
  refine (aLoadB a p 4 hq).mono ?_
  rintro e w7 ⟨rfl, a⟩
  go_wp2_with fail
  refine (aLoadB a p 2 hq).mono ?_
  rintro e w7b ⟨rfl, a⟩
  clear q0 q1 q2 q3 q4
  have hs := oneS_step (p := p) (v := v) (x := 33255) (op := 4) (d := 3) (r1 := 1) (r2 := 0) (i := 0) (by decide) (by decide)
  rw [doL_4, oneS_x1, e0] at hs
  have hcl := clear1 p hq
  by_cases hf : p / 2 * 2 % 4 = 0
  · rw [jump_yes hf] at hs
    go_wp2_with fail
    refine (aStep (s := oneS p v 33255) a hs).mono ?_
    rintro e w8 ⟨rfl, a⟩
    go_wp2_with fail
    refine (aPC a (p / 2 * 2) rfl).mono ?_
    rintro e w9 ⟨rfl, a⟩
    go_wp2_with fail
    refine (aX a 3 1028 rfl).mono ?_
    rintro e w10 ⟨rfl, a⟩
    go_wp2_with fail
    go_ret
    exact ⟨rfl, b0.trans (a.done.mono b0.size)⟩
  · rw [jump_no hf] at hs
    go_wp2_with fail
    refine (aStep (s := oneS p v 33255) a hs).mono ?_
    rintro e w8 ⟨rfl, a⟩
    go_wp2_with fail
    refine (aWhy a (p / 2 * 2) rfl).mono ?_
    rintro e w9 ⟨rfl, a⟩
    go_wp2_with fail
    refine (aX a 3 0 rfl).mono ?_
    rintro e w10 ⟨rfl, a⟩
    go_wp2_with fail
    go_ret
    exact ⟨ret_bool (by simp [hf]), b0.trans (a.done.mono b0.size)⟩
set_option maxHeartbeats 1000000 in
set_option maxRecDepth 20000 in
theorem stops_3 (p h v : Int) (hq : 0 ≤ p ∧ p ≤ 4294967295) (hh : 0 ≤ h ∧ h ≤ 255) (hv : 0 ≤ v ∧ v ≤ 4294967295) (hm : h % 4 = 3) (w : World) (tabs : Tabs w) :
    Calls Tryd.prog 8 #[.int .u32 p, .int .u8 h, .int .u32 v] w fun e w' => e = .returned (.bool true) ∧ Below w.heap.size w w' := by
  have e0 : (p + 0) % 4294967296 = p := by omega
  go_enter Tryd.func8, Tryd.ntmps8
  go_wp2_with fail
  refine (known_any _ tabs).mono ?_
  rintro e w0 ⟨rfl, b0⟩
  have tabs0 := tabs.below b0
  go_wp2_with fail
  refine (aNew _ tabs0).mono ?_
  rintro e w1 ⟨rfl, a⟩
  go_wp2_with fail
  refine (aSetX a 1 p hq rfl).mono ?_
  rintro e w2 ⟨rfl, a⟩
  go_wp2_with fail
  refine (aSetX a 2 v hv rfl).mono ?_
  rintro e w3 ⟨rfl, a⟩
  go_upto_region 6 with fail
  apply wp_region_lit
  iterate 4 (refine wpList_plain rfl fun K hK => ?_; have hK' := hid hK; clear hK; go_wp2_with fail; refine hK'.out _ _ ?_; clear hK' K)
  refine build_to rfl 52 _ rfl #[.int .i64 (13), .int .i64 (3), .int .i64 (1), .int .i64 (0), .int .i32 (0), .int .i64 (18), .int .i64 (0), .int .i64 (1), .int .i64 (2), .int .i32 (0), .int .i64 (4), .int .i64 (3), .int .i64 (1), .int .i64 (0), .int .i32 (0), .int .i64 (12), .int .i64 (3), .int .i64 (1), .int .i64 (0), .int .i32 (0)] (by kernel_rfl) ?_
  refine wpList_plain rfl fun K hK => ?_
  unfold Oper.wp execOp
  simp [Instr.alloc, newVar, (zero_of_info info20).1, Result.andThen]
  refine hK _ _ ?_
  clear hK K
  refine wpList_store_row rfl 52 _ _ rfl w3.heap.size #[.int .i64 (13), .int .i64 (3), .int .i64 (1), .int .i64 (0), .int .i32 (0), .int .i64 (18), .int .i64 (0), .int .i64 (1), .int .i64 (2), .int .i32 (0), .int .i64 (4), .int .i64 (3), .int .i64 (1), .int .i64 (0), .int .i32 (0), .int .i64 (12), .int .i64 (3), .int .i64 (1), .int .i64 (0), .int .i32 (0)] (by kernel_rfl) (by kernel_rfl) 52 zero20 (alloc_new _ _) (by kernel_rfl) (by kernel_rfl) (by kernel_rfl) ?_
  apply wpList_nil
  refine exit_world (World.setRow_alloc_new w3 zero20 _ 52) ?_
  simp only [Act.put, List.setIfInBounds_toArray, List.set_cons_zero, List.set_cons_succ]
  have q0 : (w3.alloc (.cells #[.int .i64 (13), .int .i64 (3), .int .i64 (1), .int .i64 (0), .int .i32 (0), .int .i64 (18), .int .i64 (0), .int .i64 (1), .int .i64 (2), .int .i32 (0), .int .i64 (4), .int .i64 (3), .int .i64 (1), .int .i64 (0), .int .i32 (0), .int .i64 (12), .int .i64 (3), .int .i64 (1), .int .i64 (0), .int .i32 (0)] 52)).cell? ⟨w3.heap.size, 15, none⟩ = some (.int .i64 12) := own_cell (Below.refl _ (w3.alloc (.cells #[.int .i64 (13), .int .i64 (3), .int .i64 (1), .int .i64 (0), .int .i32 (0), .int .i64 (18), .int .i64 (0), .int .i64 (1), .int .i64 (2), .int .i32 (0), .int .i64 (4), .int .i64 (3), .int .i64 (1), .int .i64 (0), .int .i32 (0), .int .i64 (12), .int .i64 (3), .int .i64 (1), .int .i64 (0), .int .i32 (0)] 52))) 15 _ rfl
  have q1 : (w3.alloc (.cells #[.int .i64 (13), .int .i64 (3), .int .i64 (1), .int .i64 (0), .int .i32 (0), .int .i64 (18), .int .i64 (0), .int .i64 (1), .int .i64 (2), .int .i32 (0), .int .i64 (4), .int .i64 (3), .int .i64 (1), .int .i64 (0), .int .i32 (0), .int .i64 (12), .int .i64 (3), .int .i64 (1), .int .i64 (0), .int .i32 (0)] 52)).cell? ⟨w3.heap.size, 16, none⟩ = some (.int .i64 3) := own_cell (Below.refl _ (w3.alloc (.cells #[.int .i64 (13), .int .i64 (3), .int .i64 (1), .int .i64 (0), .int .i32 (0), .int .i64 (18), .int .i64 (0), .int .i64 (1), .int .i64 (2), .int .i32 (0), .int .i64 (4), .int .i64 (3), .int .i64 (1), .int .i64 (0), .int .i32 (0), .int .i64 (12), .int .i64 (3), .int .i64 (1), .int .i64 (0), .int .i32 (0)] 52))) 16 _ rfl
  have q2 : (w3.alloc (.cells #[.int .i64 (13), .int .i64 (3), .int .i64 (1), .int .i64 (0), .int .i32 (0), .int .i64 (18), .int .i64 (0), .int .i64 (1), .int .i64 (2), .int .i32 (0), .int .i64 (4), .int .i64 (3), .int .i64 (1), .int .i64 (0), .int .i32 (0), .int .i64 (12), .int .i64 (3), .int .i64 (1), .int .i64 (0), .int .i32 (0)] 52)).cell? ⟨w3.heap.size, 17, none⟩ = some (.int .i64 1) := own_cell (Below.refl _ (w3.alloc (.cells #[.int .i64 (13), .int .i64 (3), .int .i64 (1), .int .i64 (0), .int .i32 (0), .int .i64 (18), .int .i64 (0), .int .i64 (1), .int .i64 (2), .int .i32 (0), .int .i64 (4), .int .i64 (3), .int .i64 (1), .int .i64 (0), .int .i32 (0), .int .i64 (12), .int .i64 (3), .int .i64 (1), .int .i64 (0), .int .i32 (0)] 52))) 17 _ rfl
  have q3 : (w3.alloc (.cells #[.int .i64 (13), .int .i64 (3), .int .i64 (1), .int .i64 (0), .int .i32 (0), .int .i64 (18), .int .i64 (0), .int .i64 (1), .int .i64 (2), .int .i32 (0), .int .i64 (4), .int .i64 (3), .int .i64 (1), .int .i64 (0), .int .i32 (0), .int .i64 (12), .int .i64 (3), .int .i64 (1), .int .i64 (0), .int .i32 (0)] 52)).cell? ⟨w3.heap.size, 18, none⟩ = some (.int .i64 0) := own_cell (Below.refl _ (w3.alloc (.cells #[.int .i64 (13), .int .i64 (3), .int .i64 (1), .int .i64 (0), .int .i32 (0), .int .i64 (18), .int .i64 (0), .int .i64 (1), .int .i64 (2), .int .i32 (0), .int .i64 (4), .int .i64 (3), .int .i64 (1), .int .i64 (0), .int .i32 (0), .int .i64 (12), .int .i64 (3), .int .i64 (1), .int .i64 (0), .int .i32 (0)] 52))) 18 _ rfl
  have q4 : (w3.alloc (.cells #[.int .i64 (13), .int .i64 (3), .int .i64 (1), .int .i64 (0), .int .i32 (0), .int .i64 (18), .int .i64 (0), .int .i64 (1), .int .i64 (2), .int .i32 (0), .int .i64 (4), .int .i64 (3), .int .i64 (1), .int .i64 (0), .int .i32 (0), .int .i64 (12), .int .i64 (3), .int .i64 (1), .int .i64 (0), .int .i32 (0)] 52)).cell? ⟨w3.heap.size, 19, none⟩ = some (.int .i32 0) := own_cell (Below.refl _ (w3.alloc (.cells #[.int .i64 (13), .int .i64 (3), .int .i64 (1), .int .i64 (0), .int .i32 (0), .int .i64 (18), .int .i64 (0), .int .i64 (1), .int .i64 (2), .int .i32 (0), .int .i64 (4), .int .i64 (3), .int .i64 (1), .int .i64 (0), .int .i32 (0), .int .i64 (12), .int .i64 (3), .int .i64 (1), .int .i64 (0), .int .i32 (0)] 52))) 19 _ rfl
  replace a := a.below ((Below.refl w3.heap.size w3).alloc (Nat.le_refl _) (.cells #[.int .i64 (13), .int .i64 (3), .int .i64 (1), .int .i64 (0), .int .i32 (0), .int .i64 (18), .int .i64 (0), .int .i64 (1), .int .i64 (2), .int .i32 (0), .int .i64 (4), .int .i64 (3), .int .i64 (1), .int .i64 (0), .int .i32 (0), .int .i64 (12), .int .i64 (3), .int .i64 (1), .int .i64 (0), .int .i32 (0)] 52))
  generalize w3.alloc (.cells #[.int .i64 (13), .int .i64 (3), .int .i64 (1), .int .i64 (0), .int .i32 (0), .int .i64 (18), .int .i64 (0), .int .i64 (1), .int .i64 (2), .int .i32 (0), .int .i64 (4), .int .i64 (3), .int .i64 (1), .int .i64 (0), .int .i32 (0), .int .i64 (12), .int .i64 (3), .int .i64 (1), .int .i64 (0), .int .i32 (0)] 52) = w4 at *
  generalize w3.heap.size = L at *
  go_wp2_with fail
  refine (aWord a 12 3 1 0 0 37251 (by decide) (by decide)).mono ?_
  rintro e w5 ⟨rfl, a⟩
  go_wp2_with fail
  refine (aStore a 1024 4 37251 (by decide) (by decide) (by decide)).mono ?_
  rintro e w6 ⟨rfl, a⟩
  go_wp2_with fail
  refine (aLoadB a p 4 hq).mono ?_
  rintro e w7 ⟨rfl, a⟩
  go_wp2_with fail
  refine (aLoadB a p 2 hq).mono ?_
  rintro e w7b ⟨rfl, a⟩
  clear q0 q1 q2 q3 q4
  have hs := oneS_step (p := p) (v := v) (x := 37251) (op := 12) (d := 3) (r1 := 1) (r2 := 0) (i := 0) (by decide) (by decide)
  rw [doL_ld _ _ _ _ _ _ (by decide), oneS_x1, e0, show sizeL 12 = 2 from rfl] at hs
  cases hf : fitsL p 2 with
  | true =>
    rw [hf, if_pos rfl] at hs
    go_wp2_with fail
    refine (aStep (s := oneS p v 37251) a hs).mono ?_
    rintro e w8 ⟨rfl, a⟩
    go_wp2_with fail
    go_ret
    exact ⟨rfl, b0.trans (a.done.mono b0.size)⟩
  | false =>
    rw [hf, if_neg (by decide)] at hs
    go_wp2_with fail
    refine (aStep (s := oneS p v 37251) a hs).mono ?_
    rintro e w8 ⟨rfl, a⟩
    go_wp2_with fail
    go_ret
    exact ⟨rfl, b0.trans (a.done.mono b0.size)⟩
theorem stops_walk (p h v : Int) (hq : 0 ≤ p ∧ p ≤ 4294967295) (hh : 0 ≤ h ∧ h ≤ 255) (hv : 0 ≤ v ∧ v ≤ 4294967295) (w : World) (tabs : Tabs w) :
    Calls Tryd.prog 8 #[.int .u32 p, .int .u8 h, .int .u32 v] w fun e w' => e = .returned (.bool true) ∧ Below w.heap.size w w' := by
  rcases (by omega : h % 4 = 0 ∨ h % 4 = 1 ∨ h % 4 = 2 ∨ h % 4 = 3) with hm | hm | hm | hm
  · exact stops_0 p h v hq hh hv hm w tabs
  · exact stops_1 p h v hq hh hv hm w tabs
  · exact stops_2 p h v hq hh hv hm w tabs
  · exact stops_3 p h v hq hh hv hm w tabs
end Go.Proofs.YtcddhlepkmbkcaaDoor
