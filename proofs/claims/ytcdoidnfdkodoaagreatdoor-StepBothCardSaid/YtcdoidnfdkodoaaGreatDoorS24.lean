import Derived.Test.YtcdoidnfdkodoaaGreatDoorS23
namespace Go.Proofs.YtcdoidnfdkodoaaGreatDoor
open Go.RowKit
set_option linter.unusedVariables false
set_option linter.unusedSimpArgs false
set_option linter.unusedSectionVars false
section
variable {w : World} {N B : Nat} {a : Option Addr} {len cap : Nat} {zs : List Int} {p : Nat} {c m : Int}
set_option maxRecDepth 8000 in
theorem place_A1y (R : Rd w N B a len cap zs p c m) (h3 : ¬ m / 64 % 4 = 3) (h4 : ¬ m % 8 = 4) (h7 : m / 64 % 4 = 0) (h8 : m % 8 = 5) (h9 : p + distN 2 ≤ zs.length) :
    Calls Tryz.prog 270 #[rp B] w fun e w' => e = .returned (opV (onMem (distV zs p 2) (-1) (-1) (1))) ∧ Rd w' N B a len cap zs (p + distN 2) c m ∧ But [B] w.heap.size w w' := by
  have hH := fun w => highest_any m R.mb w
  have hL := fun w => lowest3_any m R.mb w
  have F := PF.start R 31 z6
  have hB := R.lt
  have hD := Lib.hid (fun W (R : Rd W N B a len cap zs p c m) => distance_yes R 2 h9)
  generalize distV zs p 2 = dv at *
  have hdn : p + distN 2 = p + distN 2 := rfl
  generalize hdx : p + distN 2 = dn at *
  generalize m % 8 = rm at *
  generalize m / 64 % 4 = how at *
  subst h7
  subst h8
  clear h9
  go_enter Tryz.func270, Tryz.ntmps270
  go_wp2_with fail
  generalize w.alloc (.cells z6 31) = w1 at *
  refine wp_region_held_drew (S := fun W => PF w W N B a len cap zs p c m 31 z6) (by kernel_rfl) F.drew (fun hHeld => ?_)
  refine wpAnyH_take (i := 0) (v := ?_) rfl (by kernel_rfl) (by kernel_rfl) (by kernel_rfl) (fun _ _ _ h => h) (Or.inl ⟨by kernel_rfl, ?_⟩) hHeld ?_
  rotate_left
  · intro W hS
    go_simp
    try rfl
  simp only [Act.put, List.setIfInBounds_toArray, List.set_cons_zero, List.set_cons_succ, List.getElem_toArray, List.getElem_cons_succ, List.getElem_cons_zero]
  refine wpAnyH_take (i := 1) (v := ?_) rfl (by kernel_rfl) (by kernel_rfl) (by kernel_rfl) (fun _ _ _ h => h) (Or.inl ⟨by kernel_rfl, ?_⟩) hHeld ?_
  rotate_left
  · intro W hS
    go_simp
    try rfl
  simp only [Act.put, List.setIfInBounds_toArray, List.set_cons_zero, List.set_cons_succ, List.getElem_toArray, List.getElem_cons_succ, List.getElem_cons_zero]
  refine wpAnyH_take (i := 2) (v := ?_) rfl (by kernel_rfl) (by kernel_rfl) (by kernel_rfl) (fun _ _ _ h => h) (Or.inl ⟨by kernel_rfl, ?_⟩) hHeld ?_
  rotate_left
  · intro W hS
    go_simp
    try rfl
  simp only [Act.put, List.setIfInBounds_toArray, List.set_cons_zero, List.set_cons_succ, List.getElem_toArray, List.getElem_cons_succ, List.getElem_cons_zero]
  refine wpAnyH_take (i := 3) (v := ?_) rfl (by kernel_rfl) (by kernel_rfl) (by kernel_rfl) (fun _ _ _ h => h) (Or.inl ⟨by kernel_rfl, ?_⟩) hHeld ?_
  rotate_left
  · intro W hS
    have c3 := hS.r.c3
    go_simp
    try rfl
  simp only [Act.put, List.setIfInBounds_toArray, List.set_cons_zero, List.set_cons_succ, List.getElem_toArray, List.getElem_cons_succ, List.getElem_cons_zero]
  refine wpAnyH_take (i := 5) (v := ?_) rfl (by kernel_rfl) (by kernel_rfl) (by kernel_rfl) (fun _ _ _ h => h) (Or.inl ⟨by kernel_rfl, ?_⟩) hHeld ?_
  rotate_left
  · intro W hS
    go_simp
    try rfl
  simp only [Act.put, List.setIfInBounds_toArray, List.set_cons_zero, List.set_cons_succ, List.getElem_toArray, List.getElem_cons_succ, List.getElem_cons_zero]
  refine wpAnyH_take (i := 6) (v := ?_) rfl (by kernel_rfl) (by kernel_rfl) (by kernel_rfl) (fun _ _ _ h => h) (Or.inl ⟨by kernel_rfl, ?_⟩) hHeld ?_
  rotate_left
  · intro W hS
    go_simp
    try rfl
  simp only [Act.put, List.setIfInBounds_toArray, List.set_cons_zero, List.set_cons_succ, List.getElem_toArray, List.getElem_cons_succ, List.getElem_cons_zero]
  refine wpAnyH_take (i := 7) (v := ?_) rfl (by kernel_rfl) (by kernel_rfl) (by kernel_rfl) (fun _ _ _ h => h) (Or.inl ⟨by kernel_rfl, ?_⟩) hHeld ?_
  rotate_left
  · intro W hS
    go_simp
    try rfl
  simp only [Act.put, List.setIfInBounds_toArray, List.set_cons_zero, List.set_cons_succ, List.getElem_toArray, List.getElem_cons_succ, List.getElem_cons_zero]
  refine wpAnyH_take (i := 8) (v := ?_) rfl (by kernel_rfl) (by kernel_rfl) (by kernel_rfl) (fun _ _ _ h => h) (Or.inl ⟨by kernel_rfl, ?_⟩) hHeld ?_
  rotate_left
  · intro W hS
    have c3 := hS.r.c3
    go_simp
    try rfl
  simp only [Act.put, List.setIfInBounds_toArray, List.set_cons_zero, List.set_cons_succ, List.getElem_toArray, List.getElem_cons_succ, List.getElem_cons_zero]
  refine wpAnyH_ready (rs := [4]) (by kernel_rfl) (by simp) ?_
  refine AllReadyH.cons rfl (fun K hK => ?_) AllReadyH.nil
  go_simp
  with_reducible refine (hH _).mono ?_
  rintro e w2 ⟨rfl, rfl⟩
  refine hK.out _ _ hHeld (fun _ => ?_)
  clear hK K
  try simp only [Act.put, List.setIfInBounds_toArray, List.set_cons_zero, List.set_cons_succ]
  refine wpAnyH_ready (rs := [9]) (by kernel_rfl) (by simp) ?_
  refine AllReadyH.cons rfl (fun K hK => ?_) AllReadyH.nil
  go_simp
  with_reducible refine (hL _).mono ?_
  rintro e w2 ⟨rfl, rfl⟩
  refine hK.out _ _ hHeld (fun _ => ?_)
  clear hK K
  try simp only [Act.put, List.setIfInBounds_toArray, List.set_cons_zero, List.set_cons_succ]
  refine wpAnyH_take (i := 10) (v := ?_) rfl (by kernel_rfl) (by kernel_rfl) (by kernel_rfl) (fun _ _ _ h => h) (Or.inl ⟨by kernel_rfl, ?_⟩) hHeld ?_
  rotate_left
  · intro W hS
    go_simp
    try rfl
  simp only [Act.put, List.setIfInBounds_toArray, List.set_cons_zero, List.set_cons_succ, List.getElem_toArray, List.getElem_cons_succ, List.getElem_cons_zero]
  refine wpAnyH_take (i := 11) (v := ?_) rfl (by kernel_rfl) (by kernel_rfl) (by kernel_rfl) (fun _ _ _ h => h) (Or.inl ⟨by kernel_rfl, ?_⟩) hHeld ?_
  rotate_left
  · intro W hS
    go_simp
    try rfl
  simp only [Act.put, List.setIfInBounds_toArray, List.set_cons_zero, List.set_cons_succ, List.getElem_toArray, List.getElem_cons_succ, List.getElem_cons_zero]
  refine wpAnyH_done (by kernel_rfl) ?_ _
  generalize w1.drew = w2 at *
  go_upto_region 5 with ((with_reducible refine store_op_as rfl _ _ rfl (op6 (onMem 0 5 (-1) 1)) (op6_size _) (op6_one _) rfl rfl ?_); intro W3 kO b3)
  have F1 := hHeld.below b3
  have hK := hHeld.lt
  generalize w2.heap.size = K at *
  go_upto_region 7 with fail
  have F4 := F1
  have kO4 := kO
  have d3 := kO4.cell (i := 3) (v := .int .i64 5) rfl
  have f3 := kO4.fr 3
  go_upto_region 9 with fail
  have F5 := F4.cell hK 3 (.int .i64 (-1))
  have kO5 : Blk _ _ _ (op6 (onMem 0 (-1) (-1) 1)) := kO4.setB (-1)
  clear d3 f3
  generalize W3.setCell ⟨K, 3, none⟩ (.int .i64 (-1)) = W7 at *
  go_upto_region 10 with ((with_reducible refine (hD.out _ F5.r).mono ?_); rintro e W8 ⟨rfl, r8, b8⟩; have F6 := F5.read r8 b8; have kO6 := kO5.but b8 kO5.lt (by simp; omega); have d2 := kO6.cell (i := 2) (v := .int .u32 0) rfl; have f2 := kO6.fr 2)
  have F7 := F6.cell hK 2 (.int .u32 dv)
  have kO7 : Blk _ _ _ (op6 (onMem dv (-1) (-1) 1)) := kO6.setM dv
  clear d2 f2
  generalize W8.setCell ⟨K, 2, none⟩ (.int .u32 dv) = W9 at *
  go_wp2_with (first | (with_reducible refine load_opR rfl _ rfl K (op6 (onMem dv (-1) (-1) 1)) rfl kO7 (op6_size _) ?_) | ((with_reducible refine store_opR rfl _ _ rfl w.heap.size (op6 (onMem dv (-1) (-1) 1)) z6 rfl rfl F7.z (op6_size _) z6_size (op6_one _) ?_); intro W4 z4 k4 s4; have F2 := F7.done z4 k4))
  exact bodyPost_ret (v := opV (onMem dv (-1) (-1) 1)) (results_cell_row rfl _ _ w.heap.size 31 _ (0, 0) _ rfl F2.z.h Tryz.underlying31 rfl (szOp onZ)) rfl ⟨rfl, F2.r, F2.k⟩
set_option maxRecDepth 8000 in
theorem place_A1n (R : Rd w N B a len cap zs p c m) (h3 : ¬ m / 64 % 4 = 3) (h4 : ¬ m % 8 = 4) (h7 : m / 64 % 4 = 0) (h8 : m % 8 = 5) (h9 : ¬ p + distN 2 ≤ zs.length) :
    Calls Tryz.prog 270 #[rp B] w fun e w' => e = .panicked (errP 10) ∧ But [B] w.heap.size w w' := by
  have hH := fun w => highest_any m R.mb w
  have hL := fun w => lowest3_any m R.mb w
  have F := PF.start R 31 z6
  have hB := R.lt
  have hD := Lib.hid (fun W (R : Rd W N B a len cap zs p c m) => distance_no R 2 h9)
  generalize distV zs p 2 = dv at *
  generalize m % 8 = rm at *
  generalize m / 64 % 4 = how at *
  subst h7
  subst h8
  clear h9
  go_enter Tryz.func270, Tryz.ntmps270
  go_wp2_with fail
  generalize w.alloc (.cells z6 31) = w1 at *
  refine wp_region_held_drew (S := fun W => PF w W N B a len cap zs p c m 31 z6) (by kernel_rfl) F.drew (fun hHeld => ?_)
  refine wpAnyH_take (i := 0) (v := ?_) rfl (by kernel_rfl) (by kernel_rfl) (by kernel_rfl) (fun _ _ _ h => h) (Or.inl ⟨by kernel_rfl, ?_⟩) hHeld ?_
  rotate_left
  · intro W hS
    go_simp
    try rfl
  simp only [Act.put, List.setIfInBounds_toArray, List.set_cons_zero, List.set_cons_succ, List.getElem_toArray, List.getElem_cons_succ, List.getElem_cons_zero]
  refine wpAnyH_take (i := 1) (v := ?_) rfl (by kernel_rfl) (by kernel_rfl) (by kernel_rfl) (fun _ _ _ h => h) (Or.inl ⟨by kernel_rfl, ?_⟩) hHeld ?_
  rotate_left
  · intro W hS
    go_simp
    try rfl
  simp only [Act.put, List.setIfInBounds_toArray, List.set_cons_zero, List.set_cons_succ, List.getElem_toArray, List.getElem_cons_succ, List.getElem_cons_zero]
  refine wpAnyH_take (i := 2) (v := ?_) rfl (by kernel_rfl) (by kernel_rfl) (by kernel_rfl) (fun _ _ _ h => h) (Or.inl ⟨by kernel_rfl, ?_⟩) hHeld ?_
  rotate_left
  · intro W hS
    go_simp
    try rfl
  simp only [Act.put, List.setIfInBounds_toArray, List.set_cons_zero, List.set_cons_succ, List.getElem_toArray, List.getElem_cons_succ, List.getElem_cons_zero]
  refine wpAnyH_take (i := 3) (v := ?_) rfl (by kernel_rfl) (by kernel_rfl) (by kernel_rfl) (fun _ _ _ h => h) (Or.inl ⟨by kernel_rfl, ?_⟩) hHeld ?_
  rotate_left
  · intro W hS
    have c3 := hS.r.c3
    go_simp
    try rfl
  simp only [Act.put, List.setIfInBounds_toArray, List.set_cons_zero, List.set_cons_succ, List.getElem_toArray, List.getElem_cons_succ, List.getElem_cons_zero]
  refine wpAnyH_take (i := 5) (v := ?_) rfl (by kernel_rfl) (by kernel_rfl) (by kernel_rfl) (fun _ _ _ h => h) (Or.inl ⟨by kernel_rfl, ?_⟩) hHeld ?_
  rotate_left
  · intro W hS
    go_simp
    try rfl
  simp only [Act.put, List.setIfInBounds_toArray, List.set_cons_zero, List.set_cons_succ, List.getElem_toArray, List.getElem_cons_succ, List.getElem_cons_zero]
  refine wpAnyH_take (i := 6) (v := ?_) rfl (by kernel_rfl) (by kernel_rfl) (by kernel_rfl) (fun _ _ _ h => h) (Or.inl ⟨by kernel_rfl, ?_⟩) hHeld ?_
  rotate_left
  · intro W hS
    go_simp
    try rfl
  simp only [Act.put, List.setIfInBounds_toArray, List.set_cons_zero, List.set_cons_succ, List.getElem_toArray, List.getElem_cons_succ, List.getElem_cons_zero]
  refine wpAnyH_take (i := 7) (v := ?_) rfl (by kernel_rfl) (by kernel_rfl) (by kernel_rfl) (fun _ _ _ h => h) (Or.inl ⟨by kernel_rfl, ?_⟩) hHeld ?_
  rotate_left
  · intro W hS
    go_simp
    try rfl
  simp only [Act.put, List.setIfInBounds_toArray, List.set_cons_zero, List.set_cons_succ, List.getElem_toArray, List.getElem_cons_succ, List.getElem_cons_zero]
  refine wpAnyH_take (i := 8) (v := ?_) rfl (by kernel_rfl) (by kernel_rfl) (by kernel_rfl) (fun _ _ _ h => h) (Or.inl ⟨by kernel_rfl, ?_⟩) hHeld ?_
  rotate_left
  · intro W hS
    have c3 := hS.r.c3
    go_simp
    try rfl
  simp only [Act.put, List.setIfInBounds_toArray, List.set_cons_zero, List.set_cons_succ, List.getElem_toArray, List.getElem_cons_succ, List.getElem_cons_zero]
  refine wpAnyH_ready (rs := [4]) (by kernel_rfl) (by simp) ?_
  refine AllReadyH.cons rfl (fun K hK => ?_) AllReadyH.nil
  go_simp
  with_reducible refine (hH _).mono ?_
  rintro e w2 ⟨rfl, rfl⟩
  refine hK.out _ _ hHeld (fun _ => ?_)
  clear hK K
  try simp only [Act.put, List.setIfInBounds_toArray, List.set_cons_zero, List.set_cons_succ]
  refine wpAnyH_ready (rs := [9]) (by kernel_rfl) (by simp) ?_
  refine AllReadyH.cons rfl (fun K hK => ?_) AllReadyH.nil
  go_simp
  with_reducible refine (hL _).mono ?_
  rintro e w2 ⟨rfl, rfl⟩
  refine hK.out _ _ hHeld (fun _ => ?_)
  clear hK K
  try simp only [Act.put, List.setIfInBounds_toArray, List.set_cons_zero, List.set_cons_succ]
  refine wpAnyH_take (i := 10) (v := ?_) rfl (by kernel_rfl) (by kernel_rfl) (by kernel_rfl) (fun _ _ _ h => h) (Or.inl ⟨by kernel_rfl, ?_⟩) hHeld ?_
  rotate_left
  · intro W hS
    go_simp
    try rfl
  simp only [Act.put, List.setIfInBounds_toArray, List.set_cons_zero, List.set_cons_succ, List.getElem_toArray, List.getElem_cons_succ, List.getElem_cons_zero]
  refine wpAnyH_take (i := 11) (v := ?_) rfl (by kernel_rfl) (by kernel_rfl) (by kernel_rfl) (fun _ _ _ h => h) (Or.inl ⟨by kernel_rfl, ?_⟩) hHeld ?_
  rotate_left
  · intro W hS
    go_simp
    try rfl
  simp only [Act.put, List.setIfInBounds_toArray, List.set_cons_zero, List.set_cons_succ, List.getElem_toArray, List.getElem_cons_succ, List.getElem_cons_zero]
  refine wpAnyH_done (by kernel_rfl) ?_ _
  generalize w1.drew = w2 at *
  go_upto_region 5 with ((with_reducible refine store_op_as rfl _ _ rfl (op6 (onMem 0 5 (-1) 1)) (op6_size _) (op6_one _) rfl rfl ?_); intro W3 kO b3)
  have F1 := hHeld.below b3
  have hK := hHeld.lt
  generalize w2.heap.size = K at *
  go_upto_region 7 with fail
  have F4 := F1
  have kO4 := kO
  have d3 := kO4.cell (i := 3) (v := .int .i64 5) rfl
  have f3 := kO4.fr 3
  go_upto_region 9 with fail
  have F5 := F4.cell hK 3 (.int .i64 (-1))
  have kO5 : Blk _ _ _ (op6 (onMem 0 (-1) (-1) 1)) := kO4.setB (-1)
  clear d3 f3
  generalize W3.setCell ⟨K, 3, none⟩ (.int .i64 (-1)) = W7 at *
  go_wp2_with ((with_reducible refine (hD.out _ F5.r).mono ?_); rintro e W8 ⟨rfl, b8⟩)
  exact ⟨rfl, rfl, F5.k.trans (But.of (b8.mono F5.k.size) _)⟩
set_option maxRecDepth 8000 in
theorem place_A2y (R : Rd w N B a len cap zs p c m) (h3 : ¬ m / 64 % 4 = 3) (h4 : ¬ m % 8 = 4) (h7 : m / 64 % 4 = 0) (h8 : ¬ m % 8 = 5) (h9 : p + distN (m / 64 % 4) ≤ zs.length) :
    Calls Tryz.prog 270 #[rp B] w fun e w' => e = .returned (opV (onMem (distV zs p (m / 64 % 4)) (m % 8) (-1) (1))) ∧ Rd w' N B a len cap zs (p + distN (m / 64 % 4)) c m ∧ But [B] w.heap.size w w' := by
  have hH := fun w => highest_any m R.mb w
  have hL := fun w => lowest3_any m R.mb w
  have F := PF.start R 31 z6
  have hB := R.lt
  have hD := Lib.hid (fun W (R : Rd W N B a len cap zs p c m) => distance_yes R (m / 64 % 4) h9)
  generalize distV zs p (m / 64 % 4) = dv at *
  have hdn : p + distN (m / 64 % 4) = p + distN (m / 64 % 4) := rfl
  generalize hdx : p + distN (m / 64 % 4) = dn at *
  generalize m % 8 = rm at *
  generalize m / 64 % 4 = how at *
  subst h7
  clear h9
  go_enter Tryz.func270, Tryz.ntmps270
  go_wp2_with fail
  generalize w.alloc (.cells z6 31) = w1 at *
  refine wp_region_held_drew (S := fun W => PF w W N B a len cap zs p c m 31 z6) (by kernel_rfl) F.drew (fun hHeld => ?_)
  refine wpAnyH_take (i := 0) (v := ?_) rfl (by kernel_rfl) (by kernel_rfl) (by kernel_rfl) (fun _ _ _ h => h) (Or.inl ⟨by kernel_rfl, ?_⟩) hHeld ?_
  rotate_left
  · intro W hS
    go_simp
    try rfl
  simp only [Act.put, List.setIfInBounds_toArray, List.set_cons_zero, List.set_cons_succ, List.getElem_toArray, List.getElem_cons_succ, List.getElem_cons_zero]
  refine wpAnyH_take (i := 1) (v := ?_) rfl (by kernel_rfl) (by kernel_rfl) (by kernel_rfl) (fun _ _ _ h => h) (Or.inl ⟨by kernel_rfl, ?_⟩) hHeld ?_
  rotate_left
  · intro W hS
    go_simp
    try rfl
  simp only [Act.put, List.setIfInBounds_toArray, List.set_cons_zero, List.set_cons_succ, List.getElem_toArray, List.getElem_cons_succ, List.getElem_cons_zero]
  refine wpAnyH_take (i := 2) (v := ?_) rfl (by kernel_rfl) (by kernel_rfl) (by kernel_rfl) (fun _ _ _ h => h) (Or.inl ⟨by kernel_rfl, ?_⟩) hHeld ?_
  rotate_left
  · intro W hS
    go_simp
    try rfl
  simp only [Act.put, List.setIfInBounds_toArray, List.set_cons_zero, List.set_cons_succ, List.getElem_toArray, List.getElem_cons_succ, List.getElem_cons_zero]
  refine wpAnyH_take (i := 3) (v := ?_) rfl (by kernel_rfl) (by kernel_rfl) (by kernel_rfl) (fun _ _ _ h => h) (Or.inl ⟨by kernel_rfl, ?_⟩) hHeld ?_
  rotate_left
  · intro W hS
    have c3 := hS.r.c3
    go_simp
    try rfl
  simp only [Act.put, List.setIfInBounds_toArray, List.set_cons_zero, List.set_cons_succ, List.getElem_toArray, List.getElem_cons_succ, List.getElem_cons_zero]
  refine wpAnyH_take (i := 5) (v := ?_) rfl (by kernel_rfl) (by kernel_rfl) (by kernel_rfl) (fun _ _ _ h => h) (Or.inl ⟨by kernel_rfl, ?_⟩) hHeld ?_
  rotate_left
  · intro W hS
    go_simp
    try rfl
  simp only [Act.put, List.setIfInBounds_toArray, List.set_cons_zero, List.set_cons_succ, List.getElem_toArray, List.getElem_cons_succ, List.getElem_cons_zero]
  refine wpAnyH_take (i := 6) (v := ?_) rfl (by kernel_rfl) (by kernel_rfl) (by kernel_rfl) (fun _ _ _ h => h) (Or.inl ⟨by kernel_rfl, ?_⟩) hHeld ?_
  rotate_left
  · intro W hS
    go_simp
    try rfl
  simp only [Act.put, List.setIfInBounds_toArray, List.set_cons_zero, List.set_cons_succ, List.getElem_toArray, List.getElem_cons_succ, List.getElem_cons_zero]
  refine wpAnyH_take (i := 7) (v := ?_) rfl (by kernel_rfl) (by kernel_rfl) (by kernel_rfl) (fun _ _ _ h => h) (Or.inl ⟨by kernel_rfl, ?_⟩) hHeld ?_
  rotate_left
  · intro W hS
    go_simp
    try rfl
  simp only [Act.put, List.setIfInBounds_toArray, List.set_cons_zero, List.set_cons_succ, List.getElem_toArray, List.getElem_cons_succ, List.getElem_cons_zero]
  refine wpAnyH_take (i := 8) (v := ?_) rfl (by kernel_rfl) (by kernel_rfl) (by kernel_rfl) (fun _ _ _ h => h) (Or.inl ⟨by kernel_rfl, ?_⟩) hHeld ?_
  rotate_left
  · intro W hS
    have c3 := hS.r.c3
    go_simp
    try rfl
  simp only [Act.put, List.setIfInBounds_toArray, List.set_cons_zero, List.set_cons_succ, List.getElem_toArray, List.getElem_cons_succ, List.getElem_cons_zero]
  refine wpAnyH_ready (rs := [4]) (by kernel_rfl) (by simp) ?_
  refine AllReadyH.cons rfl (fun K hK => ?_) AllReadyH.nil
  go_simp
  with_reducible refine (hH _).mono ?_
  rintro e w2 ⟨rfl, rfl⟩
  refine hK.out _ _ hHeld (fun _ => ?_)
  clear hK K
  try simp only [Act.put, List.setIfInBounds_toArray, List.set_cons_zero, List.set_cons_succ]
  refine wpAnyH_ready (rs := [9]) (by kernel_rfl) (by simp) ?_
  refine AllReadyH.cons rfl (fun K hK => ?_) AllReadyH.nil
  go_simp
  with_reducible refine (hL _).mono ?_
  rintro e w2 ⟨rfl, rfl⟩
  refine hK.out _ _ hHeld (fun _ => ?_)
  clear hK K
  try simp only [Act.put, List.setIfInBounds_toArray, List.set_cons_zero, List.set_cons_succ]
  refine wpAnyH_take (i := 10) (v := ?_) rfl (by kernel_rfl) (by kernel_rfl) (by kernel_rfl) (fun _ _ _ h => h) (Or.inl ⟨by kernel_rfl, ?_⟩) hHeld ?_
  rotate_left
  · intro W hS
    go_simp
    try rfl
  simp only [Act.put, List.setIfInBounds_toArray, List.set_cons_zero, List.set_cons_succ, List.getElem_toArray, List.getElem_cons_succ, List.getElem_cons_zero]
  refine wpAnyH_take (i := 11) (v := ?_) rfl (by kernel_rfl) (by kernel_rfl) (by kernel_rfl) (fun _ _ _ h => h) (Or.inl ⟨by kernel_rfl, ?_⟩) hHeld ?_
  rotate_left
  · intro W hS
    go_simp
    try rfl
  simp only [Act.put, List.setIfInBounds_toArray, List.set_cons_zero, List.set_cons_succ, List.getElem_toArray, List.getElem_cons_succ, List.getElem_cons_zero]
  refine wpAnyH_done (by kernel_rfl) ?_ _
  generalize w1.drew = w2 at *
  go_upto_region 5 with ((with_reducible refine store_op_as rfl _ _ rfl (op6 (onMem 0 rm (-1) 1)) (op6_size _) (op6_one _) rfl rfl ?_); intro W3 kO b3)
  have F1 := hHeld.below b3
  have hK := hHeld.lt
  generalize w2.heap.size = K at *
  go_upto_region 7 with fail
  have F4 := F1
  have kO4 := kO
  have d3 := kO4.cell (i := 3) (v := .int .i64 rm) rfl
  have f3 := kO4.fr 3
  go_upto_region 9 with fail
  have F5 := F4
  have kO5 := kO4
  clear d3 f3
  go_upto_region 10 with ((with_reducible refine (hD.out _ F5.r).mono ?_); rintro e W8 ⟨rfl, r8, b8⟩; have F6 := F5.read r8 b8; have kO6 := kO5.but b8 kO5.lt (by simp; omega); have d2 := kO6.cell (i := 2) (v := .int .u32 0) rfl; have f2 := kO6.fr 2)
  have F7 := F6.cell hK 2 (.int .u32 dv)
  have kO7 : Blk _ _ _ (op6 (onMem dv rm (-1) 1)) := kO6.setM dv
  clear d2 f2
  generalize W8.setCell ⟨K, 2, none⟩ (.int .u32 dv) = W9 at *
  go_wp2_with (first | (with_reducible refine load_opR rfl _ rfl K (op6 (onMem dv rm (-1) 1)) rfl kO7 (op6_size _) ?_) | ((with_reducible refine store_opR rfl _ _ rfl w.heap.size (op6 (onMem dv rm (-1) 1)) z6 rfl rfl F7.z (op6_size _) z6_size (op6_one _) ?_); intro W4 z4 k4 s4; have F2 := F7.done z4 k4))
  exact bodyPost_ret (v := opV (onMem dv rm (-1) 1)) (results_cell_row rfl _ _ w.heap.size 31 _ (0, 0) _ rfl F2.z.h Tryz.underlying31 rfl (szOp onZ)) rfl ⟨rfl, F2.r, F2.k⟩
set_option maxRecDepth 8000 in
theorem place_A3y (R : Rd w N B a len cap zs p c m) (h3 : ¬ m / 64 % 4 = 3) (h4 : ¬ m % 8 = 4) (h7 : ¬ m / 64 % 4 = 0) (h9 : p + distN (m / 64 % 4) ≤ zs.length) :
    Calls Tryz.prog 270 #[rp B] w fun e w' => e = .returned (opV (onMem (distV zs p (m / 64 % 4)) (m % 8) (-1) (1))) ∧ Rd w' N B a len cap zs (p + distN (m / 64 % 4)) c m ∧ But [B] w.heap.size w w' := by
  have hH := fun w => highest_any m R.mb w
  have hL := fun w => lowest3_any m R.mb w
  have F := PF.start R 31 z6
  have hB := R.lt
  have hD := Lib.hid (fun W (R : Rd W N B a len cap zs p c m) => distance_yes R (m / 64 % 4) h9)
  generalize distV zs p (m / 64 % 4) = dv at *
  have hdn : p + distN (m / 64 % 4) = p + distN (m / 64 % 4) := rfl
  generalize hdx : p + distN (m / 64 % 4) = dn at *
  generalize m % 8 = rm at *
  generalize m / 64 % 4 = how at *
  clear h9
  go_enter Tryz.func270, Tryz.ntmps270
  go_wp2_with fail
  generalize w.alloc (.cells z6 31) = w1 at *
  refine wp_region_held_drew (S := fun W => PF w W N B a len cap zs p c m 31 z6) (by kernel_rfl) F.drew (fun hHeld => ?_)
  refine wpAnyH_take (i := 0) (v := ?_) rfl (by kernel_rfl) (by kernel_rfl) (by kernel_rfl) (fun _ _ _ h => h) (Or.inl ⟨by kernel_rfl, ?_⟩) hHeld ?_
  rotate_left
  · intro W hS
    go_simp
    try rfl
  simp only [Act.put, List.setIfInBounds_toArray, List.set_cons_zero, List.set_cons_succ, List.getElem_toArray, List.getElem_cons_succ, List.getElem_cons_zero]
  refine wpAnyH_take (i := 1) (v := ?_) rfl (by kernel_rfl) (by kernel_rfl) (by kernel_rfl) (fun _ _ _ h => h) (Or.inl ⟨by kernel_rfl, ?_⟩) hHeld ?_
  rotate_left
  · intro W hS
    go_simp
    try rfl
  simp only [Act.put, List.setIfInBounds_toArray, List.set_cons_zero, List.set_cons_succ, List.getElem_toArray, List.getElem_cons_succ, List.getElem_cons_zero]
  refine wpAnyH_take (i := 2) (v := ?_) rfl (by kernel_rfl) (by kernel_rfl) (by kernel_rfl) (fun _ _ _ h => h) (Or.inl ⟨by kernel_rfl, ?_⟩) hHeld ?_
  rotate_left
  · intro W hS
    go_simp
    try rfl
  simp only [Act.put, List.setIfInBounds_toArray, List.set_cons_zero, List.set_cons_succ, List.getElem_toArray, List.getElem_cons_succ, List.getElem_cons_zero]
  refine wpAnyH_take (i := 3) (v := ?_) rfl (by kernel_rfl) (by kernel_rfl) (by kernel_rfl) (fun _ _ _ h => h) (Or.inl ⟨by kernel_rfl, ?_⟩) hHeld ?_
  rotate_left
  · intro W hS
    have c3 := hS.r.c3
    go_simp
    try rfl
  simp only [Act.put, List.setIfInBounds_toArray, List.set_cons_zero, List.set_cons_succ, List.getElem_toArray, List.getElem_cons_succ, List.getElem_cons_zero]
  refine wpAnyH_take (i := 5) (v := ?_) rfl (by kernel_rfl) (by kernel_rfl) (by kernel_rfl) (fun _ _ _ h => h) (Or.inl ⟨by kernel_rfl, ?_⟩) hHeld ?_
  rotate_left
  · intro W hS
    go_simp
    try rfl
  simp only [Act.put, List.setIfInBounds_toArray, List.set_cons_zero, List.set_cons_succ, List.getElem_toArray, List.getElem_cons_succ, List.getElem_cons_zero]
  refine wpAnyH_take (i := 6) (v := ?_) rfl (by kernel_rfl) (by kernel_rfl) (by kernel_rfl) (fun _ _ _ h => h) (Or.inl ⟨by kernel_rfl, ?_⟩) hHeld ?_
  rotate_left
  · intro W hS
    go_simp
    try rfl
  simp only [Act.put, List.setIfInBounds_toArray, List.set_cons_zero, List.set_cons_succ, List.getElem_toArray, List.getElem_cons_succ, List.getElem_cons_zero]
  refine wpAnyH_take (i := 7) (v := ?_) rfl (by kernel_rfl) (by kernel_rfl) (by kernel_rfl) (fun _ _ _ h => h) (Or.inl ⟨by kernel_rfl, ?_⟩) hHeld ?_
  rotate_left
  · intro W hS
    go_simp
    try rfl
  simp only [Act.put, List.setIfInBounds_toArray, List.set_cons_zero, List.set_cons_succ, List.getElem_toArray, List.getElem_cons_succ, List.getElem_cons_zero]
  refine wpAnyH_take (i := 8) (v := ?_) rfl (by kernel_rfl) (by kernel_rfl) (by kernel_rfl) (fun _ _ _ h => h) (Or.inl ⟨by kernel_rfl, ?_⟩) hHeld ?_
  rotate_left
  · intro W hS
    have c3 := hS.r.c3
    go_simp
    try rfl
  simp only [Act.put, List.setIfInBounds_toArray, List.set_cons_zero, List.set_cons_succ, List.getElem_toArray, List.getElem_cons_succ, List.getElem_cons_zero]
  refine wpAnyH_ready (rs := [4]) (by kernel_rfl) (by simp) ?_
  refine AllReadyH.cons rfl (fun K hK => ?_) AllReadyH.nil
  go_simp
  with_reducible refine (hH _).mono ?_
  rintro e w2 ⟨rfl, rfl⟩
  refine hK.out _ _ hHeld (fun _ => ?_)
  clear hK K
  try simp only [Act.put, List.setIfInBounds_toArray, List.set_cons_zero, List.set_cons_succ]
  refine wpAnyH_ready (rs := [9]) (by kernel_rfl) (by simp) ?_
  refine AllReadyH.cons rfl (fun K hK => ?_) AllReadyH.nil
  go_simp
  with_reducible refine (hL _).mono ?_
  rintro e w2 ⟨rfl, rfl⟩
  refine hK.out _ _ hHeld (fun _ => ?_)
  clear hK K
  try simp only [Act.put, List.setIfInBounds_toArray, List.set_cons_zero, List.set_cons_succ]
  refine wpAnyH_take (i := 10) (v := ?_) rfl (by kernel_rfl) (by kernel_rfl) (by kernel_rfl) (fun _ _ _ h => h) (Or.inl ⟨by kernel_rfl, ?_⟩) hHeld ?_
  rotate_left
  · intro W hS
    go_simp
    try rfl
  simp only [Act.put, List.setIfInBounds_toArray, List.set_cons_zero, List.set_cons_succ, List.getElem_toArray, List.getElem_cons_succ, List.getElem_cons_zero]
  refine wpAnyH_take (i := 11) (v := ?_) rfl (by kernel_rfl) (by kernel_rfl) (by kernel_rfl) (fun _ _ _ h => h) (Or.inl ⟨by kernel_rfl, ?_⟩) hHeld ?_
  rotate_left
  · intro W hS
    go_simp
    try rfl
  simp only [Act.put, List.setIfInBounds_toArray, List.set_cons_zero, List.set_cons_succ, List.getElem_toArray, List.getElem_cons_succ, List.getElem_cons_zero]
  refine wpAnyH_done (by kernel_rfl) ?_ _
  generalize w1.drew = w2 at *
  go_upto_region 5 with ((with_reducible refine store_op_as rfl _ _ rfl (op6 (onMem 0 rm (-1) 1)) (op6_size _) (op6_one _) rfl rfl ?_); intro W3 kO b3)
  have F1 := hHeld.below b3
  have hK := hHeld.lt
  generalize w2.heap.size = K at *
  go_upto_region 7 with fail
  have F4 := F1
  have kO4 := kO
  have d3 := kO4.cell (i := 3) (v := .int .i64 rm) rfl
  have f3 := kO4.fr 3
  go_upto_region 9 with fail
  have F5 := F4
  have kO5 := kO4
  clear d3 f3
  go_upto_region 10 with ((with_reducible refine (hD.out _ F5.r).mono ?_); rintro e W8 ⟨rfl, r8, b8⟩; have F6 := F5.read r8 b8; have kO6 := kO5.but b8 kO5.lt (by simp; omega); have d2 := kO6.cell (i := 2) (v := .int .u32 0) rfl; have f2 := kO6.fr 2)
  have F7 := F6.cell hK 2 (.int .u32 dv)
  have kO7 : Blk _ _ _ (op6 (onMem dv rm (-1) 1)) := kO6.setM dv
  clear d2 f2
  generalize W8.setCell ⟨K, 2, none⟩ (.int .u32 dv) = W9 at *
  go_wp2_with (first | (with_reducible refine load_opR rfl _ rfl K (op6 (onMem dv rm (-1) 1)) rfl kO7 (op6_size _) ?_) | ((with_reducible refine store_opR rfl _ _ rfl w.heap.size (op6 (onMem dv rm (-1) 1)) z6 rfl rfl F7.z (op6_size _) z6_size (op6_one _) ?_); intro W4 z4 k4 s4; have F2 := F7.done z4 k4))
  exact bodyPost_ret (v := opV (onMem dv rm (-1) 1)) (results_cell_row rfl _ _ w.heap.size 31 _ (0, 0) _ rfl F2.z.h Tryz.underlying31 rfl (szOp onZ)) rfl ⟨rfl, F2.r, F2.k⟩
set_option maxRecDepth 8000 in
theorem place_A3n (R : Rd w N B a len cap zs p c m) (h3 : ¬ m / 64 % 4 = 3) (h4 : ¬ m % 8 = 4) (h7 : ¬ m / 64 % 4 = 0) (h9 : ¬ p + distN (m / 64 % 4) ≤ zs.length) :
    Calls Tryz.prog 270 #[rp B] w fun e w' => e = .panicked (errP 10) ∧ But [B] w.heap.size w w' := by
  have hH := fun w => highest_any m R.mb w
  have hL := fun w => lowest3_any m R.mb w
  have F := PF.start R 31 z6
  have hB := R.lt
  have hD := Lib.hid (fun W (R : Rd W N B a len cap zs p c m) => distance_no R (m / 64 % 4) h9)
  generalize distV zs p (m / 64 % 4) = dv at *
  generalize m % 8 = rm at *
  generalize m / 64 % 4 = how at *
  clear h9
  go_enter Tryz.func270, Tryz.ntmps270
  go_wp2_with fail
  generalize w.alloc (.cells z6 31) = w1 at *
  refine wp_region_held_drew (S := fun W => PF w W N B a len cap zs p c m 31 z6) (by kernel_rfl) F.drew (fun hHeld => ?_)
  refine wpAnyH_take (i := 0) (v := ?_) rfl (by kernel_rfl) (by kernel_rfl) (by kernel_rfl) (fun _ _ _ h => h) (Or.inl ⟨by kernel_rfl, ?_⟩) hHeld ?_
  rotate_left
  · intro W hS
    go_simp
    try rfl
  simp only [Act.put, List.setIfInBounds_toArray, List.set_cons_zero, List.set_cons_succ, List.getElem_toArray, List.getElem_cons_succ, List.getElem_cons_zero]
  refine wpAnyH_take (i := 1) (v := ?_) rfl (by kernel_rfl) (by kernel_rfl) (by kernel_rfl) (fun _ _ _ h => h) (Or.inl ⟨by kernel_rfl, ?_⟩) hHeld ?_
  rotate_left
  · intro W hS
    go_simp
    try rfl
  simp only [Act.put, List.setIfInBounds_toArray, List.set_cons_zero, List.set_cons_succ, List.getElem_toArray, List.getElem_cons_succ, List.getElem_cons_zero]
  refine wpAnyH_take (i := 2) (v := ?_) rfl (by kernel_rfl) (by kernel_rfl) (by kernel_rfl) (fun _ _ _ h => h) (Or.inl ⟨by kernel_rfl, ?_⟩) hHeld ?_
  rotate_left
  · intro W hS
    go_simp
    try rfl
  simp only [Act.put, List.setIfInBounds_toArray, List.set_cons_zero, List.set_cons_succ, List.getElem_toArray, List.getElem_cons_succ, List.getElem_cons_zero]
  refine wpAnyH_take (i := 3) (v := ?_) rfl (by kernel_rfl) (by kernel_rfl) (by kernel_rfl) (fun _ _ _ h => h) (Or.inl ⟨by kernel_rfl, ?_⟩) hHeld ?_
  rotate_left
  · intro W hS
    have c3 := hS.r.c3
    go_simp
    try rfl
  simp only [Act.put, List.setIfInBounds_toArray, List.set_cons_zero, List.set_cons_succ, List.getElem_toArray, List.getElem_cons_succ, List.getElem_cons_zero]
  refine wpAnyH_take (i := 5) (v := ?_) rfl (by kernel_rfl) (by kernel_rfl) (by kernel_rfl) (fun _ _ _ h => h) (Or.inl ⟨by kernel_rfl, ?_⟩) hHeld ?_
  rotate_left
  · intro W hS
    go_simp
    try rfl
  simp only [Act.put, List.setIfInBounds_toArray, List.set_cons_zero, List.set_cons_succ, List.getElem_toArray, List.getElem_cons_succ, List.getElem_cons_zero]
  refine wpAnyH_take (i := 6) (v := ?_) rfl (by kernel_rfl) (by kernel_rfl) (by kernel_rfl) (fun _ _ _ h => h) (Or.inl ⟨by kernel_rfl, ?_⟩) hHeld ?_
  rotate_left
  · intro W hS
    go_simp
    try rfl
  simp only [Act.put, List.setIfInBounds_toArray, List.set_cons_zero, List.set_cons_succ, List.getElem_toArray, List.getElem_cons_succ, List.getElem_cons_zero]
  refine wpAnyH_take (i := 7) (v := ?_) rfl (by kernel_rfl) (by kernel_rfl) (by kernel_rfl) (fun _ _ _ h => h) (Or.inl ⟨by kernel_rfl, ?_⟩) hHeld ?_
  rotate_left
  · intro W hS
    go_simp
    try rfl
  simp only [Act.put, List.setIfInBounds_toArray, List.set_cons_zero, List.set_cons_succ, List.getElem_toArray, List.getElem_cons_succ, List.getElem_cons_zero]
  refine wpAnyH_take (i := 8) (v := ?_) rfl (by kernel_rfl) (by kernel_rfl) (by kernel_rfl) (fun _ _ _ h => h) (Or.inl ⟨by kernel_rfl, ?_⟩) hHeld ?_
  rotate_left
  · intro W hS
    have c3 := hS.r.c3
    go_simp
    try rfl
  simp only [Act.put, List.setIfInBounds_toArray, List.set_cons_zero, List.set_cons_succ, List.getElem_toArray, List.getElem_cons_succ, List.getElem_cons_zero]
  refine wpAnyH_ready (rs := [4]) (by kernel_rfl) (by simp) ?_
  refine AllReadyH.cons rfl (fun K hK => ?_) AllReadyH.nil
  go_simp
  with_reducible refine (hH _).mono ?_
  rintro e w2 ⟨rfl, rfl⟩
  refine hK.out _ _ hHeld (fun _ => ?_)
  clear hK K
  try simp only [Act.put, List.setIfInBounds_toArray, List.set_cons_zero, List.set_cons_succ]
  refine wpAnyH_ready (rs := [9]) (by kernel_rfl) (by simp) ?_
  refine AllReadyH.cons rfl (fun K hK => ?_) AllReadyH.nil
  go_simp
  with_reducible refine (hL _).mono ?_
  rintro e w2 ⟨rfl, rfl⟩
  refine hK.out _ _ hHeld (fun _ => ?_)
  clear hK K
  try simp only [Act.put, List.setIfInBounds_toArray, List.set_cons_zero, List.set_cons_succ]
  refine wpAnyH_take (i := 10) (v := ?_) rfl (by kernel_rfl) (by kernel_rfl) (by kernel_rfl) (fun _ _ _ h => h) (Or.inl ⟨by kernel_rfl, ?_⟩) hHeld ?_
  rotate_left
  · intro W hS
    go_simp
    try rfl
  simp only [Act.put, List.setIfInBounds_toArray, List.set_cons_zero, List.set_cons_succ, List.getElem_toArray, List.getElem_cons_succ, List.getElem_cons_zero]
  refine wpAnyH_take (i := 11) (v := ?_) rfl (by kernel_rfl) (by kernel_rfl) (by kernel_rfl) (fun _ _ _ h => h) (Or.inl ⟨by kernel_rfl, ?_⟩) hHeld ?_
  rotate_left
  · intro W hS
    go_simp
    try rfl
  simp only [Act.put, List.setIfInBounds_toArray, List.set_cons_zero, List.set_cons_succ, List.getElem_toArray, List.getElem_cons_succ, List.getElem_cons_zero]
  refine wpAnyH_done (by kernel_rfl) ?_ _
  generalize w1.drew = w2 at *
  go_upto_region 5 with ((with_reducible refine store_op_as rfl _ _ rfl (op6 (onMem 0 rm (-1) 1)) (op6_size _) (op6_one _) rfl rfl ?_); intro W3 kO b3)
  have F1 := hHeld.below b3
  have hK := hHeld.lt
  generalize w2.heap.size = K at *
  go_upto_region 7 with fail
  have F4 := F1
  have kO4 := kO
  have d3 := kO4.cell (i := 3) (v := .int .i64 rm) rfl
  have f3 := kO4.fr 3
  go_upto_region 9 with fail
  have F5 := F4
  have kO5 := kO4
  clear d3 f3
  go_wp2_with ((with_reducible refine (hD.out _ F5.r).mono ?_); rintro e W8 ⟨rfl, b8⟩)
  exact ⟨rfl, rfl, F5.k.trans (But.of (b8.mono F5.k.size) _)⟩
end
end Go.Proofs.YtcdoidnfdkodoaaGreatDoor
