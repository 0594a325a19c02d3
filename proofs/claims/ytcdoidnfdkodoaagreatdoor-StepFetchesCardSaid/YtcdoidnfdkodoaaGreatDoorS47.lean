import Derived.Test.YtcdoidnfdkodoaaGreatDoorS44
namespace Go.Proofs.YtcdoidnfdkodoaaGreatDoor
open Go.RowKit
set_option linter.unusedVariables false
set_option linter.unusedSimpArgs false
set_option linter.unusedSectionVars false
theorem fe_2_0 {B : Nat} : FeN B (pokeS (mapS Mm.new 0 1 7) 253 [184, 7, 0]) 253 1 256 4 := fun W hW tb => by
  have ok : (pokeS (mapS Mm.new 0 1 7) 253 [184, 7, 0]).ok := (pokeS_ok (mapS_ok new_okM _ _ _) 253 (by decide) _ (by decide))
  have hs : ∀ j, j < 3 → decE (zsF (pokeS (mapS Mm.new 0 1 7) 253 [184, 7, 0]) 253 j) = 10 ∧ lackL (pokeS (mapS Mm.new 0 1 7) 253 [184, 7, 0]) ((253 + j) % 4294967296) 4 1 = none := by
    intro j hj
    rcases (by omega : j = 0 ∨ j = 1 ∨ j = 2) with rfl | rfl | rfl
    all_goals (refine ⟨?_, ?_⟩ <;> kernel_rfl)
  exact fetched_no hW ok tb 253 (by decide) 3 (by decide) hs ⟨by kernel_rfl, by kernel_rfl⟩
set_option maxRecDepth 20000 in
set_option maxHeartbeats 2000000 in
theorem fet_2_0 (w : World) (tabs : Tb w) (a0 a1 : Int) (w0 : 0 ≤ a0 ∧ a0 ≤ 255) (w1 : 0 ≤ a1 ∧ a1 ≤ 255) (h0 : a0 % 5 = 2) (h1 : a1 % 8 = 0) : Calls Tryz.prog 14 #[.int .u8 a0, .int .u8 a1] w fun e w' => e = .returned (.bool true) ∧ Below w.heap.size w w' := by
  have hK := Lib.hid (known13 w tabs)
  have hNew := Lib.hid (fun W => pNew W)
  have T0 := Lib.hid tabs
  have e0 : Int.tmod a0 5 = 2 := by rw [Int.tmod_eq_emod_of_nonneg w0.1]; exact h0
  have e1 : Int.tmod a1 8 = 0 := by rw [Int.tmod_eq_emod_of_nonneg w1.1]; exact h1
  clear tabs
  go_enter Tryz.func14, Tryz.ntmps14
  go_upto_region 3 with (first | ((with_reducible refine hK.out.mono ?_); rintro e w1 ⟨rfl, b1⟩))
  go_upto_region 4 with (first | ((with_reducible refine (hNew.out _).mono ?_); rintro e w2 ⟨rfl, p2⟩))
  replace p2 : Pg w.heap.size w w2 w1.heap.size Mm.new := ⟨p2.h, p2.ok, (But.of b1 _).trans (p2.k.mono b1.size (by simp)), b1.size⟩
  generalize w1.heap.size = B at *
  have q2 := Lib.hid (kp_mapG p2 0 1 7 (by decide) (by kernel_rfl))
  go_upto_region 6 with (first | ((with_reducible refine q2.out.mono ?_); rintro e w3 ⟨rfl, p3, -⟩))
  go_upto_region 9 with fail
  have kb := Blk.new w3 5 #[.int .u8 184, .int .u8 7, .int .u8 0, .int .u8 0, .int .u8 0]
  have p5 := p3.below ((Below.refl w3.heap.size w3).alloc (Nat.le_refl _) (.cells #[.int .u8 184, .int .u8 7, .int .u8 0, .int .u8 0, .int .u8 0] 5))
  have nB := Lib.hid (show B < w3.heap.size from p3.h.lt)
  generalize w3.alloc (.cells #[.int .u8 184, .int .u8 7, .int .u8 0, .int .u8 0, .int .u8 0] 5) = W5 at *
  generalize w3.heap.size = N at *
  have q5 := Lib.hid (kp_pokeG p5 253 (by decide) (some ⟨N, 0, none⟩) 3 5 [184, 7, 0] (row_mid W5 N 0 3 _ _ kb rfl (by decide) (fun i hi => by rcases (by omega : i = 0 ∨ i = 1 ∨ i = 2) with rfl | rfl | rfl <;> rfl)) (by decide) (by kernel_rfl))
  go_upto_region 11 with (first | ((with_reducible refine q5.out.mono ?_); rintro e w6 ⟨rfl, p6, b6⟩))
  have q8 := Lib.hid (Fetch_no p6.h (T0.out.below p6.done) 253 1 256 4 fe_2_0)
  have D8 := Lib.hid p6.done
  clear p5 q5 kb nB e0 
  go_upto_region 12 with (first | ((with_reducible refine q8.out.mono ?_); rintro e w8 ⟨rfl, b8⟩))
  have kI := (Blk.new w8 33 z16).alloc (.cells #[.int .i64 1, .int .u32 253, .int .u32 256, .int .i64 4] 42)
  have kF := Blk.new (w8.alloc (.cells z16 33)) 42 #[.int .i64 1, .int .u32 253, .int .u32 256, .int .i64 4]
  simp only [World.size_alloc] at kF
  have b9 := (b8.alloc b8.size (.cells z16 33)).alloc (by have := b8.size; simp; omega) (.cells #[.int .i64 1, .int .u32 253, .int .u32 256, .int .i64 4] 42)
  generalize (w8.alloc (.cells z16 33)).alloc (.cells #[.int .i64 1, .int .u32 253, .int .u32 256, .int .i64 4] 42) = W9 at *
  generalize w8.heap.size = K at *
  have d0 := kF.cell (i := 0) rfl
  have d1 := kF.cell (i := 1) rfl
  have d2 := kF.cell (i := 2) rfl
  have d3 := kF.cell (i := 3) rfl
  go_wp2_with fail
  go_ret
  exact ⟨rfl, D8.out.trans (b9.mono D8.out.size)⟩
theorem fe_2_1 {B : Nat} : FeN B (pokeS (pokeS (mapS (mapS Mm.new 0 1 7) 1 1 1) 253 [184, 7, 0]) 256 [0, 0]) 253 1 256 4 := fun W hW tb => by
  have ok : (pokeS (pokeS (mapS (mapS Mm.new 0 1 7) 1 1 1) 253 [184, 7, 0]) 256 [0, 0]).ok := (pokeS_ok (pokeS_ok (mapS_ok (mapS_ok new_okM _ _ _) _ _ _) 253 (by decide) _ (by decide)) 256 (by decide) _ (by decide))
  have hs : ∀ j, j < 3 → decE (zsF (pokeS (pokeS (mapS (mapS Mm.new 0 1 7) 1 1 1) 253 [184, 7, 0]) 256 [0, 0]) 253 j) = 10 ∧ lackL (pokeS (pokeS (mapS (mapS Mm.new 0 1 7) 1 1 1) 253 [184, 7, 0]) 256 [0, 0]) ((253 + j) % 4294967296) 4 1 = none := by
    intro j hj
    rcases (by omega : j = 0 ∨ j = 1 ∨ j = 2) with rfl | rfl | rfl
    all_goals (refine ⟨?_, ?_⟩ <;> kernel_rfl)
  exact fetched_no hW ok tb 253 (by decide) 3 (by decide) hs ⟨by kernel_rfl, by kernel_rfl⟩
set_option maxRecDepth 20000 in
set_option maxHeartbeats 2000000 in
theorem fet_2_1 (w : World) (tabs : Tb w) (a0 a1 : Int) (w0 : 0 ≤ a0 ∧ a0 ≤ 255) (w1 : 0 ≤ a1 ∧ a1 ≤ 255) (h0 : a0 % 5 = 2) (h1 : a1 % 8 = 1) : Calls Tryz.prog 14 #[.int .u8 a0, .int .u8 a1] w fun e w' => e = .returned (.bool true) ∧ Below w.heap.size w w' := by
  have hK := Lib.hid (known13 w tabs)
  have hNew := Lib.hid (fun W => pNew W)
  have T0 := Lib.hid tabs
  have e0 : Int.tmod a0 5 = 2 := by rw [Int.tmod_eq_emod_of_nonneg w0.1]; exact h0
  have e1 : Int.tmod a1 8 = 1 := by rw [Int.tmod_eq_emod_of_nonneg w1.1]; exact h1
  clear tabs
  go_enter Tryz.func14, Tryz.ntmps14
  go_upto_region 3 with (first | ((with_reducible refine hK.out.mono ?_); rintro e w1 ⟨rfl, b1⟩))
  go_upto_region 4 with (first | ((with_reducible refine (hNew.out _).mono ?_); rintro e w2 ⟨rfl, p2⟩))
  replace p2 : Pg w.heap.size w w2 w1.heap.size Mm.new := ⟨p2.h, p2.ok, (But.of b1 _).trans (p2.k.mono b1.size (by simp)), b1.size⟩
  generalize w1.heap.size = B at *
  have q2 := Lib.hid (kp_mapG p2 0 1 7 (by decide) (by kernel_rfl))
  go_upto_region 6 with (first | ((with_reducible refine q2.out.mono ?_); rintro e w3 ⟨rfl, p3, -⟩; have q3 := Lib.hid (kp_mapG p3 1 1 1 (by decide) (by kernel_rfl))) | ((with_reducible refine q3.out.mono ?_); rintro e w4 ⟨rfl, p4, -⟩))
  go_upto_region 9 with fail
  have kb := Blk.new w4 5 #[.int .u8 184, .int .u8 7, .int .u8 0, .int .u8 0, .int .u8 0]
  have p5 := p4.below ((Below.refl w4.heap.size w4).alloc (Nat.le_refl _) (.cells #[.int .u8 184, .int .u8 7, .int .u8 0, .int .u8 0, .int .u8 0] 5))
  have nB := Lib.hid (show B < w4.heap.size from p4.h.lt)
  generalize w4.alloc (.cells #[.int .u8 184, .int .u8 7, .int .u8 0, .int .u8 0, .int .u8 0] 5) = W5 at *
  generalize w4.heap.size = N at *
  have q5 := Lib.hid (kp_pokeG p5 253 (by decide) (some ⟨N, 0, none⟩) 3 5 [184, 7, 0] (row_mid W5 N 0 3 _ _ kb rfl (by decide) (fun i hi => by rcases (by omega : i = 0 ∨ i = 1 ∨ i = 2) with rfl | rfl | rfl <;> rfl)) (by decide) (by kernel_rfl))
  go_upto_region 11 with (first | ((with_reducible refine q5.out.mono ?_); rintro e w6 ⟨rfl, p6, b6⟩; have kb6 := kb.but b6 kb.lt (by have := nB.out; simp; omega); have q6 := Lib.hid (kp_pokeG p6 256 (by decide) (some ⟨N, 3, none⟩) 2 2 [0, 0] (row_mid w6 N 3 2 _ _ kb6 rfl (by decide) (fun i hi => by rcases (by omega : i = 0 ∨ i = 1) with rfl | rfl <;> rfl)) (by decide) (by kernel_rfl))) | ((with_reducible refine q6.out.mono ?_); rintro e w7 ⟨rfl, p7, b7⟩))
  have q8 := Lib.hid (Fetch_no p7.h (T0.out.below p7.done) 253 1 256 4 fe_2_1)
  have D8 := Lib.hid p7.done
  clear p5 q5 kb nB e0 
  go_upto_region 12 with (first | ((with_reducible refine q8.out.mono ?_); rintro e w8 ⟨rfl, b8⟩))
  have kI := (Blk.new w8 33 z16).alloc (.cells #[.int .i64 1, .int .u32 253, .int .u32 256, .int .i64 4] 42)
  have kF := Blk.new (w8.alloc (.cells z16 33)) 42 #[.int .i64 1, .int .u32 253, .int .u32 256, .int .i64 4]
  simp only [World.size_alloc] at kF
  have b9 := (b8.alloc b8.size (.cells z16 33)).alloc (by have := b8.size; simp; omega) (.cells #[.int .i64 1, .int .u32 253, .int .u32 256, .int .i64 4] 42)
  generalize (w8.alloc (.cells z16 33)).alloc (.cells #[.int .i64 1, .int .u32 253, .int .u32 256, .int .i64 4] 42) = W9 at *
  generalize w8.heap.size = K at *
  have d0 := kF.cell (i := 0) rfl
  have d1 := kF.cell (i := 1) rfl
  have d2 := kF.cell (i := 2) rfl
  have d3 := kF.cell (i := 3) rfl
  go_wp2_with fail
  go_ret
  exact ⟨rfl, D8.out.trans (b9.mono D8.out.size)⟩
theorem fe_2_2 {B : Nat} : FeN B (pokeS (pokeS (mapS (mapS Mm.new 0 1 7) 1 1 2) 253 [184, 7, 0]) 256 [0, 0]) 253 1 256 4 := fun W hW tb => by
  have ok : (pokeS (pokeS (mapS (mapS Mm.new 0 1 7) 1 1 2) 253 [184, 7, 0]) 256 [0, 0]).ok := (pokeS_ok (pokeS_ok (mapS_ok (mapS_ok new_okM _ _ _) _ _ _) 253 (by decide) _ (by decide)) 256 (by decide) _ (by decide))
  have hs : ∀ j, j < 3 → decE (zsF (pokeS (pokeS (mapS (mapS Mm.new 0 1 7) 1 1 2) 253 [184, 7, 0]) 256 [0, 0]) 253 j) = 10 ∧ lackL (pokeS (pokeS (mapS (mapS Mm.new 0 1 7) 1 1 2) 253 [184, 7, 0]) 256 [0, 0]) ((253 + j) % 4294967296) 4 1 = none := by
    intro j hj
    rcases (by omega : j = 0 ∨ j = 1 ∨ j = 2) with rfl | rfl | rfl
    all_goals (refine ⟨?_, ?_⟩ <;> kernel_rfl)
  exact fetched_no hW ok tb 253 (by decide) 3 (by decide) hs ⟨by kernel_rfl, by kernel_rfl⟩
set_option maxRecDepth 20000 in
set_option maxHeartbeats 2000000 in
theorem fet_2_2 (w : World) (tabs : Tb w) (a0 a1 : Int) (w0 : 0 ≤ a0 ∧ a0 ≤ 255) (w1 : 0 ≤ a1 ∧ a1 ≤ 255) (h0 : a0 % 5 = 2) (h1 : a1 % 8 = 2) : Calls Tryz.prog 14 #[.int .u8 a0, .int .u8 a1] w fun e w' => e = .returned (.bool true) ∧ Below w.heap.size w w' := by
  have hK := Lib.hid (known13 w tabs)
  have hNew := Lib.hid (fun W => pNew W)
  have T0 := Lib.hid tabs
  have e0 : Int.tmod a0 5 = 2 := by rw [Int.tmod_eq_emod_of_nonneg w0.1]; exact h0
  have e1 : Int.tmod a1 8 = 2 := by rw [Int.tmod_eq_emod_of_nonneg w1.1]; exact h1
  clear tabs
  go_enter Tryz.func14, Tryz.ntmps14
  go_upto_region 3 with (first | ((with_reducible refine hK.out.mono ?_); rintro e w1 ⟨rfl, b1⟩))
  go_upto_region 4 with (first | ((with_reducible refine (hNew.out _).mono ?_); rintro e w2 ⟨rfl, p2⟩))
  replace p2 : Pg w.heap.size w w2 w1.heap.size Mm.new := ⟨p2.h, p2.ok, (But.of b1 _).trans (p2.k.mono b1.size (by simp)), b1.size⟩
  generalize w1.heap.size = B at *
  have q2 := Lib.hid (kp_mapG p2 0 1 7 (by decide) (by kernel_rfl))
  go_upto_region 6 with (first | ((with_reducible refine q2.out.mono ?_); rintro e w3 ⟨rfl, p3, -⟩; have q3 := Lib.hid (kp_mapG p3 1 1 2 (by decide) (by kernel_rfl))) | ((with_reducible refine q3.out.mono ?_); rintro e w4 ⟨rfl, p4, -⟩))
  go_upto_region 9 with fail
  have kb := Blk.new w4 5 #[.int .u8 184, .int .u8 7, .int .u8 0, .int .u8 0, .int .u8 0]
  have p5 := p4.below ((Below.refl w4.heap.size w4).alloc (Nat.le_refl _) (.cells #[.int .u8 184, .int .u8 7, .int .u8 0, .int .u8 0, .int .u8 0] 5))
  have nB := Lib.hid (show B < w4.heap.size from p4.h.lt)
  generalize w4.alloc (.cells #[.int .u8 184, .int .u8 7, .int .u8 0, .int .u8 0, .int .u8 0] 5) = W5 at *
  generalize w4.heap.size = N at *
  have q5 := Lib.hid (kp_pokeG p5 253 (by decide) (some ⟨N, 0, none⟩) 3 5 [184, 7, 0] (row_mid W5 N 0 3 _ _ kb rfl (by decide) (fun i hi => by rcases (by omega : i = 0 ∨ i = 1 ∨ i = 2) with rfl | rfl | rfl <;> rfl)) (by decide) (by kernel_rfl))
  go_upto_region 11 with (first | ((with_reducible refine q5.out.mono ?_); rintro e w6 ⟨rfl, p6, b6⟩; have kb6 := kb.but b6 kb.lt (by have := nB.out; simp; omega); have q6 := Lib.hid (kp_pokeG p6 256 (by decide) (some ⟨N, 3, none⟩) 2 2 [0, 0] (row_mid w6 N 3 2 _ _ kb6 rfl (by decide) (fun i hi => by rcases (by omega : i = 0 ∨ i = 1) with rfl | rfl <;> rfl)) (by decide) (by kernel_rfl))) | ((with_reducible refine q6.out.mono ?_); rintro e w7 ⟨rfl, p7, b7⟩))
  have q8 := Lib.hid (Fetch_no p7.h (T0.out.below p7.done) 253 1 256 4 fe_2_2)
  have D8 := Lib.hid p7.done
  clear p5 q5 kb nB e0 
  go_upto_region 12 with (first | ((with_reducible refine q8.out.mono ?_); rintro e w8 ⟨rfl, b8⟩))
  have kI := (Blk.new w8 33 z16).alloc (.cells #[.int .i64 1, .int .u32 253, .int .u32 256, .int .i64 4] 42)
  have kF := Blk.new (w8.alloc (.cells z16 33)) 42 #[.int .i64 1, .int .u32 253, .int .u32 256, .int .i64 4]
  simp only [World.size_alloc] at kF
  have b9 := (b8.alloc b8.size (.cells z16 33)).alloc (by have := b8.size; simp; omega) (.cells #[.int .i64 1, .int .u32 253, .int .u32 256, .int .i64 4] 42)
  generalize (w8.alloc (.cells z16 33)).alloc (.cells #[.int .i64 1, .int .u32 253, .int .u32 256, .int .i64 4] 42) = W9 at *
  generalize w8.heap.size = K at *
  have d0 := kF.cell (i := 0) rfl
  have d1 := kF.cell (i := 1) rfl
  have d2 := kF.cell (i := 2) rfl
  have d3 := kF.cell (i := 3) rfl
  go_wp2_with fail
  go_ret
  exact ⟨rfl, D8.out.trans (b9.mono D8.out.size)⟩
theorem fe_2_3 {B : Nat} : FeN B (pokeS (pokeS (mapS (mapS Mm.new 0 1 7) 1 1 3) 253 [184, 7, 0]) 256 [0, 0]) 253 1 256 4 := fun W hW tb => by
  have ok : (pokeS (pokeS (mapS (mapS Mm.new 0 1 7) 1 1 3) 253 [184, 7, 0]) 256 [0, 0]).ok := (pokeS_ok (pokeS_ok (mapS_ok (mapS_ok new_okM _ _ _) _ _ _) 253 (by decide) _ (by decide)) 256 (by decide) _ (by decide))
  have hs : ∀ j, j < 3 → decE (zsF (pokeS (pokeS (mapS (mapS Mm.new 0 1 7) 1 1 3) 253 [184, 7, 0]) 256 [0, 0]) 253 j) = 10 ∧ lackL (pokeS (pokeS (mapS (mapS Mm.new 0 1 7) 1 1 3) 253 [184, 7, 0]) 256 [0, 0]) ((253 + j) % 4294967296) 4 1 = none := by
    intro j hj
    rcases (by omega : j = 0 ∨ j = 1 ∨ j = 2) with rfl | rfl | rfl
    all_goals (refine ⟨?_, ?_⟩ <;> kernel_rfl)
  exact fetched_no hW ok tb 253 (by decide) 3 (by decide) hs ⟨by kernel_rfl, by kernel_rfl⟩
set_option maxRecDepth 20000 in
set_option maxHeartbeats 2000000 in
theorem fet_2_3 (w : World) (tabs : Tb w) (a0 a1 : Int) (w0 : 0 ≤ a0 ∧ a0 ≤ 255) (w1 : 0 ≤ a1 ∧ a1 ≤ 255) (h0 : a0 % 5 = 2) (h1 : a1 % 8 = 3) : Calls Tryz.prog 14 #[.int .u8 a0, .int .u8 a1] w fun e w' => e = .returned (.bool true) ∧ Below w.heap.size w w' := by
  have hK := Lib.hid (known13 w tabs)
  have hNew := Lib.hid (fun W => pNew W)
  have T0 := Lib.hid tabs
  have e0 : Int.tmod a0 5 = 2 := by rw [Int.tmod_eq_emod_of_nonneg w0.1]; exact h0
  have e1 : Int.tmod a1 8 = 3 := by rw [Int.tmod_eq_emod_of_nonneg w1.1]; exact h1
  clear tabs
  go_enter Tryz.func14, Tryz.ntmps14
  go_upto_region 3 with (first | ((with_reducible refine hK.out.mono ?_); rintro e w1 ⟨rfl, b1⟩))
  go_upto_region 4 with (first | ((with_reducible refine (hNew.out _).mono ?_); rintro e w2 ⟨rfl, p2⟩))
  replace p2 : Pg w.heap.size w w2 w1.heap.size Mm.new := ⟨p2.h, p2.ok, (But.of b1 _).trans (p2.k.mono b1.size (by simp)), b1.size⟩
  generalize w1.heap.size = B at *
  have q2 := Lib.hid (kp_mapG p2 0 1 7 (by decide) (by kernel_rfl))
  go_upto_region 6 with (first | ((with_reducible refine q2.out.mono ?_); rintro e w3 ⟨rfl, p3, -⟩; have q3 := Lib.hid (kp_mapG p3 1 1 3 (by decide) (by kernel_rfl))) | ((with_reducible refine q3.out.mono ?_); rintro e w4 ⟨rfl, p4, -⟩))
  go_upto_region 9 with fail
  have kb := Blk.new w4 5 #[.int .u8 184, .int .u8 7, .int .u8 0, .int .u8 0, .int .u8 0]
  have p5 := p4.below ((Below.refl w4.heap.size w4).alloc (Nat.le_refl _) (.cells #[.int .u8 184, .int .u8 7, .int .u8 0, .int .u8 0, .int .u8 0] 5))
  have nB := Lib.hid (show B < w4.heap.size from p4.h.lt)
  generalize w4.alloc (.cells #[.int .u8 184, .int .u8 7, .int .u8 0, .int .u8 0, .int .u8 0] 5) = W5 at *
  generalize w4.heap.size = N at *
  have q5 := Lib.hid (kp_pokeG p5 253 (by decide) (some ⟨N, 0, none⟩) 3 5 [184, 7, 0] (row_mid W5 N 0 3 _ _ kb rfl (by decide) (fun i hi => by rcases (by omega : i = 0 ∨ i = 1 ∨ i = 2) with rfl | rfl | rfl <;> rfl)) (by decide) (by kernel_rfl))
  go_upto_region 11 with (first | ((with_reducible refine q5.out.mono ?_); rintro e w6 ⟨rfl, p6, b6⟩; have kb6 := kb.but b6 kb.lt (by have := nB.out; simp; omega); have q6 := Lib.hid (kp_pokeG p6 256 (by decide) (some ⟨N, 3, none⟩) 2 2 [0, 0] (row_mid w6 N 3 2 _ _ kb6 rfl (by decide) (fun i hi => by rcases (by omega : i = 0 ∨ i = 1) with rfl | rfl <;> rfl)) (by decide) (by kernel_rfl))) | ((with_reducible refine q6.out.mono ?_); rintro e w7 ⟨rfl, p7, b7⟩))
  have q8 := Lib.hid (Fetch_no p7.h (T0.out.below p7.done) 253 1 256 4 fe_2_3)
  have D8 := Lib.hid p7.done
  clear p5 q5 kb nB e0 
  go_upto_region 12 with (first | ((with_reducible refine q8.out.mono ?_); rintro e w8 ⟨rfl, b8⟩))
  have kI := (Blk.new w8 33 z16).alloc (.cells #[.int .i64 1, .int .u32 253, .int .u32 256, .int .i64 4] 42)
  have kF := Blk.new (w8.alloc (.cells z16 33)) 42 #[.int .i64 1, .int .u32 253, .int .u32 256, .int .i64 4]
  simp only [World.size_alloc] at kF
  have b9 := (b8.alloc b8.size (.cells z16 33)).alloc (by have := b8.size; simp; omega) (.cells #[.int .i64 1, .int .u32 253, .int .u32 256, .int .i64 4] 42)
  generalize (w8.alloc (.cells z16 33)).alloc (.cells #[.int .i64 1, .int .u32 253, .int .u32 256, .int .i64 4] 42) = W9 at *
  generalize w8.heap.size = K at *
  have d0 := kF.cell (i := 0) rfl
  have d1 := kF.cell (i := 1) rfl
  have d2 := kF.cell (i := 2) rfl
  have d3 := kF.cell (i := 3) rfl
  go_wp2_with fail
  go_ret
  exact ⟨rfl, D8.out.trans (b9.mono D8.out.size)⟩
theorem fe_2_4 {B : Nat} : FeY B (pokeS (pokeS (mapS (mapS Mm.new 0 1 7) 1 1 4) 253 [184, 7, 0]) 256 [0, 0]) 253 iMv := fun W hW tb => by
  have ok : (pokeS (pokeS (mapS (mapS Mm.new 0 1 7) 1 1 4) 253 [184, 7, 0]) 256 [0, 0]).ok := (pokeS_ok (pokeS_ok (mapS_ok (mapS_ok new_okM _ _ _) _ _ _) 253 (by decide) _ (by decide)) 256 (by decide) _ (by decide))
  have hs : ∀ j, j < 5 → decE (zsF (pokeS (pokeS (mapS (mapS Mm.new 0 1 7) 1 1 4) 253 [184, 7, 0]) 256 [0, 0]) 253 j) = 10 ∧ lackL (pokeS (pokeS (mapS (mapS Mm.new 0 1 7) 1 1 4) 253 [184, 7, 0]) 256 [0, 0]) ((253 + j) % 4294967296) 4 1 = none := by
    intro j hj
    rcases (by omega : j = 0 ∨ j = 1 ∨ j = 2 ∨ j = 3 ∨ j = 4) with rfl | rfl | rfl | rfl | rfl
    all_goals (refine ⟨?_, ?_⟩ <;> kernel_rfl)
  have q := fetched_ok hW ok tb 253 (by decide) 5 (by decide) hs (by kernel_rfl)
  rwa [show decI (zsF (pokeS (pokeS (mapS (mapS Mm.new 0 1 7) 1 1 4) 253 [184, 7, 0]) 256 [0, 0]) 253 5) = iMv by kernel_rfl] at q
set_option maxRecDepth 20000 in
set_option maxHeartbeats 2000000 in
theorem fet_2_4 (w : World) (tabs : Tb w) (a0 a1 : Int) (w0 : 0 ≤ a0 ∧ a0 ≤ 255) (w1 : 0 ≤ a1 ∧ a1 ≤ 255) (h0 : a0 % 5 = 2) (h1 : a1 % 8 = 4) : Calls Tryz.prog 14 #[.int .u8 a0, .int .u8 a1] w fun e w' => e = .returned (.bool true) ∧ Below w.heap.size w w' := by
  have hK := Lib.hid (known13 w tabs)
  have hNew := Lib.hid (fun W => pNew W)
  have T0 := Lib.hid tabs
  have e0 : Int.tmod a0 5 = 2 := by rw [Int.tmod_eq_emod_of_nonneg w0.1]; exact h0
  have e1 : Int.tmod a1 8 = 4 := by rw [Int.tmod_eq_emod_of_nonneg w1.1]; exact h1
  clear tabs
  go_enter Tryz.func14, Tryz.ntmps14
  go_upto_region 3 with (first | ((with_reducible refine hK.out.mono ?_); rintro e w1 ⟨rfl, b1⟩))
  go_upto_region 4 with (first | ((with_reducible refine (hNew.out _).mono ?_); rintro e w2 ⟨rfl, p2⟩))
  replace p2 : Pg w.heap.size w w2 w1.heap.size Mm.new := ⟨p2.h, p2.ok, (But.of b1 _).trans (p2.k.mono b1.size (by simp)), b1.size⟩
  generalize w1.heap.size = B at *
  have q2 := Lib.hid (kp_mapG p2 0 1 7 (by decide) (by kernel_rfl))
  go_upto_region 6 with (first | ((with_reducible refine q2.out.mono ?_); rintro e w3 ⟨rfl, p3, -⟩; have q3 := Lib.hid (kp_mapG p3 1 1 4 (by decide) (by kernel_rfl))) | ((with_reducible refine q3.out.mono ?_); rintro e w4 ⟨rfl, p4, -⟩))
  go_upto_region 9 with fail
  have kb := Blk.new w4 5 #[.int .u8 184, .int .u8 7, .int .u8 0, .int .u8 0, .int .u8 0]
  have p5 := p4.below ((Below.refl w4.heap.size w4).alloc (Nat.le_refl _) (.cells #[.int .u8 184, .int .u8 7, .int .u8 0, .int .u8 0, .int .u8 0] 5))
  have nB := Lib.hid (show B < w4.heap.size from p4.h.lt)
  generalize w4.alloc (.cells #[.int .u8 184, .int .u8 7, .int .u8 0, .int .u8 0, .int .u8 0] 5) = W5 at *
  generalize w4.heap.size = N at *
  have q5 := Lib.hid (kp_pokeG p5 253 (by decide) (some ⟨N, 0, none⟩) 3 5 [184, 7, 0] (row_mid W5 N 0 3 _ _ kb rfl (by decide) (fun i hi => by rcases (by omega : i = 0 ∨ i = 1 ∨ i = 2) with rfl | rfl | rfl <;> rfl)) (by decide) (by kernel_rfl))
  go_upto_region 11 with (first | ((with_reducible refine q5.out.mono ?_); rintro e w6 ⟨rfl, p6, b6⟩; have kb6 := kb.but b6 kb.lt (by have := nB.out; simp; omega); have q6 := Lib.hid (kp_pokeG p6 256 (by decide) (some ⟨N, 3, none⟩) 2 2 [0, 0] (row_mid w6 N 3 2 _ _ kb6 rfl (by decide) (fun i hi => by rcases (by omega : i = 0 ∨ i = 1) with rfl | rfl <;> rfl)) (by decide) (by kernel_rfl))) | ((with_reducible refine q6.out.mono ?_); rintro e w7 ⟨rfl, p7, b7⟩))
  have q8 := Lib.hid (Fetch_yes p7.h (T0.out.below p7.done) 253 iMv fe_2_4)
  have D8 := Lib.hid p7.done
  clear p5 q5 kb nB e0 
  go_upto_region 12 with (first | ((with_reducible refine q8.out.mono ?_); rintro e w8 ⟨rfl, b8⟩))
  have kI := (Blk.new w8 33 (in16 iMv)).alloc (.cells #[.int .i64 0, .int .u32 0, .int .u32 0, .int .i64 0] 42)
  have kF := Blk.new (w8.alloc (.cells (in16 iMv) 33)) 42 #[.int .i64 0, .int .u32 0, .int .u32 0, .int .i64 0]
  simp only [World.size_alloc] at kF
  have b9 := (b8.alloc b8.size (.cells (in16 iMv) 33)).alloc (by have := b8.size; simp; omega) (.cells #[.int .i64 0, .int .u32 0, .int .u32 0, .int .i64 0] 42)
  generalize (w8.alloc (.cells (in16 iMv) 33)).alloc (.cells #[.int .i64 0, .int .u32 0, .int .u32 0, .int .i64 0] 42) = W9 at *
  generalize w8.heap.size = K at *
  have c15 := kI.cell (i := 15) (v := .int .i64 5) rfl
  have c10 := kI.cell (i := 10) (v := .int .u32 7) rfl
  go_wp2_with fail
  go_ret
  exact ⟨rfl, D8.out.trans (b9.mono D8.out.size)⟩
theorem fe_2_5 {B : Nat} : FeY B (pokeS (pokeS (mapS (mapS Mm.new 0 1 7) 1 1 5) 253 [184, 7, 0]) 256 [0, 0]) 253 iMv := fun W hW tb => by
  have ok : (pokeS (pokeS (mapS (mapS Mm.new 0 1 7) 1 1 5) 253 [184, 7, 0]) 256 [0, 0]).ok := (pokeS_ok (pokeS_ok (mapS_ok (mapS_ok new_okM _ _ _) _ _ _) 253 (by decide) _ (by decide)) 256 (by decide) _ (by decide))
  have hs : ∀ j, j < 5 → decE (zsF (pokeS (pokeS (mapS (mapS Mm.new 0 1 7) 1 1 5) 253 [184, 7, 0]) 256 [0, 0]) 253 j) = 10 ∧ lackL (pokeS (pokeS (mapS (mapS Mm.new 0 1 7) 1 1 5) 253 [184, 7, 0]) 256 [0, 0]) ((253 + j) % 4294967296) 4 1 = none := by
    intro j hj
    rcases (by omega : j = 0 ∨ j = 1 ∨ j = 2 ∨ j = 3 ∨ j = 4) with rfl | rfl | rfl | rfl | rfl
    all_goals (refine ⟨?_, ?_⟩ <;> kernel_rfl)
  have q := fetched_ok hW ok tb 253 (by decide) 5 (by decide) hs (by kernel_rfl)
  rwa [show decI (zsF (pokeS (pokeS (mapS (mapS Mm.new 0 1 7) 1 1 5) 253 [184, 7, 0]) 256 [0, 0]) 253 5) = iMv by kernel_rfl] at q
set_option maxRecDepth 20000 in
set_option maxHeartbeats 2000000 in
theorem fet_2_5 (w : World) (tabs : Tb w) (a0 a1 : Int) (w0 : 0 ≤ a0 ∧ a0 ≤ 255) (w1 : 0 ≤ a1 ∧ a1 ≤ 255) (h0 : a0 % 5 = 2) (h1 : a1 % 8 = 5) : Calls Tryz.prog 14 #[.int .u8 a0, .int .u8 a1] w fun e w' => e = .returned (.bool true) ∧ Below w.heap.size w w' := by
  have hK := Lib.hid (known13 w tabs)
  have hNew := Lib.hid (fun W => pNew W)
  have T0 := Lib.hid tabs
  have e0 : Int.tmod a0 5 = 2 := by rw [Int.tmod_eq_emod_of_nonneg w0.1]; exact h0
  have e1 : Int.tmod a1 8 = 5 := by rw [Int.tmod_eq_emod_of_nonneg w1.1]; exact h1
  clear tabs
  go_enter Tryz.func14, Tryz.ntmps14
  go_upto_region 3 with (first | ((with_reducible refine hK.out.mono ?_); rintro e w1 ⟨rfl, b1⟩))
  go_upto_region 4 with (first | ((with_reducible refine (hNew.out _).mono ?_); rintro e w2 ⟨rfl, p2⟩))
  replace p2 : Pg w.heap.size w w2 w1.heap.size Mm.new := ⟨p2.h, p2.ok, (But.of b1 _).trans (p2.k.mono b1.size (by simp)), b1.size⟩
  generalize w1.heap.size = B at *
  have q2 := Lib.hid (kp_mapG p2 0 1 7 (by decide) (by kernel_rfl))
  go_upto_region 6 with (first | ((with_reducible refine q2.out.mono ?_); rintro e w3 ⟨rfl, p3, -⟩; have q3 := Lib.hid (kp_mapG p3 1 1 5 (by decide) (by kernel_rfl))) | ((with_reducible refine q3.out.mono ?_); rintro e w4 ⟨rfl, p4, -⟩))
  go_upto_region 9 with fail
  have kb := Blk.new w4 5 #[.int .u8 184, .int .u8 7, .int .u8 0, .int .u8 0, .int .u8 0]
  have p5 := p4.below ((Below.refl w4.heap.size w4).alloc (Nat.le_refl _) (.cells #[.int .u8 184, .int .u8 7, .int .u8 0, .int .u8 0, .int .u8 0] 5))
  have nB := Lib.hid (show B < w4.heap.size from p4.h.lt)
  generalize w4.alloc (.cells #[.int .u8 184, .int .u8 7, .int .u8 0, .int .u8 0, .int .u8 0] 5) = W5 at *
  generalize w4.heap.size = N at *
  have q5 := Lib.hid (kp_pokeG p5 253 (by decide) (some ⟨N, 0, none⟩) 3 5 [184, 7, 0] (row_mid W5 N 0 3 _ _ kb rfl (by decide) (fun i hi => by rcases (by omega : i = 0 ∨ i = 1 ∨ i = 2) with rfl | rfl | rfl <;> rfl)) (by decide) (by kernel_rfl))
  go_upto_region 11 with (first | ((with_reducible refine q5.out.mono ?_); rintro e w6 ⟨rfl, p6, b6⟩; have kb6 := kb.but b6 kb.lt (by have := nB.out; simp; omega); have q6 := Lib.hid (kp_pokeG p6 256 (by decide) (some ⟨N, 3, none⟩) 2 2 [0, 0] (row_mid w6 N 3 2 _ _ kb6 rfl (by decide) (fun i hi => by rcases (by omega : i = 0 ∨ i = 1) with rfl | rfl <;> rfl)) (by decide) (by kernel_rfl))) | ((with_reducible refine q6.out.mono ?_); rintro e w7 ⟨rfl, p7, b7⟩))
  have q8 := Lib.hid (Fetch_yes p7.h (T0.out.below p7.done) 253 iMv fe_2_5)
  have D8 := Lib.hid p7.done
  clear p5 q5 kb nB e0 
  go_upto_region 12 with (first | ((with_reducible refine q8.out.mono ?_); rintro e w8 ⟨rfl, b8⟩))
  have kI := (Blk.new w8 33 (in16 iMv)).alloc (.cells #[.int .i64 0, .int .u32 0, .int .u32 0, .int .i64 0] 42)
  have kF := Blk.new (w8.alloc (.cells (in16 iMv) 33)) 42 #[.int .i64 0, .int .u32 0, .int .u32 0, .int .i64 0]
  simp only [World.size_alloc] at kF
  have b9 := (b8.alloc b8.size (.cells (in16 iMv) 33)).alloc (by have := b8.size; simp; omega) (.cells #[.int .i64 0, .int .u32 0, .int .u32 0, .int .i64 0] 42)
  generalize (w8.alloc (.cells (in16 iMv) 33)).alloc (.cells #[.int .i64 0, .int .u32 0, .int .u32 0, .int .i64 0] 42) = W9 at *
  generalize w8.heap.size = K at *
  have c15 := kI.cell (i := 15) (v := .int .i64 5) rfl
  have c10 := kI.cell (i := 10) (v := .int .u32 7) rfl
  go_wp2_with fail
  go_ret
  exact ⟨rfl, D8.out.trans (b9.mono D8.out.size)⟩
theorem fe_2_6 {B : Nat} : FeY B (pokeS (pokeS (mapS (mapS Mm.new 0 1 7) 1 1 6) 253 [184, 7, 0]) 256 [0, 0]) 253 iMv := fun W hW tb => by
  have ok : (pokeS (pokeS (mapS (mapS Mm.new 0 1 7) 1 1 6) 253 [184, 7, 0]) 256 [0, 0]).ok := (pokeS_ok (pokeS_ok (mapS_ok (mapS_ok new_okM _ _ _) _ _ _) 253 (by decide) _ (by decide)) 256 (by decide) _ (by decide))
  have hs : ∀ j, j < 5 → decE (zsF (pokeS (pokeS (mapS (mapS Mm.new 0 1 7) 1 1 6) 253 [184, 7, 0]) 256 [0, 0]) 253 j) = 10 ∧ lackL (pokeS (pokeS (mapS (mapS Mm.new 0 1 7) 1 1 6) 253 [184, 7, 0]) 256 [0, 0]) ((253 + j) % 4294967296) 4 1 = none := by
    intro j hj
    rcases (by omega : j = 0 ∨ j = 1 ∨ j = 2 ∨ j = 3 ∨ j = 4) with rfl | rfl | rfl | rfl | rfl
    all_goals (refine ⟨?_, ?_⟩ <;> kernel_rfl)
  have q := fetched_ok hW ok tb 253 (by decide) 5 (by decide) hs (by kernel_rfl)
  rwa [show decI (zsF (pokeS (pokeS (mapS (mapS Mm.new 0 1 7) 1 1 6) 253 [184, 7, 0]) 256 [0, 0]) 253 5) = iMv by kernel_rfl] at q
set_option maxRecDepth 20000 in
set_option maxHeartbeats 2000000 in
theorem fet_2_6 (w : World) (tabs : Tb w) (a0 a1 : Int) (w0 : 0 ≤ a0 ∧ a0 ≤ 255) (w1 : 0 ≤ a1 ∧ a1 ≤ 255) (h0 : a0 % 5 = 2) (h1 : a1 % 8 = 6) : Calls Tryz.prog 14 #[.int .u8 a0, .int .u8 a1] w fun e w' => e = .returned (.bool true) ∧ Below w.heap.size w w' := by
  have hK := Lib.hid (known13 w tabs)
  have hNew := Lib.hid (fun W => pNew W)
  have T0 := Lib.hid tabs
  have e0 : Int.tmod a0 5 = 2 := by rw [Int.tmod_eq_emod_of_nonneg w0.1]; exact h0
  have e1 : Int.tmod a1 8 = 6 := by rw [Int.tmod_eq_emod_of_nonneg w1.1]; exact h1
  clear tabs
  go_enter Tryz.func14, Tryz.ntmps14
  go_upto_region 3 with (first | ((with_reducible refine hK.out.mono ?_); rintro e w1 ⟨rfl, b1⟩))
  go_upto_region 4 with (first | ((with_reducible refine (hNew.out _).mono ?_); rintro e w2 ⟨rfl, p2⟩))
  replace p2 : Pg w.heap.size w w2 w1.heap.size Mm.new := ⟨p2.h, p2.ok, (But.of b1 _).trans (p2.k.mono b1.size (by simp)), b1.size⟩
  generalize w1.heap.size = B at *
  have q2 := Lib.hid (kp_mapG p2 0 1 7 (by decide) (by kernel_rfl))
  go_upto_region 6 with (first | ((with_reducible refine q2.out.mono ?_); rintro e w3 ⟨rfl, p3, -⟩; have q3 := Lib.hid (kp_mapG p3 1 1 6 (by decide) (by kernel_rfl))) | ((with_reducible refine q3.out.mono ?_); rintro e w4 ⟨rfl, p4, -⟩))
  go_upto_region 9 with fail
  have kb := Blk.new w4 5 #[.int .u8 184, .int .u8 7, .int .u8 0, .int .u8 0, .int .u8 0]
  have p5 := p4.below ((Below.refl w4.heap.size w4).alloc (Nat.le_refl _) (.cells #[.int .u8 184, .int .u8 7, .int .u8 0, .int .u8 0, .int .u8 0] 5))
  have nB := Lib.hid (show B < w4.heap.size from p4.h.lt)
  generalize w4.alloc (.cells #[.int .u8 184, .int .u8 7, .int .u8 0, .int .u8 0, .int .u8 0] 5) = W5 at *
  generalize w4.heap.size = N at *
  have q5 := Lib.hid (kp_pokeG p5 253 (by decide) (some ⟨N, 0, none⟩) 3 5 [184, 7, 0] (row_mid W5 N 0 3 _ _ kb rfl (by decide) (fun i hi => by rcases (by omega : i = 0 ∨ i = 1 ∨ i = 2) with rfl | rfl | rfl <;> rfl)) (by decide) (by kernel_rfl))
  go_upto_region 11 with (first | ((with_reducible refine q5.out.mono ?_); rintro e w6 ⟨rfl, p6, b6⟩; have kb6 := kb.but b6 kb.lt (by have := nB.out; simp; omega); have q6 := Lib.hid (kp_pokeG p6 256 (by decide) (some ⟨N, 3, none⟩) 2 2 [0, 0] (row_mid w6 N 3 2 _ _ kb6 rfl (by decide) (fun i hi => by rcases (by omega : i = 0 ∨ i = 1) with rfl | rfl <;> rfl)) (by decide) (by kernel_rfl))) | ((with_reducible refine q6.out.mono ?_); rintro e w7 ⟨rfl, p7, b7⟩))
  have q8 := Lib.hid (Fetch_yes p7.h (T0.out.below p7.done) 253 iMv fe_2_6)
  have D8 := Lib.hid p7.done
  clear p5 q5 kb nB e0 
  go_upto_region 12 with (first | ((with_reducible refine q8.out.mono ?_); rintro e w8 ⟨rfl, b8⟩))
  have kI := (Blk.new w8 33 (in16 iMv)).alloc (.cells #[.int .i64 0, .int .u32 0, .int .u32 0, .int .i64 0] 42)
  have kF := Blk.new (w8.alloc (.cells (in16 iMv) 33)) 42 #[.int .i64 0, .int .u32 0, .int .u32 0, .int .i64 0]
  simp only [World.size_alloc] at kF
  have b9 := (b8.alloc b8.size (.cells (in16 iMv) 33)).alloc (by have := b8.size; simp; omega) (.cells #[.int .i64 0, .int .u32 0, .int .u32 0, .int .i64 0] 42)
  generalize (w8.alloc (.cells (in16 iMv) 33)).alloc (.cells #[.int .i64 0, .int .u32 0, .int .u32 0, .int .i64 0] 42) = W9 at *
  generalize w8.heap.size = K at *
  have c15 := kI.cell (i := 15) (v := .int .i64 5) rfl
  have c10 := kI.cell (i := 10) (v := .int .u32 7) rfl
  go_wp2_with fail
  go_ret
  exact ⟨rfl, D8.out.trans (b9.mono D8.out.size)⟩
theorem fe_2_7 {B : Nat} : FeY B (pokeS (pokeS (mapS (mapS Mm.new 0 1 7) 1 1 7) 253 [184, 7, 0]) 256 [0, 0]) 253 iMv := fun W hW tb => by
  have ok : (pokeS (pokeS (mapS (mapS Mm.new 0 1 7) 1 1 7) 253 [184, 7, 0]) 256 [0, 0]).ok := (pokeS_ok (pokeS_ok (mapS_ok (mapS_ok new_okM _ _ _) _ _ _) 253 (by decide) _ (by decide)) 256 (by decide) _ (by decide))
  have hs : ∀ j, j < 5 → decE (zsF (pokeS (pokeS (mapS (mapS Mm.new 0 1 7) 1 1 7) 253 [184, 7, 0]) 256 [0, 0]) 253 j) = 10 ∧ lackL (pokeS (pokeS (mapS (mapS Mm.new 0 1 7) 1 1 7) 253 [184, 7, 0]) 256 [0, 0]) ((253 + j) % 4294967296) 4 1 = none := by
    intro j hj
    rcases (by omega : j = 0 ∨ j = 1 ∨ j = 2 ∨ j = 3 ∨ j = 4) with rfl | rfl | rfl | rfl | rfl
    all_goals (refine ⟨?_, ?_⟩ <;> kernel_rfl)
  have q := fetched_ok hW ok tb 253 (by decide) 5 (by decide) hs (by kernel_rfl)
  rwa [show decI (zsF (pokeS (pokeS (mapS (mapS Mm.new 0 1 7) 1 1 7) 253 [184, 7, 0]) 256 [0, 0]) 253 5) = iMv by kernel_rfl] at q
set_option maxRecDepth 20000 in
set_option maxHeartbeats 2000000 in
theorem fet_2_7 (w : World) (tabs : Tb w) (a0 a1 : Int) (w0 : 0 ≤ a0 ∧ a0 ≤ 255) (w1 : 0 ≤ a1 ∧ a1 ≤ 255) (h0 : a0 % 5 = 2) (h1 : a1 % 8 = 7) : Calls Tryz.prog 14 #[.int .u8 a0, .int .u8 a1] w fun e w' => e = .returned (.bool true) ∧ Below w.heap.size w w' := by
  have hK := Lib.hid (known13 w tabs)
  have hNew := Lib.hid (fun W => pNew W)
  have T0 := Lib.hid tabs
  have e0 : Int.tmod a0 5 = 2 := by rw [Int.tmod_eq_emod_of_nonneg w0.1]; exact h0
  have e1 : Int.tmod a1 8 = 7 := by rw [Int.tmod_eq_emod_of_nonneg w1.1]; exact h1
  clear tabs
  go_enter Tryz.func14, Tryz.ntmps14
  go_upto_region 3 with (first | ((with_reducible refine hK.out.mono ?_); rintro e w1 ⟨rfl, b1⟩))
  go_upto_region 4 with (first | ((with_reducible refine (hNew.out _).mono ?_); rintro e w2 ⟨rfl, p2⟩))
  replace p2 : Pg w.heap.size w w2 w1.heap.size Mm.new := ⟨p2.h, p2.ok, (But.of b1 _).trans (p2.k.mono b1.size (by simp)), b1.size⟩
  generalize w1.heap.size = B at *
  have q2 := Lib.hid (kp_mapG p2 0 1 7 (by decide) (by kernel_rfl))
  go_upto_region 6 with (first | ((with_reducible refine q2.out.mono ?_); rintro e w3 ⟨rfl, p3, -⟩; have q3 := Lib.hid (kp_mapG p3 1 1 7 (by decide) (by kernel_rfl))) | ((with_reducible refine q3.out.mono ?_); rintro e w4 ⟨rfl, p4, -⟩))
  go_upto_region 9 with fail
  have kb := Blk.new w4 5 #[.int .u8 184, .int .u8 7, .int .u8 0, .int .u8 0, .int .u8 0]
  have p5 := p4.below ((Below.refl w4.heap.size w4).alloc (Nat.le_refl _) (.cells #[.int .u8 184, .int .u8 7, .int .u8 0, .int .u8 0, .int .u8 0] 5))
  have nB := Lib.hid (show B < w4.heap.size from p4.h.lt)
  generalize w4.alloc (.cells #[.int .u8 184, .int .u8 7, .int .u8 0, .int .u8 0, .int .u8 0] 5) = W5 at *
  generalize w4.heap.size = N at *
  have q5 := Lib.hid (kp_pokeG p5 253 (by decide) (some ⟨N, 0, none⟩) 3 5 [184, 7, 0] (row_mid W5 N 0 3 _ _ kb rfl (by decide) (fun i hi => by rcases (by omega : i = 0 ∨ i = 1 ∨ i = 2) with rfl | rfl | rfl <;> rfl)) (by decide) (by kernel_rfl))
  go_upto_region 11 with (first | ((with_reducible refine q5.out.mono ?_); rintro e w6 ⟨rfl, p6, b6⟩; have kb6 := kb.but b6 kb.lt (by have := nB.out; simp; omega); have q6 := Lib.hid (kp_pokeG p6 256 (by decide) (some ⟨N, 3, none⟩) 2 2 [0, 0] (row_mid w6 N 3 2 _ _ kb6 rfl (by decide) (fun i hi => by rcases (by omega : i = 0 ∨ i = 1) with rfl | rfl <;> rfl)) (by decide) (by kernel_rfl))) | ((with_reducible refine q6.out.mono ?_); rintro e w7 ⟨rfl, p7, b7⟩))
  have q8 := Lib.hid (Fetch_yes p7.h (T0.out.below p7.done) 253 iMv fe_2_7)
  have D8 := Lib.hid p7.done
  clear p5 q5 kb nB e0 
  go_upto_region 12 with (first | ((with_reducible refine q8.out.mono ?_); rintro e w8 ⟨rfl, b8⟩))
  have kI := (Blk.new w8 33 (in16 iMv)).alloc (.cells #[.int .i64 0, .int .u32 0, .int .u32 0, .int .i64 0] 42)
  have kF := Blk.new (w8.alloc (.cells (in16 iMv) 33)) 42 #[.int .i64 0, .int .u32 0, .int .u32 0, .int .i64 0]
  simp only [World.size_alloc] at kF
  have b9 := (b8.alloc b8.size (.cells (in16 iMv) 33)).alloc (by have := b8.size; simp; omega) (.cells #[.int .i64 0, .int .u32 0, .int .u32 0, .int .i64 0] 42)
  generalize (w8.alloc (.cells (in16 iMv) 33)).alloc (.cells #[.int .i64 0, .int .u32 0, .int .u32 0, .int .i64 0] 42) = W9 at *
  generalize w8.heap.size = K at *
  have c15 := kI.cell (i := 15) (v := .int .i64 5) rfl
  have c10 := kI.cell (i := 10) (v := .int .u32 7) rfl
  go_wp2_with fail
  go_ret
  exact ⟨rfl, D8.out.trans (b9.mono D8.out.size)⟩
end Go.Proofs.YtcdoidnfdkodoaaGreatDoor
