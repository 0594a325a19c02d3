import Derived.Test.YtbalnlodkiejcaaDoorC7
namespace Go.Proofs.YtbalnlodkiejcaaDoor
open Go.RowKit
set_option linter.unusedVariables false
set_option linter.unusedSimpArgs false
set_option linter.unusedSectionVars false

set_option maxRecDepth 10000 in
set_option maxHeartbeats 4000000 in
theorem rEnc1 (k : Nat) (h1 : 1 ≤ k) (h2 : k ≤ 47) (hf : formN k = 1) (d s t i : Int) (hi : -2147483648 ≤ i ∧ i ≤ 2147483647) (hok : okF 1 d s t i = true) (w : World) :
    Calls Tryd.prog 15 #[wordV k d s t i] w fun e w' => e = .returned (.tuple #[.int .u32 (encF 1 (bitsN k) d s t i), .bool true]) ∧ Below w.heap.size w w' := by
  have ho := fun w => of_any k h1 h2 w
  have hq := fun w => rIs1 k h1 h2 hf d s t i hi w
  unfold shapeV at ho
  rw [f3_low (by omega)] at ho
  rw [hf] at ho
  rw [hok] at hq
  have hu : 0 ≤ i % 4294967296 ∧ i % 4294967296 ≤ 4294967295 := by omega
  go_enter Tryd.func15, Tryd.ntmps15
  go_wp2_with fail
  refine (hq _).mono ?_
  rintro e w1 ⟨rfl, b1⟩
  have q0 := own_cell b1 0 _ rfl
  have hb := ((Below.refl w.heap.size w).alloc (Nat.le_refl _) _).trans (b1.mono (by simp))
  go_wp2_with fail
  refine (ho _).mono ?_
  rintro e w2 ⟨rfl, b2⟩
  have b12 := b1.trans (b2.mono b1.size)
  have q1 : ∀ o, (w2.alloc o).cell? ⟨w.heap.size, 1, none⟩ = some (.int .i64 d) := own_cell2 b12 1 _ rfl
  have q2 : ∀ o, (w2.alloc o).cell? ⟨w.heap.size, 2, none⟩ = some (.int .i64 s) := own_cell2 b12 2 _ rfl
  have q3 : ∀ o, (w2.alloc o).cell? ⟨w.heap.size, 3, none⟩ = some (.int .i64 t) := own_cell2 b12 3 _ rfl
  have q4 : ∀ o, (w2.alloc o).cell? ⟨w.heap.size, 4, none⟩ = some (.int .i32 i) := own_cell2 b12 4 _ rfl
  have hb2 := fun o => (hb.trans (b2.mono hb.size)).alloc (Nat.le_trans hb.size b2.size) o
  go_wp2_with fail
  go_region
  go_wp2_with fail
  go_ret2
  have hs := shape_ok h1 h2
  rw [hf] at hs
  simp [shapeOk] at hs
  obtain ⟨gd, gs, gt, -, -, -⟩ := okF_regs hok
  have gd := (regL_iff _ _).1 gd
  have gs := (regL_iff _ _).1 gs
  have gt := (regL_iff _ _).1 gt
  refine ⟨ret_ib ?_, ?_⟩
  · rw [← rE1 _ d s t i (by omega) hok]
    clear hb2 q1 q2 q3 q4 b12 b2 b1 ho hq hb q0
    try simp only [show i % 4294967296 % 32 = i % 32 by omega, show d % 4294967296 * 128 % 4294967296 = d * 128 by omega, show s % 4294967296 * 32768 % 4294967296 = s * 32768 by omega, show t % 4294967296 * 1048576 % 4294967296 = t * 1048576 by omega, show (bitsN k : Int) / 4096 % 8 * 4096 % 4294967296 = (bitsN k : Int) / 4096 % 8 * 4096 by omega, show (bitsN k : Int) / 33554432 * 33554432 % 4294967296 = (bitsN k : Int) / 33554432 * 33554432 by omega]
    try rfl
  · first | exact (hb2 _).drew | exact (hb2 _).drew.drew | exact hb2 _
set_option maxRecDepth 10000 in
set_option maxHeartbeats 4000000 in
theorem rEnc2 (k : Nat) (h1 : 1 ≤ k) (h2 : k ≤ 47) (hf : formN k = 2) (d s t i : Int) (hi : -2147483648 ≤ i ∧ i ≤ 2147483647) (hok : okF 2 d s t i = true) (w : World) :
    Calls Tryd.prog 15 #[wordV k d s t i] w fun e w' => e = .returned (.tuple #[.int .u32 (encF 2 (bitsN k) d s t i), .bool true]) ∧ Below w.heap.size w w' := by
  have ho := fun w => of_any k h1 h2 w
  have hq := fun w => rIs2 k h1 h2 hf d s t i hi w
  unfold shapeV at ho
  rw [f3_low (by omega)] at ho
  rw [hf] at ho
  rw [hok] at hq
  have hu : 0 ≤ i % 4294967296 ∧ i % 4294967296 ≤ 4294967295 := by omega
  go_enter Tryd.func15, Tryd.ntmps15
  go_wp2_with fail
  refine (hq _).mono ?_
  rintro e w1 ⟨rfl, b1⟩
  have q0 := own_cell b1 0 _ rfl
  have hb := ((Below.refl w.heap.size w).alloc (Nat.le_refl _) _).trans (b1.mono (by simp))
  go_wp2_with fail
  refine (ho _).mono ?_
  rintro e w2 ⟨rfl, b2⟩
  have b12 := b1.trans (b2.mono b1.size)
  have q1 : ∀ o, (w2.alloc o).cell? ⟨w.heap.size, 1, none⟩ = some (.int .i64 d) := own_cell2 b12 1 _ rfl
  have q2 : ∀ o, (w2.alloc o).cell? ⟨w.heap.size, 2, none⟩ = some (.int .i64 s) := own_cell2 b12 2 _ rfl
  have q3 : ∀ o, (w2.alloc o).cell? ⟨w.heap.size, 3, none⟩ = some (.int .i64 t) := own_cell2 b12 3 _ rfl
  have q4 : ∀ o, (w2.alloc o).cell? ⟨w.heap.size, 4, none⟩ = some (.int .i32 i) := own_cell2 b12 4 _ rfl
  have hb2 := fun o => (hb.trans (b2.mono hb.size)).alloc (Nat.le_trans hb.size b2.size) o
  go_wp2_with fail
  go_region
  go_wp2_with fail
  go_region_held3 (fun w' => w'.cell? ⟨w2.heap.size, 1, none⟩ = some (.int .u32 ((bitsN k : Int) % 128))) (go_keep) (first | (go_at_call 29; refine (piece_g _ hu _ _ _ (by decide) (by decide) (by decide) (by decide) _).mono ?_; rintro e w' ⟨rfl, rfl⟩))
  go_wp2_with fail
  go_ret2
  have hs := shape_ok h1 h2
  rw [hf] at hs
  simp [shapeOk] at hs
  obtain ⟨gd, gs, gt, -, -, -⟩ := okF_regs hok
  have gd := (regL_iff _ _).1 gd
  have gs := (regL_iff _ _).1 gs
  have gt := (regL_iff _ _).1 gt
  refine ⟨ret_ib ?_, ?_⟩
  · rw [← rE2 _ d s t i (by omega) hok _ rfl]
    clear hb2 q1 q2 q3 q4 b12 b2 b1 ho hq hb q0
    try simp only [show i % 4294967296 % 32 = i % 32 by omega, show d % 4294967296 * 128 % 4294967296 = d * 128 by omega, show s % 4294967296 * 32768 % 4294967296 = s * 32768 by omega, show t % 4294967296 * 1048576 % 4294967296 = t * 1048576 by omega, show (bitsN k : Int) / 4096 % 8 * 4096 % 4294967296 = (bitsN k : Int) / 4096 % 8 * 4096 by omega, show (bitsN k : Int) / 33554432 * 33554432 % 4294967296 = (bitsN k : Int) / 33554432 * 33554432 by omega]
    try rfl
  · first | exact (hb2 _).drew | exact (hb2 _).drew.drew | exact hb2 _
set_option maxRecDepth 10000 in
set_option maxHeartbeats 4000000 in
theorem rEnc3 (k : Nat) (h1 : 1 ≤ k) (h2 : k ≤ 47) (hf : formN k = 3) (d s t i : Int) (hi : -2147483648 ≤ i ∧ i ≤ 2147483647) (hok : okF 3 d s t i = true) (w : World) :
    Calls Tryd.prog 15 #[wordV k d s t i] w fun e w' => e = .returned (.tuple #[.int .u32 (encF 3 (bitsN k) d s t i), .bool true]) ∧ Below w.heap.size w w' := by
  have ho := fun w => of_any k h1 h2 w
  have hq := fun w => rIs3 k h1 h2 hf d s t i hi w
  unfold shapeV at ho
  rw [f3_val (by omega)] at ho
  rw [hf] at ho
  rw [hok] at hq
  have hu : 0 ≤ i % 4294967296 ∧ i % 4294967296 ≤ 4294967295 := by omega
  go_enter Tryd.func15, Tryd.ntmps15
  go_wp2_with fail
  refine (hq _).mono ?_
  rintro e w1 ⟨rfl, b1⟩
  have q0 := own_cell b1 0 _ rfl
  have hb := ((Below.refl w.heap.size w).alloc (Nat.le_refl _) _).trans (b1.mono (by simp))
  go_wp2_with fail
  refine (ho _).mono ?_
  rintro e w2 ⟨rfl, b2⟩
  have b12 := b1.trans (b2.mono b1.size)
  have q1 : ∀ o, (w2.alloc o).cell? ⟨w.heap.size, 1, none⟩ = some (.int .i64 d) := own_cell2 b12 1 _ rfl
  have q2 : ∀ o, (w2.alloc o).cell? ⟨w.heap.size, 2, none⟩ = some (.int .i64 s) := own_cell2 b12 2 _ rfl
  have q3 : ∀ o, (w2.alloc o).cell? ⟨w.heap.size, 3, none⟩ = some (.int .i64 t) := own_cell2 b12 3 _ rfl
  have q4 : ∀ o, (w2.alloc o).cell? ⟨w.heap.size, 4, none⟩ = some (.int .i32 i) := own_cell2 b12 4 _ rfl
  have hb2 := fun o => (hb.trans (b2.mono hb.size)).alloc (Nat.le_trans hb.size b2.size) o
  go_wp2_with fail
  go_region
  go_wp2_with fail
  go_ret2
  have hs := shape_ok h1 h2
  rw [hf] at hs
  simp [shapeOk] at hs
  obtain ⟨gd, gs, gt, -, -, -⟩ := okF_regs hok
  have gd := (regL_iff _ _).1 gd
  have gs := (regL_iff _ _).1 gs
  have gt := (regL_iff _ _).1 gt
  refine ⟨ret_ib ?_, ?_⟩
  · rw [← rE3 3 (.inl rfl) _ d s t i (by omega) hok]
    clear hb2 q1 q2 q3 q4 b12 b2 b1 ho hq hb q0
    try simp only [show i % 4294967296 % 32 = i % 32 by omega, show d % 4294967296 * 128 % 4294967296 = d * 128 by omega, show s % 4294967296 * 32768 % 4294967296 = s * 32768 by omega, show t % 4294967296 * 1048576 % 4294967296 = t * 1048576 by omega, show (bitsN k : Int) / 4096 % 8 * 4096 % 4294967296 = (bitsN k : Int) / 4096 % 8 * 4096 by omega, show (bitsN k : Int) / 33554432 * 33554432 % 4294967296 = (bitsN k : Int) / 33554432 * 33554432 by omega]
    try rfl
  · first | exact (hb2 _).drew | exact (hb2 _).drew.drew | exact hb2 _
set_option maxRecDepth 10000 in
set_option maxHeartbeats 4000000 in
theorem rEnc4 (k : Nat) (h1 : 1 ≤ k) (h2 : k ≤ 47) (hf : formN k = 4) (d s t i : Int) (hi : -2147483648 ≤ i ∧ i ≤ 2147483647) (hok : okF 4 d s t i = true) (w : World) :
    Calls Tryd.prog 15 #[wordV k d s t i] w fun e w' => e = .returned (.tuple #[.int .u32 (encF 4 (bitsN k) d s t i), .bool true]) ∧ Below w.heap.size w w' := by
  have ho := fun w => of_any k h1 h2 w
  have hq := fun w => rIs4 k h1 h2 hf d s t i hi w
  unfold shapeV at ho
  rw [f3_val (by omega)] at ho
  rw [hf] at ho
  rw [hok] at hq
  have hu : 0 ≤ i % 4294967296 ∧ i % 4294967296 ≤ 4294967295 := by omega
  go_enter Tryd.func15, Tryd.ntmps15
  go_wp2_with fail
  refine (hq _).mono ?_
  rintro e w1 ⟨rfl, b1⟩
  have q0 := own_cell b1 0 _ rfl
  have hb := ((Below.refl w.heap.size w).alloc (Nat.le_refl _) _).trans (b1.mono (by simp))
  go_wp2_with fail
  refine (ho _).mono ?_
  rintro e w2 ⟨rfl, b2⟩
  have b12 := b1.trans (b2.mono b1.size)
  have q1 : ∀ o, (w2.alloc o).cell? ⟨w.heap.size, 1, none⟩ = some (.int .i64 d) := own_cell2 b12 1 _ rfl
  have q2 : ∀ o, (w2.alloc o).cell? ⟨w.heap.size, 2, none⟩ = some (.int .i64 s) := own_cell2 b12 2 _ rfl
  have q3 : ∀ o, (w2.alloc o).cell? ⟨w.heap.size, 3, none⟩ = some (.int .i64 t) := own_cell2 b12 3 _ rfl
  have q4 : ∀ o, (w2.alloc o).cell? ⟨w.heap.size, 4, none⟩ = some (.int .i32 i) := own_cell2 b12 4 _ rfl
  have hb2 := fun o => (hb.trans (b2.mono hb.size)).alloc (Nat.le_trans hb.size b2.size) o
  go_wp2_with fail
  go_region
  go_wp2_with fail
  go_ret2
  have hs := shape_ok h1 h2
  rw [hf] at hs
  simp [shapeOk] at hs
  obtain ⟨gd, gs, gt, -, -, -⟩ := okF_regs hok
  have gd := (regL_iff _ _).1 gd
  have gs := (regL_iff _ _).1 gs
  have gt := (regL_iff _ _).1 gt
  refine ⟨ret_ib ?_, ?_⟩
  · rw [← rE3 4 (.inr rfl) _ d s t i (by omega) hok]
    clear hb2 q1 q2 q3 q4 b12 b2 b1 ho hq hb q0
    try simp only [show i % 4294967296 % 32 = i % 32 by omega, show d % 4294967296 * 128 % 4294967296 = d * 128 by omega, show s % 4294967296 * 32768 % 4294967296 = s * 32768 by omega, show t % 4294967296 * 1048576 % 4294967296 = t * 1048576 by omega, show (bitsN k : Int) / 4096 % 8 * 4096 % 4294967296 = (bitsN k : Int) / 4096 % 8 * 4096 by omega, show (bitsN k : Int) / 33554432 * 33554432 % 4294967296 = (bitsN k : Int) / 33554432 * 33554432 by omega]
    try rfl
  · first | exact (hb2 _).drew | exact (hb2 _).drew.drew | exact hb2 _
set_option maxRecDepth 10000 in
set_option maxHeartbeats 4000000 in
theorem rEnc5 (k : Nat) (h1 : 1 ≤ k) (h2 : k ≤ 47) (hf : formN k = 5) (d s t i : Int) (hi : -2147483648 ≤ i ∧ i ≤ 2147483647) (hok : okF 5 d s t i = true) (w : World) :
    Calls Tryd.prog 15 #[wordV k d s t i] w fun e w' => e = .returned (.tuple #[.int .u32 (encF 5 (bitsN k) d s t i), .bool true]) ∧ Below w.heap.size w w' := by
  have ho := fun w => of_any k h1 h2 w
  have hq := fun w => rIs5 k h1 h2 hf d s t i hi w
  unfold shapeV at ho
  rw [f3_val (by omega)] at ho
  rw [hf] at ho
  rw [hok] at hq
  have hu : 0 ≤ i % 4294967296 ∧ i % 4294967296 ≤ 4294967295 := by omega
  go_enter Tryd.func15, Tryd.ntmps15
  go_wp2_with fail
  refine (hq _).mono ?_
  rintro e w1 ⟨rfl, b1⟩
  have q0 := own_cell b1 0 _ rfl
  have hb := ((Below.refl w.heap.size w).alloc (Nat.le_refl _) _).trans (b1.mono (by simp))
  go_wp2_with fail
  refine (ho _).mono ?_
  rintro e w2 ⟨rfl, b2⟩
  have b12 := b1.trans (b2.mono b1.size)
  have q1 : ∀ o, (w2.alloc o).cell? ⟨w.heap.size, 1, none⟩ = some (.int .i64 d) := own_cell2 b12 1 _ rfl
  have q2 : ∀ o, (w2.alloc o).cell? ⟨w.heap.size, 2, none⟩ = some (.int .i64 s) := own_cell2 b12 2 _ rfl
  have q3 : ∀ o, (w2.alloc o).cell? ⟨w.heap.size, 3, none⟩ = some (.int .i64 t) := own_cell2 b12 3 _ rfl
  have q4 : ∀ o, (w2.alloc o).cell? ⟨w.heap.size, 4, none⟩ = some (.int .i32 i) := own_cell2 b12 4 _ rfl
  have hb2 := fun o => (hb.trans (b2.mono hb.size)).alloc (Nat.le_trans hb.size b2.size) o
  go_wp2_with fail
  go_region
  go_wp2_with (go_at_call 29; refine (piece_g _ hu _ _ _ (by decide) (by decide) (by decide) (by decide) _).mono ?_; rintro e w' ⟨rfl, rfl⟩)
  go_ret2
  have hs := shape_ok h1 h2
  rw [hf] at hs
  simp [shapeOk] at hs
  obtain ⟨gd, gs, gt, -, -, -⟩ := okF_regs hok
  have gd := (regL_iff _ _).1 gd
  have gs := (regL_iff _ _).1 gs
  have gt := (regL_iff _ _).1 gt
  refine ⟨ret_ib ?_, ?_⟩
  · rw [← rE5 _ d s t i (by omega) hok _ rfl]
    clear hb2 q1 q2 q3 q4 b12 b2 b1 ho hq hb q0
    try simp only [show i % 4294967296 % 32 = i % 32 by omega, show d % 4294967296 * 128 % 4294967296 = d * 128 by omega, show s % 4294967296 * 32768 % 4294967296 = s * 32768 by omega, show t % 4294967296 * 1048576 % 4294967296 = t * 1048576 by omega, show (bitsN k : Int) / 4096 % 8 * 4096 % 4294967296 = (bitsN k : Int) / 4096 % 8 * 4096 by omega, show (bitsN k : Int) / 33554432 * 33554432 % 4294967296 = (bitsN k : Int) / 33554432 * 33554432 by omega]
    try rfl
  · first | exact (hb2 _).drew | exact (hb2 _).drew.drew | exact hb2 _
set_option maxRecDepth 10000 in
set_option maxHeartbeats 4000000 in
theorem rEnc6 (k : Nat) (h1 : 1 ≤ k) (h2 : k ≤ 47) (hf : formN k = 6) (d s t i : Int) (hi : -2147483648 ≤ i ∧ i ≤ 2147483647) (hok : okF 6 d s t i = true) (w : World) :
    Calls Tryd.prog 15 #[wordV k d s t i] w fun e w' => e = .returned (.tuple #[.int .u32 (encF 6 (bitsN k) d s t i), .bool true]) ∧ Below w.heap.size w w' := by
  have ho := fun w => of_any k h1 h2 w
  have hq := fun w => rIs6 k h1 h2 hf d s t i hi w
  unfold shapeV at ho
  rw [f3_val (by omega)] at ho
  rw [hf] at ho
  rw [hok] at hq
  have hu : 0 ≤ i % 4294967296 ∧ i % 4294967296 ≤ 4294967295 := by omega
  go_enter Tryd.func15, Tryd.ntmps15
  go_wp2_with fail
  refine (hq _).mono ?_
  rintro e w1 ⟨rfl, b1⟩
  have q0 := own_cell b1 0 _ rfl
  have hb := ((Below.refl w.heap.size w).alloc (Nat.le_refl _) _).trans (b1.mono (by simp))
  go_wp2_with fail
  refine (ho _).mono ?_
  rintro e w2 ⟨rfl, b2⟩
  have b12 := b1.trans (b2.mono b1.size)
  have q1 : ∀ o, (w2.alloc o).cell? ⟨w.heap.size, 1, none⟩ = some (.int .i64 d) := own_cell2 b12 1 _ rfl
  have q2 : ∀ o, (w2.alloc o).cell? ⟨w.heap.size, 2, none⟩ = some (.int .i64 s) := own_cell2 b12 2 _ rfl
  have q3 : ∀ o, (w2.alloc o).cell? ⟨w.heap.size, 3, none⟩ = some (.int .i64 t) := own_cell2 b12 3 _ rfl
  have q4 : ∀ o, (w2.alloc o).cell? ⟨w.heap.size, 4, none⟩ = some (.int .i32 i) := own_cell2 b12 4 _ rfl
  have hb2 := fun o => (hb.trans (b2.mono hb.size)).alloc (Nat.le_trans hb.size b2.size) o
  go_wp2_with fail
  go_region
  go_wp2_with (go_at_call 29; refine (piece_g _ hu _ _ _ (by decide) (by decide) (by decide) (by decide) _).mono ?_; rintro e w' ⟨rfl, rfl⟩)
  go_ret2
  have hs := shape_ok h1 h2
  rw [hf] at hs
  simp [shapeOk] at hs
  obtain ⟨gd, gs, gt, -, -, -⟩ := okF_regs hok
  have gd := (regL_iff _ _).1 gd
  have gs := (regL_iff _ _).1 gs
  have gt := (regL_iff _ _).1 gt
  refine ⟨ret_ib ?_, ?_⟩
  · rw [← rE6 _ d s t i (by omega) hok _ rfl]
    clear hb2 q1 q2 q3 q4 b12 b2 b1 ho hq hb q0
    try simp only [show i % 4294967296 % 32 = i % 32 by omega, show d % 4294967296 * 128 % 4294967296 = d * 128 by omega, show s % 4294967296 * 32768 % 4294967296 = s * 32768 by omega, show t % 4294967296 * 1048576 % 4294967296 = t * 1048576 by omega, show (bitsN k : Int) / 4096 % 8 * 4096 % 4294967296 = (bitsN k : Int) / 4096 % 8 * 4096 by omega, show (bitsN k : Int) / 33554432 * 33554432 % 4294967296 = (bitsN k : Int) / 33554432 * 33554432 by omega]
    try rfl
  · first | exact (hb2 _).drew | exact (hb2 _).drew.drew | exact hb2 _
set_option maxRecDepth 10000 in
set_option maxHeartbeats 4000000 in
theorem rEnc7 (k : Nat) (h1 : 1 ≤ k) (h2 : k ≤ 47) (hf : formN k = 7) (d s t i : Int) (hi : -2147483648 ≤ i ∧ i ≤ 2147483647) (hok : okF 7 d s t i = true) (w : World) :
    Calls Tryd.prog 15 #[wordV k d s t i] w fun e w' => e = .returned (.tuple #[.int .u32 (encF 7 (bitsN k) d s t i), .bool true]) ∧ Below w.heap.size w w' := by
  have ho := fun w => of_any k h1 h2 w
  have hq := fun w => rIs7 k h1 h2 hf d s t i hi w
  unfold shapeV at ho
  rw [f3_val (by omega)] at ho
  rw [f7_val (by omega)] at ho
  rw [hf] at ho
  rw [hok] at hq
  have hu : 0 ≤ i % 4294967296 ∧ i % 4294967296 ≤ 4294967295 := by omega
  go_enter Tryd.func15, Tryd.ntmps15
  go_wp2_with fail
  refine (hq _).mono ?_
  rintro e w1 ⟨rfl, b1⟩
  have q0 := own_cell b1 0 _ rfl
  have hb := ((Below.refl w.heap.size w).alloc (Nat.le_refl _) _).trans (b1.mono (by simp))
  go_wp2_with fail
  refine (ho _).mono ?_
  rintro e w2 ⟨rfl, b2⟩
  have b12 := b1.trans (b2.mono b1.size)
  have q1 : ∀ o, (w2.alloc o).cell? ⟨w.heap.size, 1, none⟩ = some (.int .i64 d) := own_cell2 b12 1 _ rfl
  have q2 : ∀ o, (w2.alloc o).cell? ⟨w.heap.size, 2, none⟩ = some (.int .i64 s) := own_cell2 b12 2 _ rfl
  have q3 : ∀ o, (w2.alloc o).cell? ⟨w.heap.size, 3, none⟩ = some (.int .i64 t) := own_cell2 b12 3 _ rfl
  have q4 : ∀ o, (w2.alloc o).cell? ⟨w.heap.size, 4, none⟩ = some (.int .i32 i) := own_cell2 b12 4 _ rfl
  have hb2 := fun o => (hb.trans (b2.mono hb.size)).alloc (Nat.le_trans hb.size b2.size) o
  go_wp2_with fail
  go_region
  go_wp2_with fail
  go_ret2
  have hs := shape_ok h1 h2
  rw [hf] at hs
  simp [shapeOk] at hs
  obtain ⟨gd, gs, gt, -, -, -⟩ := okF_regs hok
  have gd := (regL_iff _ _).1 gd
  have gs := (regL_iff _ _).1 gs
  have gt := (regL_iff _ _).1 gt
  refine ⟨ret_ib ?_, ?_⟩
  · rw [← rE7 _ d s t i (by omega) (by omega) hok]
    clear hb2 q1 q2 q3 q4 b12 b2 b1 ho hq hb q0
    try simp only [show i % 4294967296 % 32 = i % 32 by omega, show d % 4294967296 * 128 % 4294967296 = d * 128 by omega, show s % 4294967296 * 32768 % 4294967296 = s * 32768 by omega, show t % 4294967296 * 1048576 % 4294967296 = t * 1048576 by omega, show (bitsN k : Int) / 4096 % 8 * 4096 % 4294967296 = (bitsN k : Int) / 4096 % 8 * 4096 by omega, show (bitsN k : Int) / 33554432 * 33554432 % 4294967296 = (bitsN k : Int) / 33554432 * 33554432 by omega]
    try rfl
  · first | exact (hb2 _).drew | exact (hb2 _).drew.drew | exact hb2 _
set_option maxRecDepth 10000 in
set_option maxHeartbeats 4000000 in
theorem rEnc8 (k : Nat) (h1 : 1 ≤ k) (h2 : k ≤ 47) (hf : formN k = 8) (d s t i : Int) (hi : -2147483648 ≤ i ∧ i ≤ 2147483647) (hok : okF 8 d s t i = true) (w : World) :
    Calls Tryd.prog 15 #[wordV k d s t i] w fun e w' => e = .returned (.tuple #[.int .u32 (encF 8 (bitsN k) d s t i), .bool true]) ∧ Below w.heap.size w w' := by
  have ho := fun w => of_any k h1 h2 w
  have hq := fun w => rIs8 k h1 h2 hf d s t i hi w
  unfold shapeV at ho
  rw [f3_val (by omega)] at ho
  rw [f7_val (by omega)] at ho
  rw [hf] at ho
  rw [hok] at hq
  have hu : 0 ≤ i % 4294967296 ∧ i % 4294967296 ≤ 4294967295 := by omega
  go_enter Tryd.func15, Tryd.ntmps15
  go_wp2_with fail
  refine (hq _).mono ?_
  rintro e w1 ⟨rfl, b1⟩
  have q0 := own_cell b1 0 _ rfl
  have hb := ((Below.refl w.heap.size w).alloc (Nat.le_refl _) _).trans (b1.mono (by simp))
  go_wp2_with fail
  refine (ho _).mono ?_
  rintro e w2 ⟨rfl, b2⟩
  have b12 := b1.trans (b2.mono b1.size)
  have q1 : ∀ o, (w2.alloc o).cell? ⟨w.heap.size, 1, none⟩ = some (.int .i64 d) := own_cell2 b12 1 _ rfl
  have q2 : ∀ o, (w2.alloc o).cell? ⟨w.heap.size, 2, none⟩ = some (.int .i64 s) := own_cell2 b12 2 _ rfl
  have q3 : ∀ o, (w2.alloc o).cell? ⟨w.heap.size, 3, none⟩ = some (.int .i64 t) := own_cell2 b12 3 _ rfl
  have q4 : ∀ o, (w2.alloc o).cell? ⟨w.heap.size, 4, none⟩ = some (.int .i32 i) := own_cell2 b12 4 _ rfl
  have hb2 := fun o => (hb.trans (b2.mono hb.size)).alloc (Nat.le_trans hb.size b2.size) o
  go_wp2_with fail
  go_region
  go_wp2_with fail
  go_ret2
  have hs := shape_ok h1 h2
  rw [hf] at hs
  simp [shapeOk] at hs
  obtain ⟨gd, gs, gt, -, -, -⟩ := okF_regs hok
  have gd := (regL_iff _ _).1 gd
  have gs := (regL_iff _ _).1 gs
  have gt := (regL_iff _ _).1 gt
  refine ⟨ret_ib ?_, ?_⟩
  · rw [← rE8 _ d s t i (by omega) (by omega) hok]
    clear hb2 q1 q2 q3 q4 b12 b2 b1 ho hq hb q0
    try simp only [show i % 4294967296 % 32 = i % 32 by omega, show d % 4294967296 * 128 % 4294967296 = d * 128 by omega, show s % 4294967296 * 32768 % 4294967296 = s * 32768 by omega, show t % 4294967296 * 1048576 % 4294967296 = t * 1048576 by omega, show (bitsN k : Int) / 4096 % 8 * 4096 % 4294967296 = (bitsN k : Int) / 4096 % 8 * 4096 by omega, show (bitsN k : Int) / 33554432 * 33554432 % 4294967296 = (bitsN k : Int) / 33554432 * 33554432 by omega]
    try rfl
  · first | exact (hb2 _).drew | exact (hb2 _).drew.drew | exact hb2 _
set_option maxRecDepth 10000 in
set_option maxHeartbeats 4000000 in
theorem rEnc9 (k : Nat) (h1 : 1 ≤ k) (h2 : k ≤ 47) (hf : formN k = 9) (d s t i : Int) (hi : -2147483648 ≤ i ∧ i ≤ 2147483647) (hok : okF 9 d s t i = true) (w : World) :
    Calls Tryd.prog 15 #[wordV k d s t i] w fun e w' => e = .returned (.tuple #[.int .u32 (encF 9 (bitsN k) d s t i), .bool true]) ∧ Below w.heap.size w w' := by
  have ho := fun w => of_any k h1 h2 w
  have hq := fun w => rIs9 k h1 h2 hf d s t i hi w
  unfold shapeV at ho
  rw [hf] at ho
  rw [hok] at hq
  go_enter Tryd.func15, Tryd.ntmps15
  go_wp2_with fail
  refine (hq _).mono ?_
  rintro e w1 ⟨rfl, b1⟩
  have q0 := own_cell b1 0 _ rfl
  have hb := ((Below.refl w.heap.size w).alloc (Nat.le_refl _) _).trans (b1.mono (by simp))
  go_wp2_with fail
  refine (ho _).mono ?_
  rintro e w2 ⟨rfl, b2⟩
  have b12 := b1.trans (b2.mono b1.size)
  have q1 : ∀ o, (w2.alloc o).cell? ⟨w.heap.size, 1, none⟩ = some (.int .i64 d) := own_cell2 b12 1 _ rfl
  have q2 : ∀ o, (w2.alloc o).cell? ⟨w.heap.size, 2, none⟩ = some (.int .i64 s) := own_cell2 b12 2 _ rfl
  have q3 : ∀ o, (w2.alloc o).cell? ⟨w.heap.size, 3, none⟩ = some (.int .i64 t) := own_cell2 b12 3 _ rfl
  have q4 : ∀ o, (w2.alloc o).cell? ⟨w.heap.size, 4, none⟩ = some (.int .i32 i) := own_cell2 b12 4 _ rfl
  have hb2 := fun o => (hb.trans (b2.mono hb.size)).alloc (Nat.le_trans hb.size b2.size) o
  go_wp2_with fail
  go_region
  go_wp2_with fail
  go_ret2
  refine ⟨ret_ib ?_, ?_⟩
  · obtain ⟨gd, gs, gt, g1, g2, -⟩ := okF_regs hok
    have e1 := reg_false gd
    have e2 := reg_false gs
    have e3 := reg_false gt
    have e4 : i = 0 := by
      have a : (0 : Int) ≤ i := g1
      have b : i ≤ 0 := g2
      omega
    subst e1 e2 e3 e4
    have hk : k = 46 ∨ k = 47 := by
      have h : ∀ j : Fin 48, formN j = 9 → j.val = 46 ∨ j.val = 47 := by decide +kernel
      exact h ⟨k, by omega⟩ hf
    rcases hk with rfl | rfl <;> rfl
  · first | exact (hb2 _).drew | exact (hb2 _).drew.drew | exact hb2 _
/-- Encode by the document's words. -/
theorem rEnc_any (op d s t i : Int) (hi : -2147483648 ≤ i ∧ i ≤ 2147483647) (w : World) :
    Calls Tryd.prog 15 #[wordV op d s t i] w fun e w' => e = .returned (.tuple #[.int .u32 (if isL op d s t i then encL op d s t i else 0), .bool (isL op d s t i)]) ∧ Below w.heap.size w w' := by
  cases hl : isL op d s t i with
  | false => exact rEnc_not op d s t i hi hl w
  | true =>
    have hl' := hl
    unfold isL at hl'
    simp only [Bool.and_eq_true, decide_eq_true_eq] at hl'
    obtain ⟨⟨g1, g2⟩, g3⟩ := hl'
    obtain ⟨k, rfl⟩ : ∃ k : Nat, op = k := ⟨op.toNat, by omega⟩
    unfold encL
    rw [Int.toNat_natCast] at g3 ⊢
    have h1 : 1 ≤ k := by omega
    have h2 : k ≤ 47 := by omega
    rw [if_pos rfl]
    rcases opCases h1 h2 with hf | hf | hf | hf | hf | hf | hf | hf | hf <;> rw [hf] at g3 ⊢
    · exact rEnc1 k h1 h2 hf d s t i hi g3 w
    · exact rEnc2 k h1 h2 hf d s t i hi g3 w
    · exact rEnc3 k h1 h2 hf d s t i hi g3 w
    · exact rEnc4 k h1 h2 hf d s t i hi g3 w
    · exact rEnc5 k h1 h2 hf d s t i hi g3 w
    · exact rEnc6 k h1 h2 hf d s t i hi g3 w
    · exact rEnc7 k h1 h2 hf d s t i hi g3 w
    · exact rEnc8 k h1 h2 hf d s t i hi g3 w
    · exact rEnc9 k h1 h2 hf d s t i hi g3 w
end Go.Proofs.YtbalnlodkiejcaaDoor
