/- operand: bytes of registers, numbers, nothing. -/
import Derived.Test.YtmlaancmacipoaaG6
import Derived.Test.YtmlaancmacipoaaS1
namespace Go.Proofs.Ytmlaancmacipoaa
open Go.RowKit
set_option linter.unusedVariables false
set_option linter.unusedSimpArgs false
set_option linter.unusedSectionVars false

theorem u32_and_low (x : Int) (hx : 0 ≤ x ∧ x ≤ 4294967295) : bits .and .u32 x 255 = x % 256 := by
  obtain ⟨X, rfl⟩ := Int.eq_ofNat_of_zero_le hx.1
  have := u32_and_nat X 255 (by omega) (by decide)
  rw [show (255 : Int) = ((255 : Nat) : Int) from rfl, this, show (255 : Nat) = 2 ^ 8 - 1 by decide, Nat.and_two_pow_sub_one_eq_mod]
  omega
theorem split_and (X m k : Nat) (hm : m < 2 ^ k) : X &&& (2 ^ k * (2 ^ (32 - k) - 1) + m) = X / 2 ^ k % 2 ^ (32 - k) * 2 ^ k + (X % 2 ^ k &&& m) := by
  apply Nat.eq_of_testBit_eq
  intro i
  rw [Nat.testBit_and, Nat.mul_comm (X / 2 ^ k % 2 ^ (32 - k)) (2 ^ k), Nat.testBit_two_pow_mul_add _ hm, Nat.testBit_two_pow_mul_add _ (Nat.lt_of_le_of_lt Nat.and_le_right hm)]
  by_cases h : i < k
  · simp [h, Nat.testBit_and, Nat.testBit_mod_two_pow]
  · simp [h, Nat.testBit_two_pow_sub_one, Nat.testBit_mod_two_pow, Nat.testBit_div_two_pow]
    rw [show i - k + k = i by omega, Bool.and_comm]
theorem andNot_low (x : Int) (hx : 0 ≤ x ∧ x ≤ 4294967295) : bits .andNot .u32 x 255 = x - x % 256 := by
  obtain ⟨X, rfl⟩ := Int.eq_ofNat_of_zero_le hx.1
  rw [show (255 : Int) = ((255 : Nat) : Int) from rfl, u32_andNot_nat X 255 (by omega) (by decide), show 4294967295 - 255 = 2 ^ 8 * (2 ^ (32 - 8) - 1) + 0 by decide, split_and X 0 8 (by decide), Nat.and_zero]
  omega
theorem or_low (x v : Int) (hx : 0 ≤ x ∧ x ≤ 4294967295) : bits .or .u32 (x - x % 256) (v % 256) = x - x % 256 + v % 256 := by
  obtain ⟨X, rfl⟩ := Int.eq_ofNat_of_zero_le hx.1
  obtain ⟨V, hV⟩ := Int.eq_ofNat_of_zero_le (show 0 ≤ v % 256 by omega)
  rw [hV, show (X : Int) - X % 256 = ((X / 256 * 2 ^ 8 : Nat) : Int) by omega, u32_or_nat' _ _ (by omega) (by omega), Nat.or_comm, or_add 8 (by omega)]
  omega
theorem Reg8_n (g : Gs) (h : g.ok) (j : Nat) (hj : j < 8) (w : World) : Calls Try.prog 65 #[stV g, .int .i64 (j : Int)] w fun e w' => e = .returned (.int .u32 (byteL (g.r (j % 4)) (j / 4))) ∧ Below w.heap.size w w' := by
  rcases (by omega : j = 0 ∨ j = 1 ∨ j = 2 ∨ j = 3 ∨ j = 4 ∨ j = 5 ∨ j = 6 ∨ j = 7) with rfl | rfl | rfl | rfl | rfl | rfl | rfl | rfl
  · exact Reg8_0 g h _ (by decide) (by decide) w
  · exact Reg8_1 g h _ (by decide) (by decide) w
  · exact Reg8_2 g h _ (by decide) (by decide) w
  · exact Reg8_3 g h _ (by decide) (by decide) w
  · exact Reg8_4 g h _ (by decide) (by decide) w
  · exact Reg8_5 g h _ (by decide) (by decide) w
  · exact Reg8_6 g h _ (by decide) (by decide) w
  · exact Reg8_7 g h _ (by decide) (by decide) w
def setb (g : Gs) (j : Nat) (v : Int) : Gs := setr g (j % 4) (setB (g.r (j % 4)) (j / 4) v)
theorem setb_ok {g : Gs} (h : g.ok) (j : Nat) (v : Int) : (setb g j v).ok := by
  refine ⟨fun k => ?_, h.pc, h.x⟩
  show 0 ≤ (if k = j % 4 then setB (g.r (j % 4)) (j / 4) v else g.r k) ∧ (if k = j % 4 then setB (g.r (j % 4)) (j / 4) v else g.r k) ≤ 4294967295
  split
  · exact setB_bd (h.r _) _
  · exact h.r _
theorem byte_setb (g : Gs) {j : Nat} (hj : j < 8) (v : Int) : byteL ((setb g j v).r (j % 4)) (j / 4) = v % 256 := by
  show byteL (if j % 4 = j % 4 then setB (g.r (j % 4)) (j / 4) v else g.r (j % 4)) (j / 4) = v % 256
  rw [if_pos rfl]
  unfold byteL setB
  split <;> omega
theorem SetReg8_n (g : Gs) (h : g.ok) (j : Nat) (hj : j < 8) (v : Int) (hv : 0 ≤ v ∧ v ≤ 4294967295) (w : World) : Calls Try.prog 64 #[stV g, .int .i64 (j : Int), .int .u32 v] w fun e w' => e = .returned (stV (setb g j v)) ∧ Below w.heap.size w w' := by
  rcases (by omega : j = 0 ∨ j = 1 ∨ j = 2 ∨ j = 3 ∨ j = 4 ∨ j = 5 ∨ j = 6 ∨ j = 7) with rfl | rfl | rfl | rfl | rfl | rfl | rfl | rfl
  · exact SetReg8_0 g h _ v (by decide) hv (by decide) w
  · exact SetReg8_1 g h _ v (by decide) hv (by decide) w
  · exact SetReg8_2 g h _ v (by decide) hv (by decide) w
  · exact SetReg8_3 g h _ v (by decide) hv (by decide) w
  · exact SetReg8_4 g h _ v (by decide) hv (by decide) w
  · exact SetReg8_5 g h _ v (by decide) hv (by decide) w
  · exact SetReg8_6 g h _ v (by decide) hv (by decide) w
  · exact SetReg8_7 g h _ v (by decide) hv (by decide) w
set_option maxRecDepth 20000 in
theorem readReg1 (g : Gs) (h : g.ok) (j : Nat) (hj : j < 8) (w : World) : Calls Try.prog 51 #[stV g, .int .i64 j, .int .i64 1] w fun e w' => e = .returned (.int .u32 (byteL (g.r (j % 4)) (j / 4))) ∧ Below w.heap.size w w' := by
  have b0 := (Below.refl w.heap.size w).alloc (Nat.le_refl _) (.cells (stA g) 44)
  have kS := Blk.new w 44 (stA g)
  have hR := Lib.hid (fun W => Reg8_n g h j hj W)
  have hn : ((j : Int) == -1) = false := by simp
  have hn2 : ((j : Int) = -1) = False := eq_false (by omega)
  generalize byteL (g.r (j % 4)) (j / 4) = v at *
  go_enter Try.func51, Try.ntmps51
  go_wp2_with (first | (with_reducible refine load_st rfl _ rfl w.heap.size (stA g) rfl kS rfl ?_) | ((with_reducible refine (hR.out _).mono ?_); rintro e w1 ⟨rfl, b1⟩))
  go_ret
  exact ⟨rfl, b0.trans (b1.mono b0.size)⟩
set_option maxRecDepth 20000 in
theorem read_reg1 (p : Value) (g : Gs) (h : g.ok) (o : On) (j : Nat) (hj : j < 8) (hk : o.k = 1) (hr : o.r = j) (w : World) : Calls Try.prog 37 #[p, stV g, opV o, .int .i64 1] w fun e w' => e = .returned (.int .u32 (byteL (g.r (j % 4)) (j / 4))) ∧ Below w.heap.size w w' := by
  obtain ⟨kS, kO, b0⟩ := stO w g o
  have c0 := kO.cell (i := 0) (v := .int .i64 o.k) rfl
  have c1 := kO.cell (i := 1) (v := .int .i64 o.r) rfl
  rw [hk] at c0
  rw [hr] at c1
  have hR := Lib.hid (fun W => readReg1 g h j hj W)
  generalize byteL (g.r (j % 4)) (j / 4) = v at *
  clear hr
  go_enter Try.func37, Try.ntmps37
  go_wp2_with (first | (with_reducible refine load_st rfl _ rfl w.heap.size (stA g) rfl kS rfl ?_) | ((with_reducible refine (hR.out _).mono ?_); rintro e w1 ⟨rfl, b1⟩))
  go_ret
  exact ⟨rfl, b0.trans (b1.mono b0.size)⟩
theorem field8 (x : Int) (h : 0 ≤ x ∧ x ≤ 4294967295) (w : World) : Calls Try.prog 52 #[.int .u32 x, .int .i64 0, .int .i64 8] w fun e w' => e = .returned (.int .u32 (x % 256)) ∧ w = w' := by
  have q := field_any x 0 8 h (by decide) w
  have e : fieldS x 0 8 = x % 256 := by
    show mov x 0 % 2 ^ held0 8 = x % 256
    rw [show held0 8 = 8 from rfl, show mov x 0 = x by simp [mov]]
    rfl
  rw [e] at q
  exact q
set_option maxRecDepth 20000 in
theorem read_imm1 (p : Value) (g : Gs) (o : On) (hm : 0 ≤ o.m ∧ o.m ≤ 4294967295) (hk : o.k = 2) (w : World) : Calls Try.prog 37 #[p, stV g, opV o, .int .i64 1] w fun e w' => e = .returned (.int .u32 (o.m % 256)) ∧ Below w.heap.size w w' := by
  obtain ⟨kS, kO, b0⟩ := stO w g o
  have c0 := kO.cell (i := 0) (v := .int .i64 o.k) rfl
  have c2 := kO.cell (i := 2) (v := .int .u32 o.m) rfl
  rw [hk] at c0
  have hR := Lib.hid (fun W => field8 o.m hm W)
  go_enter Try.func37, Try.ntmps37
  go_wp2_with (first | (with_reducible refine load_st rfl _ rfl w.heap.size (stA g) rfl kS rfl ?_) | ((with_reducible refine (hR.out _).mono ?_); rintro e w1 ⟨rfl, rfl⟩))
  go_ret
  exact ⟨rfl, b0⟩
set_option maxRecDepth 20000 in
theorem withReg1 (g : Gs) (h : g.ok) (j : Nat) (hj : j < 8) (v : Int) (hv : 0 ≤ v ∧ v ≤ 4294967295) (w : World) : Calls Try.prog 50 #[stV g, .int .i64 j, .int .i64 1, .int .u32 v] w fun e w' => e = .returned (stV (setb g j v)) ∧ Below w.heap.size w w' := by
  have b0 := ((Below.refl w.heap.size w).alloc (Nat.le_refl _) (.cells (stA g) 44)).alloc (by simp) (.cells z17 44)
  have kS := (Blk.new w 44 (stA g)).alloc (.cells z17 44)
  have kZ := Blk.new (w.alloc (.cells (stA g) 44)) 44 z17
  rw [World.size_alloc] at kZ
  have hn : ((j : Int) == -1) = false := by simp
  have hn2 : ((j : Int) = -1) = False := eq_false (by omega)
  have hR := Lib.hid (fun W => SetReg8_n g h j hj v hv W)
  have hs := kZ.lt
  generalize setb g j v = G at *
  go_enter Try.func50, Try.ntmps50
  go_wp2_with (first | (with_reducible refine load_st rfl _ rfl w.heap.size (stA g) rfl kS rfl ?_) | ((with_reducible refine (hR.out _).mono ?_); rintro e w1 ⟨rfl, b1⟩; have kZ1 := kZ.below b1 kZ.lt; have b01 := b0.trans (b1.mono b0.size)) | ((with_reducible refine store_st rfl _ _ rfl (w.heap.size + 1) (stA G) z17 rfl rfl kZ1 rfl rfl (stA_all _) ?_); intro w3 kR k3 s3))
  have b3 := ((But.of b01 [w.heap.size + 1]).trans (k3.mono b01.size (fun k hk => .inl hk))).below (Nat.le_refl _) (by simp)
  exact bodyPost_ret (v := stV G) (results_cell_row rfl _ _ (w.heap.size + 1) 44 (stA G) (0, 0) _ rfl kR.h Try.underlying44 rfl szS) rfl ⟨rfl, b3⟩
set_option maxRecDepth 20000 in
theorem written_reg1 (p : Value) (g : Gs) (h : g.ok) (o : On) (j : Nat) (hj : j < 8) (hk : o.k = 1) (hr : o.r = j) (v : Int) (hv : 0 ≤ v ∧ v ≤ 4294967295) (w : World) : Calls Try.prog 34 #[p, stV g, opV o, .int .i64 1, .int .u32 v] w fun e w' => e = .returned (stV (setb g j v)) ∧ Below w.heap.size w w' := by
  obtain ⟨kS, kO, b0⟩ := stO w g o
  have kZ := Blk.new ((w.alloc (.cells (stA g) 44)).alloc (.cells (op6 o) 47)) 44 z17
  replace kS := kS.alloc (.cells z17 44)
  replace kO := kO.alloc (.cells z17 44)
  replace b0 := b0.alloc (by simp; omega) (.cells z17 44)
  simp only [World.size_alloc] at kZ
  have c0 := kO.cell (i := 0) (v := .int .i64 o.k) rfl
  have c1 := kO.cell (i := 1) (v := .int .i64 o.r) rfl
  rw [hk] at c0
  rw [hr] at c1
  have hW := Lib.hid (fun W => withReg1 g h j hj v hv W)
  have hs := kZ.lt
  clear hr
  generalize setb g j v = G at *
  go_enter Try.func34, Try.ntmps34
  go_wp2_with (first | (with_reducible refine load_st rfl _ rfl w.heap.size (stA g) rfl kS rfl ?_) | ((with_reducible refine (hW.out _).mono ?_); rintro e w1 ⟨rfl, b1⟩; have kZ1 := kZ.below b1 kZ.lt; have b01 := b0.trans (b1.mono b0.size)) | ((with_reducible refine store_st rfl _ _ rfl (w.heap.size + 1 + 1) (stA G) z17 rfl rfl kZ1 rfl rfl (stA_all _) ?_); intro w3 kR k3 s3))
  have b3 := ((But.of b01 [w.heap.size + 1 + 1]).trans (k3.mono b01.size (fun k hk => .inl hk))).below (Nat.le_refl _) (by simp; omega)
  exact bodyPost_ret (v := stV G) (results_cell_row rfl _ _ (w.heap.size + 1 + 1) 44 (stA G) (0, 0) _ rfl kR.h Try.underlying44 rfl szS) rfl ⟨rfl, b3⟩
theorem Read_reg1 {B : Nat} {m : Mm} {w : World} (hm : PAt w B m) (g : Gs) (h : g.ok) (o : On) (j : Nat) (hj : j < 8) (hk : o.k = 1) (hr : o.r = j) :
    Calls Try.prog 16 #[mp B, stV g, opV o, .int .i64 1] w fun e w' => e = .returned (.tuple #[.int .u32 (byteL (g.r (j % 4)) (j / 4)), fltV 0 0 0 0, .bool true]) ∧ Below w.heap.size w w' :=
  oRead_yes hm g o 1 _ (fun W hW => by rw [show numO 1 = 1 from rfl]; exact read_reg1 (mp B) g h o j hj hk hr W)
theorem Read_imm1 {B : Nat} {m : Mm} {w : World} (hm : PAt w B m) (g : Gs) (o : On) (ho : 0 ≤ o.m ∧ o.m ≤ 4294967295) (hk : o.k = 2) :
    Calls Try.prog 16 #[mp B, stV g, opV o, .int .i64 1] w fun e w' => e = .returned (.tuple #[.int .u32 (o.m % 256), fltV 0 0 0 0, .bool true]) ∧ Below w.heap.size w w' :=
  oRead_yes hm g o 1 _ (fun W hW => by rw [show numO 1 = 1 from rfl]; exact read_imm1 (mp B) g o ho hk W)
theorem Read_none {B : Nat} {m : Mm} {w : World} (hm : PAt w B m) (g : Gs) (o : On) (n : Int) (hk : o.k = 0) :
    Calls Try.prog 16 #[mp B, stV g, opV o, .int .i64 n] w fun e w' => e = .returned (.tuple #[.int .u32 0, fltV 0 0 0 0, .bool true]) ∧ Below w.heap.size w w' :=
  oRead_yes hm g o n _ (fun W hW => read_none (mp B) g o (numO n) hk W)
theorem Write_reg1 {B : Nat} {m : Mm} {w : World} (hm : PAt w B m) (g : Gs) (h : g.ok) (o : On) (v : Int) (hv : 0 ≤ v ∧ v ≤ 4294967295) (j : Nat) (hj : j < 8) (hk : o.k = 1) (hr : o.r = j) :
    Calls Try.prog 15 #[mp B, stV g, opV o, .int .i64 1, .int .u32 v] w fun e w' => e = .returned (.tuple #[stV (setb g j v), fltV 0 0 0 0, .bool true]) ∧ PAt w' B m ∧ But [B] w.heap.size w w' :=
  oWrite_yes hm g o 1 v (setb g j v) m (fun W hW => by rw [show numO 1 = 1 from rfl]; exact (written_reg1 (mp B) g h o j hj hk hr v hv W).mono fun e w' hh => ⟨hh.1, hW.below hh.2 hW.lt, But.of hh.2 _⟩)
end Go.Proofs.Ytmlaancmacipoaa
