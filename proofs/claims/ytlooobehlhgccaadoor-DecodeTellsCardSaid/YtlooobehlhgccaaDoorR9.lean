/- The reference: an instruction. -/
import Derived.Test.YtlooobehlhgccaaDoorR6
namespace Go.Proofs.YtlooobehlhgccaaDoor
open Go.RowKit
set_option linter.unusedVariables false
set_option linter.unusedSimpArgs false
set_option linter.unusedSectionVars false

theorem ix_gr8 (n : Int) (h : 0 ≤ n ∧ n < 8) (W : World) : (Instr.index 40 (.agg gA) (.int .u8 n)).run Tryd.prog W = .ok (.int .i64 (3 + n)) W := by
  rcases (by omega : n = 0 ∨ n = 1 ∨ n = 2 ∨ n = 3 ∨ n = 4 ∨ n = 5 ∨ n = 6 ∨ n = 7) with rfl | rfl | rfl | rfl | rfl | rfl | rfl | rfl <;> kernel_rfl
section
variable {w : World} {N B : Nat} {a : Option Addr} {len cap : Nat} {zs : List Int} {p : Nat} {sh bd : Bool}
theorem byte_first (R : Rs w N B a len cap zs 0 false false) (h : 1 ≤ len) :
    Calls Tryd.prog 19 #[rp B] w fun e w' => e = .returned (.int .u8 (zs.getD 0 0)) ∧ Rs w' N B a len cap zs 1 false false ∧ But [B] w.heap.size w w' := byte_yes R (by omega)
set_option maxRecDepth 100000 in
theorem insn_short (R : Rs w N B a len cap zs 0 false false) (h : ¬ 1 ≤ len) :
    Calls Tryd.prog 15 #[rp B] w fun e w' => e = .returned (.tuple #[inV inZ, .bool (false)]) ∧ Rs w' N B a len cap zs (0) (true) (false) ∧ But [B] w.heap.size w w' := by
  have hB := R.lt
  have F := RF.start R 28 z16
  have hX := Lib.hid (fun W (R : Rs W N B a len cap zs 0 false false) => byte_no R (by omega))
  go_enter Tryd.func15, Tryd.ntmps15
  go_upto_region 1 with fail
  generalize w.alloc (.cells z16 28) = w1 at *
  go_wp2_with (first | ((with_reducible refine (hX.out _ F.r).mono ?_); rintro e w2 ⟨rfl, R2, k2⟩; have F2 := F.read R2 k2; have c2 := R2.c2) | ((with_reducible refine store_inR rfl _ _ rfl _ (in16 inZ) z16 rfl rfl F2.z (in16_size _) z16_size (in16_one _) ?_); intro wz kz bz hz; have FZ := F2.done kz bz))
  exact bodyPost_ret (v := .tuple #[inV inZ, .bool (false)]) (results_ct rfl _ _ w.heap.size 28 (in16 inZ) (0, 0) _ _ rfl rfl FZ.z.h Tryd.underlying28 rfl (szIn inZ)) rfl ⟨rfl, FZ.r, FZ.k⟩
set_option maxRecDepth 100000 in
theorem insn_g1 (R : Rs w N B a len cap zs 0 false false) (hl : 1 ≤ len) (h : zs.getD 0 0 < 64) (hk : zs.getD 0 0 % 8 = 1) :
    Calls Tryd.prog 15 #[rp B] w fun e w' => e = .returned (.tuple #[inV ⟨3 + zs.getD 0 0 / 8, 0, mO zs 1 false, onReg (mN zs 1), false, 0⟩, .bool (false)]) ∧ Rs w' N B a len cap zs (mP zs 1 false) (mS zs 1 false) (false) ∧ But [B] w.heap.size w w' := by
  have hB := R.lt
  have F := RF.start R 28 z16
  have hX := Lib.hid (fun W (R : Rs W N B a len cap zs 0 false false) => byte_first R hl)
  have hb := byte_bd R 0
  have q0 : (zs.getD 0 0 < 64) = True := eq_true h
  have e7 := and7u6 hb
  have w7 : wrap64 (zs.getD 0 0 % 8) = zs.getD 0 0 % 8 := w64 (by omega)
  rw [hk] at e7 w7
  have i1 := ix_gr8 (zs.getD 0 0 / 8) (by omega)
  have hG := Lib.hid groups_ref
  have hY := Lib.hid (fun W (R : Rs W N B a len cap zs 1 false false) => group1 R (3 + zs.getD 0 0 / 8))
  generalize mO zs 1 false = o at *
  generalize mN zs 1 = n at *
  generalize mP zs 1 false = q at *
  generalize mS zs 1 false = s at *
  clear hk
  generalize hd8 : zs.getD 0 0 / 8 = d at *
  generalize zs.getD 0 0 = c at *
  go_enter Tryd.func15, Tryd.ntmps15
  go_upto_region 1 with fail
  generalize w.alloc (.cells z16 28) = w1 at *
  go_wp2_with (first | ((with_reducible refine (hX.out _ F.r).mono ?_); rintro e w2 ⟨rfl, R2, k2⟩; have F2 := F.read R2 k2; have c2 := R2.c2) | ((with_reducible refine (hG.out _).mono ?_); rintro e w3 ⟨rfl, b3⟩; have F3 := F2.below b3) | ((with_reducible refine (hY.out _ F3.r).mono ?_); rintro e w4 ⟨rfl, R4, k4⟩; have F4 := F3.read R4 k4) | ((with_reducible refine store_inR rfl _ _ rfl _ (in16 ⟨3 + d, 0, o, onReg n, false, 0⟩) z16 rfl rfl F4.z (in16_size _) z16_size (in16_one _) ?_); intro wz kz bz hz; have FZ := F4.done kz bz))
  exact bodyPost_ret (v := .tuple #[inV ⟨3 + d, 0, o, onReg n, false, 0⟩, .bool (false)]) (results_ct rfl _ _ w.heap.size 28 (in16 ⟨3 + d, 0, o, onReg n, false, 0⟩) (0, 0) _ _ rfl rfl FZ.z.h Tryd.underlying28 rfl (szIn inZ)) rfl ⟨rfl, FZ.r, FZ.k⟩
set_option maxRecDepth 100000 in
theorem insn_g3 (R : Rs w N B a len cap zs 0 false false) (hl : 1 ≤ len) (h : zs.getD 0 0 < 64) (hk : zs.getD 0 0 % 8 = 3) :
    Calls Tryd.prog 15 #[rp B] w fun e w' => e = .returned (.tuple #[inV ⟨3 + zs.getD 0 0 / 8, 0, onReg (mN zs 1), mO zs 1 false, false, 0⟩, .bool (false)]) ∧ Rs w' N B a len cap zs (mP zs 1 false) (mS zs 1 false) (false) ∧ But [B] w.heap.size w w' := by
  have hB := R.lt
  have F := RF.start R 28 z16
  have hX := Lib.hid (fun W (R : Rs W N B a len cap zs 0 false false) => byte_first R hl)
  have hb := byte_bd R 0
  have q0 : (zs.getD 0 0 < 64) = True := eq_true h
  have e7 := and7u6 hb
  have w7 : wrap64 (zs.getD 0 0 % 8) = zs.getD 0 0 % 8 := w64 (by omega)
  rw [hk] at e7 w7
  have i1 := ix_gr8 (zs.getD 0 0 / 8) (by omega)
  have hG := Lib.hid groups_ref
  have hY := Lib.hid (fun W (R : Rs W N B a len cap zs 1 false false) => group3 R (3 + zs.getD 0 0 / 8))
  generalize mO zs 1 false = o at *
  generalize mN zs 1 = n at *
  generalize mP zs 1 false = q at *
  generalize mS zs 1 false = s at *
  clear hk
  generalize hd8 : zs.getD 0 0 / 8 = d at *
  generalize zs.getD 0 0 = c at *
  go_enter Tryd.func15, Tryd.ntmps15
  go_upto_region 1 with fail
  generalize w.alloc (.cells z16 28) = w1 at *
  go_wp2_with (first | ((with_reducible refine (hX.out _ F.r).mono ?_); rintro e w2 ⟨rfl, R2, k2⟩; have F2 := F.read R2 k2; have c2 := R2.c2) | ((with_reducible refine (hG.out _).mono ?_); rintro e w3 ⟨rfl, b3⟩; have F3 := F2.below b3) | ((with_reducible refine (hY.out _ F3.r).mono ?_); rintro e w4 ⟨rfl, R4, k4⟩; have F4 := F3.read R4 k4) | ((with_reducible refine store_inR rfl _ _ rfl _ (in16 ⟨3 + d, 0, onReg n, o, false, 0⟩) z16 rfl rfl F4.z (in16_size _) z16_size (in16_one _) ?_); intro wz kz bz hz; have FZ := F4.done kz bz))
  exact bodyPost_ret (v := .tuple #[inV ⟨3 + d, 0, onReg n, o, false, 0⟩, .bool (false)]) (results_ct rfl _ _ w.heap.size 28 (in16 ⟨3 + d, 0, onReg n, o, false, 0⟩) (0, 0) _ _ rfl rfl FZ.z.h Tryd.underlying28 rfl (szIn inZ)) rfl ⟨rfl, FZ.r, FZ.k⟩
set_option maxRecDepth 100000 in
theorem insn_g5 (R : Rs w N B a len cap zs 0 false false) (hl : 1 ≤ len) (h : zs.getD 0 0 < 64) (hk : zs.getD 0 0 % 8 = 5) :
    Calls Tryd.prog 15 #[rp B] w fun e w' => e = .returned (.tuple #[inV ⟨3 + zs.getD 0 0 / 8, 0, onReg 0, onImm (le4 zs 1), false, 0⟩, .bool (false)]) ∧ Rs w' N B a len cap zs (nx zs 1 4) (so zs 1 4 false) (false) ∧ But [B] w.heap.size w w' := by
  have hB := R.lt
  have F := RF.start R 28 z16
  have hX := Lib.hid (fun W (R : Rs W N B a len cap zs 0 false false) => byte_first R hl)
  have hb := byte_bd R 0
  have q0 : (zs.getD 0 0 < 64) = True := eq_true h
  have e7 := and7u6 hb
  have w7 : wrap64 (zs.getD 0 0 % 8) = zs.getD 0 0 % 8 := w64 (by omega)
  rw [hk] at e7 w7
  have i1 := ix_gr8 (zs.getD 0 0 / 8) (by omega)
  have hG := Lib.hid groups_ref
  have hY := Lib.hid (fun W (R : Rs W N B a len cap zs 1 false false) => group5 R (3 + zs.getD 0 0 / 8))
  generalize le4 zs 1 = v at *
  generalize nx zs 1 4 = q at *
  generalize so zs 1 4 false = s at *
  clear hk
  generalize hd8 : zs.getD 0 0 / 8 = d at *
  generalize zs.getD 0 0 = c at *
  go_enter Tryd.func15, Tryd.ntmps15
  go_upto_region 1 with fail
  generalize w.alloc (.cells z16 28) = w1 at *
  go_wp2_with (first | ((with_reducible refine (hX.out _ F.r).mono ?_); rintro e w2 ⟨rfl, R2, k2⟩; have F2 := F.read R2 k2; have c2 := R2.c2) | ((with_reducible refine (hG.out _).mono ?_); rintro e w3 ⟨rfl, b3⟩; have F3 := F2.below b3) | ((with_reducible refine (hY.out _ F3.r).mono ?_); rintro e w4 ⟨rfl, R4, k4⟩; have F4 := F3.read R4 k4) | ((with_reducible refine store_inR rfl _ _ rfl _ (in16 ⟨3 + d, 0, onReg 0, onImm v, false, 0⟩) z16 rfl rfl F4.z (in16_size _) z16_size (in16_one _) ?_); intro wz kz bz hz; have FZ := F4.done kz bz))
  exact bodyPost_ret (v := .tuple #[inV ⟨3 + d, 0, onReg 0, onImm v, false, 0⟩, .bool (false)]) (results_ct rfl _ _ w.heap.size 28 (in16 ⟨3 + d, 0, onReg 0, onImm v, false, 0⟩) (0, 0) _ _ rfl rfl FZ.z.h Tryd.underlying28 rfl (szIn inZ)) rfl ⟨rfl, FZ.r, FZ.k⟩
set_option maxRecDepth 100000 in
theorem insn_r0 (R : Rs w N B a len cap zs 0 false false) (hl : 1 ≤ len) (h : 64 ≤ zs.getD 0 0 ∧ zs.getD 0 0 < 72) :
    Calls Tryd.prog 15 #[rp B] w fun e w' => e = .returned (.tuple #[inV ⟨12, 0, onReg (zs.getD 0 0 % 8), onZ, false, 0⟩, .bool (false)]) ∧ Rs w' N B a len cap zs (1) (false) (false) ∧ But [B] w.heap.size w w' := by
  have hB := R.lt
  have F := RF.start R 28 z16
  have hX := Lib.hid (fun W (R : Rs W N B a len cap zs 0 false false) => byte_first R hl)
  have hb := byte_bd R 0
  have q0 : (zs.getD 0 0 < 64) = False := eq_false (by omega)
  have q1 : ((64 : Int) ≤ zs.getD 0 0) = True := eq_true (by omega)
  have q2 : (zs.getD 0 0 < 72) = True := eq_true (by omega)
  have q3 : ((72 : Int) ≤ zs.getD 0 0) = False := eq_false (by omega)
  have q4 : (zs.getD 0 0 < 80) = True := eq_true (by omega)
  have q5 : ((80 : Int) ≤ zs.getD 0 0) = False := eq_false (by omega)
  have q6 : (zs.getD 0 0 < 88) = True := eq_true (by omega)
  have q7 : ((88 : Int) ≤ zs.getD 0 0) = False := eq_false (by omega)
  have q8 : (zs.getD 0 0 < 96) = True := eq_true (by omega)
  have q9 : ((112 : Int) ≤ zs.getD 0 0) = False := eq_false (by omega)
  have q10 : (zs.getD 0 0 < 128) = True := eq_true (by omega)
  have q11 : ((176 : Int) ≤ zs.getD 0 0) = False := eq_false (by omega)
  have q12 : (zs.getD 0 0 < 184) = True := eq_true (by omega)
  have q13 : ((184 : Int) ≤ zs.getD 0 0) = False := eq_false (by omega)
  have q14 : (zs.getD 0 0 < 192) = True := eq_true (by omega)
  have e7 := and7u6 hb
  have w7 : wrap64 (zs.getD 0 0 % 8) = zs.getD 0 0 % 8 := w64 (by omega)
  have hR := Lib.hid (fun W => reg_any (zs.getD 0 0 % 8) W)
  clear h
  generalize zs.getD 0 0 % 8 = r at *
  generalize zs.getD 0 0 = c at *
  go_enter Tryd.func15, Tryd.ntmps15
  go_upto_region 1 with fail
  generalize w.alloc (.cells z16 28) = w1 at *
  go_wp2_with (first | ((with_reducible refine (hX.out _ F.r).mono ?_); rintro e w2 ⟨rfl, R2, k2⟩; have F2 := F.read R2 k2; have c2 := R2.c2) | ((with_reducible refine (hR.out _).mono ?_); rintro e w3 ⟨rfl, b3⟩; have F3 := F2.below b3) | ((with_reducible refine store_inR rfl _ _ rfl _ (in16 ⟨12, 0, onReg r, onZ, false, 0⟩) z16 rfl rfl F3.z (in16_size _) z16_size (in16_one _) ?_); intro wz kz bz hz; have FZ := F3.done kz bz))
  exact bodyPost_ret (v := .tuple #[inV ⟨12, 0, onReg r, onZ, false, 0⟩, .bool (false)]) (results_ct rfl _ _ w.heap.size 28 (in16 ⟨12, 0, onReg r, onZ, false, 0⟩) (0, 0) _ _ rfl rfl FZ.z.h Tryd.underlying28 rfl (szIn inZ)) rfl ⟨rfl, FZ.r, FZ.k⟩
set_option maxRecDepth 100000 in
theorem insn_r1 (R : Rs w N B a len cap zs 0 false false) (hl : 1 ≤ len) (h : 72 ≤ zs.getD 0 0 ∧ zs.getD 0 0 < 80) :
    Calls Tryd.prog 15 #[rp B] w fun e w' => e = .returned (.tuple #[inV ⟨13, 0, onReg (zs.getD 0 0 % 8), onZ, false, 0⟩, .bool (false)]) ∧ Rs w' N B a len cap zs (1) (false) (false) ∧ But [B] w.heap.size w w' := by
  have hB := R.lt
  have F := RF.start R 28 z16
  have hX := Lib.hid (fun W (R : Rs W N B a len cap zs 0 false false) => byte_first R hl)
  have hb := byte_bd R 0
  have q0 : (zs.getD 0 0 < 64) = False := eq_false (by omega)
  have q1 : ((64 : Int) ≤ zs.getD 0 0) = True := eq_true (by omega)
  have q2 : (zs.getD 0 0 < 72) = False := eq_false (by omega)
  have q3 : ((72 : Int) ≤ zs.getD 0 0) = True := eq_true (by omega)
  have q4 : (zs.getD 0 0 < 80) = True := eq_true (by omega)
  have q5 : ((80 : Int) ≤ zs.getD 0 0) = False := eq_false (by omega)
  have q6 : (zs.getD 0 0 < 88) = True := eq_true (by omega)
  have q7 : ((88 : Int) ≤ zs.getD 0 0) = False := eq_false (by omega)
  have q8 : (zs.getD 0 0 < 96) = True := eq_true (by omega)
  have q9 : ((112 : Int) ≤ zs.getD 0 0) = False := eq_false (by omega)
  have q10 : (zs.getD 0 0 < 128) = True := eq_true (by omega)
  have q11 : ((176 : Int) ≤ zs.getD 0 0) = False := eq_false (by omega)
  have q12 : (zs.getD 0 0 < 184) = True := eq_true (by omega)
  have q13 : ((184 : Int) ≤ zs.getD 0 0) = False := eq_false (by omega)
  have q14 : (zs.getD 0 0 < 192) = True := eq_true (by omega)
  have e7 := and7u6 hb
  have w7 : wrap64 (zs.getD 0 0 % 8) = zs.getD 0 0 % 8 := w64 (by omega)
  have hR := Lib.hid (fun W => reg_any (zs.getD 0 0 % 8) W)
  clear h
  generalize zs.getD 0 0 % 8 = r at *
  generalize zs.getD 0 0 = c at *
  go_enter Tryd.func15, Tryd.ntmps15
  go_upto_region 1 with fail
  generalize w.alloc (.cells z16 28) = w1 at *
  go_wp2_with (first | ((with_reducible refine (hX.out _ F.r).mono ?_); rintro e w2 ⟨rfl, R2, k2⟩; have F2 := F.read R2 k2; have c2 := R2.c2) | ((with_reducible refine (hR.out _).mono ?_); rintro e w3 ⟨rfl, b3⟩; have F3 := F2.below b3) | ((with_reducible refine store_inR rfl _ _ rfl _ (in16 ⟨13, 0, onReg r, onZ, false, 0⟩) z16 rfl rfl F3.z (in16_size _) z16_size (in16_one _) ?_); intro wz kz bz hz; have FZ := F3.done kz bz))
  exact bodyPost_ret (v := .tuple #[inV ⟨13, 0, onReg r, onZ, false, 0⟩, .bool (false)]) (results_ct rfl _ _ w.heap.size 28 (in16 ⟨13, 0, onReg r, onZ, false, 0⟩) (0, 0) _ _ rfl rfl FZ.z.h Tryd.underlying28 rfl (szIn inZ)) rfl ⟨rfl, FZ.r, FZ.k⟩
set_option maxRecDepth 100000 in
theorem insn_r2 (R : Rs w N B a len cap zs 0 false false) (hl : 1 ≤ len) (h : 80 ≤ zs.getD 0 0 ∧ zs.getD 0 0 < 88) :
    Calls Tryd.prog 15 #[rp B] w fun e w' => e = .returned (.tuple #[inV ⟨28, 0, onReg (zs.getD 0 0 % 8), onZ, false, 0⟩, .bool (false)]) ∧ Rs w' N B a len cap zs (1) (false) (false) ∧ But [B] w.heap.size w w' := by
  have hB := R.lt
  have F := RF.start R 28 z16
  have hX := Lib.hid (fun W (R : Rs W N B a len cap zs 0 false false) => byte_first R hl)
  have hb := byte_bd R 0
  have q0 : (zs.getD 0 0 < 64) = False := eq_false (by omega)
  have q1 : ((64 : Int) ≤ zs.getD 0 0) = True := eq_true (by omega)
  have q2 : (zs.getD 0 0 < 72) = False := eq_false (by omega)
  have q3 : ((72 : Int) ≤ zs.getD 0 0) = True := eq_true (by omega)
  have q4 : (zs.getD 0 0 < 80) = False := eq_false (by omega)
  have q5 : ((80 : Int) ≤ zs.getD 0 0) = True := eq_true (by omega)
  have q6 : (zs.getD 0 0 < 88) = True := eq_true (by omega)
  have q7 : ((88 : Int) ≤ zs.getD 0 0) = False := eq_false (by omega)
  have q8 : (zs.getD 0 0 < 96) = True := eq_true (by omega)
  have q9 : ((112 : Int) ≤ zs.getD 0 0) = False := eq_false (by omega)
  have q10 : (zs.getD 0 0 < 128) = True := eq_true (by omega)
  have q11 : ((176 : Int) ≤ zs.getD 0 0) = False := eq_false (by omega)
  have q12 : (zs.getD 0 0 < 184) = True := eq_true (by omega)
  have q13 : ((184 : Int) ≤ zs.getD 0 0) = False := eq_false (by omega)
  have q14 : (zs.getD 0 0 < 192) = True := eq_true (by omega)
  have e7 := and7u6 hb
  have w7 : wrap64 (zs.getD 0 0 % 8) = zs.getD 0 0 % 8 := w64 (by omega)
  have hR := Lib.hid (fun W => reg_any (zs.getD 0 0 % 8) W)
  clear h
  generalize zs.getD 0 0 % 8 = r at *
  generalize zs.getD 0 0 = c at *
  go_enter Tryd.func15, Tryd.ntmps15
  go_upto_region 1 with fail
  generalize w.alloc (.cells z16 28) = w1 at *
  go_wp2_with (first | ((with_reducible refine (hX.out _ F.r).mono ?_); rintro e w2 ⟨rfl, R2, k2⟩; have F2 := F.read R2 k2; have c2 := R2.c2) | ((with_reducible refine (hR.out _).mono ?_); rintro e w3 ⟨rfl, b3⟩; have F3 := F2.below b3) | ((with_reducible refine store_inR rfl _ _ rfl _ (in16 ⟨28, 0, onReg r, onZ, false, 0⟩) z16 rfl rfl F3.z (in16_size _) z16_size (in16_one _) ?_); intro wz kz bz hz; have FZ := F3.done kz bz))
  exact bodyPost_ret (v := .tuple #[inV ⟨28, 0, onReg r, onZ, false, 0⟩, .bool (false)]) (results_ct rfl _ _ w.heap.size 28 (in16 ⟨28, 0, onReg r, onZ, false, 0⟩) (0, 0) _ _ rfl rfl FZ.z.h Tryd.underlying28 rfl (szIn inZ)) rfl ⟨rfl, FZ.r, FZ.k⟩
set_option maxRecDepth 100000 in
theorem insn_r3 (R : Rs w N B a len cap zs 0 false false) (hl : 1 ≤ len) (h : 88 ≤ zs.getD 0 0 ∧ zs.getD 0 0 < 96) :
    Calls Tryd.prog 15 #[rp B] w fun e w' => e = .returned (.tuple #[inV ⟨29, 0, onReg (zs.getD 0 0 % 8), onZ, false, 0⟩, .bool (false)]) ∧ Rs w' N B a len cap zs (1) (false) (false) ∧ But [B] w.heap.size w w' := by
  have hB := R.lt
  have F := RF.start R 28 z16
  have hX := Lib.hid (fun W (R : Rs W N B a len cap zs 0 false false) => byte_first R hl)
  have hb := byte_bd R 0
  have q0 : (zs.getD 0 0 < 64) = False := eq_false (by omega)
  have q1 : ((64 : Int) ≤ zs.getD 0 0) = True := eq_true (by omega)
  have q2 : (zs.getD 0 0 < 72) = False := eq_false (by omega)
  have q3 : ((72 : Int) ≤ zs.getD 0 0) = True := eq_true (by omega)
  have q4 : (zs.getD 0 0 < 80) = False := eq_false (by omega)
  have q5 : ((80 : Int) ≤ zs.getD 0 0) = True := eq_true (by omega)
  have q6 : (zs.getD 0 0 < 88) = False := eq_false (by omega)
  have q7 : ((88 : Int) ≤ zs.getD 0 0) = True := eq_true (by omega)
  have q8 : (zs.getD 0 0 < 96) = True := eq_true (by omega)
  have q9 : ((112 : Int) ≤ zs.getD 0 0) = False := eq_false (by omega)
  have q10 : (zs.getD 0 0 < 128) = True := eq_true (by omega)
  have q11 : ((176 : Int) ≤ zs.getD 0 0) = False := eq_false (by omega)
  have q12 : (zs.getD 0 0 < 184) = True := eq_true (by omega)
  have q13 : ((184 : Int) ≤ zs.getD 0 0) = False := eq_false (by omega)
  have q14 : (zs.getD 0 0 < 192) = True := eq_true (by omega)
  have e7 := and7u6 hb
  have w7 : wrap64 (zs.getD 0 0 % 8) = zs.getD 0 0 % 8 := w64 (by omega)
  have hR := Lib.hid (fun W => reg_any (zs.getD 0 0 % 8) W)
  clear h
  generalize zs.getD 0 0 % 8 = r at *
  generalize zs.getD 0 0 = c at *
  go_enter Tryd.func15, Tryd.ntmps15
  go_upto_region 1 with fail
  generalize w.alloc (.cells z16 28) = w1 at *
  go_wp2_with (first | ((with_reducible refine (hX.out _ F.r).mono ?_); rintro e w2 ⟨rfl, R2, k2⟩; have F2 := F.read R2 k2; have c2 := R2.c2) | ((with_reducible refine (hR.out _).mono ?_); rintro e w3 ⟨rfl, b3⟩; have F3 := F2.below b3) | ((with_reducible refine store_inR rfl _ _ rfl _ (in16 ⟨29, 0, onReg r, onZ, false, 0⟩) z16 rfl rfl F3.z (in16_size _) z16_size (in16_one _) ?_); intro wz kz bz hz; have FZ := F3.done kz bz))
  exact bodyPost_ret (v := .tuple #[inV ⟨29, 0, onReg r, onZ, false, 0⟩, .bool (false)]) (results_ct rfl _ _ w.heap.size 28 (in16 ⟨29, 0, onReg r, onZ, false, 0⟩) (0, 0) _ _ rfl rfl FZ.z.h Tryd.underlying28 rfl (szIn inZ)) rfl ⟨rfl, FZ.r, FZ.k⟩
set_option maxRecDepth 100000 in
theorem insn_jcc (R : Rs w N B a len cap zs 0 false false) (hl : 1 ≤ len) (h : 112 ≤ zs.getD 0 0 ∧ zs.getD 0 0 < 128) :
    Calls Tryd.prog 15 #[rp B] w fun e w' => e = .returned (.tuple #[inV ⟨33, (zs.getD 0 0 % 16), onImm (sx (zs.getD 1 0)), onZ, false, 0⟩, .bool (false)]) ∧ Rs w' N B a len cap zs (nx zs 1 1) (so zs 1 1 false) (false) ∧ But [B] w.heap.size w w' := by
  have hB := R.lt
  have F := RF.start R 28 z16
  have hX := Lib.hid (fun W (R : Rs W N B a len cap zs 0 false false) => byte_first R hl)
  have hb := byte_bd R 0
  have q0 : (zs.getD 0 0 < 64) = False := eq_false (by omega)
  have q1 : ((64 : Int) ≤ zs.getD 0 0) = True := eq_true (by omega)
  have q2 : (zs.getD 0 0 < 72) = False := eq_false (by omega)
  have q3 : ((72 : Int) ≤ zs.getD 0 0) = True := eq_true (by omega)
  have q4 : (zs.getD 0 0 < 80) = False := eq_false (by omega)
  have q5 : ((80 : Int) ≤ zs.getD 0 0) = True := eq_true (by omega)
  have q6 : (zs.getD 0 0 < 88) = False := eq_false (by omega)
  have q7 : ((88 : Int) ≤ zs.getD 0 0) = True := eq_true (by omega)
  have q8 : (zs.getD 0 0 < 96) = False := eq_false (by omega)
  have q9 : ((112 : Int) ≤ zs.getD 0 0) = True := eq_true (by omega)
  have q10 : (zs.getD 0 0 < 128) = True := eq_true (by omega)
  have q11 : ((176 : Int) ≤ zs.getD 0 0) = False := eq_false (by omega)
  have q12 : (zs.getD 0 0 < 184) = True := eq_true (by omega)
  have q13 : ((184 : Int) ≤ zs.getD 0 0) = False := eq_false (by omega)
  have q14 : (zs.getD 0 0 < 192) = True := eq_true (by omega)
  have e7 := and7u6 hb
  have w7 : wrap64 (zs.getD 0 0 % 8) = zs.getD 0 0 % 8 := w64 (by omega)
  have e15 := and15u hb
  have w15 : wrap64 (zs.getD 0 0 % 16) = zs.getD 0 0 % 16 := w64 (by omega)
  have hR := Lib.hid (fun W => reg_any (zs.getD 0 0 % 8) W)
  have hV := Lib.hid (fun W (R : Rs W N B a len cap zs 1 false false) => small_any R)
  generalize sx (zs.getD 1 0) = v at *
  generalize nx zs 1 1 = q at *
  generalize so zs 1 1 false = s at *
  have hI := Lib.hid (fun W => imm_any v W)
  clear h
  generalize zs.getD 0 0 % 8 = r at *
  generalize zs.getD 0 0 % 16 = cc at *
  generalize zs.getD 0 0 = c at *
  go_enter Tryd.func15, Tryd.ntmps15
  go_upto_region 1 with fail
  generalize w.alloc (.cells z16 28) = w1 at *
  go_wp2_with (first | ((with_reducible refine (hX.out _ F.r).mono ?_); rintro e w2 ⟨rfl, R2, k2⟩; have F2 := F.read R2 k2; have c2 := R2.c2) | ((with_reducible refine (hV.out _ F2.r).mono ?_); rintro e w4 ⟨rfl, R4, k4⟩; have F4 := F2.read R4 k4) | ((with_reducible refine (hI.out _).mono ?_); rintro e w5 ⟨rfl, b5⟩; have F5 := F4.below b5) | ((with_reducible refine store_inR rfl _ _ rfl _ (in16 ⟨33, cc, onImm v, onZ, false, 0⟩) z16 rfl rfl F5.z (in16_size _) z16_size (in16_one _) ?_); intro wz kz bz hz; have FZ := F5.done kz bz))
  exact bodyPost_ret (v := .tuple #[inV ⟨33, cc, onImm v, onZ, false, 0⟩, .bool (false)]) (results_ct rfl _ _ w.heap.size 28 (in16 ⟨33, cc, onImm v, onZ, false, 0⟩) (0, 0) _ _ rfl rfl FZ.z.h Tryd.underlying28 rfl (szIn inZ)) rfl ⟨rfl, FZ.r, FZ.k⟩
set_option maxRecDepth 100000 in
theorem insn_movb (R : Rs w N B a len cap zs 0 false false) (hl : 1 ≤ len) (h : 176 ≤ zs.getD 0 0 ∧ zs.getD 0 0 < 184) :
    Calls Tryd.prog 15 #[rp B] w fun e w' => e = .returned (.tuple #[inV ⟨2, 0, onReg (zs.getD 0 0 % 8), onImm (zs.getD 1 0), false, 0⟩, .bool (false)]) ∧ Rs w' N B a len cap zs (nx zs 1 1) (so zs 1 1 false) (false) ∧ But [B] w.heap.size w w' := by
  have hB := R.lt
  have F := RF.start R 28 z16
  have hX := Lib.hid (fun W (R : Rs W N B a len cap zs 0 false false) => byte_first R hl)
  have hb := byte_bd R 0
  have q0 : (zs.getD 0 0 < 64) = False := eq_false (by omega)
  have q1 : ((64 : Int) ≤ zs.getD 0 0) = True := eq_true (by omega)
  have q2 : (zs.getD 0 0 < 72) = False := eq_false (by omega)
  have q3 : ((72 : Int) ≤ zs.getD 0 0) = True := eq_true (by omega)
  have q4 : (zs.getD 0 0 < 80) = False := eq_false (by omega)
  have q5 : ((80 : Int) ≤ zs.getD 0 0) = True := eq_true (by omega)
  have q6 : (zs.getD 0 0 < 88) = False := eq_false (by omega)
  have q7 : ((88 : Int) ≤ zs.getD 0 0) = True := eq_true (by omega)
  have q8 : (zs.getD 0 0 < 96) = False := eq_false (by omega)
  have q9 : ((112 : Int) ≤ zs.getD 0 0) = True := eq_true (by omega)
  have q10 : (zs.getD 0 0 < 128) = False := eq_false (by omega)
  have q11 : ((176 : Int) ≤ zs.getD 0 0) = True := eq_true (by omega)
  have q12 : (zs.getD 0 0 < 184) = True := eq_true (by omega)
  have q13 : ((184 : Int) ≤ zs.getD 0 0) = False := eq_false (by omega)
  have q14 : (zs.getD 0 0 < 192) = True := eq_true (by omega)
  have e7 := and7u6 hb
  have w7 : wrap64 (zs.getD 0 0 % 8) = zs.getD 0 0 % 8 := w64 (by omega)
  have e15 := and15u hb
  have w15 : wrap64 (zs.getD 0 0 % 16) = zs.getD 0 0 % 16 := w64 (by omega)
  have hR := Lib.hid (fun W => reg_any (zs.getD 0 0 % 8) W)
  have hV := Lib.hid (fun W (R : Rs W N B a len cap zs 1 false false) => byte_any R)
  have hv := byte_bd R 1
  have hvw : IntKind.u32.wrap (zs.getD 1 0) = zs.getD 1 0 := by rw [IntKind.wrap_u32]; omega
  generalize zs.getD 1 0 = v at *
  generalize nx zs 1 1 = q at *
  generalize so zs 1 1 false = s at *
  have hI := Lib.hid (fun W => imm_any v W)
  clear h
  generalize zs.getD 0 0 % 8 = r at *
  generalize zs.getD 0 0 % 16 = cc at *
  generalize zs.getD 0 0 = c at *
  go_enter Tryd.func15, Tryd.ntmps15
  go_upto_region 1 with fail
  generalize w.alloc (.cells z16 28) = w1 at *
  go_wp2_with (first | ((with_reducible refine (hX.out _ F.r).mono ?_); rintro e w2 ⟨rfl, R2, k2⟩; have F2 := F.read R2 k2; have c2 := R2.c2) | ((with_reducible refine (hR.out _).mono ?_); rintro e w3 ⟨rfl, b3⟩; have F3 := F2.below b3) | ((with_reducible refine (hV.out _ F3.r).mono ?_); rintro e w4 ⟨rfl, R4, k4⟩; have F4 := F3.read R4 k4) | ((with_reducible refine (hI.out _).mono ?_); rintro e w5 ⟨rfl, b5⟩; have F5 := F4.below b5) | ((with_reducible refine store_inR rfl _ _ rfl _ (in16 ⟨2, 0, onReg r, onImm v, false, 0⟩) z16 rfl rfl F5.z (in16_size _) z16_size (in16_one _) ?_); intro wz kz bz hz; have FZ := F5.done kz bz))
  exact bodyPost_ret (v := .tuple #[inV ⟨2, 0, onReg r, onImm v, false, 0⟩, .bool (false)]) (results_ct rfl _ _ w.heap.size 28 (in16 ⟨2, 0, onReg r, onImm v, false, 0⟩) (0, 0) _ _ rfl rfl FZ.z.h Tryd.underlying28 rfl (szIn inZ)) rfl ⟨rfl, FZ.r, FZ.k⟩
set_option maxRecDepth 100000 in
theorem insn_mov (R : Rs w N B a len cap zs 0 false false) (hl : 1 ≤ len) (h : 184 ≤ zs.getD 0 0 ∧ zs.getD 0 0 < 192) :
    Calls Tryd.prog 15 #[rp B] w fun e w' => e = .returned (.tuple #[inV ⟨1, 0, onReg (zs.getD 0 0 % 8), onImm (le4 zs 1), false, 0⟩, .bool (false)]) ∧ Rs w' N B a len cap zs (nx zs 1 4) (so zs 1 4 false) (false) ∧ But [B] w.heap.size w w' := by
  have hB := R.lt
  have F := RF.start R 28 z16
  have hX := Lib.hid (fun W (R : Rs W N B a len cap zs 0 false false) => byte_first R hl)
  have hb := byte_bd R 0
  have q0 : (zs.getD 0 0 < 64) = False := eq_false (by omega)
  have q1 : ((64 : Int) ≤ zs.getD 0 0) = True := eq_true (by omega)
  have q2 : (zs.getD 0 0 < 72) = False := eq_false (by omega)
  have q3 : ((72 : Int) ≤ zs.getD 0 0) = True := eq_true (by omega)
  have q4 : (zs.getD 0 0 < 80) = False := eq_false (by omega)
  have q5 : ((80 : Int) ≤ zs.getD 0 0) = True := eq_true (by omega)
  have q6 : (zs.getD 0 0 < 88) = False := eq_false (by omega)
  have q7 : ((88 : Int) ≤ zs.getD 0 0) = True := eq_true (by omega)
  have q8 : (zs.getD 0 0 < 96) = False := eq_false (by omega)
  have q9 : ((112 : Int) ≤ zs.getD 0 0) = True := eq_true (by omega)
  have q10 : (zs.getD 0 0 < 128) = False := eq_false (by omega)
  have q11 : ((176 : Int) ≤ zs.getD 0 0) = True := eq_true (by omega)
  have q12 : (zs.getD 0 0 < 184) = False := eq_false (by omega)
  have q13 : ((184 : Int) ≤ zs.getD 0 0) = True := eq_true (by omega)
  have q14 : (zs.getD 0 0 < 192) = True := eq_true (by omega)
  have e7 := and7u6 hb
  have w7 : wrap64 (zs.getD 0 0 % 8) = zs.getD 0 0 % 8 := w64 (by omega)
  have e15 := and15u hb
  have w15 : wrap64 (zs.getD 0 0 % 16) = zs.getD 0 0 % 16 := w64 (by omega)
  have hR := Lib.hid (fun W => reg_any (zs.getD 0 0 % 8) W)
  have hV := Lib.hid (fun W (R : Rs W N B a len cap zs 1 false false) => word_ref R)
  generalize le4 zs 1 = v at *
  generalize nx zs 1 4 = q at *
  generalize so zs 1 4 false = s at *
  have hI := Lib.hid (fun W => imm_any v W)
  clear h
  generalize zs.getD 0 0 % 8 = r at *
  generalize zs.getD 0 0 % 16 = cc at *
  generalize zs.getD 0 0 = c at *
  go_enter Tryd.func15, Tryd.ntmps15
  go_upto_region 1 with fail
  generalize w.alloc (.cells z16 28) = w1 at *
  go_wp2_with (first | ((with_reducible refine (hX.out _ F.r).mono ?_); rintro e w2 ⟨rfl, R2, k2⟩; have F2 := F.read R2 k2; have c2 := R2.c2) | ((with_reducible refine (hR.out _).mono ?_); rintro e w3 ⟨rfl, b3⟩; have F3 := F2.below b3) | ((with_reducible refine (hV.out _ F3.r).mono ?_); rintro e w4 ⟨rfl, R4, k4⟩; have F4 := F3.read R4 k4) | ((with_reducible refine (hI.out _).mono ?_); rintro e w5 ⟨rfl, b5⟩; have F5 := F4.below b5) | ((with_reducible refine store_inR rfl _ _ rfl _ (in16 ⟨1, 0, onReg r, onImm v, false, 0⟩) z16 rfl rfl F5.z (in16_size _) z16_size (in16_one _) ?_); intro wz kz bz hz; have FZ := F5.done kz bz))
  exact bodyPost_ret (v := .tuple #[inV ⟨1, 0, onReg r, onImm v, false, 0⟩, .bool (false)]) (results_ct rfl _ _ w.heap.size 28 (in16 ⟨1, 0, onReg r, onImm v, false, 0⟩) (0, 0) _ _ rfl rfl FZ.z.h Tryd.underlying28 rfl (szIn inZ)) rfl ⟨rfl, FZ.r, FZ.k⟩
set_option maxRecDepth 100000 in
theorem insn_plain_lo (R : Rs w N B a len cap zs 0 false false) (hl : 1 ≤ len) (h : zs.getD 0 0 < 64 ∧ ¬ zs.getD 0 0 % 8 = 1 ∧ ¬ zs.getD 0 0 % 8 = 3 ∧ ¬ zs.getD 0 0 % 8 = 5) {i : In} {q : Nat} {s b : Bool} (hP : ∀ W, Rs W N B a len cap zs 1 false false → Calls Tryd.prog 26 #[rp B, .int .u8 (zs.getD 0 0)] W fun e w' => e = .returned (.tuple #[inV i, .bool (false)]) ∧ Rs w' N B a len cap zs (q) (s) (b) ∧ But [B] W.heap.size W w') :
    Calls Tryd.prog 15 #[rp B] w fun e w' => e = .returned (.tuple #[inV i, .bool (false)]) ∧ Rs w' N B a len cap zs (q) (s) (b) ∧ But [B] w.heap.size w w' := by
  have hB := R.lt
  have F := RF.start R 28 z16
  have hX := Lib.hid (fun W (R : Rs W N B a len cap zs 0 false false) => byte_first R hl)
  have hb := byte_bd R 0
  have q0 : (zs.getD 0 0 < 64) = True := eq_true (by omega)
  have q1 : ((64 : Int) ≤ zs.getD 0 0) = False := eq_false (by omega)
  have q2 : (zs.getD 0 0 < 72) = True := eq_true (by omega)
  have q3 : ((72 : Int) ≤ zs.getD 0 0) = False := eq_false (by omega)
  have q4 : (zs.getD 0 0 < 80) = True := eq_true (by omega)
  have q5 : ((80 : Int) ≤ zs.getD 0 0) = False := eq_false (by omega)
  have q6 : (zs.getD 0 0 < 88) = True := eq_true (by omega)
  have q7 : ((88 : Int) ≤ zs.getD 0 0) = False := eq_false (by omega)
  have q8 : (zs.getD 0 0 < 96) = True := eq_true (by omega)
  have q9 : ((112 : Int) ≤ zs.getD 0 0) = False := eq_false (by omega)
  have q10 : (zs.getD 0 0 < 128) = True := eq_true (by omega)
  have q11 : ((176 : Int) ≤ zs.getD 0 0) = False := eq_false (by omega)
  have q12 : (zs.getD 0 0 < 184) = True := eq_true (by omega)
  have q13 : ((184 : Int) ≤ zs.getD 0 0) = False := eq_false (by omega)
  have q14 : (zs.getD 0 0 < 192) = True := eq_true (by omega)
  have e7 := and7u6 hb
  have w7 : wrap64 (zs.getD 0 0 % 8) = zs.getD 0 0 % 8 := w64 (by omega)
  have k1 : (zs.getD 0 0 % 8 == 1) = false := bf (by omega)
  have k3 : (zs.getD 0 0 % 8 == 3) = false := bf (by omega)
  have k5 : (zs.getD 0 0 % 8 == 5) = false := bf (by omega)
  have hP2 := Lib.hid hP
  clear hP
  clear h
  generalize zs.getD 0 0 % 8 = k at *
  generalize zs.getD 0 0 = c at *
  go_enter Tryd.func15, Tryd.ntmps15
  go_upto_region 1 with fail
  generalize w.alloc (.cells z16 28) = w1 at *
  go_wp2_with (first | ((with_reducible refine (hX.out _ F.r).mono ?_); rintro e w2 ⟨rfl, R2, k2⟩; have F2 := F.read R2 k2; have c2 := R2.c2) | ((with_reducible refine (hP2.out _ F2.r).mono ?_); rintro e w3 ⟨rfl, R3, k3⟩; have F3 := F2.read R3 k3) | ((with_reducible refine store_in_as rfl _ _ rfl (in16 i) (in16_size _) (in16_one _) rfl rfl ?_); intro w4 kI b4; have F4 := F3.below b4) | (with_reducible refine load_inR rfl _ rfl w3.heap.size (in16 i) rfl kI (in16_size _) ?_) | ((with_reducible refine store_inR rfl _ _ rfl _ (in16 i) z16 rfl rfl F4.z (in16_size _) z16_size (in16_one _) ?_); intro wz kz bz hz; have FZ := F4.done kz bz))
  exact bodyPost_ret (v := .tuple #[inV i, .bool (false)]) (results_ct rfl _ _ w.heap.size 28 (in16 i) (0, 0) _ _ rfl rfl FZ.z.h Tryd.underlying28 rfl (szIn inZ)) rfl ⟨rfl, FZ.r, FZ.k⟩
set_option maxRecDepth 100000 in
theorem insn_modded_lo (R : Rs w N B a len cap zs 0 false false) (hl : 1 ≤ len) (h : zs.getD 0 0 < 64 ∧ ¬ zs.getD 0 0 % 8 = 1 ∧ ¬ zs.getD 0 0 % 8 = 3 ∧ ¬ zs.getD 0 0 % 8 = 5) {i : In} {q : Nat} {s b : Bool} {x : Bool} (hP : ∀ W, Rs W N B a len cap zs 1 false false → Calls Tryd.prog 26 #[rp B, .int .u8 (zs.getD 0 0)] W fun e w' => e = .returned (.tuple #[inV inZ, .bool (true)]) ∧ Rs w' N B a len cap zs (1) (false) (false) ∧ But [B] W.heap.size W w') (hM : ∀ W, Rs W N B a len cap zs 1 false false → Calls Tryd.prog 27 #[rp B, .int .u8 (zs.getD 0 0)] W fun e w' => e = .returned (.tuple #[inV i, .bool (x)]) ∧ Rs w' N B a len cap zs (q) (s) (b) ∧ But [B] W.heap.size W w') :
    Calls Tryd.prog 15 #[rp B] w fun e w' => e = .returned (.tuple #[inV i, .bool (x)]) ∧ Rs w' N B a len cap zs (q) (s) (b) ∧ But [B] w.heap.size w w' := by
  have hB := R.lt
  have F := RF.start R 28 z16
  have hX := Lib.hid (fun W (R : Rs W N B a len cap zs 0 false false) => byte_first R hl)
  have hb := byte_bd R 0
  have q0 : (zs.getD 0 0 < 64) = True := eq_true (by omega)
  have q1 : ((64 : Int) ≤ zs.getD 0 0) = False := eq_false (by omega)
  have q2 : (zs.getD 0 0 < 72) = True := eq_true (by omega)
  have q3 : ((72 : Int) ≤ zs.getD 0 0) = False := eq_false (by omega)
  have q4 : (zs.getD 0 0 < 80) = True := eq_true (by omega)
  have q5 : ((80 : Int) ≤ zs.getD 0 0) = False := eq_false (by omega)
  have q6 : (zs.getD 0 0 < 88) = True := eq_true (by omega)
  have q7 : ((88 : Int) ≤ zs.getD 0 0) = False := eq_false (by omega)
  have q8 : (zs.getD 0 0 < 96) = True := eq_true (by omega)
  have q9 : ((112 : Int) ≤ zs.getD 0 0) = False := eq_false (by omega)
  have q10 : (zs.getD 0 0 < 128) = True := eq_true (by omega)
  have q11 : ((176 : Int) ≤ zs.getD 0 0) = False := eq_false (by omega)
  have q12 : (zs.getD 0 0 < 184) = True := eq_true (by omega)
  have q13 : ((184 : Int) ≤ zs.getD 0 0) = False := eq_false (by omega)
  have q14 : (zs.getD 0 0 < 192) = True := eq_true (by omega)
  have e7 := and7u6 hb
  have w7 : wrap64 (zs.getD 0 0 % 8) = zs.getD 0 0 % 8 := w64 (by omega)
  have k1 : (zs.getD 0 0 % 8 == 1) = false := bf (by omega)
  have k3 : (zs.getD 0 0 % 8 == 3) = false := bf (by omega)
  have k5 : (zs.getD 0 0 % 8 == 5) = false := bf (by omega)
  have hP2 := Lib.hid hP
  clear hP
  have hM2 := Lib.hid hM
  clear hM
  clear h
  generalize zs.getD 0 0 % 8 = k at *
  generalize zs.getD 0 0 = c at *
  go_enter Tryd.func15, Tryd.ntmps15
  go_upto_region 1 with fail
  generalize w.alloc (.cells z16 28) = w1 at *
  go_wp2_with (first | ((with_reducible refine (hX.out _ F.r).mono ?_); rintro e w2 ⟨rfl, R2, k2⟩; have F2 := F.read R2 k2; have c2 := R2.c2) | ((with_reducible refine (hP2.out _ F2.r).mono ?_); rintro e w3 ⟨rfl, R3, k3⟩; have F3 := F2.read R3 k3) | ((with_reducible refine store_in_as rfl _ _ rfl (in16 inZ) (in16_size _) (in16_one _) rfl rfl ?_); intro w4 kI b4; have F4 := F3.below b4) | ((with_reducible refine (hM2.out _ F4.r).mono ?_); rintro e w5 ⟨rfl, R5, k5⟩; have F5 := F4.read R5 k5) | ((with_reducible refine store_inR rfl _ _ rfl _ (in16 i) z16 rfl rfl F5.z (in16_size _) z16_size (in16_one _) ?_); intro wz kz bz hz; have FZ := F5.done kz bz))
  exact bodyPost_ret (v := .tuple #[inV i, .bool (x)]) (results_ct rfl _ _ w.heap.size 28 (in16 i) (0, 0) _ _ rfl rfl FZ.z.h Tryd.underlying28 rfl (szIn inZ)) rfl ⟨rfl, FZ.r, FZ.k⟩
set_option maxRecDepth 100000 in
theorem insn_plain_a (R : Rs w N B a len cap zs 0 false false) (hl : 1 ≤ len) (h : 96 ≤ zs.getD 0 0 ∧ zs.getD 0 0 < 112) {i : In} {q : Nat} {s b : Bool} (hP : ∀ W, Rs W N B a len cap zs 1 false false → Calls Tryd.prog 26 #[rp B, .int .u8 (zs.getD 0 0)] W fun e w' => e = .returned (.tuple #[inV i, .bool (false)]) ∧ Rs w' N B a len cap zs (q) (s) (b) ∧ But [B] W.heap.size W w') :
    Calls Tryd.prog 15 #[rp B] w fun e w' => e = .returned (.tuple #[inV i, .bool (false)]) ∧ Rs w' N B a len cap zs (q) (s) (b) ∧ But [B] w.heap.size w w' := by
  have hB := R.lt
  have F := RF.start R 28 z16
  have hX := Lib.hid (fun W (R : Rs W N B a len cap zs 0 false false) => byte_first R hl)
  have hb := byte_bd R 0
  have q0 : (zs.getD 0 0 < 64) = False := eq_false (by omega)
  have q1 : ((64 : Int) ≤ zs.getD 0 0) = True := eq_true (by omega)
  have q2 : (zs.getD 0 0 < 72) = False := eq_false (by omega)
  have q3 : ((72 : Int) ≤ zs.getD 0 0) = True := eq_true (by omega)
  have q4 : (zs.getD 0 0 < 80) = False := eq_false (by omega)
  have q5 : ((80 : Int) ≤ zs.getD 0 0) = True := eq_true (by omega)
  have q6 : (zs.getD 0 0 < 88) = False := eq_false (by omega)
  have q7 : ((88 : Int) ≤ zs.getD 0 0) = True := eq_true (by omega)
  have q8 : (zs.getD 0 0 < 96) = False := eq_false (by omega)
  have q9 : ((112 : Int) ≤ zs.getD 0 0) = False := eq_false (by omega)
  have q10 : (zs.getD 0 0 < 128) = True := eq_true (by omega)
  have q11 : ((176 : Int) ≤ zs.getD 0 0) = False := eq_false (by omega)
  have q12 : (zs.getD 0 0 < 184) = True := eq_true (by omega)
  have q13 : ((184 : Int) ≤ zs.getD 0 0) = False := eq_false (by omega)
  have q14 : (zs.getD 0 0 < 192) = True := eq_true (by omega)
  have e7 := and7u6 hb
  have w7 : wrap64 (zs.getD 0 0 % 8) = zs.getD 0 0 % 8 := w64 (by omega)
  have hP2 := Lib.hid hP
  clear hP
  clear h
  generalize zs.getD 0 0 % 8 = k at *
  generalize zs.getD 0 0 = c at *
  go_enter Tryd.func15, Tryd.ntmps15
  go_upto_region 1 with fail
  generalize w.alloc (.cells z16 28) = w1 at *
  go_wp2_with (first | ((with_reducible refine (hX.out _ F.r).mono ?_); rintro e w2 ⟨rfl, R2, k2⟩; have F2 := F.read R2 k2; have c2 := R2.c2) | ((with_reducible refine (hP2.out _ F2.r).mono ?_); rintro e w3 ⟨rfl, R3, k3⟩; have F3 := F2.read R3 k3) | ((with_reducible refine store_in_as rfl _ _ rfl (in16 i) (in16_size _) (in16_one _) rfl rfl ?_); intro w4 kI b4; have F4 := F3.below b4) | (with_reducible refine load_inR rfl _ rfl w3.heap.size (in16 i) rfl kI (in16_size _) ?_) | ((with_reducible refine store_inR rfl _ _ rfl _ (in16 i) z16 rfl rfl F4.z (in16_size _) z16_size (in16_one _) ?_); intro wz kz bz hz; have FZ := F4.done kz bz))
  exact bodyPost_ret (v := .tuple #[inV i, .bool (false)]) (results_ct rfl _ _ w.heap.size 28 (in16 i) (0, 0) _ _ rfl rfl FZ.z.h Tryd.underlying28 rfl (szIn inZ)) rfl ⟨rfl, FZ.r, FZ.k⟩
set_option maxRecDepth 100000 in
theorem insn_modded_a (R : Rs w N B a len cap zs 0 false false) (hl : 1 ≤ len) (h : 96 ≤ zs.getD 0 0 ∧ zs.getD 0 0 < 112) {i : In} {q : Nat} {s b : Bool} {x : Bool} (hP : ∀ W, Rs W N B a len cap zs 1 false false → Calls Tryd.prog 26 #[rp B, .int .u8 (zs.getD 0 0)] W fun e w' => e = .returned (.tuple #[inV inZ, .bool (true)]) ∧ Rs w' N B a len cap zs (1) (false) (false) ∧ But [B] W.heap.size W w') (hM : ∀ W, Rs W N B a len cap zs 1 false false → Calls Tryd.prog 27 #[rp B, .int .u8 (zs.getD 0 0)] W fun e w' => e = .returned (.tuple #[inV i, .bool (x)]) ∧ Rs w' N B a len cap zs (q) (s) (b) ∧ But [B] W.heap.size W w') :
    Calls Tryd.prog 15 #[rp B] w fun e w' => e = .returned (.tuple #[inV i, .bool (x)]) ∧ Rs w' N B a len cap zs (q) (s) (b) ∧ But [B] w.heap.size w w' := by
  have hB := R.lt
  have F := RF.start R 28 z16
  have hX := Lib.hid (fun W (R : Rs W N B a len cap zs 0 false false) => byte_first R hl)
  have hb := byte_bd R 0
  have q0 : (zs.getD 0 0 < 64) = False := eq_false (by omega)
  have q1 : ((64 : Int) ≤ zs.getD 0 0) = True := eq_true (by omega)
  have q2 : (zs.getD 0 0 < 72) = False := eq_false (by omega)
  have q3 : ((72 : Int) ≤ zs.getD 0 0) = True := eq_true (by omega)
  have q4 : (zs.getD 0 0 < 80) = False := eq_false (by omega)
  have q5 : ((80 : Int) ≤ zs.getD 0 0) = True := eq_true (by omega)
  have q6 : (zs.getD 0 0 < 88) = False := eq_false (by omega)
  have q7 : ((88 : Int) ≤ zs.getD 0 0) = True := eq_true (by omega)
  have q8 : (zs.getD 0 0 < 96) = False := eq_false (by omega)
  have q9 : ((112 : Int) ≤ zs.getD 0 0) = False := eq_false (by omega)
  have q10 : (zs.getD 0 0 < 128) = True := eq_true (by omega)
  have q11 : ((176 : Int) ≤ zs.getD 0 0) = False := eq_false (by omega)
  have q12 : (zs.getD 0 0 < 184) = True := eq_true (by omega)
  have q13 : ((184 : Int) ≤ zs.getD 0 0) = False := eq_false (by omega)
  have q14 : (zs.getD 0 0 < 192) = True := eq_true (by omega)
  have e7 := and7u6 hb
  have w7 : wrap64 (zs.getD 0 0 % 8) = zs.getD 0 0 % 8 := w64 (by omega)
  have hP2 := Lib.hid hP
  clear hP
  have hM2 := Lib.hid hM
  clear hM
  clear h
  generalize zs.getD 0 0 % 8 = k at *
  generalize zs.getD 0 0 = c at *
  go_enter Tryd.func15, Tryd.ntmps15
  go_upto_region 1 with fail
  generalize w.alloc (.cells z16 28) = w1 at *
  go_wp2_with (first | ((with_reducible refine (hX.out _ F.r).mono ?_); rintro e w2 ⟨rfl, R2, k2⟩; have F2 := F.read R2 k2; have c2 := R2.c2) | ((with_reducible refine (hP2.out _ F2.r).mono ?_); rintro e w3 ⟨rfl, R3, k3⟩; have F3 := F2.read R3 k3) | ((with_reducible refine store_in_as rfl _ _ rfl (in16 inZ) (in16_size _) (in16_one _) rfl rfl ?_); intro w4 kI b4; have F4 := F3.below b4) | ((with_reducible refine (hM2.out _ F4.r).mono ?_); rintro e w5 ⟨rfl, R5, k5⟩; have F5 := F4.read R5 k5) | ((with_reducible refine store_inR rfl _ _ rfl _ (in16 i) z16 rfl rfl F5.z (in16_size _) z16_size (in16_one _) ?_); intro wz kz bz hz; have FZ := F5.done kz bz))
  exact bodyPost_ret (v := .tuple #[inV i, .bool (x)]) (results_ct rfl _ _ w.heap.size 28 (in16 i) (0, 0) _ _ rfl rfl FZ.z.h Tryd.underlying28 rfl (szIn inZ)) rfl ⟨rfl, FZ.r, FZ.k⟩
set_option maxRecDepth 100000 in
theorem insn_plain_b (R : Rs w N B a len cap zs 0 false false) (hl : 1 ≤ len) (h : 128 ≤ zs.getD 0 0 ∧ zs.getD 0 0 < 176) {i : In} {q : Nat} {s b : Bool} (hP : ∀ W, Rs W N B a len cap zs 1 false false → Calls Tryd.prog 26 #[rp B, .int .u8 (zs.getD 0 0)] W fun e w' => e = .returned (.tuple #[inV i, .bool (false)]) ∧ Rs w' N B a len cap zs (q) (s) (b) ∧ But [B] W.heap.size W w') :
    Calls Tryd.prog 15 #[rp B] w fun e w' => e = .returned (.tuple #[inV i, .bool (false)]) ∧ Rs w' N B a len cap zs (q) (s) (b) ∧ But [B] w.heap.size w w' := by
  have hB := R.lt
  have F := RF.start R 28 z16
  have hX := Lib.hid (fun W (R : Rs W N B a len cap zs 0 false false) => byte_first R hl)
  have hb := byte_bd R 0
  have q0 : (zs.getD 0 0 < 64) = False := eq_false (by omega)
  have q1 : ((64 : Int) ≤ zs.getD 0 0) = True := eq_true (by omega)
  have q2 : (zs.getD 0 0 < 72) = False := eq_false (by omega)
  have q3 : ((72 : Int) ≤ zs.getD 0 0) = True := eq_true (by omega)
  have q4 : (zs.getD 0 0 < 80) = False := eq_false (by omega)
  have q5 : ((80 : Int) ≤ zs.getD 0 0) = True := eq_true (by omega)
  have q6 : (zs.getD 0 0 < 88) = False := eq_false (by omega)
  have q7 : ((88 : Int) ≤ zs.getD 0 0) = True := eq_true (by omega)
  have q8 : (zs.getD 0 0 < 96) = False := eq_false (by omega)
  have q9 : ((112 : Int) ≤ zs.getD 0 0) = True := eq_true (by omega)
  have q10 : (zs.getD 0 0 < 128) = False := eq_false (by omega)
  have q11 : ((176 : Int) ≤ zs.getD 0 0) = False := eq_false (by omega)
  have q12 : (zs.getD 0 0 < 184) = True := eq_true (by omega)
  have q13 : ((184 : Int) ≤ zs.getD 0 0) = False := eq_false (by omega)
  have q14 : (zs.getD 0 0 < 192) = True := eq_true (by omega)
  have e7 := and7u6 hb
  have w7 : wrap64 (zs.getD 0 0 % 8) = zs.getD 0 0 % 8 := w64 (by omega)
  have hP2 := Lib.hid hP
  clear hP
  clear h
  generalize zs.getD 0 0 % 8 = k at *
  generalize zs.getD 0 0 = c at *
  go_enter Tryd.func15, Tryd.ntmps15
  go_upto_region 1 with fail
  generalize w.alloc (.cells z16 28) = w1 at *
  go_wp2_with (first | ((with_reducible refine (hX.out _ F.r).mono ?_); rintro e w2 ⟨rfl, R2, k2⟩; have F2 := F.read R2 k2; have c2 := R2.c2) | ((with_reducible refine (hP2.out _ F2.r).mono ?_); rintro e w3 ⟨rfl, R3, k3⟩; have F3 := F2.read R3 k3) | ((with_reducible refine store_in_as rfl _ _ rfl (in16 i) (in16_size _) (in16_one _) rfl rfl ?_); intro w4 kI b4; have F4 := F3.below b4) | (with_reducible refine load_inR rfl _ rfl w3.heap.size (in16 i) rfl kI (in16_size _) ?_) | ((with_reducible refine store_inR rfl _ _ rfl _ (in16 i) z16 rfl rfl F4.z (in16_size _) z16_size (in16_one _) ?_); intro wz kz bz hz; have FZ := F4.done kz bz))
  exact bodyPost_ret (v := .tuple #[inV i, .bool (false)]) (results_ct rfl _ _ w.heap.size 28 (in16 i) (0, 0) _ _ rfl rfl FZ.z.h Tryd.underlying28 rfl (szIn inZ)) rfl ⟨rfl, FZ.r, FZ.k⟩
set_option maxRecDepth 100000 in
theorem insn_modded_b (R : Rs w N B a len cap zs 0 false false) (hl : 1 ≤ len) (h : 128 ≤ zs.getD 0 0 ∧ zs.getD 0 0 < 176) {i : In} {q : Nat} {s b : Bool} {x : Bool} (hP : ∀ W, Rs W N B a len cap zs 1 false false → Calls Tryd.prog 26 #[rp B, .int .u8 (zs.getD 0 0)] W fun e w' => e = .returned (.tuple #[inV inZ, .bool (true)]) ∧ Rs w' N B a len cap zs (1) (false) (false) ∧ But [B] W.heap.size W w') (hM : ∀ W, Rs W N B a len cap zs 1 false false → Calls Tryd.prog 27 #[rp B, .int .u8 (zs.getD 0 0)] W fun e w' => e = .returned (.tuple #[inV i, .bool (x)]) ∧ Rs w' N B a len cap zs (q) (s) (b) ∧ But [B] W.heap.size W w') :
    Calls Tryd.prog 15 #[rp B] w fun e w' => e = .returned (.tuple #[inV i, .bool (x)]) ∧ Rs w' N B a len cap zs (q) (s) (b) ∧ But [B] w.heap.size w w' := by
  have hB := R.lt
  have F := RF.start R 28 z16
  have hX := Lib.hid (fun W (R : Rs W N B a len cap zs 0 false false) => byte_first R hl)
  have hb := byte_bd R 0
  have q0 : (zs.getD 0 0 < 64) = False := eq_false (by omega)
  have q1 : ((64 : Int) ≤ zs.getD 0 0) = True := eq_true (by omega)
  have q2 : (zs.getD 0 0 < 72) = False := eq_false (by omega)
  have q3 : ((72 : Int) ≤ zs.getD 0 0) = True := eq_true (by omega)
  have q4 : (zs.getD 0 0 < 80) = False := eq_false (by omega)
  have q5 : ((80 : Int) ≤ zs.getD 0 0) = True := eq_true (by omega)
  have q6 : (zs.getD 0 0 < 88) = False := eq_false (by omega)
  have q7 : ((88 : Int) ≤ zs.getD 0 0) = True := eq_true (by omega)
  have q8 : (zs.getD 0 0 < 96) = False := eq_false (by omega)
  have q9 : ((112 : Int) ≤ zs.getD 0 0) = True := eq_true (by omega)
  have q10 : (zs.getD 0 0 < 128) = False := eq_false (by omega)
  have q11 : ((176 : Int) ≤ zs.getD 0 0) = False := eq_false (by omega)
  have q12 : (zs.getD 0 0 < 184) = True := eq_true (by omega)
  have q13 : ((184 : Int) ≤ zs.getD 0 0) = False := eq_false (by omega)
  have q14 : (zs.getD 0 0 < 192) = True := eq_true (by omega)
  have e7 := and7u6 hb
  have w7 : wrap64 (zs.getD 0 0 % 8) = zs.getD 0 0 % 8 := w64 (by omega)
  have hP2 := Lib.hid hP
  clear hP
  have hM2 := Lib.hid hM
  clear hM
  clear h
  generalize zs.getD 0 0 % 8 = k at *
  generalize zs.getD 0 0 = c at *
  go_enter Tryd.func15, Tryd.ntmps15
  go_upto_region 1 with fail
  generalize w.alloc (.cells z16 28) = w1 at *
  go_wp2_with (first | ((with_reducible refine (hX.out _ F.r).mono ?_); rintro e w2 ⟨rfl, R2, k2⟩; have F2 := F.read R2 k2; have c2 := R2.c2) | ((with_reducible refine (hP2.out _ F2.r).mono ?_); rintro e w3 ⟨rfl, R3, k3⟩; have F3 := F2.read R3 k3) | ((with_reducible refine store_in_as rfl _ _ rfl (in16 inZ) (in16_size _) (in16_one _) rfl rfl ?_); intro w4 kI b4; have F4 := F3.below b4) | ((with_reducible refine (hM2.out _ F4.r).mono ?_); rintro e w5 ⟨rfl, R5, k5⟩; have F5 := F4.read R5 k5) | ((with_reducible refine store_inR rfl _ _ rfl _ (in16 i) z16 rfl rfl F5.z (in16_size _) z16_size (in16_one _) ?_); intro wz kz bz hz; have FZ := F5.done kz bz))
  exact bodyPost_ret (v := .tuple #[inV i, .bool (x)]) (results_ct rfl _ _ w.heap.size 28 (in16 i) (0, 0) _ _ rfl rfl FZ.z.h Tryd.underlying28 rfl (szIn inZ)) rfl ⟨rfl, FZ.r, FZ.k⟩
set_option maxRecDepth 100000 in
theorem insn_plain_d (R : Rs w N B a len cap zs 0 false false) (hl : 1 ≤ len) (h : 192 ≤ zs.getD 0 0) {i : In} {q : Nat} {s b : Bool} (hP : ∀ W, Rs W N B a len cap zs 1 false false → Calls Tryd.prog 26 #[rp B, .int .u8 (zs.getD 0 0)] W fun e w' => e = .returned (.tuple #[inV i, .bool (false)]) ∧ Rs w' N B a len cap zs (q) (s) (b) ∧ But [B] W.heap.size W w') :
    Calls Tryd.prog 15 #[rp B] w fun e w' => e = .returned (.tuple #[inV i, .bool (false)]) ∧ Rs w' N B a len cap zs (q) (s) (b) ∧ But [B] w.heap.size w w' := by
  have hB := R.lt
  have F := RF.start R 28 z16
  have hX := Lib.hid (fun W (R : Rs W N B a len cap zs 0 false false) => byte_first R hl)
  have hb := byte_bd R 0
  have q0 : (zs.getD 0 0 < 64) = False := eq_false (by omega)
  have q1 : ((64 : Int) ≤ zs.getD 0 0) = True := eq_true (by omega)
  have q2 : (zs.getD 0 0 < 72) = False := eq_false (by omega)
  have q3 : ((72 : Int) ≤ zs.getD 0 0) = True := eq_true (by omega)
  have q4 : (zs.getD 0 0 < 80) = False := eq_false (by omega)
  have q5 : ((80 : Int) ≤ zs.getD 0 0) = True := eq_true (by omega)
  have q6 : (zs.getD 0 0 < 88) = False := eq_false (by omega)
  have q7 : ((88 : Int) ≤ zs.getD 0 0) = True := eq_true (by omega)
  have q8 : (zs.getD 0 0 < 96) = False := eq_false (by omega)
  have q9 : ((112 : Int) ≤ zs.getD 0 0) = True := eq_true (by omega)
  have q10 : (zs.getD 0 0 < 128) = False := eq_false (by omega)
  have q11 : ((176 : Int) ≤ zs.getD 0 0) = True := eq_true (by omega)
  have q12 : (zs.getD 0 0 < 184) = False := eq_false (by omega)
  have q13 : ((184 : Int) ≤ zs.getD 0 0) = True := eq_true (by omega)
  have q14 : (zs.getD 0 0 < 192) = False := eq_false (by omega)
  have e7 := and7u6 hb
  have w7 : wrap64 (zs.getD 0 0 % 8) = zs.getD 0 0 % 8 := w64 (by omega)
  have hP2 := Lib.hid hP
  clear hP
  clear h
  generalize zs.getD 0 0 % 8 = k at *
  generalize zs.getD 0 0 = c at *
  go_enter Tryd.func15, Tryd.ntmps15
  go_upto_region 1 with fail
  generalize w.alloc (.cells z16 28) = w1 at *
  go_wp2_with (first | ((with_reducible refine (hX.out _ F.r).mono ?_); rintro e w2 ⟨rfl, R2, k2⟩; have F2 := F.read R2 k2; have c2 := R2.c2) | ((with_reducible refine (hP2.out _ F2.r).mono ?_); rintro e w3 ⟨rfl, R3, k3⟩; have F3 := F2.read R3 k3) | ((with_reducible refine store_in_as rfl _ _ rfl (in16 i) (in16_size _) (in16_one _) rfl rfl ?_); intro w4 kI b4; have F4 := F3.below b4) | (with_reducible refine load_inR rfl _ rfl w3.heap.size (in16 i) rfl kI (in16_size _) ?_) | ((with_reducible refine store_inR rfl _ _ rfl _ (in16 i) z16 rfl rfl F4.z (in16_size _) z16_size (in16_one _) ?_); intro wz kz bz hz; have FZ := F4.done kz bz))
  exact bodyPost_ret (v := .tuple #[inV i, .bool (false)]) (results_ct rfl _ _ w.heap.size 28 (in16 i) (0, 0) _ _ rfl rfl FZ.z.h Tryd.underlying28 rfl (szIn inZ)) rfl ⟨rfl, FZ.r, FZ.k⟩
set_option maxRecDepth 100000 in
theorem insn_modded_d (R : Rs w N B a len cap zs 0 false false) (hl : 1 ≤ len) (h : 192 ≤ zs.getD 0 0) {i : In} {q : Nat} {s b : Bool} {x : Bool} (hP : ∀ W, Rs W N B a len cap zs 1 false false → Calls Tryd.prog 26 #[rp B, .int .u8 (zs.getD 0 0)] W fun e w' => e = .returned (.tuple #[inV inZ, .bool (true)]) ∧ Rs w' N B a len cap zs (1) (false) (false) ∧ But [B] W.heap.size W w') (hM : ∀ W, Rs W N B a len cap zs 1 false false → Calls Tryd.prog 27 #[rp B, .int .u8 (zs.getD 0 0)] W fun e w' => e = .returned (.tuple #[inV i, .bool (x)]) ∧ Rs w' N B a len cap zs (q) (s) (b) ∧ But [B] W.heap.size W w') :
    Calls Tryd.prog 15 #[rp B] w fun e w' => e = .returned (.tuple #[inV i, .bool (x)]) ∧ Rs w' N B a len cap zs (q) (s) (b) ∧ But [B] w.heap.size w w' := by
  have hB := R.lt
  have F := RF.start R 28 z16
  have hX := Lib.hid (fun W (R : Rs W N B a len cap zs 0 false false) => byte_first R hl)
  have hb := byte_bd R 0
  have q0 : (zs.getD 0 0 < 64) = False := eq_false (by omega)
  have q1 : ((64 : Int) ≤ zs.getD 0 0) = True := eq_true (by omega)
  have q2 : (zs.getD 0 0 < 72) = False := eq_false (by omega)
  have q3 : ((72 : Int) ≤ zs.getD 0 0) = True := eq_true (by omega)
  have q4 : (zs.getD 0 0 < 80) = False := eq_false (by omega)
  have q5 : ((80 : Int) ≤ zs.getD 0 0) = True := eq_true (by omega)
  have q6 : (zs.getD 0 0 < 88) = False := eq_false (by omega)
  have q7 : ((88 : Int) ≤ zs.getD 0 0) = True := eq_true (by omega)
  have q8 : (zs.getD 0 0 < 96) = False := eq_false (by omega)
  have q9 : ((112 : Int) ≤ zs.getD 0 0) = True := eq_true (by omega)
  have q10 : (zs.getD 0 0 < 128) = False := eq_false (by omega)
  have q11 : ((176 : Int) ≤ zs.getD 0 0) = True := eq_true (by omega)
  have q12 : (zs.getD 0 0 < 184) = False := eq_false (by omega)
  have q13 : ((184 : Int) ≤ zs.getD 0 0) = True := eq_true (by omega)
  have q14 : (zs.getD 0 0 < 192) = False := eq_false (by omega)
  have e7 := and7u6 hb
  have w7 : wrap64 (zs.getD 0 0 % 8) = zs.getD 0 0 % 8 := w64 (by omega)
  have hP2 := Lib.hid hP
  clear hP
  have hM2 := Lib.hid hM
  clear hM
  clear h
  generalize zs.getD 0 0 % 8 = k at *
  generalize zs.getD 0 0 = c at *
  go_enter Tryd.func15, Tryd.ntmps15
  go_upto_region 1 with fail
  generalize w.alloc (.cells z16 28) = w1 at *
  go_wp2_with (first | ((with_reducible refine (hX.out _ F.r).mono ?_); rintro e w2 ⟨rfl, R2, k2⟩; have F2 := F.read R2 k2; have c2 := R2.c2) | ((with_reducible refine (hP2.out _ F2.r).mono ?_); rintro e w3 ⟨rfl, R3, k3⟩; have F3 := F2.read R3 k3) | ((with_reducible refine store_in_as rfl _ _ rfl (in16 inZ) (in16_size _) (in16_one _) rfl rfl ?_); intro w4 kI b4; have F4 := F3.below b4) | ((with_reducible refine (hM2.out _ F4.r).mono ?_); rintro e w5 ⟨rfl, R5, k5⟩; have F5 := F4.read R5 k5) | ((with_reducible refine store_inR rfl _ _ rfl _ (in16 i) z16 rfl rfl F5.z (in16_size _) z16_size (in16_one _) ?_); intro wz kz bz hz; have FZ := F5.done kz bz))
  exact bodyPost_ret (v := .tuple #[inV i, .bool (x)]) (results_ct rfl _ _ w.heap.size 28 (in16 i) (0, 0) _ _ rfl rfl FZ.z.h Tryd.underlying28 rfl (szIn inZ)) rfl ⟨rfl, FZ.r, FZ.k⟩
end
end Go.Proofs.YtlooobehlhgccaaDoor
