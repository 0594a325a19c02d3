/- The reference's ModRM. -/
import Derived.Test.YtlooobehlhgccaaDoorR1
import Derived.Test.YtlooobehlhgccaaDoorD1
namespace Go.Proofs.YtlooobehlhgccaaDoor
open Go.RowKit
set_option linter.unusedVariables false
set_option linter.unusedSimpArgs false
set_option linter.unusedSectionVars false

def distR (zs : List Int) (p : Nat) (sh : Bool) (how b x s : Int) : On × Nat × Bool :=
  if how = 1 then (onMem (sx (zs.getD p 0)) b x s, nx zs p 1, so zs p 1 sh)
  else if how = 2 then (onMem (le4 zs p) b x s, nx zs p 4, so zs p 4 sh)
  else if b = 5 then (onMem (le4 zs p) (-1) x s, nx zs p 4, so zs p 4 sh)
  else (onMem 0 b x s, p, sh)
def placeR (zs : List Int) (p : Nat) (sh : Bool) (m : Int) : On × Nat × Bool :=
  if m / 64 % 4 = 3 then (onReg (m % 8), p, sh)
  else if m % 8 = 4 then
    (if zs.getD p 0 / 8 % 8 = 4 then distR zs (nx zs p 1) (so zs p 1 sh) (m / 64 % 4) (zs.getD p 0 % 8) (-1) 1
     else distR zs (nx zs p 1) (so zs p 1 sh) (m / 64 % 4) (zs.getD p 0 % 8) (zs.getD p 0 / 8 % 8) (2 ^ (zs.getD p 0 / 64 % 4).toNat))
  else distR zs p sh (m / 64 % 4) (m % 8) (-1) 1
theorem and7n : ∀ n : Nat, n < 256 → bits .and .i64 (n : Int) 7 = (n : Int) % 8 := of_decide_eq_true (by kernel_rfl)
theorem and7 {m : Int} (h : 0 ≤ m ∧ m ≤ 255) : bits .and .i64 m 7 = m % 8 := by
  obtain ⟨n, rfl⟩ := Int.eq_ofNat_of_zero_le h.1
  exact and7n n (by omega)
section
variable {w : World} {N B : Nat} {a : Option Addr} {len cap : Nat} {zs : List Int} {p : Nat} {sh bd : Bool}
set_option maxRecDepth 8000 in
theorem modrm_reg (R : Rs w N B a len cap zs p sh bd) (h3 : zs.getD p 0 / 64 = 3) :
    Calls Tryd.prog 31 #[rp B] w fun e w' => e = .returned (.tuple #[opV (onReg (zs.getD p 0 % 8)), .int .i64 (zs.getD p 0 / 8 % 8)]) ∧ Rs w' N B a len cap zs (nx zs p 1) (so zs p 1 sh) bd ∧ But [B] w.heap.size w w' := by
  have hb := byte_bd R p
  have hB1 := Lib.hid (fun W (R : Rs W N B a len cap zs p sh bd) => byte_any R)
  have F := RF.start R 26 z6
  have hB := R.lt
  have e7 := and7 hb
  have e8 : bits .and .i64 (zs.getD p 0 / 8) 7 = zs.getD p 0 / 8 % 8 := and7 (by omega)
  generalize zs.getD p 0 = m at *
  generalize m % 8 = r at *
  generalize m / 8 % 8 = n at *
  go_enter Tryd.func31, Tryd.ntmps31
  go_upto_region 1 with fail
  generalize w.alloc (.cells z6 26) = w1 at *
  go_upto_region 4 with ((with_reducible refine (hB1.out _ F.r).mono ?_); rintro e w2 ⟨rfl, R2, k2⟩)
  have F2 := F.read R2 k2
  have hR := Lib.hid (fun r W => reg_any r W)
  go_wp2_with (first | ((with_reducible refine (hR.out _ _).mono ?_); rintro e w3 ⟨rfl, b3⟩; have F3 := F2.below b3) | ((with_reducible refine store_opR rfl _ _ rfl _ (op6 (onReg r)) z6 rfl rfl F3.z (op6_size _) z6_size (op6_one _) ?_); intro w4 kz b4 h4; have F4 := F3.done kz b4))
  exact bodyPost_ret (v := .tuple #[opV (onReg r), .int .i64 n]) (results_ct rfl _ _ w.heap.size 26 (op6 (onReg r)) (0, 0) _ _ rfl rfl F4.z.h Tryd.underlying26 rfl (szOp onZ)) rfl ⟨rfl, F4.r, F4.k⟩
set_option maxRecDepth 8000 in
theorem modrm_no0 (R : Rs w N B a len cap zs p sh bd) (h3 : zs.getD p 0 / 64 = 0) (h4 : ¬ zs.getD p 0 % 8 = 4) (h5 : ¬ zs.getD p 0 % 8 = 5) :
    Calls Tryd.prog 31 #[rp B] w fun e w' => e = .returned (.tuple #[opV (onMem (0) (zs.getD p 0 % 8) (-1) (1)), .int .i64 (zs.getD p 0 / 8 % 8)]) ∧ Rs w' N B a len cap zs (nx zs p 1) (so zs p 1 sh) bd ∧ But [B] w.heap.size w w' := by
  have hb := byte_bd R p
  have hB1 := Lib.hid (fun W (R : Rs W N B a len cap zs p sh bd) => byte_any R)
  have F := RF.start R 26 z6
  have hB := R.lt
  have e7 := and7 hb
  have e8 : bits .and .i64 (zs.getD p 0 / 8) 7 = zs.getD p 0 / 8 % 8 := and7 (by omega)
  generalize zs.getD p 0 = m at *
  generalize m % 8 = r at *
  generalize m / 8 % 8 = n at *
  have h44 : (r == 4) = false := by simp [h4]
  have h55 : (r == 5) = false := by simp [h5]
  go_enter Tryd.func31, Tryd.ntmps31
  go_upto_region 1 with fail
  generalize w.alloc (.cells z6 26) = w1 at *
  go_upto_region 6 with (first | ((with_reducible refine (hB1.out _ F.r).mono ?_); rintro e w2 ⟨rfl, R2, k2⟩; have F2 := F.read R2 k2) | ((with_reducible refine store_op_as rfl _ _ rfl (op6 (onMem 0 r (-1) 1)) (op6_size _) (op6_one _) rfl rfl ?_); intro w3 kO b3; have F3 := F2.below b3; have hK := F2.lt))
  generalize w2.heap.size = K at *
  have hBK : B ∉ [K] ∧ K ∉ [B] := by simp; omega
  have c3b := kO.cell (i := 3) (v := .int .i64 r) rfl
  go_upto_region 17 with fail
  replace kO : Blk w3 K 26 (op6 (onMem 0 r (-1) 1)) := kO
  go_wp2_with (first | (with_reducible refine load_opR rfl _ rfl K (op6 (onMem 0 r (-1) 1)) rfl kO (op6_size _) ?_) | ((with_reducible refine store_opR rfl _ _ rfl _ (op6 (onMem 0 r (-1) 1)) z6 rfl rfl F3.z (op6_size _) z6_size (op6_one _) ?_); intro w9 kz b9 h9; have F9 := F3.done kz b9))
  exact bodyPost_ret (v := .tuple #[opV (onMem 0 r (-1) 1), .int .i64 n]) (results_ct rfl _ _ w.heap.size 26 (op6 (onMem 0 r (-1) 1)) (0, 0) _ _ rfl rfl F9.z.h Tryd.underlying26 rfl (szOp onZ)) rfl ⟨rfl, F9.r, F9.k⟩
set_option maxRecDepth 8000 in
theorem modrm_no1 (R : Rs w N B a len cap zs p sh bd) (h3 : zs.getD p 0 / 64 = 1) (h4 : ¬ zs.getD p 0 % 8 = 4) :
    Calls Tryd.prog 31 #[rp B] w fun e w' => e = .returned (.tuple #[opV (onMem (sx (zs.getD (nx zs p 1) 0)) (zs.getD p 0 % 8) (-1) (1)), .int .i64 (zs.getD p 0 / 8 % 8)]) ∧ Rs w' N B a len cap zs (nx zs (nx zs p 1) 1) (so zs (nx zs p 1) 1 (so zs p 1 sh)) bd ∧ But [B] w.heap.size w w' := by
  have hb := byte_bd R p
  have hB1 := Lib.hid (fun W (R : Rs W N B a len cap zs p sh bd) => byte_any R)
  have F := RF.start R 26 z6
  have hB := R.lt
  have e7 := and7 hb
  have e8 : bits .and .i64 (zs.getD p 0 / 8) 7 = zs.getD p 0 / 8 % 8 := and7 (by omega)
  have hX := Lib.hid (fun W (R : Rs W N B a len cap zs (nx zs p 1) (so zs p 1 sh) bd) => small_any R)
  generalize sx (zs.getD (nx zs p 1) 0) = v at *
  generalize zs.getD p 0 = m at *
  generalize m % 8 = r at *
  generalize m / 8 % 8 = n at *
  have h44 : (r == 4) = false := by simp [h4]
  go_enter Tryd.func31, Tryd.ntmps31
  go_upto_region 1 with fail
  generalize w.alloc (.cells z6 26) = w1 at *
  go_upto_region 6 with (first | ((with_reducible refine (hB1.out _ F.r).mono ?_); rintro e w2 ⟨rfl, R2, k2⟩; have F2 := F.read R2 k2) | ((with_reducible refine store_op_as rfl _ _ rfl (op6 (onMem 0 r (-1) 1)) (op6_size _) (op6_one _) rfl rfl ?_); intro w3 kO b3; have F3 := F2.below b3; have hK := F2.lt))
  generalize w2.heap.size = K at *
  have hBK : B ∉ [K] ∧ K ∉ [B] := by simp; omega
  go_upto_region 14 with fail
  go_upto_region 17 with ((with_reducible refine (hX.out _ F3.r).mono ?_); rintro e w7 ⟨rfl, R7, k7⟩; have F7 := F3.read R7 k7; have kO7 := kO.but k7 kO.lt hBK.2; have c2 := kO7.cell (i := 2) (v := .int .u32 0) rfl; have f2 := kO7.fr 2; have c3 := kO7.cell (i := 3) rfl; have f3 := kO7.fr 3)
  have F8 := F7.cell hK 2 (.int .u32 v)
  have kO8 := kO7.setM v
  generalize w7.setCell ⟨K, 2, none⟩ (.int .u32 v) = w8 at *
  clear c2 f2 c3 f3
  replace kO8 : Blk w8 K 26 (op6 (onMem v r (-1) 1)) := kO8
  go_wp2_with (first | (with_reducible refine load_opR rfl _ rfl K (op6 (onMem v r (-1) 1)) rfl kO8 (op6_size _) ?_) | ((with_reducible refine store_opR rfl _ _ rfl _ (op6 (onMem v r (-1) 1)) z6 rfl rfl F8.z (op6_size _) z6_size (op6_one _) ?_); intro w9 kz b9 h9; have F9 := F8.done kz b9))
  exact bodyPost_ret (v := .tuple #[opV (onMem v r (-1) 1), .int .i64 n]) (results_ct rfl _ _ w.heap.size 26 (op6 (onMem v r (-1) 1)) (0, 0) _ _ rfl rfl F9.z.h Tryd.underlying26 rfl (szOp onZ)) rfl ⟨rfl, F9.r, F9.k⟩
set_option maxRecDepth 8000 in
theorem modrm_no2 (R : Rs w N B a len cap zs p sh bd) (h3 : zs.getD p 0 / 64 = 2) (h4 : ¬ zs.getD p 0 % 8 = 4) :
    Calls Tryd.prog 31 #[rp B] w fun e w' => e = .returned (.tuple #[opV (onMem (le4 zs (nx zs p 1)) (zs.getD p 0 % 8) (-1) (1)), .int .i64 (zs.getD p 0 / 8 % 8)]) ∧ Rs w' N B a len cap zs (nx zs (nx zs p 1) 4) (so zs (nx zs p 1) 4 (so zs p 1 sh)) bd ∧ But [B] w.heap.size w w' := by
  have hb := byte_bd R p
  have hB1 := Lib.hid (fun W (R : Rs W N B a len cap zs p sh bd) => byte_any R)
  have F := RF.start R 26 z6
  have hB := R.lt
  have e7 := and7 hb
  have e8 : bits .and .i64 (zs.getD p 0 / 8) 7 = zs.getD p 0 / 8 % 8 := and7 (by omega)
  have hX := Lib.hid (fun W (R : Rs W N B a len cap zs (nx zs p 1) (so zs p 1 sh) bd) => word_ref R)
  generalize le4 zs (nx zs p 1) = v at *
  generalize zs.getD p 0 = m at *
  generalize m % 8 = r at *
  generalize m / 8 % 8 = n at *
  have h44 : (r == 4) = false := by simp [h4]
  go_enter Tryd.func31, Tryd.ntmps31
  go_upto_region 1 with fail
  generalize w.alloc (.cells z6 26) = w1 at *
  go_upto_region 6 with (first | ((with_reducible refine (hB1.out _ F.r).mono ?_); rintro e w2 ⟨rfl, R2, k2⟩; have F2 := F.read R2 k2) | ((with_reducible refine store_op_as rfl _ _ rfl (op6 (onMem 0 r (-1) 1)) (op6_size _) (op6_one _) rfl rfl ?_); intro w3 kO b3; have F3 := F2.below b3; have hK := F2.lt))
  generalize w2.heap.size = K at *
  have hBK : B ∉ [K] ∧ K ∉ [B] := by simp; omega
  go_upto_region 16 with fail
  go_upto_region 17 with ((with_reducible refine (hX.out _ F3.r).mono ?_); rintro e w7 ⟨rfl, R7, k7⟩; have F7 := F3.read R7 k7; have kO7 := kO.but k7 kO.lt hBK.2; have c2 := kO7.cell (i := 2) (v := .int .u32 0) rfl; have f2 := kO7.fr 2; have c3 := kO7.cell (i := 3) rfl; have f3 := kO7.fr 3)
  have F8 := F7.cell hK 2 (.int .u32 v)
  have kO8 := kO7.setM v
  generalize w7.setCell ⟨K, 2, none⟩ (.int .u32 v) = w8 at *
  clear c2 f2 c3 f3
  replace kO8 : Blk w8 K 26 (op6 (onMem v r (-1) 1)) := kO8
  go_wp2_with (first | (with_reducible refine load_opR rfl _ rfl K (op6 (onMem v r (-1) 1)) rfl kO8 (op6_size _) ?_) | ((with_reducible refine store_opR rfl _ _ rfl _ (op6 (onMem v r (-1) 1)) z6 rfl rfl F8.z (op6_size _) z6_size (op6_one _) ?_); intro w9 kz b9 h9; have F9 := F8.done kz b9))
  exact bodyPost_ret (v := .tuple #[opV (onMem v r (-1) 1), .int .i64 n]) (results_ct rfl _ _ w.heap.size 26 (op6 (onMem v r (-1) 1)) (0, 0) _ _ rfl rfl F9.z.h Tryd.underlying26 rfl (szOp onZ)) rfl ⟨rfl, F9.r, F9.k⟩
set_option maxRecDepth 8000 in
theorem modrm_no5 (R : Rs w N B a len cap zs p sh bd) (h3 : zs.getD p 0 / 64 = 0) (h4 : ¬ zs.getD p 0 % 8 = 4) (h5 : zs.getD p 0 % 8 = 5) :
    Calls Tryd.prog 31 #[rp B] w fun e w' => e = .returned (.tuple #[opV (onMem (le4 zs (nx zs p 1)) (-1) (-1) (1)), .int .i64 (zs.getD p 0 / 8 % 8)]) ∧ Rs w' N B a len cap zs (nx zs (nx zs p 1) 4) (so zs (nx zs p 1) 4 (so zs p 1 sh)) bd ∧ But [B] w.heap.size w w' := by
  have hb := byte_bd R p
  have hB1 := Lib.hid (fun W (R : Rs W N B a len cap zs p sh bd) => byte_any R)
  have F := RF.start R 26 z6
  have hB := R.lt
  have e7 := and7 hb
  have e8 : bits .and .i64 (zs.getD p 0 / 8) 7 = zs.getD p 0 / 8 % 8 := and7 (by omega)
  have hX := Lib.hid (fun W (R : Rs W N B a len cap zs (nx zs p 1) (so zs p 1 sh) bd) => word_ref R)
  generalize le4 zs (nx zs p 1) = v at *
  generalize zs.getD p 0 = m at *
  generalize m % 8 = r at *
  generalize m / 8 % 8 = n at *
  have h44 : (r == 4) = false := by simp [h4]
  subst h5
  go_enter Tryd.func31, Tryd.ntmps31
  go_upto_region 1 with fail
  generalize w.alloc (.cells z6 26) = w1 at *
  go_upto_region 6 with (first | ((with_reducible refine (hB1.out _ F.r).mono ?_); rintro e w2 ⟨rfl, R2, k2⟩; have F2 := F.read R2 k2) | ((with_reducible refine store_op_as rfl _ _ rfl (op6 (onMem 0 5 (-1) 1)) (op6_size _) (op6_one _) rfl rfl ?_); intro w3 kO b3; have F3 := F2.below b3; have hK := F2.lt))
  generalize w2.heap.size = K at *
  have hBK : B ∉ [K] ∧ K ∉ [B] := by simp; omega
  have c3b := kO.cell (i := 3) (v := .int .i64 5) rfl
  go_upto_region 12 with fail
  go_upto_region 17 with ((with_reducible refine (hX.out _ F3.r).mono ?_); rintro e w7 ⟨rfl, R7, k7⟩; have F7 := F3.read R7 k7; have kO7 := kO.but k7 kO.lt hBK.2; have c2 := kO7.cell (i := 2) (v := .int .u32 0) rfl; have f2 := kO7.fr 2; have c3 := kO7.cell (i := 3) rfl; have f3 := kO7.fr 3)
  have F8 := (F7.cell hK 3 (.int .i64 (-1))).cell hK 2 (.int .u32 v)
  have kO8 := (kO7.setB (-1)).setM v
  generalize (w7.setCell ⟨K, 3, none⟩ (.int .i64 (-1))).setCell ⟨K, 2, none⟩ (.int .u32 v) = w8 at *
  clear c2 f2 c3 f3
  replace kO8 : Blk w8 K 26 (op6 (onMem v (-1) (-1) 1)) := kO8
  go_wp2_with (first | (with_reducible refine load_opR rfl _ rfl K (op6 (onMem v (-1) (-1) 1)) rfl kO8 (op6_size _) ?_) | ((with_reducible refine store_opR rfl _ _ rfl _ (op6 (onMem v (-1) (-1) 1)) z6 rfl rfl F8.z (op6_size _) z6_size (op6_one _) ?_); intro w9 kz b9 h9; have F9 := F8.done kz b9))
  exact bodyPost_ret (v := .tuple #[opV (onMem v (-1) (-1) 1), .int .i64 n]) (results_ct rfl _ _ w.heap.size 26 (op6 (onMem v (-1) (-1) 1)) (0, 0) _ _ rfl rfl F9.z.h Tryd.underlying26 rfl (szOp onZ)) rfl ⟨rfl, F9.r, F9.k⟩
set_option maxRecDepth 8000 in
theorem modrm_noix0 (R : Rs w N B a len cap zs p sh bd) (h3 : zs.getD p 0 / 64 = 0) (h4 : zs.getD p 0 % 8 = 4) (hx : zs.getD (nx zs p 1) 0 / 8 % 8 = 4) (h5 : ¬ zs.getD (nx zs p 1) 0 % 8 = 5) :
    Calls Tryd.prog 31 #[rp B] w fun e w' => e = .returned (.tuple #[opV (onMem (0) (zs.getD (nx zs p 1) 0 % 8) (-1) (1)), .int .i64 (zs.getD p 0 / 8 % 8)]) ∧ Rs w' N B a len cap zs (nx zs (nx zs p 1) 1) (so zs (nx zs p 1) 1 (so zs p 1 sh)) bd ∧ But [B] w.heap.size w w' := by
  have hb := byte_bd R p
  have hB1 := Lib.hid (fun W (R : Rs W N B a len cap zs p sh bd) => byte_any R)
  have F := RF.start R 26 z6
  have hB := R.lt
  have e7 := and7 hb
  have e8 : bits .and .i64 (zs.getD p 0 / 8) 7 = zs.getD p 0 / 8 % 8 := and7 (by omega)
  have hs := byte_bd R (nx zs p 1)
  have hB2 := Lib.hid (fun W (R : Rs W N B a len cap zs (nx zs p 1) (so zs p 1 sh) bd) => byte_any R)
  have s7 := and7 hs
  have s8 : bits .and .i64 (zs.getD (nx zs p 1) 0 / 8) 7 = zs.getD (nx zs p 1) 0 / 8 % 8 := and7 (by omega)
  generalize zs.getD (nx zs p 1) 0 = s at *
  generalize s % 8 = b at *
  generalize s / 8 % 8 = x at *
  generalize zs.getD p 0 = m at *
  generalize m % 8 = r at *
  generalize m / 8 % 8 = n at *
  subst h4
  subst hx
  have h55 : (b == 5) = false := by simp [h5]
  go_enter Tryd.func31, Tryd.ntmps31
  go_upto_region 1 with fail
  generalize w.alloc (.cells z6 26) = w1 at *
  go_upto_region 6 with (first | ((with_reducible refine (hB1.out _ F.r).mono ?_); rintro e w2 ⟨rfl, R2, k2⟩; have F2 := F.read R2 k2) | ((with_reducible refine store_op_as rfl _ _ rfl (op6 (onMem 0 4 (-1) 1)) (op6_size _) (op6_one _) rfl rfl ?_); intro w3 kO b3; have F3 := F2.below b3; have hK := F2.lt))
  generalize w2.heap.size = K at *
  have hBK : B ∉ [K] ∧ K ∉ [B] := by simp; omega
  go_upto_region 8 with ((with_reducible refine (hB2.out _ F3.r).mono ?_); rintro e w4 ⟨rfl, R4, k4⟩; have F4 := F3.read R4 k4; have kO4 := kO.but k4 kO.lt hBK.2)
  have c3kO4 := kO4.cell (i := 3) rfl
  have f3kO4 := kO4.fr 3
  go_upto_region 9 with fail
  have F5 := F4.cell hK 3 (.int .i64 b)
  have kO5 := kO4.setB b
  generalize w4.setCell ⟨K, 3, none⟩ (.int .i64 b) = w5 at *
  clear c3kO4 f3kO4
  have c3b := kO5.cell (i := 3) (v := .int .i64 b) rfl
  go_upto_region 17 with fail
  replace kO5 : Blk w5 K 26 (op6 (onMem 0 b (-1) 1)) := kO5
  go_wp2_with (first | (with_reducible refine load_opR rfl _ rfl K (op6 (onMem 0 b (-1) 1)) rfl kO5 (op6_size _) ?_) | ((with_reducible refine store_opR rfl _ _ rfl _ (op6 (onMem 0 b (-1) 1)) z6 rfl rfl F5.z (op6_size _) z6_size (op6_one _) ?_); intro w9 kz b9 h9; have F9 := F5.done kz b9))
  exact bodyPost_ret (v := .tuple #[opV (onMem 0 b (-1) 1), .int .i64 n]) (results_ct rfl _ _ w.heap.size 26 (op6 (onMem 0 b (-1) 1)) (0, 0) _ _ rfl rfl F9.z.h Tryd.underlying26 rfl (szOp onZ)) rfl ⟨rfl, F9.r, F9.k⟩
set_option maxRecDepth 8000 in
theorem modrm_noix1 (R : Rs w N B a len cap zs p sh bd) (h3 : zs.getD p 0 / 64 = 1) (h4 : zs.getD p 0 % 8 = 4) (hx : zs.getD (nx zs p 1) 0 / 8 % 8 = 4) :
    Calls Tryd.prog 31 #[rp B] w fun e w' => e = .returned (.tuple #[opV (onMem (sx (zs.getD (nx zs (nx zs p 1) 1) 0)) (zs.getD (nx zs p 1) 0 % 8) (-1) (1)), .int .i64 (zs.getD p 0 / 8 % 8)]) ∧ Rs w' N B a len cap zs (nx zs (nx zs (nx zs p 1) 1) 1) (so zs (nx zs (nx zs p 1) 1) 1 (so zs (nx zs p 1) 1 (so zs p 1 sh))) bd ∧ But [B] w.heap.size w w' := by
  have hb := byte_bd R p
  have hB1 := Lib.hid (fun W (R : Rs W N B a len cap zs p sh bd) => byte_any R)
  have F := RF.start R 26 z6
  have hB := R.lt
  have e7 := and7 hb
  have e8 : bits .and .i64 (zs.getD p 0 / 8) 7 = zs.getD p 0 / 8 % 8 := and7 (by omega)
  have hs := byte_bd R (nx zs p 1)
  have hB2 := Lib.hid (fun W (R : Rs W N B a len cap zs (nx zs p 1) (so zs p 1 sh) bd) => byte_any R)
  have s7 := and7 hs
  have s8 : bits .and .i64 (zs.getD (nx zs p 1) 0 / 8) 7 = zs.getD (nx zs p 1) 0 / 8 % 8 := and7 (by omega)
  have hX := Lib.hid (fun W (R : Rs W N B a len cap zs (nx zs (nx zs p 1) 1) (so zs (nx zs p 1) 1 (so zs p 1 sh)) bd) => small_any R)
  generalize sx (zs.getD (nx zs (nx zs p 1) 1) 0) = v at *
  generalize zs.getD (nx zs p 1) 0 = s at *
  generalize s % 8 = b at *
  generalize s / 8 % 8 = x at *
  generalize zs.getD p 0 = m at *
  generalize m % 8 = r at *
  generalize m / 8 % 8 = n at *
  subst h4
  subst hx
  go_enter Tryd.func31, Tryd.ntmps31
  go_upto_region 1 with fail
  generalize w.alloc (.cells z6 26) = w1 at *
  go_upto_region 6 with (first | ((with_reducible refine (hB1.out _ F.r).mono ?_); rintro e w2 ⟨rfl, R2, k2⟩; have F2 := F.read R2 k2) | ((with_reducible refine store_op_as rfl _ _ rfl (op6 (onMem 0 4 (-1) 1)) (op6_size _) (op6_one _) rfl rfl ?_); intro w3 kO b3; have F3 := F2.below b3; have hK := F2.lt))
  generalize w2.heap.size = K at *
  have hBK : B ∉ [K] ∧ K ∉ [B] := by simp; omega
  go_upto_region 8 with ((with_reducible refine (hB2.out _ F3.r).mono ?_); rintro e w4 ⟨rfl, R4, k4⟩; have F4 := F3.read R4 k4; have kO4 := kO.but k4 kO.lt hBK.2)
  have c3kO4 := kO4.cell (i := 3) rfl
  have f3kO4 := kO4.fr 3
  go_upto_region 9 with fail
  have F5 := F4.cell hK 3 (.int .i64 b)
  have kO5 := kO4.setB b
  generalize w4.setCell ⟨K, 3, none⟩ (.int .i64 b) = w5 at *
  clear c3kO4 f3kO4
  go_upto_region 14 with fail
  go_upto_region 17 with ((with_reducible refine (hX.out _ F5.r).mono ?_); rintro e w7 ⟨rfl, R7, k7⟩; have F7 := F5.read R7 k7; have kO7 := kO5.but k7 kO5.lt hBK.2; have c2 := kO7.cell (i := 2) (v := .int .u32 0) rfl; have f2 := kO7.fr 2; have c3 := kO7.cell (i := 3) rfl; have f3 := kO7.fr 3)
  have F8 := F7.cell hK 2 (.int .u32 v)
  have kO8 := kO7.setM v
  generalize w7.setCell ⟨K, 2, none⟩ (.int .u32 v) = w8 at *
  clear c2 f2 c3 f3
  replace kO8 : Blk w8 K 26 (op6 (onMem v b (-1) 1)) := kO8
  go_wp2_with (first | (with_reducible refine load_opR rfl _ rfl K (op6 (onMem v b (-1) 1)) rfl kO8 (op6_size _) ?_) | ((with_reducible refine store_opR rfl _ _ rfl _ (op6 (onMem v b (-1) 1)) z6 rfl rfl F8.z (op6_size _) z6_size (op6_one _) ?_); intro w9 kz b9 h9; have F9 := F8.done kz b9))
  exact bodyPost_ret (v := .tuple #[opV (onMem v b (-1) 1), .int .i64 n]) (results_ct rfl _ _ w.heap.size 26 (op6 (onMem v b (-1) 1)) (0, 0) _ _ rfl rfl F9.z.h Tryd.underlying26 rfl (szOp onZ)) rfl ⟨rfl, F9.r, F9.k⟩
set_option maxRecDepth 8000 in
theorem modrm_noix2 (R : Rs w N B a len cap zs p sh bd) (h3 : zs.getD p 0 / 64 = 2) (h4 : zs.getD p 0 % 8 = 4) (hx : zs.getD (nx zs p 1) 0 / 8 % 8 = 4) :
    Calls Tryd.prog 31 #[rp B] w fun e w' => e = .returned (.tuple #[opV (onMem (le4 zs (nx zs (nx zs p 1) 1)) (zs.getD (nx zs p 1) 0 % 8) (-1) (1)), .int .i64 (zs.getD p 0 / 8 % 8)]) ∧ Rs w' N B a len cap zs (nx zs (nx zs (nx zs p 1) 1) 4) (so zs (nx zs (nx zs p 1) 1) 4 (so zs (nx zs p 1) 1 (so zs p 1 sh))) bd ∧ But [B] w.heap.size w w' := by
  have hb := byte_bd R p
  have hB1 := Lib.hid (fun W (R : Rs W N B a len cap zs p sh bd) => byte_any R)
  have F := RF.start R 26 z6
  have hB := R.lt
  have e7 := and7 hb
  have e8 : bits .and .i64 (zs.getD p 0 / 8) 7 = zs.getD p 0 / 8 % 8 := and7 (by omega)
  have hs := byte_bd R (nx zs p 1)
  have hB2 := Lib.hid (fun W (R : Rs W N B a len cap zs (nx zs p 1) (so zs p 1 sh) bd) => byte_any R)
  have s7 := and7 hs
  have s8 : bits .and .i64 (zs.getD (nx zs p 1) 0 / 8) 7 = zs.getD (nx zs p 1) 0 / 8 % 8 := and7 (by omega)
  have hX := Lib.hid (fun W (R : Rs W N B a len cap zs (nx zs (nx zs p 1) 1) (so zs (nx zs p 1) 1 (so zs p 1 sh)) bd) => word_ref R)
  generalize le4 zs (nx zs (nx zs p 1) 1) = v at *
  generalize zs.getD (nx zs p 1) 0 = s at *
  generalize s % 8 = b at *
  generalize s / 8 % 8 = x at *
  generalize zs.getD p 0 = m at *
  generalize m % 8 = r at *
  generalize m / 8 % 8 = n at *
  subst h4
  subst hx
  go_enter Tryd.func31, Tryd.ntmps31
  go_upto_region 1 with fail
  generalize w.alloc (.cells z6 26) = w1 at *
  go_upto_region 6 with (first | ((with_reducible refine (hB1.out _ F.r).mono ?_); rintro e w2 ⟨rfl, R2, k2⟩; have F2 := F.read R2 k2) | ((with_reducible refine store_op_as rfl _ _ rfl (op6 (onMem 0 4 (-1) 1)) (op6_size _) (op6_one _) rfl rfl ?_); intro w3 kO b3; have F3 := F2.below b3; have hK := F2.lt))
  generalize w2.heap.size = K at *
  have hBK : B ∉ [K] ∧ K ∉ [B] := by simp; omega
  go_upto_region 8 with ((with_reducible refine (hB2.out _ F3.r).mono ?_); rintro e w4 ⟨rfl, R4, k4⟩; have F4 := F3.read R4 k4; have kO4 := kO.but k4 kO.lt hBK.2)
  have c3kO4 := kO4.cell (i := 3) rfl
  have f3kO4 := kO4.fr 3
  go_upto_region 9 with fail
  have F5 := F4.cell hK 3 (.int .i64 b)
  have kO5 := kO4.setB b
  generalize w4.setCell ⟨K, 3, none⟩ (.int .i64 b) = w5 at *
  clear c3kO4 f3kO4
  go_upto_region 16 with fail
  go_upto_region 17 with ((with_reducible refine (hX.out _ F5.r).mono ?_); rintro e w7 ⟨rfl, R7, k7⟩; have F7 := F5.read R7 k7; have kO7 := kO5.but k7 kO5.lt hBK.2; have c2 := kO7.cell (i := 2) (v := .int .u32 0) rfl; have f2 := kO7.fr 2; have c3 := kO7.cell (i := 3) rfl; have f3 := kO7.fr 3)
  have F8 := F7.cell hK 2 (.int .u32 v)
  have kO8 := kO7.setM v
  generalize w7.setCell ⟨K, 2, none⟩ (.int .u32 v) = w8 at *
  clear c2 f2 c3 f3
  replace kO8 : Blk w8 K 26 (op6 (onMem v b (-1) 1)) := kO8
  go_wp2_with (first | (with_reducible refine load_opR rfl _ rfl K (op6 (onMem v b (-1) 1)) rfl kO8 (op6_size _) ?_) | ((with_reducible refine store_opR rfl _ _ rfl _ (op6 (onMem v b (-1) 1)) z6 rfl rfl F8.z (op6_size _) z6_size (op6_one _) ?_); intro w9 kz b9 h9; have F9 := F8.done kz b9))
  exact bodyPost_ret (v := .tuple #[opV (onMem v b (-1) 1), .int .i64 n]) (results_ct rfl _ _ w.heap.size 26 (op6 (onMem v b (-1) 1)) (0, 0) _ _ rfl rfl F9.z.h Tryd.underlying26 rfl (szOp onZ)) rfl ⟨rfl, F9.r, F9.k⟩
set_option maxRecDepth 8000 in
theorem modrm_noix5 (R : Rs w N B a len cap zs p sh bd) (h3 : zs.getD p 0 / 64 = 0) (h4 : zs.getD p 0 % 8 = 4) (hx : zs.getD (nx zs p 1) 0 / 8 % 8 = 4) (h5 : zs.getD (nx zs p 1) 0 % 8 = 5) :
    Calls Tryd.prog 31 #[rp B] w fun e w' => e = .returned (.tuple #[opV (onMem (le4 zs (nx zs (nx zs p 1) 1)) (-1) (-1) (1)), .int .i64 (zs.getD p 0 / 8 % 8)]) ∧ Rs w' N B a len cap zs (nx zs (nx zs (nx zs p 1) 1) 4) (so zs (nx zs (nx zs p 1) 1) 4 (so zs (nx zs p 1) 1 (so zs p 1 sh))) bd ∧ But [B] w.heap.size w w' := by
  have hb := byte_bd R p
  have hB1 := Lib.hid (fun W (R : Rs W N B a len cap zs p sh bd) => byte_any R)
  have F := RF.start R 26 z6
  have hB := R.lt
  have e7 := and7 hb
  have e8 : bits .and .i64 (zs.getD p 0 / 8) 7 = zs.getD p 0 / 8 % 8 := and7 (by omega)
  have hs := byte_bd R (nx zs p 1)
  have hB2 := Lib.hid (fun W (R : Rs W N B a len cap zs (nx zs p 1) (so zs p 1 sh) bd) => byte_any R)
  have s7 := and7 hs
  have s8 : bits .and .i64 (zs.getD (nx zs p 1) 0 / 8) 7 = zs.getD (nx zs p 1) 0 / 8 % 8 := and7 (by omega)
  have hX := Lib.hid (fun W (R : Rs W N B a len cap zs (nx zs (nx zs p 1) 1) (so zs (nx zs p 1) 1 (so zs p 1 sh)) bd) => word_ref R)
  generalize le4 zs (nx zs (nx zs p 1) 1) = v at *
  generalize zs.getD (nx zs p 1) 0 = s at *
  generalize s % 8 = b at *
  generalize s / 8 % 8 = x at *
  generalize zs.getD p 0 = m at *
  generalize m % 8 = r at *
  generalize m / 8 % 8 = n at *
  subst h4
  subst hx
  subst h5
  go_enter Tryd.func31, Tryd.ntmps31
  go_upto_region 1 with fail
  generalize w.alloc (.cells z6 26) = w1 at *
  go_upto_region 6 with (first | ((with_reducible refine (hB1.out _ F.r).mono ?_); rintro e w2 ⟨rfl, R2, k2⟩; have F2 := F.read R2 k2) | ((with_reducible refine store_op_as rfl _ _ rfl (op6 (onMem 0 4 (-1) 1)) (op6_size _) (op6_one _) rfl rfl ?_); intro w3 kO b3; have F3 := F2.below b3; have hK := F2.lt))
  generalize w2.heap.size = K at *
  have hBK : B ∉ [K] ∧ K ∉ [B] := by simp; omega
  go_upto_region 8 with ((with_reducible refine (hB2.out _ F3.r).mono ?_); rintro e w4 ⟨rfl, R4, k4⟩; have F4 := F3.read R4 k4; have kO4 := kO.but k4 kO.lt hBK.2)
  have c3kO4 := kO4.cell (i := 3) rfl
  have f3kO4 := kO4.fr 3
  go_upto_region 9 with fail
  have F5 := F4.cell hK 3 (.int .i64 5)
  have kO5 := kO4.setB 5
  generalize w4.setCell ⟨K, 3, none⟩ (.int .i64 5) = w5 at *
  clear c3kO4 f3kO4
  have c3b := kO5.cell (i := 3) (v := .int .i64 5) rfl
  go_upto_region 12 with fail
  go_upto_region 17 with ((with_reducible refine (hX.out _ F5.r).mono ?_); rintro e w7 ⟨rfl, R7, k7⟩; have F7 := F5.read R7 k7; have kO7 := kO5.but k7 kO5.lt hBK.2; have c2 := kO7.cell (i := 2) (v := .int .u32 0) rfl; have f2 := kO7.fr 2; have c3 := kO7.cell (i := 3) rfl; have f3 := kO7.fr 3)
  have F8 := (F7.cell hK 3 (.int .i64 (-1))).cell hK 2 (.int .u32 v)
  have kO8 := (kO7.setB (-1)).setM v
  generalize (w7.setCell ⟨K, 3, none⟩ (.int .i64 (-1))).setCell ⟨K, 2, none⟩ (.int .u32 v) = w8 at *
  clear c2 f2 c3 f3
  replace kO8 : Blk w8 K 26 (op6 (onMem v (-1) (-1) 1)) := kO8
  go_wp2_with (first | (with_reducible refine load_opR rfl _ rfl K (op6 (onMem v (-1) (-1) 1)) rfl kO8 (op6_size _) ?_) | ((with_reducible refine store_opR rfl _ _ rfl _ (op6 (onMem v (-1) (-1) 1)) z6 rfl rfl F8.z (op6_size _) z6_size (op6_one _) ?_); intro w9 kz b9 h9; have F9 := F8.done kz b9))
  exact bodyPost_ret (v := .tuple #[opV (onMem v (-1) (-1) 1), .int .i64 n]) (results_ct rfl _ _ w.heap.size 26 (op6 (onMem v (-1) (-1) 1)) (0, 0) _ _ rfl rfl F9.z.h Tryd.underlying26 rfl (szOp onZ)) rfl ⟨rfl, F9.r, F9.k⟩
set_option maxRecDepth 8000 in
theorem modrm_ix0 (R : Rs w N B a len cap zs p sh bd) (h3 : zs.getD p 0 / 64 = 0) (h4 : zs.getD p 0 % 8 = 4) (hx : ¬ zs.getD (nx zs p 1) 0 / 8 % 8 = 4) (h5 : ¬ zs.getD (nx zs p 1) 0 % 8 = 5) :
    Calls Tryd.prog 31 #[rp B] w fun e w' => e = .returned (.tuple #[opV (onMem (0) (zs.getD (nx zs p 1) 0 % 8) (zs.getD (nx zs p 1) 0 / 8 % 8) (2 ^ (zs.getD (nx zs p 1) 0 / 64 % 4).toNat)), .int .i64 (zs.getD p 0 / 8 % 8)]) ∧ Rs w' N B a len cap zs (nx zs (nx zs p 1) 1) (so zs (nx zs p 1) 1 (so zs p 1 sh)) bd ∧ But [B] w.heap.size w w' := by
  have hb := byte_bd R p
  have hB1 := Lib.hid (fun W (R : Rs W N B a len cap zs p sh bd) => byte_any R)
  have F := RF.start R 26 z6
  have hB := R.lt
  have e7 := and7 hb
  have e8 : bits .and .i64 (zs.getD p 0 / 8) 7 = zs.getD p 0 / 8 % 8 := and7 (by omega)
  have hs := byte_bd R (nx zs p 1)
  have hB2 := Lib.hid (fun W (R : Rs W N B a len cap zs (nx zs p 1) (so zs p 1 sh) bd) => byte_any R)
  have s7 := and7 hs
  have s8 : bits .and .i64 (zs.getD (nx zs p 1) 0 / 8) 7 = zs.getD (nx zs p 1) 0 / 8 % 8 := and7 (by omega)
  have hsc : (2 : Int) ^ (zs.getD (nx zs p 1) 0 / 64).toNat % 4294967296 = 2 ^ (zs.getD (nx zs p 1) 0 / 64 % 4).toNat := by
    rw [show zs.getD (nx zs p 1) 0 / 64 % 4 = zs.getD (nx zs p 1) 0 / 64 by omega]
    rcases scale_ok (zs.getD (nx zs p 1) 0 / 64) (by omega) with h | h | h | h <;> rw [h] <;> decide
  generalize (2 : Int) ^ (zs.getD (nx zs p 1) 0 / 64 % 4).toNat = sc at *
  generalize zs.getD (nx zs p 1) 0 = s at *
  generalize s % 8 = b at *
  generalize s / 8 % 8 = x at *
  generalize zs.getD p 0 = m at *
  generalize m % 8 = r at *
  generalize m / 8 % 8 = n at *
  subst h4
  have hxx : (x != 4) = true := by simp [hx]
  have h55 : (b == 5) = false := by simp [h5]
  go_enter Tryd.func31, Tryd.ntmps31
  go_upto_region 1 with fail
  generalize w.alloc (.cells z6 26) = w1 at *
  go_upto_region 6 with (first | ((with_reducible refine (hB1.out _ F.r).mono ?_); rintro e w2 ⟨rfl, R2, k2⟩; have F2 := F.read R2 k2) | ((with_reducible refine store_op_as rfl _ _ rfl (op6 (onMem 0 4 (-1) 1)) (op6_size _) (op6_one _) rfl rfl ?_); intro w3 kO b3; have F3 := F2.below b3; have hK := F2.lt))
  generalize w2.heap.size = K at *
  have hBK : B ∉ [K] ∧ K ∉ [B] := by simp; omega
  go_upto_region 8 with ((with_reducible refine (hB2.out _ F3.r).mono ?_); rintro e w4 ⟨rfl, R4, k4⟩; have F4 := F3.read R4 k4; have kO4 := kO.but k4 kO.lt hBK.2)
  have c3kO4 := kO4.cell (i := 3) rfl
  have f3kO4 := kO4.fr 3
  go_upto_region 9 with fail
  have F5 := F4.cell hK 3 (.int .i64 b)
  have kO5 := kO4.setB b
  generalize w4.setCell ⟨K, 3, none⟩ (.int .i64 b) = w5 at *
  clear c3kO4 f3kO4
  have c4kO5 := kO5.cell (i := 4) rfl
  have c5kO5 := kO5.cell (i := 5) rfl
  have f4kO5 := kO5.fr 4
  have f5kO5 := kO5.fr 5
  go_upto_region 11 with fail
  have F6 := (F5.cell hK 4 (.int .i64 x)).cell hK 5 (.int .u32 (sc))
  have kO6 := (kO5.setX x).setS (sc)
  generalize (w5.setCell ⟨K, 4, none⟩ (.int .i64 x)).setCell ⟨K, 5, none⟩ (.int .u32 (sc)) = w6 at *
  clear c4kO5 f4kO5 c5kO5 f5kO5
  have c3b := kO6.cell (i := 3) (v := .int .i64 b) rfl
  go_upto_region 17 with fail
  replace kO6 : Blk w6 K 26 (op6 (onMem 0 b x (sc))) := kO6
  go_wp2_with (first | (with_reducible refine load_opR rfl _ rfl K (op6 (onMem 0 b x (sc))) rfl kO6 (op6_size _) ?_) | ((with_reducible refine store_opR rfl _ _ rfl _ (op6 (onMem 0 b x (sc))) z6 rfl rfl F6.z (op6_size _) z6_size (op6_one _) ?_); intro w9 kz b9 h9; have F9 := F6.done kz b9))
  exact bodyPost_ret (v := .tuple #[opV (onMem 0 b x (sc)), .int .i64 n]) (results_ct rfl _ _ w.heap.size 26 (op6 (onMem 0 b x (sc))) (0, 0) _ _ rfl rfl F9.z.h Tryd.underlying26 rfl (szOp onZ)) rfl ⟨rfl, F9.r, F9.k⟩
set_option maxRecDepth 8000 in
theorem modrm_ix1 (R : Rs w N B a len cap zs p sh bd) (h3 : zs.getD p 0 / 64 = 1) (h4 : zs.getD p 0 % 8 = 4) (hx : ¬ zs.getD (nx zs p 1) 0 / 8 % 8 = 4) :
    Calls Tryd.prog 31 #[rp B] w fun e w' => e = .returned (.tuple #[opV (onMem (sx (zs.getD (nx zs (nx zs p 1) 1) 0)) (zs.getD (nx zs p 1) 0 % 8) (zs.getD (nx zs p 1) 0 / 8 % 8) (2 ^ (zs.getD (nx zs p 1) 0 / 64 % 4).toNat)), .int .i64 (zs.getD p 0 / 8 % 8)]) ∧ Rs w' N B a len cap zs (nx zs (nx zs (nx zs p 1) 1) 1) (so zs (nx zs (nx zs p 1) 1) 1 (so zs (nx zs p 1) 1 (so zs p 1 sh))) bd ∧ But [B] w.heap.size w w' := by
  have hb := byte_bd R p
  have hB1 := Lib.hid (fun W (R : Rs W N B a len cap zs p sh bd) => byte_any R)
  have F := RF.start R 26 z6
  have hB := R.lt
  have e7 := and7 hb
  have e8 : bits .and .i64 (zs.getD p 0 / 8) 7 = zs.getD p 0 / 8 % 8 := and7 (by omega)
  have hs := byte_bd R (nx zs p 1)
  have hB2 := Lib.hid (fun W (R : Rs W N B a len cap zs (nx zs p 1) (so zs p 1 sh) bd) => byte_any R)
  have s7 := and7 hs
  have s8 : bits .and .i64 (zs.getD (nx zs p 1) 0 / 8) 7 = zs.getD (nx zs p 1) 0 / 8 % 8 := and7 (by omega)
  have hsc : (2 : Int) ^ (zs.getD (nx zs p 1) 0 / 64).toNat % 4294967296 = 2 ^ (zs.getD (nx zs p 1) 0 / 64 % 4).toNat := by
    rw [show zs.getD (nx zs p 1) 0 / 64 % 4 = zs.getD (nx zs p 1) 0 / 64 by omega]
    rcases scale_ok (zs.getD (nx zs p 1) 0 / 64) (by omega) with h | h | h | h <;> rw [h] <;> decide
  generalize (2 : Int) ^ (zs.getD (nx zs p 1) 0 / 64 % 4).toNat = sc at *
  have hX := Lib.hid (fun W (R : Rs W N B a len cap zs (nx zs (nx zs p 1) 1) (so zs (nx zs p 1) 1 (so zs p 1 sh)) bd) => small_any R)
  generalize sx (zs.getD (nx zs (nx zs p 1) 1) 0) = v at *
  generalize zs.getD (nx zs p 1) 0 = s at *
  generalize s % 8 = b at *
  generalize s / 8 % 8 = x at *
  generalize zs.getD p 0 = m at *
  generalize m % 8 = r at *
  generalize m / 8 % 8 = n at *
  subst h4
  have hxx : (x != 4) = true := by simp [hx]
  go_enter Tryd.func31, Tryd.ntmps31
  go_upto_region 1 with fail
  generalize w.alloc (.cells z6 26) = w1 at *
  go_upto_region 6 with (first | ((with_reducible refine (hB1.out _ F.r).mono ?_); rintro e w2 ⟨rfl, R2, k2⟩; have F2 := F.read R2 k2) | ((with_reducible refine store_op_as rfl _ _ rfl (op6 (onMem 0 4 (-1) 1)) (op6_size _) (op6_one _) rfl rfl ?_); intro w3 kO b3; have F3 := F2.below b3; have hK := F2.lt))
  generalize w2.heap.size = K at *
  have hBK : B ∉ [K] ∧ K ∉ [B] := by simp; omega
  go_upto_region 8 with ((with_reducible refine (hB2.out _ F3.r).mono ?_); rintro e w4 ⟨rfl, R4, k4⟩; have F4 := F3.read R4 k4; have kO4 := kO.but k4 kO.lt hBK.2)
  have c3kO4 := kO4.cell (i := 3) rfl
  have f3kO4 := kO4.fr 3
  go_upto_region 9 with fail
  have F5 := F4.cell hK 3 (.int .i64 b)
  have kO5 := kO4.setB b
  generalize w4.setCell ⟨K, 3, none⟩ (.int .i64 b) = w5 at *
  clear c3kO4 f3kO4
  have c4kO5 := kO5.cell (i := 4) rfl
  have c5kO5 := kO5.cell (i := 5) rfl
  have f4kO5 := kO5.fr 4
  have f5kO5 := kO5.fr 5
  go_upto_region 11 with fail
  have F6 := (F5.cell hK 4 (.int .i64 x)).cell hK 5 (.int .u32 (sc))
  have kO6 := (kO5.setX x).setS (sc)
  generalize (w5.setCell ⟨K, 4, none⟩ (.int .i64 x)).setCell ⟨K, 5, none⟩ (.int .u32 (sc)) = w6 at *
  clear c4kO5 f4kO5 c5kO5 f5kO5
  go_upto_region 14 with fail
  go_upto_region 17 with ((with_reducible refine (hX.out _ F6.r).mono ?_); rintro e w7 ⟨rfl, R7, k7⟩; have F7 := F6.read R7 k7; have kO7 := kO6.but k7 kO6.lt hBK.2; have c2 := kO7.cell (i := 2) (v := .int .u32 0) rfl; have f2 := kO7.fr 2; have c3 := kO7.cell (i := 3) rfl; have f3 := kO7.fr 3)
  have F8 := F7.cell hK 2 (.int .u32 v)
  have kO8 := kO7.setM v
  generalize w7.setCell ⟨K, 2, none⟩ (.int .u32 v) = w8 at *
  clear c2 f2 c3 f3
  replace kO8 : Blk w8 K 26 (op6 (onMem v b x (sc))) := kO8
  go_wp2_with (first | (with_reducible refine load_opR rfl _ rfl K (op6 (onMem v b x (sc))) rfl kO8 (op6_size _) ?_) | ((with_reducible refine store_opR rfl _ _ rfl _ (op6 (onMem v b x (sc))) z6 rfl rfl F8.z (op6_size _) z6_size (op6_one _) ?_); intro w9 kz b9 h9; have F9 := F8.done kz b9))
  exact bodyPost_ret (v := .tuple #[opV (onMem v b x (sc)), .int .i64 n]) (results_ct rfl _ _ w.heap.size 26 (op6 (onMem v b x (sc))) (0, 0) _ _ rfl rfl F9.z.h Tryd.underlying26 rfl (szOp onZ)) rfl ⟨rfl, F9.r, F9.k⟩
set_option maxRecDepth 8000 in
theorem modrm_ix2 (R : Rs w N B a len cap zs p sh bd) (h3 : zs.getD p 0 / 64 = 2) (h4 : zs.getD p 0 % 8 = 4) (hx : ¬ zs.getD (nx zs p 1) 0 / 8 % 8 = 4) :
    Calls Tryd.prog 31 #[rp B] w fun e w' => e = .returned (.tuple #[opV (onMem (le4 zs (nx zs (nx zs p 1) 1)) (zs.getD (nx zs p 1) 0 % 8) (zs.getD (nx zs p 1) 0 / 8 % 8) (2 ^ (zs.getD (nx zs p 1) 0 / 64 % 4).toNat)), .int .i64 (zs.getD p 0 / 8 % 8)]) ∧ Rs w' N B a len cap zs (nx zs (nx zs (nx zs p 1) 1) 4) (so zs (nx zs (nx zs p 1) 1) 4 (so zs (nx zs p 1) 1 (so zs p 1 sh))) bd ∧ But [B] w.heap.size w w' := by
  have hb := byte_bd R p
  have hB1 := Lib.hid (fun W (R : Rs W N B a len cap zs p sh bd) => byte_any R)
  have F := RF.start R 26 z6
  have hB := R.lt
  have e7 := and7 hb
  have e8 : bits .and .i64 (zs.getD p 0 / 8) 7 = zs.getD p 0 / 8 % 8 := and7 (by omega)
  have hs := byte_bd R (nx zs p 1)
  have hB2 := Lib.hid (fun W (R : Rs W N B a len cap zs (nx zs p 1) (so zs p 1 sh) bd) => byte_any R)
  have s7 := and7 hs
  have s8 : bits .and .i64 (zs.getD (nx zs p 1) 0 / 8) 7 = zs.getD (nx zs p 1) 0 / 8 % 8 := and7 (by omega)
  have hsc : (2 : Int) ^ (zs.getD (nx zs p 1) 0 / 64).toNat % 4294967296 = 2 ^ (zs.getD (nx zs p 1) 0 / 64 % 4).toNat := by
    rw [show zs.getD (nx zs p 1) 0 / 64 % 4 = zs.getD (nx zs p 1) 0 / 64 by omega]
    rcases scale_ok (zs.getD (nx zs p 1) 0 / 64) (by omega) with h | h | h | h <;> rw [h] <;> decide
  generalize (2 : Int) ^ (zs.getD (nx zs p 1) 0 / 64 % 4).toNat = sc at *
  have hX := Lib.hid (fun W (R : Rs W N B a len cap zs (nx zs (nx zs p 1) 1) (so zs (nx zs p 1) 1 (so zs p 1 sh)) bd) => word_ref R)
  generalize le4 zs (nx zs (nx zs p 1) 1) = v at *
  generalize zs.getD (nx zs p 1) 0 = s at *
  generalize s % 8 = b at *
  generalize s / 8 % 8 = x at *
  generalize zs.getD p 0 = m at *
  generalize m % 8 = r at *
  generalize m / 8 % 8 = n at *
  subst h4
  have hxx : (x != 4) = true := by simp [hx]
  go_enter Tryd.func31, Tryd.ntmps31
  go_upto_region 1 with fail
  generalize w.alloc (.cells z6 26) = w1 at *
  go_upto_region 6 with (first | ((with_reducible refine (hB1.out _ F.r).mono ?_); rintro e w2 ⟨rfl, R2, k2⟩; have F2 := F.read R2 k2) | ((with_reducible refine store_op_as rfl _ _ rfl (op6 (onMem 0 4 (-1) 1)) (op6_size _) (op6_one _) rfl rfl ?_); intro w3 kO b3; have F3 := F2.below b3; have hK := F2.lt))
  generalize w2.heap.size = K at *
  have hBK : B ∉ [K] ∧ K ∉ [B] := by simp; omega
  go_upto_region 8 with ((with_reducible refine (hB2.out _ F3.r).mono ?_); rintro e w4 ⟨rfl, R4, k4⟩; have F4 := F3.read R4 k4; have kO4 := kO.but k4 kO.lt hBK.2)
  have c3kO4 := kO4.cell (i := 3) rfl
  have f3kO4 := kO4.fr 3
  go_upto_region 9 with fail
  have F5 := F4.cell hK 3 (.int .i64 b)
  have kO5 := kO4.setB b
  generalize w4.setCell ⟨K, 3, none⟩ (.int .i64 b) = w5 at *
  clear c3kO4 f3kO4
  have c4kO5 := kO5.cell (i := 4) rfl
  have c5kO5 := kO5.cell (i := 5) rfl
  have f4kO5 := kO5.fr 4
  have f5kO5 := kO5.fr 5
  go_upto_region 11 with fail
  have F6 := (F5.cell hK 4 (.int .i64 x)).cell hK 5 (.int .u32 (sc))
  have kO6 := (kO5.setX x).setS (sc)
  generalize (w5.setCell ⟨K, 4, none⟩ (.int .i64 x)).setCell ⟨K, 5, none⟩ (.int .u32 (sc)) = w6 at *
  clear c4kO5 f4kO5 c5kO5 f5kO5
  go_upto_region 16 with fail
  go_upto_region 17 with ((with_reducible refine (hX.out _ F6.r).mono ?_); rintro e w7 ⟨rfl, R7, k7⟩; have F7 := F6.read R7 k7; have kO7 := kO6.but k7 kO6.lt hBK.2; have c2 := kO7.cell (i := 2) (v := .int .u32 0) rfl; have f2 := kO7.fr 2; have c3 := kO7.cell (i := 3) rfl; have f3 := kO7.fr 3)
  have F8 := F7.cell hK 2 (.int .u32 v)
  have kO8 := kO7.setM v
  generalize w7.setCell ⟨K, 2, none⟩ (.int .u32 v) = w8 at *
  clear c2 f2 c3 f3
  replace kO8 : Blk w8 K 26 (op6 (onMem v b x (sc))) := kO8
  go_wp2_with (first | (with_reducible refine load_opR rfl _ rfl K (op6 (onMem v b x (sc))) rfl kO8 (op6_size _) ?_) | ((with_reducible refine store_opR rfl _ _ rfl _ (op6 (onMem v b x (sc))) z6 rfl rfl F8.z (op6_size _) z6_size (op6_one _) ?_); intro w9 kz b9 h9; have F9 := F8.done kz b9))
  exact bodyPost_ret (v := .tuple #[opV (onMem v b x (sc)), .int .i64 n]) (results_ct rfl _ _ w.heap.size 26 (op6 (onMem v b x (sc))) (0, 0) _ _ rfl rfl F9.z.h Tryd.underlying26 rfl (szOp onZ)) rfl ⟨rfl, F9.r, F9.k⟩
set_option maxRecDepth 8000 in
theorem modrm_ix5 (R : Rs w N B a len cap zs p sh bd) (h3 : zs.getD p 0 / 64 = 0) (h4 : zs.getD p 0 % 8 = 4) (hx : ¬ zs.getD (nx zs p 1) 0 / 8 % 8 = 4) (h5 : zs.getD (nx zs p 1) 0 % 8 = 5) :
    Calls Tryd.prog 31 #[rp B] w fun e w' => e = .returned (.tuple #[opV (onMem (le4 zs (nx zs (nx zs p 1) 1)) (-1) (zs.getD (nx zs p 1) 0 / 8 % 8) (2 ^ (zs.getD (nx zs p 1) 0 / 64 % 4).toNat)), .int .i64 (zs.getD p 0 / 8 % 8)]) ∧ Rs w' N B a len cap zs (nx zs (nx zs (nx zs p 1) 1) 4) (so zs (nx zs (nx zs p 1) 1) 4 (so zs (nx zs p 1) 1 (so zs p 1 sh))) bd ∧ But [B] w.heap.size w w' := by
  have hb := byte_bd R p
  have hB1 := Lib.hid (fun W (R : Rs W N B a len cap zs p sh bd) => byte_any R)
  have F := RF.start R 26 z6
  have hB := R.lt
  have e7 := and7 hb
  have e8 : bits .and .i64 (zs.getD p 0 / 8) 7 = zs.getD p 0 / 8 % 8 := and7 (by omega)
  have hs := byte_bd R (nx zs p 1)
  have hB2 := Lib.hid (fun W (R : Rs W N B a len cap zs (nx zs p 1) (so zs p 1 sh) bd) => byte_any R)
  have s7 := and7 hs
  have s8 : bits .and .i64 (zs.getD (nx zs p 1) 0 / 8) 7 = zs.getD (nx zs p 1) 0 / 8 % 8 := and7 (by omega)
  have hsc : (2 : Int) ^ (zs.getD (nx zs p 1) 0 / 64).toNat % 4294967296 = 2 ^ (zs.getD (nx zs p 1) 0 / 64 % 4).toNat := by
    rw [show zs.getD (nx zs p 1) 0 / 64 % 4 = zs.getD (nx zs p 1) 0 / 64 by omega]
    rcases scale_ok (zs.getD (nx zs p 1) 0 / 64) (by omega) with h | h | h | h <;> rw [h] <;> decide
  generalize (2 : Int) ^ (zs.getD (nx zs p 1) 0 / 64 % 4).toNat = sc at *
  have hX := Lib.hid (fun W (R : Rs W N B a len cap zs (nx zs (nx zs p 1) 1) (so zs (nx zs p 1) 1 (so zs p 1 sh)) bd) => word_ref R)
  generalize le4 zs (nx zs (nx zs p 1) 1) = v at *
  generalize zs.getD (nx zs p 1) 0 = s at *
  generalize s % 8 = b at *
  generalize s / 8 % 8 = x at *
  generalize zs.getD p 0 = m at *
  generalize m % 8 = r at *
  generalize m / 8 % 8 = n at *
  subst h4
  have hxx : (x != 4) = true := by simp [hx]
  subst h5
  go_enter Tryd.func31, Tryd.ntmps31
  go_upto_region 1 with fail
  generalize w.alloc (.cells z6 26) = w1 at *
  go_upto_region 6 with (first | ((with_reducible refine (hB1.out _ F.r).mono ?_); rintro e w2 ⟨rfl, R2, k2⟩; have F2 := F.read R2 k2) | ((with_reducible refine store_op_as rfl _ _ rfl (op6 (onMem 0 4 (-1) 1)) (op6_size _) (op6_one _) rfl rfl ?_); intro w3 kO b3; have F3 := F2.below b3; have hK := F2.lt))
  generalize w2.heap.size = K at *
  have hBK : B ∉ [K] ∧ K ∉ [B] := by simp; omega
  go_upto_region 8 with ((with_reducible refine (hB2.out _ F3.r).mono ?_); rintro e w4 ⟨rfl, R4, k4⟩; have F4 := F3.read R4 k4; have kO4 := kO.but k4 kO.lt hBK.2)
  have c3kO4 := kO4.cell (i := 3) rfl
  have f3kO4 := kO4.fr 3
  go_upto_region 9 with fail
  have F5 := F4.cell hK 3 (.int .i64 5)
  have kO5 := kO4.setB 5
  generalize w4.setCell ⟨K, 3, none⟩ (.int .i64 5) = w5 at *
  clear c3kO4 f3kO4
  have c4kO5 := kO5.cell (i := 4) rfl
  have c5kO5 := kO5.cell (i := 5) rfl
  have f4kO5 := kO5.fr 4
  have f5kO5 := kO5.fr 5
  go_upto_region 11 with fail
  have F6 := (F5.cell hK 4 (.int .i64 x)).cell hK 5 (.int .u32 (sc))
  have kO6 := (kO5.setX x).setS (sc)
  generalize (w5.setCell ⟨K, 4, none⟩ (.int .i64 x)).setCell ⟨K, 5, none⟩ (.int .u32 (sc)) = w6 at *
  clear c4kO5 f4kO5 c5kO5 f5kO5
  have c3b := kO6.cell (i := 3) (v := .int .i64 5) rfl
  go_upto_region 12 with fail
  go_upto_region 17 with ((with_reducible refine (hX.out _ F6.r).mono ?_); rintro e w7 ⟨rfl, R7, k7⟩; have F7 := F6.read R7 k7; have kO7 := kO6.but k7 kO6.lt hBK.2; have c2 := kO7.cell (i := 2) (v := .int .u32 0) rfl; have f2 := kO7.fr 2; have c3 := kO7.cell (i := 3) rfl; have f3 := kO7.fr 3)
  have F8 := (F7.cell hK 3 (.int .i64 (-1))).cell hK 2 (.int .u32 v)
  have kO8 := (kO7.setB (-1)).setM v
  generalize (w7.setCell ⟨K, 3, none⟩ (.int .i64 (-1))).setCell ⟨K, 2, none⟩ (.int .u32 v) = w8 at *
  clear c2 f2 c3 f3
  replace kO8 : Blk w8 K 26 (op6 (onMem v (-1) x (sc))) := kO8
  go_wp2_with (first | (with_reducible refine load_opR rfl _ rfl K (op6 (onMem v (-1) x (sc))) rfl kO8 (op6_size _) ?_) | ((with_reducible refine store_opR rfl _ _ rfl _ (op6 (onMem v (-1) x (sc))) z6 rfl rfl F8.z (op6_size _) z6_size (op6_one _) ?_); intro w9 kz b9 h9; have F9 := F8.done kz b9))
  exact bodyPost_ret (v := .tuple #[opV (onMem v (-1) x (sc)), .int .i64 n]) (results_ct rfl _ _ w.heap.size 26 (op6 (onMem v (-1) x (sc))) (0, 0) _ _ rfl rfl F9.z.h Tryd.underlying26 rfl (szOp onZ)) rfl ⟨rfl, F9.r, F9.k⟩
theorem modrm_of {o : On} {q : Nat} {s : Bool} (h : placeR zs (nx zs p 1) (so zs p 1 sh) (zs.getD p 0) = (o, q, s))
    (hc : Calls Tryd.prog 31 #[rp B] w fun e w' => e = .returned (.tuple #[opV o, .int .i64 (zs.getD p 0 / 8 % 8)]) ∧ Rs w' N B a len cap zs q s bd ∧ But [B] w.heap.size w w') :
    Calls Tryd.prog 31 #[rp B] w fun e w' => e = .returned (.tuple #[opV (placeR zs (nx zs p 1) (so zs p 1 sh) (zs.getD p 0)).1, .int .i64 (zs.getD p 0 / 8 % 8)]) ∧ Rs w' N B a len cap zs (placeR zs (nx zs p 1) (so zs p 1 sh) (zs.getD p 0)).2.1 (placeR zs (nx zs p 1) (so zs p 1 sh) (zs.getD p 0)).2.2 bd ∧ But [B] w.heap.size w w' := by
  rw [h]; exact hc
theorem modrm_any (R : Rs w N B a len cap zs p sh bd) :
    Calls Tryd.prog 31 #[rp B] w fun e w' => e = .returned (.tuple #[opV (placeR zs (nx zs p 1) (so zs p 1 sh) (zs.getD p 0)).1, .int .i64 (zs.getD p 0 / 8 % 8)]) ∧ Rs w' N B a len cap zs (placeR zs (nx zs p 1) (so zs p 1 sh) (zs.getD p 0)).2.1 (placeR zs (nx zs p 1) (so zs p 1 sh) (zs.getD p 0)).2.2 bd ∧ But [B] w.heap.size w w' := by
  have hb := byte_bd R p
  rcases (by omega : zs.getD p 0 / 64 = 0 ∨ zs.getD p 0 / 64 = 1 ∨ zs.getD p 0 / 64 = 2 ∨ zs.getD p 0 / 64 = 3) with h3 | h3 | h3 | h3
  · by_cases h4 : zs.getD p 0 % 8 = 4
    · by_cases hx : zs.getD (nx zs p 1) 0 / 8 % 8 = 4
      · by_cases h5 : zs.getD (nx zs p 1) 0 % 8 = 5
        · refine modrm_of ?_ (modrm_noix5 R h3 h4 hx h5)
          unfold placeR
          repeat (first | rw [if_pos (by omega)] | rw [if_neg (by omega)])
          unfold distR
          repeat (first | rw [if_pos (by omega)] | rw [if_neg (by omega)])
        · refine modrm_of ?_ (modrm_noix0 R h3 h4 hx h5)
          unfold placeR
          repeat (first | rw [if_pos (by omega)] | rw [if_neg (by omega)])
          unfold distR
          repeat (first | rw [if_pos (by omega)] | rw [if_neg (by omega)])
      · by_cases h5 : zs.getD (nx zs p 1) 0 % 8 = 5
        · refine modrm_of ?_ (modrm_ix5 R h3 h4 hx h5)
          unfold placeR
          repeat (first | rw [if_pos (by omega)] | rw [if_neg (by omega)])
          unfold distR
          repeat (first | rw [if_pos (by omega)] | rw [if_neg (by omega)])
        · refine modrm_of ?_ (modrm_ix0 R h3 h4 hx h5)
          unfold placeR
          repeat (first | rw [if_pos (by omega)] | rw [if_neg (by omega)])
          unfold distR
          repeat (first | rw [if_pos (by omega)] | rw [if_neg (by omega)])
    · by_cases h5 : zs.getD p 0 % 8 = 5
      · refine modrm_of ?_ (modrm_no5 R h3 h4 h5)
        unfold placeR
        repeat (first | rw [if_pos (by omega)] | rw [if_neg (by omega)])
        unfold distR
        repeat (first | rw [if_pos (by omega)] | rw [if_neg (by omega)])
      · refine modrm_of ?_ (modrm_no0 R h3 h4 h5)
        unfold placeR
        repeat (first | rw [if_pos (by omega)] | rw [if_neg (by omega)])
        unfold distR
        repeat (first | rw [if_pos (by omega)] | rw [if_neg (by omega)])
  · by_cases h4 : zs.getD p 0 % 8 = 4
    · by_cases hx : zs.getD (nx zs p 1) 0 / 8 % 8 = 4
      · refine modrm_of ?_ (modrm_noix1 R h3 h4 hx)
        unfold placeR
        repeat (first | rw [if_pos (by omega)] | rw [if_neg (by omega)])
        unfold distR
        repeat (first | rw [if_pos (by omega)] | rw [if_neg (by omega)])
      · refine modrm_of ?_ (modrm_ix1 R h3 h4 hx)
        unfold placeR
        repeat (first | rw [if_pos (by omega)] | rw [if_neg (by omega)])
        unfold distR
        repeat (first | rw [if_pos (by omega)] | rw [if_neg (by omega)])
    · refine modrm_of ?_ (modrm_no1 R h3 h4)
      unfold placeR
      repeat (first | rw [if_pos (by omega)] | rw [if_neg (by omega)])
      unfold distR
      repeat (first | rw [if_pos (by omega)] | rw [if_neg (by omega)])
  · by_cases h4 : zs.getD p 0 % 8 = 4
    · by_cases hx : zs.getD (nx zs p 1) 0 / 8 % 8 = 4
      · refine modrm_of ?_ (modrm_noix2 R h3 h4 hx)
        unfold placeR
        repeat (first | rw [if_pos (by omega)] | rw [if_neg (by omega)])
        unfold distR
        repeat (first | rw [if_pos (by omega)] | rw [if_neg (by omega)])
      · refine modrm_of ?_ (modrm_ix2 R h3 h4 hx)
        unfold placeR
        repeat (first | rw [if_pos (by omega)] | rw [if_neg (by omega)])
        unfold distR
        repeat (first | rw [if_pos (by omega)] | rw [if_neg (by omega)])
    · refine modrm_of ?_ (modrm_no2 R h3 h4)
      unfold placeR
      repeat (first | rw [if_pos (by omega)] | rw [if_neg (by omega)])
      unfold distR
      repeat (first | rw [if_pos (by omega)] | rw [if_neg (by omega)])
  · refine modrm_of ?_ (modrm_reg R h3)
    unfold placeR
    rw [if_pos (by omega)]
end
end Go.Proofs.YtlooobehlhgccaaDoor
