/- The reference: bytes that end early. -/
import Derived.Test.YtlooobehlhgccaaDoorR35
namespace Go.Proofs.YtlooobehlhgccaaDoor
open Go.RowKit
set_option linter.unusedVariables false
set_option linter.unusedSimpArgs false
set_option linter.unusedSectionVars false

theorem and7un : ∀ n : Nat, n < 256 → bits .and .u8 (n : Int) 7 = (n : Int) % 8 := of_decide_eq_true (by kernel_rfl)
theorem and7u {m : Int} (h : 0 ≤ m ∧ m ≤ 255) : bits .and .u8 m 7 = m % 8 := by
  obtain ⟨n, rfl⟩ := Int.eq_ofNat_of_zero_le h.1
  exact and7un n (by omega)
section
variable {w : World} {N B : Nat} {a : Option Addr} {len cap : Nat} {zs : List Int} {p : Nat} {sh bd : Bool}
theorem early_len (R : Rs w N B a len cap zs p sh bd) (c : Int) (h : len < 2) :
    Calls Tryd.prog 33 #[rp B, .int .u8 c] w fun e w' => e = .returned (.tuple #[inV inZ, .bool (false)]) ∧ Rs w' N B a len cap zs (p) (sh) bd ∧ But [B] w.heap.size w w' := by
  have F := RF.start R 28 z16
  have c0 := F.r.c0
  have hz : ((len : Int) < 2) = True := eq_true (by omega)
  have hm := R.cm
  have hlc := R.lc
  go_enter Tryd.func33, Tryd.ntmps33
  go_upto_region 1 with fail
  generalize w.alloc (.cells z16 28) = w1 at *
  go_wp2_with (first | ((with_reducible refine store_inR rfl _ _ rfl _ (in16 inZ) z16 rfl rfl F.z (in16_size _) z16_size (in16_one _) ?_); intro wz kz bz hz; have FZ := F.done kz bz))
  exact bodyPost_ret (v := .tuple #[inV inZ, .bool (false)]) (results_ct rfl _ _ w.heap.size 28 (in16 inZ) (0, 0) _ _ rfl rfl FZ.z.h Tryd.underlying28 rfl (szIn inZ)) rfl ⟨rfl, FZ.r, FZ.k⟩
set_option maxHeartbeats 4000000 in
theorem early_81 (R : Rs w N B a len cap zs p true false) (h : 2 ≤ len) (h3 : (zs.getD 1 0 / 64 == 3) = false) :
    Calls Tryd.prog 33 #[rp B, .int .u8 129] w fun e w' => e = .returned (.tuple #[inV inZ, .bool (false)]) ∧ Rs w' N B a len cap zs (p) (!(false || false)) (false) ∧ But [B] w.heap.size w w' := by
  have hz1 := byte_bd R 1
  have hn : 0 ≤ mN zs 1 ∧ mN zs 1 < 8 := by unfold mN; omega
  have e8 : bits .and .u8 (zs.getD 1 0 / 8) 7 = mN zs 1 := and7u (by omega)
  have F := RF.start R 28 z16
  obtain ⟨b, off, rfl, hc1⟩ := F.r.byte 1 (by omega)
  have c0 := F.r.c0
  have hB := R.lt
  have hz : ((len : Int) < 2) = False := eq_false (by omega)
  have hz2 : ((1 : Int) < len) = True := eq_true (by omega)
  have hm := R.cm
  have hlc := R.lc
  have hS := Lib.hid shifts_ref
  have hN := Lib.hid numbers_ref
  have i1 := ix_sh (mN zs 1) hn
  have i2 := ix_nu (mN zs 1) hn
  generalize mN zs 1 = n at *
  generalize zs.getD 1 0 = z at *
  go_enter Tryd.func33, Tryd.ntmps33
  go_upto_region 1 with fail
  generalize w.alloc (.cells z16 28) = w1 at *
  go_upto_region 3 with fail
  go_region
  have FD := F.drew
  generalize w1.drew = w2 at *
  clear c0 hc1
  have c2 := FD.r.c2
  have f2 := FD.r.blk.fr 2
  have c3 := FD.r.c3
  have f3 := FD.r.blk.fr 3
  go_upto_region 27 with (first | fail)
  have FY := FD
  go_wp2_with (first | ((with_reducible refine store_inR rfl _ _ rfl _ (in16 inZ) z16 rfl rfl FY.z (in16_size _) z16_size (in16_one _) ?_); intro wz kz bz hz; have FZ := FY.done kz bz))
  exact bodyPost_ret (v := .tuple #[inV inZ, .bool (false)]) (results_ct rfl _ _ w.heap.size 28 (in16 inZ) (0, 0) _ _ rfl rfl FZ.z.h Tryd.underlying28 rfl (szIn inZ)) rfl ⟨rfl, FZ.r, FZ.k⟩
set_option maxHeartbeats 4000000 in
theorem early_83 (R : Rs w N B a len cap zs p true false) (h : 2 ≤ len) (h3 : (zs.getD 1 0 / 64 == 3) = false) :
    Calls Tryd.prog 33 #[rp B, .int .u8 131] w fun e w' => e = .returned (.tuple #[inV inZ, .bool (false)]) ∧ Rs w' N B a len cap zs (p) (!(false || false)) (false) ∧ But [B] w.heap.size w w' := by
  have hz1 := byte_bd R 1
  have hn : 0 ≤ mN zs 1 ∧ mN zs 1 < 8 := by unfold mN; omega
  have e8 : bits .and .u8 (zs.getD 1 0 / 8) 7 = mN zs 1 := and7u (by omega)
  have F := RF.start R 28 z16
  obtain ⟨b, off, rfl, hc1⟩ := F.r.byte 1 (by omega)
  have c0 := F.r.c0
  have hB := R.lt
  have hz : ((len : Int) < 2) = False := eq_false (by omega)
  have hz2 : ((1 : Int) < len) = True := eq_true (by omega)
  have hm := R.cm
  have hlc := R.lc
  have hS := Lib.hid shifts_ref
  have hN := Lib.hid numbers_ref
  have i1 := ix_sh (mN zs 1) hn
  have i2 := ix_nu (mN zs 1) hn
  generalize mN zs 1 = n at *
  generalize zs.getD 1 0 = z at *
  go_enter Tryd.func33, Tryd.ntmps33
  go_upto_region 1 with fail
  generalize w.alloc (.cells z16 28) = w1 at *
  go_upto_region 3 with fail
  go_region
  have FD := F.drew
  generalize w1.drew = w2 at *
  clear c0 hc1
  have c2 := FD.r.c2
  have f2 := FD.r.blk.fr 2
  have c3 := FD.r.c3
  have f3 := FD.r.blk.fr 3
  go_upto_region 27 with (first | fail)
  have FY := FD
  go_wp2_with (first | ((with_reducible refine store_inR rfl _ _ rfl _ (in16 inZ) z16 rfl rfl FY.z (in16_size _) z16_size (in16_one _) ?_); intro wz kz bz hz; have FZ := FY.done kz bz))
  exact bodyPost_ret (v := .tuple #[inV inZ, .bool (false)]) (results_ct rfl _ _ w.heap.size 28 (in16 inZ) (0, 0) _ _ rfl rfl FZ.z.h Tryd.underlying28 rfl (szIn inZ)) rfl ⟨rfl, FZ.r, FZ.k⟩
set_option maxHeartbeats 4000000 in
theorem early_85 (R : Rs w N B a len cap zs p true false) (h : 2 ≤ len) (h3 : (zs.getD 1 0 / 64 == 3) = false) :
    Calls Tryd.prog 33 #[rp B, .int .u8 133] w fun e w' => e = .returned (.tuple #[inV inZ, .bool (false)]) ∧ Rs w' N B a len cap zs (p) (!(false || false)) (false) ∧ But [B] w.heap.size w w' := by
  have hz1 := byte_bd R 1
  have hn : 0 ≤ mN zs 1 ∧ mN zs 1 < 8 := by unfold mN; omega
  have e8 : bits .and .u8 (zs.getD 1 0 / 8) 7 = mN zs 1 := and7u (by omega)
  have F := RF.start R 28 z16
  obtain ⟨b, off, rfl, hc1⟩ := F.r.byte 1 (by omega)
  have c0 := F.r.c0
  have hB := R.lt
  have hz : ((len : Int) < 2) = False := eq_false (by omega)
  have hz2 : ((1 : Int) < len) = True := eq_true (by omega)
  have hm := R.cm
  have hlc := R.lc
  have hS := Lib.hid shifts_ref
  have hN := Lib.hid numbers_ref
  have i1 := ix_sh (mN zs 1) hn
  have i2 := ix_nu (mN zs 1) hn
  generalize mN zs 1 = n at *
  generalize zs.getD 1 0 = z at *
  go_enter Tryd.func33, Tryd.ntmps33
  go_upto_region 1 with fail
  generalize w.alloc (.cells z16 28) = w1 at *
  go_upto_region 3 with fail
  go_region
  have FD := F.drew
  generalize w1.drew = w2 at *
  clear c0 hc1
  have c2 := FD.r.c2
  have f2 := FD.r.blk.fr 2
  have c3 := FD.r.c3
  have f3 := FD.r.blk.fr 3
  go_upto_region 27 with (first | fail)
  have FY := FD
  go_wp2_with (first | ((with_reducible refine store_inR rfl _ _ rfl _ (in16 inZ) z16 rfl rfl FY.z (in16_size _) z16_size (in16_one _) ?_); intro wz kz bz hz; have FZ := FY.done kz bz))
  exact bodyPost_ret (v := .tuple #[inV inZ, .bool (false)]) (results_ct rfl _ _ w.heap.size 28 (in16 inZ) (0, 0) _ _ rfl rfl FZ.z.h Tryd.underlying28 rfl (szIn inZ)) rfl ⟨rfl, FZ.r, FZ.k⟩
set_option maxHeartbeats 4000000 in
theorem early_87 (R : Rs w N B a len cap zs p true false) (h : 2 ≤ len) (h3 : (zs.getD 1 0 / 64 == 3) = false) :
    Calls Tryd.prog 33 #[rp B, .int .u8 135] w fun e w' => e = .returned (.tuple #[inV inZ, .bool (false)]) ∧ Rs w' N B a len cap zs (p) (!(false || false)) (false) ∧ But [B] w.heap.size w w' := by
  have hz1 := byte_bd R 1
  have hn : 0 ≤ mN zs 1 ∧ mN zs 1 < 8 := by unfold mN; omega
  have e8 : bits .and .u8 (zs.getD 1 0 / 8) 7 = mN zs 1 := and7u (by omega)
  have F := RF.start R 28 z16
  obtain ⟨b, off, rfl, hc1⟩ := F.r.byte 1 (by omega)
  have c0 := F.r.c0
  have hB := R.lt
  have hz : ((len : Int) < 2) = False := eq_false (by omega)
  have hz2 : ((1 : Int) < len) = True := eq_true (by omega)
  have hm := R.cm
  have hlc := R.lc
  have hS := Lib.hid shifts_ref
  have hN := Lib.hid numbers_ref
  have i1 := ix_sh (mN zs 1) hn
  have i2 := ix_nu (mN zs 1) hn
  generalize mN zs 1 = n at *
  generalize zs.getD 1 0 = z at *
  go_enter Tryd.func33, Tryd.ntmps33
  go_upto_region 1 with fail
  generalize w.alloc (.cells z16 28) = w1 at *
  go_upto_region 3 with fail
  go_region
  have FD := F.drew
  generalize w1.drew = w2 at *
  clear c0 hc1
  have c2 := FD.r.c2
  have f2 := FD.r.blk.fr 2
  have c3 := FD.r.c3
  have f3 := FD.r.blk.fr 3
  go_upto_region 27 with (first | fail)
  have FY := FD
  go_wp2_with (first | ((with_reducible refine store_inR rfl _ _ rfl _ (in16 inZ) z16 rfl rfl FY.z (in16_size _) z16_size (in16_one _) ?_); intro wz kz bz hz; have FZ := FY.done kz bz))
  exact bodyPost_ret (v := .tuple #[inV inZ, .bool (false)]) (results_ct rfl _ _ w.heap.size 28 (in16 inZ) (0, 0) _ _ rfl rfl FZ.z.h Tryd.underlying28 rfl (szIn inZ)) rfl ⟨rfl, FZ.r, FZ.k⟩
set_option maxHeartbeats 4000000 in
theorem early_88 (R : Rs w N B a len cap zs p true false) (h : 2 ≤ len) (h3 : (zs.getD 1 0 / 64 == 3) = false) :
    Calls Tryd.prog 33 #[rp B, .int .u8 136] w fun e w' => e = .returned (.tuple #[inV inZ, .bool (false)]) ∧ Rs w' N B a len cap zs (p) (!(false || false)) (false) ∧ But [B] w.heap.size w w' := by
  have hz1 := byte_bd R 1
  have hn : 0 ≤ mN zs 1 ∧ mN zs 1 < 8 := by unfold mN; omega
  have e8 : bits .and .u8 (zs.getD 1 0 / 8) 7 = mN zs 1 := and7u (by omega)
  have F := RF.start R 28 z16
  obtain ⟨b, off, rfl, hc1⟩ := F.r.byte 1 (by omega)
  have c0 := F.r.c0
  have hB := R.lt
  have hz : ((len : Int) < 2) = False := eq_false (by omega)
  have hz2 : ((1 : Int) < len) = True := eq_true (by omega)
  have hm := R.cm
  have hlc := R.lc
  have hS := Lib.hid shifts_ref
  have hN := Lib.hid numbers_ref
  have i1 := ix_sh (mN zs 1) hn
  have i2 := ix_nu (mN zs 1) hn
  generalize mN zs 1 = n at *
  generalize zs.getD 1 0 = z at *
  go_enter Tryd.func33, Tryd.ntmps33
  go_upto_region 1 with fail
  generalize w.alloc (.cells z16 28) = w1 at *
  go_upto_region 3 with fail
  go_region
  have FD := F.drew
  generalize w1.drew = w2 at *
  clear c0 hc1
  have c2 := FD.r.c2
  have f2 := FD.r.blk.fr 2
  have c3 := FD.r.c3
  have f3 := FD.r.blk.fr 3
  go_upto_region 27 with (first | fail)
  have FY := FD
  go_wp2_with (first | ((with_reducible refine store_inR rfl _ _ rfl _ (in16 inZ) z16 rfl rfl FY.z (in16_size _) z16_size (in16_one _) ?_); intro wz kz bz hz; have FZ := FY.done kz bz))
  exact bodyPost_ret (v := .tuple #[inV inZ, .bool (false)]) (results_ct rfl _ _ w.heap.size 28 (in16 inZ) (0, 0) _ _ rfl rfl FZ.z.h Tryd.underlying28 rfl (szIn inZ)) rfl ⟨rfl, FZ.r, FZ.k⟩
set_option maxHeartbeats 4000000 in
theorem early_89 (R : Rs w N B a len cap zs p true false) (h : 2 ≤ len) (h3 : (zs.getD 1 0 / 64 == 3) = false) :
    Calls Tryd.prog 33 #[rp B, .int .u8 137] w fun e w' => e = .returned (.tuple #[inV inZ, .bool (false)]) ∧ Rs w' N B a len cap zs (p) (!(false || false)) (false) ∧ But [B] w.heap.size w w' := by
  have hz1 := byte_bd R 1
  have hn : 0 ≤ mN zs 1 ∧ mN zs 1 < 8 := by unfold mN; omega
  have e8 : bits .and .u8 (zs.getD 1 0 / 8) 7 = mN zs 1 := and7u (by omega)
  have F := RF.start R 28 z16
  obtain ⟨b, off, rfl, hc1⟩ := F.r.byte 1 (by omega)
  have c0 := F.r.c0
  have hB := R.lt
  have hz : ((len : Int) < 2) = False := eq_false (by omega)
  have hz2 : ((1 : Int) < len) = True := eq_true (by omega)
  have hm := R.cm
  have hlc := R.lc
  have hS := Lib.hid shifts_ref
  have hN := Lib.hid numbers_ref
  have i1 := ix_sh (mN zs 1) hn
  have i2 := ix_nu (mN zs 1) hn
  generalize mN zs 1 = n at *
  generalize zs.getD 1 0 = z at *
  go_enter Tryd.func33, Tryd.ntmps33
  go_upto_region 1 with fail
  generalize w.alloc (.cells z16 28) = w1 at *
  go_upto_region 3 with fail
  go_region
  have FD := F.drew
  generalize w1.drew = w2 at *
  clear c0 hc1
  have c2 := FD.r.c2
  have f2 := FD.r.blk.fr 2
  have c3 := FD.r.c3
  have f3 := FD.r.blk.fr 3
  go_upto_region 27 with (first | fail)
  have FY := FD
  go_wp2_with (first | ((with_reducible refine store_inR rfl _ _ rfl _ (in16 inZ) z16 rfl rfl FY.z (in16_size _) z16_size (in16_one _) ?_); intro wz kz bz hz; have FZ := FY.done kz bz))
  exact bodyPost_ret (v := .tuple #[inV inZ, .bool (false)]) (results_ct rfl _ _ w.heap.size 28 (in16 inZ) (0, 0) _ _ rfl rfl FZ.z.h Tryd.underlying28 rfl (szIn inZ)) rfl ⟨rfl, FZ.r, FZ.k⟩
set_option maxHeartbeats 4000000 in
theorem early_8a (R : Rs w N B a len cap zs p true false) (h : 2 ≤ len) (h3 : (zs.getD 1 0 / 64 == 3) = false) :
    Calls Tryd.prog 33 #[rp B, .int .u8 138] w fun e w' => e = .returned (.tuple #[inV inZ, .bool (false)]) ∧ Rs w' N B a len cap zs (p) (!(false || false)) (false) ∧ But [B] w.heap.size w w' := by
  have hz1 := byte_bd R 1
  have hn : 0 ≤ mN zs 1 ∧ mN zs 1 < 8 := by unfold mN; omega
  have e8 : bits .and .u8 (zs.getD 1 0 / 8) 7 = mN zs 1 := and7u (by omega)
  have F := RF.start R 28 z16
  obtain ⟨b, off, rfl, hc1⟩ := F.r.byte 1 (by omega)
  have c0 := F.r.c0
  have hB := R.lt
  have hz : ((len : Int) < 2) = False := eq_false (by omega)
  have hz2 : ((1 : Int) < len) = True := eq_true (by omega)
  have hm := R.cm
  have hlc := R.lc
  have hS := Lib.hid shifts_ref
  have hN := Lib.hid numbers_ref
  have i1 := ix_sh (mN zs 1) hn
  have i2 := ix_nu (mN zs 1) hn
  generalize mN zs 1 = n at *
  generalize zs.getD 1 0 = z at *
  go_enter Tryd.func33, Tryd.ntmps33
  go_upto_region 1 with fail
  generalize w.alloc (.cells z16 28) = w1 at *
  go_upto_region 3 with fail
  go_region
  have FD := F.drew
  generalize w1.drew = w2 at *
  clear c0 hc1
  have c2 := FD.r.c2
  have f2 := FD.r.blk.fr 2
  have c3 := FD.r.c3
  have f3 := FD.r.blk.fr 3
  go_upto_region 27 with (first | fail)
  have FY := FD
  go_wp2_with (first | ((with_reducible refine store_inR rfl _ _ rfl _ (in16 inZ) z16 rfl rfl FY.z (in16_size _) z16_size (in16_one _) ?_); intro wz kz bz hz; have FZ := FY.done kz bz))
  exact bodyPost_ret (v := .tuple #[inV inZ, .bool (false)]) (results_ct rfl _ _ w.heap.size 28 (in16 inZ) (0, 0) _ _ rfl rfl FZ.z.h Tryd.underlying28 rfl (szIn inZ)) rfl ⟨rfl, FZ.r, FZ.k⟩
set_option maxHeartbeats 4000000 in
theorem early_8b (R : Rs w N B a len cap zs p true false) (h : 2 ≤ len) (h3 : (zs.getD 1 0 / 64 == 3) = false) :
    Calls Tryd.prog 33 #[rp B, .int .u8 139] w fun e w' => e = .returned (.tuple #[inV inZ, .bool (false)]) ∧ Rs w' N B a len cap zs (p) (!(false || false)) (false) ∧ But [B] w.heap.size w w' := by
  have hz1 := byte_bd R 1
  have hn : 0 ≤ mN zs 1 ∧ mN zs 1 < 8 := by unfold mN; omega
  have e8 : bits .and .u8 (zs.getD 1 0 / 8) 7 = mN zs 1 := and7u (by omega)
  have F := RF.start R 28 z16
  obtain ⟨b, off, rfl, hc1⟩ := F.r.byte 1 (by omega)
  have c0 := F.r.c0
  have hB := R.lt
  have hz : ((len : Int) < 2) = False := eq_false (by omega)
  have hz2 : ((1 : Int) < len) = True := eq_true (by omega)
  have hm := R.cm
  have hlc := R.lc
  have hS := Lib.hid shifts_ref
  have hN := Lib.hid numbers_ref
  have i1 := ix_sh (mN zs 1) hn
  have i2 := ix_nu (mN zs 1) hn
  generalize mN zs 1 = n at *
  generalize zs.getD 1 0 = z at *
  go_enter Tryd.func33, Tryd.ntmps33
  go_upto_region 1 with fail
  generalize w.alloc (.cells z16 28) = w1 at *
  go_upto_region 3 with fail
  go_region
  have FD := F.drew
  generalize w1.drew = w2 at *
  clear c0 hc1
  have c2 := FD.r.c2
  have f2 := FD.r.blk.fr 2
  have c3 := FD.r.c3
  have f3 := FD.r.blk.fr 3
  go_upto_region 27 with (first | fail)
  have FY := FD
  go_wp2_with (first | ((with_reducible refine store_inR rfl _ _ rfl _ (in16 inZ) z16 rfl rfl FY.z (in16_size _) z16_size (in16_one _) ?_); intro wz kz bz hz; have FZ := FY.done kz bz))
  exact bodyPost_ret (v := .tuple #[inV inZ, .bool (false)]) (results_ct rfl _ _ w.heap.size 28 (in16 inZ) (0, 0) _ _ rfl rfl FZ.z.h Tryd.underlying28 rfl (szIn inZ)) rfl ⟨rfl, FZ.r, FZ.k⟩
set_option maxHeartbeats 4000000 in
theorem early_8d (R : Rs w N B a len cap zs p true false) (h : 2 ≤ len) (h3 : (zs.getD 1 0 / 64 == 3) = false) :
    Calls Tryd.prog 33 #[rp B, .int .u8 141] w fun e w' => e = .returned (.tuple #[inV inZ, .bool (false)]) ∧ Rs w' N B a len cap zs (p) (!(false || false)) (false) ∧ But [B] w.heap.size w w' := by
  have hz1 := byte_bd R 1
  have hn : 0 ≤ mN zs 1 ∧ mN zs 1 < 8 := by unfold mN; omega
  have e8 : bits .and .u8 (zs.getD 1 0 / 8) 7 = mN zs 1 := and7u (by omega)
  have F := RF.start R 28 z16
  obtain ⟨b, off, rfl, hc1⟩ := F.r.byte 1 (by omega)
  have c0 := F.r.c0
  have hB := R.lt
  have hz : ((len : Int) < 2) = False := eq_false (by omega)
  have hz2 : ((1 : Int) < len) = True := eq_true (by omega)
  have hm := R.cm
  have hlc := R.lc
  have hS := Lib.hid shifts_ref
  have hN := Lib.hid numbers_ref
  have i1 := ix_sh (mN zs 1) hn
  have i2 := ix_nu (mN zs 1) hn
  generalize mN zs 1 = n at *
  generalize zs.getD 1 0 = z at *
  go_enter Tryd.func33, Tryd.ntmps33
  go_upto_region 1 with fail
  generalize w.alloc (.cells z16 28) = w1 at *
  go_upto_region 3 with fail
  go_region
  have FD := F.drew
  generalize w1.drew = w2 at *
  clear c0 hc1
  have c2 := FD.r.c2
  have f2 := FD.r.blk.fr 2
  have c3 := FD.r.c3
  have f3 := FD.r.blk.fr 3
  go_upto_region 27 with (first | fail)
  have FY := FD
  go_wp2_with (first | ((with_reducible refine store_inR rfl _ _ rfl _ (in16 inZ) z16 rfl rfl FY.z (in16_size _) z16_size (in16_one _) ?_); intro wz kz bz hz; have FZ := FY.done kz bz))
  exact bodyPost_ret (v := .tuple #[inV inZ, .bool (false)]) (results_ct rfl _ _ w.heap.size 28 (in16 inZ) (0, 0) _ _ rfl rfl FZ.z.h Tryd.underlying28 rfl (szIn inZ)) rfl ⟨rfl, FZ.r, FZ.k⟩
set_option maxHeartbeats 4000000 in
theorem early_c1 (R : Rs w N B a len cap zs p true false) (h : 2 ≤ len) (h3 : (zs.getD 1 0 / 64 == 3) = false) {t : Bool} (ht : (shN (mN zs 1) == 0) = t) :
    Calls Tryd.prog 33 #[rp B, .int .u8 193] w fun e w' => e = .returned (.tuple #[inV inZ, .bool (t)]) ∧ Rs w' N B a len cap zs (p) (!(t || false)) (false) ∧ But [B] w.heap.size w w' := by
  have hz1 := byte_bd R 1
  have hn : 0 ≤ mN zs 1 ∧ mN zs 1 < 8 := by unfold mN; omega
  have e8 : bits .and .u8 (zs.getD 1 0 / 8) 7 = mN zs 1 := and7u (by omega)
  have F := RF.start R 28 z16
  obtain ⟨b, off, rfl, hc1⟩ := F.r.byte 1 (by omega)
  have c0 := F.r.c0
  have hB := R.lt
  have hz : ((len : Int) < 2) = False := eq_false (by omega)
  have hz2 : ((1 : Int) < len) = True := eq_true (by omega)
  have hm := R.cm
  have hlc := R.lc
  have hS := Lib.hid shifts_ref
  have hN := Lib.hid numbers_ref
  have i1 := ix_sh (mN zs 1) hn
  have i2 := ix_nu (mN zs 1) hn
  generalize mN zs 1 = n at *
  generalize zs.getD 1 0 = z at *
  cases t
  · go_enter Tryd.func33, Tryd.ntmps33
    go_upto_region 1 with fail
    generalize w.alloc (.cells z16 28) = w1 at *
    go_upto_region 3 with fail
    go_region
    have FD := F.drew
    generalize w1.drew = w2 at *
    clear c0 hc1
    have c2 := FD.r.c2
    have f2 := FD.r.blk.fr 2
    have c3 := FD.r.c3
    have f3 := FD.r.blk.fr 3
    go_upto_region 27 with (first | ((with_reducible refine (hS.out _).mono ?_); rintro e w3 ⟨rfl, b3⟩; have FE := FD.below b3; clear c2 c3 f2 f3; have c2 := FE.r.c2; have f2 := FE.r.blk.fr 2; have c3 := FE.r.c3; have f3 := FE.r.blk.fr 3))
    have FY := FE
    go_wp2_with (first | ((with_reducible refine store_inR rfl _ _ rfl _ (in16 inZ) z16 rfl rfl FY.z (in16_size _) z16_size (in16_one _) ?_); intro wz kz bz hz; have FZ := FY.done kz bz))
    exact bodyPost_ret (v := .tuple #[inV inZ, .bool (false)]) (results_ct rfl _ _ w.heap.size 28 (in16 inZ) (0, 0) _ _ rfl rfl FZ.z.h Tryd.underlying28 rfl (szIn inZ)) rfl ⟨rfl, FZ.r, FZ.k⟩
  · go_enter Tryd.func33, Tryd.ntmps33
    go_upto_region 1 with fail
    generalize w.alloc (.cells z16 28) = w1 at *
    go_upto_region 3 with fail
    go_region
    have FD := F.drew
    generalize w1.drew = w2 at *
    clear c0 hc1
    have c2 := FD.r.c2
    have f2 := FD.r.blk.fr 2
    have c3 := FD.r.c3
    have f3 := FD.r.blk.fr 3
    go_upto_region 27 with (first | ((with_reducible refine (hS.out _).mono ?_); rintro e w3 ⟨rfl, b3⟩; have FE := FD.below b3; clear c2 c3 f2 f3; have c2 := FE.r.c2; have f2 := FE.r.blk.fr 2; have c3 := FE.r.c3; have f3 := FE.r.blk.fr 3))
    have FY := (FE.setShort false)
    generalize (w3.setCell ⟨B, 2, none⟩ (.bool false)) = wy at *
    go_wp2_with (first | ((with_reducible refine store_inR rfl _ _ rfl _ (in16 inZ) z16 rfl rfl FY.z (in16_size _) z16_size (in16_one _) ?_); intro wz kz bz hz; have FZ := FY.done kz bz))
    exact bodyPost_ret (v := .tuple #[inV inZ, .bool (true)]) (results_ct rfl _ _ w.heap.size 28 (in16 inZ) (0, 0) _ _ rfl rfl FZ.z.h Tryd.underlying28 rfl (szIn inZ)) rfl ⟨rfl, FZ.r, FZ.k⟩
set_option maxHeartbeats 4000000 in
theorem early_d1 (R : Rs w N B a len cap zs p true false) (h : 2 ≤ len) (h3 : (zs.getD 1 0 / 64 == 3) = false) {t : Bool} (ht : (shN (mN zs 1) == 0) = t) :
    Calls Tryd.prog 33 #[rp B, .int .u8 209] w fun e w' => e = .returned (.tuple #[inV inZ, .bool (t)]) ∧ Rs w' N B a len cap zs (p) (!(t || false)) (false) ∧ But [B] w.heap.size w w' := by
  have hz1 := byte_bd R 1
  have hn : 0 ≤ mN zs 1 ∧ mN zs 1 < 8 := by unfold mN; omega
  have e8 : bits .and .u8 (zs.getD 1 0 / 8) 7 = mN zs 1 := and7u (by omega)
  have F := RF.start R 28 z16
  obtain ⟨b, off, rfl, hc1⟩ := F.r.byte 1 (by omega)
  have c0 := F.r.c0
  have hB := R.lt
  have hz : ((len : Int) < 2) = False := eq_false (by omega)
  have hz2 : ((1 : Int) < len) = True := eq_true (by omega)
  have hm := R.cm
  have hlc := R.lc
  have hS := Lib.hid shifts_ref
  have hN := Lib.hid numbers_ref
  have i1 := ix_sh (mN zs 1) hn
  have i2 := ix_nu (mN zs 1) hn
  generalize mN zs 1 = n at *
  generalize zs.getD 1 0 = z at *
  cases t
  · go_enter Tryd.func33, Tryd.ntmps33
    go_upto_region 1 with fail
    generalize w.alloc (.cells z16 28) = w1 at *
    go_upto_region 3 with fail
    go_region
    have FD := F.drew
    generalize w1.drew = w2 at *
    clear c0 hc1
    have c2 := FD.r.c2
    have f2 := FD.r.blk.fr 2
    have c3 := FD.r.c3
    have f3 := FD.r.blk.fr 3
    go_upto_region 27 with (first | ((with_reducible refine (hS.out _).mono ?_); rintro e w3 ⟨rfl, b3⟩; have FE := FD.below b3; clear c2 c3 f2 f3; have c2 := FE.r.c2; have f2 := FE.r.blk.fr 2; have c3 := FE.r.c3; have f3 := FE.r.blk.fr 3))
    have FY := FE
    go_wp2_with (first | ((with_reducible refine store_inR rfl _ _ rfl _ (in16 inZ) z16 rfl rfl FY.z (in16_size _) z16_size (in16_one _) ?_); intro wz kz bz hz; have FZ := FY.done kz bz))
    exact bodyPost_ret (v := .tuple #[inV inZ, .bool (false)]) (results_ct rfl _ _ w.heap.size 28 (in16 inZ) (0, 0) _ _ rfl rfl FZ.z.h Tryd.underlying28 rfl (szIn inZ)) rfl ⟨rfl, FZ.r, FZ.k⟩
  · go_enter Tryd.func33, Tryd.ntmps33
    go_upto_region 1 with fail
    generalize w.alloc (.cells z16 28) = w1 at *
    go_upto_region 3 with fail
    go_region
    have FD := F.drew
    generalize w1.drew = w2 at *
    clear c0 hc1
    have c2 := FD.r.c2
    have f2 := FD.r.blk.fr 2
    have c3 := FD.r.c3
    have f3 := FD.r.blk.fr 3
    go_upto_region 27 with (first | ((with_reducible refine (hS.out _).mono ?_); rintro e w3 ⟨rfl, b3⟩; have FE := FD.below b3; clear c2 c3 f2 f3; have c2 := FE.r.c2; have f2 := FE.r.blk.fr 2; have c3 := FE.r.c3; have f3 := FE.r.blk.fr 3))
    have FY := (FE.setShort false)
    generalize (w3.setCell ⟨B, 2, none⟩ (.bool false)) = wy at *
    go_wp2_with (first | ((with_reducible refine store_inR rfl _ _ rfl _ (in16 inZ) z16 rfl rfl FY.z (in16_size _) z16_size (in16_one _) ?_); intro wz kz bz hz; have FZ := FY.done kz bz))
    exact bodyPost_ret (v := .tuple #[inV inZ, .bool (true)]) (results_ct rfl _ _ w.heap.size 28 (in16 inZ) (0, 0) _ _ rfl rfl FZ.z.h Tryd.underlying28 rfl (szIn inZ)) rfl ⟨rfl, FZ.r, FZ.k⟩
set_option maxHeartbeats 4000000 in
theorem early_d3 (R : Rs w N B a len cap zs p true false) (h : 2 ≤ len) (h3 : (zs.getD 1 0 / 64 == 3) = false) {t : Bool} (ht : (shN (mN zs 1) == 0) = t) :
    Calls Tryd.prog 33 #[rp B, .int .u8 211] w fun e w' => e = .returned (.tuple #[inV inZ, .bool (t)]) ∧ Rs w' N B a len cap zs (p) (!(t || false)) (false) ∧ But [B] w.heap.size w w' := by
  have hz1 := byte_bd R 1
  have hn : 0 ≤ mN zs 1 ∧ mN zs 1 < 8 := by unfold mN; omega
  have e8 : bits .and .u8 (zs.getD 1 0 / 8) 7 = mN zs 1 := and7u (by omega)
  have F := RF.start R 28 z16
  obtain ⟨b, off, rfl, hc1⟩ := F.r.byte 1 (by omega)
  have c0 := F.r.c0
  have hB := R.lt
  have hz : ((len : Int) < 2) = False := eq_false (by omega)
  have hz2 : ((1 : Int) < len) = True := eq_true (by omega)
  have hm := R.cm
  have hlc := R.lc
  have hS := Lib.hid shifts_ref
  have hN := Lib.hid numbers_ref
  have i1 := ix_sh (mN zs 1) hn
  have i2 := ix_nu (mN zs 1) hn
  generalize mN zs 1 = n at *
  generalize zs.getD 1 0 = z at *
  cases t
  · go_enter Tryd.func33, Tryd.ntmps33
    go_upto_region 1 with fail
    generalize w.alloc (.cells z16 28) = w1 at *
    go_upto_region 3 with fail
    go_region
    have FD := F.drew
    generalize w1.drew = w2 at *
    clear c0 hc1
    have c2 := FD.r.c2
    have f2 := FD.r.blk.fr 2
    have c3 := FD.r.c3
    have f3 := FD.r.blk.fr 3
    go_upto_region 27 with (first | ((with_reducible refine (hS.out _).mono ?_); rintro e w3 ⟨rfl, b3⟩; have FE := FD.below b3; clear c2 c3 f2 f3; have c2 := FE.r.c2; have f2 := FE.r.blk.fr 2; have c3 := FE.r.c3; have f3 := FE.r.blk.fr 3))
    have FY := FE
    go_wp2_with (first | ((with_reducible refine store_inR rfl _ _ rfl _ (in16 inZ) z16 rfl rfl FY.z (in16_size _) z16_size (in16_one _) ?_); intro wz kz bz hz; have FZ := FY.done kz bz))
    exact bodyPost_ret (v := .tuple #[inV inZ, .bool (false)]) (results_ct rfl _ _ w.heap.size 28 (in16 inZ) (0, 0) _ _ rfl rfl FZ.z.h Tryd.underlying28 rfl (szIn inZ)) rfl ⟨rfl, FZ.r, FZ.k⟩
  · go_enter Tryd.func33, Tryd.ntmps33
    go_upto_region 1 with fail
    generalize w.alloc (.cells z16 28) = w1 at *
    go_upto_region 3 with fail
    go_region
    have FD := F.drew
    generalize w1.drew = w2 at *
    clear c0 hc1
    have c2 := FD.r.c2
    have f2 := FD.r.blk.fr 2
    have c3 := FD.r.c3
    have f3 := FD.r.blk.fr 3
    go_upto_region 27 with (first | ((with_reducible refine (hS.out _).mono ?_); rintro e w3 ⟨rfl, b3⟩; have FE := FD.below b3; clear c2 c3 f2 f3; have c2 := FE.r.c2; have f2 := FE.r.blk.fr 2; have c3 := FE.r.c3; have f3 := FE.r.blk.fr 3))
    have FY := (FE.setShort false)
    generalize (w3.setCell ⟨B, 2, none⟩ (.bool false)) = wy at *
    go_wp2_with (first | ((with_reducible refine store_inR rfl _ _ rfl _ (in16 inZ) z16 rfl rfl FY.z (in16_size _) z16_size (in16_one _) ?_); intro wz kz bz hz; have FZ := FY.done kz bz))
    exact bodyPost_ret (v := .tuple #[inV inZ, .bool (true)]) (results_ct rfl _ _ w.heap.size 28 (in16 inZ) (0, 0) _ _ rfl rfl FZ.z.h Tryd.underlying28 rfl (szIn inZ)) rfl ⟨rfl, FZ.r, FZ.k⟩
set_option maxHeartbeats 4000000 in
theorem early_d9 (R : Rs w N B a len cap zs p true false) (h : 2 ≤ len) (h3 : (zs.getD 1 0 / 64 == 3) = false) :
    Calls Tryd.prog 33 #[rp B, .int .u8 217] w fun e w' => e = .returned (.tuple #[inV inZ, .bool (true)]) ∧ Rs w' N B a len cap zs (p) (!(true || false)) (false) ∧ But [B] w.heap.size w w' := by
  have hz1 := byte_bd R 1
  have hn : 0 ≤ mN zs 1 ∧ mN zs 1 < 8 := by unfold mN; omega
  have e8 : bits .and .u8 (zs.getD 1 0 / 8) 7 = mN zs 1 := and7u (by omega)
  have F := RF.start R 28 z16
  obtain ⟨b, off, rfl, hc1⟩ := F.r.byte 1 (by omega)
  have c0 := F.r.c0
  have hB := R.lt
  have hz : ((len : Int) < 2) = False := eq_false (by omega)
  have hz2 : ((1 : Int) < len) = True := eq_true (by omega)
  have hm := R.cm
  have hlc := R.lc
  have hS := Lib.hid shifts_ref
  have hN := Lib.hid numbers_ref
  have i1 := ix_sh (mN zs 1) hn
  have i2 := ix_nu (mN zs 1) hn
  generalize mN zs 1 = n at *
  generalize zs.getD 1 0 = z at *
  go_enter Tryd.func33, Tryd.ntmps33
  go_upto_region 1 with fail
  generalize w.alloc (.cells z16 28) = w1 at *
  go_upto_region 3 with fail
  go_region
  have FD := F.drew
  generalize w1.drew = w2 at *
  clear c0 hc1
  have c2 := FD.r.c2
  have f2 := FD.r.blk.fr 2
  have c3 := FD.r.c3
  have f3 := FD.r.blk.fr 3
  go_upto_region 27 with (first | fail)
  have FY := (FD.setShort false)
  generalize (w2.setCell ⟨B, 2, none⟩ (.bool false)) = wy at *
  go_wp2_with (first | ((with_reducible refine store_inR rfl _ _ rfl _ (in16 inZ) z16 rfl rfl FY.z (in16_size _) z16_size (in16_one _) ?_); intro wz kz bz hz; have FZ := FY.done kz bz))
  exact bodyPost_ret (v := .tuple #[inV inZ, .bool (true)]) (results_ct rfl _ _ w.heap.size 28 (in16 inZ) (0, 0) _ _ rfl rfl FZ.z.h Tryd.underlying28 rfl (szIn inZ)) rfl ⟨rfl, FZ.r, FZ.k⟩
set_option maxHeartbeats 4000000 in
theorem early_dc (R : Rs w N B a len cap zs p true false) (h : 2 ≤ len) (h3 : (zs.getD 1 0 / 64 == 3) = false) {t : Bool} (ht : (nuN (mN zs 1) == 0) = t) :
    Calls Tryd.prog 33 #[rp B, .int .u8 220] w fun e w' => e = .returned (.tuple #[inV inZ, .bool (t)]) ∧ Rs w' N B a len cap zs (p) (!(t || false)) (false) ∧ But [B] w.heap.size w w' := by
  have hz1 := byte_bd R 1
  have hn : 0 ≤ mN zs 1 ∧ mN zs 1 < 8 := by unfold mN; omega
  have e8 : bits .and .u8 (zs.getD 1 0 / 8) 7 = mN zs 1 := and7u (by omega)
  have F := RF.start R 28 z16
  obtain ⟨b, off, rfl, hc1⟩ := F.r.byte 1 (by omega)
  have c0 := F.r.c0
  have hB := R.lt
  have hz : ((len : Int) < 2) = False := eq_false (by omega)
  have hz2 : ((1 : Int) < len) = True := eq_true (by omega)
  have hm := R.cm
  have hlc := R.lc
  have hS := Lib.hid shifts_ref
  have hN := Lib.hid numbers_ref
  have i1 := ix_sh (mN zs 1) hn
  have i2 := ix_nu (mN zs 1) hn
  generalize mN zs 1 = n at *
  generalize zs.getD 1 0 = z at *
  cases t
  · go_enter Tryd.func33, Tryd.ntmps33
    go_upto_region 1 with fail
    generalize w.alloc (.cells z16 28) = w1 at *
    go_upto_region 3 with fail
    go_region
    have FD := F.drew
    generalize w1.drew = w2 at *
    clear c0 hc1
    have c2 := FD.r.c2
    have f2 := FD.r.blk.fr 2
    have c3 := FD.r.c3
    have f3 := FD.r.blk.fr 3
    go_upto_region 27 with (first | ((with_reducible refine (hN.out _).mono ?_); rintro e w3 ⟨rfl, b3⟩; have FE := FD.below b3; clear c2 c3 f2 f3; have c2 := FE.r.c2; have f2 := FE.r.blk.fr 2; have c3 := FE.r.c3; have f3 := FE.r.blk.fr 3))
    have FY := FE
    go_wp2_with (first | ((with_reducible refine store_inR rfl _ _ rfl _ (in16 inZ) z16 rfl rfl FY.z (in16_size _) z16_size (in16_one _) ?_); intro wz kz bz hz; have FZ := FY.done kz bz))
    exact bodyPost_ret (v := .tuple #[inV inZ, .bool (false)]) (results_ct rfl _ _ w.heap.size 28 (in16 inZ) (0, 0) _ _ rfl rfl FZ.z.h Tryd.underlying28 rfl (szIn inZ)) rfl ⟨rfl, FZ.r, FZ.k⟩
  · go_enter Tryd.func33, Tryd.ntmps33
    go_upto_region 1 with fail
    generalize w.alloc (.cells z16 28) = w1 at *
    go_upto_region 3 with fail
    go_region
    have FD := F.drew
    generalize w1.drew = w2 at *
    clear c0 hc1
    have c2 := FD.r.c2
    have f2 := FD.r.blk.fr 2
    have c3 := FD.r.c3
    have f3 := FD.r.blk.fr 3
    go_upto_region 27 with (first | ((with_reducible refine (hN.out _).mono ?_); rintro e w3 ⟨rfl, b3⟩; have FE := FD.below b3; clear c2 c3 f2 f3; have c2 := FE.r.c2; have f2 := FE.r.blk.fr 2; have c3 := FE.r.c3; have f3 := FE.r.blk.fr 3))
    have FY := (FE.setShort false)
    generalize (w3.setCell ⟨B, 2, none⟩ (.bool false)) = wy at *
    go_wp2_with (first | ((with_reducible refine store_inR rfl _ _ rfl _ (in16 inZ) z16 rfl rfl FY.z (in16_size _) z16_size (in16_one _) ?_); intro wz kz bz hz; have FZ := FY.done kz bz))
    exact bodyPost_ret (v := .tuple #[inV inZ, .bool (true)]) (results_ct rfl _ _ w.heap.size 28 (in16 inZ) (0, 0) _ _ rfl rfl FZ.z.h Tryd.underlying28 rfl (szIn inZ)) rfl ⟨rfl, FZ.r, FZ.k⟩
set_option maxHeartbeats 4000000 in
theorem early_dd (R : Rs w N B a len cap zs p true false) (h : 2 ≤ len) (h3 : (zs.getD 1 0 / 64 == 3) = false) {t : Bool} (ht : ((mN zs 1) != 0) = t) {u : Bool} (hu : ((mN zs 1) != 3) = u) :
    Calls Tryd.prog 33 #[rp B, .int .u8 221] w fun e w' => e = .returned (.tuple #[inV inZ, .bool (t && u)]) ∧ Rs w' N B a len cap zs (p) (!(t && u || false)) (false) ∧ But [B] w.heap.size w w' := by
  have hz1 := byte_bd R 1
  have hn : 0 ≤ mN zs 1 ∧ mN zs 1 < 8 := by unfold mN; omega
  have e8 : bits .and .u8 (zs.getD 1 0 / 8) 7 = mN zs 1 := and7u (by omega)
  have F := RF.start R 28 z16
  obtain ⟨b, off, rfl, hc1⟩ := F.r.byte 1 (by omega)
  have c0 := F.r.c0
  have hB := R.lt
  have hz : ((len : Int) < 2) = False := eq_false (by omega)
  have hz2 : ((1 : Int) < len) = True := eq_true (by omega)
  have hm := R.cm
  have hlc := R.lc
  have hS := Lib.hid shifts_ref
  have hN := Lib.hid numbers_ref
  have i1 := ix_sh (mN zs 1) hn
  have i2 := ix_nu (mN zs 1) hn
  generalize mN zs 1 = n at *
  generalize zs.getD 1 0 = z at *
  cases t <;> cases u
  · exfalso
    simp at ht hu
    omega
  · go_enter Tryd.func33, Tryd.ntmps33
    go_upto_region 1 with fail
    generalize w.alloc (.cells z16 28) = w1 at *
    go_upto_region 3 with fail
    go_region
    have FD := F.drew
    generalize w1.drew = w2 at *
    clear c0 hc1
    have c2 := FD.r.c2
    have f2 := FD.r.blk.fr 2
    have c3 := FD.r.c3
    have f3 := FD.r.blk.fr 3
    go_upto_region 27 with (first | fail)
    have FY := FD
    go_wp2_with (first | ((with_reducible refine store_inR rfl _ _ rfl _ (in16 inZ) z16 rfl rfl FY.z (in16_size _) z16_size (in16_one _) ?_); intro wz kz bz hz; have FZ := FY.done kz bz))
    exact bodyPost_ret (v := .tuple #[inV inZ, .bool (false)]) (results_ct rfl _ _ w.heap.size 28 (in16 inZ) (0, 0) _ _ rfl rfl FZ.z.h Tryd.underlying28 rfl (szIn inZ)) rfl ⟨rfl, FZ.r, FZ.k⟩
  · go_enter Tryd.func33, Tryd.ntmps33
    go_upto_region 1 with fail
    generalize w.alloc (.cells z16 28) = w1 at *
    go_upto_region 3 with fail
    go_region
    have FD := F.drew
    generalize w1.drew = w2 at *
    clear c0 hc1
    have c2 := FD.r.c2
    have f2 := FD.r.blk.fr 2
    have c3 := FD.r.c3
    have f3 := FD.r.blk.fr 3
    go_upto_region 27 with (first | fail)
    have FY := FD
    go_wp2_with (first | ((with_reducible refine store_inR rfl _ _ rfl _ (in16 inZ) z16 rfl rfl FY.z (in16_size _) z16_size (in16_one _) ?_); intro wz kz bz hz; have FZ := FY.done kz bz))
    exact bodyPost_ret (v := .tuple #[inV inZ, .bool (false)]) (results_ct rfl _ _ w.heap.size 28 (in16 inZ) (0, 0) _ _ rfl rfl FZ.z.h Tryd.underlying28 rfl (szIn inZ)) rfl ⟨rfl, FZ.r, FZ.k⟩
  · go_enter Tryd.func33, Tryd.ntmps33
    go_upto_region 1 with fail
    generalize w.alloc (.cells z16 28) = w1 at *
    go_upto_region 3 with fail
    go_region
    have FD := F.drew
    generalize w1.drew = w2 at *
    clear c0 hc1
    have c2 := FD.r.c2
    have f2 := FD.r.blk.fr 2
    have c3 := FD.r.c3
    have f3 := FD.r.blk.fr 3
    go_upto_region 27 with (first | fail)
    have FY := (FD.setShort false)
    generalize (w2.setCell ⟨B, 2, none⟩ (.bool false)) = wy at *
    go_wp2_with (first | ((with_reducible refine store_inR rfl _ _ rfl _ (in16 inZ) z16 rfl rfl FY.z (in16_size _) z16_size (in16_one _) ?_); intro wz kz bz hz; have FZ := FY.done kz bz))
    exact bodyPost_ret (v := .tuple #[inV inZ, .bool (true)]) (results_ct rfl _ _ w.heap.size 28 (in16 inZ) (0, 0) _ _ rfl rfl FZ.z.h Tryd.underlying28 rfl (szIn inZ)) rfl ⟨rfl, FZ.r, FZ.k⟩
set_option maxHeartbeats 4000000 in
theorem early_f7 (R : Rs w N B a len cap zs p true false) (h : 2 ≤ len) (h3 : (zs.getD 1 0 / 64 == 3) = false) {t : Bool} (ht : ((mN zs 1) == 1) = t) :
    Calls Tryd.prog 33 #[rp B, .int .u8 247] w fun e w' => e = .returned (.tuple #[inV inZ, .bool (t)]) ∧ Rs w' N B a len cap zs (p) (!(t || false)) (false) ∧ But [B] w.heap.size w w' := by
  have hz1 := byte_bd R 1
  have hn : 0 ≤ mN zs 1 ∧ mN zs 1 < 8 := by unfold mN; omega
  have e8 : bits .and .u8 (zs.getD 1 0 / 8) 7 = mN zs 1 := and7u (by omega)
  have F := RF.start R 28 z16
  obtain ⟨b, off, rfl, hc1⟩ := F.r.byte 1 (by omega)
  have c0 := F.r.c0
  have hB := R.lt
  have hz : ((len : Int) < 2) = False := eq_false (by omega)
  have hz2 : ((1 : Int) < len) = True := eq_true (by omega)
  have hm := R.cm
  have hlc := R.lc
  have hS := Lib.hid shifts_ref
  have hN := Lib.hid numbers_ref
  have i1 := ix_sh (mN zs 1) hn
  have i2 := ix_nu (mN zs 1) hn
  generalize mN zs 1 = n at *
  generalize zs.getD 1 0 = z at *
  cases t
  · go_enter Tryd.func33, Tryd.ntmps33
    go_upto_region 1 with fail
    generalize w.alloc (.cells z16 28) = w1 at *
    go_upto_region 3 with fail
    go_region
    have FD := F.drew
    generalize w1.drew = w2 at *
    clear c0 hc1
    have c2 := FD.r.c2
    have f2 := FD.r.blk.fr 2
    have c3 := FD.r.c3
    have f3 := FD.r.blk.fr 3
    go_upto_region 27 with (first | fail)
    have FY := FD
    go_wp2_with (first | ((with_reducible refine store_inR rfl _ _ rfl _ (in16 inZ) z16 rfl rfl FY.z (in16_size _) z16_size (in16_one _) ?_); intro wz kz bz hz; have FZ := FY.done kz bz))
    exact bodyPost_ret (v := .tuple #[inV inZ, .bool (false)]) (results_ct rfl _ _ w.heap.size 28 (in16 inZ) (0, 0) _ _ rfl rfl FZ.z.h Tryd.underlying28 rfl (szIn inZ)) rfl ⟨rfl, FZ.r, FZ.k⟩
  · go_enter Tryd.func33, Tryd.ntmps33
    go_upto_region 1 with fail
    generalize w.alloc (.cells z16 28) = w1 at *
    go_upto_region 3 with fail
    go_region
    have FD := F.drew
    generalize w1.drew = w2 at *
    clear c0 hc1
    have c2 := FD.r.c2
    have f2 := FD.r.blk.fr 2
    have c3 := FD.r.c3
    have f3 := FD.r.blk.fr 3
    go_upto_region 27 with (first | fail)
    have FY := (FD.setShort false)
    generalize (w2.setCell ⟨B, 2, none⟩ (.bool false)) = wy at *
    go_wp2_with (first | ((with_reducible refine store_inR rfl _ _ rfl _ (in16 inZ) z16 rfl rfl FY.z (in16_size _) z16_size (in16_one _) ?_); intro wz kz bz hz; have FZ := FY.done kz bz))
    exact bodyPost_ret (v := .tuple #[inV inZ, .bool (true)]) (results_ct rfl _ _ w.heap.size 28 (in16 inZ) (0, 0) _ _ rfl rfl FZ.z.h Tryd.underlying28 rfl (szIn inZ)) rfl ⟨rfl, FZ.r, FZ.k⟩
set_option maxHeartbeats 4000000 in
theorem early_ff (R : Rs w N B a len cap zs p true false) (h : 2 ≤ len) (h3 : (zs.getD 1 0 / 64 == 3) = false) {t : Bool} (ht : ((mN zs 1) == 3) = t) {u : Bool} (hu : ((mN zs 1) == 5) = u) {v : Bool} (hv : ((mN zs 1) == 7) = v) :
    Calls Tryd.prog 33 #[rp B, .int .u8 255] w fun e w' => e = .returned (.tuple #[inV inZ, .bool (t || u)]) ∧ Rs w' N B a len cap zs (p) (!(t || u || v)) (v) ∧ But [B] w.heap.size w w' := by
  have hz1 := byte_bd R 1
  have hn : 0 ≤ mN zs 1 ∧ mN zs 1 < 8 := by unfold mN; omega
  have e8 : bits .and .u8 (zs.getD 1 0 / 8) 7 = mN zs 1 := and7u (by omega)
  have F := RF.start R 28 z16
  obtain ⟨b, off, rfl, hc1⟩ := F.r.byte 1 (by omega)
  have c0 := F.r.c0
  have hB := R.lt
  have hz : ((len : Int) < 2) = False := eq_false (by omega)
  have hz2 : ((1 : Int) < len) = True := eq_true (by omega)
  have hm := R.cm
  have hlc := R.lc
  have hS := Lib.hid shifts_ref
  have hN := Lib.hid numbers_ref
  have i1 := ix_sh (mN zs 1) hn
  have i2 := ix_nu (mN zs 1) hn
  generalize mN zs 1 = n at *
  generalize zs.getD 1 0 = z at *
  cases t <;> cases u <;> cases v
  · go_enter Tryd.func33, Tryd.ntmps33
    go_upto_region 1 with fail
    generalize w.alloc (.cells z16 28) = w1 at *
    go_upto_region 3 with fail
    go_region
    have FD := F.drew
    generalize w1.drew = w2 at *
    clear c0 hc1
    have c2 := FD.r.c2
    have f2 := FD.r.blk.fr 2
    have c3 := FD.r.c3
    have f3 := FD.r.blk.fr 3
    go_upto_region 27 with (first | fail)
    have FY := FD
    go_wp2_with (first | ((with_reducible refine store_inR rfl _ _ rfl _ (in16 inZ) z16 rfl rfl FY.z (in16_size _) z16_size (in16_one _) ?_); intro wz kz bz hz; have FZ := FY.done kz bz))
    exact bodyPost_ret (v := .tuple #[inV inZ, .bool (false)]) (results_ct rfl _ _ w.heap.size 28 (in16 inZ) (0, 0) _ _ rfl rfl FZ.z.h Tryd.underlying28 rfl (szIn inZ)) rfl ⟨rfl, FZ.r, FZ.k⟩
  · go_enter Tryd.func33, Tryd.ntmps33
    go_upto_region 1 with fail
    generalize w.alloc (.cells z16 28) = w1 at *
    go_upto_region 3 with fail
    go_region
    have FD := F.drew
    generalize w1.drew = w2 at *
    clear c0 hc1
    have c2 := FD.r.c2
    have f2 := FD.r.blk.fr 2
    have c3 := FD.r.c3
    have f3 := FD.r.blk.fr 3
    go_upto_region 27 with (first | fail)
    have FY := ((FD.setBad true).setShort false)
    generalize ((w2.setCell ⟨B, 3, none⟩ (.bool true)).setCell ⟨B, 2, none⟩ (.bool false)) = wy at *
    go_wp2_with (first | ((with_reducible refine store_inR rfl _ _ rfl _ (in16 inZ) z16 rfl rfl FY.z (in16_size _) z16_size (in16_one _) ?_); intro wz kz bz hz; have FZ := FY.done kz bz))
    exact bodyPost_ret (v := .tuple #[inV inZ, .bool (false)]) (results_ct rfl _ _ w.heap.size 28 (in16 inZ) (0, 0) _ _ rfl rfl FZ.z.h Tryd.underlying28 rfl (szIn inZ)) rfl ⟨rfl, FZ.r, FZ.k⟩
  · go_enter Tryd.func33, Tryd.ntmps33
    go_upto_region 1 with fail
    generalize w.alloc (.cells z16 28) = w1 at *
    go_upto_region 3 with fail
    go_region
    have FD := F.drew
    generalize w1.drew = w2 at *
    clear c0 hc1
    have c2 := FD.r.c2
    have f2 := FD.r.blk.fr 2
    have c3 := FD.r.c3
    have f3 := FD.r.blk.fr 3
    go_upto_region 27 with (first | fail)
    have FY := (FD.setShort false)
    generalize (w2.setCell ⟨B, 2, none⟩ (.bool false)) = wy at *
    go_wp2_with (first | ((with_reducible refine store_inR rfl _ _ rfl _ (in16 inZ) z16 rfl rfl FY.z (in16_size _) z16_size (in16_one _) ?_); intro wz kz bz hz; have FZ := FY.done kz bz))
    exact bodyPost_ret (v := .tuple #[inV inZ, .bool (true)]) (results_ct rfl _ _ w.heap.size 28 (in16 inZ) (0, 0) _ _ rfl rfl FZ.z.h Tryd.underlying28 rfl (szIn inZ)) rfl ⟨rfl, FZ.r, FZ.k⟩
  · exfalso
    simp at ht hu hv
    omega
  · go_enter Tryd.func33, Tryd.ntmps33
    go_upto_region 1 with fail
    generalize w.alloc (.cells z16 28) = w1 at *
    go_upto_region 3 with fail
    go_region
    have FD := F.drew
    generalize w1.drew = w2 at *
    clear c0 hc1
    have c2 := FD.r.c2
    have f2 := FD.r.blk.fr 2
    have c3 := FD.r.c3
    have f3 := FD.r.blk.fr 3
    go_upto_region 27 with (first | fail)
    have FY := (FD.setShort false)
    generalize (w2.setCell ⟨B, 2, none⟩ (.bool false)) = wy at *
    go_wp2_with (first | ((with_reducible refine store_inR rfl _ _ rfl _ (in16 inZ) z16 rfl rfl FY.z (in16_size _) z16_size (in16_one _) ?_); intro wz kz bz hz; have FZ := FY.done kz bz))
    exact bodyPost_ret (v := .tuple #[inV inZ, .bool (true)]) (results_ct rfl _ _ w.heap.size 28 (in16 inZ) (0, 0) _ _ rfl rfl FZ.z.h Tryd.underlying28 rfl (szIn inZ)) rfl ⟨rfl, FZ.r, FZ.k⟩
  · exfalso
    simp at ht hu hv
    omega
  · exfalso
    simp at ht hu hv
    omega
  · exfalso
    simp at ht hu hv
    omega
set_option maxHeartbeats 4000000 in
theorem early_c6 (R : Rs w N B a len cap zs p true false) (h : 2 ≤ len) (h3 : (zs.getD 1 0 / 64 == 3) = false) {t : Bool} (ht : ((mN zs 1) != 0) = t) :
    Calls Tryd.prog 33 #[rp B, .int .u8 198] w fun e w' => e = .returned (.tuple #[inV inZ, .bool (false)]) ∧ Rs w' N B a len cap zs (p) (!(false || t)) (t) ∧ But [B] w.heap.size w w' := by
  have hz1 := byte_bd R 1
  have hn : 0 ≤ mN zs 1 ∧ mN zs 1 < 8 := by unfold mN; omega
  have e8 : bits .and .u8 (zs.getD 1 0 / 8) 7 = mN zs 1 := and7u (by omega)
  have F := RF.start R 28 z16
  obtain ⟨b, off, rfl, hc1⟩ := F.r.byte 1 (by omega)
  have c0 := F.r.c0
  have hB := R.lt
  have hz : ((len : Int) < 2) = False := eq_false (by omega)
  have hz2 : ((1 : Int) < len) = True := eq_true (by omega)
  have hm := R.cm
  have hlc := R.lc
  have hS := Lib.hid shifts_ref
  have hN := Lib.hid numbers_ref
  have i1 := ix_sh (mN zs 1) hn
  have i2 := ix_nu (mN zs 1) hn
  generalize mN zs 1 = n at *
  generalize zs.getD 1 0 = z at *
  cases t
  · go_enter Tryd.func33, Tryd.ntmps33
    go_upto_region 1 with fail
    generalize w.alloc (.cells z16 28) = w1 at *
    go_upto_region 3 with fail
    go_region
    have FD := F.drew
    generalize w1.drew = w2 at *
    clear c0 hc1
    have c2 := FD.r.c2
    have f2 := FD.r.blk.fr 2
    have c3 := FD.r.c3
    have f3 := FD.r.blk.fr 3
    go_upto_region 27 with (first | fail)
    have FY := (FD.setBad false)
    generalize (w2.setCell ⟨B, 3, none⟩ (.bool false)) = wy at *
    go_wp2_with (first | ((with_reducible refine store_inR rfl _ _ rfl _ (in16 inZ) z16 rfl rfl FY.z (in16_size _) z16_size (in16_one _) ?_); intro wz kz bz hz; have FZ := FY.done kz bz))
    exact bodyPost_ret (v := .tuple #[inV inZ, .bool (false)]) (results_ct rfl _ _ w.heap.size 28 (in16 inZ) (0, 0) _ _ rfl rfl FZ.z.h Tryd.underlying28 rfl (szIn inZ)) rfl ⟨rfl, FZ.r, FZ.k⟩
  · go_enter Tryd.func33, Tryd.ntmps33
    go_upto_region 1 with fail
    generalize w.alloc (.cells z16 28) = w1 at *
    go_upto_region 3 with fail
    go_region
    have FD := F.drew
    generalize w1.drew = w2 at *
    clear c0 hc1
    have c2 := FD.r.c2
    have f2 := FD.r.blk.fr 2
    have c3 := FD.r.c3
    have f3 := FD.r.blk.fr 3
    go_upto_region 27 with (first | fail)
    have FY := ((FD.setBad true).setShort false)
    generalize ((w2.setCell ⟨B, 3, none⟩ (.bool true)).setCell ⟨B, 2, none⟩ (.bool false)) = wy at *
    go_wp2_with (first | ((with_reducible refine store_inR rfl _ _ rfl _ (in16 inZ) z16 rfl rfl FY.z (in16_size _) z16_size (in16_one _) ?_); intro wz kz bz hz; have FZ := FY.done kz bz))
    exact bodyPost_ret (v := .tuple #[inV inZ, .bool (false)]) (results_ct rfl _ _ w.heap.size 28 (in16 inZ) (0, 0) _ _ rfl rfl FZ.z.h Tryd.underlying28 rfl (szIn inZ)) rfl ⟨rfl, FZ.r, FZ.k⟩
set_option maxHeartbeats 4000000 in
theorem early_c7 (R : Rs w N B a len cap zs p true false) (h : 2 ≤ len) (h3 : (zs.getD 1 0 / 64 == 3) = false) {t : Bool} (ht : ((mN zs 1) != 0) = t) :
    Calls Tryd.prog 33 #[rp B, .int .u8 199] w fun e w' => e = .returned (.tuple #[inV inZ, .bool (false)]) ∧ Rs w' N B a len cap zs (p) (!(false || t)) (t) ∧ But [B] w.heap.size w w' := by
  have hz1 := byte_bd R 1
  have hn : 0 ≤ mN zs 1 ∧ mN zs 1 < 8 := by unfold mN; omega
  have e8 : bits .and .u8 (zs.getD 1 0 / 8) 7 = mN zs 1 := and7u (by omega)
  have F := RF.start R 28 z16
  obtain ⟨b, off, rfl, hc1⟩ := F.r.byte 1 (by omega)
  have c0 := F.r.c0
  have hB := R.lt
  have hz : ((len : Int) < 2) = False := eq_false (by omega)
  have hz2 : ((1 : Int) < len) = True := eq_true (by omega)
  have hm := R.cm
  have hlc := R.lc
  have hS := Lib.hid shifts_ref
  have hN := Lib.hid numbers_ref
  have i1 := ix_sh (mN zs 1) hn
  have i2 := ix_nu (mN zs 1) hn
  generalize mN zs 1 = n at *
  generalize zs.getD 1 0 = z at *
  cases t
  · go_enter Tryd.func33, Tryd.ntmps33
    go_upto_region 1 with fail
    generalize w.alloc (.cells z16 28) = w1 at *
    go_upto_region 3 with fail
    go_region
    have FD := F.drew
    generalize w1.drew = w2 at *
    clear c0 hc1
    have c2 := FD.r.c2
    have f2 := FD.r.blk.fr 2
    have c3 := FD.r.c3
    have f3 := FD.r.blk.fr 3
    go_upto_region 27 with (first | fail)
    have FY := (FD.setBad false)
    generalize (w2.setCell ⟨B, 3, none⟩ (.bool false)) = wy at *
    go_wp2_with (first | ((with_reducible refine store_inR rfl _ _ rfl _ (in16 inZ) z16 rfl rfl FY.z (in16_size _) z16_size (in16_one _) ?_); intro wz kz bz hz; have FZ := FY.done kz bz))
    exact bodyPost_ret (v := .tuple #[inV inZ, .bool (false)]) (results_ct rfl _ _ w.heap.size 28 (in16 inZ) (0, 0) _ _ rfl rfl FZ.z.h Tryd.underlying28 rfl (szIn inZ)) rfl ⟨rfl, FZ.r, FZ.k⟩
  · go_enter Tryd.func33, Tryd.ntmps33
    go_upto_region 1 with fail
    generalize w.alloc (.cells z16 28) = w1 at *
    go_upto_region 3 with fail
    go_region
    have FD := F.drew
    generalize w1.drew = w2 at *
    clear c0 hc1
    have c2 := FD.r.c2
    have f2 := FD.r.blk.fr 2
    have c3 := FD.r.c3
    have f3 := FD.r.blk.fr 3
    go_upto_region 27 with (first | fail)
    have FY := ((FD.setBad true).setShort false)
    generalize ((w2.setCell ⟨B, 3, none⟩ (.bool true)).setCell ⟨B, 2, none⟩ (.bool false)) = wy at *
    go_wp2_with (first | ((with_reducible refine store_inR rfl _ _ rfl _ (in16 inZ) z16 rfl rfl FY.z (in16_size _) z16_size (in16_one _) ?_); intro wz kz bz hz; have FZ := FY.done kz bz))
    exact bodyPost_ret (v := .tuple #[inV inZ, .bool (false)]) (results_ct rfl _ _ w.heap.size 28 (in16 inZ) (0, 0) _ _ rfl rfl FZ.z.h Tryd.underlying28 rfl (szIn inZ)) rfl ⟨rfl, FZ.r, FZ.k⟩
end
end Go.Proofs.YtlooobehlhgccaaDoor
