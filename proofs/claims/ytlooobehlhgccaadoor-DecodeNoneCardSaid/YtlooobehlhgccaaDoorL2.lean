/- DecodeNone. -/
import Derived.Test.YtlooobehlhgccaaDoorQ4
import Derived.Test.YtlooobehlhgccaaDoorQ2
import Derived.Deep.CutRange
namespace Go.Proofs.YtlooobehlhgccaaDoor
open Go.RowKit
set_option linter.unusedVariables false
set_option linter.unusedSimpArgs false
set_option linter.unusedSectionVars false

theorem or_u8 (a x b : Nat) (h : ∀ n, n < b → bits .or .u8 (a : Int) (n : Int) = ((a + n : Nat) : Int)) (hx : x < b) : bits .or .u8 (a : Int) (x : Int) = (a : Int) + x := by rw [h x hx]; omega
theorem or_192 (x : Int) (h : 0 ≤ x ∧ x < 64) : bits .or .u8 192 x = 192 + x := by
  obtain ⟨n, rfl⟩ := Int.eq_ofNat_of_zero_le h.1
  exact or_u8 192 n 64 (of_decide_eq_true (by kernel_rfl)) (by omega)
theorem or_248 (x : Int) (h : 0 ≤ x ∧ x < 8) : bits .or .u8 248 x = 248 + x := by
  obtain ⟨n, rfl⟩ := Int.eq_ofNat_of_zero_le h.1
  exact or_u8 248 n 8 (of_decide_eq_true (by kernel_rfl)) (by omega)
theorem or_200 (x : Int) (h : 0 ≤ x ∧ x < 8) : bits .or .u8 200 x = 200 + x := by
  obtain ⟨n, rfl⟩ := Int.eq_ofNat_of_zero_le h.1
  exact or_u8 200 n 8 (of_decide_eq_true (by kernel_rfl)) (by omega)
abbrev otherA : Array Value := #[.int .u8 244, .int .u8 102, .int .u8 240, .int .u8 14, .int .u8 39, .int .u8 96, .int .u8 142, .int .u8 200, .int .u8 228, .int .u8 250, .int .u8 216, .int .u8 143]
theorem otherA_at : ∀ k : Nat, k < 12 → otherA[k]? = some (.int .u8 (otherL.getD k 0)) := by
  intro k hk
  rcases (by omega : k = 0 ∨ k = 1 ∨ k = 2 ∨ k = 3 ∨ k = 4 ∨ k = 5 ∨ k = 6 ∨ k = 7 ∨ k = 8 ∨ k = 9 ∨ k = 10 ∨ k = 11) with rfl | rfl | rfl | rfl | rfl | rfl | rfl | rfl | rfl | rfl | rfl | rfl <;> rfl
theorem other_bd : ∀ k : Nat, k < 12 → 0 ≤ otherL.getD k 0 ∧ otherL.getD k 0 ≤ 255 := of_decide_eq_true (by kernel_rfl)
theorem ix_other (b k : Nat) (h : k < 12) (W : World) : (Instr.indexAt 44 (.pointer (some ⟨b, 0, none⟩)) (.int .u8 (k : Int))).run Tryd.prog W = .ok (.pointer (some ⟨b, k, none⟩)) W := by
  have s1 : ∀ W, (sizeOf 5).run Tryd.prog W = .ok 1 W := fun W => by kernel_rfl
  have hj : (k : Int) < 12 := by omega
  simp [Instr.indexAt, run_underlying Tryd.underlying44, s1, go_sem, hj, h, Instr.sureAddr]
theorem kind_of {zs : List Int} {x k : Int} (h : decE zs = x) (hk : (if x = 90 then 3 else if x = 12 then 4 else (0 : Int)) = k) : kindM zs = k := by unfold kindM; rw [h]; exact hk
theorem Kind_ownI {w : World} {N : Nat} {v : Value} {zs : List Int} (h : Own w N v zs) (tabs : Tabs w) {k : Int} (hk : kindM zs = k) :
    Calls Tryd.prog 12 #[v] w fun e w' => e = .returned (.int .i64 k) ∧ Below w.heap.size w w' := by
  subst hk
  exact Kind_own h tabs
set_option maxHeartbeats 4000000 in
set_option maxRecDepth 100000 in
theorem none_walk (r : Int) (hr : 0 ≤ r ∧ r ≤ 255) (a : Option Addr) (len cap : Nat) (ys : List Int) (w : World) (A : Ba w a len cap ys) (tabs : Tabs w) :
    Calls Tryd.prog 8 #[.int .u8 r, .slice a len cap] w fun e w' => e = .returned (.bool true) ∧ Below w.heap.size w w' := by
  have hK := Lib.hid (known_any w tabs)
  by_cases h10 : 10 < len
  · go_enter Tryd.func8, Tryd.ntmps8
    go_wp2_with ((with_reducible refine hK.out.mono ?_); rintro e W1 ⟨rfl, b1⟩)
    go_ret
    exact ⟨rfl, b1⟩
  · have hlen : ys.length = len := A.row.1
    have hyl : ys.length ≤ 80 := by omega
    obtain ⟨k, hk⟩ := Int.eq_ofNat_of_zero_le (show 0 ≤ r % 12 by omega)
    have hk12 : k < 12 := by omega
    have hat := otherA_at k hk12
    have hbd := other_bd k hk12
    have e0 := dec_e (dec_other k hk12 ys)
    have q0 := kind_of (k := 4) e0.2 rfl
    have o1 := or_192 (r % 64) (by omega)
    have o2 := or_248 (r % 8) (by omega)
    have o3 := or_200 (r % 8) (by omega)
    have e1 := dec_e (dec_ud ys)
    have e2 := dec_e (dec_lea_no (r % 64) (by omega) ys)
    have e3 := dec_e (dec_ff7 (r % 8) (by omega) ys)
    have e4 := dec_e (dec_c71 (r % 8) (by omega) ys)
    have b64 : 0 ≤ r % 64 ∧ r % 64 < 64 := by omega
    have b8 : 0 ≤ r % 8 ∧ r % 8 < 8 := by omega
    generalize hx64 : r % 64 = x at *
    generalize hx8 : r % 8 = y at *
    generalize otherL.getD k 0 = z at *
    have l0 : LitB #[.int .u8 z] [z] 1 := ⟨rfl, by intro u hu; simp at hu; omega, rfl, by decide⟩
    have l1 : LitB #[.int .u8 15, .int .u8 11] [15, 11] 2 := ⟨rfl, by decide, rfl, by decide⟩
    have l2 : LitB #[.int .u8 141, .int .u8 (192 + x)] [141, 192 + x] 2 := ⟨rfl, by intro u hu; simp at hu; omega, rfl, by decide⟩
    have l3 : LitB #[.int .u8 255, .int .u8 (248 + y)] [255, 248 + y] 2 := ⟨rfl, by intro u hu; simp at hu; omega, rfl, by decide⟩
    have l4 : LitB #[.int .u8 199, .int .u8 (200 + y)] [199, 200 + y] 2 := ⟨rfl, by intro u hu; simp at hu; omega, rfl, by decide⟩
    have d0 := Lib.hid (fun W (b : Below w.heap.size w W) N' vv (h : Own W N' vv ([z] ++ ys)) => Decode_ownI h (tabs.below b) (zs := z :: ys) e0 (l := 0) rfl)
    have kd0 := Lib.hid (fun W (b : Below w.heap.size w W) N' vv (h : Own W N' vv ([z] ++ ys)) => Kind_ownI h (tabs.below b) (zs := z :: ys) q0)
    have d1 := Lib.hid (fun W (b : Below w.heap.size w W) N' vv (h : Own W N' vv ([15, 11] ++ ys)) => Decode_ownI h (tabs.below b) (zs := 15 :: 11 :: ys) e1 (l := 0) rfl)
    have d2 := Lib.hid (fun W (b : Below w.heap.size w W) N' vv (h : Own W N' vv ([141, 192 + x] ++ ys)) => Decode_ownI h (tabs.below b) (zs := 141 :: (192 + x) :: ys) e2 (l := 0) rfl)
    have d3 := Lib.hid (fun W (b : Below w.heap.size w W) N' vv (h : Own W N' vv ([255, 248 + y] ++ ys)) => Decode_ownI h (tabs.below b) (zs := 255 :: (248 + y) :: ys) e3 (l := 0) rfl)
    have d4 := Lib.hid (fun W (b : Below w.heap.size w W) N' vv (h : Own W N' vv ([199, 200 + y] ++ ys)) => Decode_ownI h (tabs.below b) (zs := 199 :: (200 + y) :: ys) e4 (l := 0) rfl)
    clear e0 e1 e2 e3 e4 q0 hbd
    go_enter Tryd.func8, Tryd.ntmps8
    go_upto_region 5 with ((with_reducible refine hK.out.mono ?_); rintro e W1 ⟨rfl, b1⟩)
    have hA := A.below b1
    go_upto_region 6 with fail
    have kO := Blk.new W1 44 otherA
    have hA1 := hA.below ((Below.refl _ _).alloc (Nat.le_refl _) (.cells otherA 44))
    have k1 := b1.alloc b1.size (.cells otherA 44)
    have cO := kO.cell hat
    have hix := ix_other W1.heap.size k hk12
    generalize W1.alloc (.cells otherA 44) = W2 at *
    generalize W1.heap.size = O at *
    clear A hA kO h10
    go_upto_region 7 with ((with_reducible refine append_lit _ rfl _ _ rfl l0 rfl ys a len cap rfl hA1 hyl ?_); intro v0 V0 p0 a0)
    have g0 := k1.trans (a0.mono k1.size)
    have hA2 := hA1.below a0
    clear cO hix hat hk
    go_upto_region 8 with (first | ((with_reducible refine (d0.out _ g0 _ _ p0).mono ?_); rintro e U1 ⟨rfl, b1⟩) | ((with_reducible refine store_in_as rfl _ _ rfl (in16 inZ) (in16_size _) (in16_one _) rfl rfl ?_); intro V1 kI1 c1))
    have m1 : Below V0.heap.size V0 V1 := b1.trans (c1.mono b1.size)
    have g1 := g0.trans (m1.mono g0.size)
    have p1 := p0.below m1
    have hA3 := hA2.below m1
    go_upto_region 9 with (first | ((with_reducible refine append_lit _ rfl _ _ rfl l1 rfl ys a len cap rfl hA3 hyl ?_); intro v2 w2 o2 a2) | ((with_reducible refine (d1.out _ (g1.trans (a2.mono g1.size)) _ _ o2).mono ?_); rintro e U2 ⟨rfl, b2⟩) | ((with_reducible refine store_in_as rfl _ _ rfl (in16 inZ) (in16_size _) (in16_one _) rfl rfl ?_); intro V2 kI2 c2))
    have m2 : Below V1.heap.size V1 V2 := (a2.trans (b2.mono a2.size)).trans (c2.mono (Nat.le_trans a2.size b2.size))
    have g2 := g1.trans (m2.mono g1.size)
    have hA4 := hA3.below m2
    have p2 := p1.below m2
    clear a2 b2 c2 o2 hA3 p1
    go_upto_region 10 with (first | ((with_reducible refine append_lit _ rfl _ _ rfl l2 rfl ys a len cap rfl hA4 hyl ?_); intro v3 w3 o3 a3) | ((with_reducible refine (d2.out _ (g2.trans (a3.mono g2.size)) _ _ o3).mono ?_); rintro e U3 ⟨rfl, b3⟩) | ((with_reducible refine store_in_as rfl _ _ rfl (in16 inZ) (in16_size _) (in16_one _) rfl rfl ?_); intro V3 kI3 c3))
    have m3 : Below V2.heap.size V2 V3 := (a3.trans (b3.mono a3.size)).trans (c3.mono (Nat.le_trans a3.size b3.size))
    have g3 := g2.trans (m3.mono g2.size)
    have hA5 := hA4.below m3
    have p3 := p2.below m3
    clear a3 b3 c3 o3 hA4 p2
    go_upto_region 11 with (first | ((with_reducible refine append_lit _ rfl _ _ rfl l3 rfl ys a len cap rfl hA5 hyl ?_); intro v4 w4 o4 a4) | ((with_reducible refine (d3.out _ (g3.trans (a4.mono g3.size)) _ _ o4).mono ?_); rintro e U4 ⟨rfl, b4⟩) | ((with_reducible refine store_in_as rfl _ _ rfl (in16 inZ) (in16_size _) (in16_one _) rfl rfl ?_); intro V4 kI4 c4))
    have m4 : Below V3.heap.size V3 V4 := (a4.trans (b4.mono a4.size)).trans (c4.mono (Nat.le_trans a4.size b4.size))
    have g4 := g3.trans (m4.mono g3.size)
    have hA6 := hA5.below m4
    have p4 := p3.below m4
    clear a4 b4 c4 o4 hA5 p3
    go_upto_region 12 with (first | ((with_reducible refine append_lit _ rfl _ _ rfl l4 rfl ys a len cap rfl hA6 hyl ?_); intro v5 w5 o5 a5) | ((with_reducible refine (d4.out _ (g4.trans (a5.mono g4.size)) _ _ o5).mono ?_); rintro e U5 ⟨rfl, b5⟩) | ((with_reducible refine store_in_as rfl _ _ rfl (in16 inZ) (in16_size _) (in16_one _) rfl rfl ?_); intro V5 kI5 c5))
    have m5 : Below V4.heap.size V4 V5 := (a5.trans (b5.mono a5.size)).trans (c5.mono (Nat.le_trans a5.size b5.size))
    have g5 := g4.trans (m5.mono g4.size)
    have hA7 := hA6.below m5
    have p5 := p4.below m5
    clear a5 b5 c5 o5 hA6 p4
    go_wp2_with ((with_reducible refine (kd0.out _ g5 _ _ p5).mono ?_); rintro e W9 ⟨rfl, b9⟩)
    go_ret
    exact ⟨rfl, g5.trans (b9.mono g5.size)⟩
end Go.Proofs.YtlooobehlhgccaaDoor
