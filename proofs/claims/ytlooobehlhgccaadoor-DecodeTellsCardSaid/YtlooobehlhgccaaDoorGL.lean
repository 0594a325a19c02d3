/- The eight operations in their forms. -/
import Derived.Test.YtlooobehlhgccaaDoorQ3
import Derived.Test.YtlooobehlhgccaaDoorR3
import Derived.Test.YtlooobehlhgccaaDoorIG
import Derived.Test.YtlooobehlhgccaaDoorR35
import Derived.Test.YtlooobehlhgccaaDoorQ4
import Derived.Test.YtlooobehlhgccaaDoorR4
import Derived.Test.YtlooobehlhgccaaDoorR7
import Derived.Test.YtlooobehlhgccaaDoorR8
import Derived.Test.YtlooobehlhgccaaDoorR9
import Derived.Test.YtlooobehlhgccaaDoorL5
namespace Go.Proofs.YtlooobehlhgccaaDoor
open Go.RowKit
set_option linter.unusedVariables false
set_option linter.unusedSimpArgs false

theorem rows_g1 : ∀ k : Nat, k < 8 → rowsOf (8 * (k : Int) + 1) = [⟨65479, 1, 54, 6, 5⟩] := of_decide_eq_true (by kernel_rfl)
theorem rows_g3 : ∀ k : Nat, k < 8 → rowsOf (8 * (k : Int) + 3) = [⟨65479, 3, 54, 5, 6⟩] := of_decide_eq_true (by kernel_rfl)
theorem rows_g5 : ∀ k : Nat, k < 8 → rowsOf (8 * (k : Int) + 5) = [⟨65479, 5, 54, 1, 9⟩] := of_decide_eq_true (by kernel_rfl)
theorem rows_81 : rowsOf 129 = [⟨65535, 129, 54, 6, 9⟩] := by kernel_rfl
theorem rows_83 : rowsOf 131 = [⟨65535, 131, 54, 6, 8⟩] := by kernel_rfl
theorem grp0 : ∀ k : Nat, k < 8 → grp 0 k = 3 + k := of_decide_eq_true (by kernel_rfl)
/-- The eight take all but two places. -/
theorem ok_eight : ∀ k : Nat, k < 8 → okB (3 + (k : Int)) [2, 6, 8] [2, 6] = true ∧ okB (3 + (k : Int)) [2, 6] [2, 6, 8] = true ∧ okB (3 + (k : Int)) [2, 6, 8] [16, 48, 112] = true ∧ rR (rowN (3 + (k : Int))) = false := of_decide_eq_true (by kernel_rfl)
theorem op_eight (c m : Int) (k : Nat) (hk : k < 8) {g cc a b : Int} (h : (if g = 65479 then c else m) / 8 % 8 = k) : opM c m ⟨g, cc, 54, a, b⟩ = 3 + k := by
  unfold opM
  dsimp only
  rw [if_neg (by decide), h, Int.toNat_natCast]
  exact grp0 k hk
section
variable {zs : List Int} {p : Nat}
theorem dec_g1 (k : Nat) (hk : k < 8) (h : openM zs = some (8 * (k : Int) + 1, p)) (hp2 : p ≤ 2) (hp : p + 1 ≤ zs.length) {o : On} {q : Nat} (ho : placeM zs (p + 1) (zs.getD p 0) = some (o, q)) :
    decM zs = .ok ⟨3 + k, 0, o, onReg (zs.getD p 0 / 8 % 8), false, q⟩ := by
  have hR := placeM_RM ho
  rw [dec_mod h (rows_g1 k hk) (.inl rfl) hp, rest_okp (op := 3 + k) (show ¬ (65479 : Int) = 65520 by decide) (by simp; omega) (op_eight _ _ k hk (by rw [if_pos rfl]; omega)) (by omega) (by omega) ((oper6 _ _ _ _).trans ho) (oper5 _ _ _ _)]
  dsimp only
  exact isOr_ok (isB_sets (ok_eight k hk).1 (mem_RM hR.1) (mem_reg (by omega)) (by simp) (by simp [knowsB]) (by omega))
theorem dec_g3 (k : Nat) (hk : k < 8) (h : openM zs = some (8 * (k : Int) + 3, p)) (hp2 : p ≤ 2) (hp : p + 1 ≤ zs.length) {o : On} {q : Nat} (ho : placeM zs (p + 1) (zs.getD p 0) = some (o, q)) :
    decM zs = .ok ⟨3 + k, 0, onReg (zs.getD p 0 / 8 % 8), o, false, q⟩ := by
  have hR := placeM_RM ho
  rw [dec_mod h (rows_g3 k hk) (.inr rfl) hp, rest_okp (op := 3 + k) (show ¬ (65479 : Int) = 65520 by decide) (by simp; omega) (op_eight _ _ k hk (by rw [if_pos rfl]; omega)) (by omega) (by omega) (oper5 _ _ _ _) ((oper6 _ _ _ _).trans ho)]
  dsimp only
  exact isOr_ok (isB_sets (ok_eight k hk).2.1 (mem_reg (by omega)) (mem_RM hR.1) (by simp) (by simp [knowsB]) (by omega))
theorem dec_g5 (k : Nat) (hk : k < 8) (h : openM zs = some (8 * (k : Int) + 5, p)) (hp2 : p ≤ 2) (hp : p + 4 ≤ zs.length) :
    decM zs = .ok ⟨3 + k, 0, onReg 0, onImm (le4 zs p), false, (p + 4 : Nat)⟩ := by
  rw [dec_pln h (rows_g5 k hk) (by decide), rest_okp (op := 3 + k) (show ¬ (65479 : Int) = 65520 by decide) (by simp; omega) (op_eight _ _ k hk (by rw [if_pos rfl]; omega)) (by omega) (by omega) (oper1 _ _ _ _) ((oper9 _ _ _ _).trans (if_pos hp))]
  dsimp only
  exact isOr_ok (isB_sets (ok_eight k hk).2.2.1 (by decide) (mem_imm _) (by simp) (by simp [knowsB]) (by omega))
theorem dec_g83 (k : Nat) (hk : k < 8) (h : openM zs = some (131, p)) (hp2 : p ≤ 2) (hp : p + 1 ≤ zs.length) (hn : zs.getD p 0 / 8 % 8 = k) {o : On} {q : Nat} (ho : placeM zs (p + 1) (zs.getD p 0) = some (o, q)) (hq : q + 1 ≤ zs.length) :
    decM zs = .ok ⟨3 + k, 0, o, onImm (sx (zs.getD q 0)), false, (q + 1 : Nat)⟩ := by
  have hR := placeM_RM ho
  rw [dec_mod h rows_83 (.inl rfl) hp, rest_okp (op := 3 + k) (show ¬ (65535 : Int) = 65520 by decide) (by decide) (op_eight _ _ k hk (by rw [if_neg (by decide)]; exact hn)) (by omega) (by omega) ((oper6 _ _ _ _).trans ho) ((oper8 _ _ _ _).trans (if_pos hq))]
  dsimp only
  exact isOr_ok (isB_sets (ok_eight k hk).2.2.1 (mem_RM hR.1) (mem_imm _) (by simp) (by simp [knowsB]) (by omega))
theorem dec_g81 (k : Nat) (hk : k < 8) (h : openM zs = some (129, p)) (hp2 : p ≤ 2) (hp : p + 1 ≤ zs.length) (hn : zs.getD p 0 / 8 % 8 = k) {o : On} {q : Nat} (ho : placeM zs (p + 1) (zs.getD p 0) = some (o, q)) (hq : q + 4 ≤ zs.length) :
    decM zs = .ok ⟨3 + k, 0, o, onImm (le4 zs q), false, (q + 4 : Nat)⟩ := by
  have hR := placeM_RM ho
  rw [dec_mod h rows_81 (.inl rfl) hp, rest_okp (op := 3 + k) (show ¬ (65535 : Int) = 65520 by decide) (by decide) (op_eight _ _ k hk (by rw [if_neg (by decide)]; exact hn)) (by omega) (by omega) ((oper6 _ _ _ _).trans ho) ((oper9 _ _ _ _).trans (if_pos hq))]
  dsimp only
  exact isOr_ok (isB_sets (ok_eight k hk).2.2.1 (mem_RM hR.1) (mem_imm _) (by simp) (by simp [knowsB]) (by omega))
end
theorem open_low {z : Int} {t : List Int} (h : ¬ (z = 15 ∨ z = 217 ∨ z = 243)) : openM (z :: t) = some (z, 1) := open_one h
theorem place_regx {zs : List Int} {p : Nat} {m x : Int} (h : m / 64 % 4 = 3) (hx : m % 8 = x) : placeM zs p m = some (onReg x, p) := by unfold placeM; rw [if_pos h, hx]
section
variable (k : Nat) (hk : k < 8) (x y v : Int) (hx : 0 ≤ x ∧ x < 8) (hy : 0 ≤ y ∧ y < 8)
include hk hx hy
theorem grp_one : decM [8 * (k : Int) + 1, 192 + 8 * y + x] = .ok ⟨3 + k, 0, onReg x, onReg y, false, 2⟩ := by
  have := dec_g1 (zs := [8 * (k : Int) + 1, 192 + 8 * y + x]) k hk (open_low (by omega)) (by decide) (by simp) (o := onReg x) (q := 2) (place_regx (show (192 + 8 * y + x) / 64 % 4 = 3 by omega) (show (192 + 8 * y + x) % 8 = x by omega))
  rw [show ([8 * (k : Int) + 1, 192 + 8 * y + x].getD 1 0) / 8 % 8 = y from (show (192 + 8 * y + x) / 8 % 8 = y by omega)] at this
  exact this
theorem grp_three : decM [8 * (k : Int) + 3, 192 + 8 * y + x] = .ok ⟨3 + k, 0, onReg y, onReg x, false, 2⟩ := by
  have := dec_g3 (zs := [8 * (k : Int) + 3, 192 + 8 * y + x]) k hk (open_low (by omega)) (by decide) (by simp) (o := onReg x) (q := 2) (place_regx (show (192 + 8 * y + x) / 64 % 4 = 3 by omega) (show (192 + 8 * y + x) % 8 = x by omega))
  rw [show ([8 * (k : Int) + 3, 192 + 8 * y + x].getD 1 0) / 8 % 8 = y from (show (192 + 8 * y + x) / 8 % 8 = y by omega)] at this
  exact this
omit hx hy in
theorem grp_five (hv : 0 ≤ v ∧ v ≤ 4294967295) : decM ((8 * (k : Int) + 5) :: wB v) = .ok ⟨3 + k, 0, onReg 0, onImm v, false, 5⟩ := by
  have := dec_g5 (zs := (8 * (k : Int) + 5) :: wB v) k hk (open_low (by omega)) (by decide) (by simp [wB])
  rw [le4_w1 _ _ hv] at this
  exact this
omit hy in
theorem grp_imm (z : Int) : decM [131, 192 + 8 * (k : Int) + x, z] = .ok ⟨3 + k, 0, onReg x, onImm (sx z), false, 3⟩ := by
  have := dec_g83 (zs := [131, 192 + 8 * (k : Int) + x, z]) k hk (open_low (by decide)) (by decide) (by simp) (show (192 + 8 * (k : Int) + x) / 8 % 8 = k by omega) (o := onReg x) (q := 2) (place_regx (show (192 + 8 * (k : Int) + x) / 64 % 4 = 3 by omega) (show (192 + 8 * (k : Int) + x) % 8 = x by omega)) (by simp)
  exact this
end
end Go.Proofs.YtlooobehlhgccaaDoor
namespace Go.Proofs.YtlooobehlhgccaaDoor
open Go.RowKit
set_option linter.unusedVariables false
set_option linter.unusedSimpArgs false
set_option linter.unusedSectionVars false

section
variable {w : World} {N B : Nat} {a : Option Addr} {len cap : Nat} {zs : List Int} {p : Nat} {sh bd : Bool}
theorem plain_68 (R : Rs w N B a len cap zs p sh bd) :
    Calls Tryd.prog 26 #[rp B, .int .u8 104] w fun e w' => e = .returned (.tuple #[inV ⟨28, 0, onImm (le4 zs p), onZ, false, 0⟩, .bool (false)]) ∧ Rs w' N B a len cap zs (nx zs p 4) (so zs p 4 sh) bd ∧ But [B] w.heap.size w w' := by
  have hB := R.lt
  have F := RF.start R 28 z16
  have hX := Lib.hid (fun W (R : Rs W N B a len cap zs p sh bd) => word_ref R)
  generalize le4 zs p = v at *
  generalize hq : nx zs p 4 = q at *
  generalize hs : so zs p 4 sh = s at *
  have hI := Lib.hid (fun W => imm_any v W)
  go_enter Tryd.func26, Tryd.ntmps26
  go_upto_region 1 with fail
  generalize w.alloc (.cells z16 28) = w1 at *
  go_wp2_with (first | ((with_reducible refine (hX.out _ F.r).mono ?_); rintro e w3 ⟨rfl, R3, k3⟩; have F3 := F.read R3 k3) | ((with_reducible refine (hI.out _).mono ?_); rintro e w4 ⟨rfl, b4⟩; have F4 := F3.below b4) | ((with_reducible refine store_inR rfl _ _ rfl _ (in16 ⟨28, 0, onImm v, onZ, false, 0⟩) z16 rfl rfl F4.z (in16_size _) z16_size (in16_one _) ?_); intro wz kz bz hz; have FZ := F4.done kz bz))
  exact bodyPost_ret (v := .tuple #[inV ⟨28, 0, onImm v, onZ, false, 0⟩, .bool (false)]) (results_ct rfl _ _ w.heap.size 28 (in16 ⟨28, 0, onImm v, onZ, false, 0⟩) (0, 0) _ _ rfl rfl FZ.z.h Tryd.underlying28 rfl (szIn inZ)) rfl ⟨rfl, FZ.r, FZ.k⟩
theorem plain_6a (R : Rs w N B a len cap zs p sh bd) :
    Calls Tryd.prog 26 #[rp B, .int .u8 106] w fun e w' => e = .returned (.tuple #[inV ⟨28, 0, onImm (sx (zs.getD p 0)), onZ, false, 0⟩, .bool (false)]) ∧ Rs w' N B a len cap zs (nx zs p 1) (so zs p 1 sh) bd ∧ But [B] w.heap.size w w' := by
  have hB := R.lt
  have F := RF.start R 28 z16
  have hX := Lib.hid (fun W (R : Rs W N B a len cap zs p sh bd) => small_any R)
  generalize sx (zs.getD p 0) = v at *
  generalize hq : nx zs p 1 = q at *
  generalize hs : so zs p 1 sh = s at *
  have hI := Lib.hid (fun W => imm_any v W)
  go_enter Tryd.func26, Tryd.ntmps26
  go_upto_region 1 with fail
  generalize w.alloc (.cells z16 28) = w1 at *
  go_wp2_with (first | ((with_reducible refine (hX.out _ F.r).mono ?_); rintro e w3 ⟨rfl, R3, k3⟩; have F3 := F.read R3 k3) | ((with_reducible refine (hI.out _).mono ?_); rintro e w4 ⟨rfl, b4⟩; have F4 := F3.below b4) | ((with_reducible refine store_inR rfl _ _ rfl _ (in16 ⟨28, 0, onImm v, onZ, false, 0⟩) z16 rfl rfl F4.z (in16_size _) z16_size (in16_one _) ?_); intro wz kz bz hz; have FZ := F4.done kz bz))
  exact bodyPost_ret (v := .tuple #[inV ⟨28, 0, onImm v, onZ, false, 0⟩, .bool (false)]) (results_ct rfl _ _ w.heap.size 28 (in16 ⟨28, 0, onImm v, onZ, false, 0⟩) (0, 0) _ _ rfl rfl FZ.z.h Tryd.underlying28 rfl (szIn inZ)) rfl ⟨rfl, FZ.r, FZ.k⟩
theorem plain_90 (R : Rs w N B a len cap zs p sh bd) :
    Calls Tryd.prog 26 #[rp B, .int .u8 144] w fun e w' => e = .returned (.tuple #[inV ⟨44, 0, onZ, onZ, false, 0⟩, .bool (false)]) ∧ Rs w' N B a len cap zs (p) (sh) bd ∧ But [B] w.heap.size w w' := by
  have hB := R.lt
  have F := RF.start R 28 z16
  go_enter Tryd.func26, Tryd.ntmps26
  go_upto_region 1 with fail
  generalize w.alloc (.cells z16 28) = w1 at *
  go_wp2_with (first | ((with_reducible refine store_inR rfl _ _ rfl _ (in16 ⟨44, 0, onZ, onZ, false, 0⟩) z16 rfl rfl F.z (in16_size _) z16_size (in16_one _) ?_); intro wz kz bz hz; have FZ := F.done kz bz))
  exact bodyPost_ret (v := .tuple #[inV ⟨44, 0, onZ, onZ, false, 0⟩, .bool (false)]) (results_ct rfl _ _ w.heap.size 28 (in16 ⟨44, 0, onZ, onZ, false, 0⟩) (0, 0) _ _ rfl rfl FZ.z.h Tryd.underlying28 rfl (szIn inZ)) rfl ⟨rfl, FZ.r, FZ.k⟩
theorem plain_99 (R : Rs w N B a len cap zs p sh bd) :
    Calls Tryd.prog 26 #[rp B, .int .u8 153] w fun e w' => e = .returned (.tuple #[inV ⟨38, 0, onZ, onZ, false, 0⟩, .bool (false)]) ∧ Rs w' N B a len cap zs (p) (sh) bd ∧ But [B] w.heap.size w w' := by
  have hB := R.lt
  have F := RF.start R 28 z16
  go_enter Tryd.func26, Tryd.ntmps26
  go_upto_region 1 with fail
  generalize w.alloc (.cells z16 28) = w1 at *
  go_wp2_with (first | ((with_reducible refine store_inR rfl _ _ rfl _ (in16 ⟨38, 0, onZ, onZ, false, 0⟩) z16 rfl rfl F.z (in16_size _) z16_size (in16_one _) ?_); intro wz kz bz hz; have FZ := F.done kz bz))
  exact bodyPost_ret (v := .tuple #[inV ⟨38, 0, onZ, onZ, false, 0⟩, .bool (false)]) (results_ct rfl _ _ w.heap.size 28 (in16 ⟨38, 0, onZ, onZ, false, 0⟩) (0, 0) _ _ rfl rfl FZ.z.h Tryd.underlying28 rfl (szIn inZ)) rfl ⟨rfl, FZ.r, FZ.k⟩
theorem plain_a5 (R : Rs w N B a len cap zs p sh bd) :
    Calls Tryd.prog 26 #[rp B, .int .u8 165] w fun e w' => e = .returned (.tuple #[inV ⟨41, 0, onZ, onZ, false, 0⟩, .bool (false)]) ∧ Rs w' N B a len cap zs (p) (sh) bd ∧ But [B] w.heap.size w w' := by
  have hB := R.lt
  have F := RF.start R 28 z16
  go_enter Tryd.func26, Tryd.ntmps26
  go_upto_region 1 with fail
  generalize w.alloc (.cells z16 28) = w1 at *
  go_wp2_with (first | ((with_reducible refine store_inR rfl _ _ rfl _ (in16 ⟨41, 0, onZ, onZ, false, 0⟩) z16 rfl rfl F.z (in16_size _) z16_size (in16_one _) ?_); intro wz kz bz hz; have FZ := F.done kz bz))
  exact bodyPost_ret (v := .tuple #[inV ⟨41, 0, onZ, onZ, false, 0⟩, .bool (false)]) (results_ct rfl _ _ w.heap.size 28 (in16 ⟨41, 0, onZ, onZ, false, 0⟩) (0, 0) _ _ rfl rfl FZ.z.h Tryd.underlying28 rfl (szIn inZ)) rfl ⟨rfl, FZ.r, FZ.k⟩
theorem plain_a9 (R : Rs w N B a len cap zs p sh bd) :
    Calls Tryd.prog 26 #[rp B, .int .u8 169] w fun e w' => e = .returned (.tuple #[inV ⟨11, 0, onReg 0, onImm (le4 zs p), false, 0⟩, .bool (false)]) ∧ Rs w' N B a len cap zs (nx zs p 4) (so zs p 4 sh) bd ∧ But [B] w.heap.size w w' := by
  have hB := R.lt
  have F := RF.start R 28 z16
  have hX := Lib.hid (fun W (R : Rs W N B a len cap zs p sh bd) => word_ref R)
  generalize le4 zs p = v at *
  generalize hq : nx zs p 4 = q at *
  generalize hs : so zs p 4 sh = s at *
  have hI := Lib.hid (fun W => imm_any v W)
  have hR := Lib.hid (fun W => reg_any 0 W)
  go_enter Tryd.func26, Tryd.ntmps26
  go_upto_region 1 with fail
  generalize w.alloc (.cells z16 28) = w1 at *
  go_wp2_with (first | ((with_reducible refine (hR.out _).mono ?_); rintro e w2 ⟨rfl, b2⟩; have F2 := F.below b2) | ((with_reducible refine (hX.out _ F2.r).mono ?_); rintro e w3 ⟨rfl, R3, k3⟩; have F3 := F2.read R3 k3) | ((with_reducible refine (hI.out _).mono ?_); rintro e w4 ⟨rfl, b4⟩; have F4 := F3.below b4) | ((with_reducible refine store_inR rfl _ _ rfl _ (in16 ⟨11, 0, onReg 0, onImm v, false, 0⟩) z16 rfl rfl F4.z (in16_size _) z16_size (in16_one _) ?_); intro wz kz bz hz; have FZ := F4.done kz bz))
  exact bodyPost_ret (v := .tuple #[inV ⟨11, 0, onReg 0, onImm v, false, 0⟩, .bool (false)]) (results_ct rfl _ _ w.heap.size 28 (in16 ⟨11, 0, onReg 0, onImm v, false, 0⟩) (0, 0) _ _ rfl rfl FZ.z.h Tryd.underlying28 rfl (szIn inZ)) rfl ⟨rfl, FZ.r, FZ.k⟩
theorem plain_ab (R : Rs w N B a len cap zs p sh bd) :
    Calls Tryd.prog 26 #[rp B, .int .u8 171] w fun e w' => e = .returned (.tuple #[inV ⟨42, 0, onZ, onZ, false, 0⟩, .bool (false)]) ∧ Rs w' N B a len cap zs (p) (sh) bd ∧ But [B] w.heap.size w w' := by
  have hB := R.lt
  have F := RF.start R 28 z16
  go_enter Tryd.func26, Tryd.ntmps26
  go_upto_region 1 with fail
  generalize w.alloc (.cells z16 28) = w1 at *
  go_wp2_with (first | ((with_reducible refine store_inR rfl _ _ rfl _ (in16 ⟨42, 0, onZ, onZ, false, 0⟩) z16 rfl rfl F.z (in16_size _) z16_size (in16_one _) ?_); intro wz kz bz hz; have FZ := F.done kz bz))
  exact bodyPost_ret (v := .tuple #[inV ⟨42, 0, onZ, onZ, false, 0⟩, .bool (false)]) (results_ct rfl _ _ w.heap.size 28 (in16 ⟨42, 0, onZ, onZ, false, 0⟩) (0, 0) _ _ rfl rfl FZ.z.h Tryd.underlying28 rfl (szIn inZ)) rfl ⟨rfl, FZ.r, FZ.k⟩
theorem plain_c3 (R : Rs w N B a len cap zs p sh bd) :
    Calls Tryd.prog 26 #[rp B, .int .u8 195] w fun e w' => e = .returned (.tuple #[inV ⟨31, 0, onZ, onZ, false, 0⟩, .bool (false)]) ∧ Rs w' N B a len cap zs (p) (sh) bd ∧ But [B] w.heap.size w w' := by
  have hB := R.lt
  have F := RF.start R 28 z16
  go_enter Tryd.func26, Tryd.ntmps26
  go_upto_region 1 with fail
  generalize w.alloc (.cells z16 28) = w1 at *
  go_wp2_with (first | ((with_reducible refine store_inR rfl _ _ rfl _ (in16 ⟨31, 0, onZ, onZ, false, 0⟩) z16 rfl rfl F.z (in16_size _) z16_size (in16_one _) ?_); intro wz kz bz hz; have FZ := F.done kz bz))
  exact bodyPost_ret (v := .tuple #[inV ⟨31, 0, onZ, onZ, false, 0⟩, .bool (false)]) (results_ct rfl _ _ w.heap.size 28 (in16 ⟨31, 0, onZ, onZ, false, 0⟩) (0, 0) _ _ rfl rfl FZ.z.h Tryd.underlying28 rfl (szIn inZ)) rfl ⟨rfl, FZ.r, FZ.k⟩
theorem plain_e8 (R : Rs w N B a len cap zs p sh bd) :
    Calls Tryd.prog 26 #[rp B, .int .u8 232] w fun e w' => e = .returned (.tuple #[inV ⟨30, 0, onImm (le4 zs p), onZ, false, 0⟩, .bool (false)]) ∧ Rs w' N B a len cap zs (nx zs p 4) (so zs p 4 sh) bd ∧ But [B] w.heap.size w w' := by
  have hB := R.lt
  have F := RF.start R 28 z16
  have hX := Lib.hid (fun W (R : Rs W N B a len cap zs p sh bd) => word_ref R)
  generalize le4 zs p = v at *
  generalize hq : nx zs p 4 = q at *
  generalize hs : so zs p 4 sh = s at *
  have hI := Lib.hid (fun W => imm_any v W)
  go_enter Tryd.func26, Tryd.ntmps26
  go_upto_region 1 with fail
  generalize w.alloc (.cells z16 28) = w1 at *
  go_wp2_with (first | ((with_reducible refine (hX.out _ F.r).mono ?_); rintro e w3 ⟨rfl, R3, k3⟩; have F3 := F.read R3 k3) | ((with_reducible refine (hI.out _).mono ?_); rintro e w4 ⟨rfl, b4⟩; have F4 := F3.below b4) | ((with_reducible refine store_inR rfl _ _ rfl _ (in16 ⟨30, 0, onImm v, onZ, false, 0⟩) z16 rfl rfl F4.z (in16_size _) z16_size (in16_one _) ?_); intro wz kz bz hz; have FZ := F4.done kz bz))
  exact bodyPost_ret (v := .tuple #[inV ⟨30, 0, onImm v, onZ, false, 0⟩, .bool (false)]) (results_ct rfl _ _ w.heap.size 28 (in16 ⟨30, 0, onImm v, onZ, false, 0⟩) (0, 0) _ _ rfl rfl FZ.z.h Tryd.underlying28 rfl (szIn inZ)) rfl ⟨rfl, FZ.r, FZ.k⟩
theorem plain_e9 (R : Rs w N B a len cap zs p sh bd) :
    Calls Tryd.prog 26 #[rp B, .int .u8 233] w fun e w' => e = .returned (.tuple #[inV ⟨32, 0, onImm (le4 zs p), onZ, false, 0⟩, .bool (false)]) ∧ Rs w' N B a len cap zs (nx zs p 4) (so zs p 4 sh) bd ∧ But [B] w.heap.size w w' := by
  have hB := R.lt
  have F := RF.start R 28 z16
  have hX := Lib.hid (fun W (R : Rs W N B a len cap zs p sh bd) => word_ref R)
  generalize le4 zs p = v at *
  generalize hq : nx zs p 4 = q at *
  generalize hs : so zs p 4 sh = s at *
  have hI := Lib.hid (fun W => imm_any v W)
  go_enter Tryd.func26, Tryd.ntmps26
  go_upto_region 1 with fail
  generalize w.alloc (.cells z16 28) = w1 at *
  go_wp2_with (first | ((with_reducible refine (hX.out _ F.r).mono ?_); rintro e w3 ⟨rfl, R3, k3⟩; have F3 := F.read R3 k3) | ((with_reducible refine (hI.out _).mono ?_); rintro e w4 ⟨rfl, b4⟩; have F4 := F3.below b4) | ((with_reducible refine store_inR rfl _ _ rfl _ (in16 ⟨32, 0, onImm v, onZ, false, 0⟩) z16 rfl rfl F4.z (in16_size _) z16_size (in16_one _) ?_); intro wz kz bz hz; have FZ := F4.done kz bz))
  exact bodyPost_ret (v := .tuple #[inV ⟨32, 0, onImm v, onZ, false, 0⟩, .bool (false)]) (results_ct rfl _ _ w.heap.size 28 (in16 ⟨32, 0, onImm v, onZ, false, 0⟩) (0, 0) _ _ rfl rfl FZ.z.h Tryd.underlying28 rfl (szIn inZ)) rfl ⟨rfl, FZ.r, FZ.k⟩
theorem plain_eb (R : Rs w N B a len cap zs p sh bd) :
    Calls Tryd.prog 26 #[rp B, .int .u8 235] w fun e w' => e = .returned (.tuple #[inV ⟨32, 0, onImm (sx (zs.getD p 0)), onZ, false, 0⟩, .bool (false)]) ∧ Rs w' N B a len cap zs (nx zs p 1) (so zs p 1 sh) bd ∧ But [B] w.heap.size w w' := by
  have hB := R.lt
  have F := RF.start R 28 z16
  have hX := Lib.hid (fun W (R : Rs W N B a len cap zs p sh bd) => small_any R)
  generalize sx (zs.getD p 0) = v at *
  generalize hq : nx zs p 1 = q at *
  generalize hs : so zs p 1 sh = s at *
  have hI := Lib.hid (fun W => imm_any v W)
  go_enter Tryd.func26, Tryd.ntmps26
  go_upto_region 1 with fail
  generalize w.alloc (.cells z16 28) = w1 at *
  go_wp2_with (first | ((with_reducible refine (hX.out _ F.r).mono ?_); rintro e w3 ⟨rfl, R3, k3⟩; have F3 := F.read R3 k3) | ((with_reducible refine (hI.out _).mono ?_); rintro e w4 ⟨rfl, b4⟩; have F4 := F3.below b4) | ((with_reducible refine store_inR rfl _ _ rfl _ (in16 ⟨32, 0, onImm v, onZ, false, 0⟩) z16 rfl rfl F4.z (in16_size _) z16_size (in16_one _) ?_); intro wz kz bz hz; have FZ := F4.done kz bz))
  exact bodyPost_ret (v := .tuple #[inV ⟨32, 0, onImm v, onZ, false, 0⟩, .bool (false)]) (results_ct rfl _ _ w.heap.size 28 (in16 ⟨32, 0, onImm v, onZ, false, 0⟩) (0, 0) _ _ rfl rfl FZ.z.h Tryd.underlying28 rfl (szIn inZ)) rfl ⟨rfl, FZ.r, FZ.k⟩
theorem plain_fc (R : Rs w N B a len cap zs p sh bd) :
    Calls Tryd.prog 26 #[rp B, .int .u8 252] w fun e w' => e = .returned (.tuple #[inV ⟨39, 0, onZ, onZ, false, 0⟩, .bool (false)]) ∧ Rs w' N B a len cap zs (p) (sh) bd ∧ But [B] w.heap.size w w' := by
  have hB := R.lt
  have F := RF.start R 28 z16
  go_enter Tryd.func26, Tryd.ntmps26
  go_upto_region 1 with fail
  generalize w.alloc (.cells z16 28) = w1 at *
  go_wp2_with (first | ((with_reducible refine store_inR rfl _ _ rfl _ (in16 ⟨39, 0, onZ, onZ, false, 0⟩) z16 rfl rfl F.z (in16_size _) z16_size (in16_one _) ?_); intro wz kz bz hz; have FZ := F.done kz bz))
  exact bodyPost_ret (v := .tuple #[inV ⟨39, 0, onZ, onZ, false, 0⟩, .bool (false)]) (results_ct rfl _ _ w.heap.size 28 (in16 ⟨39, 0, onZ, onZ, false, 0⟩) (0, 0) _ _ rfl rfl FZ.z.h Tryd.underlying28 rfl (szIn inZ)) rfl ⟨rfl, FZ.r, FZ.k⟩
theorem plain_fd (R : Rs w N B a len cap zs p sh bd) :
    Calls Tryd.prog 26 #[rp B, .int .u8 253] w fun e w' => e = .returned (.tuple #[inV ⟨40, 0, onZ, onZ, false, 0⟩, .bool (false)]) ∧ Rs w' N B a len cap zs (p) (sh) bd ∧ But [B] w.heap.size w w' := by
  have hB := R.lt
  have F := RF.start R 28 z16
  go_enter Tryd.func26, Tryd.ntmps26
  go_upto_region 1 with fail
  generalize w.alloc (.cells z16 28) = w1 at *
  go_wp2_with (first | ((with_reducible refine store_inR rfl _ _ rfl _ (in16 ⟨40, 0, onZ, onZ, false, 0⟩) z16 rfl rfl F.z (in16_size _) z16_size (in16_one _) ?_); intro wz kz bz hz; have FZ := F.done kz bz))
  exact bodyPost_ret (v := .tuple #[inV ⟨40, 0, onZ, onZ, false, 0⟩, .bool (false)]) (results_ct rfl _ _ w.heap.size 28 (in16 ⟨40, 0, onZ, onZ, false, 0⟩) (0, 0) _ _ rfl rfl FZ.z.h Tryd.underlying28 rfl (szIn inZ)) rfl ⟨rfl, FZ.r, FZ.k⟩
theorem plain_cd (R : Rs w N B a len cap zs p sh bd) :
    Calls Tryd.prog 26 #[rp B, .int .u8 205] w fun e w' => e = .returned (.tuple #[inV ⟨43, 0, onImm (zs.getD p 0), onZ, false, 0⟩, .bool (false)]) ∧ Rs w' N B a len cap zs (nx zs p 1) (so zs p 1 sh) bd ∧ But [B] w.heap.size w w' := by
  have hB := R.lt
  have F := RF.start R 28 z16
  have hX := Lib.hid (fun W (R : Rs W N B a len cap zs p sh bd) => byte_any R)
  have hv := byte_bd R p
  generalize zs.getD p 0 = v at *
  generalize hq : nx zs p 1 = q at *
  generalize hs : so zs p 1 sh = s at *
  have hI := Lib.hid (fun W => imm_any v W)
  go_enter Tryd.func26, Tryd.ntmps26
  go_upto_region 1 with fail
  generalize w.alloc (.cells z16 28) = w1 at *
  go_wp2_with (first | ((with_reducible refine (hX.out _ F.r).mono ?_); rintro e w3 ⟨rfl, R3, k3⟩; have F3 := F.read R3 k3) | ((with_reducible refine (hI.out _).mono ?_); rintro e w4 ⟨rfl, b4⟩; have F4 := F3.below b4) | ((with_reducible refine store_inR rfl _ _ rfl _ (in16 ⟨43, 0, onImm v, onZ, false, 0⟩) z16 rfl rfl F4.z (in16_size _) z16_size (in16_one _) ?_); intro wz kz bz hz; have FZ := F4.done kz bz))
  exact bodyPost_ret (v := .tuple #[inV ⟨43, 0, onImm v, onZ, false, 0⟩, .bool (false)]) (results_ct rfl _ _ w.heap.size 28 (in16 ⟨43, 0, onImm v, onZ, false, 0⟩) (0, 0) _ _ rfl rfl FZ.z.h Tryd.underlying28 rfl (szIn inZ)) rfl ⟨rfl, FZ.r, FZ.k⟩
theorem plain_f3a (R : Rs w N B a len cap zs p sh bd) (h : zs.getD p 0 = 165) :
    Calls Tryd.prog 26 #[rp B, .int .u8 243] w fun e w' => e = .returned (.tuple #[inV ⟨41, 0, onZ, onZ, true, 0⟩, .bool (false)]) ∧ Rs w' N B a len cap zs (nx zs p 1) (so zs p 1 sh) bd ∧ But [B] w.heap.size w w' := by
  have hB := R.lt
  have F := RF.start R 28 z16
  have hX := Lib.hid (fun W (R : Rs W N B a len cap zs p sh bd) => byte_any R)
  generalize zs.getD p 0 = v at *
  subst h
  go_enter Tryd.func26, Tryd.ntmps26
  go_upto_region 1 with fail
  generalize w.alloc (.cells z16 28) = w1 at *
  go_wp2_with (first | ((with_reducible refine (hX.out _ F.r).mono ?_); rintro e w3 ⟨rfl, R3, k3⟩; have F3 := F.read R3 k3) | ((with_reducible refine store_inR rfl _ _ rfl _ (in16 ⟨41, 0, onZ, onZ, true, 0⟩) z16 rfl rfl F3.z (in16_size _) z16_size (in16_one _) ?_); intro wz kz bz hz; have FZ := F3.done kz bz))
  exact bodyPost_ret (v := .tuple #[inV ⟨41, 0, onZ, onZ, true, 0⟩, .bool (false)]) (results_ct rfl _ _ w.heap.size 28 (in16 ⟨41, 0, onZ, onZ, true, 0⟩) (0, 0) _ _ rfl rfl FZ.z.h Tryd.underlying28 rfl (szIn inZ)) rfl ⟨rfl, FZ.r, FZ.k⟩
theorem plain_f3b (R : Rs w N B a len cap zs p sh bd) (h : zs.getD p 0 = 171) :
    Calls Tryd.prog 26 #[rp B, .int .u8 243] w fun e w' => e = .returned (.tuple #[inV ⟨42, 0, onZ, onZ, true, 0⟩, .bool (false)]) ∧ Rs w' N B a len cap zs (nx zs p 1) (so zs p 1 sh) bd ∧ But [B] w.heap.size w w' := by
  have hB := R.lt
  have F := RF.start R 28 z16
  have hX := Lib.hid (fun W (R : Rs W N B a len cap zs p sh bd) => byte_any R)
  generalize zs.getD p 0 = v at *
  subst h
  go_enter Tryd.func26, Tryd.ntmps26
  go_upto_region 1 with fail
  generalize w.alloc (.cells z16 28) = w1 at *
  go_wp2_with (first | ((with_reducible refine (hX.out _ F.r).mono ?_); rintro e w3 ⟨rfl, R3, k3⟩; have F3 := F.read R3 k3) | ((with_reducible refine store_inR rfl _ _ rfl _ (in16 ⟨42, 0, onZ, onZ, true, 0⟩) z16 rfl rfl F3.z (in16_size _) z16_size (in16_one _) ?_); intro wz kz bz hz; have FZ := F3.done kz bz))
  exact bodyPost_ret (v := .tuple #[inV ⟨42, 0, onZ, onZ, true, 0⟩, .bool (false)]) (results_ct rfl _ _ w.heap.size 28 (in16 ⟨42, 0, onZ, onZ, true, 0⟩) (0, 0) _ _ rfl rfl FZ.z.h Tryd.underlying28 rfl (szIn inZ)) rfl ⟨rfl, FZ.r, FZ.k⟩
theorem plain_f3n (R : Rs w N B a len cap zs p sh bd) (h : ¬ zs.getD p 0 = 165 ∧ ¬ zs.getD p 0 = 171) :
    Calls Tryd.prog 26 #[rp B, .int .u8 243] w fun e w' => e = .returned (.tuple #[inV inZ, .bool (false)]) ∧ Rs w' N B a len cap zs (nx zs p 1) (so zs p 1 sh) bd ∧ But [B] w.heap.size w w' := by
  have hB := R.lt
  have F := RF.start R 28 z16
  have hX := Lib.hid (fun W (R : Rs W N B a len cap zs p sh bd) => byte_any R)
  generalize zs.getD p 0 = v at *
  have h1 : (v == 165) = false := by simp [h.1]
  have h2 : (v == 171) = false := by simp [h.2]
  go_enter Tryd.func26, Tryd.ntmps26
  go_upto_region 1 with fail
  generalize w.alloc (.cells z16 28) = w1 at *
  go_wp2_with (first | ((with_reducible refine (hX.out _ F.r).mono ?_); rintro e w3 ⟨rfl, R3, k3⟩; have F3 := F.read R3 k3) | ((with_reducible refine store_inR rfl _ _ rfl _ (in16 inZ) z16 rfl rfl F3.z (in16_size _) z16_size (in16_one _) ?_); intro wz kz bz hz; have FZ := F3.done kz bz))
  exact bodyPost_ret (v := .tuple #[inV inZ, .bool (false)]) (results_ct rfl _ _ w.heap.size 28 (in16 inZ) (0, 0) _ _ rfl rfl FZ.z.h Tryd.underlying28 rfl (szIn inZ)) rfl ⟨rfl, FZ.r, FZ.k⟩
theorem plain_no (R : Rs w N B a len cap zs p sh bd) {c : Int} (h : ¬ c = 104 ∧ ¬ c = 106 ∧ ¬ c = 144 ∧ ¬ c = 153 ∧ ¬ c = 165 ∧ ¬ c = 169 ∧ ¬ c = 171 ∧ ¬ c = 195 ∧ ¬ c = 232 ∧ ¬ c = 233 ∧ ¬ c = 235 ∧ ¬ c = 252 ∧ ¬ c = 253 ∧ ¬ c = 205 ∧ ¬ c = 243) :
    Calls Tryd.prog 26 #[rp B, .int .u8 c] w fun e w' => e = .returned (.tuple #[inV inZ, .bool (true)]) ∧ Rs w' N B a len cap zs (p) (sh) bd ∧ But [B] w.heap.size w w' := by
  have hB := R.lt
  have F := RF.start R 28 z16
  obtain ⟨h104, h106, h144, h153, h165, h169, h171, h195, h232, h233, h235, h252, h253, h205, h243⟩ := h
  have e104 : (c == 104) = false := by simp [h104]
  have e106 : (c == 106) = false := by simp [h106]
  have e144 : (c == 144) = false := by simp [h144]
  have e153 : (c == 153) = false := by simp [h153]
  have e165 : (c == 165) = false := by simp [h165]
  have e169 : (c == 169) = false := by simp [h169]
  have e171 : (c == 171) = false := by simp [h171]
  have e195 : (c == 195) = false := by simp [h195]
  have e232 : (c == 232) = false := by simp [h232]
  have e233 : (c == 233) = false := by simp [h233]
  have e235 : (c == 235) = false := by simp [h235]
  have e252 : (c == 252) = false := by simp [h252]
  have e253 : (c == 253) = false := by simp [h253]
  have e205 : (c == 205) = false := by simp [h205]
  have e243 : (c == 243) = false := by simp [h243]
  clear h104 h106 h144 h153 h165 h169 h171 h195 h232 h233 h235 h252 h253 h205 h243
  go_enter Tryd.func26, Tryd.ntmps26
  go_upto_region 1 with fail
  generalize w.alloc (.cells z16 28) = w1 at *
  go_wp2_with (first | ((with_reducible refine store_inR rfl _ _ rfl _ (in16 inZ) z16 rfl rfl F.z (in16_size _) z16_size (in16_one _) ?_); intro wz kz bz hz; have FZ := F.done kz bz))
  exact bodyPost_ret (v := .tuple #[inV inZ, .bool (true)]) (results_ct rfl _ _ w.heap.size 28 (in16 inZ) (0, 0) _ _ rfl rfl FZ.z.h Tryd.underlying28 rfl (szIn inZ)) rfl ⟨rfl, FZ.r, FZ.k⟩
end
end Go.Proofs.YtlooobehlhgccaaDoor
namespace Go.Proofs.YtlooobehlhgccaaDoor
open Go.RowKit
set_option linter.unusedVariables false
set_option linter.unusedSimpArgs false
set_option linter.unusedSectionVars false

/-- What the reference comes to (an instruction, whether it is another, where it ends, whether it was too short, bad) is what the tables tell. -/
structure Good (zs : List Int) (i : In) (x : Bool) (q : Nat) (s b : Bool) : Prop where
  short : s = true → decM zs = .error 10
  bad : s = false → b = true → decM zs = .error 90
  other : s = false → b = false → x = true → decM zs = .error 12
  ok : s = false → b = false → x = false → ∃ k : Bool, IsTells i k ∧ decM zs = if k = true then .ok ⟨i.op, i.c, i.A, i.B, i.rep, q⟩ else .error 12
section
variable {zs : List Int} {i : In} {x : Bool} {q : Nat} {s b : Bool}
theorem good_short (h : decM zs = .error 10) : Good zs i x q true b := ⟨fun _ => h, (by intro h; cases h), (by intro h; cases h), (by intro h; cases h)⟩
theorem good_bad (h : decM zs = .error 90) : Good zs i x q false true := ⟨(by intro h; cases h), fun _ _ => h, (by intro _ h; cases h), (by intro _ h; cases h)⟩
theorem good_other (h : decM zs = .error 12) : Good zs i true q false false := ⟨(by intro h; cases h), (by intro _ h; cases h), fun _ _ _ => h, (by intro _ _ h; cases h)⟩
theorem good_ok {k : Bool} (hi : IsTells i k) (h : decM zs = if k = true then .ok ⟨i.op, i.c, i.A, i.B, i.rep, q⟩ else .error 12) : Good zs i false q false false := ⟨(by intro h; cases h), (by intro _ h; cases h), (by intro _ _ h; cases h), fun _ _ _ => ⟨k, hi, h⟩⟩
theorem good_yes (hi : IsTells i true) (h : decM zs = .ok ⟨i.op, i.c, i.A, i.B, i.rep, q⟩) : Good zs i false q false false := good_ok hi (by rw [if_pos rfl]; exact h)
end
theorem nx_le {zs : List Int} {p n : Nat} (h : p + n ≤ zs.length) : nx zs p n = p + n := by unfold nx; omega
theorem so_le {zs : List Int} {p n : Nat} (h : p + n ≤ zs.length) : so zs p n false = false := by unfold so; simp; omega
theorem so_gt {zs : List Int} {p n : Nat} {sh : Bool} (h : ¬ p + n ≤ zs.length) : so zs p n sh = true := by unfold so; rw [decide_eq_true (by omega)]; simp
theorem so_true (zs : List Int) (p n : Nat) : so zs p n true = true := by unfold so; simp
theorem good_read {zs : List Int} {i : In} {p n : Nat} (hs : ¬ p + n ≤ zs.length → decM zs = .error 10) (ho : p + n ≤ zs.length → Good zs i false (p + n) false false) : Good zs i false (nx zs p n) (so zs p n false) false := by
  by_cases h : p + n ≤ zs.length
  · rw [nx_le h, so_le h]; exact ho h
  · rw [so_gt h]; exact good_short (hs h)
section
variable {zs : List Int} {p q : Nat} {how b x s m : Int} {o : On}
theorem distR_some (h : distM zs p how b x s = some (o, q)) : distR zs p false how b x s = (o, q, false) := by
  unfold distM at h
  unfold distR
  by_cases h1 : how = 1
  · rw [if_pos h1] at h ⊢
    by_cases h2 : p + 1 ≤ zs.length
    · rw [if_pos h2] at h; obtain ⟨rfl, rfl⟩ := Prod.mk.inj (Option.some.inj h); rw [nx_le h2, so_le h2]
    · rw [if_neg h2] at h; cases h
  · rw [if_neg h1] at h ⊢
    by_cases h3 : how = 2
    · rw [if_pos h3] at h ⊢
      by_cases h2 : p + 4 ≤ zs.length
      · rw [if_pos h2] at h; obtain ⟨rfl, rfl⟩ := Prod.mk.inj (Option.some.inj h); rw [nx_le h2, so_le h2]
      · rw [if_neg h2] at h; cases h
    · rw [if_neg h3] at h ⊢
      by_cases h4 : b = 5
      · rw [if_pos h4] at h ⊢
        by_cases h2 : p + 4 ≤ zs.length
        · rw [if_pos h2] at h; obtain ⟨rfl, rfl⟩ := Prod.mk.inj (Option.some.inj h); rw [nx_le h2, so_le h2]
        · rw [if_neg h2] at h; cases h
      · rw [if_neg h4] at h ⊢
        obtain ⟨rfl, rfl⟩ := Prod.mk.inj (Option.some.inj h); rfl
theorem distR_none (h : distM zs p how b x s = none) : (distR zs p false how b x s).2.2 = true := by
  unfold distM at h
  unfold distR
  by_cases h1 : how = 1
  · rw [if_pos h1] at h ⊢
    by_cases h2 : p + 1 ≤ zs.length
    · rw [if_pos h2] at h; cases h
    · show so zs p 1 false = true; exact so_gt h2
  · rw [if_neg h1] at h ⊢
    by_cases h3 : how = 2
    · rw [if_pos h3] at h ⊢
      by_cases h2 : p + 4 ≤ zs.length
      · rw [if_pos h2] at h; cases h
      · show so zs p 4 false = true; exact so_gt h2
    · rw [if_neg h3] at h ⊢
      by_cases h4 : b = 5
      · rw [if_pos h4] at h ⊢
        by_cases h2 : p + 4 ≤ zs.length
        · rw [if_pos h2] at h; cases h
        · show so zs p 4 false = true; exact so_gt h2
      · rw [if_neg h4] at h; cases h
theorem distR_true (zs : List Int) (p : Nat) (how b x s : Int) : (distR zs p true how b x s).2.2 = true := by
  unfold distR
  (repeat' split) <;> first | exact so_true _ _ _ | rfl
theorem placeR_some (h : placeM zs p m = some (o, q)) : placeR zs p false m = (o, q, false) := by
  unfold placeM at h
  unfold placeR
  by_cases h1 : m / 64 % 4 = 3
  · rw [if_pos h1] at h ⊢
    obtain ⟨rfl, rfl⟩ := Prod.mk.inj (Option.some.inj h); rfl
  · rw [if_neg h1] at h ⊢
    by_cases h2 : m % 8 = 4
    · rw [if_pos h2] at h ⊢
      by_cases h3 : p + 1 ≤ zs.length
      · rw [if_pos h3] at h
        rw [nx_le h3, so_le h3]
        by_cases h4 : zs.getD p 0 / 8 % 8 = 4
        · rw [if_pos h4] at h ⊢; exact distR_some h
        · rw [if_neg h4] at h ⊢; exact distR_some h
      · rw [if_neg h3] at h; cases h
    · rw [if_neg h2] at h ⊢; exact distR_some h
theorem placeR_none (h : placeM zs p m = none) : (placeR zs p false m).2.2 = true := by
  unfold placeM at h
  unfold placeR
  by_cases h1 : m / 64 % 4 = 3
  · rw [if_pos h1] at h; cases h
  · rw [if_neg h1] at h ⊢
    by_cases h2 : m % 8 = 4
    · rw [if_pos h2] at h ⊢
      by_cases h3 : p + 1 ≤ zs.length
      · rw [if_pos h3] at h
        rw [nx_le h3, so_le h3]
        by_cases h4 : zs.getD p 0 / 8 % 8 = 4
        · rw [if_pos h4] at h ⊢; exact distR_none h
        · rw [if_neg h4] at h ⊢; exact distR_none h
      · rw [so_gt h3]
        split <;> exact distR_true _ _ _ _ _ _
    · rw [if_neg h2] at h ⊢; exact distR_none h
theorem placeR_true (zs : List Int) (p : Nat) (m : Int) : (placeR zs p true m).2.2 = true := by
  unfold placeR
  split
  · rfl
  · split
    · rw [so_true]; split <;> exact distR_true _ _ _ _ _ _
    · exact distR_true _ _ _ _ _ _
/-- ModRM is there, with all that belongs to it. -/
theorem m_ok (hs : mS zs p false = false) : p + 1 ≤ zs.length ∧ placeM zs (p + 1) (zs.getD p 0) = some (mO zs p false, mP zs p false) := by
  by_cases h : p + 1 ≤ zs.length
  · refine ⟨h, ?_⟩
    unfold mS at hs
    unfold mO mP
    rw [nx_le h, so_le h] at *
    cases hp : placeM zs (p + 1) (zs.getD p 0) with
    | none => rw [placeR_none hp] at hs; cases hs
    | some y => obtain ⟨o, q⟩ := y; rw [placeR_some hp]
  · exfalso
    unfold mS at hs
    rw [so_gt h, placeR_true] at hs
    cases hs
theorem m_no (hs : mS zs p false = true) (h : p + 1 ≤ zs.length) : placeM zs (p + 1) (zs.getD p 0) = none := by
  unfold mS at hs
  rw [nx_le h, so_le h] at hs
  cases hp : placeM zs (p + 1) (zs.getD p 0) with
  | none => rfl
  | some y => obtain ⟨o, q⟩ := y; rw [placeR_some hp] at hs; cases hs
theorem m_mod (hs : mS zs p false = true) (h : p + 1 ≤ zs.length) : ¬ zs.getD p 0 / 64 % 4 = 3 := by
  intro h3
  have := m_no hs h
  unfold placeM at this
  rw [if_pos h3] at this
  cases this
end
theorem mN_b (zs : List Int) (p : Nat) : 0 ≤ mN zs p ∧ mN zs p < 8 := by unfold mN; omega
theorem m_RM {zs : List Int} {p : Nat} (hs : mS zs p false = false) : RM (mO zs p false) ∧ ((mO zs p false).k = 3 ↔ ¬ zs.getD p 0 / 64 % 4 = 3) ∧ mP zs p false ≤ p + 6 := by
  have := placeM_RM (m_ok hs).2
  exact ⟨this.1, this.2.1, by have := this.2.2; omega⟩
section
variable {zs : List Int} {c : Int} {p : Nat} {r : Rw}
theorem dec_m_short (ho : openM zs = some (c, p)) (hr : rowsOf c = [r]) (h6 : r.a = 6 ∨ (r.a = 5 ∧ r.b = 6)) (hs : mS zs p false = true) (hop : p + 1 ≤ zs.length → ¬ opM c (zs.getD p 0) r = 0 ∧ ¬ opM c (zs.getD p 0) r = -1) : decM zs = .error 10 := by
  have h66 : r.a = 6 ∨ r.b = 6 := h6.imp id (·.2)
  by_cases h : p + 1 ≤ zs.length
  · rw [dec_mod ho hr h66 h]
    rcases h6 with h6 | ⟨h5, h6⟩
    · rw [rest_shortA rfl (hop h).1 (hop h).2 (by rw [h6, oper6, m_no hs h])]
    · rw [rest_shortB rfl (hop h).1 (hop h).2 (by rw [h5, oper5]) (by rw [h6, oper6, m_no hs h])]
  · exact dec_modless ho hr h66 h
theorem dec_m_zero (ho : openM zs = some (c, p)) (hr : rowsOf c = [r]) (h6 : r.a = 6 ∨ r.b = 6) (h : p + 1 ≤ zs.length) (hop : opM c (zs.getD p 0) r = 0) : decM zs = .error 12 := by
  rw [dec_mod ho hr h6 h, rest_zero hop]
  exact isOr_no isB_inZ
theorem dec_m_bad (ho : openM zs = some (c, p)) (hr : rowsOf c = [r]) (h6 : r.a = 6 ∨ r.b = 6) (h : p + 1 ≤ zs.length) (hop : opM c (zs.getD p 0) r = -1) : decM zs = .error 90 := by
  rw [dec_mod ho hr h6 h, rest_bad hop]
theorem dec_m6 (ho : openM zs = some (c, p)) (hr : rowsOf c = [r]) (ha : r.a = 6) (hs : mS zs p false = false) {op : Int} (hop : opM c (zs.getD p 0) r = op) (h0 : ¬ op = 0) (h1 : ¬ op = -1) (hg : ¬ r.g = 65520) (hc : (c / 256 == 243) = false)
    {B : On} {q : Nat} (hB : operM zs c (zs.getD p 0) (mP zs p false) r.b = some (B, q)) : decM zs = isOr ⟨op, 0, mO zs p false, B, false, q⟩ := by
  have hm := m_ok hs
  rw [dec_mod ho hr (.inl ha) hm.1, rest_okp hg hc hop h0 h1 (by rw [ha, oper6, hm.2]) hB]
theorem dec_m6c (ho : openM zs = some (c, p)) (hr : rowsOf c = [r]) (ha : r.a = 6) (hs : mS zs p false = false) {op : Int} (hop : opM c (zs.getD p 0) r = op) (h0 : ¬ op = 0) (h1 : ¬ op = -1) (hg : r.g = 65520) (hc : (c / 256 == 243) = false)
    {B : On} {q : Nat} (hB : operM zs c (zs.getD p 0) (mP zs p false) r.b = some (B, q)) : decM zs = isOr ⟨op, c % 16, mO zs p false, B, false, q⟩ := by
  have hm := m_ok hs
  rw [dec_mod ho hr (.inl ha) hm.1, rest_okc hg hc hop h0 h1 (by rw [ha, oper6, hm.2]) hB]
theorem dec_m6s (ho : openM zs = some (c, p)) (hr : rowsOf c = [r]) (ha : r.a = 6) (hs : mS zs p false = false) {op : Int} (hop : opM c (zs.getD p 0) r = op) (h0 : ¬ op = 0) (h1 : ¬ op = -1)
    (hB : operM zs c (zs.getD p 0) (mP zs p false) r.b = none) : decM zs = .error 10 := by
  have hm := m_ok hs
  rw [dec_mod ho hr (.inl ha) hm.1, rest_shortB hop h0 h1 (by rw [ha, oper6, hm.2]) hB]
theorem dec_m5 (ho : openM zs = some (c, p)) (hr : rowsOf c = [r]) (ha : r.a = 5) (hb : r.b = 6) (hs : mS zs p false = false) {op : Int} (hop : opM c (zs.getD p 0) r = op) (h0 : ¬ op = 0) (h1 : ¬ op = -1) (hg : ¬ r.g = 65520) (hc : (c / 256 == 243) = false) :
    decM zs = isOr ⟨op, 0, onReg (mN zs p), mO zs p false, false, mP zs p false⟩ := by
  have hm := m_ok hs
  rw [dec_mod ho hr (.inr hb) hm.1, rest_okp hg hc hop h0 h1 (by rw [ha, oper5]) (by rw [hb, oper6, hm.2])]
  rfl
theorem dec_m5c (ho : openM zs = some (c, p)) (hr : rowsOf c = [r]) (ha : r.a = 5) (hb : r.b = 6) (hs : mS zs p false = false) {op : Int} (hop : opM c (zs.getD p 0) r = op) (h0 : ¬ op = 0) (h1 : ¬ op = -1) (hg : r.g = 65520) (hc : (c / 256 == 243) = false) :
    decM zs = isOr ⟨op, c % 16, onReg (mN zs p), mO zs p false, false, mP zs p false⟩ := by
  have hm := m_ok hs
  rw [dec_mod ho hr (.inr hb) hm.1, rest_okc hg hc hop h0 h1 (by rw [ha, oper5]) (by rw [hb, oper6, hm.2])]
  rfl
end
theorem mem_of {b x s : Int} (h : memA b x s = 8) : MemOk b x s := by
  unfold memA at h
  cases h1 : (b == -1 || isRegB b)
  · rw [h1] at h; simp at h
  · cases h2 : isIndexB x s
    · rw [h2] at h; simp at h
    · clear h
      have g1 : -1 ≤ b ∧ b < 8 := by simp [isRegB] at h1; omega
      refine ⟨g1, ?_⟩
      unfold isIndexB at h2
      by_cases hx : x = -1
      · subst hx
        simp at h2
        exact .inl ⟨rfl, h2⟩
      · rw [show (x == -1) = false by simp [hx]] at h2
        simp [isRegB, isScaleB] at h2
        exact .inr ⟨h2.1.1.1, h2.1.1.2, h2.1.2, by omega⟩
section
variable {o : On}
theorem rm_tells (h : RM o) : TellsB 36 o true := by
  rcases h with ⟨r, h1, h2, rfl⟩ | ⟨m, b, x, s, rfl, h⟩
  · exact rm_reg (isReg_reg ⟨h1, h2⟩)
  · exact rm_other (isReg_mem _ _ _ _) (isMem_mem _ (mem_of h))
theorem rm_imm (m : Int) : TellsB 36 (onImm m) false := rm_other (isReg_imm m) (isMem_imm m)
theorem mem_tells (h : RM o) (h3 : o.k = 3) : TellsB 37 o false ∧ TellsB 38 o false ∧ TellsB 39 o true := by
  rcases h with ⟨r, h1, h2, rfl⟩ | ⟨m, b, x, s, rfl, h⟩
  · simp [onReg] at h3
  · exact ⟨isReg_mem _ _ _ _, isImm_mem _ _ _ _, isMem_mem _ (mem_of h)⟩
theorem reg_tells (h : RM o) (h3 : ¬ o.k = 3) : TellsB 37 o true := by
  rcases h with ⟨r, h1, h2, rfl⟩ | ⟨m, b, x, s, rfl, h⟩
  · exact isReg_reg ⟨h1, h2⟩
  · simp [onMem] at h3
theorem kind_of (h : RM o) : o.k = 1 ∨ o.k = 3 := by
  rcases h with ⟨r, h1, h2, rfl⟩ | ⟨m, b, x, s, rfl, h⟩ <;> simp [onReg, onMem]
theorem opd_mov_rm {n : Int} (hn : 0 ≤ n ∧ n < 8) (h : RM o) : OpdB 1 (onReg n) o true := by
  by_cases h3 : o.k = 3
  · have := mem_tells h h3
    exact opd_mov_m (rm_reg (isReg_reg hn)) this.1 this.2.1 (isReg_reg hn) this.2.2
  · exact opd_mov_r (rm_reg (isReg_reg hn)) (reg_tells h h3)
theorem opd_movb_rm {n : Int} (hn : 0 ≤ n ∧ n < 8) (h : RM o) : OpdB 2 (onReg n) o true := by
  by_cases h3 : o.k = 3
  · have := mem_tells h h3
    exact opd_movb_m (rm_reg (isReg_reg hn)) this.1 (byteI_no this.2.1) (isReg_reg hn) this.2.2
  · exact opd_movb_r (rm_reg (isReg_reg hn)) (reg_tells h h3)
theorem opd_eight_rm {n op : Int} (hop : 3 ≤ op ∧ op ≤ 10) (hn : 0 ≤ n ∧ n < 8) (h : RM o) : OpdB op (onReg n) o true := by
  by_cases h3 : o.k = 3
  · have := mem_tells h h3
    exact opd_eight_m hop (rm_reg (isReg_reg hn)) this.1 this.2.1 (isReg_reg hn) this.2.2
  · exact opd_eight_r hop (rm_reg (isReg_reg hn)) (reg_tells h h3)
end
theorem isImm_one : TellsB 38 (onReg 1) false := by
  intro w
  unfold onReg
  go_enter Tryd.func38, Tryd.ntmps38
  go_wp2
  go_ret
  exact ⟨rfl, (Below.refl _ _).alloc (Nat.le_refl _) _⟩
theorem nat_of {n : Int} (h : 0 ≤ n ∧ n < 8) : n = 0 ∨ n = 1 ∨ n = 2 ∨ n = 3 ∨ n = 4 ∨ n = 5 ∨ n = 6 ∨ n = 7 := by omega
/-- A group's operation, by what stands between in ModRM. -/
theorem op_grp {zs : List Int} {p : Nat} (c : Int) {g cc op a b : Int} (h : ¬ op < 54) (hg : ¬ g = 65479) : opM c (zs.getD p 0) ⟨g, cc, op, a, b⟩ = grp (op - 54).toNat (mN zs p).toNat := by
  unfold opM mN
  dsimp only
  rw [if_neg h, if_neg hg]
theorem opd_sh_i {n : Int} (hn : 0 ≤ n ∧ n < 8) (h0 : ¬ shN n = 0) {A B : On} (hA : TellsB 36 A true) (hB : TellsB 40 B true) : OpdB (shN n) A B true := by
  rcases nat_of hn with rfl | rfl | rfl | rfl | rfl | rfl | rfl | rfl
  · exact opd_sh21_i hA hB
  · exact opd_sh22_i hA hB
  · exact absurd rfl h0
  · exact absurd rfl h0
  · exact opd_sh23_i hA hB
  · exact opd_sh24_i hA hB
  · exact absurd rfl h0
  · exact opd_sh25_i hA hB
theorem opd_sh_r {n : Int} (hn : 0 ≤ n ∧ n < 8) (h0 : ¬ shN n = 0) {A : On} (hA : TellsB 36 A true) : OpdB (shN n) A (onReg 1) true := by
  have hB : TellsB 37 (onReg 1) true := isReg_reg (by decide)
  have hN : TellsB 40 (onReg 1) false := byteI_no isImm_one
  rcases nat_of hn with rfl | rfl | rfl | rfl | rfl | rfl | rfl | rfl
  · exact opd_sh21_r rfl hA hN hB
  · exact opd_sh22_r rfl hA hN hB
  · exact absurd rfl h0
  · exact absurd rfl h0
  · exact opd_sh23_r rfl hA hN hB
  · exact opd_sh24_r rfl hA hN hB
  · exact absurd rfl h0
  · exact opd_sh25_r rfl hA hN hB
theorem opd_nu {n : Int} (hn : 0 ≤ n ∧ n < 8) (h0 : ¬ nuN n = 0) {A : On} (hA : TellsB 39 A true) : OpdB (nuN n) A onZ true := by
  rcases nat_of hn with rfl | rfl | rfl | rfl | rfl | rfl | rfl | rfl
  · exact opd_mem47 hA none_z
  · exact opd_mem48 hA none_z
  · exact opd_mem53 hA none_z
  · exact absurd rfl h0
  · exact opd_mem49 hA none_z
  · exact absurd rfl h0
  · exact opd_mem50 hA none_z
  · exact absurd rfl h0
theorem grp_sh : ∀ n : Nat, n < 8 → grp 1 n = shN n := of_decide_eq_true (by kernel_rfl)
theorem grp_nu : ∀ n : Nat, n < 8 → grp 8 n = nuN n := of_decide_eq_true (by kernel_rfl)
theorem sh_ok : ∀ n : Nat, n < 8 → shN n = 0 ∨ (¬ shN n = -1 ∧ okB (shN n) [2, 6, 8] [48, 112] = true ∧ okB (shN n) [2, 6, 8] [6] = true ∧ rR (rowN (shN n)) = false) := of_decide_eq_true (by kernel_rfl)
theorem nu_ok : ∀ n : Nat, n < 8 → nuN n = 0 ∨ (¬ nuN n = -1 ∧ okB (nuN n) [8] [1] = true ∧ noB (nuN n) [2, 6] [1] = true ∧ rR (rowN (nuN n)) = false) := of_decide_eq_true (by kernel_rfl)
end Go.Proofs.YtlooobehlhgccaaDoor
namespace Go.Proofs.YtlooobehlhgccaaDoor
open Go.RowKit
set_option linter.unusedVariables false
set_option linter.unusedSimpArgs false
set_option linter.unusedSectionVars false

section
variable {zs : List Int} {c : Int} {p : Nat} {r : Rw} {op : Int} {A B : On} {q q' : Nat}
theorem dec_flat_sA (ho : openM zs = some (c, p)) (hr : rowsOf c = [r]) (h6 : ¬ (r.a = 6 ∨ r.b = 6)) (hop : opM c 0 r = op) (h0 : ¬ op = 0) (h1 : ¬ op = -1) (hA : operM zs c 0 p r.a = none) : decM zs = .error 10 := by
  rw [dec_pln ho hr h6, rest_shortA hop h0 h1 hA]
theorem dec_flat_sB (ho : openM zs = some (c, p)) (hr : rowsOf c = [r]) (h6 : ¬ (r.a = 6 ∨ r.b = 6)) (hop : opM c 0 r = op) (h0 : ¬ op = 0) (h1 : ¬ op = -1) (hA : operM zs c 0 p r.a = some (A, q)) (hB : operM zs c 0 q r.b = none) : decM zs = .error 10 := by
  rw [dec_pln ho hr h6, rest_shortB hop h0 h1 hA hB]
theorem dec_flatp (ho : openM zs = some (c, p)) (hr : rowsOf c = [r]) (h6 : ¬ (r.a = 6 ∨ r.b = 6)) (hop : opM c 0 r = op) (h0 : ¬ op = 0) (h1 : ¬ op = -1) (hg : ¬ r.g = 65520) (hc : (c / 256 == 243) = false) (hA : operM zs c 0 p r.a = some (A, q)) (hB : operM zs c 0 q r.b = some (B, q')) :
    decM zs = isOr ⟨op, 0, A, B, false, q'⟩ := by
  rw [dec_pln ho hr h6, rest_okp hg hc hop h0 h1 hA hB]
theorem dec_flatc (ho : openM zs = some (c, p)) (hr : rowsOf c = [r]) (h6 : ¬ (r.a = 6 ∨ r.b = 6)) (hop : opM c 0 r = op) (h0 : ¬ op = 0) (h1 : ¬ op = -1) (hg : r.g = 65520) (hc : (c / 256 == 243) = false) (hA : operM zs c 0 p r.a = some (A, q)) (hB : operM zs c 0 q r.b = some (B, q')) :
    decM zs = isOr ⟨op, c % 16, A, B, false, q'⟩ := by
  rw [dec_pln ho hr h6, rest_okc hg hc hop h0 h1 hA hB]
theorem dec_flatr (ho : openM zs = some (c, p)) (hr : rowsOf c = [r]) (h6 : ¬ (r.a = 6 ∨ r.b = 6)) (hop : opM c 0 r = op) (h0 : ¬ op = 0) (h1 : ¬ op = -1) (hg : ¬ r.g = 65520) (hc : (c / 256 == 243) = true) (hA : operM zs c 0 p r.a = some (A, q)) (hB : operM zs c 0 q r.b = some (B, q')) :
    decM zs = isOr ⟨op, 0, A, B, true, q'⟩ := by
  rw [dec_pln ho hr h6, rest_ok hop h0 h1 hA hB, if_neg hg, hc]
end
theorem ok_eight2 {n : Int} (h : 0 ≤ n ∧ n < 8) : okB (3 + n) [2, 6, 8] [2, 6] = true ∧ okB (3 + n) [2, 6] [2, 6, 8] = true ∧ okB (3 + n) [2, 6, 8] [16, 48, 112] = true ∧ rR (rowN (3 + n)) = false := by
  obtain ⟨k, rfl⟩ := Int.eq_ofNat_of_zero_le h.1
  exact ok_eight k (by omega)
theorem op_81 (zs : List Int) (p : Nat) (c cc a b : Int) : opM c (zs.getD p 0) ⟨65535, cc, 54, a, b⟩ = 3 + mN zs p := by
  rw [op_grp c (by decide) (by decide)]
  obtain ⟨k, hk⟩ := Int.eq_ofNat_of_zero_le (mN_b zs p).1
  have := (mN_b zs p).2
  rw [hk, Int.toNat_natCast]
  exact grp0 k (by omega)
theorem op_sh (zs : List Int) (p : Nat) (c cc a b : Int) : opM c (zs.getD p 0) ⟨65535, cc, 55, a, b⟩ = shN (mN zs p) := by
  rw [op_grp c (by decide) (by decide)]
  obtain ⟨k, hk⟩ := Int.eq_ofNat_of_zero_le (mN_b zs p).1
  have := (mN_b zs p).2
  rw [hk, Int.toNat_natCast]
  exact grp_sh k (by omega)
theorem op_nu (zs : List Int) (p : Nat) (c cc a b : Int) : opM c (zs.getD p 0) ⟨65535, cc, 62, a, b⟩ = nuN (mN zs p) := by
  rw [op_grp c (by decide) (by decide)]
  obtain ⟨k, hk⟩ := Int.eq_ofNat_of_zero_le (mN_b zs p).1
  have := (mN_b zs p).2
  rw [hk, Int.toNat_natCast]
  exact grp_nu k (by omega)
theorem sh_ok2 {n : Int} (h : 0 ≤ n ∧ n < 8) (h0 : ¬ shN n = 0) : ¬ shN n = -1 ∧ okB (shN n) [2, 6, 8] [48, 112] = true ∧ okB (shN n) [2, 6, 8] [6] = true ∧ rR (rowN (shN n)) = false := by
  obtain ⟨k, rfl⟩ := Int.eq_ofNat_of_zero_le h.1
  exact (sh_ok k (by omega)).resolve_left h0
theorem nu_ok2 {n : Int} (h : 0 ≤ n ∧ n < 8) (h0 : ¬ nuN n = 0) : ¬ nuN n = -1 ∧ okB (nuN n) [8] [1] = true ∧ noB (nuN n) [2, 6] [1] = true ∧ rR (rowN (nuN n)) = false := by
  obtain ⟨k, rfl⟩ := Int.eq_ofNat_of_zero_le h.1
  exact (nu_ok k (by omega)).resolve_left h0
section
variable {zs : List Int}
theorem good_68 (ho : openM zs = some (104, 1)) : Good zs ⟨28, 0, onImm (le4 zs 1), onZ, false, 0⟩ false (nx zs 1 4) (so zs 1 4 false) false :=
  good_read (fun h => dec_flat_sA ho (r := ⟨65535, 104, 28, 9, 0⟩) (by kernel_rfl) (by decide) (op := 28) rfl (by decide) (by decide) ((oper9 _ _ _ _).trans (if_neg h))) (fun h => good_yes (is_plain (opd_imm28 (rm_imm _) (isImm_imm _) none_z)) (by
    rw [dec_flatp ho (r := ⟨65535, 104, 28, 9, 0⟩) (by kernel_rfl) (by decide) (op := 28) rfl (by decide) (by decide) (by decide) (by decide) ((oper9 _ _ _ _).trans (if_pos h)) (oper0 _ _ _ _)]
    exact isOr_ok (isB_sets (SA := [16, 48, 112]) (SB := [1]) (by kernel_rfl) (mem_imm _) mem_z rfl rfl ⟨by omega, by omega⟩)))
theorem good_6a (ho : openM zs = some (106, 1)) : Good zs ⟨28, 0, onImm (sx (zs.getD 1 0)), onZ, false, 0⟩ false (nx zs 1 1) (so zs 1 1 false) false :=
  good_read (fun h => dec_flat_sA ho (r := ⟨65535, 106, 28, 8, 0⟩) (by kernel_rfl) (by decide) (op := 28) rfl (by decide) (by decide) ((oper8 _ _ _ _).trans (if_neg h))) (fun h => good_yes (is_plain (opd_imm28 (rm_imm _) (isImm_imm _) none_z)) (by
    rw [dec_flatp ho (r := ⟨65535, 106, 28, 8, 0⟩) (by kernel_rfl) (by decide) (op := 28) rfl (by decide) (by decide) (by decide) (by decide) ((oper8 _ _ _ _).trans (if_pos h)) (oper0 _ _ _ _)]
    exact isOr_ok (isB_sets (SA := [16, 48, 112]) (SB := [1]) (by kernel_rfl) (mem_imm _) mem_z rfl rfl ⟨by omega, by omega⟩)))
theorem good_e8 (ho : openM zs = some (232, 1)) : Good zs ⟨30, 0, onImm (le4 zs 1), onZ, false, 0⟩ false (nx zs 1 4) (so zs 1 4 false) false :=
  good_read (fun h => dec_flat_sA ho (r := ⟨65535, 232, 30, 9, 0⟩) (by kernel_rfl) (by decide) (op := 30) rfl (by decide) (by decide) ((oper9 _ _ _ _).trans (if_neg h))) (fun h => good_yes (is_plain (opd_imm30 (rm_imm _) (isImm_imm _) none_z)) (by
    rw [dec_flatp ho (r := ⟨65535, 232, 30, 9, 0⟩) (by kernel_rfl) (by decide) (op := 30) rfl (by decide) (by decide) (by decide) (by decide) ((oper9 _ _ _ _).trans (if_pos h)) (oper0 _ _ _ _)]
    exact isOr_ok (isB_sets (SA := [16, 48, 112]) (SB := [1]) (by kernel_rfl) (mem_imm _) mem_z rfl rfl ⟨by omega, by omega⟩)))
theorem good_e9 (ho : openM zs = some (233, 1)) : Good zs ⟨32, 0, onImm (le4 zs 1), onZ, false, 0⟩ false (nx zs 1 4) (so zs 1 4 false) false :=
  good_read (fun h => dec_flat_sA ho (r := ⟨65535, 233, 32, 9, 0⟩) (by kernel_rfl) (by decide) (op := 32) rfl (by decide) (by decide) ((oper9 _ _ _ _).trans (if_neg h))) (fun h => good_yes (is_plain (opd_imm32 (rm_imm _) (isImm_imm _) none_z)) (by
    rw [dec_flatp ho (r := ⟨65535, 233, 32, 9, 0⟩) (by kernel_rfl) (by decide) (op := 32) rfl (by decide) (by decide) (by decide) (by decide) ((oper9 _ _ _ _).trans (if_pos h)) (oper0 _ _ _ _)]
    exact isOr_ok (isB_sets (SA := [16, 48, 112]) (SB := [1]) (by kernel_rfl) (mem_imm _) mem_z rfl rfl ⟨by omega, by omega⟩)))
theorem good_eb (ho : openM zs = some (235, 1)) : Good zs ⟨32, 0, onImm (sx (zs.getD 1 0)), onZ, false, 0⟩ false (nx zs 1 1) (so zs 1 1 false) false :=
  good_read (fun h => dec_flat_sA ho (r := ⟨65535, 235, 32, 8, 0⟩) (by kernel_rfl) (by decide) (op := 32) rfl (by decide) (by decide) ((oper8 _ _ _ _).trans (if_neg h))) (fun h => good_yes (is_plain (opd_imm32 (rm_imm _) (isImm_imm _) none_z)) (by
    rw [dec_flatp ho (r := ⟨65535, 235, 32, 8, 0⟩) (by kernel_rfl) (by decide) (op := 32) rfl (by decide) (by decide) (by decide) (by decide) ((oper8 _ _ _ _).trans (if_pos h)) (oper0 _ _ _ _)]
    exact isOr_ok (isB_sets (SA := [16, 48, 112]) (SB := [1]) (by kernel_rfl) (mem_imm _) mem_z rfl rfl ⟨by omega, by omega⟩)))
theorem good_90 (ho : openM zs = some (144, 1)) : Good zs ⟨44, 0, onZ, onZ, false, 0⟩ false 1 false false :=
  good_yes (is_plain (opd_z44 none_z none_z)) (by
    rw [dec_flatp ho (r := ⟨65535, 144, 44, 0, 0⟩) (by kernel_rfl) (by decide) (op := 44) rfl (by decide) (by decide) (by decide) (by decide) (oper0 _ _ _ _) (oper0 _ _ _ _)]
    exact isOr_ok (by kernel_rfl))
theorem good_99 (ho : openM zs = some (153, 1)) : Good zs ⟨38, 0, onZ, onZ, false, 0⟩ false 1 false false :=
  good_yes (is_plain (opd_z38 none_z none_z)) (by
    rw [dec_flatp ho (r := ⟨65535, 153, 38, 0, 0⟩) (by kernel_rfl) (by decide) (op := 38) rfl (by decide) (by decide) (by decide) (by decide) (oper0 _ _ _ _) (oper0 _ _ _ _)]
    exact isOr_ok (by kernel_rfl))
theorem good_a5 (ho : openM zs = some (165, 1)) : Good zs ⟨41, 0, onZ, onZ, false, 0⟩ false 1 false false :=
  good_yes (is_plain (opd_z41 none_z none_z)) (by
    rw [dec_flatp ho (r := ⟨65535, 165, 41, 0, 0⟩) (by kernel_rfl) (by decide) (op := 41) rfl (by decide) (by decide) (by decide) (by decide) (oper0 _ _ _ _) (oper0 _ _ _ _)]
    exact isOr_ok (by kernel_rfl))
theorem good_ab (ho : openM zs = some (171, 1)) : Good zs ⟨42, 0, onZ, onZ, false, 0⟩ false 1 false false :=
  good_yes (is_plain (opd_z42 none_z none_z)) (by
    rw [dec_flatp ho (r := ⟨65535, 171, 42, 0, 0⟩) (by kernel_rfl) (by decide) (op := 42) rfl (by decide) (by decide) (by decide) (by decide) (oper0 _ _ _ _) (oper0 _ _ _ _)]
    exact isOr_ok (by kernel_rfl))
theorem good_c3 (ho : openM zs = some (195, 1)) : Good zs ⟨31, 0, onZ, onZ, false, 0⟩ false 1 false false :=
  good_yes (is_plain (opd_z31 none_z none_z)) (by
    rw [dec_flatp ho (r := ⟨65535, 195, 31, 0, 0⟩) (by kernel_rfl) (by decide) (op := 31) rfl (by decide) (by decide) (by decide) (by decide) (oper0 _ _ _ _) (oper0 _ _ _ _)]
    exact isOr_ok (by kernel_rfl))
theorem good_fc (ho : openM zs = some (252, 1)) : Good zs ⟨39, 0, onZ, onZ, false, 0⟩ false 1 false false :=
  good_yes (is_plain (opd_z39 none_z none_z)) (by
    rw [dec_flatp ho (r := ⟨65535, 252, 39, 0, 0⟩) (by kernel_rfl) (by decide) (op := 39) rfl (by decide) (by decide) (by decide) (by decide) (oper0 _ _ _ _) (oper0 _ _ _ _)]
    exact isOr_ok (by kernel_rfl))
theorem good_fd (ho : openM zs = some (253, 1)) : Good zs ⟨40, 0, onZ, onZ, false, 0⟩ false 1 false false :=
  good_yes (is_plain (opd_z40 none_z none_z)) (by
    rw [dec_flatp ho (r := ⟨65535, 253, 40, 0, 0⟩) (by kernel_rfl) (by decide) (op := 40) rfl (by decide) (by decide) (by decide) (by decide) (oper0 _ _ _ _) (oper0 _ _ _ _)]
    exact isOr_ok (by kernel_rfl))
theorem good_a9 (ho : openM zs = some (169, 1)) : Good zs ⟨11, 0, onReg 0, onImm (le4 zs 1), false, 0⟩ false (nx zs 1 4) (so zs 1 4 false) false :=
  good_read (fun h => dec_flat_sB ho (r := ⟨65535, 169, 11, 1, 9⟩) (by kernel_rfl) (by decide) (op := 11) rfl (by decide) (by decide) (oper1 _ _ _ _) ((oper9 _ _ _ _).trans (if_neg h))) (fun h => good_yes (is_plain (opd_test_i (rm_reg (isReg_reg (by decide))) (isReg_imm _) (isImm_imm _))) (by
    rw [dec_flatp ho (r := ⟨65535, 169, 11, 1, 9⟩) (by kernel_rfl) (by decide) (op := 11) rfl (by decide) (by decide) (by decide) (by decide) (oper1 _ _ _ _) ((oper9 _ _ _ _).trans (if_pos h))]
    exact isOr_ok (isB_sets (SA := [2]) (SB := [16, 48, 112]) (by kernel_rfl) (by decide) (mem_imm _) rfl rfl ⟨by omega, by omega⟩)))
theorem good_cd (ho : openM zs = some (205, 1)) : Good zs ⟨43, 0, onImm (zs.getD 1 0), onZ, false, 0⟩ false (nx zs 1 1) (so zs 1 1 false) false := by
  refine good_read (fun h => dec_flat_sA ho (r := ⟨65535, 205, 43, 7, 0⟩) (by kernel_rfl) (by decide) (op := 43) rfl (by decide) (by decide) ((oper7 _ _ _ _).trans (if_neg h))) (fun h => ?_)
  have hd := dec_flatp ho (r := ⟨65535, 205, 43, 7, 0⟩) (by kernel_rfl) (by decide) (op := 43) rfl (by decide) (by decide) (by decide) (by decide) ((oper7 _ _ _ _).trans (if_pos h)) (oper0 _ _ _ _)
  by_cases hv : zs.getD 1 0 = 128
  · refine good_yes (is_plain (opd_int (by simp only [onImm]; rw [hv]; rfl) (isImm_imm _) none_z)) ?_
    rw [hd, hv]
    exact isOr_ok (by kernel_rfl)
  · refine good_ok (k := false) (is_plain (opd_int (by simpa [onImm] using hv) (isImm_imm _) none_z)) ?_
    rw [hd, isOr_no (isB_no (SA := [48, 16]) (SB := [1]) (by kernel_rfl) (by rw [cA_imm, if_neg hv]; split <;> decide) mem_z)]
    rfl
theorem good_85 (ho : openM zs = some (133, 1)) (hs : mS zs 1 false = false) : Good zs ⟨11, 0, mO zs 1 false, onReg (mN zs 1), false, 0⟩ false (mP zs 1 false) false false := by
  have hR := m_RM hs
  have hq := hR.2.2
  refine good_yes (is_plain (opd_test_r (rm_tells hR.1) (isReg_reg (mN_b zs 1)))) ?_
  rw [dec_m6 ho (r := ⟨65535, 133, 11, 6, 5⟩) (by kernel_rfl) rfl hs (op := 11) rfl (by decide) (by decide) (by decide) (by decide) (oper5 _ _ _ _)]
  exact isOr_ok (isB_sets (SA := [2, 6, 8]) (SB := [2, 6]) (by kernel_rfl) (mem_RM hR.1) (mem_reg (mN_b zs 1)) rfl rfl ⟨by omega, by omega⟩)
theorem short_85 (ho : openM zs = some (133, 1)) (hs : mS zs 1 false = true) : decM zs = .error 10 :=
  dec_m_short ho (r := ⟨65535, 133, 11, 6, 5⟩) (by kernel_rfl) (.inl rfl) hs (fun _ => by rw [show opM 133 (zs.getD 1 0) ⟨65535, 133, 11, 6, 5⟩ = 11 from rfl]; decide)
theorem good_87 (ho : openM zs = some (135, 1)) (hs : mS zs 1 false = false) : Good zs ⟨27, 0, mO zs 1 false, onReg (mN zs 1), false, 0⟩ false (mP zs 1 false) false false := by
  have hR := m_RM hs
  have hq := hR.2.2
  refine good_yes (is_plain (opd_xchg (rm_tells hR.1) (isReg_reg (mN_b zs 1)))) ?_
  rw [dec_m6 ho (r := ⟨65535, 135, 27, 6, 5⟩) (by kernel_rfl) rfl hs (op := 27) rfl (by decide) (by decide) (by decide) (by decide) (oper5 _ _ _ _)]
  exact isOr_ok (isB_sets (SA := [2, 6, 8]) (SB := [2, 6]) (by kernel_rfl) (mem_RM hR.1) (mem_reg (mN_b zs 1)) rfl rfl ⟨by omega, by omega⟩)
theorem short_87 (ho : openM zs = some (135, 1)) (hs : mS zs 1 false = true) : decM zs = .error 10 :=
  dec_m_short ho (r := ⟨65535, 135, 27, 6, 5⟩) (by kernel_rfl) (.inl rfl) hs (fun _ => by rw [show opM 135 (zs.getD 1 0) ⟨65535, 135, 27, 6, 5⟩ = 27 from rfl]; decide)
theorem good_88 (ho : openM zs = some (136, 1)) (hs : mS zs 1 false = false) : Good zs ⟨2, 0, mO zs 1 false, onReg (mN zs 1), false, 0⟩ false (mP zs 1 false) false false := by
  have hR := m_RM hs
  have hq := hR.2.2
  refine good_yes (is_plain (opd_movb_r (rm_tells hR.1) (isReg_reg (mN_b zs 1)))) ?_
  rw [dec_m6 ho (r := ⟨65535, 136, 2, 6, 5⟩) (by kernel_rfl) rfl hs (op := 2) rfl (by decide) (by decide) (by decide) (by decide) (oper5 _ _ _ _)]
  exact isOr_ok (isB_sets (SA := [2, 6, 8]) (SB := [2, 6]) (by kernel_rfl) (mem_RM hR.1) (mem_reg (mN_b zs 1)) rfl rfl ⟨by omega, by omega⟩)
theorem short_88 (ho : openM zs = some (136, 1)) (hs : mS zs 1 false = true) : decM zs = .error 10 :=
  dec_m_short ho (r := ⟨65535, 136, 2, 6, 5⟩) (by kernel_rfl) (.inl rfl) hs (fun _ => by rw [show opM 136 (zs.getD 1 0) ⟨65535, 136, 2, 6, 5⟩ = 2 from rfl]; decide)
theorem good_89 (ho : openM zs = some (137, 1)) (hs : mS zs 1 false = false) : Good zs ⟨1, 0, mO zs 1 false, onReg (mN zs 1), false, 0⟩ false (mP zs 1 false) false false := by
  have hR := m_RM hs
  have hq := hR.2.2
  refine good_yes (is_plain (opd_mov_r (rm_tells hR.1) (isReg_reg (mN_b zs 1)))) ?_
  rw [dec_m6 ho (r := ⟨65535, 137, 1, 6, 5⟩) (by kernel_rfl) rfl hs (op := 1) rfl (by decide) (by decide) (by decide) (by decide) (oper5 _ _ _ _)]
  exact isOr_ok (isB_sets (SA := [2, 6, 8]) (SB := [2, 6]) (by kernel_rfl) (mem_RM hR.1) (mem_reg (mN_b zs 1)) rfl rfl ⟨by omega, by omega⟩)
theorem short_89 (ho : openM zs = some (137, 1)) (hs : mS zs 1 false = true) : decM zs = .error 10 :=
  dec_m_short ho (r := ⟨65535, 137, 1, 6, 5⟩) (by kernel_rfl) (.inl rfl) hs (fun _ => by rw [show opM 137 (zs.getD 1 0) ⟨65535, 137, 1, 6, 5⟩ = 1 from rfl]; decide)
theorem good_8a (ho : openM zs = some (138, 1)) (hs : mS zs 1 false = false) : Good zs ⟨2, 0, onReg (mN zs 1), mO zs 1 false, false, 0⟩ false (mP zs 1 false) false false := by
  have hR := m_RM hs
  have hq := hR.2.2
  refine good_yes (is_plain (opd_movb_rm (mN_b zs 1) hR.1)) ?_
  rw [dec_m5 ho (r := ⟨65535, 138, 2, 5, 6⟩) (by kernel_rfl) rfl rfl hs (op := 2) rfl (by decide) (by decide) (by decide) (by decide)]
  exact isOr_ok (isB_sets (SA := [2, 6]) (SB := [2, 6, 8]) (by kernel_rfl) (mem_reg (mN_b zs 1)) (mem_RM hR.1) rfl rfl ⟨by omega, by omega⟩)
theorem short_8a (ho : openM zs = some (138, 1)) (hs : mS zs 1 false = true) : decM zs = .error 10 :=
  dec_m_short ho (r := ⟨65535, 138, 2, 5, 6⟩) (by kernel_rfl) (.inr ⟨rfl, rfl⟩) hs (fun _ => by rw [show opM 138 (zs.getD 1 0) ⟨65535, 138, 2, 5, 6⟩ = 2 from rfl]; decide)
theorem good_8b (ho : openM zs = some (139, 1)) (hs : mS zs 1 false = false) : Good zs ⟨1, 0, onReg (mN zs 1), mO zs 1 false, false, 0⟩ false (mP zs 1 false) false false := by
  have hR := m_RM hs
  have hq := hR.2.2
  refine good_yes (is_plain (opd_mov_rm (mN_b zs 1) hR.1)) ?_
  rw [dec_m5 ho (r := ⟨65535, 139, 1, 5, 6⟩) (by kernel_rfl) rfl rfl hs (op := 1) rfl (by decide) (by decide) (by decide) (by decide)]
  exact isOr_ok (isB_sets (SA := [2, 6]) (SB := [2, 6, 8]) (by kernel_rfl) (mem_reg (mN_b zs 1)) (mem_RM hR.1) rfl rfl ⟨by omega, by omega⟩)
theorem short_8b (ho : openM zs = some (139, 1)) (hs : mS zs 1 false = true) : decM zs = .error 10 :=
  dec_m_short ho (r := ⟨65535, 139, 1, 5, 6⟩) (by kernel_rfl) (.inr ⟨rfl, rfl⟩) hs (fun _ => by rw [show opM 139 (zs.getD 1 0) ⟨65535, 139, 1, 5, 6⟩ = 1 from rfl]; decide)
theorem good_81 (ho : openM zs = some (129, 1)) (hs : mS zs 1 false = false) : Good zs ⟨3 + mN zs 1, 0, mO zs 1 false, onImm (le4 zs (mP zs 1 false)), false, 0⟩ false (nx zs (mP zs 1 false) 4) (so zs (mP zs 1 false) 4 false) false := by
  have hR := m_RM hs
  have hq := hR.2.2
  refine good_read (fun h => dec_m6s ho (r := ⟨65535, 129, 54, 6, 9⟩) (by kernel_rfl) rfl hs (op_81 _ _ _ _ _ _) (by have := mN_b zs 1; omega) (by have := mN_b zs 1; omega) ((oper9 _ _ _ _).trans (if_neg h))) (fun h => good_yes (is_plain (opd_eight_i (by have := mN_b zs 1; omega) (rm_tells hR.1) (isReg_imm _) (isImm_imm _))) ?_)
  rw [dec_m6 ho (r := ⟨65535, 129, 54, 6, 9⟩) (by kernel_rfl) rfl hs (op_81 _ _ _ _ _ _) (by have := mN_b zs 1; omega) (by have := mN_b zs 1; omega) (by decide) (by decide) ((oper9 _ _ _ _).trans (if_pos h))]
  have h8 := ok_eight2 (mN_b zs 1)
  exact isOr_ok (isB_sets h8.2.2.1 (mem_RM hR.1) (mem_imm _) (by rw [h8.2.2.2]; rfl) rfl ⟨by omega, by omega⟩)
theorem short_81 (ho : openM zs = some (129, 1)) (hs : mS zs 1 false = true) : decM zs = .error 10 :=
  dec_m_short ho (r := ⟨65535, 129, 54, 6, 9⟩) (by kernel_rfl) (.inl rfl) hs (fun _ => by rw [op_81]; have := mN_b zs 1; omega)
theorem good_83 (ho : openM zs = some (131, 1)) (hs : mS zs 1 false = false) : Good zs ⟨3 + mN zs 1, 0, mO zs 1 false, onImm (sx (zs.getD (mP zs 1 false) 0)), false, 0⟩ false (nx zs (mP zs 1 false) 1) (so zs (mP zs 1 false) 1 false) false := by
  have hR := m_RM hs
  have hq := hR.2.2
  refine good_read (fun h => dec_m6s ho (r := ⟨65535, 131, 54, 6, 8⟩) (by kernel_rfl) rfl hs (op_81 _ _ _ _ _ _) (by have := mN_b zs 1; omega) (by have := mN_b zs 1; omega) ((oper8 _ _ _ _).trans (if_neg h))) (fun h => good_yes (is_plain (opd_eight_i (by have := mN_b zs 1; omega) (rm_tells hR.1) (isReg_imm _) (isImm_imm _))) ?_)
  rw [dec_m6 ho (r := ⟨65535, 131, 54, 6, 8⟩) (by kernel_rfl) rfl hs (op_81 _ _ _ _ _ _) (by have := mN_b zs 1; omega) (by have := mN_b zs 1; omega) (by decide) (by decide) ((oper8 _ _ _ _).trans (if_pos h))]
  have h8 := ok_eight2 (mN_b zs 1)
  exact isOr_ok (isB_sets h8.2.2.1 (mem_RM hR.1) (mem_imm _) (by rw [h8.2.2.2]; rfl) rfl ⟨by omega, by omega⟩)
theorem short_83 (ho : openM zs = some (131, 1)) (hs : mS zs 1 false = true) : decM zs = .error 10 :=
  dec_m_short ho (r := ⟨65535, 131, 54, 6, 8⟩) (by kernel_rfl) (.inl rfl) hs (fun _ => by rw [op_81]; have := mN_b zs 1; omega)
end
end Go.Proofs.YtlooobehlhgccaaDoor
namespace Go.Proofs.YtlooobehlhgccaaDoor
open Go.RowKit
set_option linter.unusedVariables false
set_option linter.unusedSimpArgs false
set_option linter.unusedSectionVars false

theorem ne_of_false {x y : Int} (h : (x == y) = false) : ¬ x = y := by simpa using h
theorem eq_of_true {x y : Int} (h : (x == y) = true) : x = y := by simpa using h
theorem knows_c {k : Nat} (hk : rC k = true) {n : Int} (h : 0 ≤ n ∧ n ≤ 15) : knowsB k n = true := by unfold knowsB; rw [hk]; simp; omega
section
variable {zs : List Int}
theorem zero_c1 (ho : openM zs = some (193, 1)) (hp : 2 ≤ zs.length) (ht : (shN (mN zs 1) == 0) = true) : decM zs = .error 12 :=
  dec_m_zero ho (r := ⟨65535, 193, 55, 6, 7⟩) (by kernel_rfl) (.inl rfl) hp (by rw [op_sh]; exact eq_of_true ht)
theorem short_c1 (ho : openM zs = some (193, 1)) (hs : mS zs 1 false = true) (ht : 2 ≤ zs.length → (shN (mN zs 1) == 0) = false) : decM zs = .error 10 :=
  dec_m_short ho (r := ⟨65535, 193, 55, 6, 7⟩) (by kernel_rfl) (.inl rfl) hs (fun h => by rw [op_sh]; exact ⟨ne_of_false (ht h), (sh_ok2 (mN_b zs 1) (ne_of_false (ht h))).1⟩)
theorem good_c1 (hz : ∀ z ∈ zs, 0 ≤ z ∧ z ≤ 255) (ho : openM zs = some (193, 1)) (hs : mS zs 1 false = false) (ht : (shN (mN zs 1) == 0) = false) : Good zs ⟨shN (mN zs 1), 0, mO zs 1 false, onImm (zs.getD (mP zs 1 false) 0), false, 0⟩ false (nx zs (mP zs 1 false) 1) (so zs (mP zs 1 false) 1 false) false := by
  have hR := m_RM hs
  have hq := hR.2.2
  have h0 := ne_of_false ht
  have hk := sh_ok2 (mN_b zs 1) h0
  refine good_read (fun h => dec_m6s ho (r := ⟨65535, 193, 55, 6, 7⟩) (by kernel_rfl) rfl hs (op_sh _ _ _ _ _ _) h0 hk.1 ((oper7 _ _ _ _).trans (if_neg h))) (fun h => good_yes (is_plain (opd_sh_i (mN_b zs 1) h0 (rm_tells hR.1) (byte_imm (by have := getD_bd hz (mP zs 1 false); omega)))) ?_)
  rw [dec_m6 ho (r := ⟨65535, 193, 55, 6, 7⟩) (by kernel_rfl) rfl hs (op_sh _ _ _ _ _ _) h0 hk.1 (by decide) (by decide) ((oper7 _ _ _ _).trans (if_pos h))]
  exact isOr_ok (isB_sets hk.2.1 (mem_RM hR.1) (mem_imm8 (by have := getD_bd hz (mP zs 1 false); omega)) (by rw [hk.2.2.2]; rfl) rfl ⟨by omega, by omega⟩)
theorem zero_d1 (ho : openM zs = some (209, 1)) (hp : 2 ≤ zs.length) (ht : (shN (mN zs 1) == 0) = true) : decM zs = .error 12 :=
  dec_m_zero ho (r := ⟨65535, 209, 55, 6, 3⟩) (by kernel_rfl) (.inl rfl) hp (by rw [op_sh]; exact eq_of_true ht)
theorem short_d1 (ho : openM zs = some (209, 1)) (hs : mS zs 1 false = true) (ht : 2 ≤ zs.length → (shN (mN zs 1) == 0) = false) : decM zs = .error 10 :=
  dec_m_short ho (r := ⟨65535, 209, 55, 6, 3⟩) (by kernel_rfl) (.inl rfl) hs (fun h => by rw [op_sh]; exact ⟨ne_of_false (ht h), (sh_ok2 (mN_b zs 1) (ne_of_false (ht h))).1⟩)
theorem good_d1 (hz : ∀ z ∈ zs, 0 ≤ z ∧ z ≤ 255) (ho : openM zs = some (209, 1)) (hs : mS zs 1 false = false) (ht : (shN (mN zs 1) == 0) = false) : Good zs ⟨shN (mN zs 1), 0, mO zs 1 false, onImm 1, false, 0⟩ false (mP zs 1 false) false false := by
  have hR := m_RM hs
  have hq := hR.2.2
  have h0 := ne_of_false ht
  have hk := sh_ok2 (mN_b zs 1) h0
  refine good_yes (is_plain (opd_sh_i (mN_b zs 1) h0 (rm_tells hR.1) (byte_imm (by decide)))) ?_
  rw [dec_m6 ho (r := ⟨65535, 209, 55, 6, 3⟩) (by kernel_rfl) rfl hs (op_sh _ _ _ _ _ _) h0 hk.1 (by decide) (by decide) (oper3 _ _ _ _)]
  exact isOr_ok (isB_sets hk.2.1 (mem_RM hR.1) (mem_imm8 (by decide)) (by rw [hk.2.2.2]; rfl) rfl ⟨by omega, by omega⟩)
theorem zero_d3 (ho : openM zs = some (211, 1)) (hp : 2 ≤ zs.length) (ht : (shN (mN zs 1) == 0) = true) : decM zs = .error 12 :=
  dec_m_zero ho (r := ⟨65535, 211, 55, 6, 2⟩) (by kernel_rfl) (.inl rfl) hp (by rw [op_sh]; exact eq_of_true ht)
theorem short_d3 (ho : openM zs = some (211, 1)) (hs : mS zs 1 false = true) (ht : 2 ≤ zs.length → (shN (mN zs 1) == 0) = false) : decM zs = .error 10 :=
  dec_m_short ho (r := ⟨65535, 211, 55, 6, 2⟩) (by kernel_rfl) (.inl rfl) hs (fun h => by rw [op_sh]; exact ⟨ne_of_false (ht h), (sh_ok2 (mN_b zs 1) (ne_of_false (ht h))).1⟩)
theorem good_d3 (hz : ∀ z ∈ zs, 0 ≤ z ∧ z ≤ 255) (ho : openM zs = some (211, 1)) (hs : mS zs 1 false = false) (ht : (shN (mN zs 1) == 0) = false) : Good zs ⟨shN (mN zs 1), 0, mO zs 1 false, onReg 1, false, 0⟩ false (mP zs 1 false) false false := by
  have hR := m_RM hs
  have hq := hR.2.2
  have h0 := ne_of_false ht
  have hk := sh_ok2 (mN_b zs 1) h0
  refine good_yes (is_plain (opd_sh_r (mN_b zs 1) h0 (rm_tells hR.1))) ?_
  rw [dec_m6 ho (r := ⟨65535, 211, 55, 6, 2⟩) (by kernel_rfl) rfl hs (op_sh _ _ _ _ _ _) h0 hk.1 (by decide) (by decide) (oper2 _ _ _ _)]
  exact isOr_ok (isB_sets hk.2.2.1 (mem_RM hR.1) (by decide) (by rw [hk.2.2.2]; rfl) rfl ⟨by omega, by omega⟩)
theorem op_c6 (p : Nat) (h : mN zs p = 0) : opM 198 (zs.getD p 0) ⟨65535, 198, 60, 6, 7⟩ = 2 := by rw [op_grp _ (by decide) (by decide), h]; rfl
theorem op_c6n (p : Nat) (h : ¬ mN zs p = 0) : opM 198 (zs.getD p 0) ⟨65535, 198, 60, 6, 7⟩ = -1 := by
  rw [op_grp _ (by decide) (by decide)]
  rcases nat_of (mN_b zs p) with e | e | e | e | e | e | e | e
  · exact absurd e h
  all_goals rw [e]; rfl
theorem bad_c6 (ho : openM zs = some (198, 1)) (hp : 2 ≤ zs.length) (hn : ¬ mN zs 1 = 0) : decM zs = .error 90 := dec_m_bad ho (by kernel_rfl) (.inl rfl) hp (op_c6n 1 hn)
theorem short_c6 (ho : openM zs = some (198, 1)) (hs : mS zs 1 false = true) (hn : 2 ≤ zs.length → mN zs 1 = 0) : decM zs = .error 10 :=
  dec_m_short ho (r := ⟨65535, 198, 60, 6, 7⟩) (by kernel_rfl) (.inl rfl) hs (fun h => by rw [op_c6 1 (hn h)]; decide)
theorem good_c6 (hz : ∀ z ∈ zs, 0 ≤ z ∧ z ≤ 255) (ho : openM zs = some (198, 1)) (hs : mS zs 1 false = false) (hn : mN zs 1 = 0) : Good zs ⟨2, 0, mO zs 1 false, onImm (zs.getD (mP zs 1 false) 0), false, 0⟩ false (nx zs (mP zs 1 false) 1) (so zs (mP zs 1 false) 1 false) false := by
  have hR := m_RM hs
  have hq := hR.2.2
  refine good_read (fun h => dec_m6s ho (r := ⟨65535, 198, 60, 6, 7⟩) (by kernel_rfl) rfl hs (op_c6 1 hn) (by decide) (by decide) ((oper7 _ _ _ _).trans (if_neg h))) (fun h => good_yes (is_plain (opd_movb_i (rm_tells hR.1) (isReg_imm _) (byte_imm (by have := getD_bd hz (mP zs 1 false); omega)))) ?_)
  rw [dec_m6 ho (r := ⟨65535, 198, 60, 6, 7⟩) (by kernel_rfl) rfl hs (op_c6 1 hn) (by decide) (by decide) (by decide) (by decide) ((oper7 _ _ _ _).trans (if_pos h))]
  exact isOr_ok (isB_sets (SA := [2, 6, 8]) (SB := [48, 112]) (by kernel_rfl) (mem_RM hR.1) (mem_imm8 (by have := getD_bd hz (mP zs 1 false); omega)) rfl rfl ⟨by omega, by omega⟩)
theorem op_c7 (p : Nat) (h : mN zs p = 0) : opM 199 (zs.getD p 0) ⟨65535, 199, 59, 6, 9⟩ = 1 := by rw [op_grp _ (by decide) (by decide), h]; rfl
theorem op_c7n (p : Nat) (h : ¬ mN zs p = 0) : opM 199 (zs.getD p 0) ⟨65535, 199, 59, 6, 9⟩ = -1 := by
  rw [op_grp _ (by decide) (by decide)]
  rcases nat_of (mN_b zs p) with e | e | e | e | e | e | e | e
  · exact absurd e h
  all_goals rw [e]; rfl
theorem bad_c7 (ho : openM zs = some (199, 1)) (hp : 2 ≤ zs.length) (hn : ¬ mN zs 1 = 0) : decM zs = .error 90 := dec_m_bad ho (by kernel_rfl) (.inl rfl) hp (op_c7n 1 hn)
theorem short_c7 (ho : openM zs = some (199, 1)) (hs : mS zs 1 false = true) (hn : 2 ≤ zs.length → mN zs 1 = 0) : decM zs = .error 10 :=
  dec_m_short ho (r := ⟨65535, 199, 59, 6, 9⟩) (by kernel_rfl) (.inl rfl) hs (fun h => by rw [op_c7 1 (hn h)]; decide)
theorem good_c7 (hz : ∀ z ∈ zs, 0 ≤ z ∧ z ≤ 255) (ho : openM zs = some (199, 1)) (hs : mS zs 1 false = false) (hn : mN zs 1 = 0) : Good zs ⟨1, 0, mO zs 1 false, onImm (le4 zs (mP zs 1 false)), false, 0⟩ false (nx zs (mP zs 1 false) 4) (so zs (mP zs 1 false) 4 false) false := by
  have hR := m_RM hs
  have hq := hR.2.2
  refine good_read (fun h => dec_m6s ho (r := ⟨65535, 199, 59, 6, 9⟩) (by kernel_rfl) rfl hs (op_c7 1 hn) (by decide) (by decide) ((oper9 _ _ _ _).trans (if_neg h))) (fun h => good_yes (is_plain (opd_mov_i (rm_tells hR.1) (isReg_imm _) (isImm_imm _))) ?_)
  rw [dec_m6 ho (r := ⟨65535, 199, 59, 6, 9⟩) (by kernel_rfl) rfl hs (op_c7 1 hn) (by decide) (by decide) (by decide) (by decide) ((oper9 _ _ _ _).trans (if_pos h))]
  exact isOr_ok (isB_sets (SA := [2, 6, 8]) (SB := [16, 48, 112]) (by kernel_rfl) (mem_RM hR.1) (mem_imm _) rfl rfl ⟨by omega, by omega⟩)
theorem lea_bad (zs : List Int) : byM zs 141 1 ⟨65535, 141, -1, 0, 0⟩ = .error 90 := by
  unfold byM
  rw [if_neg (by decide), rest_bad (by decide)]
theorem short_8d (ho : openM zs = some (141, 1)) (hs : mS zs 1 false = true) : decM zs = .error 10 := by
  rw [dec_two ho rows_lea]
  unfold byM
  rw [if_pos (by decide)]
  by_cases h : 1 + 1 ≤ zs.length
  · rw [if_pos h, rest_shortB (op := 26) rfl (by decide) (by decide) (oper5 _ _ _ _) ((oper6 _ _ _ _).trans (m_no hs h))]
  · rw [if_neg h]
theorem good_8d (ho : openM zs = some (141, 1)) (hs : mS zs 1 false = false) {u : Bool} (hu : ((mO zs 1 false).k == 1) = u) : Good zs ⟨26, 0, onReg (mN zs 1), mO zs 1 false, false, 0⟩ false (mP zs 1 false) false u := by
  have hR := m_RM hs
  have hq := hR.2.2
  have hm := m_ok hs
  have hk := kind_of hR.1
  have hd : decM zs = if isB ⟨26, 0, onReg (mN zs 1), mO zs 1 false, false, mP zs 1 false⟩ then .ok ⟨26, 0, onReg (mN zs 1), mO zs 1 false, false, mP zs 1 false⟩ else .error 90 := by
    rw [dec_two ho rows_lea, lea_bad]
    unfold byM
    rw [if_pos (by decide), if_pos hm.1, rest_okp (op := 26) (by decide) (by decide) rfl (by decide) (by decide) (oper5 _ _ _ _) ((oper6 _ _ _ _).trans hm.2)]
    rfl
  cases u
  · have h3 : (mO zs 1 false).k = 3 := hk.resolve_left (ne_of_false hu)
    have ht := mem_tells hR.1 h3
    refine good_yes (is_plain (opd_lea (isReg_reg (mN_b zs 1)) ht.2.2)) ?_
    rw [hd, if_pos (isB_sets (SA := [2, 6]) (SB := [8]) (by kernel_rfl) (mem_reg (mN_b zs 1)) (mem_mem hR.1 h3) rfl rfl ⟨by omega, by omega⟩)]
  · have h1 := eq_of_true hu
    refine good_bad ?_
    rw [hd, isB_no (SA := [2, 6]) (SB := [2, 6]) (by kernel_rfl) (mem_reg (mN_b zs 1)) (mem_nomem hR.1 (by omega))]
    rfl
theorem zero_dc (ho : openM zs = some (220, 1)) (hp : 2 ≤ zs.length) (ht : (nuN (mN zs 1) == 0) = true) : decM zs = .error 12 :=
  dec_m_zero ho (r := ⟨65535, 220, 62, 6, 0⟩) (by kernel_rfl) (.inl rfl) hp (by rw [op_nu]; exact eq_of_true ht)
theorem short_dc (ho : openM zs = some (220, 1)) (hs : mS zs 1 false = true) (ht : 2 ≤ zs.length → (nuN (mN zs 1) == 0) = false) : decM zs = .error 10 :=
  dec_m_short ho (r := ⟨65535, 220, 62, 6, 0⟩) (by kernel_rfl) (.inl rfl) hs (fun h => by rw [op_nu]; exact ⟨ne_of_false (ht h), (nu_ok2 (mN_b zs 1) (ne_of_false (ht h))).1⟩)
theorem good_dc (ho : openM zs = some (220, 1)) (hs : mS zs 1 false = false) {t u : Bool} (ht : (nuN (mN zs 1) == 0) = t) (hu : ((mO zs 1 false).k == 1) = u) : Good zs ⟨nuN (mN zs 1), 0, mO zs 1 false, onZ, false, 0⟩ (t || u) (mP zs 1 false) false false := by
  have hR := m_RM hs
  have hq := hR.2.2
  have hm := m_ok hs
  have hkd := kind_of hR.1
  cases t
  · have h0 := ne_of_false ht
    have hk := nu_ok2 (mN_b zs 1) h0
    have hd := dec_m6 ho (r := ⟨65535, 220, 62, 6, 0⟩) (by kernel_rfl) rfl hs (op_nu _ _ _ _ _ _) h0 hk.1 (by decide) (by decide) (oper0 _ _ _ _)
    cases u
    · have h3 : (mO zs 1 false).k = 3 := hkd.resolve_left (ne_of_false hu)
      refine good_yes (is_plain (opd_nu (mN_b zs 1) h0 (mem_tells hR.1 h3).2.2)) ?_
      rw [hd]
      exact isOr_ok (isB_sets hk.2.1 (mem_mem hR.1 h3) mem_z (by rw [hk.2.2.2]; rfl) rfl ⟨by omega, by omega⟩)
    · have h1 := eq_of_true hu
      refine good_other ?_
      rw [hd]
      exact isOr_no (isB_no hk.2.2.1 (mem_nomem hR.1 (by omega)) mem_z)
  · exact good_other (zero_dc ho hm.1 ht)
theorem op_dd0 (p : Nat) (h : mN zs p = 0) : opM 221 (zs.getD p 0) ⟨65535, 221, 63, 6, 0⟩ = 45 := by rw [op_grp _ (by decide) (by decide), h]; rfl
theorem good_dd0 (ho : openM zs = some (221, 1)) (hs : mS zs 1 false = false) (hn : mN zs 1 = 0) {u : Bool} (hu : ((mO zs 1 false).k == 1) = u) : Good zs ⟨45, 0, mO zs 1 false, onZ, false, 0⟩ u (mP zs 1 false) false false := by
  have hR := m_RM hs
  have hq := hR.2.2
  have hkd := kind_of hR.1
  have hd := dec_m6 ho (r := ⟨65535, 221, 63, 6, 0⟩) (by kernel_rfl) rfl hs (op_dd0 1 hn) (by decide) (by decide) (by decide) (by decide) (oper0 _ _ _ _)
  cases u
  · have h3 : (mO zs 1 false).k = 3 := hkd.resolve_left (ne_of_false hu)
    refine good_yes (is_plain (opd_mem45 (mem_tells hR.1 h3).2.2 none_z)) ?_
    rw [hd]
    exact isOr_ok (isB_sets (SA := [8]) (SB := [1]) (by kernel_rfl) (mem_mem hR.1 h3) mem_z rfl rfl ⟨by omega, by omega⟩)
  · have h1 := eq_of_true hu
    refine good_other ?_
    rw [hd]
    exact isOr_no (isB_no (SA := [2, 6]) (SB := [1]) (by kernel_rfl) (mem_nomem hR.1 (by omega)) mem_z)
theorem op_dd3 (p : Nat) (h : mN zs p = 3) : opM 221 (zs.getD p 0) ⟨65535, 221, 63, 6, 0⟩ = 46 := by rw [op_grp _ (by decide) (by decide), h]; rfl
theorem good_dd3 (ho : openM zs = some (221, 1)) (hs : mS zs 1 false = false) (hn : mN zs 1 = 3) {u : Bool} (hu : ((mO zs 1 false).k == 1) = u) : Good zs ⟨46, 0, mO zs 1 false, onZ, false, 0⟩ u (mP zs 1 false) false false := by
  have hR := m_RM hs
  have hq := hR.2.2
  have hkd := kind_of hR.1
  have hd := dec_m6 ho (r := ⟨65535, 221, 63, 6, 0⟩) (by kernel_rfl) rfl hs (op_dd3 1 hn) (by decide) (by decide) (by decide) (by decide) (oper0 _ _ _ _)
  cases u
  · have h3 : (mO zs 1 false).k = 3 := hkd.resolve_left (ne_of_false hu)
    refine good_yes (is_plain (opd_mem46 (mem_tells hR.1 h3).2.2 none_z)) ?_
    rw [hd]
    exact isOr_ok (isB_sets (SA := [8]) (SB := [1]) (by kernel_rfl) (mem_mem hR.1 h3) mem_z rfl rfl ⟨by omega, by omega⟩)
  · have h1 := eq_of_true hu
    refine good_other ?_
    rw [hd]
    exact isOr_no (isB_no (SA := [2, 6]) (SB := [1]) (by kernel_rfl) (mem_nomem hR.1 (by omega)) mem_z)
theorem zero_dd (ho : openM zs = some (221, 1)) (hp : 2 ≤ zs.length) (h0 : ¬ mN zs 1 = 0) (h3 : ¬ mN zs 1 = 3) : decM zs = .error 12 := by
  refine dec_m_zero ho (r := ⟨65535, 221, 63, 6, 0⟩) (by kernel_rfl) (.inl rfl) hp ?_
  rw [op_grp _ (by decide) (by decide)]
  rcases nat_of (mN_b zs 1) with e | e | e | e | e | e | e | e
  · exact absurd e h0
  · rw [e]; rfl
  · rw [e]; rfl
  · exact absurd e h3
  all_goals rw [e]; rfl
theorem short_dd (ho : openM zs = some (221, 1)) (hs : mS zs 1 false = true) (hn : 2 ≤ zs.length → mN zs 1 = 0 ∨ mN zs 1 = 3) : decM zs = .error 10 :=
  dec_m_short ho (r := ⟨65535, 221, 63, 6, 0⟩) (by kernel_rfl) (.inl rfl) hs (fun h => (hn h).elim (fun e => by rw [op_dd0 1 e]; decide) (fun e => by rw [op_dd3 1 e]; decide))
theorem op_ff0 (p : Nat) (h : mN zs p = 0) : opM 255 (zs.getD p 0) ⟨65535, 255, 58, 6, 0⟩ = 12 := by rw [op_grp _ (by decide) (by decide), h]; rfl
theorem good_ff0 (ho : openM zs = some (255, 1)) (hs : mS zs 1 false = false) (hn : mN zs 1 = 0) : Good zs ⟨12, 0, mO zs 1 false, onZ, false, 0⟩ false (mP zs 1 false) false false := by
  have hR := m_RM hs
  have hq := hR.2.2
  refine good_yes (is_plain (opd_one12 (rm_tells hR.1) none_z)) ?_
  rw [dec_m6 ho (r := ⟨65535, 255, 58, 6, 0⟩) (by kernel_rfl) rfl hs (op_ff0 1 hn) (by decide) (by decide) (by decide) (by decide) (oper0 _ _ _ _)]
  exact isOr_ok (isB_sets (SA := [2, 6, 8]) (SB := [1]) (by kernel_rfl) (mem_RM hR.1) mem_z rfl rfl ⟨by omega, by omega⟩)
theorem op_ff1 (p : Nat) (h : mN zs p = 1) : opM 255 (zs.getD p 0) ⟨65535, 255, 58, 6, 0⟩ = 13 := by rw [op_grp _ (by decide) (by decide), h]; rfl
theorem good_ff1 (ho : openM zs = some (255, 1)) (hs : mS zs 1 false = false) (hn : mN zs 1 = 1) : Good zs ⟨13, 0, mO zs 1 false, onZ, false, 0⟩ false (mP zs 1 false) false false := by
  have hR := m_RM hs
  have hq := hR.2.2
  refine good_yes (is_plain (opd_one13 (rm_tells hR.1) none_z)) ?_
  rw [dec_m6 ho (r := ⟨65535, 255, 58, 6, 0⟩) (by kernel_rfl) rfl hs (op_ff1 1 hn) (by decide) (by decide) (by decide) (by decide) (oper0 _ _ _ _)]
  exact isOr_ok (isB_sets (SA := [2, 6, 8]) (SB := [1]) (by kernel_rfl) (mem_RM hR.1) mem_z rfl rfl ⟨by omega, by omega⟩)
theorem op_ff2 (p : Nat) (h : mN zs p = 2) : opM 255 (zs.getD p 0) ⟨65535, 255, 58, 6, 0⟩ = 30 := by rw [op_grp _ (by decide) (by decide), h]; rfl
theorem good_ff2 (ho : openM zs = some (255, 1)) (hs : mS zs 1 false = false) (hn : mN zs 1 = 2) : Good zs ⟨30, 0, mO zs 1 false, onZ, false, 0⟩ false (mP zs 1 false) false false := by
  have hR := m_RM hs
  have hq := hR.2.2
  refine good_yes (is_plain (opd_one30 (rm_tells hR.1) none_z)) ?_
  rw [dec_m6 ho (r := ⟨65535, 255, 58, 6, 0⟩) (by kernel_rfl) rfl hs (op_ff2 1 hn) (by decide) (by decide) (by decide) (by decide) (oper0 _ _ _ _)]
  exact isOr_ok (isB_sets (SA := [2, 6, 8]) (SB := [1]) (by kernel_rfl) (mem_RM hR.1) mem_z rfl rfl ⟨by omega, by omega⟩)
theorem op_ff3 (p : Nat) (h : mN zs p = 3) : opM 255 (zs.getD p 0) ⟨65535, 255, 58, 6, 0⟩ = 0 := by rw [op_grp _ (by decide) (by decide), h]; rfl
theorem op_ff4 (p : Nat) (h : mN zs p = 4) : opM 255 (zs.getD p 0) ⟨65535, 255, 58, 6, 0⟩ = 32 := by rw [op_grp _ (by decide) (by decide), h]; rfl
theorem good_ff4 (ho : openM zs = some (255, 1)) (hs : mS zs 1 false = false) (hn : mN zs 1 = 4) : Good zs ⟨32, 0, mO zs 1 false, onZ, false, 0⟩ false (mP zs 1 false) false false := by
  have hR := m_RM hs
  have hq := hR.2.2
  refine good_yes (is_plain (opd_one32 (rm_tells hR.1) none_z)) ?_
  rw [dec_m6 ho (r := ⟨65535, 255, 58, 6, 0⟩) (by kernel_rfl) rfl hs (op_ff4 1 hn) (by decide) (by decide) (by decide) (by decide) (oper0 _ _ _ _)]
  exact isOr_ok (isB_sets (SA := [2, 6, 8]) (SB := [1]) (by kernel_rfl) (mem_RM hR.1) mem_z rfl rfl ⟨by omega, by omega⟩)
theorem op_ff5 (p : Nat) (h : mN zs p = 5) : opM 255 (zs.getD p 0) ⟨65535, 255, 58, 6, 0⟩ = 0 := by rw [op_grp _ (by decide) (by decide), h]; rfl
theorem op_ff6 (p : Nat) (h : mN zs p = 6) : opM 255 (zs.getD p 0) ⟨65535, 255, 58, 6, 0⟩ = 28 := by rw [op_grp _ (by decide) (by decide), h]; rfl
theorem good_ff6 (ho : openM zs = some (255, 1)) (hs : mS zs 1 false = false) (hn : mN zs 1 = 6) : Good zs ⟨28, 0, mO zs 1 false, onZ, false, 0⟩ false (mP zs 1 false) false false := by
  have hR := m_RM hs
  have hq := hR.2.2
  refine good_yes (is_plain (opd_one28 (rm_tells hR.1) none_z)) ?_
  rw [dec_m6 ho (r := ⟨65535, 255, 58, 6, 0⟩) (by kernel_rfl) rfl hs (op_ff6 1 hn) (by decide) (by decide) (by decide) (by decide) (oper0 _ _ _ _)]
  exact isOr_ok (isB_sets (SA := [2, 6, 8]) (SB := [1]) (by kernel_rfl) (mem_RM hR.1) mem_z rfl rfl ⟨by omega, by omega⟩)
theorem op_ff7 (p : Nat) (h : mN zs p = 7) : opM 255 (zs.getD p 0) ⟨65535, 255, 58, 6, 0⟩ = -1 := by rw [op_grp _ (by decide) (by decide), h]; rfl
theorem zero_ff (ho : openM zs = some (255, 1)) (hp : 2 ≤ zs.length) (hn : mN zs 1 = 3 ∨ mN zs 1 = 5) : decM zs = .error 12 :=
  dec_m_zero ho (r := ⟨65535, 255, 58, 6, 0⟩) (by kernel_rfl) (.inl rfl) hp (hn.elim (op_ff3 1) (op_ff5 1))
theorem bad_ff (ho : openM zs = some (255, 1)) (hp : 2 ≤ zs.length) (hn : mN zs 1 = 7) : decM zs = .error 90 :=
  dec_m_bad ho (r := ⟨65535, 255, 58, 6, 0⟩) (by kernel_rfl) (.inl rfl) hp (op_ff7 1 hn)
theorem short_ff (ho : openM zs = some (255, 1)) (hs : mS zs 1 false = true) (hn : 2 ≤ zs.length → ¬ mN zs 1 = 3 ∧ ¬ mN zs 1 = 5 ∧ ¬ mN zs 1 = 7) : decM zs = .error 10 := by
  refine dec_m_short ho (r := ⟨65535, 255, 58, 6, 0⟩) (by kernel_rfl) (.inl rfl) hs (fun h => ?_)
  have hh := hn h
  rcases nat_of (mN_b zs 1) with e | e | e | e | e | e | e | e
  · rw [op_ff0 1 e]; decide
  · rw [op_ff1 1 e]; decide
  · rw [op_ff2 1 e]; decide
  · exact absurd e hh.1
  · rw [op_ff4 1 e]; decide
  · exact absurd e hh.2.1
  · rw [op_ff6 1 e]; decide
  · exact absurd e hh.2.2
theorem rowsF7 : rowsOf 247 = [⟨65535, 247, 56, 6, 9⟩, ⟨65535, 247, 57, 6, 0⟩] := by kernel_rfl
theorem op_f7a (h : mN zs 1 = 0) : opM 247 (zs.getD 1 0) ⟨65535, 247, 56, 6, 9⟩ = 11 := by rw [op_grp _ (by decide) (by decide), h]; rfl
theorem op_f7z (h : ¬ mN zs 1 = 0) : opM 247 (zs.getD 1 0) ⟨65535, 247, 56, 6, 9⟩ = 0 := by
  rw [op_grp _ (by decide) (by decide)]
  rcases nat_of (mN_b zs 1) with e | e | e | e | e | e | e | e
  · exact absurd e h
  all_goals rw [e]; rfl
theorem dec_f7 (ho : openM zs = some (247, 1)) (hp : 2 ≤ zs.length) (h : ¬ mN zs 1 = 0) : decM zs = match restM zs 247 (zs.getD 1 0) 2 ⟨65535, 247, 57, 6, 0⟩ with | .error x => .error x | .ok i => isOr i := by
  rw [dec_two ho rowsF7]
  unfold byM
  rw [if_pos (by decide), if_pos hp, if_pos (by decide), rest_zero (op_f7z h)]
  dsimp only
  rw [isB_inZ, if_neg Bool.false_ne_true, if_pos hp]
  rw [show (1 + 1 : Nat) = 2 from rfl]
  cases restM zs 247 (zs.getD 1 0) 2 ⟨65535, 247, 57, 6, 0⟩ <;> rfl
theorem less_f7 (ho : openM zs = some (247, 1)) (hp : ¬ 2 ≤ zs.length) : decM zs = .error 10 := by
  rw [dec_two ho rowsF7]
  unfold byM
  rw [if_pos (by decide), if_neg hp]
theorem short_f7 (ho : openM zs = some (247, 1)) (hs : mS zs 1 false = true) (hn : 2 ≤ zs.length → ¬ mN zs 1 = 1) : decM zs = .error 10 := by
  by_cases hp : 2 ≤ zs.length
  · have hm := m_no hs hp
    by_cases h0 : mN zs 1 = 0
    · rw [dec_two ho rowsF7]
      unfold byM
      rw [if_pos (by decide), if_pos hp, rest_shortA (op_f7a h0) (by decide) (by decide) ((oper6 _ _ _ _).trans hm)]
    · rw [dec_f7 ho hp h0]
      have hop : ∃ op, opM 247 (zs.getD 1 0) ⟨65535, 247, 57, 6, 0⟩ = op ∧ ¬ op = 0 ∧ ¬ op = -1 := by
        rw [op_grp _ (by decide) (by decide)]
        rcases nat_of (mN_b zs 1) with e | e | e | e | e | e | e | e
        · exact absurd e h0
        · exact absurd e (hn hp)
        all_goals rw [e]; exact ⟨_, rfl, by decide, by decide⟩
      obtain ⟨op, e, g0, g1⟩ := hop
      rw [rest_shortA e g0 g1 ((oper6 _ _ _ _).trans hm)]
  · exact less_f7 ho hp
theorem zero_f7 (ho : openM zs = some (247, 1)) (hp : 2 ≤ zs.length) (hn : mN zs 1 = 1) : decM zs = .error 12 := by
  rw [dec_f7 ho hp (by omega), rest_zero (by rw [op_grp _ (by decide) (by decide), hn]; rfl)]
  exact isOr_no isB_inZ
theorem good_f70 (ho : openM zs = some (247, 1)) (hs : mS zs 1 false = false) (hn : mN zs 1 = 0) : Good zs ⟨11, 0, mO zs 1 false, onImm (le4 zs (mP zs 1 false)), false, 0⟩ false (nx zs (mP zs 1 false) 4) (so zs (mP zs 1 false) 4 false) false := by
  have hR := m_RM hs
  have hq := hR.2.2
  have hm := m_ok hs
  refine good_read (fun h => ?_) (fun h => good_yes (is_plain (opd_test_i (rm_tells hR.1) (isReg_imm _) (isImm_imm _))) ?_)
  · rw [dec_two ho rowsF7]
    unfold byM
    rw [if_pos (by decide), if_pos hm.1, rest_shortB (op_f7a hn) (by decide) (by decide) ((oper6 _ _ _ _).trans hm.2) ((oper9 _ _ _ _).trans (if_neg h))]
  · rw [dec_two ho rowsF7]
    unfold byM
    rw [if_pos (by decide), if_pos hm.1, rest_okp (by decide) (by decide) (op_f7a hn) (by decide) (by decide) ((oper6 _ _ _ _).trans hm.2) ((oper9 _ _ _ _).trans (if_pos h))]
    dsimp only
    rw [if_pos (isB_sets (SA := [2, 6, 8]) (SB := [16, 48, 112]) (by kernel_rfl) (mem_RM hR.1) (mem_imm _) rfl rfl ⟨by omega, by omega⟩)]
theorem good_f72 (ho : openM zs = some (247, 1)) (hs : mS zs 1 false = false) (hn : mN zs 1 = 2) : Good zs ⟨14, 0, mO zs 1 false, onZ, false, 0⟩ false (mP zs 1 false) false false := by
  have hR := m_RM hs
  have hq := hR.2.2
  have hm := m_ok hs
  refine good_yes (is_plain (opd_one14 (rm_tells hR.1) none_z)) ?_
  rw [dec_f7 ho hm.1 (by omega), rest_okp (op := 14) (by decide) (by decide) (by rw [op_grp _ (by decide) (by decide), hn]; rfl) (by decide) (by decide) ((oper6 _ _ _ _).trans hm.2) (oper0 _ _ _ _)]
  exact isOr_ok (isB_sets (SA := [2, 6, 8]) (SB := [1]) (by kernel_rfl) (mem_RM hR.1) mem_z rfl rfl ⟨by omega, by omega⟩)
theorem good_f73 (ho : openM zs = some (247, 1)) (hs : mS zs 1 false = false) (hn : mN zs 1 = 3) : Good zs ⟨15, 0, mO zs 1 false, onZ, false, 0⟩ false (mP zs 1 false) false false := by
  have hR := m_RM hs
  have hq := hR.2.2
  have hm := m_ok hs
  refine good_yes (is_plain (opd_one15 (rm_tells hR.1) none_z)) ?_
  rw [dec_f7 ho hm.1 (by omega), rest_okp (op := 15) (by decide) (by decide) (by rw [op_grp _ (by decide) (by decide), hn]; rfl) (by decide) (by decide) ((oper6 _ _ _ _).trans hm.2) (oper0 _ _ _ _)]
  exact isOr_ok (isB_sets (SA := [2, 6, 8]) (SB := [1]) (by kernel_rfl) (mem_RM hR.1) mem_z rfl rfl ⟨by omega, by omega⟩)
theorem good_f74 (ho : openM zs = some (247, 1)) (hs : mS zs 1 false = false) (hn : mN zs 1 = 4) : Good zs ⟨16, 0, mO zs 1 false, onZ, false, 0⟩ false (mP zs 1 false) false false := by
  have hR := m_RM hs
  have hq := hR.2.2
  have hm := m_ok hs
  refine good_yes (is_plain (opd_one16 (rm_tells hR.1) none_z)) ?_
  rw [dec_f7 ho hm.1 (by omega), rest_okp (op := 16) (by decide) (by decide) (by rw [op_grp _ (by decide) (by decide), hn]; rfl) (by decide) (by decide) ((oper6 _ _ _ _).trans hm.2) (oper0 _ _ _ _)]
  exact isOr_ok (isB_sets (SA := [2, 6, 8]) (SB := [1]) (by kernel_rfl) (mem_RM hR.1) mem_z rfl rfl ⟨by omega, by omega⟩)
theorem good_f75 (ho : openM zs = some (247, 1)) (hs : mS zs 1 false = false) (hn : mN zs 1 = 5) : Good zs ⟨17, 0, mO zs 1 false, onZ, false, 0⟩ false (mP zs 1 false) false false := by
  have hR := m_RM hs
  have hq := hR.2.2
  have hm := m_ok hs
  refine good_yes (is_plain (opd_one17 (rm_tells hR.1) none_z)) ?_
  rw [dec_f7 ho hm.1 (by omega), rest_okp (op := 17) (by decide) (by decide) (by rw [op_grp _ (by decide) (by decide), hn]; rfl) (by decide) (by decide) ((oper6 _ _ _ _).trans hm.2) (oper0 _ _ _ _)]
  exact isOr_ok (isB_sets (SA := [2, 6, 8]) (SB := [1]) (by kernel_rfl) (mem_RM hR.1) mem_z rfl rfl ⟨by omega, by omega⟩)
theorem good_f76 (ho : openM zs = some (247, 1)) (hs : mS zs 1 false = false) (hn : mN zs 1 = 6) : Good zs ⟨19, 0, mO zs 1 false, onZ, false, 0⟩ false (mP zs 1 false) false false := by
  have hR := m_RM hs
  have hq := hR.2.2
  have hm := m_ok hs
  refine good_yes (is_plain (opd_one19 (rm_tells hR.1) none_z)) ?_
  rw [dec_f7 ho hm.1 (by omega), rest_okp (op := 19) (by decide) (by decide) (by rw [op_grp _ (by decide) (by decide), hn]; rfl) (by decide) (by decide) ((oper6 _ _ _ _).trans hm.2) (oper0 _ _ _ _)]
  exact isOr_ok (isB_sets (SA := [2, 6, 8]) (SB := [1]) (by kernel_rfl) (mem_RM hR.1) mem_z rfl rfl ⟨by omega, by omega⟩)
theorem good_f77 (ho : openM zs = some (247, 1)) (hs : mS zs 1 false = false) (hn : mN zs 1 = 7) : Good zs ⟨20, 0, mO zs 1 false, onZ, false, 0⟩ false (mP zs 1 false) false false := by
  have hR := m_RM hs
  have hq := hR.2.2
  have hm := m_ok hs
  refine good_yes (is_plain (opd_one20 (rm_tells hR.1) none_z)) ?_
  rw [dec_f7 ho hm.1 (by omega), rest_okp (op := 20) (by decide) (by decide) (by rw [op_grp _ (by decide) (by decide), hn]; rfl) (by decide) (by decide) ((oper6 _ _ _ _).trans hm.2) (oper0 _ _ _ _)]
  exact isOr_ok (isB_sets (SA := [2, 6, 8]) (SB := [1]) (by kernel_rfl) (mem_RM hR.1) mem_z rfl rfl ⟨by omega, by omega⟩)
end
end Go.Proofs.YtlooobehlhgccaaDoor
namespace Go.Proofs.YtlooobehlhgccaaDoor
open Go.RowKit
set_option linter.unusedVariables false
set_option linter.unusedSimpArgs false
set_option linter.unusedSectionVars false

section
variable {zs : List Int}
theorem open1 {c : Int} (hl : 1 ≤ zs.length) (hc : zs.getD 0 0 = c) (h : ¬ (c = 15 ∨ c = 217 ∨ c = 243)) : openM zs = some (c, 1) := by
  unfold openM
  rw [if_pos hl, hc, if_neg h]
theorem open2 {c d : Int} (hl : 2 ≤ zs.length) (hc : zs.getD 0 0 = c) (h : c = 15 ∨ c = 217 ∨ c = 243) (hd : c * 256 + zs.getD 1 0 = d) : openM zs = some (d, 2) := by
  unfold openM
  rw [if_pos (by omega), hc, if_pos h, if_pos hl, hd]
theorem dec_open2s {c : Int} (hl : ¬ 2 ≤ zs.length) (hc : zs.getD 0 0 = c) (h : c = 15 ∨ c = 217 ∨ c = 243) : decM zs = .error 10 := by
  unfold decM openM
  by_cases h1 : 1 ≤ zs.length
  · rw [if_pos h1, hc, if_pos h, if_neg hl]
  · rw [if_neg h1]
theorem dec_nil (hl : ¬ 1 ≤ zs.length) : decM zs = .error 10 := by
  unfold decM openM
  rw [if_neg hl]
theorem good_g1 (hl : 1 ≤ zs.length) (hz : 0 ≤ zs.getD 0 0) (h : zs.getD 0 0 < 64) (hk : zs.getD 0 0 % 8 = 1) : Good zs ⟨3 + zs.getD 0 0 / 8, 0, mO zs 1 false, onReg (mN zs 1), false, 0⟩ false (mP zs 1 false) (mS zs 1 false) false := by
  obtain ⟨k, hk2⟩ := Int.eq_ofNat_of_zero_le (show 0 ≤ zs.getD 0 0 / 8 by omega)
  have h8 : k < 8 := by omega
  have ho : openM zs = some (8 * (k : Int) + 1, 1) := open1 hl (by omega) (by omega)
  rw [hk2]
  cases hs : mS zs 1 false
  · have hm := m_ok hs
    have hR := m_RM hs
    refine good_yes (is_plain (opd_eight_r (by omega) (rm_tells hR.1) (isReg_reg (mN_b zs 1)))) ?_
    exact dec_g1 k h8 ho (by decide) hm.1 hm.2
  · exact good_short (dec_m_short ho (rows_g1 k h8) (.inl rfl) hs (fun _ => by rw [op_eight _ _ k h8 (by rw [if_pos rfl]; omega)]; omega))
theorem good_g3 (hl : 1 ≤ zs.length) (hz : 0 ≤ zs.getD 0 0) (h : zs.getD 0 0 < 64) (hk : zs.getD 0 0 % 8 = 3) : Good zs ⟨3 + zs.getD 0 0 / 8, 0, onReg (mN zs 1), mO zs 1 false, false, 0⟩ false (mP zs 1 false) (mS zs 1 false) false := by
  obtain ⟨k, hk2⟩ := Int.eq_ofNat_of_zero_le (show 0 ≤ zs.getD 0 0 / 8 by omega)
  have h8 : k < 8 := by omega
  have ho : openM zs = some (8 * (k : Int) + 3, 1) := open1 hl (by omega) (by omega)
  rw [hk2]
  cases hs : mS zs 1 false
  · have hm := m_ok hs
    have hR := m_RM hs
    refine good_yes (is_plain (opd_eight_rm (by omega) (mN_b zs 1) hR.1)) ?_
    exact dec_g3 k h8 ho (by decide) hm.1 hm.2
  · exact good_short (dec_m_short ho (rows_g3 k h8) (.inr ⟨rfl, rfl⟩) hs (fun _ => by rw [op_eight _ _ k h8 (by rw [if_pos rfl]; omega)]; omega))
theorem good_g5 (hl : 1 ≤ zs.length) (hz : 0 ≤ zs.getD 0 0) (h : zs.getD 0 0 < 64) (hk : zs.getD 0 0 % 8 = 5) : Good zs ⟨3 + zs.getD 0 0 / 8, 0, onReg 0, onImm (le4 zs 1), false, 0⟩ false (nx zs 1 4) (so zs 1 4 false) false := by
  obtain ⟨k, hk2⟩ := Int.eq_ofNat_of_zero_le (show 0 ≤ zs.getD 0 0 / 8 by omega)
  have h8 : k < 8 := by omega
  have ho : openM zs = some (8 * (k : Int) + 5, 1) := open1 hl (by omega) (by omega)
  rw [hk2]
  refine good_read (fun h => dec_flat_sB ho (rows_g5 k h8) (by dsimp only; decide) (op_eight _ _ k h8 (by rw [if_pos rfl]; omega)) (by omega) (by omega) (oper1 _ _ _ _) ((oper9 _ _ _ _).trans (if_neg h))) (fun h => good_yes (is_plain (opd_eight_i (by omega) (rm_reg (isReg_reg (by decide))) (isReg_imm _) (isImm_imm _))) ?_)
  exact dec_g5 k h8 ho (by decide) h
theorem rows_r0 : ∀ n : Nat, n < 8 → rowsOf (64 + (n : Int)) = [⟨65528, 64, 12, 4, 0⟩] := of_decide_eq_true (by kernel_rfl)
theorem good_r0 (hl : 1 ≤ zs.length) (h : 64 ≤ zs.getD 0 0 ∧ zs.getD 0 0 < 72) : Good zs ⟨12, 0, onReg (zs.getD 0 0 % 8), onZ, false, 0⟩ false 1 false false := by
  obtain ⟨n, hn⟩ := Int.eq_ofNat_of_zero_le (show 0 ≤ zs.getD 0 0 - 64 by omega)
  have hr : rowsOf (zs.getD 0 0) = [⟨65528, 64, 12, 4, 0⟩] := by rw [show zs.getD 0 0 = 64 + (n : Int) by omega]; exact rows_r0 n (by omega)
  have ho : openM zs = some (zs.getD 0 0, 1) := open1 hl rfl (by omega)
  have hc : (zs.getD 0 0 / 256 == 243) = false := by rw [show zs.getD 0 0 / 256 = 0 by omega]; rfl
  have h8 : 0 ≤ zs.getD 0 0 % 8 ∧ zs.getD 0 0 % 8 < 8 := by omega
  refine good_yes (is_plain (opd_one12 (rm_reg (isReg_reg h8)) none_z)) ?_
  rw [dec_flatp ho hr (by decide) (op := 12) rfl (by decide) (by decide) (by decide) hc (oper4 _ _ _ _) (oper0 _ _ _ _)]
  exact isOr_ok (isB_sets (SA := [2, 6]) (SB := [1]) (by kernel_rfl) (mem_reg h8) mem_z rfl rfl ⟨by omega, by omega⟩)
theorem rows_r1 : ∀ n : Nat, n < 8 → rowsOf (72 + (n : Int)) = [⟨65528, 72, 13, 4, 0⟩] := of_decide_eq_true (by kernel_rfl)
theorem good_r1 (hl : 1 ≤ zs.length) (h : 72 ≤ zs.getD 0 0 ∧ zs.getD 0 0 < 80) : Good zs ⟨13, 0, onReg (zs.getD 0 0 % 8), onZ, false, 0⟩ false 1 false false := by
  obtain ⟨n, hn⟩ := Int.eq_ofNat_of_zero_le (show 0 ≤ zs.getD 0 0 - 72 by omega)
  have hr : rowsOf (zs.getD 0 0) = [⟨65528, 72, 13, 4, 0⟩] := by rw [show zs.getD 0 0 = 72 + (n : Int) by omega]; exact rows_r1 n (by omega)
  have ho : openM zs = some (zs.getD 0 0, 1) := open1 hl rfl (by omega)
  have hc : (zs.getD 0 0 / 256 == 243) = false := by rw [show zs.getD 0 0 / 256 = 0 by omega]; rfl
  have h8 : 0 ≤ zs.getD 0 0 % 8 ∧ zs.getD 0 0 % 8 < 8 := by omega
  refine good_yes (is_plain (opd_one13 (rm_reg (isReg_reg h8)) none_z)) ?_
  rw [dec_flatp ho hr (by decide) (op := 13) rfl (by decide) (by decide) (by decide) hc (oper4 _ _ _ _) (oper0 _ _ _ _)]
  exact isOr_ok (isB_sets (SA := [2, 6]) (SB := [1]) (by kernel_rfl) (mem_reg h8) mem_z rfl rfl ⟨by omega, by omega⟩)
theorem rows_r2 : ∀ n : Nat, n < 8 → rowsOf (80 + (n : Int)) = [⟨65528, 80, 28, 4, 0⟩] := of_decide_eq_true (by kernel_rfl)
theorem good_r2 (hl : 1 ≤ zs.length) (h : 80 ≤ zs.getD 0 0 ∧ zs.getD 0 0 < 88) : Good zs ⟨28, 0, onReg (zs.getD 0 0 % 8), onZ, false, 0⟩ false 1 false false := by
  obtain ⟨n, hn⟩ := Int.eq_ofNat_of_zero_le (show 0 ≤ zs.getD 0 0 - 80 by omega)
  have hr : rowsOf (zs.getD 0 0) = [⟨65528, 80, 28, 4, 0⟩] := by rw [show zs.getD 0 0 = 80 + (n : Int) by omega]; exact rows_r2 n (by omega)
  have ho : openM zs = some (zs.getD 0 0, 1) := open1 hl rfl (by omega)
  have hc : (zs.getD 0 0 / 256 == 243) = false := by rw [show zs.getD 0 0 / 256 = 0 by omega]; rfl
  have h8 : 0 ≤ zs.getD 0 0 % 8 ∧ zs.getD 0 0 % 8 < 8 := by omega
  refine good_yes (is_plain (opd_one28 (rm_reg (isReg_reg h8)) none_z)) ?_
  rw [dec_flatp ho hr (by decide) (op := 28) rfl (by decide) (by decide) (by decide) hc (oper4 _ _ _ _) (oper0 _ _ _ _)]
  exact isOr_ok (isB_sets (SA := [2, 6]) (SB := [1]) (by kernel_rfl) (mem_reg h8) mem_z rfl rfl ⟨by omega, by omega⟩)
theorem rows_r3 : ∀ n : Nat, n < 8 → rowsOf (88 + (n : Int)) = [⟨65528, 88, 29, 4, 0⟩] := of_decide_eq_true (by kernel_rfl)
theorem good_r3 (hl : 1 ≤ zs.length) (h : 88 ≤ zs.getD 0 0 ∧ zs.getD 0 0 < 96) : Good zs ⟨29, 0, onReg (zs.getD 0 0 % 8), onZ, false, 0⟩ false 1 false false := by
  obtain ⟨n, hn⟩ := Int.eq_ofNat_of_zero_le (show 0 ≤ zs.getD 0 0 - 88 by omega)
  have hr : rowsOf (zs.getD 0 0) = [⟨65528, 88, 29, 4, 0⟩] := by rw [show zs.getD 0 0 = 88 + (n : Int) by omega]; exact rows_r3 n (by omega)
  have ho : openM zs = some (zs.getD 0 0, 1) := open1 hl rfl (by omega)
  have hc : (zs.getD 0 0 / 256 == 243) = false := by rw [show zs.getD 0 0 / 256 = 0 by omega]; rfl
  have h8 : 0 ≤ zs.getD 0 0 % 8 ∧ zs.getD 0 0 % 8 < 8 := by omega
  refine good_yes (is_plain (opd_pop (isReg_reg h8) none_z)) ?_
  rw [dec_flatp ho hr (by decide) (op := 29) rfl (by decide) (by decide) (by decide) hc (oper4 _ _ _ _) (oper0 _ _ _ _)]
  exact isOr_ok (isB_sets (SA := [2, 6]) (SB := [1]) (by kernel_rfl) (mem_reg h8) mem_z rfl rfl ⟨by omega, by omega⟩)
theorem rows_jcc8 : ∀ n : Nat, n < 16 → rowsOf (112 + (n : Int)) = [⟨65520, 112, 33, 8, 0⟩] := of_decide_eq_true (by kernel_rfl)
theorem good_jcc8 (hl : 1 ≤ zs.length) (h : 112 ≤ zs.getD 0 0 ∧ zs.getD 0 0 < 128) : Good zs ⟨33, zs.getD 0 0 % 16, onImm (sx (zs.getD 1 0)), onZ, false, 0⟩ false (nx zs 1 1) (so zs 1 1 false) false := by
  obtain ⟨n, hn⟩ := Int.eq_ofNat_of_zero_le (show 0 ≤ zs.getD 0 0 - 112 by omega)
  have hr : rowsOf (zs.getD 0 0) = [⟨65520, 112, 33, 8, 0⟩] := by rw [show zs.getD 0 0 = 112 + (n : Int) by omega]; exact rows_jcc8 n (by omega)
  have ho : openM zs = some (zs.getD 0 0, 1) := open1 hl rfl (by omega)
  have hc : (zs.getD 0 0 / 256 == 243) = false := by rw [show zs.getD 0 0 / 256 = 0 by omega]; rfl
  have h16 : 0 ≤ zs.getD 0 0 % 16 ∧ zs.getD 0 0 % 16 ≤ 15 := by omega
  refine good_read (fun h => dec_flat_sA ho hr (by decide) (op := 33) rfl (by decide) (by decide) ((oper8 _ _ _ _).trans (if_neg h))) (fun h => good_yes (is_cond33 h16 (opd_jcc (isImm_imm _) none_z)) ?_)
  rw [dec_flatc ho hr (by decide) (op := 33) rfl (by decide) (by decide) rfl hc ((oper8 _ _ _ _).trans (if_pos h)) (oper0 _ _ _ _)]
  exact isOr_ok (isB_sets (SA := [16, 48, 112]) (SB := [1]) (by kernel_rfl) (mem_imm _) mem_z rfl (knows_c rfl h16) ⟨by omega, by omega⟩)
theorem rows_movb : ∀ n : Nat, n < 8 → rowsOf (176 + (n : Int)) = [⟨65528, 176, 2, 4, 7⟩] := of_decide_eq_true (by kernel_rfl)
theorem good_movb (hz : ∀ z ∈ zs, 0 ≤ z ∧ z ≤ 255) (hl : 1 ≤ zs.length) (h : 176 ≤ zs.getD 0 0 ∧ zs.getD 0 0 < 184) : Good zs ⟨2, 0, onReg (zs.getD 0 0 % 8), onImm (zs.getD 1 0), false, 0⟩ false (nx zs 1 1) (so zs 1 1 false) false := by
  obtain ⟨n, hn⟩ := Int.eq_ofNat_of_zero_le (show 0 ≤ zs.getD 0 0 - 176 by omega)
  have hr : rowsOf (zs.getD 0 0) = [⟨65528, 176, 2, 4, 7⟩] := by rw [show zs.getD 0 0 = 176 + (n : Int) by omega]; exact rows_movb n (by omega)
  have ho : openM zs = some (zs.getD 0 0, 1) := open1 hl rfl (by omega)
  have hc : (zs.getD 0 0 / 256 == 243) = false := by rw [show zs.getD 0 0 / 256 = 0 by omega]; rfl
  have h8 : 0 ≤ zs.getD 0 0 % 8 ∧ zs.getD 0 0 % 8 < 8 := by omega
  refine good_read (fun h => dec_flat_sB ho hr (by decide) (op := 2) rfl (by decide) (by decide) (oper4 _ _ _ _) ((oper7 _ _ _ _).trans (if_neg h))) (fun h => good_yes (is_plain (opd_movb_i (rm_reg (isReg_reg h8)) (isReg_imm _) (byte_imm (by have := getD_bd hz 1; omega)))) ?_)
  rw [dec_flatp ho hr (by decide) (op := 2) rfl (by decide) (by decide) (by decide) hc (oper4 _ _ _ _) ((oper7 _ _ _ _).trans (if_pos h))]
  exact isOr_ok (isB_sets (SA := [2, 6]) (SB := [48, 112]) (by kernel_rfl) (mem_reg h8) (mem_imm8 (by have := getD_bd hz 1; omega)) rfl rfl ⟨by omega, by omega⟩)
theorem rows_movw : ∀ n : Nat, n < 8 → rowsOf (184 + (n : Int)) = [⟨65528, 184, 1, 4, 9⟩] := of_decide_eq_true (by kernel_rfl)
theorem good_movw (hl : 1 ≤ zs.length) (h : 184 ≤ zs.getD 0 0 ∧ zs.getD 0 0 < 192) : Good zs ⟨1, 0, onReg (zs.getD 0 0 % 8), onImm (le4 zs 1), false, 0⟩ false (nx zs 1 4) (so zs 1 4 false) false := by
  obtain ⟨n, hn⟩ := Int.eq_ofNat_of_zero_le (show 0 ≤ zs.getD 0 0 - 184 by omega)
  have hr : rowsOf (zs.getD 0 0) = [⟨65528, 184, 1, 4, 9⟩] := by rw [show zs.getD 0 0 = 184 + (n : Int) by omega]; exact rows_movw n (by omega)
  have ho : openM zs = some (zs.getD 0 0, 1) := open1 hl rfl (by omega)
  have hc : (zs.getD 0 0 / 256 == 243) = false := by rw [show zs.getD 0 0 / 256 = 0 by omega]; rfl
  have h8 : 0 ≤ zs.getD 0 0 % 8 ∧ zs.getD 0 0 % 8 < 8 := by omega
  refine good_read (fun h => dec_flat_sB ho hr (by decide) (op := 1) rfl (by decide) (by decide) (oper4 _ _ _ _) ((oper9 _ _ _ _).trans (if_neg h))) (fun h => good_yes (is_plain (opd_mov_i (rm_reg (isReg_reg h8)) (isReg_imm _) (isImm_imm _))) ?_)
  rw [dec_flatp ho hr (by decide) (op := 1) rfl (by decide) (by decide) (by decide) hc (oper4 _ _ _ _) ((oper9 _ _ _ _).trans (if_pos h))]
  exact isOr_ok (isB_sets (SA := [2, 6]) (SB := [16, 48, 112]) (by kernel_rfl) (mem_reg h8) (mem_imm _) rfl rfl ⟨by omega, by omega⟩)
/- REP. -/
theorem good_f3a (hc : zs.getD 0 0 = 243) (h : zs.getD 1 0 = 165) : Good zs ⟨41, 0, onZ, onZ, true, 0⟩ false (nx zs 1 1) (so zs 1 1 false) false := by
  refine good_read (fun hl => dec_open2s hl hc (by decide)) (fun hl => good_yes (is_rep41 (opd_z41 none_z none_z)) ?_)
  have ho : openM zs = some (62373, 2) := open2 hl hc (by decide) (by omega)
  rw [dec_flatr ho (r := ⟨65535, 62373, 41, 0, 0⟩) (by kernel_rfl) (by decide) (op := 41) rfl (by decide) (by decide) (by decide) (by decide) (oper0 _ _ _ _) (oper0 _ _ _ _)]
  exact isOr_ok (by kernel_rfl)
theorem good_f3b (hc : zs.getD 0 0 = 243) (h : zs.getD 1 0 = 171) : Good zs ⟨42, 0, onZ, onZ, true, 0⟩ false (nx zs 1 1) (so zs 1 1 false) false := by
  refine good_read (fun hl => dec_open2s hl hc (by decide)) (fun hl => good_yes (is_rep42 (opd_z42 none_z none_z)) ?_)
  have ho : openM zs = some (62379, 2) := open2 hl hc (by decide) (by omega)
  rw [dec_flatr ho (r := ⟨65535, 62379, 42, 0, 0⟩) (by kernel_rfl) (by decide) (op := 42) rfl (by decide) (by decide) (by decide) (by decide) (oper0 _ _ _ _) (oper0 _ _ _ _)]
  exact isOr_ok (by kernel_rfl)
theorem rows_f3 : ∀ n : Nat, n < 256 → ¬ n = 165 → ¬ n = 171 → rowsOf (62208 + (n : Int)) = [] := of_decide_eq_true (by kernel_rfl)
theorem good_f3n (hz : ∀ z ∈ zs, 0 ≤ z ∧ z ≤ 255) (hc : zs.getD 0 0 = 243) (h : ¬ zs.getD 1 0 = 165 ∧ ¬ zs.getD 1 0 = 171) : Good zs inZ false (nx zs 1 1) (so zs 1 1 false) false := by
  refine good_read (fun hl => dec_open2s hl hc (by decide)) (fun hl => good_ok (k := false) (is_plain opd_no) ?_)
  have hb := getD_bd hz 1
  obtain ⟨n, hn⟩ := Int.eq_ofNat_of_zero_le hb.1
  have ho : openM zs = some (62208 + (n : Int), 2) := open2 hl hc (by decide) (by omega)
  rw [dec_none ho (rows_f3 n (by omega) (by omega) (by omega))]
  rfl
/- Codes behind 0F. -/
theorem open0f (hl : 2 ≤ zs.length) (hc : zs.getD 0 0 = 15) : openM zs = some (3840 + zs.getD 1 0, 2) := open2 hl hc (.inl rfl) (by omega)
theorem good_ud (hl : 2 ≤ zs.length) (hc : zs.getD 0 0 = 15) (h : zs.getD 1 0 = 11) : decM zs = .error 90 := by
  have ho := open0f hl hc
  rw [h] at ho
  rw [dec_pln ho rows_ud (by decide), rest_bad (by decide)]
theorem rows_jcc32 : ∀ n : Nat, n < 16 → rowsOf (3968 + (n : Int)) = [⟨65520, 3968, 33, 9, 0⟩] := of_decide_eq_true (by kernel_rfl)
theorem row_jcc32 (h : zs.getD 1 0 / 16 = 8) : rowsOf (3840 + zs.getD 1 0) = [⟨65520, 3968, 33, 9, 0⟩] := by
  obtain ⟨n, hn⟩ := Int.eq_ofNat_of_zero_le (show 0 ≤ zs.getD 1 0 - 128 by omega)
  rw [show 3840 + zs.getD 1 0 = 3968 + (n : Int) by omega]
  exact rows_jcc32 n (by omega)
theorem good_jcc32 (hl : 2 ≤ zs.length) (hc : zs.getD 0 0 = 15) (h : zs.getD 1 0 / 16 = 8) : Good zs ⟨33, zs.getD 1 0 % 16, onImm (le4 zs 2), onZ, false, 0⟩ false (nx zs 2 4) (so zs 2 4 false) false := by
  have ho := open0f hl hc
  have hr := row_jcc32 h
  have h16 : 0 ≤ zs.getD 1 0 % 16 ∧ zs.getD 1 0 % 16 ≤ 15 := by omega
  have hm16 : (3840 + zs.getD 1 0) % 16 = zs.getD 1 0 % 16 := by omega
  have h256 : ((3840 + zs.getD 1 0) / 256 == 243) = false := by rw [show (3840 + zs.getD 1 0) / 256 = 15 by omega]; rfl
  refine good_read (fun h => dec_flat_sA ho hr (by decide) (op := 33) rfl (by decide) (by decide) ((oper9 _ _ _ _).trans (if_neg h))) (fun h => good_yes (is_cond33 h16 (opd_jcc (isImm_imm _) none_z)) ?_)
  rw [dec_flatc ho hr (by decide) (op := 33) rfl (by decide) (by decide) rfl h256 ((oper9 _ _ _ _).trans (if_pos h)) (oper0 _ _ _ _), hm16]
  exact isOr_ok (isB_sets (SA := [16, 48, 112]) (SB := [1]) (by kernel_rfl) (mem_imm _) mem_z rfl (knows_c rfl h16) ⟨by omega, by omega⟩)
theorem rows_cmov : ∀ n : Nat, n < 16 → rowsOf (3904 + (n : Int)) = [⟨65520, 3904, 35, 5, 6⟩] := of_decide_eq_true (by kernel_rfl)
theorem row_cmov (h : zs.getD 1 0 / 16 = 4) : rowsOf (3840 + zs.getD 1 0) = [⟨65520, 3904, 35, 5, 6⟩] := by
  obtain ⟨n, hn⟩ := Int.eq_ofNat_of_zero_le (show 0 ≤ zs.getD 1 0 - 64 by omega)
  rw [show 3840 + zs.getD 1 0 = 3904 + (n : Int) by omega]
  exact rows_cmov n (by omega)
theorem good_cmov (hl : 2 ≤ zs.length) (hc : zs.getD 0 0 = 15) (h : zs.getD 1 0 / 16 = 4) (hs : mS zs 2 false = false) : Good zs ⟨35, zs.getD 1 0 % 16, onReg (mN zs 2), mO zs 2 false, false, 0⟩ false (mP zs 2 false) false false := by
  have ho := open0f hl hc
  have hr := row_cmov h
  have h16 : 0 ≤ zs.getD 1 0 % 16 ∧ zs.getD 1 0 % 16 ≤ 15 := by omega
  have hm16 : (3840 + zs.getD 1 0) % 16 = zs.getD 1 0 % 16 := by omega
  have h256 : ((3840 + zs.getD 1 0) / 256 == 243) = false := by rw [show (3840 + zs.getD 1 0) / 256 = 15 by omega]; rfl
  have hR := m_RM hs
  have hq := hR.2.2
  refine good_yes (is_cond35 h16 (opd_two35 (isReg_reg (mN_b zs 2)) (rm_tells hR.1))) ?_
  rw [dec_m5c ho hr rfl rfl hs (op := 35) rfl (by decide) (by decide) rfl h256, hm16]
  exact isOr_ok (isB_sets (SA := [2, 6]) (SB := [2, 6, 8]) (by kernel_rfl) (mem_reg (mN_b zs 2)) (mem_RM hR.1) rfl (knows_c rfl h16) ⟨by omega, by omega⟩)
theorem short_cmov (hl : 2 ≤ zs.length) (hc : zs.getD 0 0 = 15) (h : zs.getD 1 0 / 16 = 4) (hs : mS zs 2 false = true) : decM zs = .error 10 :=
  dec_m_short (open0f hl hc) (row_cmov h) (.inr ⟨rfl, rfl⟩) hs (fun _ => by rw [show opM (3840 + zs.getD 1 0) (zs.getD 2 0) ⟨65520, 3904, 35, 5, 6⟩ = 35 from rfl]; decide)
theorem good_0faf (hl : 2 ≤ zs.length) (hc : zs.getD 0 0 = 15) (h : zs.getD 1 0 = 175) (hs : mS zs 2 false = false) : Good zs ⟨18, 0, onReg (mN zs 2), mO zs 2 false, false, 0⟩ false (mP zs 2 false) false false := by
  have ho := open0f hl hc
  rw [h] at ho
  have hR := m_RM hs
  have hq := hR.2.2
  refine good_yes (is_plain (opd_two18 (isReg_reg (mN_b zs 2)) (rm_tells hR.1))) ?_
  rw [dec_m5 ho (r := ⟨65535, 4015, 18, 5, 6⟩) (by kernel_rfl) rfl rfl hs (op := 18) rfl (by decide) (by decide) (by decide) (by decide)]
  exact isOr_ok (isB_sets (SA := [2, 6]) (SB := [2, 6, 8]) (by kernel_rfl) (mem_reg (mN_b zs 2)) (mem_RM hR.1) rfl rfl ⟨by omega, by omega⟩)
theorem short_0faf (hl : 2 ≤ zs.length) (hc : zs.getD 0 0 = 15) (h : zs.getD 1 0 = 175) (hs : mS zs 2 false = true) : decM zs = .error 10 := by
  have ho := open0f hl hc
  rw [h] at ho
  exact dec_m_short ho (r := ⟨65535, 4015, 18, 5, 6⟩) (by kernel_rfl) (.inr ⟨rfl, rfl⟩) hs (fun _ => by rw [show opM (3840 + 175) (zs.getD 2 0) ⟨65535, 4015, 18, 5, 6⟩ = 18 from rfl]; decide)
theorem good_0fb6 (hl : 2 ≤ zs.length) (hc : zs.getD 0 0 = 15) (h : zs.getD 1 0 = 182) (hs : mS zs 2 false = false) : Good zs ⟨36, 0, onReg (mN zs 2), mO zs 2 false, false, 0⟩ false (mP zs 2 false) false false := by
  have ho := open0f hl hc
  rw [h] at ho
  have hR := m_RM hs
  have hq := hR.2.2
  refine good_yes (is_plain (opd_two36 (isReg_reg (mN_b zs 2)) (rm_tells hR.1))) ?_
  rw [dec_m5 ho (r := ⟨65535, 4022, 36, 5, 6⟩) (by kernel_rfl) rfl rfl hs (op := 36) rfl (by decide) (by decide) (by decide) (by decide)]
  exact isOr_ok (isB_sets (SA := [2, 6]) (SB := [2, 6, 8]) (by kernel_rfl) (mem_reg (mN_b zs 2)) (mem_RM hR.1) rfl rfl ⟨by omega, by omega⟩)
theorem short_0fb6 (hl : 2 ≤ zs.length) (hc : zs.getD 0 0 = 15) (h : zs.getD 1 0 = 182) (hs : mS zs 2 false = true) : decM zs = .error 10 := by
  have ho := open0f hl hc
  rw [h] at ho
  exact dec_m_short ho (r := ⟨65535, 4022, 36, 5, 6⟩) (by kernel_rfl) (.inr ⟨rfl, rfl⟩) hs (fun _ => by rw [show opM (3840 + 182) (zs.getD 2 0) ⟨65535, 4022, 36, 5, 6⟩ = 36 from rfl]; decide)
theorem good_0fbe (hl : 2 ≤ zs.length) (hc : zs.getD 0 0 = 15) (h : zs.getD 1 0 = 190) (hs : mS zs 2 false = false) : Good zs ⟨37, 0, onReg (mN zs 2), mO zs 2 false, false, 0⟩ false (mP zs 2 false) false false := by
  have ho := open0f hl hc
  rw [h] at ho
  have hR := m_RM hs
  have hq := hR.2.2
  refine good_yes (is_plain (opd_two37 (isReg_reg (mN_b zs 2)) (rm_tells hR.1))) ?_
  rw [dec_m5 ho (r := ⟨65535, 4030, 37, 5, 6⟩) (by kernel_rfl) rfl rfl hs (op := 37) rfl (by decide) (by decide) (by decide) (by decide)]
  exact isOr_ok (isB_sets (SA := [2, 6]) (SB := [2, 6, 8]) (by kernel_rfl) (mem_reg (mN_b zs 2)) (mem_RM hR.1) rfl rfl ⟨by omega, by omega⟩)
theorem short_0fbe (hl : 2 ≤ zs.length) (hc : zs.getD 0 0 = 15) (h : zs.getD 1 0 = 190) (hs : mS zs 2 false = true) : decM zs = .error 10 := by
  have ho := open0f hl hc
  rw [h] at ho
  exact dec_m_short ho (r := ⟨65535, 4030, 37, 5, 6⟩) (by kernel_rfl) (.inr ⟨rfl, rfl⟩) hs (fun _ => by rw [show opM (3840 + 190) (zs.getD 2 0) ⟨65535, 4030, 37, 5, 6⟩ = 37 from rfl]; decide)
theorem op_set (c : Int) (h : mN zs 2 = 0) : opM c (zs.getD 2 0) ⟨65520, 3984, 61, 6, 0⟩ = 34 := by rw [op_grp _ (by decide) (by decide), h]; rfl
theorem op_setn (c : Int) (h : ¬ mN zs 2 = 0) : opM c (zs.getD 2 0) ⟨65520, 3984, 61, 6, 0⟩ = 0 := by
  rw [op_grp _ (by decide) (by decide)]
  rcases nat_of (mN_b zs 2) with e | e | e | e | e | e | e | e
  · exact absurd e h
  all_goals rw [e]; rfl
theorem rows_set : ∀ n : Nat, n < 16 → rowsOf (3984 + (n : Int)) = [⟨65520, 3984, 61, 6, 0⟩] := of_decide_eq_true (by kernel_rfl)
theorem row_set (h : zs.getD 1 0 / 16 = 9) : rowsOf (3840 + zs.getD 1 0) = [⟨65520, 3984, 61, 6, 0⟩] := by
  obtain ⟨n, hn⟩ := Int.eq_ofNat_of_zero_le (show 0 ≤ zs.getD 1 0 - 144 by omega)
  rw [show 3840 + zs.getD 1 0 = 3984 + (n : Int) by omega]
  exact rows_set n (by omega)
theorem good_set (hl : 2 ≤ zs.length) (hc : zs.getD 0 0 = 15) (h : zs.getD 1 0 / 16 = 9) (hs : mS zs 2 false = false) {t : Bool} (ht : (mN zs 2 != 0) = t) : Good zs ⟨34, zs.getD 1 0 % 16, mO zs 2 false, onZ, false, 0⟩ t (mP zs 2 false) false false := by
  have ho := open0f hl hc
  have hr := row_set h
  have h16 : 0 ≤ zs.getD 1 0 % 16 ∧ zs.getD 1 0 % 16 ≤ 15 := by omega
  have hm16 : (3840 + zs.getD 1 0) % 16 = zs.getD 1 0 % 16 := by omega
  have h256 : ((3840 + zs.getD 1 0) / 256 == 243) = false := by rw [show (3840 + zs.getD 1 0) / 256 = 15 by omega]; rfl
  have hR := m_RM hs
  have hq := hR.2.2
  have hm := m_ok hs
  cases t
  · have hn : mN zs 2 = 0 := by simpa using ht
    refine good_yes (is_cond34 h16 (opd_one34 (rm_tells hR.1) none_z)) ?_
    rw [dec_m6c ho hr rfl hs (op_set _ hn) (by decide) (by decide) rfl h256 (oper0 _ _ _ _), hm16]
    exact isOr_ok (isB_sets (SA := [2, 6, 8]) (SB := [1]) (by kernel_rfl) (mem_RM hR.1) mem_z rfl (knows_c rfl h16) ⟨by omega, by omega⟩)
  · have hn : ¬ mN zs 2 = 0 := by simpa using ht
    exact good_other (dec_m_zero ho hr (.inl rfl) hm.1 (op_setn _ hn))
theorem zero_set (hl : 2 ≤ zs.length) (hc : zs.getD 0 0 = 15) (h : zs.getD 1 0 / 16 = 9) (hp : 3 ≤ zs.length) (hn : ¬ mN zs 2 = 0) : decM zs = .error 12 := dec_m_zero (open0f hl hc) (row_set h) (.inl rfl) hp (op_setn _ hn)
theorem short_set (hl : 2 ≤ zs.length) (hc : zs.getD 0 0 = 15) (h : zs.getD 1 0 / 16 = 9) (hs : mS zs 2 false = true) (hn : 3 ≤ zs.length → mN zs 2 = 0) : decM zs = .error 10 :=
  dec_m_short (open0f hl hc) (row_set h) (.inl rfl) hs (fun hp => by rw [op_set _ (hn hp)]; decide)
def no0f (n : Nat) : Bool := n != 11 && n / 16 != 8 && n / 16 != 4 && n / 16 != 9 && n != 175 && n != 182 && n != 190
theorem rows_0f : ∀ n : Nat, n < 256 → no0f n = true → rowsOf (3840 + (n : Int)) = [] := of_decide_eq_true (by kernel_rfl)
theorem none_0f (hz : ∀ z ∈ zs, 0 ≤ z ∧ z ≤ 255) (hl : 2 ≤ zs.length) (hc : zs.getD 0 0 = 15) (h : ¬ zs.getD 1 0 = 11 ∧ ¬ zs.getD 1 0 / 16 = 8 ∧ ¬ zs.getD 1 0 / 16 = 4 ∧ ¬ zs.getD 1 0 / 16 = 9 ∧ ¬ zs.getD 1 0 = 175 ∧ ¬ zs.getD 1 0 = 182 ∧ ¬ zs.getD 1 0 = 190) : decM zs = .error 12 := by
  have ho := open0f hl hc
  have hb := getD_bd hz 1
  obtain ⟨n, hn⟩ := Int.eq_ofNat_of_zero_le hb.1
  obtain ⟨h1, h2, h3, h4, h5, h6, h7⟩ := h
  rw [hn] at ho
  exact dec_none ho (rows_0f n (by omega) (by simp [no0f]; omega))
/- D9. -/
theorem rows_d9 : ∀ n : Nat, n < 256 → ¬ n = 224 → ¬ n = 225 → rowsOf (55552 + (n : Int)) = [] := of_decide_eq_true (by kernel_rfl)
theorem none_d9 (hz : ∀ z ∈ zs, 0 ≤ z ∧ z ≤ 255) (hl : 2 ≤ zs.length) (hc : zs.getD 0 0 = 217) (h : ¬ zs.getD 1 0 = 224 ∧ ¬ zs.getD 1 0 = 225) : decM zs = .error 12 := by
  have hb := getD_bd hz 1
  obtain ⟨n, hn⟩ := Int.eq_ofNat_of_zero_le hb.1
  exact dec_none (open2 hl hc (by decide) (show 217 * 256 + zs.getD 1 0 = 55552 + (n : Int) by omega)) (rows_d9 n (by omega) (by omega) (by omega))
theorem yes_d9e0 (hl : 2 ≤ zs.length) (hc : zs.getD 0 0 = 217) (h : zs.getD 1 0 = 224) : decM zs = .ok ⟨51, 0, onZ, onZ, false, 2⟩ := by
  have ho : openM zs = some (55776, 2) := open2 hl hc (by decide) (by omega)
  rw [dec_flatp ho (r := ⟨65535, 55776, 51, 0, 0⟩) (by kernel_rfl) (by decide) (op := 51) rfl (by decide) (by decide) (by decide) (by decide) (oper0 _ _ _ _) (oper0 _ _ _ _)]
  exact isOr_ok (by kernel_rfl)
theorem yes_d9e1 (hl : 2 ≤ zs.length) (hc : zs.getD 0 0 = 217) (h : zs.getD 1 0 = 225) : decM zs = .ok ⟨52, 0, onZ, onZ, false, 2⟩ := by
  have ho : openM zs = some (55777, 2) := open2 hl hc (by decide) (by omega)
  rw [dec_flatp ho (r := ⟨65535, 55777, 52, 0, 0⟩) (by kernel_rfl) (by decide) (op := 52) rfl (by decide) (by decide) (by decide) (by decide) (oper0 _ _ _ _) (oper0 _ _ _ _)]
  exact isOr_ok (by kernel_rfl)
/- Codes that are none. -/
def noB1 (n : Nat) : Bool := !(decide (n < 64) && (n % 8 == 1 || n % 8 == 3 || n % 8 == 5)) && !(decide (64 ≤ n) && decide (n < 96)) && !(decide (112 ≤ n) && decide (n < 128)) && !(decide (176 ≤ n) && decide (n < 192))
def plainL : List Nat := [104, 106, 144, 153, 165, 169, 171, 195, 232, 233, 235, 252, 253, 205, 243]
def modL : List Nat := [15, 129, 131, 133, 135, 136, 137, 138, 139, 141, 193, 198, 199, 209, 211, 217, 220, 221, 247, 255]
theorem rows_none : ∀ n : Nat, n < 256 → noB1 n = true → plainL.contains n = false → modL.contains n = false → rowsOf (n : Int) = [] := of_decide_eq_true (by kernel_rfl)
end
end Go.Proofs.YtlooobehlhgccaaDoor
namespace Go.Proofs.YtlooobehlhgccaaDoor
open Go.RowKit
set_option linter.unusedVariables false
set_option linter.unusedSimpArgs false
set_option linter.unusedSectionVars false

section
variable {N B : Nat} {a : Option Addr} {len cap : Nat} {zs : List Int}
abbrev ModD (N B : Nat) (a : Option Addr) (len cap : Nat) (zs : List Int) (c : Int) (i : In) (x : Bool) (q : Nat) (s b : Bool) : Prop :=
  ∀ W : World, Rs W N B a len cap zs 1 false false → Calls Tryd.prog 27 #[rp B, .int .u8 c] W fun e w' => e = .returned (.tuple #[inV i, .bool x]) ∧ Rs w' N B a len cap zs q s b ∧ But [B] W.heap.size W w'
abbrev InsD (N B : Nat) (a : Option Addr) (len cap : Nat) (zs : List Int) (i : In) (x : Bool) (q : Nat) (s b : Bool) : Prop :=
  ∀ W : World, Rs W N B a len cap zs 0 false false → Calls Tryd.prog 15 #[rp B] W fun e w' => e = .returned (.tuple #[inV i, .bool x]) ∧ Rs w' N B a len cap zs q s b ∧ But [B] W.heap.size W w'
theorem mod3 (hz : ∀ z ∈ zs, 0 ≤ z ∧ z ≤ 255) (hlen : zs.length = len) (hs : mS zs 1 false = true) (h2 : 2 ≤ len) : (zs.getD 1 0 / 64 == 3) = false := by
  have h := m_mod hs (by omega)
  have hb := getD_bd hz 1
  rw [beq_eq_false_iff_ne]
  omega
theorem mod_85 (hz : ∀ z ∈ zs, 0 ≤ z ∧ z ≤ 255) (hlen : zs.length = len) (h1 : 1 ≤ len) (hc : zs.getD 0 0 = 133) : ∃ i x q s b, ModD N B a len cap zs 133 i x q s b ∧ Good zs i x q s b := by
  have ho : openM zs = some (133, 1) := open1 (by omega) hc (by decide)
  cases hs : mS zs 1 false
  · exact ⟨_, _, _, _, _, fun W R => modded_85 R hs, good_85 ho hs⟩
  · by_cases h2 : 2 ≤ len
    · have h3 := mod3 hz hlen hs h2
      exact ⟨_, _, _, _, _, fun W R => modded_85_short R hs (fun W2 R2 => early_85 R2 h2 h3), good_short (short_85 ho hs)⟩
    · exact ⟨_, _, _, _, _, fun W R => modded_85_short R hs (fun W2 R2 => early_len R2 133 (by omega)), good_short (short_85 ho hs)⟩
theorem mod_87 (hz : ∀ z ∈ zs, 0 ≤ z ∧ z ≤ 255) (hlen : zs.length = len) (h1 : 1 ≤ len) (hc : zs.getD 0 0 = 135) : ∃ i x q s b, ModD N B a len cap zs 135 i x q s b ∧ Good zs i x q s b := by
  have ho : openM zs = some (135, 1) := open1 (by omega) hc (by decide)
  cases hs : mS zs 1 false
  · exact ⟨_, _, _, _, _, fun W R => modded_87 R hs, good_87 ho hs⟩
  · by_cases h2 : 2 ≤ len
    · have h3 := mod3 hz hlen hs h2
      exact ⟨_, _, _, _, _, fun W R => modded_87_short R hs (fun W2 R2 => early_87 R2 h2 h3), good_short (short_87 ho hs)⟩
    · exact ⟨_, _, _, _, _, fun W R => modded_87_short R hs (fun W2 R2 => early_len R2 135 (by omega)), good_short (short_87 ho hs)⟩
theorem mod_88 (hz : ∀ z ∈ zs, 0 ≤ z ∧ z ≤ 255) (hlen : zs.length = len) (h1 : 1 ≤ len) (hc : zs.getD 0 0 = 136) : ∃ i x q s b, ModD N B a len cap zs 136 i x q s b ∧ Good zs i x q s b := by
  have ho : openM zs = some (136, 1) := open1 (by omega) hc (by decide)
  cases hs : mS zs 1 false
  · exact ⟨_, _, _, _, _, fun W R => modded_88 R hs, good_88 ho hs⟩
  · by_cases h2 : 2 ≤ len
    · have h3 := mod3 hz hlen hs h2
      exact ⟨_, _, _, _, _, fun W R => modded_88_short R hs (fun W2 R2 => early_88 R2 h2 h3), good_short (short_88 ho hs)⟩
    · exact ⟨_, _, _, _, _, fun W R => modded_88_short R hs (fun W2 R2 => early_len R2 136 (by omega)), good_short (short_88 ho hs)⟩
theorem mod_89 (hz : ∀ z ∈ zs, 0 ≤ z ∧ z ≤ 255) (hlen : zs.length = len) (h1 : 1 ≤ len) (hc : zs.getD 0 0 = 137) : ∃ i x q s b, ModD N B a len cap zs 137 i x q s b ∧ Good zs i x q s b := by
  have ho : openM zs = some (137, 1) := open1 (by omega) hc (by decide)
  cases hs : mS zs 1 false
  · exact ⟨_, _, _, _, _, fun W R => modded_89 R hs, good_89 ho hs⟩
  · by_cases h2 : 2 ≤ len
    · have h3 := mod3 hz hlen hs h2
      exact ⟨_, _, _, _, _, fun W R => modded_89_short R hs (fun W2 R2 => early_89 R2 h2 h3), good_short (short_89 ho hs)⟩
    · exact ⟨_, _, _, _, _, fun W R => modded_89_short R hs (fun W2 R2 => early_len R2 137 (by omega)), good_short (short_89 ho hs)⟩
theorem mod_8a (hz : ∀ z ∈ zs, 0 ≤ z ∧ z ≤ 255) (hlen : zs.length = len) (h1 : 1 ≤ len) (hc : zs.getD 0 0 = 138) : ∃ i x q s b, ModD N B a len cap zs 138 i x q s b ∧ Good zs i x q s b := by
  have ho : openM zs = some (138, 1) := open1 (by omega) hc (by decide)
  cases hs : mS zs 1 false
  · exact ⟨_, _, _, _, _, fun W R => modded_8a R hs, good_8a ho hs⟩
  · by_cases h2 : 2 ≤ len
    · have h3 := mod3 hz hlen hs h2
      exact ⟨_, _, _, _, _, fun W R => modded_8a_short R hs (fun W2 R2 => early_8a R2 h2 h3), good_short (short_8a ho hs)⟩
    · exact ⟨_, _, _, _, _, fun W R => modded_8a_short R hs (fun W2 R2 => early_len R2 138 (by omega)), good_short (short_8a ho hs)⟩
theorem mod_8b (hz : ∀ z ∈ zs, 0 ≤ z ∧ z ≤ 255) (hlen : zs.length = len) (h1 : 1 ≤ len) (hc : zs.getD 0 0 = 139) : ∃ i x q s b, ModD N B a len cap zs 139 i x q s b ∧ Good zs i x q s b := by
  have ho : openM zs = some (139, 1) := open1 (by omega) hc (by decide)
  cases hs : mS zs 1 false
  · exact ⟨_, _, _, _, _, fun W R => modded_8b R hs, good_8b ho hs⟩
  · by_cases h2 : 2 ≤ len
    · have h3 := mod3 hz hlen hs h2
      exact ⟨_, _, _, _, _, fun W R => modded_8b_short R hs (fun W2 R2 => early_8b R2 h2 h3), good_short (short_8b ho hs)⟩
    · exact ⟨_, _, _, _, _, fun W R => modded_8b_short R hs (fun W2 R2 => early_len R2 139 (by omega)), good_short (short_8b ho hs)⟩
theorem mod_81 (hz : ∀ z ∈ zs, 0 ≤ z ∧ z ≤ 255) (hlen : zs.length = len) (h1 : 1 ≤ len) (hc : zs.getD 0 0 = 129) : ∃ i x q s b, ModD N B a len cap zs 129 i x q s b ∧ Good zs i x q s b := by
  have ho : openM zs = some (129, 1) := open1 (by omega) hc (by decide)
  cases hs : mS zs 1 false
  · exact ⟨_, _, _, _, _, fun W R => modded_81 R hs, good_81 ho hs⟩
  · by_cases h2 : 2 ≤ len
    · have h3 := mod3 hz hlen hs h2
      exact ⟨_, _, _, _, _, fun W R => modded_81_short R hs (fun W2 R2 => early_81 R2 h2 h3), good_short (short_81 ho hs)⟩
    · exact ⟨_, _, _, _, _, fun W R => modded_81_short R hs (fun W2 R2 => early_len R2 129 (by omega)), good_short (short_81 ho hs)⟩
theorem mod_83 (hz : ∀ z ∈ zs, 0 ≤ z ∧ z ≤ 255) (hlen : zs.length = len) (h1 : 1 ≤ len) (hc : zs.getD 0 0 = 131) : ∃ i x q s b, ModD N B a len cap zs 131 i x q s b ∧ Good zs i x q s b := by
  have ho : openM zs = some (131, 1) := open1 (by omega) hc (by decide)
  cases hs : mS zs 1 false
  · exact ⟨_, _, _, _, _, fun W R => modded_83 R hs, good_83 ho hs⟩
  · by_cases h2 : 2 ≤ len
    · have h3 := mod3 hz hlen hs h2
      exact ⟨_, _, _, _, _, fun W R => modded_83_short R hs (fun W2 R2 => early_83 R2 h2 h3), good_short (short_83 ho hs)⟩
    · exact ⟨_, _, _, _, _, fun W R => modded_83_short R hs (fun W2 R2 => early_len R2 131 (by omega)), good_short (short_83 ho hs)⟩
theorem mod_c1 (hz : ∀ z ∈ zs, 0 ≤ z ∧ z ≤ 255) (hlen : zs.length = len) (h1 : 1 ≤ len) (hc : zs.getD 0 0 = 193) : ∃ i x q s b, ModD N B a len cap zs 193 i x q s b ∧ Good zs i x q s b := by
  have ho : openM zs = some (193, 1) := open1 (by omega) hc (by decide)
  cases hs : mS zs 1 false
  · cases ht : (shN (mN zs 1) == 0)
    · exact ⟨_, _, _, _, _, fun W R => modded_c1 R hs ht, good_c1 hz ho hs ht⟩
    · exact ⟨_, _, _, _, _, fun W R => modded_c1_no R hs ht, good_other (zero_c1 ho (m_ok hs).1 ht)⟩
  · by_cases h2 : 2 ≤ len
    · have h3 := mod3 hz hlen hs h2
      cases ht : (shN (mN zs 1) == 0)
      · exact ⟨_, _, _, _, _, fun W R => modded_c1_short R hs (fun W2 R2 => early_c1 R2 h2 h3 ht), good_short (short_c1 ho hs (fun _ => ht))⟩
      · exact ⟨_, _, _, _, _, fun W R => modded_c1_short R hs (fun W2 R2 => early_c1 R2 h2 h3 ht), good_other (zero_c1 ho (by omega) ht)⟩
    · exact ⟨_, _, _, _, _, fun W R => modded_c1_short R hs (fun W2 R2 => early_len R2 193 (by omega)), good_short (short_c1 ho hs (fun h => absurd h (by omega)))⟩
theorem mod_d1 (hz : ∀ z ∈ zs, 0 ≤ z ∧ z ≤ 255) (hlen : zs.length = len) (h1 : 1 ≤ len) (hc : zs.getD 0 0 = 209) : ∃ i x q s b, ModD N B a len cap zs 209 i x q s b ∧ Good zs i x q s b := by
  have ho : openM zs = some (209, 1) := open1 (by omega) hc (by decide)
  cases hs : mS zs 1 false
  · cases ht : (shN (mN zs 1) == 0)
    · exact ⟨_, _, _, _, _, fun W R => modded_d1 R hs ht, good_d1 hz ho hs ht⟩
    · exact ⟨_, _, _, _, _, fun W R => modded_d1 R hs ht, good_other (zero_d1 ho (m_ok hs).1 ht)⟩
  · by_cases h2 : 2 ≤ len
    · have h3 := mod3 hz hlen hs h2
      cases ht : (shN (mN zs 1) == 0)
      · exact ⟨_, _, _, _, _, fun W R => modded_d1_short R hs (fun W2 R2 => early_d1 R2 h2 h3 ht), good_short (short_d1 ho hs (fun _ => ht))⟩
      · exact ⟨_, _, _, _, _, fun W R => modded_d1_short R hs (fun W2 R2 => early_d1 R2 h2 h3 ht), good_other (zero_d1 ho (by omega) ht)⟩
    · exact ⟨_, _, _, _, _, fun W R => modded_d1_short R hs (fun W2 R2 => early_len R2 209 (by omega)), good_short (short_d1 ho hs (fun h => absurd h (by omega)))⟩
theorem mod_d3 (hz : ∀ z ∈ zs, 0 ≤ z ∧ z ≤ 255) (hlen : zs.length = len) (h1 : 1 ≤ len) (hc : zs.getD 0 0 = 211) : ∃ i x q s b, ModD N B a len cap zs 211 i x q s b ∧ Good zs i x q s b := by
  have ho : openM zs = some (211, 1) := open1 (by omega) hc (by decide)
  cases hs : mS zs 1 false
  · cases ht : (shN (mN zs 1) == 0)
    · exact ⟨_, _, _, _, _, fun W R => modded_d3 R hs ht, good_d3 hz ho hs ht⟩
    · exact ⟨_, _, _, _, _, fun W R => modded_d3 R hs ht, good_other (zero_d3 ho (m_ok hs).1 ht)⟩
  · by_cases h2 : 2 ≤ len
    · have h3 := mod3 hz hlen hs h2
      cases ht : (shN (mN zs 1) == 0)
      · exact ⟨_, _, _, _, _, fun W R => modded_d3_short R hs (fun W2 R2 => early_d3 R2 h2 h3 ht), good_short (short_d3 ho hs (fun _ => ht))⟩
      · exact ⟨_, _, _, _, _, fun W R => modded_d3_short R hs (fun W2 R2 => early_d3 R2 h2 h3 ht), good_other (zero_d3 ho (by omega) ht)⟩
    · exact ⟨_, _, _, _, _, fun W R => modded_d3_short R hs (fun W2 R2 => early_len R2 211 (by omega)), good_short (short_d3 ho hs (fun h => absurd h (by omega)))⟩
theorem mod_c6 (hz : ∀ z ∈ zs, 0 ≤ z ∧ z ≤ 255) (hlen : zs.length = len) (h1 : 1 ≤ len) (hc : zs.getD 0 0 = 198) : ∃ i x q s b, ModD N B a len cap zs 198 i x q s b ∧ Good zs i x q s b := by
  have ho : openM zs = some (198, 1) := open1 (by omega) hc (by decide)
  cases hs : mS zs 1 false
  · by_cases hn : mN zs 1 = 0
    · exact ⟨_, _, _, _, _, fun W R => modded_c6_rest R hs (fun W2 R2 => by rw [hn]; exact rest_c6 R2 _), good_c6 hz ho hs hn⟩
    · exact ⟨_, _, _, _, _, fun W R => modded_c6_rest R hs (fun W2 R2 => rest_c6_bad R2 _ hn), good_bad (bad_c6 ho (m_ok hs).1 hn)⟩
  · by_cases h2 : 2 ≤ len
    · have h3 := mod3 hz hlen hs h2
      cases ht : (mN zs 1 != 0)
      · exact ⟨_, _, _, _, _, fun W R => modded_c6_short R hs (fun W2 R2 => early_c6 R2 h2 h3 ht), good_short (short_c6 ho hs (fun _ => by simpa using ht))⟩
      · exact ⟨_, _, _, _, _, fun W R => modded_c6_short R hs (fun W2 R2 => early_c6 R2 h2 h3 ht), good_bad (bad_c6 ho (by omega) (by simpa using ht))⟩
    · exact ⟨_, _, _, _, _, fun W R => modded_c6_short R hs (fun W2 R2 => early_len R2 198 (by omega)), good_short (short_c6 ho hs (fun h => absurd h (by omega)))⟩
theorem mod_c7 (hz : ∀ z ∈ zs, 0 ≤ z ∧ z ≤ 255) (hlen : zs.length = len) (h1 : 1 ≤ len) (hc : zs.getD 0 0 = 199) : ∃ i x q s b, ModD N B a len cap zs 199 i x q s b ∧ Good zs i x q s b := by
  have ho : openM zs = some (199, 1) := open1 (by omega) hc (by decide)
  cases hs : mS zs 1 false
  · by_cases hn : mN zs 1 = 0
    · exact ⟨_, _, _, _, _, fun W R => modded_c7_rest R hs (fun W2 R2 => by rw [hn]; exact rest_c7 R2 _), good_c7 hz ho hs hn⟩
    · exact ⟨_, _, _, _, _, fun W R => modded_c7_rest R hs (fun W2 R2 => rest_c7_bad R2 _ hn), good_bad (bad_c7 ho (m_ok hs).1 hn)⟩
  · by_cases h2 : 2 ≤ len
    · have h3 := mod3 hz hlen hs h2
      cases ht : (mN zs 1 != 0)
      · exact ⟨_, _, _, _, _, fun W R => modded_c7_short R hs (fun W2 R2 => early_c7 R2 h2 h3 ht), good_short (short_c7 ho hs (fun _ => by simpa using ht))⟩
      · exact ⟨_, _, _, _, _, fun W R => modded_c7_short R hs (fun W2 R2 => early_c7 R2 h2 h3 ht), good_bad (bad_c7 ho (by omega) (by simpa using ht))⟩
    · exact ⟨_, _, _, _, _, fun W R => modded_c7_short R hs (fun W2 R2 => early_len R2 199 (by omega)), good_short (short_c7 ho hs (fun h => absurd h (by omega)))⟩
theorem mod_8d (hz : ∀ z ∈ zs, 0 ≤ z ∧ z ≤ 255) (hlen : zs.length = len) (h1 : 1 ≤ len) (hc : zs.getD 0 0 = 141) : ∃ i x q s b, ModD N B a len cap zs 141 i x q s b ∧ Good zs i x q s b := by
  have ho : openM zs = some (141, 1) := open1 (by omega) hc (by decide)
  cases hs : mS zs 1 false
  · exact ⟨_, _, _, _, _, fun W R => modded_8d R hs rfl, good_8d ho hs rfl⟩
  · by_cases h2 : 2 ≤ len
    · have h3 := mod3 hz hlen hs h2
      exact ⟨_, _, _, _, _, fun W R => modded_8d_short R hs (fun W2 R2 => early_8d R2 h2 h3), good_short (short_8d ho hs)⟩
    · exact ⟨_, _, _, _, _, fun W R => modded_8d_short R hs (fun W2 R2 => early_len R2 141 (by omega)), good_short (short_8d ho hs)⟩
theorem mod_dc (hz : ∀ z ∈ zs, 0 ≤ z ∧ z ≤ 255) (hlen : zs.length = len) (h1 : 1 ≤ len) (hc : zs.getD 0 0 = 220) : ∃ i x q s b, ModD N B a len cap zs 220 i x q s b ∧ Good zs i x q s b := by
  have ho : openM zs = some (220, 1) := open1 (by omega) hc (by decide)
  cases hs : mS zs 1 false
  · exact ⟨_, _, _, _, _, fun W R => modded_dc_rest R hs (fun W2 R2 => rest_dc R2 _ (mN_b zs 1) rfl rfl), good_dc ho hs rfl rfl⟩
  · by_cases h2 : 2 ≤ len
    · have h3 := mod3 hz hlen hs h2
      cases ht : (nuN (mN zs 1) == 0)
      · exact ⟨_, _, _, _, _, fun W R => modded_dc_short R hs (fun W2 R2 => early_dc R2 h2 h3 ht), good_short (short_dc ho hs (fun _ => ht))⟩
      · exact ⟨_, _, _, _, _, fun W R => modded_dc_short R hs (fun W2 R2 => early_dc R2 h2 h3 ht), good_other (zero_dc ho (by omega) ht)⟩
    · exact ⟨_, _, _, _, _, fun W R => modded_dc_short R hs (fun W2 R2 => early_len R2 220 (by omega)), good_short (short_dc ho hs (fun h => absurd h (by omega)))⟩
theorem mod_dd (hz : ∀ z ∈ zs, 0 ≤ z ∧ z ≤ 255) (hlen : zs.length = len) (h1 : 1 ≤ len) (hc : zs.getD 0 0 = 221) : ∃ i x q s b, ModD N B a len cap zs 221 i x q s b ∧ Good zs i x q s b := by
  have ho : openM zs = some (221, 1) := open1 (by omega) hc (by decide)
  cases hs : mS zs 1 false
  · by_cases hn : mN zs 1 = 0
    · exact ⟨_, _, _, _, _, fun W R => modded_dd_rest R hs (fun W2 R2 => by rw [hn]; exact rest_dd_0 R2 _ rfl), good_dd0 ho hs hn rfl⟩
    by_cases hn3 : mN zs 1 = 3
    · exact ⟨_, _, _, _, _, fun W R => modded_dd_rest R hs (fun W2 R2 => by rw [hn3]; exact rest_dd_3 R2 _ rfl), good_dd3 ho hs hn3 rfl⟩
    exact ⟨_, _, _, _, _, fun W R => modded_dd_rest R hs (fun W2 R2 => rest_dd_no R2 _ hn hn3), good_other (zero_dd ho (m_ok hs).1 hn hn3)⟩
  · by_cases h2 : 2 ≤ len
    · have h3 := mod3 hz hlen hs h2
      cases ht : (mN zs 1 != 0)
      · exact ⟨_, _, _, _, _, fun W R => modded_dd_short R hs (fun W2 R2 => early_dd R2 h2 h3 ht (u := mN zs 1 != 3) rfl), good_short (short_dd ho hs (fun _ => .inl (by simpa using ht)))⟩
      cases hu : (mN zs 1 != 3)
      · exact ⟨_, _, _, _, _, fun W R => modded_dd_short R hs (fun W2 R2 => early_dd R2 h2 h3 ht hu), good_short (short_dd ho hs (fun _ => .inr (by simpa using hu)))⟩
      · exact ⟨_, _, _, _, _, fun W R => modded_dd_short R hs (fun W2 R2 => early_dd R2 h2 h3 ht hu), good_other (zero_dd ho (by omega) (by simpa using ht) (by simpa using hu))⟩
    · exact ⟨_, _, _, _, _, fun W R => modded_dd_short R hs (fun W2 R2 => early_len R2 221 (by omega)), good_short (short_dd ho hs (fun h => absurd h (by omega)))⟩
theorem mod_f7 (hz : ∀ z ∈ zs, 0 ≤ z ∧ z ≤ 255) (hlen : zs.length = len) (h1 : 1 ≤ len) (hc : zs.getD 0 0 = 247) : ∃ i x q s b, ModD N B a len cap zs 247 i x q s b ∧ Good zs i x q s b := by
  have ho : openM zs = some (247, 1) := open1 (by omega) hc (by decide)
  cases hs : mS zs 1 false
  · rcases nat_of (mN_b zs 1) with hn | hn | hn | hn | hn | hn | hn | hn
    · exact ⟨_, _, _, _, _, fun W R => modded_f7_rest R hs (fun W2 R2 => by rw [hn]; exact rest_f7_0 R2 _), good_f70 ho hs hn⟩
    · exact ⟨_, _, _, _, _, fun W R => modded_f7_rest R hs (fun W2 R2 => by rw [hn]; exact rest_f7_1 R2 _), good_other (zero_f7 ho (m_ok hs).1 hn)⟩
    · exact ⟨_, _, _, _, _, fun W R => modded_f7_rest R hs (fun W2 R2 => by rw [hn]; exact rest_f7_2 R2 _), good_f72 ho hs hn⟩
    · exact ⟨_, _, _, _, _, fun W R => modded_f7_rest R hs (fun W2 R2 => by rw [hn]; exact rest_f7_3 R2 _), good_f73 ho hs hn⟩
    · exact ⟨_, _, _, _, _, fun W R => modded_f7_rest R hs (fun W2 R2 => by rw [hn]; exact rest_f7_4 R2 _), good_f74 ho hs hn⟩
    · exact ⟨_, _, _, _, _, fun W R => modded_f7_rest R hs (fun W2 R2 => by rw [hn]; exact rest_f7_5 R2 _), good_f75 ho hs hn⟩
    · exact ⟨_, _, _, _, _, fun W R => modded_f7_rest R hs (fun W2 R2 => by rw [hn]; exact rest_f7_6 R2 _), good_f76 ho hs hn⟩
    · exact ⟨_, _, _, _, _, fun W R => modded_f7_rest R hs (fun W2 R2 => by rw [hn]; exact rest_f7_7 R2 _), good_f77 ho hs hn⟩
  · by_cases h2 : 2 ≤ len
    · have h3 := mod3 hz hlen hs h2
      cases ht : (mN zs 1 == 1)
      · exact ⟨_, _, _, _, _, fun W R => modded_f7_short R hs (fun W2 R2 => early_f7 R2 h2 h3 ht), good_short (short_f7 ho hs (fun _ => ne_of_false ht))⟩
      · exact ⟨_, _, _, _, _, fun W R => modded_f7_short R hs (fun W2 R2 => early_f7 R2 h2 h3 ht), good_other (zero_f7 ho (by omega) (eq_of_true ht))⟩
    · exact ⟨_, _, _, _, _, fun W R => modded_f7_short R hs (fun W2 R2 => early_len R2 247 (by omega)), good_short (short_f7 ho hs (fun h => absurd h (by omega)))⟩
theorem mod_ff (hz : ∀ z ∈ zs, 0 ≤ z ∧ z ≤ 255) (hlen : zs.length = len) (h1 : 1 ≤ len) (hc : zs.getD 0 0 = 255) : ∃ i x q s b, ModD N B a len cap zs 255 i x q s b ∧ Good zs i x q s b := by
  have ho : openM zs = some (255, 1) := open1 (by omega) hc (by decide)
  cases hs : mS zs 1 false
  · rcases nat_of (mN_b zs 1) with hn | hn | hn | hn | hn | hn | hn | hn
    · exact ⟨_, _, _, _, _, fun W R => modded_ff_rest R hs (fun W2 R2 => by rw [hn]; exact rest_ff_0 R2 _), good_ff0 ho hs hn⟩
    · exact ⟨_, _, _, _, _, fun W R => modded_ff_rest R hs (fun W2 R2 => by rw [hn]; exact rest_ff_1 R2 _), good_ff1 ho hs hn⟩
    · exact ⟨_, _, _, _, _, fun W R => modded_ff_rest R hs (fun W2 R2 => by rw [hn]; exact rest_ff_2 R2 _), good_ff2 ho hs hn⟩
    · exact ⟨_, _, _, _, _, fun W R => modded_ff_rest R hs (fun W2 R2 => by rw [hn]; exact rest_ff_3 R2 _), good_other (zero_ff ho (m_ok hs).1 (.inl hn))⟩
    · exact ⟨_, _, _, _, _, fun W R => modded_ff_rest R hs (fun W2 R2 => by rw [hn]; exact rest_ff_4 R2 _), good_ff4 ho hs hn⟩
    · exact ⟨_, _, _, _, _, fun W R => modded_ff_rest R hs (fun W2 R2 => by rw [hn]; exact rest_ff_5 R2 _), good_other (zero_ff ho (m_ok hs).1 (.inr hn))⟩
    · exact ⟨_, _, _, _, _, fun W R => modded_ff_rest R hs (fun W2 R2 => by rw [hn]; exact rest_ff_6 R2 _), good_ff6 ho hs hn⟩
    · exact ⟨_, _, _, _, _, fun W R => modded_ff_rest R hs (fun W2 R2 => by rw [hn]; exact rest_ff_7 R2 _), good_bad (bad_ff ho (m_ok hs).1 hn)⟩
  · by_cases h2 : 2 ≤ len
    · have h3 := mod3 hz hlen hs h2
      rcases nat_of (mN_b zs 1) with hn | hn | hn | hn | hn | hn | hn | hn
      · exact ⟨_, _, _, _, _, fun W R => modded_ff_short R hs (fun W2 R2 => early_ff R2 h2 h3 (t := false) (u := false) (v := false) (by rw [hn]; rfl) (by rw [hn]; rfl) (by rw [hn]; rfl)), good_short (short_ff ho hs (fun _ => by omega))⟩
      · exact ⟨_, _, _, _, _, fun W R => modded_ff_short R hs (fun W2 R2 => early_ff R2 h2 h3 (t := false) (u := false) (v := false) (by rw [hn]; rfl) (by rw [hn]; rfl) (by rw [hn]; rfl)), good_short (short_ff ho hs (fun _ => by omega))⟩
      · exact ⟨_, _, _, _, _, fun W R => modded_ff_short R hs (fun W2 R2 => early_ff R2 h2 h3 (t := false) (u := false) (v := false) (by rw [hn]; rfl) (by rw [hn]; rfl) (by rw [hn]; rfl)), good_short (short_ff ho hs (fun _ => by omega))⟩
      · exact ⟨_, _, _, _, _, fun W R => modded_ff_short R hs (fun W2 R2 => early_ff R2 h2 h3 (t := true) (u := false) (v := false) (by rw [hn]; rfl) (by rw [hn]; rfl) (by rw [hn]; rfl)), good_other (zero_ff ho (by omega) (.inl hn))⟩
      · exact ⟨_, _, _, _, _, fun W R => modded_ff_short R hs (fun W2 R2 => early_ff R2 h2 h3 (t := false) (u := false) (v := false) (by rw [hn]; rfl) (by rw [hn]; rfl) (by rw [hn]; rfl)), good_short (short_ff ho hs (fun _ => by omega))⟩
      · exact ⟨_, _, _, _, _, fun W R => modded_ff_short R hs (fun W2 R2 => early_ff R2 h2 h3 (t := false) (u := true) (v := false) (by rw [hn]; rfl) (by rw [hn]; rfl) (by rw [hn]; rfl)), good_other (zero_ff ho (by omega) (.inr hn))⟩
      · exact ⟨_, _, _, _, _, fun W R => modded_ff_short R hs (fun W2 R2 => early_ff R2 h2 h3 (t := false) (u := false) (v := false) (by rw [hn]; rfl) (by rw [hn]; rfl) (by rw [hn]; rfl)), good_short (short_ff ho hs (fun _ => by omega))⟩
      · exact ⟨_, _, _, _, _, fun W R => modded_ff_short R hs (fun W2 R2 => early_ff R2 h2 h3 (t := false) (u := false) (v := true) (by rw [hn]; rfl) (by rw [hn]; rfl) (by rw [hn]; rfl)), good_bad (bad_ff ho (by omega) hn)⟩
    · exact ⟨_, _, _, _, _, fun W R => modded_ff_short R hs (fun W2 R2 => early_len R2 255 (by omega)), good_short (short_ff ho hs (fun h => absurd h (by omega)))⟩
theorem mod_d9 (hz : ∀ z ∈ zs, 0 ≤ z ∧ z ≤ 255) (hlen : zs.length = len) (h1 : 1 ≤ len) (hc : zs.getD 0 0 = 217) : ∃ i x q s b, ModD N B a len cap zs 217 i x q s b ∧ Good zs i x q s b := by
  cases hs : mS zs 1 false
  · have hm := m_ok hs
    have hl2 : 2 ≤ zs.length := hm.1
    have hb := getD_bd hz 1
    by_cases h64 : zs.getD 1 0 / 64 % 4 = 3
    · have hp := hm.2
      unfold placeM at hp
      rw [if_pos h64] at hp
      obtain ⟨he, hq⟩ := Prod.mk.inj (Option.some.inj hp)
      have hN : mN zs 1 = zs.getD 1 0 / 8 % 8 := rfl
      by_cases h0 : zs.getD 1 0 % 8 = 0
      · have e0 : mO zs 1 false = onReg 0 := by rw [← he, h0]
        have f1 : ∀ W, (Op.equalIn 10000 26 (opV (mO zs 1 false)) (opV (onReg 0))).run Tryd.prog W = .ok true W := fun W => by rw [e0]; exact eq_reg (onReg 0) 0 W
        have f2 : ∀ W, (Op.equalIn 10000 26 (opV (mO zs 1 false)) (opV (onReg 1))).run Tryd.prog W = .ok false W := fun W => by rw [e0]; exact eq_reg (onReg 0) 1 W
        by_cases hn : mN zs 1 = 4
        · refine ⟨_, _, _, _, _, fun W R => modded_d9_rest R hs (fun W2 R2 => by rw [hn]; exact rest_d9_a R2 _ f1), good_yes (is_plain (opd_z51 none_z none_z)) ?_⟩
          rw [yes_d9e0 hl2 hc (by omega), ← hq]; rfl
        · exact ⟨_, _, _, _, _, fun W R => modded_d9_rest R hs (fun W2 R2 => rest_d9_d R2 _ f1 f2 hn), good_other (none_d9 hz hl2 hc (by omega))⟩
      · have f1 : ∀ W, (Op.equalIn 10000 26 (opV (mO zs 1 false)) (opV (onReg 0))).run Tryd.prog W = .ok false W := fun W => by
          rw [← he, eq_reg, show ((onReg (zs.getD 1 0 % 8)).r == 0) = false from by simpa [onReg] using h0]; rfl
        by_cases h1' : zs.getD 1 0 % 8 = 1
        · have f2 : ∀ W, (Op.equalIn 10000 26 (opV (mO zs 1 false)) (opV (onReg 1))).run Tryd.prog W = .ok true W := fun W => by rw [← he, h1']; exact eq_reg (onReg 1) 1 W
          cases hn : (mN zs 1 != 4)
          · have hn4 : mN zs 1 = 4 := by simpa using hn
            refine ⟨_, _, _, _, _, fun W R => modded_d9_rest R hs (fun W2 R2 => rest_d9_b R2 _ f1 f2 hn), good_yes (is_plain (opd_z52 none_z none_z)) ?_⟩
            rw [yes_d9e1 hl2 hc (by omega), ← hq]; rfl
          · have hn4 : ¬ mN zs 1 = 4 := by simpa using hn
            exact ⟨_, _, _, _, _, fun W R => modded_d9_rest R hs (fun W2 R2 => rest_d9_b R2 _ f1 f2 hn), good_other (none_d9 hz hl2 hc (by omega))⟩
        · have f2 : ∀ W, (Op.equalIn 10000 26 (opV (mO zs 1 false)) (opV (onReg 1))).run Tryd.prog W = .ok false W := fun W => by
            rw [← he, eq_reg, show ((onReg (zs.getD 1 0 % 8)).r == 1) = false from by simpa [onReg] using h1']; rfl
          exact ⟨_, _, _, _, _, fun W R => modded_d9_rest R hs (fun W2 R2 => rest_d9_c R2 _ f1 f2 rfl), good_other (none_d9 hz hl2 hc (by omega))⟩
    · have hk := (m_RM hs).2.1.2 h64
      have f : ∀ r W, (Op.equalIn 10000 26 (opV (mO zs 1 false)) (opV (onReg r))).run Tryd.prog W = .ok false W := fun r W => by
        rw [eq_reg, hk]; rfl
      exact ⟨_, _, _, _, _, fun W R => modded_d9_rest R hs (fun W2 R2 => rest_d9_c R2 _ (f 0) (f 1) rfl), good_other (none_d9 hz hl2 hc (by omega))⟩
  · by_cases h2 : 2 ≤ len
    · have h3 := mod3 hz hlen hs h2
      have hm := m_mod hs (by omega)
      have hb := getD_bd hz 1
      exact ⟨_, _, _, _, _, fun W R => modded_d9_short R hs (fun W2 R2 => early_d9 R2 h2 h3), good_other (none_d9 hz (by omega) hc (by omega))⟩
    · exact ⟨_, _, _, _, _, fun W R => modded_d9_short R hs (fun W2 R2 => early_len R2 217 (by omega)), good_short (dec_open2s (by omega) hc (by decide))⟩
theorem mod_0f (hz : ∀ z ∈ zs, 0 ≤ z ∧ z ≤ 255) (hlen : zs.length = len) (h1 : 1 ≤ len) (hc : zs.getD 0 0 = 15) : ∃ i x q s b, ModD N B a len cap zs 15 i x q s b ∧ Good zs i x q s b := by
  by_cases h2 : 2 ≤ zs.length
  · have hb := getD_bd hz 1
    have hs1 : so zs 1 1 false = false := so_le h2
    have hx : nx zs 1 1 = 2 := nx_le h2
    by_cases e11 : zs.getD 1 0 = 11
    · exact ⟨_, _, _, _, _, fun W R => modded_0f R (fun W2 R2 => two_ud R2 hs1 e11), good_bad (good_ud h2 hc e11)⟩
    by_cases e8 : zs.getD 1 0 / 16 = 8
    · exact ⟨_, _, _, _, _, fun W R => modded_0f R (fun W2 R2 => two_jcc R2 hs1 e8), by rw [hx]; exact good_jcc32 h2 hc e8⟩
    by_cases e4 : zs.getD 1 0 / 16 = 4
    · refine ⟨_, _, _, _, _, fun W R => modded_0f R (fun W2 R2 => two_cmov R2 hs1 e4), ?_⟩
      rw [hx]
      cases hs : mS zs 2 false
      · exact good_cmov h2 hc e4 hs
      · exact good_short (short_cmov h2 hc e4 hs)
    by_cases e9 : zs.getD 1 0 / 16 = 9
    · cases hs : mS zs 2 false
      · exact ⟨_, _, _, _, _, fun W R => modded_0f R (fun W2 R2 => two_set R2 hs1 e9 (by rw [hx]; exact hs) (t := mN zs 2 != 0) (by rw [hx])), by rw [hx]; exact good_set h2 hc e9 hs rfl⟩
      · by_cases h3 : 3 ≤ len
        · by_cases hn : mN zs 2 = 0
          · exact ⟨_, _, _, _, _, fun W R => modded_0f R (fun W2 R2 => two_set_zero R2 hs1 e9 (by rw [hx]; exact hs) h3 hn rfl), good_short (short_set h2 hc e9 hs (fun _ => hn))⟩
          · exact ⟨_, _, _, _, _, fun W R => modded_0f R (fun W2 R2 => two_set_told R2 hs1 e9 (by rw [hx]; exact hs) h3 hn), good_other (zero_set h2 hc e9 (by omega) hn)⟩
        · exact ⟨_, _, _, _, _, fun W R => modded_0f R (fun W2 R2 => two_set_none R2 hs1 e9 (by rw [hx]; exact hs) h3 rfl), good_short (short_set h2 hc e9 hs (fun h => absurd h (by omega)))⟩
    by_cases e175 : zs.getD 1 0 = 175
    · refine ⟨_, _, _, _, _, fun W R => modded_0f R (fun W2 R2 => two_af R2 hs1 e175), ?_⟩
      rw [hx]
      cases hs : mS zs 2 false
      · exact good_0faf h2 hc e175 hs
      · exact good_short (short_0faf h2 hc e175 hs)
    by_cases e182 : zs.getD 1 0 = 182
    · refine ⟨_, _, _, _, _, fun W R => modded_0f R (fun W2 R2 => two_b6 R2 hs1 e182), ?_⟩
      rw [hx]
      cases hs : mS zs 2 false
      · exact good_0fb6 h2 hc e182 hs
      · exact good_short (short_0fb6 h2 hc e182 hs)
    by_cases e190 : zs.getD 1 0 = 190
    · refine ⟨_, _, _, _, _, fun W R => modded_0f R (fun W2 R2 => two_be R2 hs1 e190), ?_⟩
      rw [hx]
      cases hs : mS zs 2 false
      · exact good_0fbe h2 hc e190 hs
      · exact good_short (short_0fbe h2 hc e190 hs)
    exact ⟨_, _, _, _, _, fun W R => modded_0f R (fun W2 R2 => two_no R2 hs1 ⟨e11, e8, e4, e9, e175, e182, e190⟩), good_other (none_0f hz h2 hc ⟨e11, e8, e4, e9, e175, e182, e190⟩)⟩
  · exact ⟨_, _, _, _, _, fun W R => modded_0f R (fun W2 R2 => two_short R2 (so_gt (by omega))), good_short (dec_open2s h2 hc (by decide))⟩
/-- Codes with ModRM, and those that are none. -/
theorem mod_good (hz : ∀ z ∈ zs, 0 ≤ z ∧ z ≤ 255) (hlen : zs.length = len) (h1 : 1 ≤ len) {c : Int} (hc : zs.getD 0 0 = c) (hr : ¬ (c < 64 ∧ (c % 8 = 1 ∨ c % 8 = 3 ∨ c % 8 = 5)) ∧ ¬ (64 ≤ c ∧ c < 96) ∧ ¬ (112 ≤ c ∧ c < 128) ∧ ¬ (176 ≤ c ∧ c < 192))
    (hp : ¬ c = 104 ∧ ¬ c = 106 ∧ ¬ c = 144 ∧ ¬ c = 153 ∧ ¬ c = 165 ∧ ¬ c = 169 ∧ ¬ c = 171 ∧ ¬ c = 195 ∧ ¬ c = 232 ∧ ¬ c = 233 ∧ ¬ c = 235 ∧ ¬ c = 252 ∧ ¬ c = 253 ∧ ¬ c = 205 ∧ ¬ c = 243) : ∃ i x q s b, ModD N B a len cap zs c i x q s b ∧ Good zs i x q s b := by
  have hb := getD_bd hz 0
  rw [hc] at hb
  by_cases m15 : c = 15
  · subst m15; exact mod_0f hz hlen h1 hc
  by_cases m129 : c = 129
  · subst m129; exact mod_81 hz hlen h1 hc
  by_cases m131 : c = 131
  · subst m131; exact mod_83 hz hlen h1 hc
  by_cases m133 : c = 133
  · subst m133; exact mod_85 hz hlen h1 hc
  by_cases m135 : c = 135
  · subst m135; exact mod_87 hz hlen h1 hc
  by_cases m136 : c = 136
  · subst m136; exact mod_88 hz hlen h1 hc
  by_cases m137 : c = 137
  · subst m137; exact mod_89 hz hlen h1 hc
  by_cases m138 : c = 138
  · subst m138; exact mod_8a hz hlen h1 hc
  by_cases m139 : c = 139
  · subst m139; exact mod_8b hz hlen h1 hc
  by_cases m141 : c = 141
  · subst m141; exact mod_8d hz hlen h1 hc
  by_cases m193 : c = 193
  · subst m193; exact mod_c1 hz hlen h1 hc
  by_cases m198 : c = 198
  · subst m198; exact mod_c6 hz hlen h1 hc
  by_cases m199 : c = 199
  · subst m199; exact mod_c7 hz hlen h1 hc
  by_cases m209 : c = 209
  · subst m209; exact mod_d1 hz hlen h1 hc
  by_cases m211 : c = 211
  · subst m211; exact mod_d3 hz hlen h1 hc
  by_cases m217 : c = 217
  · subst m217; exact mod_d9 hz hlen h1 hc
  by_cases m220 : c = 220
  · subst m220; exact mod_dc hz hlen h1 hc
  by_cases m221 : c = 221
  · subst m221; exact mod_dd hz hlen h1 hc
  by_cases m247 : c = 247
  · subst m247; exact mod_f7 hz hlen h1 hc
  by_cases m255 : c = 255
  · subst m255; exact mod_ff hz hlen h1 hc
  refine ⟨_, _, _, _, _, fun W R => modded_no R ⟨m15, m129, m131, m133, m135, m136, m137, m138, m139, m141, m193, m198, m199, m209, m211, m217, m220, m221, m247, m255⟩, good_other ?_⟩
  obtain ⟨n, rfl⟩ := Int.eq_ofNat_of_zero_le hb.1
  obtain ⟨p0, p1, p2, p3, p4, p5, p6, p7, p8, p9, p10, p11, p12, p13, p14⟩ := hp
  have ho : openM zs = some ((n : Int), 1) := open1 (by omega) hc (by omega)
  refine dec_none ho (rows_none n (by omega) ?_ ?_ ?_)
  · simp [noB1]; omega
  · simp [plainL]; omega
  · simp [modL]; omega
end
end Go.Proofs.YtlooobehlhgccaaDoor
namespace Go.Proofs.YtlooobehlhgccaaDoor
open Go.RowKit
set_option linter.unusedVariables false
set_option linter.unusedSimpArgs false
set_option linter.unusedSectionVars false

section
variable {N B : Nat} {a : Option Addr} {len cap : Nat} {zs : List Int}
theorem ins_good (hz : ∀ z ∈ zs, 0 ≤ z ∧ z ≤ 255) (hlen : zs.length = len) : ∃ i x q s b, InsD N B a len cap zs i x q s b ∧ Good zs i x q s b := by
  refine (Decidable.em (1 ≤ len)).elim (fun h1 => ?_) (fun h1 => ⟨_, _, _, _, _, fun W R => insn_short R h1, good_short (dec_nil (by omega))⟩)
  have hb := getD_bd hz 0
  by_cases g1 : zs.getD 0 0 < 64 ∧ zs.getD 0 0 % 8 = 1
  · exact ⟨_, _, _, _, _, fun W R => insn_g1 R h1 g1.1 g1.2, good_g1 (by omega) hb.1 g1.1 g1.2⟩
  by_cases g3 : zs.getD 0 0 < 64 ∧ zs.getD 0 0 % 8 = 3
  · exact ⟨_, _, _, _, _, fun W R => insn_g3 R h1 g3.1 g3.2, good_g3 (by omega) hb.1 g3.1 g3.2⟩
  by_cases g5 : zs.getD 0 0 < 64 ∧ zs.getD 0 0 % 8 = 5
  · exact ⟨_, _, _, _, _, fun W R => insn_g5 R h1 g5.1 g5.2, good_g5 (by omega) hb.1 g5.1 g5.2⟩
  by_cases r0 : 64 ≤ zs.getD 0 0 ∧ zs.getD 0 0 < 72
  · exact ⟨_, _, _, _, _, fun W R => insn_r0 R h1 r0, good_r0 (by omega) r0⟩
  by_cases r1 : 72 ≤ zs.getD 0 0 ∧ zs.getD 0 0 < 80
  · exact ⟨_, _, _, _, _, fun W R => insn_r1 R h1 r1, good_r1 (by omega) r1⟩
  by_cases r2 : 80 ≤ zs.getD 0 0 ∧ zs.getD 0 0 < 88
  · exact ⟨_, _, _, _, _, fun W R => insn_r2 R h1 r2, good_r2 (by omega) r2⟩
  by_cases r3 : 88 ≤ zs.getD 0 0 ∧ zs.getD 0 0 < 96
  · exact ⟨_, _, _, _, _, fun W R => insn_r3 R h1 r3, good_r3 (by omega) r3⟩
  by_cases rj : 112 ≤ zs.getD 0 0 ∧ zs.getD 0 0 < 128
  · exact ⟨_, _, _, _, _, fun W R => insn_jcc R h1 rj, good_jcc8 (by omega) rj⟩
  by_cases rb : 176 ≤ zs.getD 0 0 ∧ zs.getD 0 0 < 184
  · exact ⟨_, _, _, _, _, fun W R => insn_movb R h1 rb, good_movb hz (by omega) rb⟩
  by_cases rw' : 184 ≤ zs.getD 0 0 ∧ zs.getD 0 0 < 192
  · exact ⟨_, _, _, _, _, fun W R => insn_mov R h1 rw', good_movw (by omega) rw'⟩
  by_cases p104 : zs.getD 0 0 = 104
  · exact ⟨_, _, _, _, _, fun W R => insn_plain_a R h1 (by omega) (fun W2 R2 => by rw [p104]; exact plain_68 R2), good_68 (open1 (by omega) p104 (by decide))⟩
  by_cases p106 : zs.getD 0 0 = 106
  · exact ⟨_, _, _, _, _, fun W R => insn_plain_a R h1 (by omega) (fun W2 R2 => by rw [p106]; exact plain_6a R2), good_6a (open1 (by omega) p106 (by decide))⟩
  by_cases p144 : zs.getD 0 0 = 144
  · exact ⟨_, _, _, _, _, fun W R => insn_plain_b R h1 (by omega) (fun W2 R2 => by rw [p144]; exact plain_90 R2), good_90 (open1 (by omega) p144 (by decide))⟩
  by_cases p153 : zs.getD 0 0 = 153
  · exact ⟨_, _, _, _, _, fun W R => insn_plain_b R h1 (by omega) (fun W2 R2 => by rw [p153]; exact plain_99 R2), good_99 (open1 (by omega) p153 (by decide))⟩
  by_cases p165 : zs.getD 0 0 = 165
  · exact ⟨_, _, _, _, _, fun W R => insn_plain_b R h1 (by omega) (fun W2 R2 => by rw [p165]; exact plain_a5 R2), good_a5 (open1 (by omega) p165 (by decide))⟩
  by_cases p169 : zs.getD 0 0 = 169
  · exact ⟨_, _, _, _, _, fun W R => insn_plain_b R h1 (by omega) (fun W2 R2 => by rw [p169]; exact plain_a9 R2), good_a9 (open1 (by omega) p169 (by decide))⟩
  by_cases p171 : zs.getD 0 0 = 171
  · exact ⟨_, _, _, _, _, fun W R => insn_plain_b R h1 (by omega) (fun W2 R2 => by rw [p171]; exact plain_ab R2), good_ab (open1 (by omega) p171 (by decide))⟩
  by_cases p195 : zs.getD 0 0 = 195
  · exact ⟨_, _, _, _, _, fun W R => insn_plain_d R h1 (by omega) (fun W2 R2 => by rw [p195]; exact plain_c3 R2), good_c3 (open1 (by omega) p195 (by decide))⟩
  by_cases p232 : zs.getD 0 0 = 232
  · exact ⟨_, _, _, _, _, fun W R => insn_plain_d R h1 (by omega) (fun W2 R2 => by rw [p232]; exact plain_e8 R2), good_e8 (open1 (by omega) p232 (by decide))⟩
  by_cases p233 : zs.getD 0 0 = 233
  · exact ⟨_, _, _, _, _, fun W R => insn_plain_d R h1 (by omega) (fun W2 R2 => by rw [p233]; exact plain_e9 R2), good_e9 (open1 (by omega) p233 (by decide))⟩
  by_cases p235 : zs.getD 0 0 = 235
  · exact ⟨_, _, _, _, _, fun W R => insn_plain_d R h1 (by omega) (fun W2 R2 => by rw [p235]; exact plain_eb R2), good_eb (open1 (by omega) p235 (by decide))⟩
  by_cases p252 : zs.getD 0 0 = 252
  · exact ⟨_, _, _, _, _, fun W R => insn_plain_d R h1 (by omega) (fun W2 R2 => by rw [p252]; exact plain_fc R2), good_fc (open1 (by omega) p252 (by decide))⟩
  by_cases p253 : zs.getD 0 0 = 253
  · exact ⟨_, _, _, _, _, fun W R => insn_plain_d R h1 (by omega) (fun W2 R2 => by rw [p253]; exact plain_fd R2), good_fd (open1 (by omega) p253 (by decide))⟩
  by_cases p205 : zs.getD 0 0 = 205
  · exact ⟨_, _, _, _, _, fun W R => insn_plain_d R h1 (by omega) (fun W2 R2 => by rw [p205]; exact plain_cd R2), good_cd (open1 (by omega) p205 (by decide))⟩
  by_cases p243 : zs.getD 0 0 = 243
  · by_cases ya : zs.getD 1 0 = 165
    · exact ⟨_, _, _, _, _, fun W R => insn_plain_d R h1 (by omega) (fun W2 R2 => by rw [p243]; exact plain_f3a R2 ya), good_f3a p243 ya⟩
    by_cases yb : zs.getD 1 0 = 171
    · exact ⟨_, _, _, _, _, fun W R => insn_plain_d R h1 (by omega) (fun W2 R2 => by rw [p243]; exact plain_f3b R2 yb), good_f3b p243 yb⟩
    exact ⟨_, _, _, _, _, fun W R => insn_plain_d R h1 (by omega) (fun W2 R2 => by rw [p243]; exact plain_f3n R2 ⟨ya, yb⟩), good_f3n hz p243 ⟨ya, yb⟩⟩
  obtain ⟨i, x, q, s, b, hM, hG⟩ := mod_good (N := N) (B := B) (a := a) (cap := cap) hz hlen h1 rfl (by omega) ⟨p104, p106, p144, p153, p165, p169, p171, p195, p232, p233, p235, p252, p253, p205, p243⟩
  have hno : ¬ zs.getD 0 0 = 104 ∧ ¬ zs.getD 0 0 = 106 ∧ ¬ zs.getD 0 0 = 144 ∧ ¬ zs.getD 0 0 = 153 ∧ ¬ zs.getD 0 0 = 165 ∧ ¬ zs.getD 0 0 = 169 ∧ ¬ zs.getD 0 0 = 171 ∧ ¬ zs.getD 0 0 = 195 ∧ ¬ zs.getD 0 0 = 232 ∧ ¬ zs.getD 0 0 = 233 ∧ ¬ zs.getD 0 0 = 235 ∧ ¬ zs.getD 0 0 = 252 ∧ ¬ zs.getD 0 0 = 253 ∧ ¬ zs.getD 0 0 = 205 ∧ ¬ zs.getD 0 0 = 243 := ⟨p104, p106, p144, p153, p165, p169, p171, p195, p232, p233, p235, p252, p253, p205, p243⟩
  refine ⟨i, x, q, s, b, fun W R => ?_, hG⟩
  rcases (by omega : (zs.getD 0 0 < 64 ∧ ¬ zs.getD 0 0 % 8 = 1 ∧ ¬ zs.getD 0 0 % 8 = 3 ∧ ¬ zs.getD 0 0 % 8 = 5) ∨ (96 ≤ zs.getD 0 0 ∧ zs.getD 0 0 < 112) ∨ (128 ≤ zs.getD 0 0 ∧ zs.getD 0 0 < 176) ∨ 192 ≤ zs.getD 0 0) with h | h | h | h
  · exact insn_modded_lo R h1 h (fun W2 R2 => plain_no R2 hno) hM
  · exact insn_modded_a R h1 h (fun W2 R2 => plain_no R2 hno) hM
  · exact insn_modded_b R h1 h (fun W2 R2 => plain_no R2 hno) hM
  · exact insn_modded_d R h1 h (fun W2 R2 => plain_no R2 hno) hM
end
end Go.Proofs.YtlooobehlhgccaaDoor
namespace Go.Proofs.YtlooobehlhgccaaDoor
open Go.RowKit
set_option linter.unusedVariables false
set_option linter.unusedSimpArgs false
set_option linter.unusedSectionVars false

section
variable {w : World} {a : Option Addr} {len cap : Nat} {zs : List Int}
theorem RowN.below {w w' : World} {N n : Nat} {a : Option Addr} {len : Nat} {zs : List Int} (h : RowN w N a len zs) (b : Below n w w') (hn : N ≤ n) : RowN w' N a len zs := h.but (But.of b []) hn (by simp)
set_option maxRecDepth 100000 in
theorem rDecode_short (A : Ba w a len cap zs) {i : In} {q : Nat} {x : Bool} {b : Bool} (hI : InsD w.heap.size (w.heap.size + 1) a len cap zs i x q true b) :
    Calls Tryd.prog 11 #[.slice a len cap] w fun e w' => e = .returned (.tuple #[inV inZ, .int .i64 10]) ∧ Below w.heap.size w w' := by
  have kZ := Blk.new w 28 z16
  have k01 := (Below.refl w.heap.size w).alloc (Nat.le_refl _) (.cells z16 28)
  have h1 : (w.alloc (.cells z16 28)).heap.size = w.heap.size + 1 := by simp
  have A1 := A.below k01
  have hrow : RowN (w.alloc (.cells z16 28)) w.heap.size a len zs := A.row.n.below k01 (Nat.le_refl _)
  have k02 := k01.alloc (by rw [h1]; omega) (.cells #[.slice a len cap, .int .i64 0, .bool false, .bool false] 50)
  have kZ2 := kZ.alloc (.cells #[.slice a len cap, .int .i64 0, .bool false, .bool false] 50)
  have kB := Blk.new (w.alloc (.cells z16 28)) 50 #[.slice a len cap, .int .i64 0, .bool false, .bool false]
  rw [h1] at kB
  have R0 : Rs ((w.alloc (.cells z16 28)).alloc (.cells #[.slice a len cap, .int .i64 0, .bool false, .bool false] 50)) w.heap.size (w.heap.size + 1) a len cap zs 0 false false :=
    ⟨kB, hrow.below (n := w.heap.size + 1) ((Below.refl _ _).alloc (by rw [h1]; exact Nat.le_refl _) _) (by omega), by omega, A.lc, A.cm, by omega⟩
  have hY := Lib.hid hI
  clear hI
  go_enter Tryd.func11, Tryd.ntmps11
  go_upto_region 2 with fail
  generalize (w.alloc (.cells z16 28)).alloc (.cells #[.slice a len cap, .int .i64 0, .bool false, .bool false] 50) = w2 at *
  go_wp2_with (first | ((with_reducible refine (hY.out _ R0).mono ?_); rintro e w3 ⟨rfl, R3, k3⟩; have kZ3 := kZ2.but k3 kZ2.lt (by simp); have k03 := k02.trans (k3.below k02.size (by simp))) | ((with_reducible refine store_in_as rfl _ _ rfl (in16 i) (in16_size _) (in16_one _) rfl rfl ?_); intro w4 kI b4; have R4 := R3.below b4 R3.lt; have kZ4 := kZ3.below b4 kZ3.lt; have k04 := k03.trans (b4.mono k03.size); have hD := kZ3.lt; have c2 := R4.c2; have c3 := R4.c3) | ((with_reducible refine store_inR rfl _ _ rfl _ (in16 inZ) z16 rfl rfl kZ4 (in16_size _) z16_size (in16_one _) ?_); intro wz kz bz hz))
  exact bodyPost_ret (v := .tuple #[inV inZ, .int .i64 10]) (results_ct rfl _ _ w.heap.size 28 (in16 inZ) (0, 0) _ _ rfl rfl kz.h Tryd.underlying28 rfl (szIn inZ)) rfl ⟨rfl, k04.trans (bz.below k04.size (by simp))⟩
set_option maxRecDepth 100000 in
theorem rDecode_bad (A : Ba w a len cap zs) {i : In} {q : Nat} {x : Bool} (hI : InsD w.heap.size (w.heap.size + 1) a len cap zs i x q false true) :
    Calls Tryd.prog 11 #[.slice a len cap] w fun e w' => e = .returned (.tuple #[inV inZ, .int .i64 90]) ∧ Below w.heap.size w w' := by
  have kZ := Blk.new w 28 z16
  have k01 := (Below.refl w.heap.size w).alloc (Nat.le_refl _) (.cells z16 28)
  have h1 : (w.alloc (.cells z16 28)).heap.size = w.heap.size + 1 := by simp
  have A1 := A.below k01
  have hrow : RowN (w.alloc (.cells z16 28)) w.heap.size a len zs := A.row.n.below k01 (Nat.le_refl _)
  have k02 := k01.alloc (by rw [h1]; omega) (.cells #[.slice a len cap, .int .i64 0, .bool false, .bool false] 50)
  have kZ2 := kZ.alloc (.cells #[.slice a len cap, .int .i64 0, .bool false, .bool false] 50)
  have kB := Blk.new (w.alloc (.cells z16 28)) 50 #[.slice a len cap, .int .i64 0, .bool false, .bool false]
  rw [h1] at kB
  have R0 : Rs ((w.alloc (.cells z16 28)).alloc (.cells #[.slice a len cap, .int .i64 0, .bool false, .bool false] 50)) w.heap.size (w.heap.size + 1) a len cap zs 0 false false :=
    ⟨kB, hrow.below (n := w.heap.size + 1) ((Below.refl _ _).alloc (by rw [h1]; exact Nat.le_refl _) _) (by omega), by omega, A.lc, A.cm, by omega⟩
  have hY := Lib.hid hI
  clear hI
  go_enter Tryd.func11, Tryd.ntmps11
  go_upto_region 2 with fail
  generalize (w.alloc (.cells z16 28)).alloc (.cells #[.slice a len cap, .int .i64 0, .bool false, .bool false] 50) = w2 at *
  go_wp2_with (first | ((with_reducible refine (hY.out _ R0).mono ?_); rintro e w3 ⟨rfl, R3, k3⟩; have kZ3 := kZ2.but k3 kZ2.lt (by simp); have k03 := k02.trans (k3.below k02.size (by simp))) | ((with_reducible refine store_in_as rfl _ _ rfl (in16 i) (in16_size _) (in16_one _) rfl rfl ?_); intro w4 kI b4; have R4 := R3.below b4 R3.lt; have kZ4 := kZ3.below b4 kZ3.lt; have k04 := k03.trans (b4.mono k03.size); have hD := kZ3.lt; have c2 := R4.c2; have c3 := R4.c3) | ((with_reducible refine store_inR rfl _ _ rfl _ (in16 inZ) z16 rfl rfl kZ4 (in16_size _) z16_size (in16_one _) ?_); intro wz kz bz hz))
  exact bodyPost_ret (v := .tuple #[inV inZ, .int .i64 90]) (results_ct rfl _ _ w.heap.size 28 (in16 inZ) (0, 0) _ _ rfl rfl kz.h Tryd.underlying28 rfl (szIn inZ)) rfl ⟨rfl, k04.trans (bz.below k04.size (by simp))⟩
set_option maxRecDepth 100000 in
theorem rDecode_other (A : Ba w a len cap zs) {i : In} {q : Nat} (hI : InsD w.heap.size (w.heap.size + 1) a len cap zs i true q false false) :
    Calls Tryd.prog 11 #[.slice a len cap] w fun e w' => e = .returned (.tuple #[inV inZ, .int .i64 12]) ∧ Below w.heap.size w w' := by
  have kZ := Blk.new w 28 z16
  have k01 := (Below.refl w.heap.size w).alloc (Nat.le_refl _) (.cells z16 28)
  have h1 : (w.alloc (.cells z16 28)).heap.size = w.heap.size + 1 := by simp
  have A1 := A.below k01
  have hrow : RowN (w.alloc (.cells z16 28)) w.heap.size a len zs := A.row.n.below k01 (Nat.le_refl _)
  have k02 := k01.alloc (by rw [h1]; omega) (.cells #[.slice a len cap, .int .i64 0, .bool false, .bool false] 50)
  have kZ2 := kZ.alloc (.cells #[.slice a len cap, .int .i64 0, .bool false, .bool false] 50)
  have kB := Blk.new (w.alloc (.cells z16 28)) 50 #[.slice a len cap, .int .i64 0, .bool false, .bool false]
  rw [h1] at kB
  have R0 : Rs ((w.alloc (.cells z16 28)).alloc (.cells #[.slice a len cap, .int .i64 0, .bool false, .bool false] 50)) w.heap.size (w.heap.size + 1) a len cap zs 0 false false :=
    ⟨kB, hrow.below (n := w.heap.size + 1) ((Below.refl _ _).alloc (by rw [h1]; exact Nat.le_refl _) _) (by omega), by omega, A.lc, A.cm, by omega⟩
  have hY := Lib.hid hI
  clear hI
  go_enter Tryd.func11, Tryd.ntmps11
  go_upto_region 2 with fail
  generalize (w.alloc (.cells z16 28)).alloc (.cells #[.slice a len cap, .int .i64 0, .bool false, .bool false] 50) = w2 at *
  go_wp2_with (first | ((with_reducible refine (hY.out _ R0).mono ?_); rintro e w3 ⟨rfl, R3, k3⟩; have kZ3 := kZ2.but k3 kZ2.lt (by simp); have k03 := k02.trans (k3.below k02.size (by simp))) | ((with_reducible refine store_in_as rfl _ _ rfl (in16 i) (in16_size _) (in16_one _) rfl rfl ?_); intro w4 kI b4; have R4 := R3.below b4 R3.lt; have kZ4 := kZ3.below b4 kZ3.lt; have k04 := k03.trans (b4.mono k03.size); have hD := kZ3.lt; have c2 := R4.c2; have c3 := R4.c3) | ((with_reducible refine store_inR rfl _ _ rfl _ (in16 inZ) z16 rfl rfl kZ4 (in16_size _) z16_size (in16_one _) ?_); intro wz kz bz hz))
  exact bodyPost_ret (v := .tuple #[inV inZ, .int .i64 12]) (results_ct rfl _ _ w.heap.size 28 (in16 inZ) (0, 0) _ _ rfl rfl kz.h Tryd.underlying28 rfl (szIn inZ)) rfl ⟨rfl, k04.trans (bz.below k04.size (by simp))⟩
set_option maxRecDepth 100000 in
theorem rDecode_no (A : Ba w a len cap zs) {i : In} {q : Nat} (hI : InsD w.heap.size (w.heap.size + 1) a len cap zs i false q false false) (hT : IsTells i false) :
    Calls Tryd.prog 11 #[.slice a len cap] w fun e w' => e = .returned (.tuple #[inV inZ, .int .i64 12]) ∧ Below w.heap.size w w' := by
  have kZ := Blk.new w 28 z16
  have k01 := (Below.refl w.heap.size w).alloc (Nat.le_refl _) (.cells z16 28)
  have h1 : (w.alloc (.cells z16 28)).heap.size = w.heap.size + 1 := by simp
  have A1 := A.below k01
  have hrow : RowN (w.alloc (.cells z16 28)) w.heap.size a len zs := A.row.n.below k01 (Nat.le_refl _)
  have k02 := k01.alloc (by rw [h1]; omega) (.cells #[.slice a len cap, .int .i64 0, .bool false, .bool false] 50)
  have kZ2 := kZ.alloc (.cells #[.slice a len cap, .int .i64 0, .bool false, .bool false] 50)
  have kB := Blk.new (w.alloc (.cells z16 28)) 50 #[.slice a len cap, .int .i64 0, .bool false, .bool false]
  rw [h1] at kB
  have R0 : Rs ((w.alloc (.cells z16 28)).alloc (.cells #[.slice a len cap, .int .i64 0, .bool false, .bool false] 50)) w.heap.size (w.heap.size + 1) a len cap zs 0 false false :=
    ⟨kB, hrow.below (n := w.heap.size + 1) ((Below.refl _ _).alloc (by rw [h1]; exact Nat.le_refl _) _) (by omega), by omega, A.lc, A.cm, by omega⟩
  have hY := Lib.hid hI
  clear hI
  have hS := Lib.hid hT
  clear hT
  go_enter Tryd.func11, Tryd.ntmps11
  go_upto_region 2 with fail
  generalize (w.alloc (.cells z16 28)).alloc (.cells #[.slice a len cap, .int .i64 0, .bool false, .bool false] 50) = w2 at *
  go_wp2_with (first | ((with_reducible refine (hY.out _ R0).mono ?_); rintro e w3 ⟨rfl, R3, k3⟩; have kZ3 := kZ2.but k3 kZ2.lt (by simp); have k03 := k02.trans (k3.below k02.size (by simp))) | ((with_reducible refine store_in_as rfl _ _ rfl (in16 i) (in16_size _) (in16_one _) rfl rfl ?_); intro w4 kI b4; have R4 := R3.below b4 R3.lt; have kZ4 := kZ3.below b4 kZ3.lt; have k04 := k03.trans (b4.mono k03.size); have hD := kZ3.lt; have c2 := R4.c2; have c3 := R4.c3) | (with_reducible refine load_inG (by kernel_rfl) _ rfl w3.heap.size rfl (in16 i) (in16_size _) kI ?_) | ((with_reducible refine (hS.out _).mono ?_); rintro e w5 ⟨rfl, b5⟩; have R5 := R4.below b5 R4.lt; have kZ5 := kZ4.below b5 kZ4.lt; have kI5 := kI.below b5 kI.lt; have k05 := k04.trans (b5.mono k04.size)) | ((with_reducible refine store_inR rfl _ _ rfl _ (in16 inZ) z16 rfl rfl kZ5 (in16_size _) z16_size (in16_one _) ?_); intro wz kz bz hz))
  exact bodyPost_ret (v := .tuple #[inV inZ, .int .i64 12]) (results_ct rfl _ _ w.heap.size 28 (in16 inZ) (0, 0) _ _ rfl rfl kz.h Tryd.underlying28 rfl (szIn inZ)) rfl ⟨rfl, k05.trans (bz.below k05.size (by simp))⟩
set_option maxRecDepth 100000 in
theorem rDecode_yes (A : Ba w a len cap zs) {i : In} {q : Nat} (hI : InsD w.heap.size (w.heap.size + 1) a len cap zs i false q false false) (hT : IsTells i true) :
    Calls Tryd.prog 11 #[.slice a len cap] w fun e w' => e = .returned (.tuple #[inV ⟨i.op, i.c, i.A, i.B, i.rep, q⟩, .int .i64 0]) ∧ Below w.heap.size w w' := by
  have kZ := Blk.new w 28 z16
  have k01 := (Below.refl w.heap.size w).alloc (Nat.le_refl _) (.cells z16 28)
  have h1 : (w.alloc (.cells z16 28)).heap.size = w.heap.size + 1 := by simp
  have A1 := A.below k01
  have hrow : RowN (w.alloc (.cells z16 28)) w.heap.size a len zs := A.row.n.below k01 (Nat.le_refl _)
  have k02 := k01.alloc (by rw [h1]; omega) (.cells #[.slice a len cap, .int .i64 0, .bool false, .bool false] 50)
  have kZ2 := kZ.alloc (.cells #[.slice a len cap, .int .i64 0, .bool false, .bool false] 50)
  have kB := Blk.new (w.alloc (.cells z16 28)) 50 #[.slice a len cap, .int .i64 0, .bool false, .bool false]
  rw [h1] at kB
  have R0 : Rs ((w.alloc (.cells z16 28)).alloc (.cells #[.slice a len cap, .int .i64 0, .bool false, .bool false] 50)) w.heap.size (w.heap.size + 1) a len cap zs 0 false false :=
    ⟨kB, hrow.below (n := w.heap.size + 1) ((Below.refl _ _).alloc (by rw [h1]; exact Nat.le_refl _) _) (by omega), by omega, A.lc, A.cm, by omega⟩
  have hY := Lib.hid hI
  clear hI
  have hS := Lib.hid hT
  clear hT
  go_enter Tryd.func11, Tryd.ntmps11
  go_upto_region 2 with fail
  generalize (w.alloc (.cells z16 28)).alloc (.cells #[.slice a len cap, .int .i64 0, .bool false, .bool false] 50) = w2 at *
  go_upto_region 9 with (first | ((with_reducible refine (hY.out _ R0).mono ?_); rintro e w3 ⟨rfl, R3, k3⟩; have kZ3 := kZ2.but k3 kZ2.lt (by simp); have k03 := k02.trans (k3.below k02.size (by simp))) | ((with_reducible refine store_in_as rfl _ _ rfl (in16 i) (in16_size _) (in16_one _) rfl rfl ?_); intro w4 kI b4; have R4 := R3.below b4 R3.lt; have kZ4 := kZ3.below b4 kZ3.lt; have k04 := k03.trans (b4.mono k03.size); have hD := kZ3.lt; have c2 := R4.c2; have c3 := R4.c3) | (with_reducible refine load_inG (by kernel_rfl) _ rfl w3.heap.size rfl (in16 i) (in16_size _) kI ?_) | ((with_reducible refine (hS.out _).mono ?_); rintro e w5 ⟨rfl, b5⟩; have R5 := R4.below b5 R4.lt; have kZ5 := kZ4.below b5 kZ4.lt; have kI5 := kI.below b5 kI.lt; have k05 := k04.trans (b5.mono k04.size)))
  have c1 := R5.c1
  have f15 := kI5.fr 15
  have c15 := kI5.cell (i := 15) rfl
  generalize w3.heap.size = D at *
  go_upto_region 10 with fail
  have kI6 : Blk (w5.setCell ⟨D, 15, none⟩ (.int .i64 q)) D 28 (in16 ⟨i.op, i.c, i.A, i.B, i.rep, q⟩) := kI5.set 15 (.int .i64 q)
  have kZ6 := kZ5.other (M := D) 15 (.int .i64 q) (by omega)
  have k06 : Below w.heap.size w (w5.setCell ⟨D, 15, none⟩ (.int .i64 q)) := k05.trans (((But.cell1 w5 D 15 (.int .i64 q)).below k05.size (by simp; omega)))
  generalize w5.setCell ⟨D, 15, none⟩ (.int .i64 q) = w6 at *
  go_wp2_with (first | (with_reducible refine load_inR rfl _ rfl D (in16 ⟨i.op, i.c, i.A, i.B, i.rep, q⟩) rfl kI6 (in16_size _) ?_) | ((with_reducible refine store_inR rfl _ _ rfl _ (in16 ⟨i.op, i.c, i.A, i.B, i.rep, q⟩) z16 rfl rfl kZ6 (in16_size _) z16_size (in16_one _) ?_); intro wz kz bz hz))
  exact bodyPost_ret (v := .tuple #[inV ⟨i.op, i.c, i.A, i.B, i.rep, q⟩, .int .i64 0]) (results_ct rfl _ _ w.heap.size 28 (in16 ⟨i.op, i.c, i.A, i.B, i.rep, q⟩) (0, 0) _ _ rfl rfl kz.h Tryd.underlying28 rfl (szIn inZ)) rfl ⟨rfl, k06.trans (bz.below k06.size (by simp))⟩
theorem rDecode_any (A : Ba w a len cap zs) :
    Calls Tryd.prog 11 #[.slice a len cap] w fun e w' => e = .returned (.tuple #[inV (decI zs), .int .i64 (decE zs)]) ∧ Below w.heap.size w w' := by
  obtain ⟨i, x, q, s, b, hI, hG⟩ := ins_good (N := w.heap.size) (B := w.heap.size + 1) (a := a) (len := len) (cap := cap) A.row.2.1 A.row.1
  cases s
  · cases b
    · cases x
      · obtain ⟨k, hT, hd⟩ := hG.ok rfl rfl rfl
        cases k
        · obtain ⟨e1, e2⟩ := dec_e (hd.trans (if_neg Bool.false_ne_true))
          rw [e1, e2]; exact rDecode_no A hI hT
        · obtain ⟨e1, e2⟩ := dec_i (hd.trans (if_pos rfl))
          rw [e1, e2]; exact rDecode_yes A hI hT
      · obtain ⟨e1, e2⟩ := dec_e (hG.other rfl rfl rfl)
        rw [e1, e2]; exact rDecode_other A hI
    · obtain ⟨e1, e2⟩ := dec_e (hG.bad rfl rfl)
      rw [e1, e2]; exact rDecode_bad A hI
  · obtain ⟨e1, e2⟩ := dec_e (hG.short rfl)
    rw [e1, e2]; exact rDecode_short A hI
end
end Go.Proofs.YtlooobehlhgccaaDoor
namespace Go.Proofs.YtlooobehlhgccaaDoor
open Go.RowKit
set_option linter.unusedVariables false
set_option linter.unusedSimpArgs false
set_option linter.unusedSectionVars false

theorem Kind_ba {w : World} {a : Option Addr} {n c : Nat} {zs : List Int} (A : Ba w a n c zs) (tabs : Tabs w) {k : Int} (h : kindM zs = k) : Calls Tryd.prog 12 #[.slice a n c] w fun e w' => e = .returned (.int .i64 k) ∧ Below w.heap.size w w' := by
  subst h; exact Kind_any A tabs
theorem rDecode_ba {w : World} {a : Option Addr} {n c : Nat} {zs : List Int} (A : Ba w a n c zs) {i : In} {x : Int} (h : decI zs = i ∧ decE zs = x) : Calls Tryd.prog 11 #[.slice a n c] w fun e w' => e = .returned (.tuple #[inV i, .int .i64 x]) ∧ Below w.heap.size w w' := by
  obtain ⟨rfl, rfl⟩ := h; exact rDecode_any A
set_option maxHeartbeats 4000000 in
set_option maxRecDepth 100000 in
theorem tells_0 {a : Option Addr} {n c : Nat} {zs : List Int} {w : World} (A : Ba w a n c zs) (tabs : Tabs w) (hn : n ≤ 30) {i : In} (h1 : decI zs = i ∧ decE zs = 0) (hk : kindM zs = 0) :
    Calls Tryd.prog 3 #[.slice a n c] w fun e w' => e = .returned (.bool true) ∧ Below w.heap.size w w' := by
  have hK := Lib.hid (known_any w tabs)
  have lz : zs.length = n := A.row.1
  have hz : ((30 : Int) < (n : Int)) = False := eq_false (by omega)
  go_enter Tryd.func3, Tryd.ntmps3
  go_upto_region 5 with ((with_reducible refine hK.out.mono ?_); rintro e W1 ⟨rfl, b1⟩)
  have A1 := A.below b1
  have o0 := Own.none W1 W1.heap.size
  have hl0 : ([] : List Int).length + zs.length ≤ 100 := by simp; omega
  have hD1 := Lib.hid (fun W v (b : Below w.heap.size w W) (h : Own W W1.heap.size v ([] ++ zs)) => Decode_ownI (i := i) (l := i.len) (x := 0) h (tabs.below b) (show decI ([] ++ zs) = _ ∧ decE ([] ++ zs) = _ from h1) rfl)
  go_upto_region 6 with (first | ((with_reducible refine append_bytes rfl _ _ rfl W1.heap.size (.slice none 0 0) [] zs rfl o0 (Nat.le_refl _) a n c rfl A1 hl0 ?_); intro v1 W2 o1 b2) | ((with_reducible refine (hD1.out _ _ (b1.trans (b2.mono b1.size)) o1).mono ?_); rintro e W3 ⟨rfl, b3⟩) | ((with_reducible refine store_in_as rfl _ _ rfl (in16 i) (in16_size _) (in16_one _) rfl rfl ?_); intro W4 kI b4))
  have g4 : Below W1.heap.size W1 W4 := (b2.trans (b3.mono b2.size)).trans (b4.mono (Nat.le_trans b2.size b3.size))
  have k4 := b1.trans (g4.mono b1.size)
  have A4 := A1.below g4
  have hD2 := Lib.hid (rDecode_ba A4 h1)
  go_upto_region 7 with (first | ((with_reducible refine hD2.out.mono ?_); rintro e W5 ⟨rfl, b5⟩) | ((with_reducible refine store_in_as rfl _ _ rfl (in16 i) (in16_size _) (in16_one _) rfl rfl ?_); intro W6 kJ b6))
  have g6 : Below W4.heap.size W4 W6 := b5.trans (b6.mono b5.size)
  have k6 := k4.trans (g6.mono k4.size)
  have A6 := A4.below g6
  have kI6 := kI.below g6 kI.lt
  have hKd := Lib.hid (Kind_ba A6 (tabs.below k6) hk)
  have heq : ∀ W, (Op.equalIn 10000 28 (.agg (in16 i)) (.agg (in16 i))).run Tryd.prog W = .ok true W := eq_in i
  have zC := in16_size i
  have e15 := kJ.cell (i := 15) (v := .int .i64 i.len) rfl
  clear hD1 hD2
  generalize in16 i = C at *
  generalize i.len = L at *
  go_wp2_with (first | (with_reducible refine load_inR rfl _ rfl W5.heap.size C rfl kJ zC ?_) | (with_reducible refine load_inR rfl _ rfl W3.heap.size C rfl kI6 zC ?_) | ((with_reducible refine hKd.out.mono ?_); rintro e W7 ⟨rfl, b7⟩; replace k6 := k6.trans (b7.mono k6.size)))
  go_ret
  exact ⟨rfl, k6⟩
set_option maxHeartbeats 4000000 in
set_option maxRecDepth 100000 in
theorem tells_10 {a : Option Addr} {n c : Nat} {zs : List Int} {w : World} (A : Ba w a n c zs) (tabs : Tabs w) (hn : n ≤ 30) {i : In} (h1 : decI zs = i ∧ decE zs = 10) (hk : kindM zs = 0) :
    Calls Tryd.prog 3 #[.slice a n c] w fun e w' => e = .returned (.bool true) ∧ Below w.heap.size w w' := by
  have hK := Lib.hid (known_any w tabs)
  have lz : zs.length = n := A.row.1
  have hz : ((30 : Int) < (n : Int)) = False := eq_false (by omega)
  go_enter Tryd.func3, Tryd.ntmps3
  go_upto_region 5 with ((with_reducible refine hK.out.mono ?_); rintro e W1 ⟨rfl, b1⟩)
  have A1 := A.below b1
  have o0 := Own.none W1 W1.heap.size
  have hl0 : ([] : List Int).length + zs.length ≤ 100 := by simp; omega
  have hD1 := Lib.hid (fun W v (b : Below w.heap.size w W) (h : Own W W1.heap.size v ([] ++ zs)) => Decode_ownI (i := i) (l := i.len) (x := 10) h (tabs.below b) (show decI ([] ++ zs) = _ ∧ decE ([] ++ zs) = _ from h1) rfl)
  go_upto_region 6 with (first | ((with_reducible refine append_bytes rfl _ _ rfl W1.heap.size (.slice none 0 0) [] zs rfl o0 (Nat.le_refl _) a n c rfl A1 hl0 ?_); intro v1 W2 o1 b2) | ((with_reducible refine (hD1.out _ _ (b1.trans (b2.mono b1.size)) o1).mono ?_); rintro e W3 ⟨rfl, b3⟩) | ((with_reducible refine store_in_as rfl _ _ rfl (in16 i) (in16_size _) (in16_one _) rfl rfl ?_); intro W4 kI b4))
  have g4 : Below W1.heap.size W1 W4 := (b2.trans (b3.mono b2.size)).trans (b4.mono (Nat.le_trans b2.size b3.size))
  have k4 := b1.trans (g4.mono b1.size)
  have A4 := A1.below g4
  have hD2 := Lib.hid (rDecode_ba A4 h1)
  go_upto_region 7 with (first | ((with_reducible refine hD2.out.mono ?_); rintro e W5 ⟨rfl, b5⟩) | ((with_reducible refine store_in_as rfl _ _ rfl (in16 i) (in16_size _) (in16_one _) rfl rfl ?_); intro W6 kJ b6))
  have g6 : Below W4.heap.size W4 W6 := b5.trans (b6.mono b5.size)
  have k6 := k4.trans (g6.mono k4.size)
  have A6 := A4.below g6
  have kI6 := kI.below g6 kI.lt
  have hKd := Lib.hid (Kind_ba A6 (tabs.below k6) hk)
  have heq : ∀ W, (Op.equalIn 10000 28 (.agg (in16 i)) (.agg (in16 i))).run Tryd.prog W = .ok true W := eq_in i
  have zC := in16_size i
  have e15 := kJ.cell (i := 15) (v := .int .i64 i.len) rfl
  clear hD1 hD2
  generalize in16 i = C at *
  generalize i.len = L at *
  go_wp2_with (first | (with_reducible refine load_inR rfl _ rfl W5.heap.size C rfl kJ zC ?_) | (with_reducible refine load_inR rfl _ rfl W3.heap.size C rfl kI6 zC ?_) | ((with_reducible refine hKd.out.mono ?_); rintro e W7 ⟨rfl, b7⟩; replace k6 := k6.trans (b7.mono k6.size)))
  go_ret
  exact ⟨rfl, k6⟩
set_option maxHeartbeats 4000000 in
set_option maxRecDepth 100000 in
theorem tells_12 {a : Option Addr} {n c : Nat} {zs : List Int} {w : World} (A : Ba w a n c zs) (tabs : Tabs w) (hn : n ≤ 30) {i : In} (h1 : decI zs = i ∧ decE zs = 12) (hk : kindM zs = 4) :
    Calls Tryd.prog 3 #[.slice a n c] w fun e w' => e = .returned (.bool true) ∧ Below w.heap.size w w' := by
  have hK := Lib.hid (known_any w tabs)
  have lz : zs.length = n := A.row.1
  have hz : ((30 : Int) < (n : Int)) = False := eq_false (by omega)
  go_enter Tryd.func3, Tryd.ntmps3
  go_upto_region 5 with ((with_reducible refine hK.out.mono ?_); rintro e W1 ⟨rfl, b1⟩)
  have A1 := A.below b1
  have o0 := Own.none W1 W1.heap.size
  have hl0 : ([] : List Int).length + zs.length ≤ 100 := by simp; omega
  have hD1 := Lib.hid (fun W v (b : Below w.heap.size w W) (h : Own W W1.heap.size v ([] ++ zs)) => Decode_ownI (i := i) (l := i.len) (x := 12) h (tabs.below b) (show decI ([] ++ zs) = _ ∧ decE ([] ++ zs) = _ from h1) rfl)
  go_upto_region 6 with (first | ((with_reducible refine append_bytes rfl _ _ rfl W1.heap.size (.slice none 0 0) [] zs rfl o0 (Nat.le_refl _) a n c rfl A1 hl0 ?_); intro v1 W2 o1 b2) | ((with_reducible refine (hD1.out _ _ (b1.trans (b2.mono b1.size)) o1).mono ?_); rintro e W3 ⟨rfl, b3⟩) | ((with_reducible refine store_in_as rfl _ _ rfl (in16 i) (in16_size _) (in16_one _) rfl rfl ?_); intro W4 kI b4))
  have g4 : Below W1.heap.size W1 W4 := (b2.trans (b3.mono b2.size)).trans (b4.mono (Nat.le_trans b2.size b3.size))
  have k4 := b1.trans (g4.mono b1.size)
  have A4 := A1.below g4
  have hD2 := Lib.hid (rDecode_ba A4 h1)
  go_upto_region 7 with (first | ((with_reducible refine hD2.out.mono ?_); rintro e W5 ⟨rfl, b5⟩) | ((with_reducible refine store_in_as rfl _ _ rfl (in16 i) (in16_size _) (in16_one _) rfl rfl ?_); intro W6 kJ b6))
  have g6 : Below W4.heap.size W4 W6 := b5.trans (b6.mono b5.size)
  have k6 := k4.trans (g6.mono k4.size)
  have A6 := A4.below g6
  have kI6 := kI.below g6 kI.lt
  have hKd := Lib.hid (Kind_ba A6 (tabs.below k6) hk)
  have heq : ∀ W, (Op.equalIn 10000 28 (.agg (in16 i)) (.agg (in16 i))).run Tryd.prog W = .ok true W := eq_in i
  have zC := in16_size i
  have e15 := kJ.cell (i := 15) (v := .int .i64 i.len) rfl
  clear hD1 hD2
  generalize in16 i = C at *
  generalize i.len = L at *
  go_wp2_with (first | (with_reducible refine load_inR rfl _ rfl W5.heap.size C rfl kJ zC ?_) | (with_reducible refine load_inR rfl _ rfl W3.heap.size C rfl kI6 zC ?_) | ((with_reducible refine hKd.out.mono ?_); rintro e W7 ⟨rfl, b7⟩; replace k6 := k6.trans (b7.mono k6.size)))
  go_ret
  exact ⟨rfl, k6⟩
set_option maxHeartbeats 4000000 in
set_option maxRecDepth 100000 in
theorem tells_90 {a : Option Addr} {n c : Nat} {zs : List Int} {w : World} (A : Ba w a n c zs) (tabs : Tabs w) (hn : n ≤ 30) {i : In} (h1 : decI zs = i ∧ decE zs = 90) (hk : kindM zs = 3) :
    Calls Tryd.prog 3 #[.slice a n c] w fun e w' => e = .returned (.bool true) ∧ Below w.heap.size w w' := by
  have hK := Lib.hid (known_any w tabs)
  have lz : zs.length = n := A.row.1
  have hz : ((30 : Int) < (n : Int)) = False := eq_false (by omega)
  go_enter Tryd.func3, Tryd.ntmps3
  go_upto_region 5 with ((with_reducible refine hK.out.mono ?_); rintro e W1 ⟨rfl, b1⟩)
  have A1 := A.below b1
  have o0 := Own.none W1 W1.heap.size
  have hl0 : ([] : List Int).length + zs.length ≤ 100 := by simp; omega
  have hD1 := Lib.hid (fun W v (b : Below w.heap.size w W) (h : Own W W1.heap.size v ([] ++ zs)) => Decode_ownI (i := i) (l := i.len) (x := 90) h (tabs.below b) (show decI ([] ++ zs) = _ ∧ decE ([] ++ zs) = _ from h1) rfl)
  go_upto_region 6 with (first | ((with_reducible refine append_bytes rfl _ _ rfl W1.heap.size (.slice none 0 0) [] zs rfl o0 (Nat.le_refl _) a n c rfl A1 hl0 ?_); intro v1 W2 o1 b2) | ((with_reducible refine (hD1.out _ _ (b1.trans (b2.mono b1.size)) o1).mono ?_); rintro e W3 ⟨rfl, b3⟩) | ((with_reducible refine store_in_as rfl _ _ rfl (in16 i) (in16_size _) (in16_one _) rfl rfl ?_); intro W4 kI b4))
  have g4 : Below W1.heap.size W1 W4 := (b2.trans (b3.mono b2.size)).trans (b4.mono (Nat.le_trans b2.size b3.size))
  have k4 := b1.trans (g4.mono b1.size)
  have A4 := A1.below g4
  have hD2 := Lib.hid (rDecode_ba A4 h1)
  go_upto_region 7 with (first | ((with_reducible refine hD2.out.mono ?_); rintro e W5 ⟨rfl, b5⟩) | ((with_reducible refine store_in_as rfl _ _ rfl (in16 i) (in16_size _) (in16_one _) rfl rfl ?_); intro W6 kJ b6))
  have g6 : Below W4.heap.size W4 W6 := b5.trans (b6.mono b5.size)
  have k6 := k4.trans (g6.mono k4.size)
  have A6 := A4.below g6
  have kI6 := kI.below g6 kI.lt
  have hKd := Lib.hid (Kind_ba A6 (tabs.below k6) hk)
  have heq : ∀ W, (Op.equalIn 10000 28 (.agg (in16 i)) (.agg (in16 i))).run Tryd.prog W = .ok true W := eq_in i
  have zC := in16_size i
  have e15 := kJ.cell (i := 15) (v := .int .i64 i.len) rfl
  clear hD1 hD2
  generalize in16 i = C at *
  generalize i.len = L at *
  go_wp2_with (first | (with_reducible refine load_inR rfl _ rfl W5.heap.size C rfl kJ zC ?_) | (with_reducible refine load_inR rfl _ rfl W3.heap.size C rfl kI6 zC ?_) | ((with_reducible refine hKd.out.mono ?_); rintro e W7 ⟨rfl, b7⟩; replace k6 := k6.trans (b7.mono k6.size)))
  go_ret
  exact ⟨rfl, k6⟩
set_option maxHeartbeats 2000000 in
theorem tells_far {a : Option Addr} {n c : Nat} {w : World} (tabs : Tabs w) (h : 30 < n) :
    Calls Tryd.prog 3 #[.slice a n c] w fun e w' => e = .returned (.bool true) ∧ Below w.heap.size w w' := by
  have hK := Lib.hid (known_any w tabs)
  have hz : ((30 : Int) < (n : Int)) = True := eq_true (by omega)
  go_enter Tryd.func3, Tryd.ntmps3
  go_upto_region 3 with ((with_reducible refine hK.out.mono ?_); rintro e W1 ⟨rfl, b1⟩)
  go_wp2_with fail
  go_ret
  exact ⟨rfl, b1⟩
theorem tells_walk {a : Option Addr} {n c : Nat} {zs : List Int} {w : World} (A : Ba w a n c zs) (tabs : Tabs w) :
    Calls Tryd.prog 3 #[.slice a n c] w fun e w' => e = .returned (.bool true) ∧ Below w.heap.size w w' := by
  by_cases hf : 30 < n
  · exact tells_far tabs hf
  cases h : decM zs with
  | error x =>
    have he := dec_e h
    rcases err_codes h with rfl | rfl | rfl
    · exact tells_10 A tabs (by omega) he (by unfold kindM; rw [he.2]; rfl)
    · exact tells_12 A tabs (by omega) he (by unfold kindM; rw [he.2]; rfl)
    · exact tells_90 A tabs (by omega) he (by unfold kindM; rw [he.2]; rfl)
  | ok i =>
    have he := dec_i h
    exact tells_0 A tabs (by omega) he (by unfold kindM; rw [he.2]; rfl)
end Go.Proofs.YtlooobehlhgccaaDoor
