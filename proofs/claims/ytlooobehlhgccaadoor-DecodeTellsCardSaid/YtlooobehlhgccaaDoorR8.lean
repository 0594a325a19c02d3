/- The reference: codes with ModRM. -/
import Derived.Test.YtlooobehlhgccaaDoorR35
namespace Go.Proofs.YtlooobehlhgccaaDoor
open Go.RowKit
set_option linter.unusedVariables false
set_option linter.unusedSimpArgs false
set_option linter.unusedSectionVars false

section
variable {w : World} {N B : Nat} {a : Option Addr} {len cap : Nat} {zs : List Int} {p : Nat} {sh bd : Bool}
set_option maxRecDepth 100000 in
theorem modded_0f (R : Rs w N B a len cap zs p sh bd) {i : In} {x : Bool} {q : Nat} {s b : Bool} (h : ∀ W, Rs W N B a len cap zs (p) sh bd → Calls Tryd.prog 32 #[rp B] W fun e w' => e = .returned (.tuple #[inV i, .bool (x)]) ∧ Rs w' N B a len cap zs (q) (s) (b) ∧ But [B] W.heap.size W w') :
    Calls Tryd.prog 27 #[rp B, .int .u8 15] w fun e w' => e = .returned (.tuple #[inV i, .bool (x)]) ∧ Rs w' N B a len cap zs (q) (s) (b) ∧ But [B] w.heap.size w w' := by
  have hB := R.lt
  have F := RF.start R 28 z16
  have hX := Lib.hid h
  clear h
  go_enter Tryd.func27, Tryd.ntmps27
  go_upto_region 1 with fail
  generalize w.alloc (.cells z16 28) = w1 at *
  go_wp2_with (first | ((with_reducible refine (hX.out _ F.r).mono ?_); rintro e w2 ⟨rfl, R2, k2⟩; have F2 := F.read R2 k2) | ((with_reducible refine store_inR rfl _ _ rfl _ (in16 i) z16 rfl rfl F2.z (in16_size _) z16_size (in16_one _) ?_); intro wz kz bz hz; have FZ := F2.done kz bz))
  exact bodyPost_ret (v := .tuple #[inV i, .bool (x)]) (results_ct rfl _ _ w.heap.size 28 (in16 i) (0, 0) _ _ rfl rfl FZ.z.h Tryd.underlying28 rfl (szIn inZ)) rfl ⟨rfl, FZ.r, FZ.k⟩
set_option maxRecDepth 100000 in
theorem modded_no (R : Rs w N B a len cap zs p sh bd) {c : Int} (h : ¬ c = 15 ∧ ¬ c = 129 ∧ ¬ c = 131 ∧ ¬ c = 133 ∧ ¬ c = 135 ∧ ¬ c = 136 ∧ ¬ c = 137 ∧ ¬ c = 138 ∧ ¬ c = 139 ∧ ¬ c = 141 ∧ ¬ c = 193 ∧ ¬ c = 198 ∧ ¬ c = 199 ∧ ¬ c = 209 ∧ ¬ c = 211 ∧ ¬ c = 217 ∧ ¬ c = 220 ∧ ¬ c = 221 ∧ ¬ c = 247 ∧ ¬ c = 255) :
    Calls Tryd.prog 27 #[rp B, .int .u8 c] w fun e w' => e = .returned (.tuple #[inV inZ, .bool (true)]) ∧ Rs w' N B a len cap zs (p) (sh) (bd) ∧ But [B] w.heap.size w w' := by
  have hB := R.lt
  have F := RF.start R 28 z16
  obtain ⟨h15, h129, h131, h133, h135, h136, h137, h138, h139, h141, h193, h198, h199, h209, h211, h217, h220, h221, h247, h255⟩ := h
  have e15 : (c == 15) = false := by simp [h15]
  have e129 : (c == 129) = false := by simp [h129]
  have e131 : (c == 131) = false := by simp [h131]
  have e133 : (c == 133) = false := by simp [h133]
  have e135 : (c == 135) = false := by simp [h135]
  have e136 : (c == 136) = false := by simp [h136]
  have e137 : (c == 137) = false := by simp [h137]
  have e138 : (c == 138) = false := by simp [h138]
  have e139 : (c == 139) = false := by simp [h139]
  have e141 : (c == 141) = false := by simp [h141]
  have e193 : (c == 193) = false := by simp [h193]
  have e198 : (c == 198) = false := by simp [h198]
  have e199 : (c == 199) = false := by simp [h199]
  have e209 : (c == 209) = false := by simp [h209]
  have e211 : (c == 211) = false := by simp [h211]
  have e217 : (c == 217) = false := by simp [h217]
  have e220 : (c == 220) = false := by simp [h220]
  have e221 : (c == 221) = false := by simp [h221]
  have e247 : (c == 247) = false := by simp [h247]
  have e255 : (c == 255) = false := by simp [h255]
  clear h15 h129 h131 h133 h135 h136 h137 h138 h139 h141 h193 h198 h199 h209 h211 h217 h220 h221 h247 h255
  go_enter Tryd.func27, Tryd.ntmps27
  go_upto_region 1 with fail
  generalize w.alloc (.cells z16 28) = w1 at *
  go_wp2_with (first | ((with_reducible refine store_inR rfl _ _ rfl _ (in16 inZ) z16 rfl rfl F.z (in16_size _) z16_size (in16_one _) ?_); intro wz kz bz hz; have FZ := F.done kz bz))
  exact bodyPost_ret (v := .tuple #[inV inZ, .bool (true)]) (results_ct rfl _ _ w.heap.size 28 (in16 inZ) (0, 0) _ _ rfl rfl FZ.z.h Tryd.underlying28 rfl (szIn inZ)) rfl ⟨rfl, FZ.r, FZ.k⟩
set_option maxRecDepth 100000 in
theorem modded_81_short (R : Rs w N B a len cap zs p false false) (hs : mS zs p false = true) {i : In} {x : Bool} {q : Nat} {s b : Bool} (h : ∀ W, Rs W N B a len cap zs (mP zs p false) true false → Calls Tryd.prog 33 #[rp B, .int .u8 129] W fun e w' => e = .returned (.tuple #[inV i, .bool (x)]) ∧ Rs w' N B a len cap zs (q) (s) (b) ∧ But [B] W.heap.size W w') :
    Calls Tryd.prog 27 #[rp B, .int .u8 129] w fun e w' => e = .returned (.tuple #[inV i, .bool (x)]) ∧ Rs w' N B a len cap zs (q) (s) (b) ∧ But [B] w.heap.size w w' := by
  have hB := R.lt
  have F := RF.start R 28 z16
  have hX := Lib.hid (fun W (R : Rs W N B a len cap zs p false false) => modrm_ref R)
  rw [hs] at hX
  have hY := Lib.hid h
  clear h
  generalize mO zs p false = o at *
  generalize mP zs p false = q0 at *
  generalize mN zs p = n at *
  go_enter Tryd.func27, Tryd.ntmps27
  go_upto_region 1 with fail
  generalize w.alloc (.cells z16 28) = w1 at *
  go_upto_region 25 with (first | ((with_reducible refine (hX.out _ F.r).mono ?_); rintro e w2 ⟨rfl, R2, k2⟩; have F2 := F.read R2 k2) | ((with_reducible refine store_op_as rfl _ _ rfl (op6 o) (op6_size _) (op6_one _) rfl rfl ?_); intro w3 kO b3; have F3 := F2.below b3; have hK := F2.lt))
  generalize w2.heap.size = K at *
  have hBK : K ∉ [B] := by simp; omega
  have c2 := F3.r.c2
  go_upto_region 26 with fail
  go_wp2_with (first | ((with_reducible refine (hY.out _ F3.r).mono ?_); rintro e w4 ⟨rfl, R4, k4⟩; have F4 := F3.read R4 k4) | ((with_reducible refine store_inR rfl _ _ rfl _ (in16 i) z16 rfl rfl F4.z (in16_size _) z16_size (in16_one _) ?_); intro wz kz bz hz; have FZ := F4.done kz bz))
  exact bodyPost_ret (v := .tuple #[inV i, .bool (x)]) (results_ct rfl _ _ w.heap.size 28 (in16 i) (0, 0) _ _ rfl rfl FZ.z.h Tryd.underlying28 rfl (szIn inZ)) rfl ⟨rfl, FZ.r, FZ.k⟩
set_option maxRecDepth 100000 in
theorem modded_83_short (R : Rs w N B a len cap zs p false false) (hs : mS zs p false = true) {i : In} {x : Bool} {q : Nat} {s b : Bool} (h : ∀ W, Rs W N B a len cap zs (mP zs p false) true false → Calls Tryd.prog 33 #[rp B, .int .u8 131] W fun e w' => e = .returned (.tuple #[inV i, .bool (x)]) ∧ Rs w' N B a len cap zs (q) (s) (b) ∧ But [B] W.heap.size W w') :
    Calls Tryd.prog 27 #[rp B, .int .u8 131] w fun e w' => e = .returned (.tuple #[inV i, .bool (x)]) ∧ Rs w' N B a len cap zs (q) (s) (b) ∧ But [B] w.heap.size w w' := by
  have hB := R.lt
  have F := RF.start R 28 z16
  have hX := Lib.hid (fun W (R : Rs W N B a len cap zs p false false) => modrm_ref R)
  rw [hs] at hX
  have hY := Lib.hid h
  clear h
  generalize mO zs p false = o at *
  generalize mP zs p false = q0 at *
  generalize mN zs p = n at *
  go_enter Tryd.func27, Tryd.ntmps27
  go_upto_region 1 with fail
  generalize w.alloc (.cells z16 28) = w1 at *
  go_upto_region 25 with (first | ((with_reducible refine (hX.out _ F.r).mono ?_); rintro e w2 ⟨rfl, R2, k2⟩; have F2 := F.read R2 k2) | ((with_reducible refine store_op_as rfl _ _ rfl (op6 o) (op6_size _) (op6_one _) rfl rfl ?_); intro w3 kO b3; have F3 := F2.below b3; have hK := F2.lt))
  generalize w2.heap.size = K at *
  have hBK : K ∉ [B] := by simp; omega
  have c2 := F3.r.c2
  go_upto_region 26 with fail
  go_wp2_with (first | ((with_reducible refine (hY.out _ F3.r).mono ?_); rintro e w4 ⟨rfl, R4, k4⟩; have F4 := F3.read R4 k4) | ((with_reducible refine store_inR rfl _ _ rfl _ (in16 i) z16 rfl rfl F4.z (in16_size _) z16_size (in16_one _) ?_); intro wz kz bz hz; have FZ := F4.done kz bz))
  exact bodyPost_ret (v := .tuple #[inV i, .bool (x)]) (results_ct rfl _ _ w.heap.size 28 (in16 i) (0, 0) _ _ rfl rfl FZ.z.h Tryd.underlying28 rfl (szIn inZ)) rfl ⟨rfl, FZ.r, FZ.k⟩
set_option maxRecDepth 100000 in
theorem modded_85_short (R : Rs w N B a len cap zs p false false) (hs : mS zs p false = true) {i : In} {x : Bool} {q : Nat} {s b : Bool} (h : ∀ W, Rs W N B a len cap zs (mP zs p false) true false → Calls Tryd.prog 33 #[rp B, .int .u8 133] W fun e w' => e = .returned (.tuple #[inV i, .bool (x)]) ∧ Rs w' N B a len cap zs (q) (s) (b) ∧ But [B] W.heap.size W w') :
    Calls Tryd.prog 27 #[rp B, .int .u8 133] w fun e w' => e = .returned (.tuple #[inV i, .bool (x)]) ∧ Rs w' N B a len cap zs (q) (s) (b) ∧ But [B] w.heap.size w w' := by
  have hB := R.lt
  have F := RF.start R 28 z16
  have hX := Lib.hid (fun W (R : Rs W N B a len cap zs p false false) => modrm_ref R)
  rw [hs] at hX
  have hY := Lib.hid h
  clear h
  generalize mO zs p false = o at *
  generalize mP zs p false = q0 at *
  generalize mN zs p = n at *
  go_enter Tryd.func27, Tryd.ntmps27
  go_upto_region 1 with fail
  generalize w.alloc (.cells z16 28) = w1 at *
  go_upto_region 25 with (first | ((with_reducible refine (hX.out _ F.r).mono ?_); rintro e w2 ⟨rfl, R2, k2⟩; have F2 := F.read R2 k2) | ((with_reducible refine store_op_as rfl _ _ rfl (op6 o) (op6_size _) (op6_one _) rfl rfl ?_); intro w3 kO b3; have F3 := F2.below b3; have hK := F2.lt))
  generalize w2.heap.size = K at *
  have hBK : K ∉ [B] := by simp; omega
  have c2 := F3.r.c2
  go_upto_region 26 with fail
  go_wp2_with (first | ((with_reducible refine (hY.out _ F3.r).mono ?_); rintro e w4 ⟨rfl, R4, k4⟩; have F4 := F3.read R4 k4) | ((with_reducible refine store_inR rfl _ _ rfl _ (in16 i) z16 rfl rfl F4.z (in16_size _) z16_size (in16_one _) ?_); intro wz kz bz hz; have FZ := F4.done kz bz))
  exact bodyPost_ret (v := .tuple #[inV i, .bool (x)]) (results_ct rfl _ _ w.heap.size 28 (in16 i) (0, 0) _ _ rfl rfl FZ.z.h Tryd.underlying28 rfl (szIn inZ)) rfl ⟨rfl, FZ.r, FZ.k⟩
set_option maxRecDepth 100000 in
theorem modded_87_short (R : Rs w N B a len cap zs p false false) (hs : mS zs p false = true) {i : In} {x : Bool} {q : Nat} {s b : Bool} (h : ∀ W, Rs W N B a len cap zs (mP zs p false) true false → Calls Tryd.prog 33 #[rp B, .int .u8 135] W fun e w' => e = .returned (.tuple #[inV i, .bool (x)]) ∧ Rs w' N B a len cap zs (q) (s) (b) ∧ But [B] W.heap.size W w') :
    Calls Tryd.prog 27 #[rp B, .int .u8 135] w fun e w' => e = .returned (.tuple #[inV i, .bool (x)]) ∧ Rs w' N B a len cap zs (q) (s) (b) ∧ But [B] w.heap.size w w' := by
  have hB := R.lt
  have F := RF.start R 28 z16
  have hX := Lib.hid (fun W (R : Rs W N B a len cap zs p false false) => modrm_ref R)
  rw [hs] at hX
  have hY := Lib.hid h
  clear h
  generalize mO zs p false = o at *
  generalize mP zs p false = q0 at *
  generalize mN zs p = n at *
  go_enter Tryd.func27, Tryd.ntmps27
  go_upto_region 1 with fail
  generalize w.alloc (.cells z16 28) = w1 at *
  go_upto_region 25 with (first | ((with_reducible refine (hX.out _ F.r).mono ?_); rintro e w2 ⟨rfl, R2, k2⟩; have F2 := F.read R2 k2) | ((with_reducible refine store_op_as rfl _ _ rfl (op6 o) (op6_size _) (op6_one _) rfl rfl ?_); intro w3 kO b3; have F3 := F2.below b3; have hK := F2.lt))
  generalize w2.heap.size = K at *
  have hBK : K ∉ [B] := by simp; omega
  have c2 := F3.r.c2
  go_upto_region 26 with fail
  go_wp2_with (first | ((with_reducible refine (hY.out _ F3.r).mono ?_); rintro e w4 ⟨rfl, R4, k4⟩; have F4 := F3.read R4 k4) | ((with_reducible refine store_inR rfl _ _ rfl _ (in16 i) z16 rfl rfl F4.z (in16_size _) z16_size (in16_one _) ?_); intro wz kz bz hz; have FZ := F4.done kz bz))
  exact bodyPost_ret (v := .tuple #[inV i, .bool (x)]) (results_ct rfl _ _ w.heap.size 28 (in16 i) (0, 0) _ _ rfl rfl FZ.z.h Tryd.underlying28 rfl (szIn inZ)) rfl ⟨rfl, FZ.r, FZ.k⟩
set_option maxRecDepth 100000 in
theorem modded_88_short (R : Rs w N B a len cap zs p false false) (hs : mS zs p false = true) {i : In} {x : Bool} {q : Nat} {s b : Bool} (h : ∀ W, Rs W N B a len cap zs (mP zs p false) true false → Calls Tryd.prog 33 #[rp B, .int .u8 136] W fun e w' => e = .returned (.tuple #[inV i, .bool (x)]) ∧ Rs w' N B a len cap zs (q) (s) (b) ∧ But [B] W.heap.size W w') :
    Calls Tryd.prog 27 #[rp B, .int .u8 136] w fun e w' => e = .returned (.tuple #[inV i, .bool (x)]) ∧ Rs w' N B a len cap zs (q) (s) (b) ∧ But [B] w.heap.size w w' := by
  have hB := R.lt
  have F := RF.start R 28 z16
  have hX := Lib.hid (fun W (R : Rs W N B a len cap zs p false false) => modrm_ref R)
  rw [hs] at hX
  have hY := Lib.hid h
  clear h
  generalize mO zs p false = o at *
  generalize mP zs p false = q0 at *
  generalize mN zs p = n at *
  go_enter Tryd.func27, Tryd.ntmps27
  go_upto_region 1 with fail
  generalize w.alloc (.cells z16 28) = w1 at *
  go_upto_region 25 with (first | ((with_reducible refine (hX.out _ F.r).mono ?_); rintro e w2 ⟨rfl, R2, k2⟩; have F2 := F.read R2 k2) | ((with_reducible refine store_op_as rfl _ _ rfl (op6 o) (op6_size _) (op6_one _) rfl rfl ?_); intro w3 kO b3; have F3 := F2.below b3; have hK := F2.lt))
  generalize w2.heap.size = K at *
  have hBK : K ∉ [B] := by simp; omega
  have c2 := F3.r.c2
  go_upto_region 26 with fail
  go_wp2_with (first | ((with_reducible refine (hY.out _ F3.r).mono ?_); rintro e w4 ⟨rfl, R4, k4⟩; have F4 := F3.read R4 k4) | ((with_reducible refine store_inR rfl _ _ rfl _ (in16 i) z16 rfl rfl F4.z (in16_size _) z16_size (in16_one _) ?_); intro wz kz bz hz; have FZ := F4.done kz bz))
  exact bodyPost_ret (v := .tuple #[inV i, .bool (x)]) (results_ct rfl _ _ w.heap.size 28 (in16 i) (0, 0) _ _ rfl rfl FZ.z.h Tryd.underlying28 rfl (szIn inZ)) rfl ⟨rfl, FZ.r, FZ.k⟩
set_option maxRecDepth 100000 in
theorem modded_89_short (R : Rs w N B a len cap zs p false false) (hs : mS zs p false = true) {i : In} {x : Bool} {q : Nat} {s b : Bool} (h : ∀ W, Rs W N B a len cap zs (mP zs p false) true false → Calls Tryd.prog 33 #[rp B, .int .u8 137] W fun e w' => e = .returned (.tuple #[inV i, .bool (x)]) ∧ Rs w' N B a len cap zs (q) (s) (b) ∧ But [B] W.heap.size W w') :
    Calls Tryd.prog 27 #[rp B, .int .u8 137] w fun e w' => e = .returned (.tuple #[inV i, .bool (x)]) ∧ Rs w' N B a len cap zs (q) (s) (b) ∧ But [B] w.heap.size w w' := by
  have hB := R.lt
  have F := RF.start R 28 z16
  have hX := Lib.hid (fun W (R : Rs W N B a len cap zs p false false) => modrm_ref R)
  rw [hs] at hX
  have hY := Lib.hid h
  clear h
  generalize mO zs p false = o at *
  generalize mP zs p false = q0 at *
  generalize mN zs p = n at *
  go_enter Tryd.func27, Tryd.ntmps27
  go_upto_region 1 with fail
  generalize w.alloc (.cells z16 28) = w1 at *
  go_upto_region 25 with (first | ((with_reducible refine (hX.out _ F.r).mono ?_); rintro e w2 ⟨rfl, R2, k2⟩; have F2 := F.read R2 k2) | ((with_reducible refine store_op_as rfl _ _ rfl (op6 o) (op6_size _) (op6_one _) rfl rfl ?_); intro w3 kO b3; have F3 := F2.below b3; have hK := F2.lt))
  generalize w2.heap.size = K at *
  have hBK : K ∉ [B] := by simp; omega
  have c2 := F3.r.c2
  go_upto_region 26 with fail
  go_wp2_with (first | ((with_reducible refine (hY.out _ F3.r).mono ?_); rintro e w4 ⟨rfl, R4, k4⟩; have F4 := F3.read R4 k4) | ((with_reducible refine store_inR rfl _ _ rfl _ (in16 i) z16 rfl rfl F4.z (in16_size _) z16_size (in16_one _) ?_); intro wz kz bz hz; have FZ := F4.done kz bz))
  exact bodyPost_ret (v := .tuple #[inV i, .bool (x)]) (results_ct rfl _ _ w.heap.size 28 (in16 i) (0, 0) _ _ rfl rfl FZ.z.h Tryd.underlying28 rfl (szIn inZ)) rfl ⟨rfl, FZ.r, FZ.k⟩
set_option maxRecDepth 100000 in
theorem modded_8a_short (R : Rs w N B a len cap zs p false false) (hs : mS zs p false = true) {i : In} {x : Bool} {q : Nat} {s b : Bool} (h : ∀ W, Rs W N B a len cap zs (mP zs p false) true false → Calls Tryd.prog 33 #[rp B, .int .u8 138] W fun e w' => e = .returned (.tuple #[inV i, .bool (x)]) ∧ Rs w' N B a len cap zs (q) (s) (b) ∧ But [B] W.heap.size W w') :
    Calls Tryd.prog 27 #[rp B, .int .u8 138] w fun e w' => e = .returned (.tuple #[inV i, .bool (x)]) ∧ Rs w' N B a len cap zs (q) (s) (b) ∧ But [B] w.heap.size w w' := by
  have hB := R.lt
  have F := RF.start R 28 z16
  have hX := Lib.hid (fun W (R : Rs W N B a len cap zs p false false) => modrm_ref R)
  rw [hs] at hX
  have hY := Lib.hid h
  clear h
  generalize mO zs p false = o at *
  generalize mP zs p false = q0 at *
  generalize mN zs p = n at *
  go_enter Tryd.func27, Tryd.ntmps27
  go_upto_region 1 with fail
  generalize w.alloc (.cells z16 28) = w1 at *
  go_upto_region 25 with (first | ((with_reducible refine (hX.out _ F.r).mono ?_); rintro e w2 ⟨rfl, R2, k2⟩; have F2 := F.read R2 k2) | ((with_reducible refine store_op_as rfl _ _ rfl (op6 o) (op6_size _) (op6_one _) rfl rfl ?_); intro w3 kO b3; have F3 := F2.below b3; have hK := F2.lt))
  generalize w2.heap.size = K at *
  have hBK : K ∉ [B] := by simp; omega
  have c2 := F3.r.c2
  go_upto_region 26 with fail
  go_wp2_with (first | ((with_reducible refine (hY.out _ F3.r).mono ?_); rintro e w4 ⟨rfl, R4, k4⟩; have F4 := F3.read R4 k4) | ((with_reducible refine store_inR rfl _ _ rfl _ (in16 i) z16 rfl rfl F4.z (in16_size _) z16_size (in16_one _) ?_); intro wz kz bz hz; have FZ := F4.done kz bz))
  exact bodyPost_ret (v := .tuple #[inV i, .bool (x)]) (results_ct rfl _ _ w.heap.size 28 (in16 i) (0, 0) _ _ rfl rfl FZ.z.h Tryd.underlying28 rfl (szIn inZ)) rfl ⟨rfl, FZ.r, FZ.k⟩
set_option maxRecDepth 100000 in
theorem modded_8b_short (R : Rs w N B a len cap zs p false false) (hs : mS zs p false = true) {i : In} {x : Bool} {q : Nat} {s b : Bool} (h : ∀ W, Rs W N B a len cap zs (mP zs p false) true false → Calls Tryd.prog 33 #[rp B, .int .u8 139] W fun e w' => e = .returned (.tuple #[inV i, .bool (x)]) ∧ Rs w' N B a len cap zs (q) (s) (b) ∧ But [B] W.heap.size W w') :
    Calls Tryd.prog 27 #[rp B, .int .u8 139] w fun e w' => e = .returned (.tuple #[inV i, .bool (x)]) ∧ Rs w' N B a len cap zs (q) (s) (b) ∧ But [B] w.heap.size w w' := by
  have hB := R.lt
  have F := RF.start R 28 z16
  have hX := Lib.hid (fun W (R : Rs W N B a len cap zs p false false) => modrm_ref R)
  rw [hs] at hX
  have hY := Lib.hid h
  clear h
  generalize mO zs p false = o at *
  generalize mP zs p false = q0 at *
  generalize mN zs p = n at *
  go_enter Tryd.func27, Tryd.ntmps27
  go_upto_region 1 with fail
  generalize w.alloc (.cells z16 28) = w1 at *
  go_upto_region 25 with (first | ((with_reducible refine (hX.out _ F.r).mono ?_); rintro e w2 ⟨rfl, R2, k2⟩; have F2 := F.read R2 k2) | ((with_reducible refine store_op_as rfl _ _ rfl (op6 o) (op6_size _) (op6_one _) rfl rfl ?_); intro w3 kO b3; have F3 := F2.below b3; have hK := F2.lt))
  generalize w2.heap.size = K at *
  have hBK : K ∉ [B] := by simp; omega
  have c2 := F3.r.c2
  go_upto_region 26 with fail
  go_wp2_with (first | ((with_reducible refine (hY.out _ F3.r).mono ?_); rintro e w4 ⟨rfl, R4, k4⟩; have F4 := F3.read R4 k4) | ((with_reducible refine store_inR rfl _ _ rfl _ (in16 i) z16 rfl rfl F4.z (in16_size _) z16_size (in16_one _) ?_); intro wz kz bz hz; have FZ := F4.done kz bz))
  exact bodyPost_ret (v := .tuple #[inV i, .bool (x)]) (results_ct rfl _ _ w.heap.size 28 (in16 i) (0, 0) _ _ rfl rfl FZ.z.h Tryd.underlying28 rfl (szIn inZ)) rfl ⟨rfl, FZ.r, FZ.k⟩
set_option maxRecDepth 100000 in
theorem modded_8d_short (R : Rs w N B a len cap zs p false false) (hs : mS zs p false = true) {i : In} {x : Bool} {q : Nat} {s b : Bool} (h : ∀ W, Rs W N B a len cap zs (mP zs p false) true false → Calls Tryd.prog 33 #[rp B, .int .u8 141] W fun e w' => e = .returned (.tuple #[inV i, .bool (x)]) ∧ Rs w' N B a len cap zs (q) (s) (b) ∧ But [B] W.heap.size W w') :
    Calls Tryd.prog 27 #[rp B, .int .u8 141] w fun e w' => e = .returned (.tuple #[inV i, .bool (x)]) ∧ Rs w' N B a len cap zs (q) (s) (b) ∧ But [B] w.heap.size w w' := by
  have hB := R.lt
  have F := RF.start R 28 z16
  have hX := Lib.hid (fun W (R : Rs W N B a len cap zs p false false) => modrm_ref R)
  rw [hs] at hX
  have hY := Lib.hid h
  clear h
  generalize mO zs p false = o at *
  generalize mP zs p false = q0 at *
  generalize mN zs p = n at *
  go_enter Tryd.func27, Tryd.ntmps27
  go_upto_region 1 with fail
  generalize w.alloc (.cells z16 28) = w1 at *
  go_upto_region 25 with (first | ((with_reducible refine (hX.out _ F.r).mono ?_); rintro e w2 ⟨rfl, R2, k2⟩; have F2 := F.read R2 k2) | ((with_reducible refine store_op_as rfl _ _ rfl (op6 o) (op6_size _) (op6_one _) rfl rfl ?_); intro w3 kO b3; have F3 := F2.below b3; have hK := F2.lt))
  generalize w2.heap.size = K at *
  have hBK : K ∉ [B] := by simp; omega
  have c2 := F3.r.c2
  go_upto_region 26 with fail
  go_wp2_with (first | ((with_reducible refine (hY.out _ F3.r).mono ?_); rintro e w4 ⟨rfl, R4, k4⟩; have F4 := F3.read R4 k4) | ((with_reducible refine store_inR rfl _ _ rfl _ (in16 i) z16 rfl rfl F4.z (in16_size _) z16_size (in16_one _) ?_); intro wz kz bz hz; have FZ := F4.done kz bz))
  exact bodyPost_ret (v := .tuple #[inV i, .bool (x)]) (results_ct rfl _ _ w.heap.size 28 (in16 i) (0, 0) _ _ rfl rfl FZ.z.h Tryd.underlying28 rfl (szIn inZ)) rfl ⟨rfl, FZ.r, FZ.k⟩
set_option maxRecDepth 100000 in
theorem modded_c1_short (R : Rs w N B a len cap zs p false false) (hs : mS zs p false = true) {i : In} {x : Bool} {q : Nat} {s b : Bool} (h : ∀ W, Rs W N B a len cap zs (mP zs p false) true false → Calls Tryd.prog 33 #[rp B, .int .u8 193] W fun e w' => e = .returned (.tuple #[inV i, .bool (x)]) ∧ Rs w' N B a len cap zs (q) (s) (b) ∧ But [B] W.heap.size W w') :
    Calls Tryd.prog 27 #[rp B, .int .u8 193] w fun e w' => e = .returned (.tuple #[inV i, .bool (x)]) ∧ Rs w' N B a len cap zs (q) (s) (b) ∧ But [B] w.heap.size w w' := by
  have hB := R.lt
  have F := RF.start R 28 z16
  have hX := Lib.hid (fun W (R : Rs W N B a len cap zs p false false) => modrm_ref R)
  rw [hs] at hX
  have hY := Lib.hid h
  clear h
  generalize mO zs p false = o at *
  generalize mP zs p false = q0 at *
  generalize mN zs p = n at *
  go_enter Tryd.func27, Tryd.ntmps27
  go_upto_region 1 with fail
  generalize w.alloc (.cells z16 28) = w1 at *
  go_upto_region 25 with (first | ((with_reducible refine (hX.out _ F.r).mono ?_); rintro e w2 ⟨rfl, R2, k2⟩; have F2 := F.read R2 k2) | ((with_reducible refine store_op_as rfl _ _ rfl (op6 o) (op6_size _) (op6_one _) rfl rfl ?_); intro w3 kO b3; have F3 := F2.below b3; have hK := F2.lt))
  generalize w2.heap.size = K at *
  have hBK : K ∉ [B] := by simp; omega
  have c2 := F3.r.c2
  go_upto_region 26 with fail
  go_wp2_with (first | ((with_reducible refine (hY.out _ F3.r).mono ?_); rintro e w4 ⟨rfl, R4, k4⟩; have F4 := F3.read R4 k4) | ((with_reducible refine store_inR rfl _ _ rfl _ (in16 i) z16 rfl rfl F4.z (in16_size _) z16_size (in16_one _) ?_); intro wz kz bz hz; have FZ := F4.done kz bz))
  exact bodyPost_ret (v := .tuple #[inV i, .bool (x)]) (results_ct rfl _ _ w.heap.size 28 (in16 i) (0, 0) _ _ rfl rfl FZ.z.h Tryd.underlying28 rfl (szIn inZ)) rfl ⟨rfl, FZ.r, FZ.k⟩
set_option maxRecDepth 100000 in
theorem modded_c6_short (R : Rs w N B a len cap zs p false false) (hs : mS zs p false = true) {i : In} {x : Bool} {q : Nat} {s b : Bool} (h : ∀ W, Rs W N B a len cap zs (mP zs p false) true false → Calls Tryd.prog 33 #[rp B, .int .u8 198] W fun e w' => e = .returned (.tuple #[inV i, .bool (x)]) ∧ Rs w' N B a len cap zs (q) (s) (b) ∧ But [B] W.heap.size W w') :
    Calls Tryd.prog 27 #[rp B, .int .u8 198] w fun e w' => e = .returned (.tuple #[inV i, .bool (x)]) ∧ Rs w' N B a len cap zs (q) (s) (b) ∧ But [B] w.heap.size w w' := by
  have hB := R.lt
  have F := RF.start R 28 z16
  have hX := Lib.hid (fun W (R : Rs W N B a len cap zs p false false) => modrm_ref R)
  rw [hs] at hX
  have hY := Lib.hid h
  clear h
  generalize mO zs p false = o at *
  generalize mP zs p false = q0 at *
  generalize mN zs p = n at *
  go_enter Tryd.func27, Tryd.ntmps27
  go_upto_region 1 with fail
  generalize w.alloc (.cells z16 28) = w1 at *
  go_upto_region 25 with (first | ((with_reducible refine (hX.out _ F.r).mono ?_); rintro e w2 ⟨rfl, R2, k2⟩; have F2 := F.read R2 k2) | ((with_reducible refine store_op_as rfl _ _ rfl (op6 o) (op6_size _) (op6_one _) rfl rfl ?_); intro w3 kO b3; have F3 := F2.below b3; have hK := F2.lt))
  generalize w2.heap.size = K at *
  have hBK : K ∉ [B] := by simp; omega
  have c2 := F3.r.c2
  go_upto_region 26 with fail
  go_wp2_with (first | ((with_reducible refine (hY.out _ F3.r).mono ?_); rintro e w4 ⟨rfl, R4, k4⟩; have F4 := F3.read R4 k4) | ((with_reducible refine store_inR rfl _ _ rfl _ (in16 i) z16 rfl rfl F4.z (in16_size _) z16_size (in16_one _) ?_); intro wz kz bz hz; have FZ := F4.done kz bz))
  exact bodyPost_ret (v := .tuple #[inV i, .bool (x)]) (results_ct rfl _ _ w.heap.size 28 (in16 i) (0, 0) _ _ rfl rfl FZ.z.h Tryd.underlying28 rfl (szIn inZ)) rfl ⟨rfl, FZ.r, FZ.k⟩
set_option maxRecDepth 100000 in
theorem modded_c7_short (R : Rs w N B a len cap zs p false false) (hs : mS zs p false = true) {i : In} {x : Bool} {q : Nat} {s b : Bool} (h : ∀ W, Rs W N B a len cap zs (mP zs p false) true false → Calls Tryd.prog 33 #[rp B, .int .u8 199] W fun e w' => e = .returned (.tuple #[inV i, .bool (x)]) ∧ Rs w' N B a len cap zs (q) (s) (b) ∧ But [B] W.heap.size W w') :
    Calls Tryd.prog 27 #[rp B, .int .u8 199] w fun e w' => e = .returned (.tuple #[inV i, .bool (x)]) ∧ Rs w' N B a len cap zs (q) (s) (b) ∧ But [B] w.heap.size w w' := by
  have hB := R.lt
  have F := RF.start R 28 z16
  have hX := Lib.hid (fun W (R : Rs W N B a len cap zs p false false) => modrm_ref R)
  rw [hs] at hX
  have hY := Lib.hid h
  clear h
  generalize mO zs p false = o at *
  generalize mP zs p false = q0 at *
  generalize mN zs p = n at *
  go_enter Tryd.func27, Tryd.ntmps27
  go_upto_region 1 with fail
  generalize w.alloc (.cells z16 28) = w1 at *
  go_upto_region 25 with (first | ((with_reducible refine (hX.out _ F.r).mono ?_); rintro e w2 ⟨rfl, R2, k2⟩; have F2 := F.read R2 k2) | ((with_reducible refine store_op_as rfl _ _ rfl (op6 o) (op6_size _) (op6_one _) rfl rfl ?_); intro w3 kO b3; have F3 := F2.below b3; have hK := F2.lt))
  generalize w2.heap.size = K at *
  have hBK : K ∉ [B] := by simp; omega
  have c2 := F3.r.c2
  go_upto_region 26 with fail
  go_wp2_with (first | ((with_reducible refine (hY.out _ F3.r).mono ?_); rintro e w4 ⟨rfl, R4, k4⟩; have F4 := F3.read R4 k4) | ((with_reducible refine store_inR rfl _ _ rfl _ (in16 i) z16 rfl rfl F4.z (in16_size _) z16_size (in16_one _) ?_); intro wz kz bz hz; have FZ := F4.done kz bz))
  exact bodyPost_ret (v := .tuple #[inV i, .bool (x)]) (results_ct rfl _ _ w.heap.size 28 (in16 i) (0, 0) _ _ rfl rfl FZ.z.h Tryd.underlying28 rfl (szIn inZ)) rfl ⟨rfl, FZ.r, FZ.k⟩
set_option maxRecDepth 100000 in
theorem modded_d1_short (R : Rs w N B a len cap zs p false false) (hs : mS zs p false = true) {i : In} {x : Bool} {q : Nat} {s b : Bool} (h : ∀ W, Rs W N B a len cap zs (mP zs p false) true false → Calls Tryd.prog 33 #[rp B, .int .u8 209] W fun e w' => e = .returned (.tuple #[inV i, .bool (x)]) ∧ Rs w' N B a len cap zs (q) (s) (b) ∧ But [B] W.heap.size W w') :
    Calls Tryd.prog 27 #[rp B, .int .u8 209] w fun e w' => e = .returned (.tuple #[inV i, .bool (x)]) ∧ Rs w' N B a len cap zs (q) (s) (b) ∧ But [B] w.heap.size w w' := by
  have hB := R.lt
  have F := RF.start R 28 z16
  have hX := Lib.hid (fun W (R : Rs W N B a len cap zs p false false) => modrm_ref R)
  rw [hs] at hX
  have hY := Lib.hid h
  clear h
  generalize mO zs p false = o at *
  generalize mP zs p false = q0 at *
  generalize mN zs p = n at *
  go_enter Tryd.func27, Tryd.ntmps27
  go_upto_region 1 with fail
  generalize w.alloc (.cells z16 28) = w1 at *
  go_upto_region 25 with (first | ((with_reducible refine (hX.out _ F.r).mono ?_); rintro e w2 ⟨rfl, R2, k2⟩; have F2 := F.read R2 k2) | ((with_reducible refine store_op_as rfl _ _ rfl (op6 o) (op6_size _) (op6_one _) rfl rfl ?_); intro w3 kO b3; have F3 := F2.below b3; have hK := F2.lt))
  generalize w2.heap.size = K at *
  have hBK : K ∉ [B] := by simp; omega
  have c2 := F3.r.c2
  go_upto_region 26 with fail
  go_wp2_with (first | ((with_reducible refine (hY.out _ F3.r).mono ?_); rintro e w4 ⟨rfl, R4, k4⟩; have F4 := F3.read R4 k4) | ((with_reducible refine store_inR rfl _ _ rfl _ (in16 i) z16 rfl rfl F4.z (in16_size _) z16_size (in16_one _) ?_); intro wz kz bz hz; have FZ := F4.done kz bz))
  exact bodyPost_ret (v := .tuple #[inV i, .bool (x)]) (results_ct rfl _ _ w.heap.size 28 (in16 i) (0, 0) _ _ rfl rfl FZ.z.h Tryd.underlying28 rfl (szIn inZ)) rfl ⟨rfl, FZ.r, FZ.k⟩
set_option maxRecDepth 100000 in
theorem modded_d3_short (R : Rs w N B a len cap zs p false false) (hs : mS zs p false = true) {i : In} {x : Bool} {q : Nat} {s b : Bool} (h : ∀ W, Rs W N B a len cap zs (mP zs p false) true false → Calls Tryd.prog 33 #[rp B, .int .u8 211] W fun e w' => e = .returned (.tuple #[inV i, .bool (x)]) ∧ Rs w' N B a len cap zs (q) (s) (b) ∧ But [B] W.heap.size W w') :
    Calls Tryd.prog 27 #[rp B, .int .u8 211] w fun e w' => e = .returned (.tuple #[inV i, .bool (x)]) ∧ Rs w' N B a len cap zs (q) (s) (b) ∧ But [B] w.heap.size w w' := by
  have hB := R.lt
  have F := RF.start R 28 z16
  have hX := Lib.hid (fun W (R : Rs W N B a len cap zs p false false) => modrm_ref R)
  rw [hs] at hX
  have hY := Lib.hid h
  clear h
  generalize mO zs p false = o at *
  generalize mP zs p false = q0 at *
  generalize mN zs p = n at *
  go_enter Tryd.func27, Tryd.ntmps27
  go_upto_region 1 with fail
  generalize w.alloc (.cells z16 28) = w1 at *
  go_upto_region 25 with (first | ((with_reducible refine (hX.out _ F.r).mono ?_); rintro e w2 ⟨rfl, R2, k2⟩; have F2 := F.read R2 k2) | ((with_reducible refine store_op_as rfl _ _ rfl (op6 o) (op6_size _) (op6_one _) rfl rfl ?_); intro w3 kO b3; have F3 := F2.below b3; have hK := F2.lt))
  generalize w2.heap.size = K at *
  have hBK : K ∉ [B] := by simp; omega
  have c2 := F3.r.c2
  go_upto_region 26 with fail
  go_wp2_with (first | ((with_reducible refine (hY.out _ F3.r).mono ?_); rintro e w4 ⟨rfl, R4, k4⟩; have F4 := F3.read R4 k4) | ((with_reducible refine store_inR rfl _ _ rfl _ (in16 i) z16 rfl rfl F4.z (in16_size _) z16_size (in16_one _) ?_); intro wz kz bz hz; have FZ := F4.done kz bz))
  exact bodyPost_ret (v := .tuple #[inV i, .bool (x)]) (results_ct rfl _ _ w.heap.size 28 (in16 i) (0, 0) _ _ rfl rfl FZ.z.h Tryd.underlying28 rfl (szIn inZ)) rfl ⟨rfl, FZ.r, FZ.k⟩
set_option maxRecDepth 100000 in
theorem modded_d9_short (R : Rs w N B a len cap zs p false false) (hs : mS zs p false = true) {i : In} {x : Bool} {q : Nat} {s b : Bool} (h : ∀ W, Rs W N B a len cap zs (mP zs p false) true false → Calls Tryd.prog 33 #[rp B, .int .u8 217] W fun e w' => e = .returned (.tuple #[inV i, .bool (x)]) ∧ Rs w' N B a len cap zs (q) (s) (b) ∧ But [B] W.heap.size W w') :
    Calls Tryd.prog 27 #[rp B, .int .u8 217] w fun e w' => e = .returned (.tuple #[inV i, .bool (x)]) ∧ Rs w' N B a len cap zs (q) (s) (b) ∧ But [B] w.heap.size w w' := by
  have hB := R.lt
  have F := RF.start R 28 z16
  have hX := Lib.hid (fun W (R : Rs W N B a len cap zs p false false) => modrm_ref R)
  rw [hs] at hX
  have hY := Lib.hid h
  clear h
  generalize mO zs p false = o at *
  generalize mP zs p false = q0 at *
  generalize mN zs p = n at *
  go_enter Tryd.func27, Tryd.ntmps27
  go_upto_region 1 with fail
  generalize w.alloc (.cells z16 28) = w1 at *
  go_upto_region 25 with (first | ((with_reducible refine (hX.out _ F.r).mono ?_); rintro e w2 ⟨rfl, R2, k2⟩; have F2 := F.read R2 k2) | ((with_reducible refine store_op_as rfl _ _ rfl (op6 o) (op6_size _) (op6_one _) rfl rfl ?_); intro w3 kO b3; have F3 := F2.below b3; have hK := F2.lt))
  generalize w2.heap.size = K at *
  have hBK : K ∉ [B] := by simp; omega
  have c2 := F3.r.c2
  go_upto_region 26 with fail
  go_wp2_with (first | ((with_reducible refine (hY.out _ F3.r).mono ?_); rintro e w4 ⟨rfl, R4, k4⟩; have F4 := F3.read R4 k4) | ((with_reducible refine store_inR rfl _ _ rfl _ (in16 i) z16 rfl rfl F4.z (in16_size _) z16_size (in16_one _) ?_); intro wz kz bz hz; have FZ := F4.done kz bz))
  exact bodyPost_ret (v := .tuple #[inV i, .bool (x)]) (results_ct rfl _ _ w.heap.size 28 (in16 i) (0, 0) _ _ rfl rfl FZ.z.h Tryd.underlying28 rfl (szIn inZ)) rfl ⟨rfl, FZ.r, FZ.k⟩
set_option maxRecDepth 100000 in
theorem modded_dc_short (R : Rs w N B a len cap zs p false false) (hs : mS zs p false = true) {i : In} {x : Bool} {q : Nat} {s b : Bool} (h : ∀ W, Rs W N B a len cap zs (mP zs p false) true false → Calls Tryd.prog 33 #[rp B, .int .u8 220] W fun e w' => e = .returned (.tuple #[inV i, .bool (x)]) ∧ Rs w' N B a len cap zs (q) (s) (b) ∧ But [B] W.heap.size W w') :
    Calls Tryd.prog 27 #[rp B, .int .u8 220] w fun e w' => e = .returned (.tuple #[inV i, .bool (x)]) ∧ Rs w' N B a len cap zs (q) (s) (b) ∧ But [B] w.heap.size w w' := by
  have hB := R.lt
  have F := RF.start R 28 z16
  have hX := Lib.hid (fun W (R : Rs W N B a len cap zs p false false) => modrm_ref R)
  rw [hs] at hX
  have hY := Lib.hid h
  clear h
  generalize mO zs p false = o at *
  generalize mP zs p false = q0 at *
  generalize mN zs p = n at *
  go_enter Tryd.func27, Tryd.ntmps27
  go_upto_region 1 with fail
  generalize w.alloc (.cells z16 28) = w1 at *
  go_upto_region 25 with (first | ((with_reducible refine (hX.out _ F.r).mono ?_); rintro e w2 ⟨rfl, R2, k2⟩; have F2 := F.read R2 k2) | ((with_reducible refine store_op_as rfl _ _ rfl (op6 o) (op6_size _) (op6_one _) rfl rfl ?_); intro w3 kO b3; have F3 := F2.below b3; have hK := F2.lt))
  generalize w2.heap.size = K at *
  have hBK : K ∉ [B] := by simp; omega
  have c2 := F3.r.c2
  go_upto_region 26 with fail
  go_wp2_with (first | ((with_reducible refine (hY.out _ F3.r).mono ?_); rintro e w4 ⟨rfl, R4, k4⟩; have F4 := F3.read R4 k4) | ((with_reducible refine store_inR rfl _ _ rfl _ (in16 i) z16 rfl rfl F4.z (in16_size _) z16_size (in16_one _) ?_); intro wz kz bz hz; have FZ := F4.done kz bz))
  exact bodyPost_ret (v := .tuple #[inV i, .bool (x)]) (results_ct rfl _ _ w.heap.size 28 (in16 i) (0, 0) _ _ rfl rfl FZ.z.h Tryd.underlying28 rfl (szIn inZ)) rfl ⟨rfl, FZ.r, FZ.k⟩
set_option maxRecDepth 100000 in
theorem modded_dd_short (R : Rs w N B a len cap zs p false false) (hs : mS zs p false = true) {i : In} {x : Bool} {q : Nat} {s b : Bool} (h : ∀ W, Rs W N B a len cap zs (mP zs p false) true false → Calls Tryd.prog 33 #[rp B, .int .u8 221] W fun e w' => e = .returned (.tuple #[inV i, .bool (x)]) ∧ Rs w' N B a len cap zs (q) (s) (b) ∧ But [B] W.heap.size W w') :
    Calls Tryd.prog 27 #[rp B, .int .u8 221] w fun e w' => e = .returned (.tuple #[inV i, .bool (x)]) ∧ Rs w' N B a len cap zs (q) (s) (b) ∧ But [B] w.heap.size w w' := by
  have hB := R.lt
  have F := RF.start R 28 z16
  have hX := Lib.hid (fun W (R : Rs W N B a len cap zs p false false) => modrm_ref R)
  rw [hs] at hX
  have hY := Lib.hid h
  clear h
  generalize mO zs p false = o at *
  generalize mP zs p false = q0 at *
  generalize mN zs p = n at *
  go_enter Tryd.func27, Tryd.ntmps27
  go_upto_region 1 with fail
  generalize w.alloc (.cells z16 28) = w1 at *
  go_upto_region 25 with (first | ((with_reducible refine (hX.out _ F.r).mono ?_); rintro e w2 ⟨rfl, R2, k2⟩; have F2 := F.read R2 k2) | ((with_reducible refine store_op_as rfl _ _ rfl (op6 o) (op6_size _) (op6_one _) rfl rfl ?_); intro w3 kO b3; have F3 := F2.below b3; have hK := F2.lt))
  generalize w2.heap.size = K at *
  have hBK : K ∉ [B] := by simp; omega
  have c2 := F3.r.c2
  go_upto_region 26 with fail
  go_wp2_with (first | ((with_reducible refine (hY.out _ F3.r).mono ?_); rintro e w4 ⟨rfl, R4, k4⟩; have F4 := F3.read R4 k4) | ((with_reducible refine store_inR rfl _ _ rfl _ (in16 i) z16 rfl rfl F4.z (in16_size _) z16_size (in16_one _) ?_); intro wz kz bz hz; have FZ := F4.done kz bz))
  exact bodyPost_ret (v := .tuple #[inV i, .bool (x)]) (results_ct rfl _ _ w.heap.size 28 (in16 i) (0, 0) _ _ rfl rfl FZ.z.h Tryd.underlying28 rfl (szIn inZ)) rfl ⟨rfl, FZ.r, FZ.k⟩
set_option maxRecDepth 100000 in
theorem modded_f7_short (R : Rs w N B a len cap zs p false false) (hs : mS zs p false = true) {i : In} {x : Bool} {q : Nat} {s b : Bool} (h : ∀ W, Rs W N B a len cap zs (mP zs p false) true false → Calls Tryd.prog 33 #[rp B, .int .u8 247] W fun e w' => e = .returned (.tuple #[inV i, .bool (x)]) ∧ Rs w' N B a len cap zs (q) (s) (b) ∧ But [B] W.heap.size W w') :
    Calls Tryd.prog 27 #[rp B, .int .u8 247] w fun e w' => e = .returned (.tuple #[inV i, .bool (x)]) ∧ Rs w' N B a len cap zs (q) (s) (b) ∧ But [B] w.heap.size w w' := by
  have hB := R.lt
  have F := RF.start R 28 z16
  have hX := Lib.hid (fun W (R : Rs W N B a len cap zs p false false) => modrm_ref R)
  rw [hs] at hX
  have hY := Lib.hid h
  clear h
  generalize mO zs p false = o at *
  generalize mP zs p false = q0 at *
  generalize mN zs p = n at *
  go_enter Tryd.func27, Tryd.ntmps27
  go_upto_region 1 with fail
  generalize w.alloc (.cells z16 28) = w1 at *
  go_upto_region 25 with (first | ((with_reducible refine (hX.out _ F.r).mono ?_); rintro e w2 ⟨rfl, R2, k2⟩; have F2 := F.read R2 k2) | ((with_reducible refine store_op_as rfl _ _ rfl (op6 o) (op6_size _) (op6_one _) rfl rfl ?_); intro w3 kO b3; have F3 := F2.below b3; have hK := F2.lt))
  generalize w2.heap.size = K at *
  have hBK : K ∉ [B] := by simp; omega
  have c2 := F3.r.c2
  go_upto_region 26 with fail
  go_wp2_with (first | ((with_reducible refine (hY.out _ F3.r).mono ?_); rintro e w4 ⟨rfl, R4, k4⟩; have F4 := F3.read R4 k4) | ((with_reducible refine store_inR rfl _ _ rfl _ (in16 i) z16 rfl rfl F4.z (in16_size _) z16_size (in16_one _) ?_); intro wz kz bz hz; have FZ := F4.done kz bz))
  exact bodyPost_ret (v := .tuple #[inV i, .bool (x)]) (results_ct rfl _ _ w.heap.size 28 (in16 i) (0, 0) _ _ rfl rfl FZ.z.h Tryd.underlying28 rfl (szIn inZ)) rfl ⟨rfl, FZ.r, FZ.k⟩
set_option maxRecDepth 100000 in
theorem modded_ff_short (R : Rs w N B a len cap zs p false false) (hs : mS zs p false = true) {i : In} {x : Bool} {q : Nat} {s b : Bool} (h : ∀ W, Rs W N B a len cap zs (mP zs p false) true false → Calls Tryd.prog 33 #[rp B, .int .u8 255] W fun e w' => e = .returned (.tuple #[inV i, .bool (x)]) ∧ Rs w' N B a len cap zs (q) (s) (b) ∧ But [B] W.heap.size W w') :
    Calls Tryd.prog 27 #[rp B, .int .u8 255] w fun e w' => e = .returned (.tuple #[inV i, .bool (x)]) ∧ Rs w' N B a len cap zs (q) (s) (b) ∧ But [B] w.heap.size w w' := by
  have hB := R.lt
  have F := RF.start R 28 z16
  have hX := Lib.hid (fun W (R : Rs W N B a len cap zs p false false) => modrm_ref R)
  rw [hs] at hX
  have hY := Lib.hid h
  clear h
  generalize mO zs p false = o at *
  generalize mP zs p false = q0 at *
  generalize mN zs p = n at *
  go_enter Tryd.func27, Tryd.ntmps27
  go_upto_region 1 with fail
  generalize w.alloc (.cells z16 28) = w1 at *
  go_upto_region 25 with (first | ((with_reducible refine (hX.out _ F.r).mono ?_); rintro e w2 ⟨rfl, R2, k2⟩; have F2 := F.read R2 k2) | ((with_reducible refine store_op_as rfl _ _ rfl (op6 o) (op6_size _) (op6_one _) rfl rfl ?_); intro w3 kO b3; have F3 := F2.below b3; have hK := F2.lt))
  generalize w2.heap.size = K at *
  have hBK : K ∉ [B] := by simp; omega
  have c2 := F3.r.c2
  go_upto_region 26 with fail
  go_wp2_with (first | ((with_reducible refine (hY.out _ F3.r).mono ?_); rintro e w4 ⟨rfl, R4, k4⟩; have F4 := F3.read R4 k4) | ((with_reducible refine store_inR rfl _ _ rfl _ (in16 i) z16 rfl rfl F4.z (in16_size _) z16_size (in16_one _) ?_); intro wz kz bz hz; have FZ := F4.done kz bz))
  exact bodyPost_ret (v := .tuple #[inV i, .bool (x)]) (results_ct rfl _ _ w.heap.size 28 (in16 i) (0, 0) _ _ rfl rfl FZ.z.h Tryd.underlying28 rfl (szIn inZ)) rfl ⟨rfl, FZ.r, FZ.k⟩
set_option maxRecDepth 100000 in
theorem modded_c6_rest (R : Rs w N B a len cap zs p false false) (hs : mS zs p false = false) {i : In} {x : Bool} {q : Nat} {s b : Bool} (h : ∀ W, Rs W N B a len cap zs (mP zs p false) false false → Calls Tryd.prog 35 #[rp B, .int .u8 198, opV (mO zs p false), .int .i64 (mN zs p)] W fun e w' => e = .returned (.tuple #[inV i, .bool (x)]) ∧ Rs w' N B a len cap zs (q) (s) (b) ∧ But [B] W.heap.size W w') :
    Calls Tryd.prog 27 #[rp B, .int .u8 198] w fun e w' => e = .returned (.tuple #[inV i, .bool (x)]) ∧ Rs w' N B a len cap zs (q) (s) (b) ∧ But [B] w.heap.size w w' := by
  have hB := R.lt
  have F := RF.start R 28 z16
  have hX := Lib.hid (fun W (R : Rs W N B a len cap zs p false false) => modrm_ref R)
  rw [hs] at hX
  have hY := Lib.hid h
  clear h
  generalize mO zs p false = o at *
  generalize mP zs p false = q0 at *
  generalize mN zs p = n at *
  go_enter Tryd.func27, Tryd.ntmps27
  go_upto_region 1 with fail
  generalize w.alloc (.cells z16 28) = w1 at *
  go_upto_region 25 with (first | ((with_reducible refine (hX.out _ F.r).mono ?_); rintro e w2 ⟨rfl, R2, k2⟩; have F2 := F.read R2 k2) | ((with_reducible refine store_op_as rfl _ _ rfl (op6 o) (op6_size _) (op6_one _) rfl rfl ?_); intro w3 kO b3; have F3 := F2.below b3; have hK := F2.lt))
  generalize w2.heap.size = K at *
  have hBK : K ∉ [B] := by simp; omega
  have c2 := F3.r.c2
  go_upto_region 27 with fail
  go_wp2_with (first | (with_reducible refine load_opR rfl _ rfl K (op6 o) rfl kO (op6_size _) ?_) | ((with_reducible refine (hY.out _ F3.r).mono ?_); rintro e w4 ⟨rfl, R4, k4⟩; have F4 := F3.read R4 k4) | ((with_reducible refine store_inR rfl _ _ rfl _ (in16 i) z16 rfl rfl F4.z (in16_size _) z16_size (in16_one _) ?_); intro wz kz bz hz; have FZ := F4.done kz bz))
  exact bodyPost_ret (v := .tuple #[inV i, .bool (x)]) (results_ct rfl _ _ w.heap.size 28 (in16 i) (0, 0) _ _ rfl rfl FZ.z.h Tryd.underlying28 rfl (szIn inZ)) rfl ⟨rfl, FZ.r, FZ.k⟩
set_option maxRecDepth 100000 in
theorem modded_c7_rest (R : Rs w N B a len cap zs p false false) (hs : mS zs p false = false) {i : In} {x : Bool} {q : Nat} {s b : Bool} (h : ∀ W, Rs W N B a len cap zs (mP zs p false) false false → Calls Tryd.prog 35 #[rp B, .int .u8 199, opV (mO zs p false), .int .i64 (mN zs p)] W fun e w' => e = .returned (.tuple #[inV i, .bool (x)]) ∧ Rs w' N B a len cap zs (q) (s) (b) ∧ But [B] W.heap.size W w') :
    Calls Tryd.prog 27 #[rp B, .int .u8 199] w fun e w' => e = .returned (.tuple #[inV i, .bool (x)]) ∧ Rs w' N B a len cap zs (q) (s) (b) ∧ But [B] w.heap.size w w' := by
  have hB := R.lt
  have F := RF.start R 28 z16
  have hX := Lib.hid (fun W (R : Rs W N B a len cap zs p false false) => modrm_ref R)
  rw [hs] at hX
  have hY := Lib.hid h
  clear h
  generalize mO zs p false = o at *
  generalize mP zs p false = q0 at *
  generalize mN zs p = n at *
  go_enter Tryd.func27, Tryd.ntmps27
  go_upto_region 1 with fail
  generalize w.alloc (.cells z16 28) = w1 at *
  go_upto_region 25 with (first | ((with_reducible refine (hX.out _ F.r).mono ?_); rintro e w2 ⟨rfl, R2, k2⟩; have F2 := F.read R2 k2) | ((with_reducible refine store_op_as rfl _ _ rfl (op6 o) (op6_size _) (op6_one _) rfl rfl ?_); intro w3 kO b3; have F3 := F2.below b3; have hK := F2.lt))
  generalize w2.heap.size = K at *
  have hBK : K ∉ [B] := by simp; omega
  have c2 := F3.r.c2
  go_upto_region 27 with fail
  go_wp2_with (first | (with_reducible refine load_opR rfl _ rfl K (op6 o) rfl kO (op6_size _) ?_) | ((with_reducible refine (hY.out _ F3.r).mono ?_); rintro e w4 ⟨rfl, R4, k4⟩; have F4 := F3.read R4 k4) | ((with_reducible refine store_inR rfl _ _ rfl _ (in16 i) z16 rfl rfl F4.z (in16_size _) z16_size (in16_one _) ?_); intro wz kz bz hz; have FZ := F4.done kz bz))
  exact bodyPost_ret (v := .tuple #[inV i, .bool (x)]) (results_ct rfl _ _ w.heap.size 28 (in16 i) (0, 0) _ _ rfl rfl FZ.z.h Tryd.underlying28 rfl (szIn inZ)) rfl ⟨rfl, FZ.r, FZ.k⟩
set_option maxRecDepth 100000 in
theorem modded_d9_rest (R : Rs w N B a len cap zs p false false) (hs : mS zs p false = false) {i : In} {x : Bool} {q : Nat} {s b : Bool} (h : ∀ W, Rs W N B a len cap zs (mP zs p false) false false → Calls Tryd.prog 35 #[rp B, .int .u8 217, opV (mO zs p false), .int .i64 (mN zs p)] W fun e w' => e = .returned (.tuple #[inV i, .bool (x)]) ∧ Rs w' N B a len cap zs (q) (s) (b) ∧ But [B] W.heap.size W w') :
    Calls Tryd.prog 27 #[rp B, .int .u8 217] w fun e w' => e = .returned (.tuple #[inV i, .bool (x)]) ∧ Rs w' N B a len cap zs (q) (s) (b) ∧ But [B] w.heap.size w w' := by
  have hB := R.lt
  have F := RF.start R 28 z16
  have hX := Lib.hid (fun W (R : Rs W N B a len cap zs p false false) => modrm_ref R)
  rw [hs] at hX
  have hY := Lib.hid h
  clear h
  generalize mO zs p false = o at *
  generalize mP zs p false = q0 at *
  generalize mN zs p = n at *
  go_enter Tryd.func27, Tryd.ntmps27
  go_upto_region 1 with fail
  generalize w.alloc (.cells z16 28) = w1 at *
  go_upto_region 25 with (first | ((with_reducible refine (hX.out _ F.r).mono ?_); rintro e w2 ⟨rfl, R2, k2⟩; have F2 := F.read R2 k2) | ((with_reducible refine store_op_as rfl _ _ rfl (op6 o) (op6_size _) (op6_one _) rfl rfl ?_); intro w3 kO b3; have F3 := F2.below b3; have hK := F2.lt))
  generalize w2.heap.size = K at *
  have hBK : K ∉ [B] := by simp; omega
  have c2 := F3.r.c2
  go_upto_region 27 with fail
  go_wp2_with (first | (with_reducible refine load_opR rfl _ rfl K (op6 o) rfl kO (op6_size _) ?_) | ((with_reducible refine (hY.out _ F3.r).mono ?_); rintro e w4 ⟨rfl, R4, k4⟩; have F4 := F3.read R4 k4) | ((with_reducible refine store_inR rfl _ _ rfl _ (in16 i) z16 rfl rfl F4.z (in16_size _) z16_size (in16_one _) ?_); intro wz kz bz hz; have FZ := F4.done kz bz))
  exact bodyPost_ret (v := .tuple #[inV i, .bool (x)]) (results_ct rfl _ _ w.heap.size 28 (in16 i) (0, 0) _ _ rfl rfl FZ.z.h Tryd.underlying28 rfl (szIn inZ)) rfl ⟨rfl, FZ.r, FZ.k⟩
set_option maxRecDepth 100000 in
theorem modded_dc_rest (R : Rs w N B a len cap zs p false false) (hs : mS zs p false = false) {i : In} {x : Bool} {q : Nat} {s b : Bool} (h : ∀ W, Rs W N B a len cap zs (mP zs p false) false false → Calls Tryd.prog 35 #[rp B, .int .u8 220, opV (mO zs p false), .int .i64 (mN zs p)] W fun e w' => e = .returned (.tuple #[inV i, .bool (x)]) ∧ Rs w' N B a len cap zs (q) (s) (b) ∧ But [B] W.heap.size W w') :
    Calls Tryd.prog 27 #[rp B, .int .u8 220] w fun e w' => e = .returned (.tuple #[inV i, .bool (x)]) ∧ Rs w' N B a len cap zs (q) (s) (b) ∧ But [B] w.heap.size w w' := by
  have hB := R.lt
  have F := RF.start R 28 z16
  have hX := Lib.hid (fun W (R : Rs W N B a len cap zs p false false) => modrm_ref R)
  rw [hs] at hX
  have hY := Lib.hid h
  clear h
  generalize mO zs p false = o at *
  generalize mP zs p false = q0 at *
  generalize mN zs p = n at *
  go_enter Tryd.func27, Tryd.ntmps27
  go_upto_region 1 with fail
  generalize w.alloc (.cells z16 28) = w1 at *
  go_upto_region 25 with (first | ((with_reducible refine (hX.out _ F.r).mono ?_); rintro e w2 ⟨rfl, R2, k2⟩; have F2 := F.read R2 k2) | ((with_reducible refine store_op_as rfl _ _ rfl (op6 o) (op6_size _) (op6_one _) rfl rfl ?_); intro w3 kO b3; have F3 := F2.below b3; have hK := F2.lt))
  generalize w2.heap.size = K at *
  have hBK : K ∉ [B] := by simp; omega
  have c2 := F3.r.c2
  go_upto_region 27 with fail
  go_wp2_with (first | (with_reducible refine load_opR rfl _ rfl K (op6 o) rfl kO (op6_size _) ?_) | ((with_reducible refine (hY.out _ F3.r).mono ?_); rintro e w4 ⟨rfl, R4, k4⟩; have F4 := F3.read R4 k4) | ((with_reducible refine store_inR rfl _ _ rfl _ (in16 i) z16 rfl rfl F4.z (in16_size _) z16_size (in16_one _) ?_); intro wz kz bz hz; have FZ := F4.done kz bz))
  exact bodyPost_ret (v := .tuple #[inV i, .bool (x)]) (results_ct rfl _ _ w.heap.size 28 (in16 i) (0, 0) _ _ rfl rfl FZ.z.h Tryd.underlying28 rfl (szIn inZ)) rfl ⟨rfl, FZ.r, FZ.k⟩
set_option maxRecDepth 100000 in
theorem modded_dd_rest (R : Rs w N B a len cap zs p false false) (hs : mS zs p false = false) {i : In} {x : Bool} {q : Nat} {s b : Bool} (h : ∀ W, Rs W N B a len cap zs (mP zs p false) false false → Calls Tryd.prog 35 #[rp B, .int .u8 221, opV (mO zs p false), .int .i64 (mN zs p)] W fun e w' => e = .returned (.tuple #[inV i, .bool (x)]) ∧ Rs w' N B a len cap zs (q) (s) (b) ∧ But [B] W.heap.size W w') :
    Calls Tryd.prog 27 #[rp B, .int .u8 221] w fun e w' => e = .returned (.tuple #[inV i, .bool (x)]) ∧ Rs w' N B a len cap zs (q) (s) (b) ∧ But [B] w.heap.size w w' := by
  have hB := R.lt
  have F := RF.start R 28 z16
  have hX := Lib.hid (fun W (R : Rs W N B a len cap zs p false false) => modrm_ref R)
  rw [hs] at hX
  have hY := Lib.hid h
  clear h
  generalize mO zs p false = o at *
  generalize mP zs p false = q0 at *
  generalize mN zs p = n at *
  go_enter Tryd.func27, Tryd.ntmps27
  go_upto_region 1 with fail
  generalize w.alloc (.cells z16 28) = w1 at *
  go_upto_region 25 with (first | ((with_reducible refine (hX.out _ F.r).mono ?_); rintro e w2 ⟨rfl, R2, k2⟩; have F2 := F.read R2 k2) | ((with_reducible refine store_op_as rfl _ _ rfl (op6 o) (op6_size _) (op6_one _) rfl rfl ?_); intro w3 kO b3; have F3 := F2.below b3; have hK := F2.lt))
  generalize w2.heap.size = K at *
  have hBK : K ∉ [B] := by simp; omega
  have c2 := F3.r.c2
  go_upto_region 27 with fail
  go_wp2_with (first | (with_reducible refine load_opR rfl _ rfl K (op6 o) rfl kO (op6_size _) ?_) | ((with_reducible refine (hY.out _ F3.r).mono ?_); rintro e w4 ⟨rfl, R4, k4⟩; have F4 := F3.read R4 k4) | ((with_reducible refine store_inR rfl _ _ rfl _ (in16 i) z16 rfl rfl F4.z (in16_size _) z16_size (in16_one _) ?_); intro wz kz bz hz; have FZ := F4.done kz bz))
  exact bodyPost_ret (v := .tuple #[inV i, .bool (x)]) (results_ct rfl _ _ w.heap.size 28 (in16 i) (0, 0) _ _ rfl rfl FZ.z.h Tryd.underlying28 rfl (szIn inZ)) rfl ⟨rfl, FZ.r, FZ.k⟩
set_option maxRecDepth 100000 in
theorem modded_f7_rest (R : Rs w N B a len cap zs p false false) (hs : mS zs p false = false) {i : In} {x : Bool} {q : Nat} {s b : Bool} (h : ∀ W, Rs W N B a len cap zs (mP zs p false) false false → Calls Tryd.prog 35 #[rp B, .int .u8 247, opV (mO zs p false), .int .i64 (mN zs p)] W fun e w' => e = .returned (.tuple #[inV i, .bool (x)]) ∧ Rs w' N B a len cap zs (q) (s) (b) ∧ But [B] W.heap.size W w') :
    Calls Tryd.prog 27 #[rp B, .int .u8 247] w fun e w' => e = .returned (.tuple #[inV i, .bool (x)]) ∧ Rs w' N B a len cap zs (q) (s) (b) ∧ But [B] w.heap.size w w' := by
  have hB := R.lt
  have F := RF.start R 28 z16
  have hX := Lib.hid (fun W (R : Rs W N B a len cap zs p false false) => modrm_ref R)
  rw [hs] at hX
  have hY := Lib.hid h
  clear h
  generalize mO zs p false = o at *
  generalize mP zs p false = q0 at *
  generalize mN zs p = n at *
  go_enter Tryd.func27, Tryd.ntmps27
  go_upto_region 1 with fail
  generalize w.alloc (.cells z16 28) = w1 at *
  go_upto_region 25 with (first | ((with_reducible refine (hX.out _ F.r).mono ?_); rintro e w2 ⟨rfl, R2, k2⟩; have F2 := F.read R2 k2) | ((with_reducible refine store_op_as rfl _ _ rfl (op6 o) (op6_size _) (op6_one _) rfl rfl ?_); intro w3 kO b3; have F3 := F2.below b3; have hK := F2.lt))
  generalize w2.heap.size = K at *
  have hBK : K ∉ [B] := by simp; omega
  have c2 := F3.r.c2
  go_upto_region 27 with fail
  go_wp2_with (first | (with_reducible refine load_opR rfl _ rfl K (op6 o) rfl kO (op6_size _) ?_) | ((with_reducible refine (hY.out _ F3.r).mono ?_); rintro e w4 ⟨rfl, R4, k4⟩; have F4 := F3.read R4 k4) | ((with_reducible refine store_inR rfl _ _ rfl _ (in16 i) z16 rfl rfl F4.z (in16_size _) z16_size (in16_one _) ?_); intro wz kz bz hz; have FZ := F4.done kz bz))
  exact bodyPost_ret (v := .tuple #[inV i, .bool (x)]) (results_ct rfl _ _ w.heap.size 28 (in16 i) (0, 0) _ _ rfl rfl FZ.z.h Tryd.underlying28 rfl (szIn inZ)) rfl ⟨rfl, FZ.r, FZ.k⟩
set_option maxRecDepth 100000 in
theorem modded_ff_rest (R : Rs w N B a len cap zs p false false) (hs : mS zs p false = false) {i : In} {x : Bool} {q : Nat} {s b : Bool} (h : ∀ W, Rs W N B a len cap zs (mP zs p false) false false → Calls Tryd.prog 35 #[rp B, .int .u8 255, opV (mO zs p false), .int .i64 (mN zs p)] W fun e w' => e = .returned (.tuple #[inV i, .bool (x)]) ∧ Rs w' N B a len cap zs (q) (s) (b) ∧ But [B] W.heap.size W w') :
    Calls Tryd.prog 27 #[rp B, .int .u8 255] w fun e w' => e = .returned (.tuple #[inV i, .bool (x)]) ∧ Rs w' N B a len cap zs (q) (s) (b) ∧ But [B] w.heap.size w w' := by
  have hB := R.lt
  have F := RF.start R 28 z16
  have hX := Lib.hid (fun W (R : Rs W N B a len cap zs p false false) => modrm_ref R)
  rw [hs] at hX
  have hY := Lib.hid h
  clear h
  generalize mO zs p false = o at *
  generalize mP zs p false = q0 at *
  generalize mN zs p = n at *
  go_enter Tryd.func27, Tryd.ntmps27
  go_upto_region 1 with fail
  generalize w.alloc (.cells z16 28) = w1 at *
  go_upto_region 25 with (first | ((with_reducible refine (hX.out _ F.r).mono ?_); rintro e w2 ⟨rfl, R2, k2⟩; have F2 := F.read R2 k2) | ((with_reducible refine store_op_as rfl _ _ rfl (op6 o) (op6_size _) (op6_one _) rfl rfl ?_); intro w3 kO b3; have F3 := F2.below b3; have hK := F2.lt))
  generalize w2.heap.size = K at *
  have hBK : K ∉ [B] := by simp; omega
  have c2 := F3.r.c2
  go_upto_region 27 with fail
  go_wp2_with (first | (with_reducible refine load_opR rfl _ rfl K (op6 o) rfl kO (op6_size _) ?_) | ((with_reducible refine (hY.out _ F3.r).mono ?_); rintro e w4 ⟨rfl, R4, k4⟩; have F4 := F3.read R4 k4) | ((with_reducible refine store_inR rfl _ _ rfl _ (in16 i) z16 rfl rfl F4.z (in16_size _) z16_size (in16_one _) ?_); intro wz kz bz hz; have FZ := F4.done kz bz))
  exact bodyPost_ret (v := .tuple #[inV i, .bool (x)]) (results_ct rfl _ _ w.heap.size 28 (in16 i) (0, 0) _ _ rfl rfl FZ.z.h Tryd.underlying28 rfl (szIn inZ)) rfl ⟨rfl, FZ.r, FZ.k⟩
set_option maxRecDepth 100000 in
theorem modded_85 (R : Rs w N B a len cap zs p false false) (hs : mS zs p false = false) :
    Calls Tryd.prog 27 #[rp B, .int .u8 133] w fun e w' => e = .returned (.tuple #[inV ⟨11, 0, mO zs p false, onReg (mN zs p), false, 0⟩, .bool (false)]) ∧ Rs w' N B a len cap zs (mP zs p false) (false) (false) ∧ But [B] w.heap.size w w' := by
  have hB := R.lt
  have F := RF.start R 28 z16
  have hX := Lib.hid (fun W (R : Rs W N B a len cap zs p false false) => modrm_ref R)
  rw [hs] at hX
  have hn := mN_bd R
  generalize mP zs p false = q0 at *
  generalize mO zs p false = o at *
  generalize mN zs p = n at *
  have hR := Lib.hid (fun W => reg_any n W)
  go_enter Tryd.func27, Tryd.ntmps27
  go_upto_region 1 with fail
  generalize w.alloc (.cells z16 28) = w1 at *
  go_upto_region 25 with (first | ((with_reducible refine (hX.out _ F.r).mono ?_); rintro e w2 ⟨rfl, R2, k2⟩; have F2 := F.read R2 k2) | ((with_reducible refine store_op_as rfl _ _ rfl (op6 o) (op6_size _) (op6_one _) rfl rfl ?_); intro w3 kO b3; have F3 := F2.below b3; have hK := F2.lt))
  generalize w2.heap.size = K at *
  have hBK : K ∉ [B] := by simp; omega
  have c2 := F3.r.c2
  go_upto_region 27 with fail
  go_upto_region 33 with fail
  have FD := F3.drew
  have kD := kO.drew
  refine wp_region_held_drew (S := fun W => OX w W N B a len cap zs false K (o)) (by kernel_rfl) ⟨⟨_, _, z16, z16_size, FD⟩, kD⟩ (fun hHeld => ?_)
  generalize w3.drew = wd at *
  refine wpAnyH_take (i := 0) (v := opV (o)) rfl (by kernel_rfl) (by kernel_rfl) (by kernel_rfl) (fun _ _ _ h => h) (Or.inl ⟨by kernel_rfl, ?_⟩) hHeld ?_
  · intro W hS
    exact run_load_row (by rfl) (by rfl) 26 _ (0, 0) _ hS.k.h Tryd.underlying26 rfl (szOp onZ)
  simp only [Act.put, List.setIfInBounds_toArray, List.set_cons_zero, List.set_cons_succ]
  refine wpAnyH_take (i := 1) (v := ?_) rfl (by kernel_rfl) (by kernel_rfl) (by kernel_rfl) (fun _ _ _ h => h) (Or.inl ⟨by kernel_rfl, ?_⟩) hHeld ?_
  rotate_left
  · intro W hS
    go_simp
    try rfl
  simp only [Act.put, List.setIfInBounds_toArray, List.set_cons_zero, List.set_cons_succ, List.getElem_toArray, List.getElem_cons_succ, List.getElem_cons_zero]
  refine wpAnyH_ready (rs := [2]) (by kernel_rfl) (by simp) ?_
  refine AllReadyH.cons rfl (fun K hK => ?_) AllReadyH.nil
  go_simp
  with_reducible refine (hR.out _).mono ?_
  rintro e wd2 ⟨rfl, bb2⟩
  have FD2 := FD.below bb2
  have kD2 := kD.below bb2 kD.lt
  refine hK.out _ _ ⟨⟨_, _, z16, z16_size, FD2⟩, kD2⟩ (fun _ => ?_)
  clear hK K
  try simp only [Act.put, List.setIfInBounds_toArray, List.set_cons_zero, List.set_cons_succ]
  refine wpAnyH_take (i := 3) (v := ?_) rfl (by kernel_rfl) (by kernel_rfl) (by kernel_rfl) (fun _ _ _ h => h) (Or.inl ⟨by kernel_rfl, ?_⟩) ⟨⟨_, _, z16, z16_size, FD2⟩, kD2⟩ ?_
  rotate_left
  · intro W hS
    go_simp
    try rfl
  simp only [Act.put, List.setIfInBounds_toArray, List.set_cons_zero, List.set_cons_succ, List.getElem_toArray, List.getElem_cons_succ, List.getElem_cons_zero]
  refine wpAnyH_ready (rs := [4]) (by kernel_rfl) (by simp) ?_
  refine AllReadyH.cons rfl (fun K hK => ?_) AllReadyH.nil
  rw [if_pos (by kernel_rfl)]
  refine wp_store_row 28 _ _ rfl w.heap.size (in16 ⟨11, 0, o, onReg n, false, 0⟩) rfl rfl 28 z16 FD2.z.h (szIn ⟨11, 0, o, onReg n, false, 0⟩) z16_size (in16_one _) ?_
  have FZ := FD2.done (FD2.z.row (in16 ⟨11, 0, o, onReg n, false, 0⟩)) (But.row1 _ _ _)
  have kZ := kD2.rowOther (M := w.heap.size) (in16 ⟨11, 0, o, onReg n, false, 0⟩) (by omega)
  refine hK.out _ _ ⟨⟨_, _, in16 ⟨11, 0, o, onReg n, false, 0⟩, in16_size _, FZ⟩, kZ⟩ (fun _ => ?_)
  clear hK K
  try simp only [Act.put, List.setIfInBounds_toArray, List.set_cons_zero, List.set_cons_succ, List.getElem_toArray, List.getElem_cons_succ, List.getElem_cons_zero]
  refine wpAnyH_take (i := 5) (v := ?_) rfl (by kernel_rfl) (by kernel_rfl) (by kernel_rfl) (fun _ _ _ h => h) (Or.inl ⟨by kernel_rfl, ?_⟩) ⟨⟨_, _, in16 ⟨11, 0, o, onReg n, false, 0⟩, in16_size _, FZ⟩, kZ⟩ ?_
  rotate_left
  · intro W hS
    go_simp
    try rfl
  simp only [Act.put, List.setIfInBounds_toArray, List.set_cons_zero, List.set_cons_succ, List.getElem_toArray, List.getElem_cons_succ, List.getElem_cons_zero]
  refine wpAnyH_done (by kernel_rfl) ?_ _
  go_wp2_with fail
  exact bodyPost_ret (v := .tuple #[inV ⟨11, 0, o, onReg n, false, 0⟩, .bool (false)]) (results_ct rfl _ _ w.heap.size 28 (in16 ⟨11, 0, o, onReg n, false, 0⟩) (0, 0) _ _ rfl rfl FZ.z.h Tryd.underlying28 rfl (szIn inZ)) rfl ⟨rfl, FZ.r, FZ.k⟩
set_option maxRecDepth 100000 in
theorem modded_87 (R : Rs w N B a len cap zs p false false) (hs : mS zs p false = false) :
    Calls Tryd.prog 27 #[rp B, .int .u8 135] w fun e w' => e = .returned (.tuple #[inV ⟨27, 0, mO zs p false, onReg (mN zs p), false, 0⟩, .bool (false)]) ∧ Rs w' N B a len cap zs (mP zs p false) (false) (false) ∧ But [B] w.heap.size w w' := by
  have hB := R.lt
  have F := RF.start R 28 z16
  have hX := Lib.hid (fun W (R : Rs W N B a len cap zs p false false) => modrm_ref R)
  rw [hs] at hX
  have hn := mN_bd R
  generalize mP zs p false = q0 at *
  generalize mO zs p false = o at *
  generalize mN zs p = n at *
  have hR := Lib.hid (fun W => reg_any n W)
  go_enter Tryd.func27, Tryd.ntmps27
  go_upto_region 1 with fail
  generalize w.alloc (.cells z16 28) = w1 at *
  go_upto_region 25 with (first | ((with_reducible refine (hX.out _ F.r).mono ?_); rintro e w2 ⟨rfl, R2, k2⟩; have F2 := F.read R2 k2) | ((with_reducible refine store_op_as rfl _ _ rfl (op6 o) (op6_size _) (op6_one _) rfl rfl ?_); intro w3 kO b3; have F3 := F2.below b3; have hK := F2.lt))
  generalize w2.heap.size = K at *
  have hBK : K ∉ [B] := by simp; omega
  have c2 := F3.r.c2
  go_upto_region 27 with fail
  go_upto_region 35 with fail
  have FD := F3.drew
  have kD := kO.drew
  refine wp_region_held_drew (S := fun W => OX w W N B a len cap zs false K (o)) (by kernel_rfl) ⟨⟨_, _, z16, z16_size, FD⟩, kD⟩ (fun hHeld => ?_)
  generalize w3.drew = wd at *
  refine wpAnyH_take (i := 0) (v := opV (o)) rfl (by kernel_rfl) (by kernel_rfl) (by kernel_rfl) (fun _ _ _ h => h) (Or.inl ⟨by kernel_rfl, ?_⟩) hHeld ?_
  · intro W hS
    exact run_load_row (by rfl) (by rfl) 26 _ (0, 0) _ hS.k.h Tryd.underlying26 rfl (szOp onZ)
  simp only [Act.put, List.setIfInBounds_toArray, List.set_cons_zero, List.set_cons_succ]
  refine wpAnyH_take (i := 1) (v := ?_) rfl (by kernel_rfl) (by kernel_rfl) (by kernel_rfl) (fun _ _ _ h => h) (Or.inl ⟨by kernel_rfl, ?_⟩) hHeld ?_
  rotate_left
  · intro W hS
    go_simp
    try rfl
  simp only [Act.put, List.setIfInBounds_toArray, List.set_cons_zero, List.set_cons_succ, List.getElem_toArray, List.getElem_cons_succ, List.getElem_cons_zero]
  refine wpAnyH_ready (rs := [2]) (by kernel_rfl) (by simp) ?_
  refine AllReadyH.cons rfl (fun K hK => ?_) AllReadyH.nil
  go_simp
  with_reducible refine (hR.out _).mono ?_
  rintro e wd2 ⟨rfl, bb2⟩
  have FD2 := FD.below bb2
  have kD2 := kD.below bb2 kD.lt
  refine hK.out _ _ ⟨⟨_, _, z16, z16_size, FD2⟩, kD2⟩ (fun _ => ?_)
  clear hK K
  try simp only [Act.put, List.setIfInBounds_toArray, List.set_cons_zero, List.set_cons_succ]
  refine wpAnyH_take (i := 3) (v := ?_) rfl (by kernel_rfl) (by kernel_rfl) (by kernel_rfl) (fun _ _ _ h => h) (Or.inl ⟨by kernel_rfl, ?_⟩) ⟨⟨_, _, z16, z16_size, FD2⟩, kD2⟩ ?_
  rotate_left
  · intro W hS
    go_simp
    try rfl
  simp only [Act.put, List.setIfInBounds_toArray, List.set_cons_zero, List.set_cons_succ, List.getElem_toArray, List.getElem_cons_succ, List.getElem_cons_zero]
  refine wpAnyH_ready (rs := [4]) (by kernel_rfl) (by simp) ?_
  refine AllReadyH.cons rfl (fun K hK => ?_) AllReadyH.nil
  rw [if_pos (by kernel_rfl)]
  refine wp_store_row 28 _ _ rfl w.heap.size (in16 ⟨27, 0, o, onReg n, false, 0⟩) rfl rfl 28 z16 FD2.z.h (szIn ⟨27, 0, o, onReg n, false, 0⟩) z16_size (in16_one _) ?_
  have FZ := FD2.done (FD2.z.row (in16 ⟨27, 0, o, onReg n, false, 0⟩)) (But.row1 _ _ _)
  have kZ := kD2.rowOther (M := w.heap.size) (in16 ⟨27, 0, o, onReg n, false, 0⟩) (by omega)
  refine hK.out _ _ ⟨⟨_, _, in16 ⟨27, 0, o, onReg n, false, 0⟩, in16_size _, FZ⟩, kZ⟩ (fun _ => ?_)
  clear hK K
  try simp only [Act.put, List.setIfInBounds_toArray, List.set_cons_zero, List.set_cons_succ, List.getElem_toArray, List.getElem_cons_succ, List.getElem_cons_zero]
  refine wpAnyH_take (i := 5) (v := ?_) rfl (by kernel_rfl) (by kernel_rfl) (by kernel_rfl) (fun _ _ _ h => h) (Or.inl ⟨by kernel_rfl, ?_⟩) ⟨⟨_, _, in16 ⟨27, 0, o, onReg n, false, 0⟩, in16_size _, FZ⟩, kZ⟩ ?_
  rotate_left
  · intro W hS
    go_simp
    try rfl
  simp only [Act.put, List.setIfInBounds_toArray, List.set_cons_zero, List.set_cons_succ, List.getElem_toArray, List.getElem_cons_succ, List.getElem_cons_zero]
  refine wpAnyH_done (by kernel_rfl) ?_ _
  go_wp2_with fail
  exact bodyPost_ret (v := .tuple #[inV ⟨27, 0, o, onReg n, false, 0⟩, .bool (false)]) (results_ct rfl _ _ w.heap.size 28 (in16 ⟨27, 0, o, onReg n, false, 0⟩) (0, 0) _ _ rfl rfl FZ.z.h Tryd.underlying28 rfl (szIn inZ)) rfl ⟨rfl, FZ.r, FZ.k⟩
set_option maxRecDepth 100000 in
theorem modded_88 (R : Rs w N B a len cap zs p false false) (hs : mS zs p false = false) :
    Calls Tryd.prog 27 #[rp B, .int .u8 136] w fun e w' => e = .returned (.tuple #[inV ⟨2, 0, mO zs p false, onReg (mN zs p), false, 0⟩, .bool (false)]) ∧ Rs w' N B a len cap zs (mP zs p false) (false) (false) ∧ But [B] w.heap.size w w' := by
  have hB := R.lt
  have F := RF.start R 28 z16
  have hX := Lib.hid (fun W (R : Rs W N B a len cap zs p false false) => modrm_ref R)
  rw [hs] at hX
  have hn := mN_bd R
  generalize mP zs p false = q0 at *
  generalize mO zs p false = o at *
  generalize mN zs p = n at *
  have hR := Lib.hid (fun W => reg_any n W)
  go_enter Tryd.func27, Tryd.ntmps27
  go_upto_region 1 with fail
  generalize w.alloc (.cells z16 28) = w1 at *
  go_upto_region 25 with (first | ((with_reducible refine (hX.out _ F.r).mono ?_); rintro e w2 ⟨rfl, R2, k2⟩; have F2 := F.read R2 k2) | ((with_reducible refine store_op_as rfl _ _ rfl (op6 o) (op6_size _) (op6_one _) rfl rfl ?_); intro w3 kO b3; have F3 := F2.below b3; have hK := F2.lt))
  generalize w2.heap.size = K at *
  have hBK : K ∉ [B] := by simp; omega
  have c2 := F3.r.c2
  go_upto_region 27 with fail
  go_upto_region 37 with fail
  have FD := F3.drew
  have kD := kO.drew
  refine wp_region_held_drew (S := fun W => OX w W N B a len cap zs false K (o)) (by kernel_rfl) ⟨⟨_, _, z16, z16_size, FD⟩, kD⟩ (fun hHeld => ?_)
  generalize w3.drew = wd at *
  refine wpAnyH_take (i := 0) (v := opV (o)) rfl (by kernel_rfl) (by kernel_rfl) (by kernel_rfl) (fun _ _ _ h => h) (Or.inl ⟨by kernel_rfl, ?_⟩) hHeld ?_
  · intro W hS
    exact run_load_row (by rfl) (by rfl) 26 _ (0, 0) _ hS.k.h Tryd.underlying26 rfl (szOp onZ)
  simp only [Act.put, List.setIfInBounds_toArray, List.set_cons_zero, List.set_cons_succ]
  refine wpAnyH_take (i := 1) (v := ?_) rfl (by kernel_rfl) (by kernel_rfl) (by kernel_rfl) (fun _ _ _ h => h) (Or.inl ⟨by kernel_rfl, ?_⟩) hHeld ?_
  rotate_left
  · intro W hS
    go_simp
    try rfl
  simp only [Act.put, List.setIfInBounds_toArray, List.set_cons_zero, List.set_cons_succ, List.getElem_toArray, List.getElem_cons_succ, List.getElem_cons_zero]
  refine wpAnyH_ready (rs := [2]) (by kernel_rfl) (by simp) ?_
  refine AllReadyH.cons rfl (fun K hK => ?_) AllReadyH.nil
  go_simp
  with_reducible refine (hR.out _).mono ?_
  rintro e wd2 ⟨rfl, bb2⟩
  have FD2 := FD.below bb2
  have kD2 := kD.below bb2 kD.lt
  refine hK.out _ _ ⟨⟨_, _, z16, z16_size, FD2⟩, kD2⟩ (fun _ => ?_)
  clear hK K
  try simp only [Act.put, List.setIfInBounds_toArray, List.set_cons_zero, List.set_cons_succ]
  refine wpAnyH_take (i := 3) (v := ?_) rfl (by kernel_rfl) (by kernel_rfl) (by kernel_rfl) (fun _ _ _ h => h) (Or.inl ⟨by kernel_rfl, ?_⟩) ⟨⟨_, _, z16, z16_size, FD2⟩, kD2⟩ ?_
  rotate_left
  · intro W hS
    go_simp
    try rfl
  simp only [Act.put, List.setIfInBounds_toArray, List.set_cons_zero, List.set_cons_succ, List.getElem_toArray, List.getElem_cons_succ, List.getElem_cons_zero]
  refine wpAnyH_ready (rs := [4]) (by kernel_rfl) (by simp) ?_
  refine AllReadyH.cons rfl (fun K hK => ?_) AllReadyH.nil
  rw [if_pos (by kernel_rfl)]
  refine wp_store_row 28 _ _ rfl w.heap.size (in16 ⟨2, 0, o, onReg n, false, 0⟩) rfl rfl 28 z16 FD2.z.h (szIn ⟨2, 0, o, onReg n, false, 0⟩) z16_size (in16_one _) ?_
  have FZ := FD2.done (FD2.z.row (in16 ⟨2, 0, o, onReg n, false, 0⟩)) (But.row1 _ _ _)
  have kZ := kD2.rowOther (M := w.heap.size) (in16 ⟨2, 0, o, onReg n, false, 0⟩) (by omega)
  refine hK.out _ _ ⟨⟨_, _, in16 ⟨2, 0, o, onReg n, false, 0⟩, in16_size _, FZ⟩, kZ⟩ (fun _ => ?_)
  clear hK K
  try simp only [Act.put, List.setIfInBounds_toArray, List.set_cons_zero, List.set_cons_succ, List.getElem_toArray, List.getElem_cons_succ, List.getElem_cons_zero]
  refine wpAnyH_take (i := 5) (v := ?_) rfl (by kernel_rfl) (by kernel_rfl) (by kernel_rfl) (fun _ _ _ h => h) (Or.inl ⟨by kernel_rfl, ?_⟩) ⟨⟨_, _, in16 ⟨2, 0, o, onReg n, false, 0⟩, in16_size _, FZ⟩, kZ⟩ ?_
  rotate_left
  · intro W hS
    go_simp
    try rfl
  simp only [Act.put, List.setIfInBounds_toArray, List.set_cons_zero, List.set_cons_succ, List.getElem_toArray, List.getElem_cons_succ, List.getElem_cons_zero]
  refine wpAnyH_done (by kernel_rfl) ?_ _
  go_wp2_with fail
  exact bodyPost_ret (v := .tuple #[inV ⟨2, 0, o, onReg n, false, 0⟩, .bool (false)]) (results_ct rfl _ _ w.heap.size 28 (in16 ⟨2, 0, o, onReg n, false, 0⟩) (0, 0) _ _ rfl rfl FZ.z.h Tryd.underlying28 rfl (szIn inZ)) rfl ⟨rfl, FZ.r, FZ.k⟩
set_option maxRecDepth 100000 in
theorem modded_89 (R : Rs w N B a len cap zs p false false) (hs : mS zs p false = false) :
    Calls Tryd.prog 27 #[rp B, .int .u8 137] w fun e w' => e = .returned (.tuple #[inV ⟨1, 0, mO zs p false, onReg (mN zs p), false, 0⟩, .bool (false)]) ∧ Rs w' N B a len cap zs (mP zs p false) (false) (false) ∧ But [B] w.heap.size w w' := by
  have hB := R.lt
  have F := RF.start R 28 z16
  have hX := Lib.hid (fun W (R : Rs W N B a len cap zs p false false) => modrm_ref R)
  rw [hs] at hX
  have hn := mN_bd R
  generalize mP zs p false = q0 at *
  generalize mO zs p false = o at *
  generalize mN zs p = n at *
  have hR := Lib.hid (fun W => reg_any n W)
  go_enter Tryd.func27, Tryd.ntmps27
  go_upto_region 1 with fail
  generalize w.alloc (.cells z16 28) = w1 at *
  go_upto_region 25 with (first | ((with_reducible refine (hX.out _ F.r).mono ?_); rintro e w2 ⟨rfl, R2, k2⟩; have F2 := F.read R2 k2) | ((with_reducible refine store_op_as rfl _ _ rfl (op6 o) (op6_size _) (op6_one _) rfl rfl ?_); intro w3 kO b3; have F3 := F2.below b3; have hK := F2.lt))
  generalize w2.heap.size = K at *
  have hBK : K ∉ [B] := by simp; omega
  have c2 := F3.r.c2
  go_upto_region 27 with fail
  go_upto_region 39 with fail
  have FD := F3.drew
  have kD := kO.drew
  refine wp_region_held_drew (S := fun W => OX w W N B a len cap zs false K (o)) (by kernel_rfl) ⟨⟨_, _, z16, z16_size, FD⟩, kD⟩ (fun hHeld => ?_)
  generalize w3.drew = wd at *
  refine wpAnyH_take (i := 0) (v := opV (o)) rfl (by kernel_rfl) (by kernel_rfl) (by kernel_rfl) (fun _ _ _ h => h) (Or.inl ⟨by kernel_rfl, ?_⟩) hHeld ?_
  · intro W hS
    exact run_load_row (by rfl) (by rfl) 26 _ (0, 0) _ hS.k.h Tryd.underlying26 rfl (szOp onZ)
  simp only [Act.put, List.setIfInBounds_toArray, List.set_cons_zero, List.set_cons_succ]
  refine wpAnyH_take (i := 1) (v := ?_) rfl (by kernel_rfl) (by kernel_rfl) (by kernel_rfl) (fun _ _ _ h => h) (Or.inl ⟨by kernel_rfl, ?_⟩) hHeld ?_
  rotate_left
  · intro W hS
    go_simp
    try rfl
  simp only [Act.put, List.setIfInBounds_toArray, List.set_cons_zero, List.set_cons_succ, List.getElem_toArray, List.getElem_cons_succ, List.getElem_cons_zero]
  refine wpAnyH_ready (rs := [2]) (by kernel_rfl) (by simp) ?_
  refine AllReadyH.cons rfl (fun K hK => ?_) AllReadyH.nil
  go_simp
  with_reducible refine (hR.out _).mono ?_
  rintro e wd2 ⟨rfl, bb2⟩
  have FD2 := FD.below bb2
  have kD2 := kD.below bb2 kD.lt
  refine hK.out _ _ ⟨⟨_, _, z16, z16_size, FD2⟩, kD2⟩ (fun _ => ?_)
  clear hK K
  try simp only [Act.put, List.setIfInBounds_toArray, List.set_cons_zero, List.set_cons_succ]
  refine wpAnyH_take (i := 3) (v := ?_) rfl (by kernel_rfl) (by kernel_rfl) (by kernel_rfl) (fun _ _ _ h => h) (Or.inl ⟨by kernel_rfl, ?_⟩) ⟨⟨_, _, z16, z16_size, FD2⟩, kD2⟩ ?_
  rotate_left
  · intro W hS
    go_simp
    try rfl
  simp only [Act.put, List.setIfInBounds_toArray, List.set_cons_zero, List.set_cons_succ, List.getElem_toArray, List.getElem_cons_succ, List.getElem_cons_zero]
  refine wpAnyH_ready (rs := [4]) (by kernel_rfl) (by simp) ?_
  refine AllReadyH.cons rfl (fun K hK => ?_) AllReadyH.nil
  rw [if_pos (by kernel_rfl)]
  refine wp_store_row 28 _ _ rfl w.heap.size (in16 ⟨1, 0, o, onReg n, false, 0⟩) rfl rfl 28 z16 FD2.z.h (szIn ⟨1, 0, o, onReg n, false, 0⟩) z16_size (in16_one _) ?_
  have FZ := FD2.done (FD2.z.row (in16 ⟨1, 0, o, onReg n, false, 0⟩)) (But.row1 _ _ _)
  have kZ := kD2.rowOther (M := w.heap.size) (in16 ⟨1, 0, o, onReg n, false, 0⟩) (by omega)
  refine hK.out _ _ ⟨⟨_, _, in16 ⟨1, 0, o, onReg n, false, 0⟩, in16_size _, FZ⟩, kZ⟩ (fun _ => ?_)
  clear hK K
  try simp only [Act.put, List.setIfInBounds_toArray, List.set_cons_zero, List.set_cons_succ, List.getElem_toArray, List.getElem_cons_succ, List.getElem_cons_zero]
  refine wpAnyH_take (i := 5) (v := ?_) rfl (by kernel_rfl) (by kernel_rfl) (by kernel_rfl) (fun _ _ _ h => h) (Or.inl ⟨by kernel_rfl, ?_⟩) ⟨⟨_, _, in16 ⟨1, 0, o, onReg n, false, 0⟩, in16_size _, FZ⟩, kZ⟩ ?_
  rotate_left
  · intro W hS
    go_simp
    try rfl
  simp only [Act.put, List.setIfInBounds_toArray, List.set_cons_zero, List.set_cons_succ, List.getElem_toArray, List.getElem_cons_succ, List.getElem_cons_zero]
  refine wpAnyH_done (by kernel_rfl) ?_ _
  go_wp2_with fail
  exact bodyPost_ret (v := .tuple #[inV ⟨1, 0, o, onReg n, false, 0⟩, .bool (false)]) (results_ct rfl _ _ w.heap.size 28 (in16 ⟨1, 0, o, onReg n, false, 0⟩) (0, 0) _ _ rfl rfl FZ.z.h Tryd.underlying28 rfl (szIn inZ)) rfl ⟨rfl, FZ.r, FZ.k⟩
set_option maxRecDepth 100000 in
theorem modded_8a (R : Rs w N B a len cap zs p false false) (hs : mS zs p false = false) :
    Calls Tryd.prog 27 #[rp B, .int .u8 138] w fun e w' => e = .returned (.tuple #[inV ⟨2, 0, onReg (mN zs p), mO zs p false, false, 0⟩, .bool (false)]) ∧ Rs w' N B a len cap zs (mP zs p false) (false) (false) ∧ But [B] w.heap.size w w' := by
  have hB := R.lt
  have F := RF.start R 28 z16
  have hX := Lib.hid (fun W (R : Rs W N B a len cap zs p false false) => modrm_ref R)
  rw [hs] at hX
  have hn := mN_bd R
  generalize mP zs p false = q0 at *
  generalize mO zs p false = o at *
  generalize mN zs p = n at *
  have hR := Lib.hid (fun W => reg_any n W)
  go_enter Tryd.func27, Tryd.ntmps27
  go_upto_region 1 with fail
  generalize w.alloc (.cells z16 28) = w1 at *
  go_upto_region 25 with (first | ((with_reducible refine (hX.out _ F.r).mono ?_); rintro e w2 ⟨rfl, R2, k2⟩; have F2 := F.read R2 k2) | ((with_reducible refine store_op_as rfl _ _ rfl (op6 o) (op6_size _) (op6_one _) rfl rfl ?_); intro w3 kO b3; have F3 := F2.below b3; have hK := F2.lt))
  generalize w2.heap.size = K at *
  have hBK : K ∉ [B] := by simp; omega
  have c2 := F3.r.c2
  go_upto_region 27 with fail
  go_upto_region 41 with fail
  have FD := F3.drew
  have kD := kO.drew
  refine wp_region_held_drew (S := fun W => OX w W N B a len cap zs false K (o)) (by kernel_rfl) ⟨⟨_, _, z16, z16_size, FD⟩, kD⟩ (fun hHeld => ?_)
  generalize w3.drew = wd at *
  refine wpAnyH_take (i := 0) (v := ?_) rfl (by kernel_rfl) (by kernel_rfl) (by kernel_rfl) (fun _ _ _ h => h) (Or.inl ⟨by kernel_rfl, ?_⟩) hHeld ?_
  rotate_left
  · intro W hS
    go_simp
    try rfl
  simp only [Act.put, List.setIfInBounds_toArray, List.set_cons_zero, List.set_cons_succ, List.getElem_toArray, List.getElem_cons_succ, List.getElem_cons_zero]
  refine wpAnyH_take (i := 2) (v := opV (o)) rfl (by kernel_rfl) (by kernel_rfl) (by kernel_rfl) (fun _ _ _ h => h) (Or.inl ⟨by kernel_rfl, ?_⟩) hHeld ?_
  · intro W hS
    exact run_load_row (by rfl) (by rfl) 26 _ (0, 0) _ hS.k.h Tryd.underlying26 rfl (szOp onZ)
  simp only [Act.put, List.setIfInBounds_toArray, List.set_cons_zero, List.set_cons_succ]
  refine wpAnyH_ready (rs := [1]) (by kernel_rfl) (by simp) ?_
  refine AllReadyH.cons rfl (fun K hK => ?_) AllReadyH.nil
  go_simp
  with_reducible refine (hR.out _).mono ?_
  rintro e wd1 ⟨rfl, bb1⟩
  have FD1 := FD.below bb1
  have kD1 := kD.below bb1 kD.lt
  refine hK.out _ _ ⟨⟨_, _, z16, z16_size, FD1⟩, kD1⟩ (fun _ => ?_)
  clear hK K
  try simp only [Act.put, List.setIfInBounds_toArray, List.set_cons_zero, List.set_cons_succ]
  refine wpAnyH_take (i := 3) (v := ?_) rfl (by kernel_rfl) (by kernel_rfl) (by kernel_rfl) (fun _ _ _ h => h) (Or.inl ⟨by kernel_rfl, ?_⟩) ⟨⟨_, _, z16, z16_size, FD1⟩, kD1⟩ ?_
  rotate_left
  · intro W hS
    go_simp
    try rfl
  simp only [Act.put, List.setIfInBounds_toArray, List.set_cons_zero, List.set_cons_succ, List.getElem_toArray, List.getElem_cons_succ, List.getElem_cons_zero]
  refine wpAnyH_ready (rs := [4]) (by kernel_rfl) (by simp) ?_
  refine AllReadyH.cons rfl (fun K hK => ?_) AllReadyH.nil
  rw [if_pos (by kernel_rfl)]
  refine wp_store_row 28 _ _ rfl w.heap.size (in16 ⟨2, 0, onReg n, o, false, 0⟩) rfl rfl 28 z16 FD1.z.h (szIn ⟨2, 0, onReg n, o, false, 0⟩) z16_size (in16_one _) ?_
  have FZ := FD1.done (FD1.z.row (in16 ⟨2, 0, onReg n, o, false, 0⟩)) (But.row1 _ _ _)
  have kZ := kD1.rowOther (M := w.heap.size) (in16 ⟨2, 0, onReg n, o, false, 0⟩) (by omega)
  refine hK.out _ _ ⟨⟨_, _, in16 ⟨2, 0, onReg n, o, false, 0⟩, in16_size _, FZ⟩, kZ⟩ (fun _ => ?_)
  clear hK K
  try simp only [Act.put, List.setIfInBounds_toArray, List.set_cons_zero, List.set_cons_succ, List.getElem_toArray, List.getElem_cons_succ, List.getElem_cons_zero]
  refine wpAnyH_take (i := 5) (v := ?_) rfl (by kernel_rfl) (by kernel_rfl) (by kernel_rfl) (fun _ _ _ h => h) (Or.inl ⟨by kernel_rfl, ?_⟩) ⟨⟨_, _, in16 ⟨2, 0, onReg n, o, false, 0⟩, in16_size _, FZ⟩, kZ⟩ ?_
  rotate_left
  · intro W hS
    go_simp
    try rfl
  simp only [Act.put, List.setIfInBounds_toArray, List.set_cons_zero, List.set_cons_succ, List.getElem_toArray, List.getElem_cons_succ, List.getElem_cons_zero]
  refine wpAnyH_done (by kernel_rfl) ?_ _
  go_wp2_with fail
  exact bodyPost_ret (v := .tuple #[inV ⟨2, 0, onReg n, o, false, 0⟩, .bool (false)]) (results_ct rfl _ _ w.heap.size 28 (in16 ⟨2, 0, onReg n, o, false, 0⟩) (0, 0) _ _ rfl rfl FZ.z.h Tryd.underlying28 rfl (szIn inZ)) rfl ⟨rfl, FZ.r, FZ.k⟩
set_option maxRecDepth 100000 in
theorem modded_8b (R : Rs w N B a len cap zs p false false) (hs : mS zs p false = false) :
    Calls Tryd.prog 27 #[rp B, .int .u8 139] w fun e w' => e = .returned (.tuple #[inV ⟨1, 0, onReg (mN zs p), mO zs p false, false, 0⟩, .bool (false)]) ∧ Rs w' N B a len cap zs (mP zs p false) (false) (false) ∧ But [B] w.heap.size w w' := by
  have hB := R.lt
  have F := RF.start R 28 z16
  have hX := Lib.hid (fun W (R : Rs W N B a len cap zs p false false) => modrm_ref R)
  rw [hs] at hX
  have hn := mN_bd R
  generalize mP zs p false = q0 at *
  generalize mO zs p false = o at *
  generalize mN zs p = n at *
  have hR := Lib.hid (fun W => reg_any n W)
  go_enter Tryd.func27, Tryd.ntmps27
  go_upto_region 1 with fail
  generalize w.alloc (.cells z16 28) = w1 at *
  go_upto_region 25 with (first | ((with_reducible refine (hX.out _ F.r).mono ?_); rintro e w2 ⟨rfl, R2, k2⟩; have F2 := F.read R2 k2) | ((with_reducible refine store_op_as rfl _ _ rfl (op6 o) (op6_size _) (op6_one _) rfl rfl ?_); intro w3 kO b3; have F3 := F2.below b3; have hK := F2.lt))
  generalize w2.heap.size = K at *
  have hBK : K ∉ [B] := by simp; omega
  have c2 := F3.r.c2
  go_upto_region 27 with fail
  go_upto_region 43 with fail
  have FD := F3.drew
  have kD := kO.drew
  refine wp_region_held_drew (S := fun W => OX w W N B a len cap zs false K (o)) (by kernel_rfl) ⟨⟨_, _, z16, z16_size, FD⟩, kD⟩ (fun hHeld => ?_)
  generalize w3.drew = wd at *
  refine wpAnyH_take (i := 0) (v := ?_) rfl (by kernel_rfl) (by kernel_rfl) (by kernel_rfl) (fun _ _ _ h => h) (Or.inl ⟨by kernel_rfl, ?_⟩) hHeld ?_
  rotate_left
  · intro W hS
    go_simp
    try rfl
  simp only [Act.put, List.setIfInBounds_toArray, List.set_cons_zero, List.set_cons_succ, List.getElem_toArray, List.getElem_cons_succ, List.getElem_cons_zero]
  refine wpAnyH_take (i := 2) (v := opV (o)) rfl (by kernel_rfl) (by kernel_rfl) (by kernel_rfl) (fun _ _ _ h => h) (Or.inl ⟨by kernel_rfl, ?_⟩) hHeld ?_
  · intro W hS
    exact run_load_row (by rfl) (by rfl) 26 _ (0, 0) _ hS.k.h Tryd.underlying26 rfl (szOp onZ)
  simp only [Act.put, List.setIfInBounds_toArray, List.set_cons_zero, List.set_cons_succ]
  refine wpAnyH_ready (rs := [1]) (by kernel_rfl) (by simp) ?_
  refine AllReadyH.cons rfl (fun K hK => ?_) AllReadyH.nil
  go_simp
  with_reducible refine (hR.out _).mono ?_
  rintro e wd1 ⟨rfl, bb1⟩
  have FD1 := FD.below bb1
  have kD1 := kD.below bb1 kD.lt
  refine hK.out _ _ ⟨⟨_, _, z16, z16_size, FD1⟩, kD1⟩ (fun _ => ?_)
  clear hK K
  try simp only [Act.put, List.setIfInBounds_toArray, List.set_cons_zero, List.set_cons_succ]
  refine wpAnyH_take (i := 3) (v := ?_) rfl (by kernel_rfl) (by kernel_rfl) (by kernel_rfl) (fun _ _ _ h => h) (Or.inl ⟨by kernel_rfl, ?_⟩) ⟨⟨_, _, z16, z16_size, FD1⟩, kD1⟩ ?_
  rotate_left
  · intro W hS
    go_simp
    try rfl
  simp only [Act.put, List.setIfInBounds_toArray, List.set_cons_zero, List.set_cons_succ, List.getElem_toArray, List.getElem_cons_succ, List.getElem_cons_zero]
  refine wpAnyH_ready (rs := [4]) (by kernel_rfl) (by simp) ?_
  refine AllReadyH.cons rfl (fun K hK => ?_) AllReadyH.nil
  rw [if_pos (by kernel_rfl)]
  refine wp_store_row 28 _ _ rfl w.heap.size (in16 ⟨1, 0, onReg n, o, false, 0⟩) rfl rfl 28 z16 FD1.z.h (szIn ⟨1, 0, onReg n, o, false, 0⟩) z16_size (in16_one _) ?_
  have FZ := FD1.done (FD1.z.row (in16 ⟨1, 0, onReg n, o, false, 0⟩)) (But.row1 _ _ _)
  have kZ := kD1.rowOther (M := w.heap.size) (in16 ⟨1, 0, onReg n, o, false, 0⟩) (by omega)
  refine hK.out _ _ ⟨⟨_, _, in16 ⟨1, 0, onReg n, o, false, 0⟩, in16_size _, FZ⟩, kZ⟩ (fun _ => ?_)
  clear hK K
  try simp only [Act.put, List.setIfInBounds_toArray, List.set_cons_zero, List.set_cons_succ, List.getElem_toArray, List.getElem_cons_succ, List.getElem_cons_zero]
  refine wpAnyH_take (i := 5) (v := ?_) rfl (by kernel_rfl) (by kernel_rfl) (by kernel_rfl) (fun _ _ _ h => h) (Or.inl ⟨by kernel_rfl, ?_⟩) ⟨⟨_, _, in16 ⟨1, 0, onReg n, o, false, 0⟩, in16_size _, FZ⟩, kZ⟩ ?_
  rotate_left
  · intro W hS
    go_simp
    try rfl
  simp only [Act.put, List.setIfInBounds_toArray, List.set_cons_zero, List.set_cons_succ, List.getElem_toArray, List.getElem_cons_succ, List.getElem_cons_zero]
  refine wpAnyH_done (by kernel_rfl) ?_ _
  go_wp2_with fail
  exact bodyPost_ret (v := .tuple #[inV ⟨1, 0, onReg n, o, false, 0⟩, .bool (false)]) (results_ct rfl _ _ w.heap.size 28 (in16 ⟨1, 0, onReg n, o, false, 0⟩) (0, 0) _ _ rfl rfl FZ.z.h Tryd.underlying28 rfl (szIn inZ)) rfl ⟨rfl, FZ.r, FZ.k⟩
set_option maxRecDepth 100000 in
theorem modded_c1 (R : Rs w N B a len cap zs p false false) (hs : mS zs p false = false) (ht : (shN (mN zs p) == 0) = false):
    Calls Tryd.prog 27 #[rp B, .int .u8 193] w fun e w' => e = .returned (.tuple #[inV ⟨shN (mN zs p), 0, mO zs p false, onImm (zs.getD (mP zs p false) 0), false, 0⟩, .bool (false)]) ∧ Rs w' N B a len cap zs (nx zs (mP zs p false) 1) (so zs (mP zs p false) 1 false) (false) ∧ But [B] w.heap.size w w' := by
  have hB := R.lt
  have F := RF.start R 28 z16
  have hX := Lib.hid (fun W (R : Rs W N B a len cap zs p false false) => modrm_ref R)
  rw [hs] at hX
  have hn := mN_bd R
  have hV := Lib.hid (fun W (R : Rs W N B a len cap zs (mP zs p false) false false) => byte_any R)
  have hv := byte_bd R (mP zs p false)
  have hvw : IntKind.u32.wrap (zs.getD (mP zs p false) 0) = zs.getD (mP zs p false) 0 := by rw [IntKind.wrap_u32]; omega
  generalize mP zs p false = q0 at *
  generalize mO zs p false = o at *
  generalize mN zs p = n at *
  generalize zs.getD q0 0 = v at *
  generalize nx zs q0 1 = q1 at *
  generalize so zs q0 1 false = s1 at *
  have hI := Lib.hid (fun W => imm_any v W)
  have hS := Lib.hid shifts_ref
  have i1 := ix_sh n hn
  generalize shN n = op at *
  have hR := Lib.hid (fun W => reg_any n W)
  go_enter Tryd.func27, Tryd.ntmps27
  go_upto_region 1 with fail
  generalize w.alloc (.cells z16 28) = w1 at *
  go_upto_region 25 with (first | ((with_reducible refine (hX.out _ F.r).mono ?_); rintro e w2 ⟨rfl, R2, k2⟩; have F2 := F.read R2 k2) | ((with_reducible refine store_op_as rfl _ _ rfl (op6 o) (op6_size _) (op6_one _) rfl rfl ?_); intro w3 kO b3; have F3 := F2.below b3; have hK := F2.lt))
  generalize w2.heap.size = K at *
  have hBK : K ∉ [B] := by simp; omega
  have c2 := F3.r.c2
  go_upto_region 27 with fail
  go_upto_region 50 with ((with_reducible refine (hS.out _).mono ?_); rintro e w4 ⟨rfl, b4⟩; have F4 := F3.below b4; have kO4 := kO.below b4 kO.lt)
  have FD := F4.drew
  have kD := kO4.drew
  refine wp_region_held_drew (S := fun W => OX w W N B a len cap zs false K (o)) (by kernel_rfl) ⟨⟨_, _, z16, z16_size, FD⟩, kD⟩ (fun hHeld => ?_)
  generalize w4.drew = wd at *
  refine wpAnyH_take (i := 1) (v := ?_) rfl (by kernel_rfl) (by kernel_rfl) (by kernel_rfl) (fun _ _ _ h => h) (Or.inl ⟨by kernel_rfl, ?_⟩) hHeld ?_
  rotate_left
  · intro W hS
    go_simp
    try rfl
  simp only [Act.put, List.setIfInBounds_toArray, List.set_cons_zero, List.set_cons_succ, List.getElem_toArray, List.getElem_cons_succ, List.getElem_cons_zero]
  refine wpAnyH_take (i := 3) (v := opV (o)) rfl (by kernel_rfl) (by kernel_rfl) (by kernel_rfl) (fun _ _ _ h => h) (Or.inl ⟨by kernel_rfl, ?_⟩) hHeld ?_
  · intro W hS
    exact run_load_row (by rfl) (by rfl) 26 _ (0, 0) _ hS.k.h Tryd.underlying26 rfl (szOp onZ)
  simp only [Act.put, List.setIfInBounds_toArray, List.set_cons_zero, List.set_cons_succ]
  refine wpAnyH_take (i := 4) (v := ?_) rfl (by kernel_rfl) (by kernel_rfl) (by kernel_rfl) (fun _ _ _ h => h) (Or.inl ⟨by kernel_rfl, ?_⟩) hHeld ?_
  rotate_left
  · intro W hS
    go_simp
    try rfl
  simp only [Act.put, List.setIfInBounds_toArray, List.set_cons_zero, List.set_cons_succ, List.getElem_toArray, List.getElem_cons_succ, List.getElem_cons_zero]
  refine wpAnyH_ready (rs := [0]) (by kernel_rfl) (by simp) ?_
  refine AllReadyH.cons rfl (fun K hK => ?_) AllReadyH.nil
  go_simp
  with_reducible refine (hS.out _).mono ?_
  rintro e wd0 ⟨rfl, bb0⟩
  have FD0 := FD.below bb0
  have kD0 := kD.below bb0 kD.lt
  refine hK.out _ _ ⟨⟨_, _, z16, z16_size, FD0⟩, kD0⟩ (fun _ => ?_)
  clear hK K
  try simp only [Act.put, List.setIfInBounds_toArray, List.set_cons_zero, List.set_cons_succ]
  refine wpAnyH_take (i := 2) (v := ?_) rfl (by kernel_rfl) (by kernel_rfl) (by kernel_rfl) (fun _ _ _ h => h) (Or.inl ⟨by kernel_rfl, ?_⟩) ⟨⟨_, _, z16, z16_size, FD0⟩, kD0⟩ ?_
  rotate_left
  · intro W hS
    go_simp
    try rfl
  simp only [Act.put, List.setIfInBounds_toArray, List.set_cons_zero, List.set_cons_succ, List.getElem_toArray, List.getElem_cons_succ, List.getElem_cons_zero]
  refine wpAnyH_ready (rs := [5]) (by kernel_rfl) (by simp) ?_
  refine AllReadyH.cons rfl (fun K hK => ?_) AllReadyH.nil
  go_simp
  with_reducible refine (hV.out _ FD0.r).mono ?_
  rintro e wd5 ⟨rfl, RR5, bb5⟩
  have FD5 := FD0.read RR5 bb5
  have kD5 := kD0.but bb5 kD0.lt hBK
  refine hK.out _ _ ⟨⟨_, _, z16, z16_size, FD5⟩, kD5⟩ (fun _ => ?_)
  clear hK K
  try simp only [Act.put, List.setIfInBounds_toArray, List.set_cons_zero, List.set_cons_succ]
  refine wpAnyH_take (i := 6) (v := ?_) rfl (by kernel_rfl) (by kernel_rfl) (by kernel_rfl) (fun _ _ _ h => h) (Or.inl ⟨by kernel_rfl, ?_⟩) ⟨⟨_, _, z16, z16_size, FD5⟩, kD5⟩ ?_
  rotate_left
  · intro W hS
    go_simp
    try rfl
  simp only [Act.put, List.setIfInBounds_toArray, List.set_cons_zero, List.set_cons_succ, List.getElem_toArray, List.getElem_cons_succ, List.getElem_cons_zero]
  refine wpAnyH_ready (rs := [7]) (by kernel_rfl) (by simp) ?_
  refine AllReadyH.cons rfl (fun K hK => ?_) AllReadyH.nil
  go_simp
  with_reducible refine (hI.out _).mono ?_
  rintro e wd7 ⟨rfl, bb7⟩
  have FD7 := FD5.below bb7
  have kD7 := kD5.below bb7 kD5.lt
  refine hK.out _ _ ⟨⟨_, _, z16, z16_size, FD7⟩, kD7⟩ (fun _ => ?_)
  clear hK K
  try simp only [Act.put, List.setIfInBounds_toArray, List.set_cons_zero, List.set_cons_succ]
  refine wpAnyH_take (i := 8) (v := ?_) rfl (by kernel_rfl) (by kernel_rfl) (by kernel_rfl) (fun _ _ _ h => h) (Or.inl ⟨by kernel_rfl, ?_⟩) ⟨⟨_, _, z16, z16_size, FD7⟩, kD7⟩ ?_
  rotate_left
  · intro W hS
    go_simp
    try rfl
  simp only [Act.put, List.setIfInBounds_toArray, List.set_cons_zero, List.set_cons_succ, List.getElem_toArray, List.getElem_cons_succ, List.getElem_cons_zero]
  refine wpAnyH_ready (rs := [9]) (by kernel_rfl) (by simp) ?_
  refine AllReadyH.cons rfl (fun K hK => ?_) AllReadyH.nil
  rw [if_pos (by kernel_rfl)]
  refine wp_store_row 28 _ _ rfl w.heap.size (in16 ⟨op, 0, o, onImm v, false, 0⟩) rfl rfl 28 z16 FD7.z.h (szIn ⟨op, 0, o, onImm v, false, 0⟩) z16_size (in16_one _) ?_
  have FZ := FD7.done (FD7.z.row (in16 ⟨op, 0, o, onImm v, false, 0⟩)) (But.row1 _ _ _)
  have kZ := kD7.rowOther (M := w.heap.size) (in16 ⟨op, 0, o, onImm v, false, 0⟩) (by omega)
  refine hK.out _ _ ⟨⟨_, _, in16 ⟨op, 0, o, onImm v, false, 0⟩, in16_size _, FZ⟩, kZ⟩ (fun _ => ?_)
  clear hK K
  try simp only [Act.put, List.setIfInBounds_toArray, List.set_cons_zero, List.set_cons_succ, List.getElem_toArray, List.getElem_cons_succ, List.getElem_cons_zero]
  refine wpAnyH_take (i := 10) (v := ?_) rfl (by kernel_rfl) (by kernel_rfl) (by kernel_rfl) (fun _ _ _ h => h) (Or.inl ⟨by kernel_rfl, ?_⟩) ⟨⟨_, _, in16 ⟨op, 0, o, onImm v, false, 0⟩, in16_size _, FZ⟩, kZ⟩ ?_
  rotate_left
  · intro W hS
    go_simp
    try rfl
  simp only [Act.put, List.setIfInBounds_toArray, List.set_cons_zero, List.set_cons_succ, List.getElem_toArray, List.getElem_cons_succ, List.getElem_cons_zero]
  refine wpAnyH_done (by kernel_rfl) ?_ _
  go_wp2_with fail
  exact bodyPost_ret (v := .tuple #[inV ⟨op, 0, o, onImm v, false, 0⟩, .bool (false)]) (results_ct rfl _ _ w.heap.size 28 (in16 ⟨op, 0, o, onImm v, false, 0⟩) (0, 0) _ _ rfl rfl FZ.z.h Tryd.underlying28 rfl (szIn inZ)) rfl ⟨rfl, FZ.r, FZ.k⟩
set_option maxRecDepth 100000 in
theorem modded_c1_no (R : Rs w N B a len cap zs p false false) (hs : mS zs p false = false) (ht : (shN (mN zs p) == 0) = true) :
    Calls Tryd.prog 27 #[rp B, .int .u8 193] w fun e w' => e = .returned (.tuple #[inV inZ, .bool (true)]) ∧ Rs w' N B a len cap zs (mP zs p false) (false) (false) ∧ But [B] w.heap.size w w' := by
  have hB := R.lt
  have F := RF.start R 28 z16
  have hX := Lib.hid (fun W (R : Rs W N B a len cap zs p false false) => modrm_ref R)
  rw [hs] at hX
  have hn := mN_bd R
  generalize mP zs p false = q0 at *
  generalize mO zs p false = o at *
  generalize mN zs p = n at *
  have hS := Lib.hid shifts_ref
  have i1 := ix_sh n hn
  generalize hop : shN n = op at *
  have h0 : op = 0 := by simpa using ht
  clear ht hop
  subst h0
  go_enter Tryd.func27, Tryd.ntmps27
  go_upto_region 1 with fail
  generalize w.alloc (.cells z16 28) = w1 at *
  go_upto_region 25 with (first | ((with_reducible refine (hX.out _ F.r).mono ?_); rintro e w2 ⟨rfl, R2, k2⟩; have F2 := F.read R2 k2) | ((with_reducible refine store_op_as rfl _ _ rfl (op6 o) (op6_size _) (op6_one _) rfl rfl ?_); intro w3 kO b3; have F3 := F2.below b3; have hK := F2.lt))
  generalize w2.heap.size = K at *
  have hBK : K ∉ [B] := by simp; omega
  have c2 := F3.r.c2
  go_upto_region 27 with fail
  go_wp2_with (first | ((with_reducible refine (hS.out _).mono ?_); rintro e w4 ⟨rfl, b4⟩; have F4 := F3.below b4) | ((with_reducible refine store_inR rfl _ _ rfl _ (in16 inZ) z16 rfl rfl F4.z (in16_size _) z16_size (in16_one _) ?_); intro wz kz bz hz; have FZ := F4.done kz bz))
  exact bodyPost_ret (v := .tuple #[inV inZ, .bool (true)]) (results_ct rfl _ _ w.heap.size 28 (in16 inZ) (0, 0) _ _ rfl rfl FZ.z.h Tryd.underlying28 rfl (szIn inZ)) rfl ⟨rfl, FZ.r, FZ.k⟩
set_option maxRecDepth 100000 in
theorem modded_d1 (R : Rs w N B a len cap zs p false false) (hs : mS zs p false = false) {t : Bool} (ht : (shN (mN zs p) == 0) = t):
    Calls Tryd.prog 27 #[rp B, .int .u8 209] w fun e w' => e = .returned (.tuple #[inV ⟨shN (mN zs p), 0, mO zs p false, onImm 1, false, 0⟩, .bool (t)]) ∧ Rs w' N B a len cap zs (mP zs p false) (false) (false) ∧ But [B] w.heap.size w w' := by
  have hB := R.lt
  have F := RF.start R 28 z16
  have hX := Lib.hid (fun W (R : Rs W N B a len cap zs p false false) => modrm_ref R)
  rw [hs] at hX
  have hn := mN_bd R
  generalize mP zs p false = q0 at *
  generalize mO zs p false = o at *
  generalize mN zs p = n at *
  have hS := Lib.hid shifts_ref
  have i1 := ix_sh n hn
  generalize shN n = op at *
  have hC := Lib.hid (fun W => imm_any 1 W)
  have hR := Lib.hid (fun W => reg_any n W)
  go_enter Tryd.func27, Tryd.ntmps27
  go_upto_region 1 with fail
  generalize w.alloc (.cells z16 28) = w1 at *
  go_upto_region 25 with (first | ((with_reducible refine (hX.out _ F.r).mono ?_); rintro e w2 ⟨rfl, R2, k2⟩; have F2 := F.read R2 k2) | ((with_reducible refine store_op_as rfl _ _ rfl (op6 o) (op6_size _) (op6_one _) rfl rfl ?_); intro w3 kO b3; have F3 := F2.below b3; have hK := F2.lt))
  generalize w2.heap.size = K at *
  have hBK : K ∉ [B] := by simp; omega
  have c2 := F3.r.c2
  go_upto_region 27 with fail
  go_upto_region 52 with fail
  have FD := F3.drew
  have kD := kO.drew
  refine wp_region_held_drew (S := fun W => OX w W N B a len cap zs false K (o)) (by kernel_rfl) ⟨⟨_, _, z16, z16_size, FD⟩, kD⟩ (fun hHeld => ?_)
  generalize w3.drew = wd at *
  refine wpAnyH_take (i := 1) (v := ?_) rfl (by kernel_rfl) (by kernel_rfl) (by kernel_rfl) (fun _ _ _ h => h) (Or.inl ⟨by kernel_rfl, ?_⟩) hHeld ?_
  rotate_left
  · intro W hS
    go_simp
    try rfl
  simp only [Act.put, List.setIfInBounds_toArray, List.set_cons_zero, List.set_cons_succ, List.getElem_toArray, List.getElem_cons_succ, List.getElem_cons_zero]
  refine wpAnyH_take (i := 3) (v := opV (o)) rfl (by kernel_rfl) (by kernel_rfl) (by kernel_rfl) (fun _ _ _ h => h) (Or.inl ⟨by kernel_rfl, ?_⟩) hHeld ?_
  · intro W hS
    exact run_load_row (by rfl) (by rfl) 26 _ (0, 0) _ hS.k.h Tryd.underlying26 rfl (szOp onZ)
  simp only [Act.put, List.setIfInBounds_toArray, List.set_cons_zero, List.set_cons_succ]
  refine wpAnyH_take (i := 7) (v := ?_) rfl (by kernel_rfl) (by kernel_rfl) (by kernel_rfl) (fun _ _ _ h => h) (Or.inl ⟨by kernel_rfl, ?_⟩) hHeld ?_
  rotate_left
  · intro W hS
    go_simp
    try rfl
  simp only [Act.put, List.setIfInBounds_toArray, List.set_cons_zero, List.set_cons_succ, List.getElem_toArray, List.getElem_cons_succ, List.getElem_cons_zero]
  refine wpAnyH_ready (rs := [0]) (by kernel_rfl) (by simp) ?_
  refine AllReadyH.cons rfl (fun K hK => ?_) AllReadyH.nil
  go_simp
  with_reducible refine (hS.out _).mono ?_
  rintro e wd0 ⟨rfl, bb0⟩
  have FD0 := FD.below bb0
  have kD0 := kD.below bb0 kD.lt
  refine hK.out _ _ ⟨⟨_, _, z16, z16_size, FD0⟩, kD0⟩ (fun _ => ?_)
  clear hK K
  try simp only [Act.put, List.setIfInBounds_toArray, List.set_cons_zero, List.set_cons_succ]
  refine wpAnyH_take (i := 2) (v := ?_) rfl (by kernel_rfl) (by kernel_rfl) (by kernel_rfl) (fun _ _ _ h => h) (Or.inl ⟨by kernel_rfl, ?_⟩) ⟨⟨_, _, z16, z16_size, FD0⟩, kD0⟩ ?_
  rotate_left
  · intro W hS
    go_simp
    try rfl
  simp only [Act.put, List.setIfInBounds_toArray, List.set_cons_zero, List.set_cons_succ, List.getElem_toArray, List.getElem_cons_succ, List.getElem_cons_zero]
  refine wpAnyH_ready (rs := [4]) (by kernel_rfl) (by simp) ?_
  refine AllReadyH.cons rfl (fun K hK => ?_) AllReadyH.nil
  go_simp
  with_reducible refine (hC.out _).mono ?_
  rintro e wd4 ⟨rfl, bb4⟩
  have FD4 := FD0.below bb4
  have kD4 := kD0.below bb4 kD0.lt
  refine hK.out _ _ ⟨⟨_, _, z16, z16_size, FD4⟩, kD4⟩ (fun _ => ?_)
  clear hK K
  try simp only [Act.put, List.setIfInBounds_toArray, List.set_cons_zero, List.set_cons_succ]
  refine wpAnyH_take (i := 5) (v := ?_) rfl (by kernel_rfl) (by kernel_rfl) (by kernel_rfl) (fun _ _ _ h => h) (Or.inl ⟨by kernel_rfl, ?_⟩) ⟨⟨_, _, z16, z16_size, FD4⟩, kD4⟩ ?_
  rotate_left
  · intro W hS
    go_simp
    try rfl
  simp only [Act.put, List.setIfInBounds_toArray, List.set_cons_zero, List.set_cons_succ, List.getElem_toArray, List.getElem_cons_succ, List.getElem_cons_zero]
  refine wpAnyH_ready (rs := [6]) (by kernel_rfl) (by simp) ?_
  refine AllReadyH.cons rfl (fun K hK => ?_) AllReadyH.nil
  go_simp
  with_reducible refine (hS.out _).mono ?_
  rintro e wd6 ⟨rfl, bb6⟩
  have FD6 := FD4.below bb6
  have kD6 := kD4.below bb6 kD4.lt
  refine hK.out _ _ ⟨⟨_, _, z16, z16_size, FD6⟩, kD6⟩ (fun _ => ?_)
  clear hK K
  try simp only [Act.put, List.setIfInBounds_toArray, List.set_cons_zero, List.set_cons_succ]
  refine wpAnyH_take (i := 8) (v := ?_) rfl (by kernel_rfl) (by kernel_rfl) (by kernel_rfl) (fun _ _ _ h => h) (Or.inl ⟨by kernel_rfl, ?_⟩) ⟨⟨_, _, z16, z16_size, FD6⟩, kD6⟩ ?_
  rotate_left
  · intro W hS
    go_simp
    try rfl
  simp only [Act.put, List.setIfInBounds_toArray, List.set_cons_zero, List.set_cons_succ, List.getElem_toArray, List.getElem_cons_succ, List.getElem_cons_zero]
  refine wpAnyH_take (i := 9) (v := ?_) rfl (by kernel_rfl) (by kernel_rfl) (by kernel_rfl) (fun _ _ _ h => h) (Or.inl ⟨by kernel_rfl, ?_⟩) ⟨⟨_, _, z16, z16_size, FD6⟩, kD6⟩ ?_
  rotate_left
  · intro W hS
    go_simp
    try rfl
  simp only [Act.put, List.setIfInBounds_toArray, List.set_cons_zero, List.set_cons_succ, List.getElem_toArray, List.getElem_cons_succ, List.getElem_cons_zero]
  refine wpAnyH_ready (rs := [10]) (by kernel_rfl) (by simp) ?_
  refine AllReadyH.cons rfl (fun K hK => ?_) AllReadyH.nil
  rw [if_pos (by kernel_rfl)]
  refine wp_store_row 28 _ _ rfl w.heap.size (in16 ⟨op, 0, o, onImm 1, false, 0⟩) rfl rfl 28 z16 FD6.z.h (szIn ⟨op, 0, o, onImm 1, false, 0⟩) z16_size (in16_one _) ?_
  have FZ := FD6.done (FD6.z.row (in16 ⟨op, 0, o, onImm 1, false, 0⟩)) (But.row1 _ _ _)
  have kZ := kD6.rowOther (M := w.heap.size) (in16 ⟨op, 0, o, onImm 1, false, 0⟩) (by omega)
  refine hK.out _ _ ⟨⟨_, _, in16 ⟨op, 0, o, onImm 1, false, 0⟩, in16_size _, FZ⟩, kZ⟩ (fun _ => ?_)
  clear hK K
  try simp only [Act.put, List.setIfInBounds_toArray, List.set_cons_zero, List.set_cons_succ, List.getElem_toArray, List.getElem_cons_succ, List.getElem_cons_zero]
  refine wpAnyH_take (i := 11) (v := ?_) rfl (by kernel_rfl) (by kernel_rfl) (by kernel_rfl) (fun _ _ _ h => h) (Or.inl ⟨by kernel_rfl, ?_⟩) ⟨⟨_, _, in16 ⟨op, 0, o, onImm 1, false, 0⟩, in16_size _, FZ⟩, kZ⟩ ?_
  rotate_left
  · intro W hS
    go_simp
    try rfl
  simp only [Act.put, List.setIfInBounds_toArray, List.set_cons_zero, List.set_cons_succ, List.getElem_toArray, List.getElem_cons_succ, List.getElem_cons_zero]
  refine wpAnyH_done (by kernel_rfl) ?_ _
  go_wp2_with fail
  exact bodyPost_ret (v := .tuple #[inV ⟨op, 0, o, onImm 1, false, 0⟩, .bool (t)]) (results_ct rfl _ _ w.heap.size 28 (in16 ⟨op, 0, o, onImm 1, false, 0⟩) (0, 0) _ _ rfl rfl FZ.z.h Tryd.underlying28 rfl (szIn inZ)) rfl ⟨rfl, FZ.r, FZ.k⟩
set_option maxRecDepth 100000 in
theorem modded_d3 (R : Rs w N B a len cap zs p false false) (hs : mS zs p false = false) {t : Bool} (ht : (shN (mN zs p) == 0) = t):
    Calls Tryd.prog 27 #[rp B, .int .u8 211] w fun e w' => e = .returned (.tuple #[inV ⟨shN (mN zs p), 0, mO zs p false, onReg 1, false, 0⟩, .bool (t)]) ∧ Rs w' N B a len cap zs (mP zs p false) (false) (false) ∧ But [B] w.heap.size w w' := by
  have hB := R.lt
  have F := RF.start R 28 z16
  have hX := Lib.hid (fun W (R : Rs W N B a len cap zs p false false) => modrm_ref R)
  rw [hs] at hX
  have hn := mN_bd R
  generalize mP zs p false = q0 at *
  generalize mO zs p false = o at *
  generalize mN zs p = n at *
  have hS := Lib.hid shifts_ref
  have i1 := ix_sh n hn
  generalize shN n = op at *
  have hC := Lib.hid (fun W => reg_any 1 W)
  have hR := Lib.hid (fun W => reg_any n W)
  go_enter Tryd.func27, Tryd.ntmps27
  go_upto_region 1 with fail
  generalize w.alloc (.cells z16 28) = w1 at *
  go_upto_region 25 with (first | ((with_reducible refine (hX.out _ F.r).mono ?_); rintro e w2 ⟨rfl, R2, k2⟩; have F2 := F.read R2 k2) | ((with_reducible refine store_op_as rfl _ _ rfl (op6 o) (op6_size _) (op6_one _) rfl rfl ?_); intro w3 kO b3; have F3 := F2.below b3; have hK := F2.lt))
  generalize w2.heap.size = K at *
  have hBK : K ∉ [B] := by simp; omega
  have c2 := F3.r.c2
  go_upto_region 27 with fail
  go_upto_region 54 with fail
  have FD := F3.drew
  have kD := kO.drew
  refine wp_region_held_drew (S := fun W => OX w W N B a len cap zs false K (o)) (by kernel_rfl) ⟨⟨_, _, z16, z16_size, FD⟩, kD⟩ (fun hHeld => ?_)
  generalize w3.drew = wd at *
  refine wpAnyH_take (i := 1) (v := ?_) rfl (by kernel_rfl) (by kernel_rfl) (by kernel_rfl) (fun _ _ _ h => h) (Or.inl ⟨by kernel_rfl, ?_⟩) hHeld ?_
  rotate_left
  · intro W hS
    go_simp
    try rfl
  simp only [Act.put, List.setIfInBounds_toArray, List.set_cons_zero, List.set_cons_succ, List.getElem_toArray, List.getElem_cons_succ, List.getElem_cons_zero]
  refine wpAnyH_take (i := 3) (v := opV (o)) rfl (by kernel_rfl) (by kernel_rfl) (by kernel_rfl) (fun _ _ _ h => h) (Or.inl ⟨by kernel_rfl, ?_⟩) hHeld ?_
  · intro W hS
    exact run_load_row (by rfl) (by rfl) 26 _ (0, 0) _ hS.k.h Tryd.underlying26 rfl (szOp onZ)
  simp only [Act.put, List.setIfInBounds_toArray, List.set_cons_zero, List.set_cons_succ]
  refine wpAnyH_take (i := 7) (v := ?_) rfl (by kernel_rfl) (by kernel_rfl) (by kernel_rfl) (fun _ _ _ h => h) (Or.inl ⟨by kernel_rfl, ?_⟩) hHeld ?_
  rotate_left
  · intro W hS
    go_simp
    try rfl
  simp only [Act.put, List.setIfInBounds_toArray, List.set_cons_zero, List.set_cons_succ, List.getElem_toArray, List.getElem_cons_succ, List.getElem_cons_zero]
  refine wpAnyH_ready (rs := [0]) (by kernel_rfl) (by simp) ?_
  refine AllReadyH.cons rfl (fun K hK => ?_) AllReadyH.nil
  go_simp
  with_reducible refine (hS.out _).mono ?_
  rintro e wd0 ⟨rfl, bb0⟩
  have FD0 := FD.below bb0
  have kD0 := kD.below bb0 kD.lt
  refine hK.out _ _ ⟨⟨_, _, z16, z16_size, FD0⟩, kD0⟩ (fun _ => ?_)
  clear hK K
  try simp only [Act.put, List.setIfInBounds_toArray, List.set_cons_zero, List.set_cons_succ]
  refine wpAnyH_take (i := 2) (v := ?_) rfl (by kernel_rfl) (by kernel_rfl) (by kernel_rfl) (fun _ _ _ h => h) (Or.inl ⟨by kernel_rfl, ?_⟩) ⟨⟨_, _, z16, z16_size, FD0⟩, kD0⟩ ?_
  rotate_left
  · intro W hS
    go_simp
    try rfl
  simp only [Act.put, List.setIfInBounds_toArray, List.set_cons_zero, List.set_cons_succ, List.getElem_toArray, List.getElem_cons_succ, List.getElem_cons_zero]
  refine wpAnyH_ready (rs := [4]) (by kernel_rfl) (by simp) ?_
  refine AllReadyH.cons rfl (fun K hK => ?_) AllReadyH.nil
  go_simp
  with_reducible refine (hC.out _).mono ?_
  rintro e wd4 ⟨rfl, bb4⟩
  have FD4 := FD0.below bb4
  have kD4 := kD0.below bb4 kD0.lt
  refine hK.out _ _ ⟨⟨_, _, z16, z16_size, FD4⟩, kD4⟩ (fun _ => ?_)
  clear hK K
  try simp only [Act.put, List.setIfInBounds_toArray, List.set_cons_zero, List.set_cons_succ]
  refine wpAnyH_take (i := 5) (v := ?_) rfl (by kernel_rfl) (by kernel_rfl) (by kernel_rfl) (fun _ _ _ h => h) (Or.inl ⟨by kernel_rfl, ?_⟩) ⟨⟨_, _, z16, z16_size, FD4⟩, kD4⟩ ?_
  rotate_left
  · intro W hS
    go_simp
    try rfl
  simp only [Act.put, List.setIfInBounds_toArray, List.set_cons_zero, List.set_cons_succ, List.getElem_toArray, List.getElem_cons_succ, List.getElem_cons_zero]
  refine wpAnyH_ready (rs := [6]) (by kernel_rfl) (by simp) ?_
  refine AllReadyH.cons rfl (fun K hK => ?_) AllReadyH.nil
  go_simp
  with_reducible refine (hS.out _).mono ?_
  rintro e wd6 ⟨rfl, bb6⟩
  have FD6 := FD4.below bb6
  have kD6 := kD4.below bb6 kD4.lt
  refine hK.out _ _ ⟨⟨_, _, z16, z16_size, FD6⟩, kD6⟩ (fun _ => ?_)
  clear hK K
  try simp only [Act.put, List.setIfInBounds_toArray, List.set_cons_zero, List.set_cons_succ]
  refine wpAnyH_take (i := 8) (v := ?_) rfl (by kernel_rfl) (by kernel_rfl) (by kernel_rfl) (fun _ _ _ h => h) (Or.inl ⟨by kernel_rfl, ?_⟩) ⟨⟨_, _, z16, z16_size, FD6⟩, kD6⟩ ?_
  rotate_left
  · intro W hS
    go_simp
    try rfl
  simp only [Act.put, List.setIfInBounds_toArray, List.set_cons_zero, List.set_cons_succ, List.getElem_toArray, List.getElem_cons_succ, List.getElem_cons_zero]
  refine wpAnyH_take (i := 9) (v := ?_) rfl (by kernel_rfl) (by kernel_rfl) (by kernel_rfl) (fun _ _ _ h => h) (Or.inl ⟨by kernel_rfl, ?_⟩) ⟨⟨_, _, z16, z16_size, FD6⟩, kD6⟩ ?_
  rotate_left
  · intro W hS
    go_simp
    try rfl
  simp only [Act.put, List.setIfInBounds_toArray, List.set_cons_zero, List.set_cons_succ, List.getElem_toArray, List.getElem_cons_succ, List.getElem_cons_zero]
  refine wpAnyH_ready (rs := [10]) (by kernel_rfl) (by simp) ?_
  refine AllReadyH.cons rfl (fun K hK => ?_) AllReadyH.nil
  rw [if_pos (by kernel_rfl)]
  refine wp_store_row 28 _ _ rfl w.heap.size (in16 ⟨op, 0, o, onReg 1, false, 0⟩) rfl rfl 28 z16 FD6.z.h (szIn ⟨op, 0, o, onReg 1, false, 0⟩) z16_size (in16_one _) ?_
  have FZ := FD6.done (FD6.z.row (in16 ⟨op, 0, o, onReg 1, false, 0⟩)) (But.row1 _ _ _)
  have kZ := kD6.rowOther (M := w.heap.size) (in16 ⟨op, 0, o, onReg 1, false, 0⟩) (by omega)
  refine hK.out _ _ ⟨⟨_, _, in16 ⟨op, 0, o, onReg 1, false, 0⟩, in16_size _, FZ⟩, kZ⟩ (fun _ => ?_)
  clear hK K
  try simp only [Act.put, List.setIfInBounds_toArray, List.set_cons_zero, List.set_cons_succ, List.getElem_toArray, List.getElem_cons_succ, List.getElem_cons_zero]
  refine wpAnyH_take (i := 11) (v := ?_) rfl (by kernel_rfl) (by kernel_rfl) (by kernel_rfl) (fun _ _ _ h => h) (Or.inl ⟨by kernel_rfl, ?_⟩) ⟨⟨_, _, in16 ⟨op, 0, o, onReg 1, false, 0⟩, in16_size _, FZ⟩, kZ⟩ ?_
  rotate_left
  · intro W hS
    go_simp
    try rfl
  simp only [Act.put, List.setIfInBounds_toArray, List.set_cons_zero, List.set_cons_succ, List.getElem_toArray, List.getElem_cons_succ, List.getElem_cons_zero]
  refine wpAnyH_done (by kernel_rfl) ?_ _
  go_wp2_with fail
  exact bodyPost_ret (v := .tuple #[inV ⟨op, 0, o, onReg 1, false, 0⟩, .bool (t)]) (results_ct rfl _ _ w.heap.size 28 (in16 ⟨op, 0, o, onReg 1, false, 0⟩) (0, 0) _ _ rfl rfl FZ.z.h Tryd.underlying28 rfl (szIn inZ)) rfl ⟨rfl, FZ.r, FZ.k⟩
set_option maxRecDepth 100000 in
theorem modded_8d (R : Rs w N B a len cap zs p false false) (hs : mS zs p false = false) {u : Bool} (hu : ((mO zs p false).k == 1) = u):
    Calls Tryd.prog 27 #[rp B, .int .u8 141] w fun e w' => e = .returned (.tuple #[inV ⟨26, 0, onReg (mN zs p), mO zs p false, false, 0⟩, .bool (false)]) ∧ Rs w' N B a len cap zs (mP zs p false) (false) (u) ∧ But [B] w.heap.size w w' := by
  have hB := R.lt
  have F := RF.start R 28 z16
  have hX := Lib.hid (fun W (R : Rs W N B a len cap zs p false false) => modrm_ref R)
  rw [hs] at hX
  have hn := mN_bd R
  generalize mP zs p false = q0 at *
  generalize mO zs p false = o at *
  generalize mN zs p = n at *
  have hR := Lib.hid (fun W => reg_any n W)
  go_enter Tryd.func27, Tryd.ntmps27
  go_upto_region 1 with fail
  generalize w.alloc (.cells z16 28) = w1 at *
  go_upto_region 25 with (first | ((with_reducible refine (hX.out _ F.r).mono ?_); rintro e w2 ⟨rfl, R2, k2⟩; have F2 := F.read R2 k2) | ((with_reducible refine store_op_as rfl _ _ rfl (op6 o) (op6_size _) (op6_one _) rfl rfl ?_); intro w3 kO b3; have F3 := F2.below b3; have hK := F2.lt))
  generalize w2.heap.size = K at *
  have hBK : K ∉ [B] := by simp; omega
  have c2 := F3.r.c2
  go_upto_region 27 with fail
  have c0 := kO.cell (i := 0) (v := .int .i64 o.k) rfl
  clear c2
  have c3 := F3.r.c3
  have f3 := F3.r.blk.fr 3
  go_upto_region 45 with fail
  go_upto_region 46 with fail
  have F4 := F3.setBad u
  have kO4 := kO.other 3 (.bool u) (M := B) (by have := hBK; simp at this; omega)
  generalize w3.setCell ⟨B, 3, none⟩ (.bool u) = w4 at *
  clear c3 f3 c0
  have FD := F4.drew
  have kD := kO4.drew
  refine wp_region_held_drew (S := fun W => OX w W N B a len cap zs u K (o)) (by kernel_rfl) ⟨⟨_, _, z16, z16_size, FD⟩, kD⟩ (fun hHeld => ?_)
  generalize w4.drew = wd at *
  refine wpAnyH_take (i := 0) (v := ?_) rfl (by kernel_rfl) (by kernel_rfl) (by kernel_rfl) (fun _ _ _ h => h) (Or.inl ⟨by kernel_rfl, ?_⟩) hHeld ?_
  rotate_left
  · intro W hS
    go_simp
    try rfl
  simp only [Act.put, List.setIfInBounds_toArray, List.set_cons_zero, List.set_cons_succ, List.getElem_toArray, List.getElem_cons_succ, List.getElem_cons_zero]
  refine wpAnyH_take (i := 2) (v := opV (o)) rfl (by kernel_rfl) (by kernel_rfl) (by kernel_rfl) (fun _ _ _ h => h) (Or.inl ⟨by kernel_rfl, ?_⟩) hHeld ?_
  · intro W hS
    exact run_load_row (by rfl) (by rfl) 26 _ (0, 0) _ hS.k.h Tryd.underlying26 rfl (szOp onZ)
  simp only [Act.put, List.setIfInBounds_toArray, List.set_cons_zero, List.set_cons_succ]
  refine wpAnyH_ready (rs := [1]) (by kernel_rfl) (by simp) ?_
  refine AllReadyH.cons rfl (fun K hK => ?_) AllReadyH.nil
  go_simp
  with_reducible refine (hR.out _).mono ?_
  rintro e wd1 ⟨rfl, bb1⟩
  have FD1 := FD.below bb1
  have kD1 := kD.below bb1 kD.lt
  refine hK.out _ _ ⟨⟨_, _, z16, z16_size, FD1⟩, kD1⟩ (fun _ => ?_)
  clear hK K
  try simp only [Act.put, List.setIfInBounds_toArray, List.set_cons_zero, List.set_cons_succ]
  refine wpAnyH_take (i := 3) (v := ?_) rfl (by kernel_rfl) (by kernel_rfl) (by kernel_rfl) (fun _ _ _ h => h) (Or.inl ⟨by kernel_rfl, ?_⟩) ⟨⟨_, _, z16, z16_size, FD1⟩, kD1⟩ ?_
  rotate_left
  · intro W hS
    go_simp
    try rfl
  simp only [Act.put, List.setIfInBounds_toArray, List.set_cons_zero, List.set_cons_succ, List.getElem_toArray, List.getElem_cons_succ, List.getElem_cons_zero]
  refine wpAnyH_ready (rs := [4]) (by kernel_rfl) (by simp) ?_
  refine AllReadyH.cons rfl (fun K hK => ?_) AllReadyH.nil
  rw [if_pos (by kernel_rfl)]
  refine wp_store_row 28 _ _ rfl w.heap.size (in16 ⟨26, 0, onReg n, o, false, 0⟩) rfl rfl 28 z16 FD1.z.h (szIn ⟨26, 0, onReg n, o, false, 0⟩) z16_size (in16_one _) ?_
  have FZ := FD1.done (FD1.z.row (in16 ⟨26, 0, onReg n, o, false, 0⟩)) (But.row1 _ _ _)
  have kZ := kD1.rowOther (M := w.heap.size) (in16 ⟨26, 0, onReg n, o, false, 0⟩) (by omega)
  refine hK.out _ _ ⟨⟨_, _, in16 ⟨26, 0, onReg n, o, false, 0⟩, in16_size _, FZ⟩, kZ⟩ (fun _ => ?_)
  clear hK K
  try simp only [Act.put, List.setIfInBounds_toArray, List.set_cons_zero, List.set_cons_succ, List.getElem_toArray, List.getElem_cons_succ, List.getElem_cons_zero]
  refine wpAnyH_take (i := 5) (v := ?_) rfl (by kernel_rfl) (by kernel_rfl) (by kernel_rfl) (fun _ _ _ h => h) (Or.inl ⟨by kernel_rfl, ?_⟩) ⟨⟨_, _, in16 ⟨26, 0, onReg n, o, false, 0⟩, in16_size _, FZ⟩, kZ⟩ ?_
  rotate_left
  · intro W hS
    go_simp
    try rfl
  simp only [Act.put, List.setIfInBounds_toArray, List.set_cons_zero, List.set_cons_succ, List.getElem_toArray, List.getElem_cons_succ, List.getElem_cons_zero]
  refine wpAnyH_done (by kernel_rfl) ?_ _
  go_wp2_with fail
  exact bodyPost_ret (v := .tuple #[inV ⟨26, 0, onReg n, o, false, 0⟩, .bool (false)]) (results_ct rfl _ _ w.heap.size 28 (in16 ⟨26, 0, onReg n, o, false, 0⟩) (0, 0) _ _ rfl rfl FZ.z.h Tryd.underlying28 rfl (szIn inZ)) rfl ⟨rfl, FZ.r, FZ.k⟩
set_option maxRecDepth 100000 in
theorem modded_81 (R : Rs w N B a len cap zs p false false) (hs : mS zs p false = false) :
    Calls Tryd.prog 27 #[rp B, .int .u8 129] w fun e w' => e = .returned (.tuple #[inV ⟨(3 + mN zs p), 0, mO zs p false, onImm (le4 zs (mP zs p false)), false, 0⟩, .bool (false)]) ∧ Rs w' N B a len cap zs (nx zs (mP zs p false) 4) (so zs (mP zs p false) 4 false) (false) ∧ But [B] w.heap.size w w' := by
  have hB := R.lt
  have F := RF.start R 28 z16
  have hX := Lib.hid (fun W (R : Rs W N B a len cap zs p false false) => modrm_ref R)
  rw [hs] at hX
  have hn := mN_bd R
  have hV := Lib.hid (fun W (R : Rs W N B a len cap zs (mP zs p false) false false) => word_ref R)
  generalize mP zs p false = q0 at *
  generalize mO zs p false = o at *
  generalize mN zs p = n at *
  generalize le4 zs q0 = v at *
  generalize nx zs q0 4 = q1 at *
  generalize so zs q0 4 false = s1 at *
  have hI := Lib.hid (fun W => imm_any v W)
  have hG := Lib.hid groups_ref
  have i1 := ix_gr n hn
  have hR := Lib.hid (fun W => reg_any n W)
  go_enter Tryd.func27, Tryd.ntmps27
  go_upto_region 1 with fail
  generalize w.alloc (.cells z16 28) = w1 at *
  go_upto_region 25 with (first | ((with_reducible refine (hX.out _ F.r).mono ?_); rintro e w2 ⟨rfl, R2, k2⟩; have F2 := F.read R2 k2) | ((with_reducible refine store_op_as rfl _ _ rfl (op6 o) (op6_size _) (op6_one _) rfl rfl ?_); intro w3 kO b3; have F3 := F2.below b3; have hK := F2.lt))
  generalize w2.heap.size = K at *
  have hBK : K ∉ [B] := by simp; omega
  have c2 := F3.r.c2
  go_upto_region 27 with fail
  go_upto_region 29 with fail
  have FD := F3.drew
  have kD := kO.drew
  refine wp_region_held_drew (S := fun W => OX w W N B a len cap zs false K (o)) (by kernel_rfl) ⟨⟨_, _, z16, z16_size, FD⟩, kD⟩ (fun hHeld => ?_)
  generalize w3.drew = wd at *
  refine wpAnyH_take (i := 1) (v := ?_) rfl (by kernel_rfl) (by kernel_rfl) (by kernel_rfl) (fun _ _ _ h => h) (Or.inl ⟨by kernel_rfl, ?_⟩) hHeld ?_
  rotate_left
  · intro W hS
    go_simp
    try rfl
  simp only [Act.put, List.setIfInBounds_toArray, List.set_cons_zero, List.set_cons_succ, List.getElem_toArray, List.getElem_cons_succ, List.getElem_cons_zero]
  refine wpAnyH_take (i := 3) (v := opV (o)) rfl (by kernel_rfl) (by kernel_rfl) (by kernel_rfl) (fun _ _ _ h => h) (Or.inl ⟨by kernel_rfl, ?_⟩) hHeld ?_
  · intro W hS
    exact run_load_row (by rfl) (by rfl) 26 _ (0, 0) _ hS.k.h Tryd.underlying26 rfl (szOp onZ)
  simp only [Act.put, List.setIfInBounds_toArray, List.set_cons_zero, List.set_cons_succ]
  refine wpAnyH_take (i := 4) (v := ?_) rfl (by kernel_rfl) (by kernel_rfl) (by kernel_rfl) (fun _ _ _ h => h) (Or.inl ⟨by kernel_rfl, ?_⟩) hHeld ?_
  rotate_left
  · intro W hS
    go_simp
    try rfl
  simp only [Act.put, List.setIfInBounds_toArray, List.set_cons_zero, List.set_cons_succ, List.getElem_toArray, List.getElem_cons_succ, List.getElem_cons_zero]
  refine wpAnyH_ready (rs := [0]) (by kernel_rfl) (by simp) ?_
  refine AllReadyH.cons rfl (fun K hK => ?_) AllReadyH.nil
  go_simp
  with_reducible refine (hG.out _).mono ?_
  rintro e wd0 ⟨rfl, bb0⟩
  have FD0 := FD.below bb0
  have kD0 := kD.below bb0 kD.lt
  refine hK.out _ _ ⟨⟨_, _, z16, z16_size, FD0⟩, kD0⟩ (fun _ => ?_)
  clear hK K
  try simp only [Act.put, List.setIfInBounds_toArray, List.set_cons_zero, List.set_cons_succ]
  refine wpAnyH_take (i := 2) (v := ?_) rfl (by kernel_rfl) (by kernel_rfl) (by kernel_rfl) (fun _ _ _ h => h) (Or.inl ⟨by kernel_rfl, ?_⟩) ⟨⟨_, _, z16, z16_size, FD0⟩, kD0⟩ ?_
  rotate_left
  · intro W hS
    go_simp
    try rfl
  simp only [Act.put, List.setIfInBounds_toArray, List.set_cons_zero, List.set_cons_succ, List.getElem_toArray, List.getElem_cons_succ, List.getElem_cons_zero]
  refine wpAnyH_ready (rs := [5]) (by kernel_rfl) (by simp) ?_
  refine AllReadyH.cons rfl (fun K hK => ?_) AllReadyH.nil
  go_simp
  with_reducible refine (hV.out _ FD0.r).mono ?_
  rintro e wd5 ⟨rfl, RR5, bb5⟩
  have FD5 := FD0.read RR5 bb5
  have kD5 := kD0.but bb5 kD0.lt hBK
  refine hK.out _ _ ⟨⟨_, _, z16, z16_size, FD5⟩, kD5⟩ (fun _ => ?_)
  clear hK K
  try simp only [Act.put, List.setIfInBounds_toArray, List.set_cons_zero, List.set_cons_succ]
  refine wpAnyH_ready (rs := [6]) (by kernel_rfl) (by simp) ?_
  refine AllReadyH.cons rfl (fun K hK => ?_) AllReadyH.nil
  go_simp
  with_reducible refine (hI.out _).mono ?_
  rintro e wd6 ⟨rfl, bb6⟩
  have FD6 := FD5.below bb6
  have kD6 := kD5.below bb6 kD5.lt
  refine hK.out _ _ ⟨⟨_, _, z16, z16_size, FD6⟩, kD6⟩ (fun _ => ?_)
  clear hK K
  try simp only [Act.put, List.setIfInBounds_toArray, List.set_cons_zero, List.set_cons_succ]
  refine wpAnyH_take (i := 7) (v := ?_) rfl (by kernel_rfl) (by kernel_rfl) (by kernel_rfl) (fun _ _ _ h => h) (Or.inl ⟨by kernel_rfl, ?_⟩) ⟨⟨_, _, z16, z16_size, FD6⟩, kD6⟩ ?_
  rotate_left
  · intro W hS
    go_simp
    try rfl
  simp only [Act.put, List.setIfInBounds_toArray, List.set_cons_zero, List.set_cons_succ, List.getElem_toArray, List.getElem_cons_succ, List.getElem_cons_zero]
  refine wpAnyH_ready (rs := [8]) (by kernel_rfl) (by simp) ?_
  refine AllReadyH.cons rfl (fun K hK => ?_) AllReadyH.nil
  rw [if_pos (by kernel_rfl)]
  refine wp_store_row 28 _ _ rfl w.heap.size (in16 ⟨(3 + n), 0, o, onImm v, false, 0⟩) rfl rfl 28 z16 FD6.z.h (szIn ⟨(3 + n), 0, o, onImm v, false, 0⟩) z16_size (in16_one _) ?_
  have FZ := FD6.done (FD6.z.row (in16 ⟨(3 + n), 0, o, onImm v, false, 0⟩)) (But.row1 _ _ _)
  have kZ := kD6.rowOther (M := w.heap.size) (in16 ⟨(3 + n), 0, o, onImm v, false, 0⟩) (by omega)
  refine hK.out _ _ ⟨⟨_, _, in16 ⟨(3 + n), 0, o, onImm v, false, 0⟩, in16_size _, FZ⟩, kZ⟩ (fun _ => ?_)
  clear hK K
  try simp only [Act.put, List.setIfInBounds_toArray, List.set_cons_zero, List.set_cons_succ, List.getElem_toArray, List.getElem_cons_succ, List.getElem_cons_zero]
  refine wpAnyH_take (i := 9) (v := ?_) rfl (by kernel_rfl) (by kernel_rfl) (by kernel_rfl) (fun _ _ _ h => h) (Or.inl ⟨by kernel_rfl, ?_⟩) ⟨⟨_, _, in16 ⟨(3 + n), 0, o, onImm v, false, 0⟩, in16_size _, FZ⟩, kZ⟩ ?_
  rotate_left
  · intro W hS
    go_simp
    try rfl
  simp only [Act.put, List.setIfInBounds_toArray, List.set_cons_zero, List.set_cons_succ, List.getElem_toArray, List.getElem_cons_succ, List.getElem_cons_zero]
  refine wpAnyH_done (by kernel_rfl) ?_ _
  go_wp2_with fail
  exact bodyPost_ret (v := .tuple #[inV ⟨(3 + n), 0, o, onImm v, false, 0⟩, .bool (false)]) (results_ct rfl _ _ w.heap.size 28 (in16 ⟨(3 + n), 0, o, onImm v, false, 0⟩) (0, 0) _ _ rfl rfl FZ.z.h Tryd.underlying28 rfl (szIn inZ)) rfl ⟨rfl, FZ.r, FZ.k⟩
set_option maxRecDepth 100000 in
theorem modded_83 (R : Rs w N B a len cap zs p false false) (hs : mS zs p false = false) :
    Calls Tryd.prog 27 #[rp B, .int .u8 131] w fun e w' => e = .returned (.tuple #[inV ⟨(3 + mN zs p), 0, mO zs p false, onImm (sx (zs.getD (mP zs p false) 0)), false, 0⟩, .bool (false)]) ∧ Rs w' N B a len cap zs (nx zs (mP zs p false) 1) (so zs (mP zs p false) 1 false) (false) ∧ But [B] w.heap.size w w' := by
  have hB := R.lt
  have F := RF.start R 28 z16
  have hX := Lib.hid (fun W (R : Rs W N B a len cap zs p false false) => modrm_ref R)
  rw [hs] at hX
  have hn := mN_bd R
  have hV := Lib.hid (fun W (R : Rs W N B a len cap zs (mP zs p false) false false) => small_any R)
  generalize mP zs p false = q0 at *
  generalize mO zs p false = o at *
  generalize mN zs p = n at *
  generalize sx (zs.getD q0 0) = v at *
  generalize nx zs q0 1 = q1 at *
  generalize so zs q0 1 false = s1 at *
  have hI := Lib.hid (fun W => imm_any v W)
  have hG := Lib.hid groups_ref
  have i1 := ix_gr n hn
  have hR := Lib.hid (fun W => reg_any n W)
  go_enter Tryd.func27, Tryd.ntmps27
  go_upto_region 1 with fail
  generalize w.alloc (.cells z16 28) = w1 at *
  go_upto_region 25 with (first | ((with_reducible refine (hX.out _ F.r).mono ?_); rintro e w2 ⟨rfl, R2, k2⟩; have F2 := F.read R2 k2) | ((with_reducible refine store_op_as rfl _ _ rfl (op6 o) (op6_size _) (op6_one _) rfl rfl ?_); intro w3 kO b3; have F3 := F2.below b3; have hK := F2.lt))
  generalize w2.heap.size = K at *
  have hBK : K ∉ [B] := by simp; omega
  have c2 := F3.r.c2
  go_upto_region 27 with fail
  go_upto_region 31 with fail
  have FD := F3.drew
  have kD := kO.drew
  refine wp_region_held_drew (S := fun W => OX w W N B a len cap zs false K (o)) (by kernel_rfl) ⟨⟨_, _, z16, z16_size, FD⟩, kD⟩ (fun hHeld => ?_)
  generalize w3.drew = wd at *
  refine wpAnyH_take (i := 1) (v := ?_) rfl (by kernel_rfl) (by kernel_rfl) (by kernel_rfl) (fun _ _ _ h => h) (Or.inl ⟨by kernel_rfl, ?_⟩) hHeld ?_
  rotate_left
  · intro W hS
    go_simp
    try rfl
  simp only [Act.put, List.setIfInBounds_toArray, List.set_cons_zero, List.set_cons_succ, List.getElem_toArray, List.getElem_cons_succ, List.getElem_cons_zero]
  refine wpAnyH_take (i := 3) (v := opV (o)) rfl (by kernel_rfl) (by kernel_rfl) (by kernel_rfl) (fun _ _ _ h => h) (Or.inl ⟨by kernel_rfl, ?_⟩) hHeld ?_
  · intro W hS
    exact run_load_row (by rfl) (by rfl) 26 _ (0, 0) _ hS.k.h Tryd.underlying26 rfl (szOp onZ)
  simp only [Act.put, List.setIfInBounds_toArray, List.set_cons_zero, List.set_cons_succ]
  refine wpAnyH_take (i := 4) (v := ?_) rfl (by kernel_rfl) (by kernel_rfl) (by kernel_rfl) (fun _ _ _ h => h) (Or.inl ⟨by kernel_rfl, ?_⟩) hHeld ?_
  rotate_left
  · intro W hS
    go_simp
    try rfl
  simp only [Act.put, List.setIfInBounds_toArray, List.set_cons_zero, List.set_cons_succ, List.getElem_toArray, List.getElem_cons_succ, List.getElem_cons_zero]
  refine wpAnyH_ready (rs := [0]) (by kernel_rfl) (by simp) ?_
  refine AllReadyH.cons rfl (fun K hK => ?_) AllReadyH.nil
  go_simp
  with_reducible refine (hG.out _).mono ?_
  rintro e wd0 ⟨rfl, bb0⟩
  have FD0 := FD.below bb0
  have kD0 := kD.below bb0 kD.lt
  refine hK.out _ _ ⟨⟨_, _, z16, z16_size, FD0⟩, kD0⟩ (fun _ => ?_)
  clear hK K
  try simp only [Act.put, List.setIfInBounds_toArray, List.set_cons_zero, List.set_cons_succ]
  refine wpAnyH_take (i := 2) (v := ?_) rfl (by kernel_rfl) (by kernel_rfl) (by kernel_rfl) (fun _ _ _ h => h) (Or.inl ⟨by kernel_rfl, ?_⟩) ⟨⟨_, _, z16, z16_size, FD0⟩, kD0⟩ ?_
  rotate_left
  · intro W hS
    go_simp
    try rfl
  simp only [Act.put, List.setIfInBounds_toArray, List.set_cons_zero, List.set_cons_succ, List.getElem_toArray, List.getElem_cons_succ, List.getElem_cons_zero]
  refine wpAnyH_ready (rs := [5]) (by kernel_rfl) (by simp) ?_
  refine AllReadyH.cons rfl (fun K hK => ?_) AllReadyH.nil
  go_simp
  with_reducible refine (hV.out _ FD0.r).mono ?_
  rintro e wd5 ⟨rfl, RR5, bb5⟩
  have FD5 := FD0.read RR5 bb5
  have kD5 := kD0.but bb5 kD0.lt hBK
  refine hK.out _ _ ⟨⟨_, _, z16, z16_size, FD5⟩, kD5⟩ (fun _ => ?_)
  clear hK K
  try simp only [Act.put, List.setIfInBounds_toArray, List.set_cons_zero, List.set_cons_succ]
  refine wpAnyH_ready (rs := [6]) (by kernel_rfl) (by simp) ?_
  refine AllReadyH.cons rfl (fun K hK => ?_) AllReadyH.nil
  go_simp
  with_reducible refine (hI.out _).mono ?_
  rintro e wd6 ⟨rfl, bb6⟩
  have FD6 := FD5.below bb6
  have kD6 := kD5.below bb6 kD5.lt
  refine hK.out _ _ ⟨⟨_, _, z16, z16_size, FD6⟩, kD6⟩ (fun _ => ?_)
  clear hK K
  try simp only [Act.put, List.setIfInBounds_toArray, List.set_cons_zero, List.set_cons_succ]
  refine wpAnyH_take (i := 7) (v := ?_) rfl (by kernel_rfl) (by kernel_rfl) (by kernel_rfl) (fun _ _ _ h => h) (Or.inl ⟨by kernel_rfl, ?_⟩) ⟨⟨_, _, z16, z16_size, FD6⟩, kD6⟩ ?_
  rotate_left
  · intro W hS
    go_simp
    try rfl
  simp only [Act.put, List.setIfInBounds_toArray, List.set_cons_zero, List.set_cons_succ, List.getElem_toArray, List.getElem_cons_succ, List.getElem_cons_zero]
  refine wpAnyH_ready (rs := [8]) (by kernel_rfl) (by simp) ?_
  refine AllReadyH.cons rfl (fun K hK => ?_) AllReadyH.nil
  rw [if_pos (by kernel_rfl)]
  refine wp_store_row 28 _ _ rfl w.heap.size (in16 ⟨(3 + n), 0, o, onImm v, false, 0⟩) rfl rfl 28 z16 FD6.z.h (szIn ⟨(3 + n), 0, o, onImm v, false, 0⟩) z16_size (in16_one _) ?_
  have FZ := FD6.done (FD6.z.row (in16 ⟨(3 + n), 0, o, onImm v, false, 0⟩)) (But.row1 _ _ _)
  have kZ := kD6.rowOther (M := w.heap.size) (in16 ⟨(3 + n), 0, o, onImm v, false, 0⟩) (by omega)
  refine hK.out _ _ ⟨⟨_, _, in16 ⟨(3 + n), 0, o, onImm v, false, 0⟩, in16_size _, FZ⟩, kZ⟩ (fun _ => ?_)
  clear hK K
  try simp only [Act.put, List.setIfInBounds_toArray, List.set_cons_zero, List.set_cons_succ, List.getElem_toArray, List.getElem_cons_succ, List.getElem_cons_zero]
  refine wpAnyH_take (i := 9) (v := ?_) rfl (by kernel_rfl) (by kernel_rfl) (by kernel_rfl) (fun _ _ _ h => h) (Or.inl ⟨by kernel_rfl, ?_⟩) ⟨⟨_, _, in16 ⟨(3 + n), 0, o, onImm v, false, 0⟩, in16_size _, FZ⟩, kZ⟩ ?_
  rotate_left
  · intro W hS
    go_simp
    try rfl
  simp only [Act.put, List.setIfInBounds_toArray, List.set_cons_zero, List.set_cons_succ, List.getElem_toArray, List.getElem_cons_succ, List.getElem_cons_zero]
  refine wpAnyH_done (by kernel_rfl) ?_ _
  go_wp2_with fail
  exact bodyPost_ret (v := .tuple #[inV ⟨(3 + n), 0, o, onImm v, false, 0⟩, .bool (false)]) (results_ct rfl _ _ w.heap.size 28 (in16 ⟨(3 + n), 0, o, onImm v, false, 0⟩) (0, 0) _ _ rfl rfl FZ.z.h Tryd.underlying28 rfl (szIn inZ)) rfl ⟨rfl, FZ.r, FZ.k⟩
end
end Go.Proofs.YtlooobehlhgccaaDoor
