/- The reference: codes of two bytes. -/
import Derived.Test.YtlooobehlhgccaaDoorR3
namespace Go.Proofs.YtlooobehlhgccaaDoor
open Go.RowKit
set_option linter.unusedVariables false
set_option linter.unusedSimpArgs false
set_option linter.unusedSectionVars false

theorem and15un : ∀ n : Nat, n < 256 → bits .and .u8 (n : Int) 15 = (n : Int) % 16 := of_decide_eq_true (by kernel_rfl)
theorem and15u {m : Int} (h : 0 ≤ m ∧ m ≤ 255) : bits .and .u8 m 15 = m % 16 := by
  obtain ⟨n, rfl⟩ := Int.eq_ofNat_of_zero_le h.1
  exact and15un n (by omega)
theorem and7u6n : ∀ n : Nat, n < 256 → bits .and .u8 (n : Int) 7 = (n : Int) % 8 := of_decide_eq_true (by kernel_rfl)
theorem and7u6 {m : Int} (h : 0 ≤ m ∧ m ≤ 255) : bits .and .u8 m 7 = m % 8 := by
  obtain ⟨n, rfl⟩ := Int.eq_ofNat_of_zero_le h.1
  exact and7u6n n (by omega)
theorem bf {x k : Int} (h : ¬ x = k) : (x == k) = false := by simp [h]
theorem w64 {x : Int} (h : 0 ≤ x ∧ x ≤ 255) : wrap64 x = x := by unfold wrap64; omega
section
variable {w : World} {N B : Nat} {a : Option Addr} {len cap : Nat} {zs : List Int} {p : Nat} {sh bd : Bool}
theorem two_short (R : Rs w N B a len cap zs p false bd) (h : so zs p 1 false = true) :
    Calls Tryd.prog 32 #[rp B] w fun e w' => e = .returned (.tuple #[inV inZ, .bool (false)]) ∧ Rs w' N B a len cap zs (nx zs p 1) (true) bd ∧ But [B] w.heap.size w w' := by
  have hB := R.lt
  have hb := byte_bd R p
  have F := RF.start R 28 z16
  have hX := Lib.hid (fun W (R : Rs W N B a len cap zs p false bd) => byte_any R)
  have e15 := and15u hb
  have w15 : wrap64 (zs.getD p 0 % 16) = zs.getD p 0 % 16 := w64 (by omega)
  rw [h] at hX
  generalize zs.getD p 0 = c at *
  generalize nx zs p 1 = q at *
  go_enter Tryd.func32, Tryd.ntmps32
  go_upto_region 1 with fail
  generalize w.alloc (.cells z16 28) = w1 at *
  go_wp2_with (first | ((with_reducible refine (hX.out _ F.r).mono ?_); rintro e w2 ⟨rfl, R2, k2⟩; have F2 := F.read R2 k2; have c2 := R2.c2) | ((with_reducible refine store_inR rfl _ _ rfl _ (in16 inZ) z16 rfl rfl F2.z (in16_size _) z16_size (in16_one _) ?_); intro wz kz bz hz; have FZ := F2.done kz bz))
  exact bodyPost_ret (v := .tuple #[inV inZ, .bool (false)]) (results_ct rfl _ _ w.heap.size 28 (in16 inZ) (0, 0) _ _ rfl rfl FZ.z.h Tryd.underlying28 rfl (szIn inZ)) rfl ⟨rfl, FZ.r, FZ.k⟩
theorem two_ud (R : Rs w N B a len cap zs p false bd) (h : so zs p 1 false = false) (hc : zs.getD p 0 = 11) :
    Calls Tryd.prog 32 #[rp B] w fun e w' => e = .returned (.tuple #[inV inZ, .bool (false)]) ∧ Rs w' N B a len cap zs (nx zs p 1) (false) true ∧ But [B] w.heap.size w w' := by
  have hB := R.lt
  have hb := byte_bd R p
  have F := RF.start R 28 z16
  have hX := Lib.hid (fun W (R : Rs W N B a len cap zs p false bd) => byte_any R)
  have e15 := and15u hb
  have w15 : wrap64 (zs.getD p 0 % 16) = zs.getD p 0 % 16 := w64 (by omega)
  rw [h] at hX
  generalize zs.getD p 0 = c at *
  subst hc
  generalize nx zs p 1 = q at *
  go_enter Tryd.func32, Tryd.ntmps32
  go_upto_region 1 with fail
  generalize w.alloc (.cells z16 28) = w1 at *
  go_upto_region 6 with ((with_reducible refine (hX.out _ F.r).mono ?_); rintro e w2 ⟨rfl, R2, k2⟩; have F2 := F.read R2 k2; have c2 := R2.c2)
  have c3 := F2.r.c3
  have f3 := F2.r.blk.fr 3
  go_upto_region 7 with fail
  have F3 := F2.setBad true
  generalize w2.setCell ⟨B, 3, none⟩ (.bool true) = w3 at *
  go_wp2_with (first | ((with_reducible refine store_inR rfl _ _ rfl _ (in16 inZ) z16 rfl rfl F3.z (in16_size _) z16_size (in16_one _) ?_); intro wz kz bz hz; have FZ := F3.done kz bz))
  exact bodyPost_ret (v := .tuple #[inV inZ, .bool (false)]) (results_ct rfl _ _ w.heap.size 28 (in16 inZ) (0, 0) _ _ rfl rfl FZ.z.h Tryd.underlying28 rfl (szIn inZ)) rfl ⟨rfl, FZ.r, FZ.k⟩
theorem two_jcc (R : Rs w N B a len cap zs p false bd) (h : so zs p 1 false = false) (hc : zs.getD p 0 / 16 = 8) :
    Calls Tryd.prog 32 #[rp B] w fun e w' => e = .returned (.tuple #[inV ⟨33, zs.getD p 0 % 16, onImm (le4 zs (nx zs p 1)), onZ, false, 0⟩, .bool (false)]) ∧ Rs w' N B a len cap zs (nx zs (nx zs p 1) 4) (so zs (nx zs p 1) 4 false) bd ∧ But [B] w.heap.size w w' := by
  have hB := R.lt
  have hb := byte_bd R p
  have F := RF.start R 28 z16
  have hX := Lib.hid (fun W (R : Rs W N B a len cap zs p false bd) => byte_any R)
  have e15 := and15u hb
  have w15 : wrap64 (zs.getD p 0 % 16) = zs.getD p 0 % 16 := w64 (by omega)
  rw [h] at hX
  have h11 : (zs.getD p 0 == 11) = false := bf (by omega)
  have hW := Lib.hid (fun W (R : Rs W N B a len cap zs (nx zs p 1) false bd) => word_ref R)
  generalize le4 zs (nx zs p 1) = v at *
  have hI := Lib.hid (fun W => imm_any v W)
  generalize zs.getD p 0 % 16 = cc at *
  generalize zs.getD p 0 = c at *
  go_enter Tryd.func32, Tryd.ntmps32
  go_upto_region 1 with fail
  generalize w.alloc (.cells z16 28) = w1 at *
  go_wp2_with (first | ((with_reducible refine (hX.out _ F.r).mono ?_); rintro e w2 ⟨rfl, R2, k2⟩; have F2 := F.read R2 k2; have c2 := R2.c2) | ((with_reducible refine (hW.out _ F2.r).mono ?_); rintro e w3 ⟨rfl, R3, k3⟩; have F3 := F2.read R3 k3) | ((with_reducible refine (hI.out _).mono ?_); rintro e w4 ⟨rfl, b4⟩; have F4 := F3.below b4) | ((with_reducible refine store_inR rfl _ _ rfl _ (in16 ⟨33, cc, onImm v, onZ, false, 0⟩) z16 rfl rfl F4.z (in16_size _) z16_size (in16_one _) ?_); intro wz kz bz hz; have FZ := F4.done kz bz))
  exact bodyPost_ret (v := .tuple #[inV ⟨33, cc, onImm v, onZ, false, 0⟩, .bool (false)]) (results_ct rfl _ _ w.heap.size 28 (in16 ⟨33, cc, onImm v, onZ, false, 0⟩) (0, 0) _ _ rfl rfl FZ.z.h Tryd.underlying28 rfl (szIn inZ)) rfl ⟨rfl, FZ.r, FZ.k⟩
theorem two_cmov (R : Rs w N B a len cap zs p false bd) (h : so zs p 1 false = false) (hc : zs.getD p 0 / 16 = 4) :
    Calls Tryd.prog 32 #[rp B] w fun e w' => e = .returned (.tuple #[inV ⟨35, zs.getD p 0 % 16, onReg (mN zs (nx zs p 1)), mO zs (nx zs p 1) false, false, 0⟩, .bool (false)]) ∧ Rs w' N B a len cap zs (mP zs (nx zs p 1) false) (mS zs (nx zs p 1) false) bd ∧ But [B] w.heap.size w w' := by
  have hB := R.lt
  have hb := byte_bd R p
  have F := RF.start R 28 z16
  have hX := Lib.hid (fun W (R : Rs W N B a len cap zs p false bd) => byte_any R)
  have e15 := and15u hb
  have w15 : wrap64 (zs.getD p 0 % 16) = zs.getD p 0 % 16 := w64 (by omega)
  rw [h] at hX
  have h11 : (zs.getD p 0 == 11) = false := bf (by omega)
  have hM := Lib.hid (fun W (R : Rs W N B a len cap zs (nx zs p 1) false bd) => modrm_ref R)
  generalize mO zs (nx zs p 1) false = o at *
  generalize mP zs (nx zs p 1) false = q at *
  generalize mS zs (nx zs p 1) false = s at *
  generalize mN zs (nx zs p 1) = n at *
  have hR := Lib.hid (fun W => reg_any n W)
  generalize zs.getD p 0 % 16 = cc at *
  generalize zs.getD p 0 = c at *
  go_enter Tryd.func32, Tryd.ntmps32
  go_upto_region 1 with fail
  generalize w.alloc (.cells z16 28) = w1 at *
  go_upto_region 12 with (first | ((with_reducible refine (hX.out _ F.r).mono ?_); rintro e w2 ⟨rfl, R2, k2⟩; have F2 := F.read R2 k2; have c2 := R2.c2) | ((with_reducible refine (hM.out _ F2.r).mono ?_); rintro e w3 ⟨rfl, R3, k3⟩; have F3 := F2.read R3 k3) | ((with_reducible refine store_op_as rfl _ _ rfl (op6 o) (op6_size _) (op6_one _) rfl rfl ?_); intro w4 kO b4; have F4 := F3.below b4; have hK := F3.lt))
  generalize w3.heap.size = K at *
  have hBK : K ∉ [B] := by simp; omega
  have FD := F4.drew
  have kD := kO.drew
  refine wp_region_held_drew (S := fun W => OX w W N B a len cap zs bd K (o)) (by kernel_rfl) ⟨⟨_, _, z16, z16_size, FD⟩, kD⟩ (fun hHeld => ?_)
  generalize w4.drew = wd at *
  refine wpAnyH_take (i := 0) (v := ?_) rfl (by kernel_rfl) (by kernel_rfl) (by kernel_rfl) (fun _ _ _ h => h) (Or.inl ⟨by kernel_rfl, ?_⟩) hHeld ?_
  rotate_left
  · intro W hS
    go_simp
    try rfl
  simp only [Act.put, List.setIfInBounds_toArray, List.set_cons_zero, List.set_cons_succ, List.getElem_toArray, List.getElem_cons_succ, List.getElem_cons_zero]
  refine wpAnyH_take (i := 1) (v := ?_) rfl (by kernel_rfl) (by kernel_rfl) (by kernel_rfl) (fun _ _ _ h => h) (Or.inl ⟨by kernel_rfl, ?_⟩) hHeld ?_
  rotate_left
  · intro W hS
    go_simp
    try rfl
  simp only [Act.put, List.setIfInBounds_toArray, List.set_cons_zero, List.set_cons_succ, List.getElem_toArray, List.getElem_cons_succ, List.getElem_cons_zero]
  refine wpAnyH_take (i := 3) (v := opV (o)) rfl (by kernel_rfl) (by kernel_rfl) (by kernel_rfl) (fun _ _ _ h => h) (Or.inl ⟨by kernel_rfl, ?_⟩) hHeld ?_
  · intro W hS
    exact run_load_row (by rfl) (by rfl) 26 _ (0, 0) _ hS.k.h Tryd.underlying26 rfl (szOp onZ)
  simp only [Act.put, List.setIfInBounds_toArray, List.set_cons_zero, List.set_cons_succ]
  refine wpAnyH_ready (rs := [2]) (by kernel_rfl) (by simp) ?_
  refine AllReadyH.cons rfl (fun K hK => ?_) AllReadyH.nil
  go_simp
  with_reducible refine (hR.out _).mono ?_
  rintro e wd2 ⟨rfl, bb2⟩
  have FD2 := FD.below bb2
  have kD2 := kD.below bb2 kD.lt
  refine hK.out _ _ ⟨⟨_, _, z16, z16_size, FD2⟩, kD2⟩ (fun _ => ?_)
  clear hK K
  try simp only [Act.put, List.setIfInBounds_toArray, List.set_cons_zero, List.set_cons_succ]
  refine wpAnyH_take (i := 4) (v := ?_) rfl (by kernel_rfl) (by kernel_rfl) (by kernel_rfl) (fun _ _ _ h => h) (Or.inl ⟨by kernel_rfl, ?_⟩) ⟨⟨_, _, z16, z16_size, FD2⟩, kD2⟩ ?_
  rotate_left
  · intro W hS
    go_simp
    try rfl
  simp only [Act.put, List.setIfInBounds_toArray, List.set_cons_zero, List.set_cons_succ, List.getElem_toArray, List.getElem_cons_succ, List.getElem_cons_zero]
  refine wpAnyH_ready (rs := [5]) (by kernel_rfl) (by simp) ?_
  refine AllReadyH.cons rfl (fun K hK => ?_) AllReadyH.nil
  rw [if_pos (by kernel_rfl)]
  refine wp_store_row 28 _ _ rfl w.heap.size (in16 ⟨35, cc, onReg n, o, false, 0⟩) rfl rfl 28 z16 FD2.z.h (szIn ⟨35, cc, onReg n, o, false, 0⟩) z16_size (in16_one _) ?_
  have FZ := FD2.done (FD2.z.row (in16 ⟨35, cc, onReg n, o, false, 0⟩)) (But.row1 _ _ _)
  have kZ := kD2.rowOther (M := w.heap.size) (in16 ⟨35, cc, onReg n, o, false, 0⟩) (by omega)
  refine hK.out _ _ ⟨⟨_, _, in16 ⟨35, cc, onReg n, o, false, 0⟩, in16_size _, FZ⟩, kZ⟩ (fun _ => ?_)
  clear hK K
  try simp only [Act.put, List.setIfInBounds_toArray, List.set_cons_zero, List.set_cons_succ, List.getElem_toArray, List.getElem_cons_succ, List.getElem_cons_zero]
  refine wpAnyH_take (i := 6) (v := ?_) rfl (by kernel_rfl) (by kernel_rfl) (by kernel_rfl) (fun _ _ _ h => h) (Or.inl ⟨by kernel_rfl, ?_⟩) ⟨⟨_, _, in16 ⟨35, cc, onReg n, o, false, 0⟩, in16_size _, FZ⟩, kZ⟩ ?_
  rotate_left
  · intro W hS
    go_simp
    try rfl
  simp only [Act.put, List.setIfInBounds_toArray, List.set_cons_zero, List.set_cons_succ, List.getElem_toArray, List.getElem_cons_succ, List.getElem_cons_zero]
  refine wpAnyH_done (by kernel_rfl) ?_ _
  go_wp2_with fail
  exact bodyPost_ret (v := .tuple #[inV ⟨35, cc, onReg n, o, false, 0⟩, .bool (false)]) (results_ct rfl _ _ w.heap.size 28 (in16 ⟨35, cc, onReg n, o, false, 0⟩) (0, 0) _ _ rfl rfl FZ.z.h Tryd.underlying28 rfl (szIn inZ)) rfl ⟨rfl, FZ.r, FZ.k⟩
theorem two_af (R : Rs w N B a len cap zs p false bd) (h : so zs p 1 false = false) (hc : zs.getD p 0 = 175) :
    Calls Tryd.prog 32 #[rp B] w fun e w' => e = .returned (.tuple #[inV ⟨18, 0, onReg (mN zs (nx zs p 1)), mO zs (nx zs p 1) false, false, 0⟩, .bool (false)]) ∧ Rs w' N B a len cap zs (mP zs (nx zs p 1) false) (mS zs (nx zs p 1) false) bd ∧ But [B] w.heap.size w w' := by
  have hB := R.lt
  have hb := byte_bd R p
  have F := RF.start R 28 z16
  have hX := Lib.hid (fun W (R : Rs W N B a len cap zs p false bd) => byte_any R)
  have e15 := and15u hb
  have w15 : wrap64 (zs.getD p 0 % 16) = zs.getD p 0 % 16 := w64 (by omega)
  rw [h] at hX
  have hM := Lib.hid (fun W (R : Rs W N B a len cap zs (nx zs p 1) false bd) => modrm_ref R)
  generalize mO zs (nx zs p 1) false = o at *
  generalize mP zs (nx zs p 1) false = q at *
  generalize mS zs (nx zs p 1) false = s at *
  generalize mN zs (nx zs p 1) = n at *
  have hR := Lib.hid (fun W => reg_any n W)
  generalize zs.getD p 0 = c at *
  subst hc
  go_enter Tryd.func32, Tryd.ntmps32
  go_upto_region 1 with fail
  generalize w.alloc (.cells z16 28) = w1 at *
  go_upto_region 26 with (first | ((with_reducible refine (hX.out _ F.r).mono ?_); rintro e w2 ⟨rfl, R2, k2⟩; have F2 := F.read R2 k2; have c2 := R2.c2) | ((with_reducible refine (hM.out _ F2.r).mono ?_); rintro e w3 ⟨rfl, R3, k3⟩; have F3 := F2.read R3 k3) | ((with_reducible refine store_op_as rfl _ _ rfl (op6 o) (op6_size _) (op6_one _) rfl rfl ?_); intro w4 kO b4; have F4 := F3.below b4; have hK := F3.lt))
  generalize w3.heap.size = K at *
  have hBK : K ∉ [B] := by simp; omega
  have FD := F4.drew
  have kD := kO.drew
  refine wp_region_held_drew (S := fun W => OX w W N B a len cap zs bd K (o)) (by kernel_rfl) ⟨⟨_, _, z16, z16_size, FD⟩, kD⟩ (fun hHeld => ?_)
  generalize w4.drew = wd at *
  refine wpAnyH_take (i := 0) (v := ?_) rfl (by kernel_rfl) (by kernel_rfl) (by kernel_rfl) (fun _ _ _ h => h) (Or.inl ⟨by kernel_rfl, ?_⟩) hHeld ?_
  rotate_left
  · intro W hS
    go_simp
    try rfl
  simp only [Act.put, List.setIfInBounds_toArray, List.set_cons_zero, List.set_cons_succ, List.getElem_toArray, List.getElem_cons_succ, List.getElem_cons_zero]
  refine wpAnyH_take (i := 1) (v := ?_) rfl (by kernel_rfl) (by kernel_rfl) (by kernel_rfl) (fun _ _ _ h => h) (Or.inl ⟨by kernel_rfl, ?_⟩) hHeld ?_
  rotate_left
  · intro W hS
    go_simp
    try rfl
  simp only [Act.put, List.setIfInBounds_toArray, List.set_cons_zero, List.set_cons_succ, List.getElem_toArray, List.getElem_cons_succ, List.getElem_cons_zero]
  refine wpAnyH_take (i := 3) (v := opV (o)) rfl (by kernel_rfl) (by kernel_rfl) (by kernel_rfl) (fun _ _ _ h => h) (Or.inl ⟨by kernel_rfl, ?_⟩) hHeld ?_
  · intro W hS
    exact run_load_row (by rfl) (by rfl) 26 _ (0, 0) _ hS.k.h Tryd.underlying26 rfl (szOp onZ)
  simp only [Act.put, List.setIfInBounds_toArray, List.set_cons_zero, List.set_cons_succ]
  refine wpAnyH_ready (rs := [2]) (by kernel_rfl) (by simp) ?_
  refine AllReadyH.cons rfl (fun K hK => ?_) AllReadyH.nil
  go_simp
  with_reducible refine (hR.out _).mono ?_
  rintro e wd2 ⟨rfl, bb2⟩
  have FD2 := FD.below bb2
  have kD2 := kD.below bb2 kD.lt
  refine hK.out _ _ ⟨⟨_, _, z16, z16_size, FD2⟩, kD2⟩ (fun _ => ?_)
  clear hK K
  try simp only [Act.put, List.setIfInBounds_toArray, List.set_cons_zero, List.set_cons_succ]
  refine wpAnyH_take (i := 4) (v := ?_) rfl (by kernel_rfl) (by kernel_rfl) (by kernel_rfl) (fun _ _ _ h => h) (Or.inl ⟨by kernel_rfl, ?_⟩) ⟨⟨_, _, z16, z16_size, FD2⟩, kD2⟩ ?_
  rotate_left
  · intro W hS
    go_simp
    try rfl
  simp only [Act.put, List.setIfInBounds_toArray, List.set_cons_zero, List.set_cons_succ, List.getElem_toArray, List.getElem_cons_succ, List.getElem_cons_zero]
  refine wpAnyH_ready (rs := [5]) (by kernel_rfl) (by simp) ?_
  refine AllReadyH.cons rfl (fun K hK => ?_) AllReadyH.nil
  rw [if_pos (by kernel_rfl)]
  refine wp_store_row 28 _ _ rfl w.heap.size (in16 ⟨18, 0, onReg n, o, false, 0⟩) rfl rfl 28 z16 FD2.z.h (szIn ⟨18, 0, onReg n, o, false, 0⟩) z16_size (in16_one _) ?_
  have FZ := FD2.done (FD2.z.row (in16 ⟨18, 0, onReg n, o, false, 0⟩)) (But.row1 _ _ _)
  have kZ := kD2.rowOther (M := w.heap.size) (in16 ⟨18, 0, onReg n, o, false, 0⟩) (by omega)
  refine hK.out _ _ ⟨⟨_, _, in16 ⟨18, 0, onReg n, o, false, 0⟩, in16_size _, FZ⟩, kZ⟩ (fun _ => ?_)
  clear hK K
  try simp only [Act.put, List.setIfInBounds_toArray, List.set_cons_zero, List.set_cons_succ, List.getElem_toArray, List.getElem_cons_succ, List.getElem_cons_zero]
  refine wpAnyH_take (i := 6) (v := ?_) rfl (by kernel_rfl) (by kernel_rfl) (by kernel_rfl) (fun _ _ _ h => h) (Or.inl ⟨by kernel_rfl, ?_⟩) ⟨⟨_, _, in16 ⟨18, 0, onReg n, o, false, 0⟩, in16_size _, FZ⟩, kZ⟩ ?_
  rotate_left
  · intro W hS
    go_simp
    try rfl
  simp only [Act.put, List.setIfInBounds_toArray, List.set_cons_zero, List.set_cons_succ, List.getElem_toArray, List.getElem_cons_succ, List.getElem_cons_zero]
  refine wpAnyH_done (by kernel_rfl) ?_ _
  go_wp2_with fail
  exact bodyPost_ret (v := .tuple #[inV ⟨18, 0, onReg n, o, false, 0⟩, .bool (false)]) (results_ct rfl _ _ w.heap.size 28 (in16 ⟨18, 0, onReg n, o, false, 0⟩) (0, 0) _ _ rfl rfl FZ.z.h Tryd.underlying28 rfl (szIn inZ)) rfl ⟨rfl, FZ.r, FZ.k⟩
theorem two_b6 (R : Rs w N B a len cap zs p false bd) (h : so zs p 1 false = false) (hc : zs.getD p 0 = 182) :
    Calls Tryd.prog 32 #[rp B] w fun e w' => e = .returned (.tuple #[inV ⟨36, 0, onReg (mN zs (nx zs p 1)), mO zs (nx zs p 1) false, false, 0⟩, .bool (false)]) ∧ Rs w' N B a len cap zs (mP zs (nx zs p 1) false) (mS zs (nx zs p 1) false) bd ∧ But [B] w.heap.size w w' := by
  have hB := R.lt
  have hb := byte_bd R p
  have F := RF.start R 28 z16
  have hX := Lib.hid (fun W (R : Rs W N B a len cap zs p false bd) => byte_any R)
  have e15 := and15u hb
  have w15 : wrap64 (zs.getD p 0 % 16) = zs.getD p 0 % 16 := w64 (by omega)
  rw [h] at hX
  have hM := Lib.hid (fun W (R : Rs W N B a len cap zs (nx zs p 1) false bd) => modrm_ref R)
  generalize mO zs (nx zs p 1) false = o at *
  generalize mP zs (nx zs p 1) false = q at *
  generalize mS zs (nx zs p 1) false = s at *
  generalize mN zs (nx zs p 1) = n at *
  have hR := Lib.hid (fun W => reg_any n W)
  generalize zs.getD p 0 = c at *
  subst hc
  go_enter Tryd.func32, Tryd.ntmps32
  go_upto_region 1 with fail
  generalize w.alloc (.cells z16 28) = w1 at *
  go_upto_region 26 with (first | ((with_reducible refine (hX.out _ F.r).mono ?_); rintro e w2 ⟨rfl, R2, k2⟩; have F2 := F.read R2 k2; have c2 := R2.c2) | ((with_reducible refine (hM.out _ F2.r).mono ?_); rintro e w3 ⟨rfl, R3, k3⟩; have F3 := F2.read R3 k3) | ((with_reducible refine store_op_as rfl _ _ rfl (op6 o) (op6_size _) (op6_one _) rfl rfl ?_); intro w4 kO b4; have F4 := F3.below b4; have hK := F3.lt))
  generalize w3.heap.size = K at *
  have hBK : K ∉ [B] := by simp; omega
  have FD := F4.drew
  have kD := kO.drew
  refine wp_region_held_drew (S := fun W => OX w W N B a len cap zs bd K (o)) (by kernel_rfl) ⟨⟨_, _, z16, z16_size, FD⟩, kD⟩ (fun hHeld => ?_)
  generalize w4.drew = wd at *
  refine wpAnyH_take (i := 0) (v := ?_) rfl (by kernel_rfl) (by kernel_rfl) (by kernel_rfl) (fun _ _ _ h => h) (Or.inl ⟨by kernel_rfl, ?_⟩) hHeld ?_
  rotate_left
  · intro W hS
    go_simp
    try rfl
  simp only [Act.put, List.setIfInBounds_toArray, List.set_cons_zero, List.set_cons_succ, List.getElem_toArray, List.getElem_cons_succ, List.getElem_cons_zero]
  refine wpAnyH_take (i := 1) (v := ?_) rfl (by kernel_rfl) (by kernel_rfl) (by kernel_rfl) (fun _ _ _ h => h) (Or.inl ⟨by kernel_rfl, ?_⟩) hHeld ?_
  rotate_left
  · intro W hS
    go_simp
    try rfl
  simp only [Act.put, List.setIfInBounds_toArray, List.set_cons_zero, List.set_cons_succ, List.getElem_toArray, List.getElem_cons_succ, List.getElem_cons_zero]
  refine wpAnyH_take (i := 3) (v := opV (o)) rfl (by kernel_rfl) (by kernel_rfl) (by kernel_rfl) (fun _ _ _ h => h) (Or.inl ⟨by kernel_rfl, ?_⟩) hHeld ?_
  · intro W hS
    exact run_load_row (by rfl) (by rfl) 26 _ (0, 0) _ hS.k.h Tryd.underlying26 rfl (szOp onZ)
  simp only [Act.put, List.setIfInBounds_toArray, List.set_cons_zero, List.set_cons_succ]
  refine wpAnyH_ready (rs := [2]) (by kernel_rfl) (by simp) ?_
  refine AllReadyH.cons rfl (fun K hK => ?_) AllReadyH.nil
  go_simp
  with_reducible refine (hR.out _).mono ?_
  rintro e wd2 ⟨rfl, bb2⟩
  have FD2 := FD.below bb2
  have kD2 := kD.below bb2 kD.lt
  refine hK.out _ _ ⟨⟨_, _, z16, z16_size, FD2⟩, kD2⟩ (fun _ => ?_)
  clear hK K
  try simp only [Act.put, List.setIfInBounds_toArray, List.set_cons_zero, List.set_cons_succ]
  refine wpAnyH_take (i := 4) (v := ?_) rfl (by kernel_rfl) (by kernel_rfl) (by kernel_rfl) (fun _ _ _ h => h) (Or.inl ⟨by kernel_rfl, ?_⟩) ⟨⟨_, _, z16, z16_size, FD2⟩, kD2⟩ ?_
  rotate_left
  · intro W hS
    go_simp
    try rfl
  simp only [Act.put, List.setIfInBounds_toArray, List.set_cons_zero, List.set_cons_succ, List.getElem_toArray, List.getElem_cons_succ, List.getElem_cons_zero]
  refine wpAnyH_ready (rs := [5]) (by kernel_rfl) (by simp) ?_
  refine AllReadyH.cons rfl (fun K hK => ?_) AllReadyH.nil
  rw [if_pos (by kernel_rfl)]
  refine wp_store_row 28 _ _ rfl w.heap.size (in16 ⟨36, 0, onReg n, o, false, 0⟩) rfl rfl 28 z16 FD2.z.h (szIn ⟨36, 0, onReg n, o, false, 0⟩) z16_size (in16_one _) ?_
  have FZ := FD2.done (FD2.z.row (in16 ⟨36, 0, onReg n, o, false, 0⟩)) (But.row1 _ _ _)
  have kZ := kD2.rowOther (M := w.heap.size) (in16 ⟨36, 0, onReg n, o, false, 0⟩) (by omega)
  refine hK.out _ _ ⟨⟨_, _, in16 ⟨36, 0, onReg n, o, false, 0⟩, in16_size _, FZ⟩, kZ⟩ (fun _ => ?_)
  clear hK K
  try simp only [Act.put, List.setIfInBounds_toArray, List.set_cons_zero, List.set_cons_succ, List.getElem_toArray, List.getElem_cons_succ, List.getElem_cons_zero]
  refine wpAnyH_take (i := 6) (v := ?_) rfl (by kernel_rfl) (by kernel_rfl) (by kernel_rfl) (fun _ _ _ h => h) (Or.inl ⟨by kernel_rfl, ?_⟩) ⟨⟨_, _, in16 ⟨36, 0, onReg n, o, false, 0⟩, in16_size _, FZ⟩, kZ⟩ ?_
  rotate_left
  · intro W hS
    go_simp
    try rfl
  simp only [Act.put, List.setIfInBounds_toArray, List.set_cons_zero, List.set_cons_succ, List.getElem_toArray, List.getElem_cons_succ, List.getElem_cons_zero]
  refine wpAnyH_done (by kernel_rfl) ?_ _
  go_wp2_with fail
  exact bodyPost_ret (v := .tuple #[inV ⟨36, 0, onReg n, o, false, 0⟩, .bool (false)]) (results_ct rfl _ _ w.heap.size 28 (in16 ⟨36, 0, onReg n, o, false, 0⟩) (0, 0) _ _ rfl rfl FZ.z.h Tryd.underlying28 rfl (szIn inZ)) rfl ⟨rfl, FZ.r, FZ.k⟩
theorem two_be (R : Rs w N B a len cap zs p false bd) (h : so zs p 1 false = false) (hc : zs.getD p 0 = 190) :
    Calls Tryd.prog 32 #[rp B] w fun e w' => e = .returned (.tuple #[inV ⟨37, 0, onReg (mN zs (nx zs p 1)), mO zs (nx zs p 1) false, false, 0⟩, .bool (false)]) ∧ Rs w' N B a len cap zs (mP zs (nx zs p 1) false) (mS zs (nx zs p 1) false) bd ∧ But [B] w.heap.size w w' := by
  have hB := R.lt
  have hb := byte_bd R p
  have F := RF.start R 28 z16
  have hX := Lib.hid (fun W (R : Rs W N B a len cap zs p false bd) => byte_any R)
  have e15 := and15u hb
  have w15 : wrap64 (zs.getD p 0 % 16) = zs.getD p 0 % 16 := w64 (by omega)
  rw [h] at hX
  have hM := Lib.hid (fun W (R : Rs W N B a len cap zs (nx zs p 1) false bd) => modrm_ref R)
  generalize mO zs (nx zs p 1) false = o at *
  generalize mP zs (nx zs p 1) false = q at *
  generalize mS zs (nx zs p 1) false = s at *
  generalize mN zs (nx zs p 1) = n at *
  have hR := Lib.hid (fun W => reg_any n W)
  generalize zs.getD p 0 = c at *
  subst hc
  go_enter Tryd.func32, Tryd.ntmps32
  go_upto_region 1 with fail
  generalize w.alloc (.cells z16 28) = w1 at *
  go_upto_region 26 with (first | ((with_reducible refine (hX.out _ F.r).mono ?_); rintro e w2 ⟨rfl, R2, k2⟩; have F2 := F.read R2 k2; have c2 := R2.c2) | ((with_reducible refine (hM.out _ F2.r).mono ?_); rintro e w3 ⟨rfl, R3, k3⟩; have F3 := F2.read R3 k3) | ((with_reducible refine store_op_as rfl _ _ rfl (op6 o) (op6_size _) (op6_one _) rfl rfl ?_); intro w4 kO b4; have F4 := F3.below b4; have hK := F3.lt))
  generalize w3.heap.size = K at *
  have hBK : K ∉ [B] := by simp; omega
  have FD := F4.drew
  have kD := kO.drew
  refine wp_region_held_drew (S := fun W => OX w W N B a len cap zs bd K (o)) (by kernel_rfl) ⟨⟨_, _, z16, z16_size, FD⟩, kD⟩ (fun hHeld => ?_)
  generalize w4.drew = wd at *
  refine wpAnyH_take (i := 0) (v := ?_) rfl (by kernel_rfl) (by kernel_rfl) (by kernel_rfl) (fun _ _ _ h => h) (Or.inl ⟨by kernel_rfl, ?_⟩) hHeld ?_
  rotate_left
  · intro W hS
    go_simp
    try rfl
  simp only [Act.put, List.setIfInBounds_toArray, List.set_cons_zero, List.set_cons_succ, List.getElem_toArray, List.getElem_cons_succ, List.getElem_cons_zero]
  refine wpAnyH_take (i := 1) (v := ?_) rfl (by kernel_rfl) (by kernel_rfl) (by kernel_rfl) (fun _ _ _ h => h) (Or.inl ⟨by kernel_rfl, ?_⟩) hHeld ?_
  rotate_left
  · intro W hS
    go_simp
    try rfl
  simp only [Act.put, List.setIfInBounds_toArray, List.set_cons_zero, List.set_cons_succ, List.getElem_toArray, List.getElem_cons_succ, List.getElem_cons_zero]
  refine wpAnyH_take (i := 3) (v := opV (o)) rfl (by kernel_rfl) (by kernel_rfl) (by kernel_rfl) (fun _ _ _ h => h) (Or.inl ⟨by kernel_rfl, ?_⟩) hHeld ?_
  · intro W hS
    exact run_load_row (by rfl) (by rfl) 26 _ (0, 0) _ hS.k.h Tryd.underlying26 rfl (szOp onZ)
  simp only [Act.put, List.setIfInBounds_toArray, List.set_cons_zero, List.set_cons_succ]
  refine wpAnyH_ready (rs := [2]) (by kernel_rfl) (by simp) ?_
  refine AllReadyH.cons rfl (fun K hK => ?_) AllReadyH.nil
  go_simp
  with_reducible refine (hR.out _).mono ?_
  rintro e wd2 ⟨rfl, bb2⟩
  have FD2 := FD.below bb2
  have kD2 := kD.below bb2 kD.lt
  refine hK.out _ _ ⟨⟨_, _, z16, z16_size, FD2⟩, kD2⟩ (fun _ => ?_)
  clear hK K
  try simp only [Act.put, List.setIfInBounds_toArray, List.set_cons_zero, List.set_cons_succ]
  refine wpAnyH_take (i := 4) (v := ?_) rfl (by kernel_rfl) (by kernel_rfl) (by kernel_rfl) (fun _ _ _ h => h) (Or.inl ⟨by kernel_rfl, ?_⟩) ⟨⟨_, _, z16, z16_size, FD2⟩, kD2⟩ ?_
  rotate_left
  · intro W hS
    go_simp
    try rfl
  simp only [Act.put, List.setIfInBounds_toArray, List.set_cons_zero, List.set_cons_succ, List.getElem_toArray, List.getElem_cons_succ, List.getElem_cons_zero]
  refine wpAnyH_ready (rs := [5]) (by kernel_rfl) (by simp) ?_
  refine AllReadyH.cons rfl (fun K hK => ?_) AllReadyH.nil
  rw [if_pos (by kernel_rfl)]
  refine wp_store_row 28 _ _ rfl w.heap.size (in16 ⟨37, 0, onReg n, o, false, 0⟩) rfl rfl 28 z16 FD2.z.h (szIn ⟨37, 0, onReg n, o, false, 0⟩) z16_size (in16_one _) ?_
  have FZ := FD2.done (FD2.z.row (in16 ⟨37, 0, onReg n, o, false, 0⟩)) (But.row1 _ _ _)
  have kZ := kD2.rowOther (M := w.heap.size) (in16 ⟨37, 0, onReg n, o, false, 0⟩) (by omega)
  refine hK.out _ _ ⟨⟨_, _, in16 ⟨37, 0, onReg n, o, false, 0⟩, in16_size _, FZ⟩, kZ⟩ (fun _ => ?_)
  clear hK K
  try simp only [Act.put, List.setIfInBounds_toArray, List.set_cons_zero, List.set_cons_succ, List.getElem_toArray, List.getElem_cons_succ, List.getElem_cons_zero]
  refine wpAnyH_take (i := 6) (v := ?_) rfl (by kernel_rfl) (by kernel_rfl) (by kernel_rfl) (fun _ _ _ h => h) (Or.inl ⟨by kernel_rfl, ?_⟩) ⟨⟨_, _, in16 ⟨37, 0, onReg n, o, false, 0⟩, in16_size _, FZ⟩, kZ⟩ ?_
  rotate_left
  · intro W hS
    go_simp
    try rfl
  simp only [Act.put, List.setIfInBounds_toArray, List.set_cons_zero, List.set_cons_succ, List.getElem_toArray, List.getElem_cons_succ, List.getElem_cons_zero]
  refine wpAnyH_done (by kernel_rfl) ?_ _
  go_wp2_with fail
  exact bodyPost_ret (v := .tuple #[inV ⟨37, 0, onReg n, o, false, 0⟩, .bool (false)]) (results_ct rfl _ _ w.heap.size 28 (in16 ⟨37, 0, onReg n, o, false, 0⟩) (0, 0) _ _ rfl rfl FZ.z.h Tryd.underlying28 rfl (szIn inZ)) rfl ⟨rfl, FZ.r, FZ.k⟩
theorem two_no (R : Rs w N B a len cap zs p false bd) (h : so zs p 1 false = false) (hc : ¬ zs.getD p 0 = 11 ∧ ¬ zs.getD p 0 / 16 = 8 ∧ ¬ zs.getD p 0 / 16 = 4 ∧ ¬ zs.getD p 0 / 16 = 9 ∧ ¬ zs.getD p 0 = 175 ∧ ¬ zs.getD p 0 = 182 ∧ ¬ zs.getD p 0 = 190) :
    Calls Tryd.prog 32 #[rp B] w fun e w' => e = .returned (.tuple #[inV inZ, .bool (true)]) ∧ Rs w' N B a len cap zs (nx zs p 1) (false) bd ∧ But [B] w.heap.size w w' := by
  have hB := R.lt
  have hb := byte_bd R p
  have F := RF.start R 28 z16
  have hX := Lib.hid (fun W (R : Rs W N B a len cap zs p false bd) => byte_any R)
  have e15 := and15u hb
  have w15 : wrap64 (zs.getD p 0 % 16) = zs.getD p 0 % 16 := w64 (by omega)
  rw [h] at hX
  obtain ⟨h1, h2, h3, h4, h5, h6, h7⟩ := hc
  have g1 : (zs.getD p 0 == 11) = false := bf h1
  have g2 : (zs.getD p 0 / 16 == 8) = false := bf h2
  have g3 : (zs.getD p 0 / 16 == 4) = false := bf h3
  have g4 : (zs.getD p 0 / 16 == 9) = false := bf h4
  have g5 : (zs.getD p 0 == 175) = false := bf h5
  have g6 : (zs.getD p 0 == 182) = false := bf h6
  have g7 : (zs.getD p 0 == 190) = false := bf h7
  clear h1 h2 h3 h4 h5 h6 h7
  generalize zs.getD p 0 = c at *
  generalize nx zs p 1 = q at *
  go_enter Tryd.func32, Tryd.ntmps32
  go_upto_region 1 with fail
  generalize w.alloc (.cells z16 28) = w1 at *
  go_wp2_with (first | ((with_reducible refine (hX.out _ F.r).mono ?_); rintro e w2 ⟨rfl, R2, k2⟩; have F2 := F.read R2 k2; have c2 := R2.c2) | ((with_reducible refine store_inR rfl _ _ rfl _ (in16 inZ) z16 rfl rfl F2.z (in16_size _) z16_size (in16_one _) ?_); intro wz kz bz hz; have FZ := F2.done kz bz))
  exact bodyPost_ret (v := .tuple #[inV inZ, .bool (true)]) (results_ct rfl _ _ w.heap.size 28 (in16 inZ) (0, 0) _ _ rfl rfl FZ.z.h Tryd.underlying28 rfl (szIn inZ)) rfl ⟨rfl, FZ.r, FZ.k⟩
theorem two_set (R : Rs w N B a len cap zs p false bd) (h : so zs p 1 false = false) (hc : zs.getD p 0 / 16 = 9) (hs : mS zs (nx zs p 1) false = false) {t : Bool} (ht : (mN zs (nx zs p 1) != 0) = t) :
    Calls Tryd.prog 32 #[rp B] w fun e w' => e = .returned (.tuple #[inV ⟨34, zs.getD p 0 % 16, mO zs (nx zs p 1) false, onZ, false, 0⟩, .bool (t)]) ∧ Rs w' N B a len cap zs (mP zs (nx zs p 1) false) (false) bd ∧ But [B] w.heap.size w w' := by
  have hB := R.lt
  have hb := byte_bd R p
  have F := RF.start R 28 z16
  have hX := Lib.hid (fun W (R : Rs W N B a len cap zs p false bd) => byte_any R)
  have e15 := and15u hb
  have w15 : wrap64 (zs.getD p 0 % 16) = zs.getD p 0 % 16 := w64 (by omega)
  rw [h] at hX
  have h11 : (zs.getD p 0 == 11) = false := bf (by omega)
  have hm := R.cm
  have hlc := R.lc
  have hM := Lib.hid (fun W (R : Rs W N B a len cap zs (nx zs p 1) false bd) => modrm_ref R)
  rw [hs] at hM
  generalize mO zs (nx zs p 1) false = o at *
  generalize mP zs (nx zs p 1) false = q at *
  generalize mN zs (nx zs p 1) = n at *
  have hR := Lib.hid (fun W => reg_any n W)
  generalize zs.getD p 0 % 16 = cc at *
  generalize zs.getD p 0 = c at *
  go_enter Tryd.func32, Tryd.ntmps32
  go_upto_region 1 with fail
  generalize w.alloc (.cells z16 28) = w1 at *
  go_upto_region 15 with (first | ((with_reducible refine (hX.out _ F.r).mono ?_); rintro e w2 ⟨rfl, R2, k2⟩; have F2 := F.read R2 k2; have c2 := R2.c2) | ((with_reducible refine (hM.out _ F2.r).mono ?_); rintro e w3 ⟨rfl, R3, k3⟩; have F3 := F2.read R3 k3) | ((with_reducible refine store_op_as rfl _ _ rfl (op6 o) (op6_size _) (op6_one _) rfl rfl ?_); intro w4 kO b4; have F4 := F3.below b4; have hK := F3.lt))
  generalize w3.heap.size = K at *
  have hBK : K ∉ [B] := by simp; omega
  clear c2
  have c2 := F4.r.c2
  have c0 := F4.r.c0
  go_upto_region 18 with fail
  go_wp2_with (first | (with_reducible refine load_opR rfl _ rfl K (op6 o) rfl kO (op6_size _) ?_) | ((with_reducible refine store_inR rfl _ _ rfl _ (in16 ⟨34, cc, o, onZ, false, 0⟩) z16 rfl rfl F4.z (in16_size _) z16_size (in16_one _) ?_); intro wz kz bz hz; have FZ := F4.done kz bz))
  exact bodyPost_ret (v := .tuple #[inV ⟨34, cc, o, onZ, false, 0⟩, .bool (t)]) (results_ct rfl _ _ w.heap.size 28 (in16 ⟨34, cc, o, onZ, false, 0⟩) (0, 0) _ _ rfl rfl FZ.z.h Tryd.underlying28 rfl (szIn inZ)) rfl ⟨rfl, FZ.r, FZ.k⟩
theorem two_set_told (R : Rs w N B a len cap zs p false bd) (h : so zs p 1 false = false) (hc : zs.getD p 0 / 16 = 9) (hs : mS zs (nx zs p 1) false = true) (hl : 3 ≤ len) (ht : ¬ zs.getD 2 0 / 8 % 8 = 0) :
    Calls Tryd.prog 32 #[rp B] w fun e w' => e = .returned (.tuple #[inV inZ, .bool (true)]) ∧ Rs w' N B a len cap zs (mP zs (nx zs p 1) false) (false) bd ∧ But [B] w.heap.size w w' := by
  have hB := R.lt
  have hb := byte_bd R p
  have F := RF.start R 28 z16
  have hX := Lib.hid (fun W (R : Rs W N B a len cap zs p false bd) => byte_any R)
  have e15 := and15u hb
  have w15 : wrap64 (zs.getD p 0 % 16) = zs.getD p 0 % 16 := w64 (by omega)
  rw [h] at hX
  have h11 : (zs.getD p 0 == 11) = false := bf (by omega)
  have hz2 := byte_bd R 2
  have e2 : bits .and .u8 (zs.getD 2 0 / 8) 7 = zs.getD 2 0 / 8 % 8 := and7u6 (by omega)
  have g2 : (zs.getD 2 0 / 8 % 8 != 0) = true := by rw [bne, bf ht]; rfl
  have hm := R.cm
  have hlc := R.lc
  have hll : ((2 : Int) < len) = True := eq_true (by omega)
  have hM := Lib.hid (fun W (R : Rs W N B a len cap zs (nx zs p 1) false bd) => modrm_ref R)
  rw [hs] at hM
  generalize mO zs (nx zs p 1) false = o at *
  generalize mP zs (nx zs p 1) false = q at *
  generalize mN zs (nx zs p 1) = n at *
  have hR := Lib.hid (fun W => reg_any n W)
  generalize zs.getD p 0 % 16 = cc at *
  generalize zs.getD p 0 = c at *
  generalize zs.getD 2 0 / 8 % 8 = f at *
  go_enter Tryd.func32, Tryd.ntmps32
  go_upto_region 1 with fail
  generalize w.alloc (.cells z16 28) = w1 at *
  go_upto_region 15 with (first | ((with_reducible refine (hX.out _ F.r).mono ?_); rintro e w2 ⟨rfl, R2, k2⟩; have F2 := F.read R2 k2; have c2 := R2.c2) | ((with_reducible refine (hM.out _ F2.r).mono ?_); rintro e w3 ⟨rfl, R3, k3⟩; have F3 := F2.read R3 k3) | ((with_reducible refine store_op_as rfl _ _ rfl (op6 o) (op6_size _) (op6_one _) rfl rfl ?_); intro w4 kO b4; have F4 := F3.below b4; have hK := F3.lt))
  generalize w3.heap.size = K at *
  have hBK : K ∉ [B] := by simp; omega
  clear c2
  have c2 := F4.r.c2
  have c0 := F4.r.c0
  obtain ⟨b, off, ea, hby⟩ := F4.r.byte 2 (by omega)
  subst ea
  generalize zs.getD 2 0 = z2 at *
  have f2 := F4.r.blk.fr 2
  go_upto_region 17 with fail
  have F5 := F4.setShort false
  generalize w4.setCell ⟨B, 2, none⟩ (.bool false) = w5 at *
  go_wp2_with (first | ((with_reducible refine store_inR rfl _ _ rfl _ (in16 inZ) z16 rfl rfl F5.z (in16_size _) z16_size (in16_one _) ?_); intro wz kz bz hz; have FZ := F5.done kz bz))
  exact bodyPost_ret (v := .tuple #[inV inZ, .bool (true)]) (results_ct rfl _ _ w.heap.size 28 (in16 inZ) (0, 0) _ _ rfl rfl FZ.z.h Tryd.underlying28 rfl (szIn inZ)) rfl ⟨rfl, FZ.r, FZ.k⟩
theorem two_set_none (R : Rs w N B a len cap zs p false bd) (h : so zs p 1 false = false) (hc : zs.getD p 0 / 16 = 9) (hs : mS zs (nx zs p 1) false = true) (hl : ¬ 3 ≤ len) {t : Bool} (ht : (mN zs (nx zs p 1) != 0) = t) :
    Calls Tryd.prog 32 #[rp B] w fun e w' => e = .returned (.tuple #[inV ⟨34, zs.getD p 0 % 16, mO zs (nx zs p 1) false, onZ, false, 0⟩, .bool (t)]) ∧ Rs w' N B a len cap zs (mP zs (nx zs p 1) false) (true) bd ∧ But [B] w.heap.size w w' := by
  have hB := R.lt
  have hb := byte_bd R p
  have F := RF.start R 28 z16
  have hX := Lib.hid (fun W (R : Rs W N B a len cap zs p false bd) => byte_any R)
  have e15 := and15u hb
  have w15 : wrap64 (zs.getD p 0 % 16) = zs.getD p 0 % 16 := w64 (by omega)
  rw [h] at hX
  have h11 : (zs.getD p 0 == 11) = false := bf (by omega)
  have hm := R.cm
  have hlc := R.lc
  have hll : ((2 : Int) < len) = False := eq_false (by omega)
  have hM := Lib.hid (fun W (R : Rs W N B a len cap zs (nx zs p 1) false bd) => modrm_ref R)
  rw [hs] at hM
  generalize mO zs (nx zs p 1) false = o at *
  generalize mP zs (nx zs p 1) false = q at *
  generalize mN zs (nx zs p 1) = n at *
  have hR := Lib.hid (fun W => reg_any n W)
  generalize zs.getD p 0 % 16 = cc at *
  generalize zs.getD p 0 = c at *
  go_enter Tryd.func32, Tryd.ntmps32
  go_upto_region 1 with fail
  generalize w.alloc (.cells z16 28) = w1 at *
  go_upto_region 15 with (first | ((with_reducible refine (hX.out _ F.r).mono ?_); rintro e w2 ⟨rfl, R2, k2⟩; have F2 := F.read R2 k2; have c2 := R2.c2) | ((with_reducible refine (hM.out _ F2.r).mono ?_); rintro e w3 ⟨rfl, R3, k3⟩; have F3 := F2.read R3 k3) | ((with_reducible refine store_op_as rfl _ _ rfl (op6 o) (op6_size _) (op6_one _) rfl rfl ?_); intro w4 kO b4; have F4 := F3.below b4; have hK := F3.lt))
  generalize w3.heap.size = K at *
  have hBK : K ∉ [B] := by simp; omega
  clear c2
  have c2 := F4.r.c2
  have c0 := F4.r.c0
  go_upto_region 18 with fail
  go_wp2_with (first | (with_reducible refine load_opR rfl _ rfl K (op6 o) rfl kO (op6_size _) ?_) | ((with_reducible refine store_inR rfl _ _ rfl _ (in16 ⟨34, cc, o, onZ, false, 0⟩) z16 rfl rfl F4.z (in16_size _) z16_size (in16_one _) ?_); intro wz kz bz hz; have FZ := F4.done kz bz))
  exact bodyPost_ret (v := .tuple #[inV ⟨34, cc, o, onZ, false, 0⟩, .bool (t)]) (results_ct rfl _ _ w.heap.size 28 (in16 ⟨34, cc, o, onZ, false, 0⟩) (0, 0) _ _ rfl rfl FZ.z.h Tryd.underlying28 rfl (szIn inZ)) rfl ⟨rfl, FZ.r, FZ.k⟩
theorem two_set_zero (R : Rs w N B a len cap zs p false bd) (h : so zs p 1 false = false) (hc : zs.getD p 0 / 16 = 9) (hs : mS zs (nx zs p 1) false = true) (hl : 3 ≤ len) (h2 : zs.getD 2 0 / 8 % 8 = 0) {t : Bool} (ht : (mN zs (nx zs p 1) != 0) = t) :
    Calls Tryd.prog 32 #[rp B] w fun e w' => e = .returned (.tuple #[inV ⟨34, zs.getD p 0 % 16, mO zs (nx zs p 1) false, onZ, false, 0⟩, .bool (t)]) ∧ Rs w' N B a len cap zs (mP zs (nx zs p 1) false) (true) bd ∧ But [B] w.heap.size w w' := by
  have hB := R.lt
  have hb := byte_bd R p
  have F := RF.start R 28 z16
  have hX := Lib.hid (fun W (R : Rs W N B a len cap zs p false bd) => byte_any R)
  have e15 := and15u hb
  have w15 : wrap64 (zs.getD p 0 % 16) = zs.getD p 0 % 16 := w64 (by omega)
  rw [h] at hX
  have h11 : (zs.getD p 0 == 11) = false := bf (by omega)
  have hz2 := byte_bd R 2
  have e2 : bits .and .u8 (zs.getD 2 0 / 8) 7 = zs.getD 2 0 / 8 % 8 := and7u6 (by omega)
  have hm := R.cm
  have hlc := R.lc
  have hll : ((2 : Int) < len) = True := eq_true (by omega)
  have hM := Lib.hid (fun W (R : Rs W N B a len cap zs (nx zs p 1) false bd) => modrm_ref R)
  rw [hs] at hM
  generalize mO zs (nx zs p 1) false = o at *
  generalize mP zs (nx zs p 1) false = q at *
  generalize mN zs (nx zs p 1) = n at *
  have hR := Lib.hid (fun W => reg_any n W)
  generalize zs.getD p 0 % 16 = cc at *
  generalize zs.getD p 0 = c at *
  rw [h2] at e2
  go_enter Tryd.func32, Tryd.ntmps32
  go_upto_region 1 with fail
  generalize w.alloc (.cells z16 28) = w1 at *
  go_upto_region 15 with (first | ((with_reducible refine (hX.out _ F.r).mono ?_); rintro e w2 ⟨rfl, R2, k2⟩; have F2 := F.read R2 k2; have c2 := R2.c2) | ((with_reducible refine (hM.out _ F2.r).mono ?_); rintro e w3 ⟨rfl, R3, k3⟩; have F3 := F2.read R3 k3) | ((with_reducible refine store_op_as rfl _ _ rfl (op6 o) (op6_size _) (op6_one _) rfl rfl ?_); intro w4 kO b4; have F4 := F3.below b4; have hK := F3.lt))
  generalize w3.heap.size = K at *
  have hBK : K ∉ [B] := by simp; omega
  clear c2
  have c2 := F4.r.c2
  have c0 := F4.r.c0
  obtain ⟨b, off, ea, hby⟩ := F4.r.byte 2 (by omega)
  subst ea
  generalize zs.getD 2 0 = z2 at *
  go_upto_region 18 with fail
  go_wp2_with (first | (with_reducible refine load_opR rfl _ rfl K (op6 o) rfl kO (op6_size _) ?_) | ((with_reducible refine store_inR rfl _ _ rfl _ (in16 ⟨34, cc, o, onZ, false, 0⟩) z16 rfl rfl F4.z (in16_size _) z16_size (in16_one _) ?_); intro wz kz bz hz; have FZ := F4.done kz bz))
  exact bodyPost_ret (v := .tuple #[inV ⟨34, cc, o, onZ, false, 0⟩, .bool (t)]) (results_ct rfl _ _ w.heap.size 28 (in16 ⟨34, cc, o, onZ, false, 0⟩) (0, 0) _ _ rfl rfl FZ.z.h Tryd.underlying28 rfl (szIn inZ)) rfl ⟨rfl, FZ.r, FZ.k⟩
end
end Go.Proofs.YtlooobehlhgccaaDoor
