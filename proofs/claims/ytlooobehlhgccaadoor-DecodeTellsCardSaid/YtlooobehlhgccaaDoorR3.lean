/- The reference: two operands of a group. -/
import Derived.Test.YtlooobehlhgccaaDoorR2
namespace Go.Proofs.YtlooobehlhgccaaDoor
open Go.RowKit
set_option linter.unusedVariables false
set_option linter.unusedSimpArgs false
set_option linter.unusedSectionVars false

/-- What is read by ModRM: the place, where it ends, whether it was too short; the other field. -/
def mO (zs : List Int) (p : Nat) (sh : Bool) : On := (placeR zs (nx zs p 1) (so zs p 1 sh) (zs.getD p 0)).1
def mP (zs : List Int) (p : Nat) (sh : Bool) : Nat := (placeR zs (nx zs p 1) (so zs p 1 sh) (zs.getD p 0)).2.1
def mS (zs : List Int) (p : Nat) (sh : Bool) : Bool := (placeR zs (nx zs p 1) (so zs p 1 sh) (zs.getD p 0)).2.2
def mN (zs : List Int) (p : Nat) : Int := zs.getD p 0 / 8 % 8
/-- While a region draws: the result's block, the reader, a place in a block. -/
structure OX (w W : World) (N B : Nat) (a : Option Addr) (len cap : Nat) (zs : List Int) (bd : Bool) (K : Nat) (o : On) : Prop where
  e : ∃ q s cs, cs.size = 16 ∧ RF w W N B a len cap zs q s bd 28 cs
  k : Blk W K 26 (op6 o)
section
variable {w : World} {N B : Nat} {a : Option Addr} {len cap : Nat} {zs : List Int} {p : Nat} {sh bd : Bool}
theorem modrm_ref (R : Rs w N B a len cap zs p sh bd) :
    Calls Tryd.prog 31 #[rp B] w fun e w' => e = .returned (.tuple #[opV (mO zs p sh), .int .i64 (mN zs p)]) ∧ Rs w' N B a len cap zs (mP zs p sh) (mS zs p sh) bd ∧ But [B] w.heap.size w w' := modrm_any R
theorem mN_bd (R : Rs w N B a len cap zs p sh bd) : 0 ≤ mN zs p ∧ mN zs p < 8 := by
  have := byte_bd R p
  unfold mN; omega
theorem group5 (R : Rs w N B a len cap zs p sh bd) (op : Int) :
    Calls Tryd.prog 20 #[rp B, .int .i64 op, .int .i64 5] w fun e w' => e = .returned (inV ⟨op, 0, onReg 0, onImm (le4 zs p), false, 0⟩) ∧ Rs w' N B a len cap zs (nx zs p 4) (so zs p 4 sh) bd ∧ But [B] w.heap.size w w' := by
  have F := RF.start R 28 z16
  have hX := Lib.hid (fun W (R : Rs W N B a len cap zs p sh bd) => word_ref R)
  generalize le4 zs p = v at *
  have hR := Lib.hid (fun W => reg_any 0 W)
  have hI := Lib.hid (fun W => imm_any v W)
  go_enter Tryd.func20, Tryd.ntmps20
  go_upto_region 1 with fail
  generalize w.alloc (.cells z16 28) = w1 at *
  go_wp2_with (first | ((with_reducible refine (hR.out _).mono ?_); rintro e w2 ⟨rfl, b2⟩; have F2 := F.below b2) | ((with_reducible refine (hX.out _ F2.r).mono ?_); rintro e w3 ⟨rfl, R3, k3⟩; have F3 := F2.read R3 k3) | ((with_reducible refine (hI.out _).mono ?_); rintro e w4 ⟨rfl, b4⟩; have F4 := F3.below b4) | ((with_reducible refine store_inR rfl _ _ rfl _ (in16 ⟨op, 0, onReg 0, onImm v, false, 0⟩) z16 rfl rfl F4.z (in16_size _) z16_size (in16_one _) ?_); intro wz kz bz hz; have FZ := F4.done kz bz))
  exact bodyPost_ret (v := inV ⟨op, 0, onReg 0, onImm v, false, 0⟩) (results_cell_row rfl _ _ w.heap.size 28 (in16 ⟨op, 0, onReg 0, onImm v, false, 0⟩) (0, 0) _ rfl FZ.z.h Tryd.underlying28 rfl (szIn inZ)) rfl ⟨rfl, FZ.r, FZ.k⟩
theorem group1 (R : Rs w N B a len cap zs p sh bd) (op : Int) :
    Calls Tryd.prog 20 #[rp B, .int .i64 op, .int .i64 1] w fun e w' => e = .returned (inV ⟨op, 0, mO zs p sh, onReg (mN zs p), false, 0⟩) ∧ Rs w' N B a len cap zs (mP zs p sh) (mS zs p sh) bd ∧ But [B] w.heap.size w w' := by
  have F := RF.start R 28 z16
  have hB := R.lt
  have hX := Lib.hid (fun W (R : Rs W N B a len cap zs p sh bd) => modrm_ref R)
  generalize mO zs p sh = o at *
  generalize mP zs p sh = q at *
  generalize mS zs p sh = s at *
  generalize mN zs p = n at *
  have hR := Lib.hid (fun W => reg_any n W)
  go_enter Tryd.func20, Tryd.ntmps20
  go_upto_region 1 with fail
  generalize w.alloc (.cells z16 28) = w1 at *
  go_upto_region 5 with (first | ((with_reducible refine (hX.out _ F.r).mono ?_); rintro e w2 ⟨rfl, R2, k2⟩; have F2 := F.read R2 k2) | ((with_reducible refine store_op_as rfl _ _ rfl (op6 o) (op6_size _) (op6_one _) rfl rfl ?_); intro w3 kO b3; have F3 := F2.below b3; have hK := F2.lt))
  generalize w2.heap.size = K at *
  have hBK : K ∉ [B] := by simp; omega
  have FD := F3.drew
  have kD := kO.drew
  refine wp_region_held_drew (S := fun W => OX w W N B a len cap zs bd K (o)) (by kernel_rfl) ⟨⟨_, _, z16, z16_size, FD⟩, kD⟩ (fun hHeld => ?_)
  generalize w3.drew = wd at *
  refine wpAnyH_take (i := 0) (v := ?_) rfl (by kernel_rfl) (by kernel_rfl) (by kernel_rfl) (fun _ _ _ h => h) (Or.inl ⟨by kernel_rfl, ?_⟩) hHeld ?_
  rotate_left
  · intro W hS
    go_simp
    try rfl
  simp only [Act.put, List.setIfInBounds_toArray, List.set_cons_zero, List.set_cons_succ, List.getElem_toArray, List.getElem_cons_succ, List.getElem_cons_zero]
  refine wpAnyH_take (i := 1) (v := opV (o)) rfl (by kernel_rfl) (by kernel_rfl) (by kernel_rfl) (fun _ _ _ h => h) (Or.inl ⟨by kernel_rfl, ?_⟩) hHeld ?_
  · intro W hS
    exact run_load_row (by rfl) (by rfl) 26 _ (0, 0) _ hS.k.h Tryd.underlying26 rfl (szOp onZ)
  simp only [Act.put, List.setIfInBounds_toArray, List.set_cons_zero, List.set_cons_succ]
  refine wpAnyH_take (i := 2) (v := ?_) rfl (by kernel_rfl) (by kernel_rfl) (by kernel_rfl) (fun _ _ _ h => h) (Or.inl ⟨by kernel_rfl, ?_⟩) hHeld ?_
  rotate_left
  · intro W hS
    go_simp
    try rfl
  simp only [Act.put, List.setIfInBounds_toArray, List.set_cons_zero, List.set_cons_succ, List.getElem_toArray, List.getElem_cons_succ, List.getElem_cons_zero]
  refine wpAnyH_ready (rs := [3]) (by kernel_rfl) (by simp) ?_
  refine AllReadyH.cons rfl (fun K hK => ?_) AllReadyH.nil
  go_simp
  with_reducible refine (hR.out _).mono ?_
  rintro e wd3 ⟨rfl, bb3⟩
  have FD3 := FD.below bb3
  have kD3 := kD.below bb3 kD.lt
  refine hK.out _ _ ⟨⟨_, _, z16, z16_size, FD3⟩, kD3⟩ (fun _ => ?_)
  clear hK K
  try simp only [Act.put, List.setIfInBounds_toArray, List.set_cons_zero, List.set_cons_succ]
  refine wpAnyH_take (i := 4) (v := ?_) rfl (by kernel_rfl) (by kernel_rfl) (by kernel_rfl) (fun _ _ _ h => h) (Or.inl ⟨by kernel_rfl, ?_⟩) ⟨⟨_, _, z16, z16_size, FD3⟩, kD3⟩ ?_
  rotate_left
  · intro W hS
    go_simp
    try rfl
  simp only [Act.put, List.setIfInBounds_toArray, List.set_cons_zero, List.set_cons_succ, List.getElem_toArray, List.getElem_cons_succ, List.getElem_cons_zero]
  refine wpAnyH_ready (rs := [5]) (by kernel_rfl) (by simp) ?_
  refine AllReadyH.cons rfl (fun K hK => ?_) AllReadyH.nil
  rw [if_pos (by kernel_rfl)]
  refine wp_store_row 28 _ _ rfl w.heap.size (in16 ⟨op, 0, o, onReg n, false, 0⟩) rfl rfl 28 z16 FD3.z.h (szIn ⟨op, 0, o, onReg n, false, 0⟩) z16_size (in16_one _) ?_
  have FZ := FD3.done (FD3.z.row (in16 ⟨op, 0, o, onReg n, false, 0⟩)) (But.row1 _ _ _)
  have kZ := kD3.rowOther (M := w.heap.size) (in16 ⟨op, 0, o, onReg n, false, 0⟩) (by omega)
  refine hK.out _ _ ⟨⟨_, _, in16 ⟨op, 0, o, onReg n, false, 0⟩, in16_size _, FZ⟩, kZ⟩ (fun _ => ?_)
  clear hK K
  try simp only [Act.put, List.setIfInBounds_toArray, List.set_cons_zero, List.set_cons_succ, List.getElem_toArray, List.getElem_cons_succ, List.getElem_cons_zero]
  refine wpAnyH_done (by kernel_rfl) ?_ _
  go_wp2_with fail
  exact bodyPost_ret (v := inV ⟨op, 0, o, onReg n, false, 0⟩) (results_cell_row rfl _ _ w.heap.size 28 (in16 ⟨op, 0, o, onReg n, false, 0⟩) (0, 0) _ rfl FZ.z.h Tryd.underlying28 rfl (szIn inZ)) rfl ⟨rfl, FZ.r, FZ.k⟩
theorem group3 (R : Rs w N B a len cap zs p sh bd) (op : Int) :
    Calls Tryd.prog 20 #[rp B, .int .i64 op, .int .i64 3] w fun e w' => e = .returned (inV ⟨op, 0, onReg (mN zs p), mO zs p sh, false, 0⟩) ∧ Rs w' N B a len cap zs (mP zs p sh) (mS zs p sh) bd ∧ But [B] w.heap.size w w' := by
  have F := RF.start R 28 z16
  have hB := R.lt
  have hX := Lib.hid (fun W (R : Rs W N B a len cap zs p sh bd) => modrm_ref R)
  generalize mO zs p sh = o at *
  generalize mP zs p sh = q at *
  generalize mS zs p sh = s at *
  generalize mN zs p = n at *
  have hR := Lib.hid (fun W => reg_any n W)
  go_enter Tryd.func20, Tryd.ntmps20
  go_upto_region 1 with fail
  generalize w.alloc (.cells z16 28) = w1 at *
  go_upto_region 6 with (first | ((with_reducible refine (hX.out _ F.r).mono ?_); rintro e w2 ⟨rfl, R2, k2⟩; have F2 := F.read R2 k2) | ((with_reducible refine store_op_as rfl _ _ rfl (op6 o) (op6_size _) (op6_one _) rfl rfl ?_); intro w3 kO b3; have F3 := F2.below b3; have hK := F2.lt))
  generalize w2.heap.size = K at *
  have hBK : K ∉ [B] := by simp; omega
  have FD := F3.drew
  have kD := kO.drew
  refine wp_region_held_drew (S := fun W => OX w W N B a len cap zs bd K (o)) (by kernel_rfl) ⟨⟨_, _, z16, z16_size, FD⟩, kD⟩ (fun hHeld => ?_)
  generalize w3.drew = wd at *
  refine wpAnyH_take (i := 0) (v := ?_) rfl (by kernel_rfl) (by kernel_rfl) (by kernel_rfl) (fun _ _ _ h => h) (Or.inl ⟨by kernel_rfl, ?_⟩) hHeld ?_
  rotate_left
  · intro W hS
    go_simp
    try rfl
  simp only [Act.put, List.setIfInBounds_toArray, List.set_cons_zero, List.set_cons_succ, List.getElem_toArray, List.getElem_cons_succ, List.getElem_cons_zero]
  refine wpAnyH_take (i := 1) (v := ?_) rfl (by kernel_rfl) (by kernel_rfl) (by kernel_rfl) (fun _ _ _ h => h) (Or.inl ⟨by kernel_rfl, ?_⟩) hHeld ?_
  rotate_left
  · intro W hS
    go_simp
    try rfl
  simp only [Act.put, List.setIfInBounds_toArray, List.set_cons_zero, List.set_cons_succ, List.getElem_toArray, List.getElem_cons_succ, List.getElem_cons_zero]
  refine wpAnyH_take (i := 3) (v := opV (o)) rfl (by kernel_rfl) (by kernel_rfl) (by kernel_rfl) (fun _ _ _ h => h) (Or.inl ⟨by kernel_rfl, ?_⟩) hHeld ?_
  · intro W hS
    exact run_load_row (by rfl) (by rfl) 26 _ (0, 0) _ hS.k.h Tryd.underlying26 rfl (szOp onZ)
  simp only [Act.put, List.setIfInBounds_toArray, List.set_cons_zero, List.set_cons_succ]
  refine wpAnyH_ready (rs := [2]) (by kernel_rfl) (by simp) ?_
  refine AllReadyH.cons rfl (fun K hK => ?_) AllReadyH.nil
  go_simp
  with_reducible refine (hR.out _).mono ?_
  rintro e wd2 ⟨rfl, bb2⟩
  have FD2 := FD.below bb2
  have kD2 := kD.below bb2 kD.lt
  refine hK.out _ _ ⟨⟨_, _, z16, z16_size, FD2⟩, kD2⟩ (fun _ => ?_)
  clear hK K
  try simp only [Act.put, List.setIfInBounds_toArray, List.set_cons_zero, List.set_cons_succ]
  refine wpAnyH_take (i := 4) (v := ?_) rfl (by kernel_rfl) (by kernel_rfl) (by kernel_rfl) (fun _ _ _ h => h) (Or.inl ⟨by kernel_rfl, ?_⟩) ⟨⟨_, _, z16, z16_size, FD2⟩, kD2⟩ ?_
  rotate_left
  · intro W hS
    go_simp
    try rfl
  simp only [Act.put, List.setIfInBounds_toArray, List.set_cons_zero, List.set_cons_succ, List.getElem_toArray, List.getElem_cons_succ, List.getElem_cons_zero]
  refine wpAnyH_ready (rs := [5]) (by kernel_rfl) (by simp) ?_
  refine AllReadyH.cons rfl (fun K hK => ?_) AllReadyH.nil
  rw [if_pos (by kernel_rfl)]
  refine wp_store_row 28 _ _ rfl w.heap.size (in16 ⟨op, 0, onReg n, o, false, 0⟩) rfl rfl 28 z16 FD2.z.h (szIn ⟨op, 0, onReg n, o, false, 0⟩) z16_size (in16_one _) ?_
  have FZ := FD2.done (FD2.z.row (in16 ⟨op, 0, onReg n, o, false, 0⟩)) (But.row1 _ _ _)
  have kZ := kD2.rowOther (M := w.heap.size) (in16 ⟨op, 0, onReg n, o, false, 0⟩) (by omega)
  refine hK.out _ _ ⟨⟨_, _, in16 ⟨op, 0, onReg n, o, false, 0⟩, in16_size _, FZ⟩, kZ⟩ (fun _ => ?_)
  clear hK K
  try simp only [Act.put, List.setIfInBounds_toArray, List.set_cons_zero, List.set_cons_succ, List.getElem_toArray, List.getElem_cons_succ, List.getElem_cons_zero]
  refine wpAnyH_done (by kernel_rfl) ?_ _
  go_wp2_with fail
  exact bodyPost_ret (v := inV ⟨op, 0, onReg n, o, false, 0⟩) (results_cell_row rfl _ _ w.heap.size 28 (in16 ⟨op, 0, onReg n, o, false, 0⟩) (0, 0) _ rfl FZ.z.h Tryd.underlying28 rfl (szIn inZ)) rfl ⟨rfl, FZ.r, FZ.k⟩
end
end Go.Proofs.YtlooobehlhgccaaDoor
