/- The reference: the rest of the codes with ModRM. -/
import Derived.Test.YtlooobehlhgccaaDoorR35
namespace Go.Proofs.YtlooobehlhgccaaDoor
open Go.RowKit
set_option linter.unusedVariables false
set_option linter.unusedSimpArgs false
set_option linter.unusedSectionVars false

theorem eq_reg (o : On) (r : Int) (W : World) : (Op.equalIn 10000 26 (opV o) (opV (onReg r))).run Tryd.prog W = .ok (o.k == 1 && o.r == r && o.m == 0 && o.b == 0 && o.x == 0 && o.s == 0) W := by
  go_simp
  unfold onReg
  (repeat' split) <;> simp_all
abbrev z8 : Array Value := #[.int .i64 0, .int .i64 0, .int .i64 0, .int .i64 0, .int .i64 0, .int .i64 0, .int .i64 0, .int .i64 0]
abbrev f7A : Array Value := #[.int .i64 11, .int .i64 0, .int .i64 14, .int .i64 15, .int .i64 16, .int .i64 17, .int .i64 19, .int .i64 20]
abbrev ffA : Array Value := #[.int .i64 12, .int .i64 13, .int .i64 30, .int .i64 0, .int .i64 32, .int .i64 0, .int .i64 28, .int .i64 0]
theorem sz8 : (Tryd.prog.info? 40).map (·.size) = some 8 := by kernel_rfl
theorem store_8_as {ops : Array Oper} {rest : List Oper} {o : Oper} {a : Act} {w0 : World} {Q : Exit → Act → World → Prop} (hgd : o.guard = none) (x y : Operand) (ho : o.op = .store 40 x y)
    (cs : Array Value) (hz : cs.size = 8) (h1 : cs.all (·.oneCell') = true) (hx : a.eval x = .pointer (some ⟨w0.heap.size, 0, none⟩)) (hy : a.eval y = .agg cs)
    (h : ∀ W, Blk W w0.heap.size 40 cs → Below w0.heap.size w0 W → wpList Tryd.prog ops Q rest (a.put o.dst undef) W) :
    wpList Tryd.prog ops Q (o :: rest) a (w0.alloc (.cells z8 40)) := by
  refine wpList_store_row hgd 40 x y ho w0.heap.size cs hx hy 40 z8 (alloc_new _ _) (sz8.trans (congrArg some hz.symm)) hz.symm h1 ?_
  exact h _ ((Blk.new w0 40 z8).row cs) (below_rowNew ((Below.refl _ _).alloc (Nat.le_refl _) _) (Nat.le_refl _) _)
section
variable {w : World} {N B : Nat} {a : Option Addr} {len cap : Nat} {zs : List Int} {p : Nat} {sh bd : Bool}
set_option maxRecDepth 100000 in
set_option maxHeartbeats 4000000 in
theorem rest_c6_bad (R : Rs w N B a len cap zs p false false) (o : On) {n : Int} (hn : ¬ n = 0) :
    Calls Tryd.prog 35 #[rp B, .int .u8 198, opV o, .int .i64 n] w fun e w' => e = .returned (.tuple #[inV inZ, .bool (false)]) ∧ Rs w' N B a len cap zs (p) (false) true ∧ But [B] w.heap.size w w' := by
  have hB0 := R.lt
  have k01 := (Below.refl w.heap.size w).alloc (Nat.le_refl _) (.cells (op6 o) 26)
  have R1 := R.alloc (.cells (op6 o) 26)
  have kO := Blk.new w 26 (op6 o)
  have hKw : w.heap.size < (w.alloc (.cells (op6 o) 26)).heap.size := kO.lt
  have hs : (w.alloc (.cells (op6 o) 26)).heap.size = w.heap.size + 1 := by simp
  have F := RF.start R1 28 z16
  have kO1 := kO.alloc (.cells z16 28)
  have hBK : w.heap.size ∉ [B] := by simp; omega
  have hn2 : (n != 0) = true := by simp [hn]
  go_enter Tryd.func35, Tryd.ntmps35
  go_upto_region 1 with fail
  generalize (w.alloc (.cells (op6 o) 26)).alloc (.cells z16 28) = w1 at *
  rw [← hs]
  generalize w.alloc (.cells (op6 o) 26) = w0 at *
  clear hs
  have c3 := F.r.c3
  have f3 := F.r.blk.fr 3
  go_upto_region 4 with fail
  have F2 := F.setBad true
  have kO2 := kO1.other 3 (.bool true) (M := B) (by omega)
  generalize w1.setCell ⟨B, 3, none⟩ (.bool true) = w2 at *
  clear c3 f3
  have c3 := F2.r.c3
  go_wp2_with (first | ((with_reducible refine store_inR rfl _ _ rfl _ (in16 inZ) z16 rfl rfl F2.z (in16_size _) z16_size (in16_one _) ?_); intro wz kz bz hz; have FZ := F2.done kz bz))
  exact bodyPost_ret (v := .tuple #[inV inZ, .bool (false)]) (results_ct rfl _ _ w0.heap.size 28 (in16 inZ) (0, 0) _ _ rfl rfl FZ.z.h Tryd.underlying28 rfl (szIn inZ)) rfl ⟨rfl, FZ.r, (But.of k01 [B]).trans (FZ.k.mono k01.size (fun _ h => .inl h))⟩
set_option maxRecDepth 100000 in
set_option maxHeartbeats 4000000 in
theorem rest_c7_bad (R : Rs w N B a len cap zs p false false) (o : On) {n : Int} (hn : ¬ n = 0) :
    Calls Tryd.prog 35 #[rp B, .int .u8 199, opV o, .int .i64 n] w fun e w' => e = .returned (.tuple #[inV inZ, .bool (false)]) ∧ Rs w' N B a len cap zs (p) (false) true ∧ But [B] w.heap.size w w' := by
  have hB0 := R.lt
  have k01 := (Below.refl w.heap.size w).alloc (Nat.le_refl _) (.cells (op6 o) 26)
  have R1 := R.alloc (.cells (op6 o) 26)
  have kO := Blk.new w 26 (op6 o)
  have hKw : w.heap.size < (w.alloc (.cells (op6 o) 26)).heap.size := kO.lt
  have hs : (w.alloc (.cells (op6 o) 26)).heap.size = w.heap.size + 1 := by simp
  have F := RF.start R1 28 z16
  have kO1 := kO.alloc (.cells z16 28)
  have hBK : w.heap.size ∉ [B] := by simp; omega
  have hn2 : (n != 0) = true := by simp [hn]
  go_enter Tryd.func35, Tryd.ntmps35
  go_upto_region 1 with fail
  generalize (w.alloc (.cells (op6 o) 26)).alloc (.cells z16 28) = w1 at *
  rw [← hs]
  generalize w.alloc (.cells (op6 o) 26) = w0 at *
  clear hs
  have c3 := F.r.c3
  have f3 := F.r.blk.fr 3
  go_upto_region 9 with fail
  have F2 := F.setBad true
  have kO2 := kO1.other 3 (.bool true) (M := B) (by omega)
  generalize w1.setCell ⟨B, 3, none⟩ (.bool true) = w2 at *
  clear c3 f3
  have c3 := F2.r.c3
  go_wp2_with (first | ((with_reducible refine store_inR rfl _ _ rfl _ (in16 inZ) z16 rfl rfl F2.z (in16_size _) z16_size (in16_one _) ?_); intro wz kz bz hz; have FZ := F2.done kz bz))
  exact bodyPost_ret (v := .tuple #[inV inZ, .bool (false)]) (results_ct rfl _ _ w0.heap.size 28 (in16 inZ) (0, 0) _ _ rfl rfl FZ.z.h Tryd.underlying28 rfl (szIn inZ)) rfl ⟨rfl, FZ.r, (But.of k01 [B]).trans (FZ.k.mono k01.size (fun _ h => .inl h))⟩
set_option maxRecDepth 100000 in
set_option maxHeartbeats 4000000 in
theorem rest_c6 (R : Rs w N B a len cap zs p false false) (o : On)  :
    Calls Tryd.prog 35 #[rp B, .int .u8 198, opV o, .int .i64 0] w fun e w' => e = .returned (.tuple #[inV ⟨2, 0, o, onImm (zs.getD p 0), false, 0⟩, .bool (false)]) ∧ Rs w' N B a len cap zs (nx zs p 1) (so zs p 1 false) false ∧ But [B] w.heap.size w w' := by
  have hB0 := R.lt
  have k01 := (Below.refl w.heap.size w).alloc (Nat.le_refl _) (.cells (op6 o) 26)
  have R1 := R.alloc (.cells (op6 o) 26)
  have kO := Blk.new w 26 (op6 o)
  have hKw : w.heap.size < (w.alloc (.cells (op6 o) 26)).heap.size := kO.lt
  have hs : (w.alloc (.cells (op6 o) 26)).heap.size = w.heap.size + 1 := by simp
  have F := RF.start R1 28 z16
  have kO1 := kO.alloc (.cells z16 28)
  have hBK : w.heap.size ∉ [B] := by simp; omega
  have hX := Lib.hid (fun W (R : Rs W N B a len cap zs p false false) => byte_any R)
  have hv := byte_bd R p
  have hvw : IntKind.u32.wrap (zs.getD p 0) = zs.getD p 0 := by rw [IntKind.wrap_u32]; omega
  generalize zs.getD p 0 = v at *
  generalize nx zs p 1 = q at *
  generalize so zs p 1 false = s at *
  have hI := Lib.hid (fun W => imm_any v W)
  go_enter Tryd.func35, Tryd.ntmps35
  go_upto_region 1 with fail
  generalize (w.alloc (.cells (op6 o) 26)).alloc (.cells z16 28) = w1 at *
  rw [← hs]
  generalize w.alloc (.cells (op6 o) 26) = w0 at *
  clear hs
  have c3 := F.r.c3
  have f3 := F.r.blk.fr 3
  go_upto_region 4 with fail
  have F2 := F.setBad false
  have kO2 := kO1.other 3 (.bool false) (M := B) (by omega)
  generalize w1.setCell ⟨B, 3, none⟩ (.bool false) = w2 at *
  clear c3 f3
  have c3 := F2.r.c3
  go_upto_region 6 with fail
  clear c3
  have FD := F2.drew
  have kD := kO2.drew
  refine wp_region_held_drew (S := fun W => OX w0 W N B a len cap zs false w.heap.size (o)) (by kernel_rfl) ⟨⟨_, _, z16, z16_size, FD⟩, kD⟩ (fun hHeld => ?_)
  generalize w2.drew = wd at *
  refine wpAnyH_take (i := 0) (v := opV (o)) rfl (by kernel_rfl) (by kernel_rfl) (by kernel_rfl) (fun _ _ _ h => h) (Or.inl ⟨by kernel_rfl, ?_⟩) hHeld ?_
  · intro W hS
    exact run_load_row (by rfl) (by rfl) 26 _ (0, 0) _ hS.k.h Tryd.underlying26 rfl (szOp onZ)
  simp only [Act.put, List.setIfInBounds_toArray, List.set_cons_zero, List.set_cons_succ]
  refine wpAnyH_take (i := 1) (v := ?_) rfl (by kernel_rfl) (by kernel_rfl) (by kernel_rfl) (fun _ _ _ h => h) (Or.inl ⟨by kernel_rfl, ?_⟩) hHeld ?_
  rotate_left
  · intro W hS
    go_simp
    try rfl
  simp only [Act.put, List.setIfInBounds_toArray, List.set_cons_zero, List.set_cons_succ, List.getElem_toArray, List.getElem_cons_succ, List.getElem_cons_zero]
  refine wpAnyH_ready (rs := [2]) (by kernel_rfl) (by simp) ?_
  refine AllReadyH.cons rfl (fun K hK => ?_) AllReadyH.nil
  go_simp
  with_reducible refine (hX.out _ FD.r).mono ?_
  rintro e wd2 ⟨rfl, RR2, bb2⟩
  have FD2 := FD.read RR2 bb2
  have kD2 := kD.but bb2 kD.lt hBK
  refine hK.out _ _ ⟨⟨_, _, z16, z16_size, FD2⟩, kD2⟩ (fun _ => ?_)
  clear hK K
  try simp only [Act.put, List.setIfInBounds_toArray, List.set_cons_zero, List.set_cons_succ]
  refine wpAnyH_take (i := 3) (v := ?_) rfl (by kernel_rfl) (by kernel_rfl) (by kernel_rfl) (fun _ _ _ h => h) (Or.inl ⟨by kernel_rfl, ?_⟩) ⟨⟨_, _, z16, z16_size, FD2⟩, kD2⟩ ?_
  rotate_left
  · intro W hS
    go_simp
    try rfl
  simp only [Act.put, List.setIfInBounds_toArray, List.set_cons_zero, List.set_cons_succ, List.getElem_toArray, List.getElem_cons_succ, List.getElem_cons_zero]
  refine wpAnyH_ready (rs := [4]) (by kernel_rfl) (by simp) ?_
  refine AllReadyH.cons rfl (fun K hK => ?_) AllReadyH.nil
  go_simp
  with_reducible refine (hI.out _).mono ?_
  rintro e wd4 ⟨rfl, bb4⟩
  have FD4 := FD2.below bb4
  have kD4 := kD2.below bb4 kD2.lt
  refine hK.out _ _ ⟨⟨_, _, z16, z16_size, FD4⟩, kD4⟩ (fun _ => ?_)
  clear hK K
  try simp only [Act.put, List.setIfInBounds_toArray, List.set_cons_zero, List.set_cons_succ]
  refine wpAnyH_take (i := 5) (v := ?_) rfl (by kernel_rfl) (by kernel_rfl) (by kernel_rfl) (fun _ _ _ h => h) (Or.inl ⟨by kernel_rfl, ?_⟩) ⟨⟨_, _, z16, z16_size, FD4⟩, kD4⟩ ?_
  rotate_left
  · intro W hS
    go_simp
    try rfl
  simp only [Act.put, List.setIfInBounds_toArray, List.set_cons_zero, List.set_cons_succ, List.getElem_toArray, List.getElem_cons_succ, List.getElem_cons_zero]
  refine wpAnyH_ready (rs := [6]) (by kernel_rfl) (by simp) ?_
  refine AllReadyH.cons rfl (fun K hK => ?_) AllReadyH.nil
  rw [if_pos (by kernel_rfl)]
  refine wp_store_row 28 _ _ rfl w0.heap.size (in16 ⟨2, 0, o, onImm v, false, 0⟩) rfl rfl 28 z16 FD4.z.h (szIn ⟨2, 0, o, onImm v, false, 0⟩) z16_size (in16_one _) ?_
  have FZ := FD4.done (FD4.z.row (in16 ⟨2, 0, o, onImm v, false, 0⟩)) (But.row1 _ _ _)
  have kZ := kD4.rowOther (M := w0.heap.size) (in16 ⟨2, 0, o, onImm v, false, 0⟩) (by omega)
  refine hK.out _ _ ⟨⟨_, _, in16 ⟨2, 0, o, onImm v, false, 0⟩, in16_size _, FZ⟩, kZ⟩ (fun _ => ?_)
  clear hK K
  try simp only [Act.put, List.setIfInBounds_toArray, List.set_cons_zero, List.set_cons_succ, List.getElem_toArray, List.getElem_cons_succ, List.getElem_cons_zero]
  refine wpAnyH_take (i := 7) (v := ?_) rfl (by kernel_rfl) (by kernel_rfl) (by kernel_rfl) (fun _ _ _ h => h) (Or.inl ⟨by kernel_rfl, ?_⟩) ⟨⟨_, _, in16 ⟨2, 0, o, onImm v, false, 0⟩, in16_size _, FZ⟩, kZ⟩ ?_
  rotate_left
  · intro W hS
    go_simp
    try rfl
  simp only [Act.put, List.setIfInBounds_toArray, List.set_cons_zero, List.set_cons_succ, List.getElem_toArray, List.getElem_cons_succ, List.getElem_cons_zero]
  refine wpAnyH_done (by kernel_rfl) ?_ _
  go_wp2_with fail
  exact bodyPost_ret (v := .tuple #[inV ⟨2, 0, o, onImm v, false, 0⟩, .bool (false)]) (results_ct rfl _ _ w0.heap.size 28 (in16 ⟨2, 0, o, onImm v, false, 0⟩) (0, 0) _ _ rfl rfl FZ.z.h Tryd.underlying28 rfl (szIn inZ)) rfl ⟨rfl, FZ.r, (But.of k01 [B]).trans (FZ.k.mono k01.size (fun _ h => .inl h))⟩
set_option maxRecDepth 100000 in
set_option maxHeartbeats 4000000 in
theorem rest_c7 (R : Rs w N B a len cap zs p false false) (o : On)  :
    Calls Tryd.prog 35 #[rp B, .int .u8 199, opV o, .int .i64 0] w fun e w' => e = .returned (.tuple #[inV ⟨1, 0, o, onImm (le4 zs p), false, 0⟩, .bool (false)]) ∧ Rs w' N B a len cap zs (nx zs p 4) (so zs p 4 false) false ∧ But [B] w.heap.size w w' := by
  have hB0 := R.lt
  have k01 := (Below.refl w.heap.size w).alloc (Nat.le_refl _) (.cells (op6 o) 26)
  have R1 := R.alloc (.cells (op6 o) 26)
  have kO := Blk.new w 26 (op6 o)
  have hKw : w.heap.size < (w.alloc (.cells (op6 o) 26)).heap.size := kO.lt
  have hs : (w.alloc (.cells (op6 o) 26)).heap.size = w.heap.size + 1 := by simp
  have F := RF.start R1 28 z16
  have kO1 := kO.alloc (.cells z16 28)
  have hBK : w.heap.size ∉ [B] := by simp; omega
  have hX := Lib.hid (fun W (R : Rs W N B a len cap zs p false false) => word_ref R)
  generalize le4 zs p = v at *
  generalize nx zs p 4 = q at *
  generalize so zs p 4 false = s at *
  have hI := Lib.hid (fun W => imm_any v W)
  go_enter Tryd.func35, Tryd.ntmps35
  go_upto_region 1 with fail
  generalize (w.alloc (.cells (op6 o) 26)).alloc (.cells z16 28) = w1 at *
  rw [← hs]
  generalize w.alloc (.cells (op6 o) 26) = w0 at *
  clear hs
  have c3 := F.r.c3
  have f3 := F.r.blk.fr 3
  go_upto_region 9 with fail
  have F2 := F.setBad false
  have kO2 := kO1.other 3 (.bool false) (M := B) (by omega)
  generalize w1.setCell ⟨B, 3, none⟩ (.bool false) = w2 at *
  clear c3 f3
  have c3 := F2.r.c3
  go_upto_region 11 with fail
  clear c3
  have FD := F2.drew
  have kD := kO2.drew
  refine wp_region_held_drew (S := fun W => OX w0 W N B a len cap zs false w.heap.size (o)) (by kernel_rfl) ⟨⟨_, _, z16, z16_size, FD⟩, kD⟩ (fun hHeld => ?_)
  generalize w2.drew = wd at *
  refine wpAnyH_take (i := 0) (v := opV (o)) rfl (by kernel_rfl) (by kernel_rfl) (by kernel_rfl) (fun _ _ _ h => h) (Or.inl ⟨by kernel_rfl, ?_⟩) hHeld ?_
  · intro W hS
    exact run_load_row (by rfl) (by rfl) 26 _ (0, 0) _ hS.k.h Tryd.underlying26 rfl (szOp onZ)
  simp only [Act.put, List.setIfInBounds_toArray, List.set_cons_zero, List.set_cons_succ]
  refine wpAnyH_take (i := 1) (v := ?_) rfl (by kernel_rfl) (by kernel_rfl) (by kernel_rfl) (fun _ _ _ h => h) (Or.inl ⟨by kernel_rfl, ?_⟩) hHeld ?_
  rotate_left
  · intro W hS
    go_simp
    try rfl
  simp only [Act.put, List.setIfInBounds_toArray, List.set_cons_zero, List.set_cons_succ, List.getElem_toArray, List.getElem_cons_succ, List.getElem_cons_zero]
  refine wpAnyH_ready (rs := [2]) (by kernel_rfl) (by simp) ?_
  refine AllReadyH.cons rfl (fun K hK => ?_) AllReadyH.nil
  go_simp
  with_reducible refine (hX.out _ FD.r).mono ?_
  rintro e wd2 ⟨rfl, RR2, bb2⟩
  have FD2 := FD.read RR2 bb2
  have kD2 := kD.but bb2 kD.lt hBK
  refine hK.out _ _ ⟨⟨_, _, z16, z16_size, FD2⟩, kD2⟩ (fun _ => ?_)
  clear hK K
  try simp only [Act.put, List.setIfInBounds_toArray, List.set_cons_zero, List.set_cons_succ]
  refine wpAnyH_ready (rs := [3]) (by kernel_rfl) (by simp) ?_
  refine AllReadyH.cons rfl (fun K hK => ?_) AllReadyH.nil
  go_simp
  with_reducible refine (hI.out _).mono ?_
  rintro e wd3 ⟨rfl, bb3⟩
  have FD3 := FD2.below bb3
  have kD3 := kD2.below bb3 kD2.lt
  refine hK.out _ _ ⟨⟨_, _, z16, z16_size, FD3⟩, kD3⟩ (fun _ => ?_)
  clear hK K
  try simp only [Act.put, List.setIfInBounds_toArray, List.set_cons_zero, List.set_cons_succ]
  refine wpAnyH_take (i := 4) (v := ?_) rfl (by kernel_rfl) (by kernel_rfl) (by kernel_rfl) (fun _ _ _ h => h) (Or.inl ⟨by kernel_rfl, ?_⟩) ⟨⟨_, _, z16, z16_size, FD3⟩, kD3⟩ ?_
  rotate_left
  · intro W hS
    go_simp
    try rfl
  simp only [Act.put, List.setIfInBounds_toArray, List.set_cons_zero, List.set_cons_succ, List.getElem_toArray, List.getElem_cons_succ, List.getElem_cons_zero]
  refine wpAnyH_ready (rs := [5]) (by kernel_rfl) (by simp) ?_
  refine AllReadyH.cons rfl (fun K hK => ?_) AllReadyH.nil
  rw [if_pos (by kernel_rfl)]
  refine wp_store_row 28 _ _ rfl w0.heap.size (in16 ⟨1, 0, o, onImm v, false, 0⟩) rfl rfl 28 z16 FD3.z.h (szIn ⟨1, 0, o, onImm v, false, 0⟩) z16_size (in16_one _) ?_
  have FZ := FD3.done (FD3.z.row (in16 ⟨1, 0, o, onImm v, false, 0⟩)) (But.row1 _ _ _)
  have kZ := kD3.rowOther (M := w0.heap.size) (in16 ⟨1, 0, o, onImm v, false, 0⟩) (by omega)
  refine hK.out _ _ ⟨⟨_, _, in16 ⟨1, 0, o, onImm v, false, 0⟩, in16_size _, FZ⟩, kZ⟩ (fun _ => ?_)
  clear hK K
  try simp only [Act.put, List.setIfInBounds_toArray, List.set_cons_zero, List.set_cons_succ, List.getElem_toArray, List.getElem_cons_succ, List.getElem_cons_zero]
  refine wpAnyH_take (i := 6) (v := ?_) rfl (by kernel_rfl) (by kernel_rfl) (by kernel_rfl) (fun _ _ _ h => h) (Or.inl ⟨by kernel_rfl, ?_⟩) ⟨⟨_, _, in16 ⟨1, 0, o, onImm v, false, 0⟩, in16_size _, FZ⟩, kZ⟩ ?_
  rotate_left
  · intro W hS
    go_simp
    try rfl
  simp only [Act.put, List.setIfInBounds_toArray, List.set_cons_zero, List.set_cons_succ, List.getElem_toArray, List.getElem_cons_succ, List.getElem_cons_zero]
  refine wpAnyH_done (by kernel_rfl) ?_ _
  go_wp2_with fail
  exact bodyPost_ret (v := .tuple #[inV ⟨1, 0, o, onImm v, false, 0⟩, .bool (false)]) (results_ct rfl _ _ w0.heap.size 28 (in16 ⟨1, 0, o, onImm v, false, 0⟩) (0, 0) _ _ rfl rfl FZ.z.h Tryd.underlying28 rfl (szIn inZ)) rfl ⟨rfl, FZ.r, (But.of k01 [B]).trans (FZ.k.mono k01.size (fun _ h => .inl h))⟩
set_option maxRecDepth 100000 in
set_option maxHeartbeats 4000000 in
theorem rest_dc (R : Rs w N B a len cap zs p false false) (o : On) {n : Int} (hn : 0 ≤ n ∧ n < 8) {t u : Bool} (ht : (nuN n == 0) = t) (hu : (o.k == 1) = u) :
    Calls Tryd.prog 35 #[rp B, .int .u8 220, opV o, .int .i64 n] w fun e w' => e = .returned (.tuple #[inV ⟨nuN n, 0, o, onZ, false, 0⟩, .bool (t || u)]) ∧ Rs w' N B a len cap zs (p) (false) false ∧ But [B] w.heap.size w w' := by
  have hB0 := R.lt
  have k01 := (Below.refl w.heap.size w).alloc (Nat.le_refl _) (.cells (op6 o) 26)
  have R1 := R.alloc (.cells (op6 o) 26)
  have kO := Blk.new w 26 (op6 o)
  have hKw : w.heap.size < (w.alloc (.cells (op6 o) 26)).heap.size := kO.lt
  have hs : (w.alloc (.cells (op6 o) 26)).heap.size = w.heap.size + 1 := by simp
  have F := RF.start R1 28 z16
  have kO1 := kO.alloc (.cells z16 28)
  have hBK : w.heap.size ∉ [B] := by simp; omega
  have hN := Lib.hid numbers_ref
  have i2 := ix_nu n hn
  generalize nuN n = op at *
  cases t
  · go_enter Tryd.func35, Tryd.ntmps35
    go_upto_region 1 with fail
    generalize (w.alloc (.cells (op6 o) 26)).alloc (.cells z16 28) = w1 at *
    rw [← hs]
    generalize w.alloc (.cells (op6 o) 26) = w0 at *
    clear hs
    go_upto_region 17 with fail
    have FD := F.drew
    have kD := kO1.drew
    refine wp_region_held_drew (S := fun W => OX w0 W N B a len cap zs false w.heap.size (o)) (by kernel_rfl) ⟨⟨_, _, z16, z16_size, FD⟩, kD⟩ (fun hHeld => ?_)
    generalize w1.drew = wd at *
    refine wpAnyH_take (i := 1) (v := ?_) rfl (by kernel_rfl) (by kernel_rfl) (by kernel_rfl) (fun _ _ _ h => h) (Or.inl ⟨by kernel_rfl, ?_⟩) hHeld ?_
    rotate_left
    · intro W hS
      go_simp
      try rfl
    simp only [Act.put, List.setIfInBounds_toArray, List.set_cons_zero, List.set_cons_succ, List.getElem_toArray, List.getElem_cons_succ, List.getElem_cons_zero]
    refine wpAnyH_take (i := 3) (v := opV (o)) rfl (by kernel_rfl) (by kernel_rfl) (by kernel_rfl) (fun _ _ _ h => h) (Or.inl ⟨by kernel_rfl, ?_⟩) hHeld ?_
    · intro W hS
      exact run_load_row (by rfl) (by rfl) 26 _ (0, 0) _ hS.k.h Tryd.underlying26 rfl (szOp onZ)
    simp only [Act.put, List.setIfInBounds_toArray, List.set_cons_zero, List.set_cons_succ]
    refine wpAnyH_take (i := 6) (v := ?_) rfl (by kernel_rfl) (by kernel_rfl) (by kernel_rfl) (fun _ _ _ h => h) (Or.inl ⟨by kernel_rfl, ?_⟩) hHeld ?_
    rotate_left
    · intro W hS
      go_simp
      try rfl
    simp only [Act.put, List.setIfInBounds_toArray, List.set_cons_zero, List.set_cons_succ, List.getElem_toArray, List.getElem_cons_succ, List.getElem_cons_zero]
    refine wpAnyH_ready (rs := [0]) (by kernel_rfl) (by simp) ?_
    refine AllReadyH.cons rfl (fun K hK => ?_) AllReadyH.nil
    go_simp
    with_reducible refine (hN.out _).mono ?_
    rintro e wd0 ⟨rfl, bb0⟩
    have FD0 := FD.below bb0
    have kD0 := kD.below bb0 kD.lt
    refine hK.out _ _ ⟨⟨_, _, z16, z16_size, FD0⟩, kD0⟩ (fun _ => ?_)
    clear hK K
    try simp only [Act.put, List.setIfInBounds_toArray, List.set_cons_zero, List.set_cons_succ]
    refine wpAnyH_take (i := 2) (v := ?_) rfl (by kernel_rfl) (by kernel_rfl) (by kernel_rfl) (fun _ _ _ h => h) (Or.inl ⟨by kernel_rfl, ?_⟩) ⟨⟨_, _, z16, z16_size, FD0⟩, kD0⟩ ?_
    rotate_left
    · intro W hS
      go_simp
      try rfl
    simp only [Act.put, List.setIfInBounds_toArray, List.set_cons_zero, List.set_cons_succ, List.getElem_toArray, List.getElem_cons_succ, List.getElem_cons_zero]
    refine wpAnyH_take (i := 4) (v := ?_) rfl (by kernel_rfl) (by kernel_rfl) (by kernel_rfl) (fun _ _ _ h => h) (Or.inl ⟨by kernel_rfl, ?_⟩) ⟨⟨_, _, z16, z16_size, FD0⟩, kD0⟩ ?_
    rotate_left
    · intro W hS
      go_simp
      try rfl
    simp only [Act.put, List.setIfInBounds_toArray, List.set_cons_zero, List.set_cons_succ, List.getElem_toArray, List.getElem_cons_succ, List.getElem_cons_zero]
    refine wpAnyH_ready (rs := [5]) (by kernel_rfl) (by simp) ?_
    refine AllReadyH.cons rfl (fun K hK => ?_) AllReadyH.nil
    go_simp
    with_reducible refine (hN.out _).mono ?_
    rintro e wd5 ⟨rfl, bb5⟩
    have FD5 := FD0.below bb5
    have kD5 := kD0.below bb5 kD0.lt
    refine hK.out _ _ ⟨⟨_, _, z16, z16_size, FD5⟩, kD5⟩ (fun _ => ?_)
    clear hK K
    try simp only [Act.put, List.setIfInBounds_toArray, List.set_cons_zero, List.set_cons_succ]
    refine wpAnyH_take (i := 7) (v := ?_) rfl (by kernel_rfl) (by kernel_rfl) (by kernel_rfl) (fun _ _ _ h => h) (Or.inl ⟨by kernel_rfl, ?_⟩) ⟨⟨_, _, z16, z16_size, FD5⟩, kD5⟩ ?_
    rotate_left
    · intro W hS
      go_simp
      try rfl
    simp only [Act.put, List.setIfInBounds_toArray, List.set_cons_zero, List.set_cons_succ, List.getElem_toArray, List.getElem_cons_succ, List.getElem_cons_zero]
    refine wpAnyH_take (i := 8) (v := ?_) rfl (by kernel_rfl) (by kernel_rfl) (by kernel_rfl) (fun _ _ _ h => h) (Or.inl ⟨by kernel_rfl, ?_⟩) ⟨⟨_, _, z16, z16_size, FD5⟩, kD5⟩ ?_
    rotate_left
    · intro W hS
      go_simp
      try rfl
    simp only [Act.put, List.setIfInBounds_toArray, List.set_cons_zero, List.set_cons_succ, List.getElem_toArray, List.getElem_cons_succ, List.getElem_cons_zero]
    refine wpAnyH_take (i := 9) (v := ?_) rfl (by kernel_rfl) (by kernel_rfl) (by kernel_rfl) (fun _ _ _ h => h) (Or.inl ⟨by kernel_rfl, ?_⟩) ⟨⟨_, _, z16, z16_size, FD5⟩, kD5⟩ ?_
    rotate_left
    · intro W hS
      go_simp
      try rfl
    simp only [Act.put, List.setIfInBounds_toArray, List.set_cons_zero, List.set_cons_succ, List.getElem_toArray, List.getElem_cons_succ, List.getElem_cons_zero]
    refine wpAnyH_take (i := 10) (v := ?_) rfl (by kernel_rfl) (by kernel_rfl) (by kernel_rfl) (fun _ _ _ h => h) (Or.inl ⟨by kernel_rfl, ?_⟩) ⟨⟨_, _, z16, z16_size, FD5⟩, kD5⟩ ?_
    rotate_left
    · intro W hS
      go_simp
      try rfl
    simp only [Act.put, List.setIfInBounds_toArray, List.set_cons_zero, List.set_cons_succ, List.getElem_toArray, List.getElem_cons_succ, List.getElem_cons_zero]
    refine wpAnyH_take (i := 11) (v := ?_) rfl (by kernel_rfl) (by kernel_rfl) (by kernel_rfl) (fun _ _ _ h => h) (Or.inl ⟨by kernel_rfl, ?_⟩) ⟨⟨_, _, z16, z16_size, FD5⟩, kD5⟩ ?_
    rotate_left
    · intro W hS
      have c0 := hS.k.cell (i := 0) (v := .int .i64 o.k) rfl
      go_simp
      try rfl
    simp only [Act.put, List.setIfInBounds_toArray, List.set_cons_zero, List.set_cons_succ, List.getElem_toArray, List.getElem_cons_succ, List.getElem_cons_zero]
    refine wpAnyH_take (i := 12) (v := ?_) rfl (by kernel_rfl) (by kernel_rfl) (by kernel_rfl) (fun _ _ _ h => h) (Or.inl ⟨by kernel_rfl, ?_⟩) ⟨⟨_, _, z16, z16_size, FD5⟩, kD5⟩ ?_
    rotate_left
    · intro W hS
      go_simp
      try rfl
    simp only [Act.put, List.setIfInBounds_toArray, List.set_cons_zero, List.set_cons_succ, List.getElem_toArray, List.getElem_cons_succ, List.getElem_cons_zero]
    refine wpAnyH_take (i := 13) (v := ?_) rfl (by kernel_rfl) (by kernel_rfl) (by kernel_rfl) (fun _ _ _ h => h) (Or.inl ⟨by kernel_rfl, ?_⟩) ⟨⟨_, _, z16, z16_size, FD5⟩, kD5⟩ ?_
    rotate_left
    · intro W hS
      go_simp
      try rfl
    simp only [Act.put, List.setIfInBounds_toArray, List.set_cons_zero, List.set_cons_succ, List.getElem_toArray, List.getElem_cons_succ, List.getElem_cons_zero]
    refine wpAnyH_ready (rs := [14]) (by kernel_rfl) (by simp) ?_
    refine AllReadyH.cons rfl (fun K hK => ?_) AllReadyH.nil
    rw [if_pos (by kernel_rfl)]
    refine wp_store_row 28 _ _ rfl w0.heap.size (in16 ⟨op, 0, o, onZ, false, 0⟩) rfl rfl 28 z16 FD5.z.h (szIn ⟨op, 0, o, onZ, false, 0⟩) z16_size (in16_one _) ?_
    have FZ := FD5.done (FD5.z.row (in16 ⟨op, 0, o, onZ, false, 0⟩)) (But.row1 _ _ _)
    have kZ := kD5.rowOther (M := w0.heap.size) (in16 ⟨op, 0, o, onZ, false, 0⟩) (by omega)
    refine hK.out _ _ ⟨⟨_, _, in16 ⟨op, 0, o, onZ, false, 0⟩, in16_size _, FZ⟩, kZ⟩ (fun _ => ?_)
    clear hK K
    try simp only [Act.put, List.setIfInBounds_toArray, List.set_cons_zero, List.set_cons_succ, List.getElem_toArray, List.getElem_cons_succ, List.getElem_cons_zero]
    refine wpAnyH_take (i := 15) (v := ?_) rfl (by kernel_rfl) (by kernel_rfl) (by kernel_rfl) (fun _ _ _ h => h) (Or.inl ⟨by kernel_rfl, ?_⟩) ⟨⟨_, _, in16 ⟨op, 0, o, onZ, false, 0⟩, in16_size _, FZ⟩, kZ⟩ ?_
    rotate_left
    · intro W hS
      go_simp
      try rfl
    simp only [Act.put, List.setIfInBounds_toArray, List.set_cons_zero, List.set_cons_succ, List.getElem_toArray, List.getElem_cons_succ, List.getElem_cons_zero]
    refine wpAnyH_done (by kernel_rfl) ?_ _
    go_wp2_with fail
    exact bodyPost_ret (v := .tuple #[inV ⟨op, 0, o, onZ, false, 0⟩, .bool (u)]) (results_ct rfl _ _ w0.heap.size 28 (in16 ⟨op, 0, o, onZ, false, 0⟩) (0, 0) _ _ rfl rfl FZ.z.h Tryd.underlying28 rfl (szIn inZ)) rfl ⟨rfl, FZ.r, (But.of k01 [B]).trans (FZ.k.mono k01.size (fun _ h => .inl h))⟩
  · go_enter Tryd.func35, Tryd.ntmps35
    go_upto_region 1 with fail
    generalize (w.alloc (.cells (op6 o) 26)).alloc (.cells z16 28) = w1 at *
    rw [← hs]
    generalize w.alloc (.cells (op6 o) 26) = w0 at *
    clear hs
    go_upto_region 17 with fail
    have FD := F.drew
    have kD := kO1.drew
    refine wp_region_held_drew (S := fun W => OX w0 W N B a len cap zs false w.heap.size (o)) (by kernel_rfl) ⟨⟨_, _, z16, z16_size, FD⟩, kD⟩ (fun hHeld => ?_)
    generalize w1.drew = wd at *
    refine wpAnyH_take (i := 1) (v := ?_) rfl (by kernel_rfl) (by kernel_rfl) (by kernel_rfl) (fun _ _ _ h => h) (Or.inl ⟨by kernel_rfl, ?_⟩) hHeld ?_
    rotate_left
    · intro W hS
      go_simp
      try rfl
    simp only [Act.put, List.setIfInBounds_toArray, List.set_cons_zero, List.set_cons_succ, List.getElem_toArray, List.getElem_cons_succ, List.getElem_cons_zero]
    refine wpAnyH_take (i := 3) (v := opV (o)) rfl (by kernel_rfl) (by kernel_rfl) (by kernel_rfl) (fun _ _ _ h => h) (Or.inl ⟨by kernel_rfl, ?_⟩) hHeld ?_
    · intro W hS
      exact run_load_row (by rfl) (by rfl) 26 _ (0, 0) _ hS.k.h Tryd.underlying26 rfl (szOp onZ)
    simp only [Act.put, List.setIfInBounds_toArray, List.set_cons_zero, List.set_cons_succ]
    refine wpAnyH_take (i := 6) (v := ?_) rfl (by kernel_rfl) (by kernel_rfl) (by kernel_rfl) (fun _ _ _ h => h) (Or.inl ⟨by kernel_rfl, ?_⟩) hHeld ?_
    rotate_left
    · intro W hS
      go_simp
      try rfl
    simp only [Act.put, List.setIfInBounds_toArray, List.set_cons_zero, List.set_cons_succ, List.getElem_toArray, List.getElem_cons_succ, List.getElem_cons_zero]
    refine wpAnyH_ready (rs := [0]) (by kernel_rfl) (by simp) ?_
    refine AllReadyH.cons rfl (fun K hK => ?_) AllReadyH.nil
    go_simp
    with_reducible refine (hN.out _).mono ?_
    rintro e wd0 ⟨rfl, bb0⟩
    have FD0 := FD.below bb0
    have kD0 := kD.below bb0 kD.lt
    refine hK.out _ _ ⟨⟨_, _, z16, z16_size, FD0⟩, kD0⟩ (fun _ => ?_)
    clear hK K
    try simp only [Act.put, List.setIfInBounds_toArray, List.set_cons_zero, List.set_cons_succ]
    refine wpAnyH_take (i := 2) (v := ?_) rfl (by kernel_rfl) (by kernel_rfl) (by kernel_rfl) (fun _ _ _ h => h) (Or.inl ⟨by kernel_rfl, ?_⟩) ⟨⟨_, _, z16, z16_size, FD0⟩, kD0⟩ ?_
    rotate_left
    · intro W hS
      go_simp
      try rfl
    simp only [Act.put, List.setIfInBounds_toArray, List.set_cons_zero, List.set_cons_succ, List.getElem_toArray, List.getElem_cons_succ, List.getElem_cons_zero]
    refine wpAnyH_take (i := 4) (v := ?_) rfl (by kernel_rfl) (by kernel_rfl) (by kernel_rfl) (fun _ _ _ h => h) (Or.inl ⟨by kernel_rfl, ?_⟩) ⟨⟨_, _, z16, z16_size, FD0⟩, kD0⟩ ?_
    rotate_left
    · intro W hS
      go_simp
      try rfl
    simp only [Act.put, List.setIfInBounds_toArray, List.set_cons_zero, List.set_cons_succ, List.getElem_toArray, List.getElem_cons_succ, List.getElem_cons_zero]
    refine wpAnyH_ready (rs := [5]) (by kernel_rfl) (by simp) ?_
    refine AllReadyH.cons rfl (fun K hK => ?_) AllReadyH.nil
    go_simp
    with_reducible refine (hN.out _).mono ?_
    rintro e wd5 ⟨rfl, bb5⟩
    have FD5 := FD0.below bb5
    have kD5 := kD0.below bb5 kD0.lt
    refine hK.out _ _ ⟨⟨_, _, z16, z16_size, FD5⟩, kD5⟩ (fun _ => ?_)
    clear hK K
    try simp only [Act.put, List.setIfInBounds_toArray, List.set_cons_zero, List.set_cons_succ]
    refine wpAnyH_take (i := 7) (v := ?_) rfl (by kernel_rfl) (by kernel_rfl) (by kernel_rfl) (fun _ _ _ h => h) (Or.inl ⟨by kernel_rfl, ?_⟩) ⟨⟨_, _, z16, z16_size, FD5⟩, kD5⟩ ?_
    rotate_left
    · intro W hS
      go_simp
      try rfl
    simp only [Act.put, List.setIfInBounds_toArray, List.set_cons_zero, List.set_cons_succ, List.getElem_toArray, List.getElem_cons_succ, List.getElem_cons_zero]
    refine wpAnyH_take (i := 8) (v := ?_) rfl (by kernel_rfl) (by kernel_rfl) (by kernel_rfl) (fun _ _ _ h => h) (Or.inl ⟨by kernel_rfl, ?_⟩) ⟨⟨_, _, z16, z16_size, FD5⟩, kD5⟩ ?_
    rotate_left
    · intro W hS
      go_simp
      try rfl
    simp only [Act.put, List.setIfInBounds_toArray, List.set_cons_zero, List.set_cons_succ, List.getElem_toArray, List.getElem_cons_succ, List.getElem_cons_zero]
    refine wpAnyH_take (i := 9) (v := ?_) rfl (by kernel_rfl) (by kernel_rfl) (by kernel_rfl) (fun _ _ _ h => h) (Or.inl ⟨by kernel_rfl, ?_⟩) ⟨⟨_, _, z16, z16_size, FD5⟩, kD5⟩ ?_
    rotate_left
    · intro W hS
      go_simp
      try rfl
    simp only [Act.put, List.setIfInBounds_toArray, List.set_cons_zero, List.set_cons_succ, List.getElem_toArray, List.getElem_cons_succ, List.getElem_cons_zero]
    refine wpAnyH_take (i := 10) (v := undef) rfl (by kernel_rfl) (by kernel_rfl) (by kernel_rfl) (fun _ _ _ h => h) (Or.inr ⟨by kernel_rfl, rfl⟩) ⟨⟨_, _, z16, z16_size, FD5⟩, kD5⟩ ?_
    simp only [Act.put, List.setIfInBounds_toArray, List.set_cons_zero, List.set_cons_succ]
    refine wpAnyH_take (i := 11) (v := undef) rfl (by kernel_rfl) (by kernel_rfl) (by kernel_rfl) (fun _ _ _ h => h) (Or.inr ⟨by kernel_rfl, rfl⟩) ⟨⟨_, _, z16, z16_size, FD5⟩, kD5⟩ ?_
    simp only [Act.put, List.setIfInBounds_toArray, List.set_cons_zero, List.set_cons_succ]
    refine wpAnyH_take (i := 12) (v := undef) rfl (by kernel_rfl) (by kernel_rfl) (by kernel_rfl) (fun _ _ _ h => h) (Or.inr ⟨by kernel_rfl, rfl⟩) ⟨⟨_, _, z16, z16_size, FD5⟩, kD5⟩ ?_
    simp only [Act.put, List.setIfInBounds_toArray, List.set_cons_zero, List.set_cons_succ]
    refine wpAnyH_take (i := 13) (v := ?_) rfl (by kernel_rfl) (by kernel_rfl) (by kernel_rfl) (fun _ _ _ h => h) (Or.inl ⟨by kernel_rfl, ?_⟩) ⟨⟨_, _, z16, z16_size, FD5⟩, kD5⟩ ?_
    rotate_left
    · intro W hS
      go_simp
      try rfl
    simp only [Act.put, List.setIfInBounds_toArray, List.set_cons_zero, List.set_cons_succ, List.getElem_toArray, List.getElem_cons_succ, List.getElem_cons_zero]
    refine wpAnyH_ready (rs := [14]) (by kernel_rfl) (by simp) ?_
    refine AllReadyH.cons rfl (fun K hK => ?_) AllReadyH.nil
    rw [if_pos (by kernel_rfl)]
    refine wp_store_row 28 _ _ rfl w0.heap.size (in16 ⟨op, 0, o, onZ, false, 0⟩) rfl rfl 28 z16 FD5.z.h (szIn ⟨op, 0, o, onZ, false, 0⟩) z16_size (in16_one _) ?_
    have FZ := FD5.done (FD5.z.row (in16 ⟨op, 0, o, onZ, false, 0⟩)) (But.row1 _ _ _)
    have kZ := kD5.rowOther (M := w0.heap.size) (in16 ⟨op, 0, o, onZ, false, 0⟩) (by omega)
    refine hK.out _ _ ⟨⟨_, _, in16 ⟨op, 0, o, onZ, false, 0⟩, in16_size _, FZ⟩, kZ⟩ (fun _ => ?_)
    clear hK K
    try simp only [Act.put, List.setIfInBounds_toArray, List.set_cons_zero, List.set_cons_succ, List.getElem_toArray, List.getElem_cons_succ, List.getElem_cons_zero]
    refine wpAnyH_take (i := 15) (v := ?_) rfl (by kernel_rfl) (by kernel_rfl) (by kernel_rfl) (fun _ _ _ h => h) (Or.inl ⟨by kernel_rfl, ?_⟩) ⟨⟨_, _, in16 ⟨op, 0, o, onZ, false, 0⟩, in16_size _, FZ⟩, kZ⟩ ?_
    rotate_left
    · intro W hS
      go_simp
      try rfl
    simp only [Act.put, List.setIfInBounds_toArray, List.set_cons_zero, List.set_cons_succ, List.getElem_toArray, List.getElem_cons_succ, List.getElem_cons_zero]
    refine wpAnyH_done (by kernel_rfl) ?_ _
    go_wp2_with fail
    exact bodyPost_ret (v := .tuple #[inV ⟨op, 0, o, onZ, false, 0⟩, .bool (true)]) (results_ct rfl _ _ w0.heap.size 28 (in16 ⟨op, 0, o, onZ, false, 0⟩) (0, 0) _ _ rfl rfl FZ.z.h Tryd.underlying28 rfl (szIn inZ)) rfl ⟨rfl, FZ.r, (But.of k01 [B]).trans (FZ.k.mono k01.size (fun _ h => .inl h))⟩
set_option maxRecDepth 100000 in
set_option maxHeartbeats 4000000 in
theorem rest_d9_a (R : Rs w N B a len cap zs p false false) (o : On) (h0 : ∀ W, (Op.equalIn 10000 26 (opV o) (opV (onReg 0))).run Tryd.prog W = .ok true W) :
    Calls Tryd.prog 35 #[rp B, .int .u8 217, opV o, .int .i64 4] w fun e w' => e = .returned (.tuple #[inV ⟨51, 0, onZ, onZ, false, 0⟩, .bool (false)]) ∧ Rs w' N B a len cap zs (p) (false) false ∧ But [B] w.heap.size w w' := by
  have hB0 := R.lt
  have k01 := (Below.refl w.heap.size w).alloc (Nat.le_refl _) (.cells (op6 o) 26)
  have R1 := R.alloc (.cells (op6 o) 26)
  have kO := Blk.new w 26 (op6 o)
  have hKw : w.heap.size < (w.alloc (.cells (op6 o) 26)).heap.size := kO.lt
  have hs : (w.alloc (.cells (op6 o) 26)).heap.size = w.heap.size + 1 := by simp
  have F := RF.start R1 28 z16
  have kO1 := kO.alloc (.cells z16 28)
  have hBK : w.heap.size ∉ [B] := by simp; omega
  have hR0 := Lib.hid (fun W => reg_any 0 W)
  have hR1 := Lib.hid (fun W => reg_any 1 W)
  go_enter Tryd.func35, Tryd.ntmps35
  go_upto_region 1 with fail
  generalize (w.alloc (.cells (op6 o) 26)).alloc (.cells z16 28) = w1 at *
  rw [← hs]
  generalize w.alloc (.cells (op6 o) 26) = w0 at *
  clear hs
  go_upto_region 13 with fail
  have FD := F.drew
  have kD := kO1.drew
  refine wp_region_held_drew (S := fun W => OX w0 W N B a len cap zs false w.heap.size (o)) (by kernel_rfl) ⟨⟨_, _, z16, z16_size, FD⟩, kD⟩ (fun hHeld => ?_)
  generalize w1.drew = wd at *
  refine wpAnyH_take (i := 0) (v := opV (o)) rfl (by kernel_rfl) (by kernel_rfl) (by kernel_rfl) (fun _ _ _ h => h) (Or.inl ⟨by kernel_rfl, ?_⟩) hHeld ?_
  · intro W hS
    exact run_load_row (by rfl) (by rfl) 26 _ (0, 0) _ hS.k.h Tryd.underlying26 rfl (szOp onZ)
  simp only [Act.put, List.setIfInBounds_toArray, List.set_cons_zero, List.set_cons_succ]
  refine wpAnyH_ready (rs := [1]) (by kernel_rfl) (by simp) ?_
  refine AllReadyH.cons rfl (fun K hK => ?_) AllReadyH.nil
  go_simp
  with_reducible refine (hR0.out _).mono ?_
  rintro e wd1 ⟨rfl, bb1⟩
  have FD1 := FD.below bb1
  have kD1 := kD.below bb1 kD.lt
  refine hK.out _ _ ⟨⟨_, _, z16, z16_size, FD1⟩, kD1⟩ (fun _ => ?_)
  clear hK K
  try simp only [Act.put, List.setIfInBounds_toArray, List.set_cons_zero, List.set_cons_succ]
  refine wpAnyH_take (i := 2) (v := ?_) rfl (by kernel_rfl) (by kernel_rfl) (by kernel_rfl) (fun _ _ _ h => h) (Or.inl ⟨by kernel_rfl, ?_⟩) ⟨⟨_, _, z16, z16_size, FD1⟩, kD1⟩ ?_
  rotate_left
  · intro W hS
    go_simp
    try rfl
  simp only [Act.put, List.setIfInBounds_toArray, List.set_cons_zero, List.set_cons_succ, List.getElem_toArray, List.getElem_cons_succ, List.getElem_cons_zero]
  refine wpAnyH_take (i := 3) (v := ?_) rfl (by kernel_rfl) (by kernel_rfl) (by kernel_rfl) (fun _ _ _ h => h) (Or.inl ⟨by kernel_rfl, ?_⟩) ⟨⟨_, _, z16, z16_size, FD1⟩, kD1⟩ ?_
  rotate_left
  · intro W hS
    go_simp
    try rfl
  simp only [Act.put, List.setIfInBounds_toArray, List.set_cons_zero, List.set_cons_succ, List.getElem_toArray, List.getElem_cons_succ, List.getElem_cons_zero]
  refine wpAnyH_take (i := 4) (v := ?_) rfl (by kernel_rfl) (by kernel_rfl) (by kernel_rfl) (fun _ _ _ h => h) (Or.inl ⟨by kernel_rfl, ?_⟩) ⟨⟨_, _, z16, z16_size, FD1⟩, kD1⟩ ?_
  rotate_left
  · intro W hS
    go_simp
    try rfl
  simp only [Act.put, List.setIfInBounds_toArray, List.set_cons_zero, List.set_cons_succ, List.getElem_toArray, List.getElem_cons_succ, List.getElem_cons_zero]
  refine wpAnyH_take (i := 5) (v := ?_) rfl (by kernel_rfl) (by kernel_rfl) (by kernel_rfl) (fun _ _ _ h => h) (Or.inl ⟨by kernel_rfl, ?_⟩) ⟨⟨_, _, z16, z16_size, FD1⟩, kD1⟩ ?_
  rotate_left
  · intro W hS
    go_simp
    try rfl
  simp only [Act.put, List.setIfInBounds_toArray, List.set_cons_zero, List.set_cons_succ, List.getElem_toArray, List.getElem_cons_succ, List.getElem_cons_zero]
  refine wpAnyH_take (i := 6) (v := ?_) rfl (by kernel_rfl) (by kernel_rfl) (by kernel_rfl) (fun _ _ _ h => h) (Or.inl ⟨by kernel_rfl, ?_⟩) ⟨⟨_, _, z16, z16_size, FD1⟩, kD1⟩ ?_
  rotate_left
  · intro W hS
    go_simp
    try rfl
  simp only [Act.put, List.setIfInBounds_toArray, List.set_cons_zero, List.set_cons_succ, List.getElem_toArray, List.getElem_cons_succ, List.getElem_cons_zero]
  refine wpAnyH_done (by kernel_rfl) ?_ _
  go_wp2_with (first | ((with_reducible refine store_inR rfl _ _ rfl _ (in16 ⟨51, 0, onZ, onZ, false, 0⟩) z16 rfl rfl FD1.z (in16_size _) z16_size (in16_one _) ?_); intro wz kz bz hz; have FZ := FD1.done kz bz))
  exact bodyPost_ret (v := .tuple #[inV ⟨51, 0, onZ, onZ, false, 0⟩, .bool (false)]) (results_ct rfl _ _ w0.heap.size 28 (in16 ⟨51, 0, onZ, onZ, false, 0⟩) (0, 0) _ _ rfl rfl FZ.z.h Tryd.underlying28 rfl (szIn inZ)) rfl ⟨rfl, FZ.r, (But.of k01 [B]).trans (FZ.k.mono k01.size (fun _ h => .inl h))⟩
set_option maxRecDepth 100000 in
set_option maxHeartbeats 4000000 in
theorem rest_d9_b (R : Rs w N B a len cap zs p false false) (o : On) (h0 : ∀ W, (Op.equalIn 10000 26 (opV o) (opV (onReg 0))).run Tryd.prog W = .ok false W) (h1 : ∀ W, (Op.equalIn 10000 26 (opV o) (opV (onReg 1))).run Tryd.prog W = .ok true W) {n : Int} {u : Bool} (hn : (n != 4) = u) :
    Calls Tryd.prog 35 #[rp B, .int .u8 217, opV o, .int .i64 n] w fun e w' => e = .returned (.tuple #[inV ⟨52, 0, onZ, onZ, false, 0⟩, .bool (u)]) ∧ Rs w' N B a len cap zs (p) (false) false ∧ But [B] w.heap.size w w' := by
  have hB0 := R.lt
  have k01 := (Below.refl w.heap.size w).alloc (Nat.le_refl _) (.cells (op6 o) 26)
  have R1 := R.alloc (.cells (op6 o) 26)
  have kO := Blk.new w 26 (op6 o)
  have hKw : w.heap.size < (w.alloc (.cells (op6 o) 26)).heap.size := kO.lt
  have hs : (w.alloc (.cells (op6 o) 26)).heap.size = w.heap.size + 1 := by simp
  have F := RF.start R1 28 z16
  have kO1 := kO.alloc (.cells z16 28)
  have hBK : w.heap.size ∉ [B] := by simp; omega
  have hR0 := Lib.hid (fun W => reg_any 0 W)
  have hR1 := Lib.hid (fun W => reg_any 1 W)
  go_enter Tryd.func35, Tryd.ntmps35
  go_upto_region 1 with fail
  generalize (w.alloc (.cells (op6 o) 26)).alloc (.cells z16 28) = w1 at *
  rw [← hs]
  generalize w.alloc (.cells (op6 o) 26) = w0 at *
  clear hs
  go_upto_region 13 with fail
  have FD := F.drew
  have kD := kO1.drew
  refine wp_region_held_drew (S := fun W => OX w0 W N B a len cap zs false w.heap.size (o)) (by kernel_rfl) ⟨⟨_, _, z16, z16_size, FD⟩, kD⟩ (fun hHeld => ?_)
  generalize w1.drew = wd at *
  refine wpAnyH_take (i := 0) (v := opV (o)) rfl (by kernel_rfl) (by kernel_rfl) (by kernel_rfl) (fun _ _ _ h => h) (Or.inl ⟨by kernel_rfl, ?_⟩) hHeld ?_
  · intro W hS
    exact run_load_row (by rfl) (by rfl) 26 _ (0, 0) _ hS.k.h Tryd.underlying26 rfl (szOp onZ)
  simp only [Act.put, List.setIfInBounds_toArray, List.set_cons_zero, List.set_cons_succ]
  refine wpAnyH_ready (rs := [1]) (by kernel_rfl) (by simp) ?_
  refine AllReadyH.cons rfl (fun K hK => ?_) AllReadyH.nil
  go_simp
  with_reducible refine (hR0.out _).mono ?_
  rintro e wd1 ⟨rfl, bb1⟩
  have FD1 := FD.below bb1
  have kD1 := kD.below bb1 kD.lt
  refine hK.out _ _ ⟨⟨_, _, z16, z16_size, FD1⟩, kD1⟩ (fun _ => ?_)
  clear hK K
  try simp only [Act.put, List.setIfInBounds_toArray, List.set_cons_zero, List.set_cons_succ]
  refine wpAnyH_take (i := 2) (v := ?_) rfl (by kernel_rfl) (by kernel_rfl) (by kernel_rfl) (fun _ _ _ h => h) (Or.inl ⟨by kernel_rfl, ?_⟩) ⟨⟨_, _, z16, z16_size, FD1⟩, kD1⟩ ?_
  rotate_left
  · intro W hS
    go_simp
    try rfl
  simp only [Act.put, List.setIfInBounds_toArray, List.set_cons_zero, List.set_cons_succ, List.getElem_toArray, List.getElem_cons_succ, List.getElem_cons_zero]
  refine wpAnyH_take (i := 3) (v := ?_) rfl (by kernel_rfl) (by kernel_rfl) (by kernel_rfl) (fun _ _ _ h => h) (Or.inl ⟨by kernel_rfl, ?_⟩) ⟨⟨_, _, z16, z16_size, FD1⟩, kD1⟩ ?_
  rotate_left
  · intro W hS
    go_simp
    try rfl
  simp only [Act.put, List.setIfInBounds_toArray, List.set_cons_zero, List.set_cons_succ, List.getElem_toArray, List.getElem_cons_succ, List.getElem_cons_zero]
  refine wpAnyH_take (i := 4) (v := undef) rfl (by kernel_rfl) (by kernel_rfl) (by kernel_rfl) (fun _ _ _ h => h) (Or.inr ⟨by kernel_rfl, rfl⟩) ⟨⟨_, _, z16, z16_size, FD1⟩, kD1⟩ ?_
  simp only [Act.put, List.setIfInBounds_toArray, List.set_cons_zero, List.set_cons_succ]
  refine wpAnyH_take (i := 5) (v := undef) rfl (by kernel_rfl) (by kernel_rfl) (by kernel_rfl) (fun _ _ _ h => h) (Or.inr ⟨by kernel_rfl, rfl⟩) ⟨⟨_, _, z16, z16_size, FD1⟩, kD1⟩ ?_
  simp only [Act.put, List.setIfInBounds_toArray, List.set_cons_zero, List.set_cons_succ]
  refine wpAnyH_take (i := 6) (v := ?_) rfl (by kernel_rfl) (by kernel_rfl) (by kernel_rfl) (fun _ _ _ h => h) (Or.inl ⟨by kernel_rfl, ?_⟩) ⟨⟨_, _, z16, z16_size, FD1⟩, kD1⟩ ?_
  rotate_left
  · intro W hS
    go_simp
    try rfl
  simp only [Act.put, List.setIfInBounds_toArray, List.set_cons_zero, List.set_cons_succ, List.getElem_toArray, List.getElem_cons_succ, List.getElem_cons_zero]
  refine wpAnyH_done (by kernel_rfl) ?_ _
  go_upto_region 15 with fail
  have FD := FD1.drew
  have kD := kD1.drew
  refine wp_region_held_drew (S := fun W => OX w0 W N B a len cap zs false w.heap.size (o)) (by kernel_rfl) ⟨⟨_, _, z16, z16_size, FD⟩, kD⟩ (fun hHeld => ?_)
  generalize wd1.drew = wd at *
  refine wpAnyH_take (i := 0) (v := ?_) rfl (by kernel_rfl) (by kernel_rfl) (by kernel_rfl) (fun _ _ _ h => h) (Or.inl ⟨by kernel_rfl, ?_⟩) hHeld ?_
  rotate_left
  · intro W hS
    go_simp
    try rfl
  simp only [Act.put, List.setIfInBounds_toArray, List.set_cons_zero, List.set_cons_succ, List.getElem_toArray, List.getElem_cons_succ, List.getElem_cons_zero]
  refine wpAnyH_take (i := 1) (v := opV (o)) rfl (by kernel_rfl) (by kernel_rfl) (by kernel_rfl) (fun _ _ _ h => h) (Or.inl ⟨by kernel_rfl, ?_⟩) hHeld ?_
  · intro W hS
    exact run_load_row (by rfl) (by rfl) 26 _ (0, 0) _ hS.k.h Tryd.underlying26 rfl (szOp onZ)
  simp only [Act.put, List.setIfInBounds_toArray, List.set_cons_zero, List.set_cons_succ]
  refine wpAnyH_ready (rs := [2]) (by kernel_rfl) (by simp) ?_
  refine AllReadyH.cons rfl (fun K hK => ?_) AllReadyH.nil
  go_simp
  with_reducible refine (hR1.out _).mono ?_
  rintro e wd2 ⟨rfl, bb2⟩
  have FD2 := FD.below bb2
  have kD2 := kD.below bb2 kD.lt
  refine hK.out _ _ ⟨⟨_, _, z16, z16_size, FD2⟩, kD2⟩ (fun _ => ?_)
  clear hK K
  try simp only [Act.put, List.setIfInBounds_toArray, List.set_cons_zero, List.set_cons_succ]
  refine wpAnyH_take (i := 3) (v := ?_) rfl (by kernel_rfl) (by kernel_rfl) (by kernel_rfl) (fun _ _ _ h => h) (Or.inl ⟨by kernel_rfl, ?_⟩) ⟨⟨_, _, z16, z16_size, FD2⟩, kD2⟩ ?_
  rotate_left
  · intro W hS
    go_simp
    try rfl
  simp only [Act.put, List.setIfInBounds_toArray, List.set_cons_zero, List.set_cons_succ, List.getElem_toArray, List.getElem_cons_succ, List.getElem_cons_zero]
  refine wpAnyH_take (i := 4) (v := ?_) rfl (by kernel_rfl) (by kernel_rfl) (by kernel_rfl) (fun _ _ _ h => h) (Or.inl ⟨by kernel_rfl, ?_⟩) ⟨⟨_, _, z16, z16_size, FD2⟩, kD2⟩ ?_
  rotate_left
  · intro W hS
    go_simp
    try rfl
  simp only [Act.put, List.setIfInBounds_toArray, List.set_cons_zero, List.set_cons_succ, List.getElem_toArray, List.getElem_cons_succ, List.getElem_cons_zero]
  refine wpAnyH_take (i := 5) (v := ?_) rfl (by kernel_rfl) (by kernel_rfl) (by kernel_rfl) (fun _ _ _ h => h) (Or.inl ⟨by kernel_rfl, ?_⟩) ⟨⟨_, _, z16, z16_size, FD2⟩, kD2⟩ ?_
  rotate_left
  · intro W hS
    go_simp
    try rfl
  simp only [Act.put, List.setIfInBounds_toArray, List.set_cons_zero, List.set_cons_succ, List.getElem_toArray, List.getElem_cons_succ, List.getElem_cons_zero]
  refine wpAnyH_take (i := 6) (v := ?_) rfl (by kernel_rfl) (by kernel_rfl) (by kernel_rfl) (fun _ _ _ h => h) (Or.inl ⟨by kernel_rfl, ?_⟩) ⟨⟨_, _, z16, z16_size, FD2⟩, kD2⟩ ?_
  rotate_left
  · intro W hS
    go_simp
    try rfl
  simp only [Act.put, List.setIfInBounds_toArray, List.set_cons_zero, List.set_cons_succ, List.getElem_toArray, List.getElem_cons_succ, List.getElem_cons_zero]
  refine wpAnyH_take (i := 7) (v := ?_) rfl (by kernel_rfl) (by kernel_rfl) (by kernel_rfl) (fun _ _ _ h => h) (Or.inl ⟨by kernel_rfl, ?_⟩) ⟨⟨_, _, z16, z16_size, FD2⟩, kD2⟩ ?_
  rotate_left
  · intro W hS
    go_simp
    try rfl
  simp only [Act.put, List.setIfInBounds_toArray, List.set_cons_zero, List.set_cons_succ, List.getElem_toArray, List.getElem_cons_succ, List.getElem_cons_zero]
  refine wpAnyH_ready (rs := [8]) (by kernel_rfl) (by simp) ?_
  refine AllReadyH.cons rfl (fun K hK => ?_) AllReadyH.nil
  rw [if_pos (by kernel_rfl)]
  refine wp_store_row 28 _ _ rfl w0.heap.size (in16 ⟨52, 0, onZ, onZ, false, 0⟩) rfl rfl 28 z16 FD2.z.h (szIn ⟨52, 0, onZ, onZ, false, 0⟩) z16_size (in16_one _) ?_
  have FZ := FD2.done (FD2.z.row (in16 ⟨52, 0, onZ, onZ, false, 0⟩)) (But.row1 _ _ _)
  have kZ := kD2.rowOther (M := w0.heap.size) (in16 ⟨52, 0, onZ, onZ, false, 0⟩) (by omega)
  refine hK.out _ _ ⟨⟨_, _, in16 ⟨52, 0, onZ, onZ, false, 0⟩, in16_size _, FZ⟩, kZ⟩ (fun _ => ?_)
  clear hK K
  try simp only [Act.put, List.setIfInBounds_toArray, List.set_cons_zero, List.set_cons_succ, List.getElem_toArray, List.getElem_cons_succ, List.getElem_cons_zero]
  refine wpAnyH_take (i := 9) (v := ?_) rfl (by kernel_rfl) (by kernel_rfl) (by kernel_rfl) (fun _ _ _ h => h) (Or.inl ⟨by kernel_rfl, ?_⟩) ⟨⟨_, _, in16 ⟨52, 0, onZ, onZ, false, 0⟩, in16_size _, FZ⟩, kZ⟩ ?_
  rotate_left
  · intro W hS
    go_simp
    try rfl
  simp only [Act.put, List.setIfInBounds_toArray, List.set_cons_zero, List.set_cons_succ, List.getElem_toArray, List.getElem_cons_succ, List.getElem_cons_zero]
  refine wpAnyH_done (by kernel_rfl) ?_ _
  go_wp2_with fail
  exact bodyPost_ret (v := .tuple #[inV ⟨52, 0, onZ, onZ, false, 0⟩, .bool (u)]) (results_ct rfl _ _ w0.heap.size 28 (in16 ⟨52, 0, onZ, onZ, false, 0⟩) (0, 0) _ _ rfl rfl FZ.z.h Tryd.underlying28 rfl (szIn inZ)) rfl ⟨rfl, FZ.r, (But.of k01 [B]).trans (FZ.k.mono k01.size (fun _ h => .inl h))⟩
set_option maxRecDepth 100000 in
set_option maxHeartbeats 4000000 in
theorem rest_d9_c (R : Rs w N B a len cap zs p false false) (o : On) (h0 : ∀ W, (Op.equalIn 10000 26 (opV o) (opV (onReg 0))).run Tryd.prog W = .ok false W) (h1 : ∀ W, (Op.equalIn 10000 26 (opV o) (opV (onReg 1))).run Tryd.prog W = .ok false W) {n : Int} {u : Bool} (hn : (n != 4) = u) :
    Calls Tryd.prog 35 #[rp B, .int .u8 217, opV o, .int .i64 n] w fun e w' => e = .returned (.tuple #[inV ⟨52, 0, onZ, onZ, false, 0⟩, .bool (true)]) ∧ Rs w' N B a len cap zs (p) (false) false ∧ But [B] w.heap.size w w' := by
  have hB0 := R.lt
  have k01 := (Below.refl w.heap.size w).alloc (Nat.le_refl _) (.cells (op6 o) 26)
  have R1 := R.alloc (.cells (op6 o) 26)
  have kO := Blk.new w 26 (op6 o)
  have hKw : w.heap.size < (w.alloc (.cells (op6 o) 26)).heap.size := kO.lt
  have hs : (w.alloc (.cells (op6 o) 26)).heap.size = w.heap.size + 1 := by simp
  have F := RF.start R1 28 z16
  have kO1 := kO.alloc (.cells z16 28)
  have hBK : w.heap.size ∉ [B] := by simp; omega
  have hR0 := Lib.hid (fun W => reg_any 0 W)
  have hR1 := Lib.hid (fun W => reg_any 1 W)
  go_enter Tryd.func35, Tryd.ntmps35
  go_upto_region 1 with fail
  generalize (w.alloc (.cells (op6 o) 26)).alloc (.cells z16 28) = w1 at *
  rw [← hs]
  generalize w.alloc (.cells (op6 o) 26) = w0 at *
  clear hs
  go_upto_region 13 with fail
  have FD := F.drew
  have kD := kO1.drew
  refine wp_region_held_drew (S := fun W => OX w0 W N B a len cap zs false w.heap.size (o)) (by kernel_rfl) ⟨⟨_, _, z16, z16_size, FD⟩, kD⟩ (fun hHeld => ?_)
  generalize w1.drew = wd at *
  refine wpAnyH_take (i := 0) (v := opV (o)) rfl (by kernel_rfl) (by kernel_rfl) (by kernel_rfl) (fun _ _ _ h => h) (Or.inl ⟨by kernel_rfl, ?_⟩) hHeld ?_
  · intro W hS
    exact run_load_row (by rfl) (by rfl) 26 _ (0, 0) _ hS.k.h Tryd.underlying26 rfl (szOp onZ)
  simp only [Act.put, List.setIfInBounds_toArray, List.set_cons_zero, List.set_cons_succ]
  refine wpAnyH_ready (rs := [1]) (by kernel_rfl) (by simp) ?_
  refine AllReadyH.cons rfl (fun K hK => ?_) AllReadyH.nil
  go_simp
  with_reducible refine (hR0.out _).mono ?_
  rintro e wd1 ⟨rfl, bb1⟩
  have FD1 := FD.below bb1
  have kD1 := kD.below bb1 kD.lt
  refine hK.out _ _ ⟨⟨_, _, z16, z16_size, FD1⟩, kD1⟩ (fun _ => ?_)
  clear hK K
  try simp only [Act.put, List.setIfInBounds_toArray, List.set_cons_zero, List.set_cons_succ]
  refine wpAnyH_take (i := 2) (v := ?_) rfl (by kernel_rfl) (by kernel_rfl) (by kernel_rfl) (fun _ _ _ h => h) (Or.inl ⟨by kernel_rfl, ?_⟩) ⟨⟨_, _, z16, z16_size, FD1⟩, kD1⟩ ?_
  rotate_left
  · intro W hS
    go_simp
    try rfl
  simp only [Act.put, List.setIfInBounds_toArray, List.set_cons_zero, List.set_cons_succ, List.getElem_toArray, List.getElem_cons_succ, List.getElem_cons_zero]
  refine wpAnyH_take (i := 3) (v := ?_) rfl (by kernel_rfl) (by kernel_rfl) (by kernel_rfl) (fun _ _ _ h => h) (Or.inl ⟨by kernel_rfl, ?_⟩) ⟨⟨_, _, z16, z16_size, FD1⟩, kD1⟩ ?_
  rotate_left
  · intro W hS
    go_simp
    try rfl
  simp only [Act.put, List.setIfInBounds_toArray, List.set_cons_zero, List.set_cons_succ, List.getElem_toArray, List.getElem_cons_succ, List.getElem_cons_zero]
  refine wpAnyH_take (i := 4) (v := undef) rfl (by kernel_rfl) (by kernel_rfl) (by kernel_rfl) (fun _ _ _ h => h) (Or.inr ⟨by kernel_rfl, rfl⟩) ⟨⟨_, _, z16, z16_size, FD1⟩, kD1⟩ ?_
  simp only [Act.put, List.setIfInBounds_toArray, List.set_cons_zero, List.set_cons_succ]
  refine wpAnyH_take (i := 5) (v := undef) rfl (by kernel_rfl) (by kernel_rfl) (by kernel_rfl) (fun _ _ _ h => h) (Or.inr ⟨by kernel_rfl, rfl⟩) ⟨⟨_, _, z16, z16_size, FD1⟩, kD1⟩ ?_
  simp only [Act.put, List.setIfInBounds_toArray, List.set_cons_zero, List.set_cons_succ]
  refine wpAnyH_take (i := 6) (v := ?_) rfl (by kernel_rfl) (by kernel_rfl) (by kernel_rfl) (fun _ _ _ h => h) (Or.inl ⟨by kernel_rfl, ?_⟩) ⟨⟨_, _, z16, z16_size, FD1⟩, kD1⟩ ?_
  rotate_left
  · intro W hS
    go_simp
    try rfl
  simp only [Act.put, List.setIfInBounds_toArray, List.set_cons_zero, List.set_cons_succ, List.getElem_toArray, List.getElem_cons_succ, List.getElem_cons_zero]
  refine wpAnyH_done (by kernel_rfl) ?_ _
  go_upto_region 15 with fail
  have FD := FD1.drew
  have kD := kD1.drew
  refine wp_region_held_drew (S := fun W => OX w0 W N B a len cap zs false w.heap.size (o)) (by kernel_rfl) ⟨⟨_, _, z16, z16_size, FD⟩, kD⟩ (fun hHeld => ?_)
  generalize wd1.drew = wd at *
  refine wpAnyH_take (i := 0) (v := ?_) rfl (by kernel_rfl) (by kernel_rfl) (by kernel_rfl) (fun _ _ _ h => h) (Or.inl ⟨by kernel_rfl, ?_⟩) hHeld ?_
  rotate_left
  · intro W hS
    go_simp
    try rfl
  simp only [Act.put, List.setIfInBounds_toArray, List.set_cons_zero, List.set_cons_succ, List.getElem_toArray, List.getElem_cons_succ, List.getElem_cons_zero]
  refine wpAnyH_take (i := 1) (v := opV (o)) rfl (by kernel_rfl) (by kernel_rfl) (by kernel_rfl) (fun _ _ _ h => h) (Or.inl ⟨by kernel_rfl, ?_⟩) hHeld ?_
  · intro W hS
    exact run_load_row (by rfl) (by rfl) 26 _ (0, 0) _ hS.k.h Tryd.underlying26 rfl (szOp onZ)
  simp only [Act.put, List.setIfInBounds_toArray, List.set_cons_zero, List.set_cons_succ]
  refine wpAnyH_ready (rs := [2]) (by kernel_rfl) (by simp) ?_
  refine AllReadyH.cons rfl (fun K hK => ?_) AllReadyH.nil
  go_simp
  with_reducible refine (hR1.out _).mono ?_
  rintro e wd2 ⟨rfl, bb2⟩
  have FD2 := FD.below bb2
  have kD2 := kD.below bb2 kD.lt
  refine hK.out _ _ ⟨⟨_, _, z16, z16_size, FD2⟩, kD2⟩ (fun _ => ?_)
  clear hK K
  try simp only [Act.put, List.setIfInBounds_toArray, List.set_cons_zero, List.set_cons_succ]
  refine wpAnyH_take (i := 3) (v := ?_) rfl (by kernel_rfl) (by kernel_rfl) (by kernel_rfl) (fun _ _ _ h => h) (Or.inl ⟨by kernel_rfl, ?_⟩) ⟨⟨_, _, z16, z16_size, FD2⟩, kD2⟩ ?_
  rotate_left
  · intro W hS
    go_simp
    try rfl
  simp only [Act.put, List.setIfInBounds_toArray, List.set_cons_zero, List.set_cons_succ, List.getElem_toArray, List.getElem_cons_succ, List.getElem_cons_zero]
  refine wpAnyH_take (i := 4) (v := ?_) rfl (by kernel_rfl) (by kernel_rfl) (by kernel_rfl) (fun _ _ _ h => h) (Or.inl ⟨by kernel_rfl, ?_⟩) ⟨⟨_, _, z16, z16_size, FD2⟩, kD2⟩ ?_
  rotate_left
  · intro W hS
    go_simp
    try rfl
  simp only [Act.put, List.setIfInBounds_toArray, List.set_cons_zero, List.set_cons_succ, List.getElem_toArray, List.getElem_cons_succ, List.getElem_cons_zero]
  refine wpAnyH_take (i := 5) (v := undef) rfl (by kernel_rfl) (by kernel_rfl) (by kernel_rfl) (fun _ _ _ h => h) (Or.inr ⟨by kernel_rfl, rfl⟩) ⟨⟨_, _, z16, z16_size, FD2⟩, kD2⟩ ?_
  simp only [Act.put, List.setIfInBounds_toArray, List.set_cons_zero, List.set_cons_succ]
  refine wpAnyH_take (i := 6) (v := undef) rfl (by kernel_rfl) (by kernel_rfl) (by kernel_rfl) (fun _ _ _ h => h) (Or.inr ⟨by kernel_rfl, rfl⟩) ⟨⟨_, _, z16, z16_size, FD2⟩, kD2⟩ ?_
  simp only [Act.put, List.setIfInBounds_toArray, List.set_cons_zero, List.set_cons_succ]
  refine wpAnyH_take (i := 7) (v := ?_) rfl (by kernel_rfl) (by kernel_rfl) (by kernel_rfl) (fun _ _ _ h => h) (Or.inl ⟨by kernel_rfl, ?_⟩) ⟨⟨_, _, z16, z16_size, FD2⟩, kD2⟩ ?_
  rotate_left
  · intro W hS
    go_simp
    try rfl
  simp only [Act.put, List.setIfInBounds_toArray, List.set_cons_zero, List.set_cons_succ, List.getElem_toArray, List.getElem_cons_succ, List.getElem_cons_zero]
  refine wpAnyH_ready (rs := [8]) (by kernel_rfl) (by simp) ?_
  refine AllReadyH.cons rfl (fun K hK => ?_) AllReadyH.nil
  rw [if_pos (by kernel_rfl)]
  refine wp_store_row 28 _ _ rfl w0.heap.size (in16 ⟨52, 0, onZ, onZ, false, 0⟩) rfl rfl 28 z16 FD2.z.h (szIn ⟨52, 0, onZ, onZ, false, 0⟩) z16_size (in16_one _) ?_
  have FZ := FD2.done (FD2.z.row (in16 ⟨52, 0, onZ, onZ, false, 0⟩)) (But.row1 _ _ _)
  have kZ := kD2.rowOther (M := w0.heap.size) (in16 ⟨52, 0, onZ, onZ, false, 0⟩) (by omega)
  refine hK.out _ _ ⟨⟨_, _, in16 ⟨52, 0, onZ, onZ, false, 0⟩, in16_size _, FZ⟩, kZ⟩ (fun _ => ?_)
  clear hK K
  try simp only [Act.put, List.setIfInBounds_toArray, List.set_cons_zero, List.set_cons_succ, List.getElem_toArray, List.getElem_cons_succ, List.getElem_cons_zero]
  refine wpAnyH_take (i := 9) (v := ?_) rfl (by kernel_rfl) (by kernel_rfl) (by kernel_rfl) (fun _ _ _ h => h) (Or.inl ⟨by kernel_rfl, ?_⟩) ⟨⟨_, _, in16 ⟨52, 0, onZ, onZ, false, 0⟩, in16_size _, FZ⟩, kZ⟩ ?_
  rotate_left
  · intro W hS
    go_simp
    try rfl
  simp only [Act.put, List.setIfInBounds_toArray, List.set_cons_zero, List.set_cons_succ, List.getElem_toArray, List.getElem_cons_succ, List.getElem_cons_zero]
  refine wpAnyH_done (by kernel_rfl) ?_ _
  go_wp2_with fail
  exact bodyPost_ret (v := .tuple #[inV ⟨52, 0, onZ, onZ, false, 0⟩, .bool (true)]) (results_ct rfl _ _ w0.heap.size 28 (in16 ⟨52, 0, onZ, onZ, false, 0⟩) (0, 0) _ _ rfl rfl FZ.z.h Tryd.underlying28 rfl (szIn inZ)) rfl ⟨rfl, FZ.r, (But.of k01 [B]).trans (FZ.k.mono k01.size (fun _ h => .inl h))⟩
set_option maxRecDepth 100000 in
set_option maxHeartbeats 4000000 in
theorem rest_d9_d (R : Rs w N B a len cap zs p false false) (o : On) (h0 : ∀ W, (Op.equalIn 10000 26 (opV o) (opV (onReg 0))).run Tryd.prog W = .ok true W) (h1 : ∀ W, (Op.equalIn 10000 26 (opV o) (opV (onReg 1))).run Tryd.prog W = .ok false W) {n : Int} (hn : ¬ n = 4) :
    Calls Tryd.prog 35 #[rp B, .int .u8 217, opV o, .int .i64 n] w fun e w' => e = .returned (.tuple #[inV ⟨52, 0, onZ, onZ, false, 0⟩, .bool (true)]) ∧ Rs w' N B a len cap zs (p) (false) false ∧ But [B] w.heap.size w w' := by
  have hB0 := R.lt
  have k01 := (Below.refl w.heap.size w).alloc (Nat.le_refl _) (.cells (op6 o) 26)
  have R1 := R.alloc (.cells (op6 o) 26)
  have kO := Blk.new w 26 (op6 o)
  have hKw : w.heap.size < (w.alloc (.cells (op6 o) 26)).heap.size := kO.lt
  have hs : (w.alloc (.cells (op6 o) 26)).heap.size = w.heap.size + 1 := by simp
  have F := RF.start R1 28 z16
  have kO1 := kO.alloc (.cells z16 28)
  have hBK : w.heap.size ∉ [B] := by simp; omega
  have hR0 := Lib.hid (fun W => reg_any 0 W)
  have hR1 := Lib.hid (fun W => reg_any 1 W)
  have e4 : (n == 4) = false := by simp [hn]
  have e5 : (n != 4) = true := by simp [hn]
  clear hn
  go_enter Tryd.func35, Tryd.ntmps35
  go_upto_region 1 with fail
  generalize (w.alloc (.cells (op6 o) 26)).alloc (.cells z16 28) = w1 at *
  rw [← hs]
  generalize w.alloc (.cells (op6 o) 26) = w0 at *
  clear hs
  go_upto_region 13 with fail
  have FD := F.drew
  have kD := kO1.drew
  refine wp_region_held_drew (S := fun W => OX w0 W N B a len cap zs false w.heap.size (o)) (by kernel_rfl) ⟨⟨_, _, z16, z16_size, FD⟩, kD⟩ (fun hHeld => ?_)
  generalize w1.drew = wd at *
  refine wpAnyH_take (i := 0) (v := opV (o)) rfl (by kernel_rfl) (by kernel_rfl) (by kernel_rfl) (fun _ _ _ h => h) (Or.inl ⟨by kernel_rfl, ?_⟩) hHeld ?_
  · intro W hS
    exact run_load_row (by rfl) (by rfl) 26 _ (0, 0) _ hS.k.h Tryd.underlying26 rfl (szOp onZ)
  simp only [Act.put, List.setIfInBounds_toArray, List.set_cons_zero, List.set_cons_succ]
  refine wpAnyH_ready (rs := [1]) (by kernel_rfl) (by simp) ?_
  refine AllReadyH.cons rfl (fun K hK => ?_) AllReadyH.nil
  go_simp
  with_reducible refine (hR0.out _).mono ?_
  rintro e wd1 ⟨rfl, bb1⟩
  have FD1 := FD.below bb1
  have kD1 := kD.below bb1 kD.lt
  refine hK.out _ _ ⟨⟨_, _, z16, z16_size, FD1⟩, kD1⟩ (fun _ => ?_)
  clear hK K
  try simp only [Act.put, List.setIfInBounds_toArray, List.set_cons_zero, List.set_cons_succ]
  refine wpAnyH_take (i := 2) (v := ?_) rfl (by kernel_rfl) (by kernel_rfl) (by kernel_rfl) (fun _ _ _ h => h) (Or.inl ⟨by kernel_rfl, ?_⟩) ⟨⟨_, _, z16, z16_size, FD1⟩, kD1⟩ ?_
  rotate_left
  · intro W hS
    go_simp
    try rfl
  simp only [Act.put, List.setIfInBounds_toArray, List.set_cons_zero, List.set_cons_succ, List.getElem_toArray, List.getElem_cons_succ, List.getElem_cons_zero]
  refine wpAnyH_take (i := 3) (v := ?_) rfl (by kernel_rfl) (by kernel_rfl) (by kernel_rfl) (fun _ _ _ h => h) (Or.inl ⟨by kernel_rfl, ?_⟩) ⟨⟨_, _, z16, z16_size, FD1⟩, kD1⟩ ?_
  rotate_left
  · intro W hS
    go_simp
    try rfl
  simp only [Act.put, List.setIfInBounds_toArray, List.set_cons_zero, List.set_cons_succ, List.getElem_toArray, List.getElem_cons_succ, List.getElem_cons_zero]
  refine wpAnyH_take (i := 4) (v := ?_) rfl (by kernel_rfl) (by kernel_rfl) (by kernel_rfl) (fun _ _ _ h => h) (Or.inl ⟨by kernel_rfl, ?_⟩) ⟨⟨_, _, z16, z16_size, FD1⟩, kD1⟩ ?_
  rotate_left
  · intro W hS
    go_simp
    try rfl
  simp only [Act.put, List.setIfInBounds_toArray, List.set_cons_zero, List.set_cons_succ, List.getElem_toArray, List.getElem_cons_succ, List.getElem_cons_zero]
  refine wpAnyH_take (i := 5) (v := ?_) rfl (by kernel_rfl) (by kernel_rfl) (by kernel_rfl) (fun _ _ _ h => h) (Or.inl ⟨by kernel_rfl, ?_⟩) ⟨⟨_, _, z16, z16_size, FD1⟩, kD1⟩ ?_
  rotate_left
  · intro W hS
    go_simp
    try rfl
  simp only [Act.put, List.setIfInBounds_toArray, List.set_cons_zero, List.set_cons_succ, List.getElem_toArray, List.getElem_cons_succ, List.getElem_cons_zero]
  refine wpAnyH_take (i := 6) (v := ?_) rfl (by kernel_rfl) (by kernel_rfl) (by kernel_rfl) (fun _ _ _ h => h) (Or.inl ⟨by kernel_rfl, ?_⟩) ⟨⟨_, _, z16, z16_size, FD1⟩, kD1⟩ ?_
  rotate_left
  · intro W hS
    go_simp
    try rfl
  simp only [Act.put, List.setIfInBounds_toArray, List.set_cons_zero, List.set_cons_succ, List.getElem_toArray, List.getElem_cons_succ, List.getElem_cons_zero]
  refine wpAnyH_done (by kernel_rfl) ?_ _
  go_upto_region 15 with fail
  have FD := FD1.drew
  have kD := kD1.drew
  refine wp_region_held_drew (S := fun W => OX w0 W N B a len cap zs false w.heap.size (o)) (by kernel_rfl) ⟨⟨_, _, z16, z16_size, FD⟩, kD⟩ (fun hHeld => ?_)
  generalize wd1.drew = wd at *
  refine wpAnyH_take (i := 0) (v := ?_) rfl (by kernel_rfl) (by kernel_rfl) (by kernel_rfl) (fun _ _ _ h => h) (Or.inl ⟨by kernel_rfl, ?_⟩) hHeld ?_
  rotate_left
  · intro W hS
    go_simp
    try rfl
  simp only [Act.put, List.setIfInBounds_toArray, List.set_cons_zero, List.set_cons_succ, List.getElem_toArray, List.getElem_cons_succ, List.getElem_cons_zero]
  refine wpAnyH_take (i := 1) (v := opV (o)) rfl (by kernel_rfl) (by kernel_rfl) (by kernel_rfl) (fun _ _ _ h => h) (Or.inl ⟨by kernel_rfl, ?_⟩) hHeld ?_
  · intro W hS
    exact run_load_row (by rfl) (by rfl) 26 _ (0, 0) _ hS.k.h Tryd.underlying26 rfl (szOp onZ)
  simp only [Act.put, List.setIfInBounds_toArray, List.set_cons_zero, List.set_cons_succ]
  refine wpAnyH_ready (rs := [2]) (by kernel_rfl) (by simp) ?_
  refine AllReadyH.cons rfl (fun K hK => ?_) AllReadyH.nil
  go_simp
  with_reducible refine (hR1.out _).mono ?_
  rintro e wd2 ⟨rfl, bb2⟩
  have FD2 := FD.below bb2
  have kD2 := kD.below bb2 kD.lt
  refine hK.out _ _ ⟨⟨_, _, z16, z16_size, FD2⟩, kD2⟩ (fun _ => ?_)
  clear hK K
  try simp only [Act.put, List.setIfInBounds_toArray, List.set_cons_zero, List.set_cons_succ]
  refine wpAnyH_take (i := 3) (v := ?_) rfl (by kernel_rfl) (by kernel_rfl) (by kernel_rfl) (fun _ _ _ h => h) (Or.inl ⟨by kernel_rfl, ?_⟩) ⟨⟨_, _, z16, z16_size, FD2⟩, kD2⟩ ?_
  rotate_left
  · intro W hS
    go_simp
    try rfl
  simp only [Act.put, List.setIfInBounds_toArray, List.set_cons_zero, List.set_cons_succ, List.getElem_toArray, List.getElem_cons_succ, List.getElem_cons_zero]
  refine wpAnyH_take (i := 4) (v := ?_) rfl (by kernel_rfl) (by kernel_rfl) (by kernel_rfl) (fun _ _ _ h => h) (Or.inl ⟨by kernel_rfl, ?_⟩) ⟨⟨_, _, z16, z16_size, FD2⟩, kD2⟩ ?_
  rotate_left
  · intro W hS
    go_simp
    try rfl
  simp only [Act.put, List.setIfInBounds_toArray, List.set_cons_zero, List.set_cons_succ, List.getElem_toArray, List.getElem_cons_succ, List.getElem_cons_zero]
  refine wpAnyH_take (i := 5) (v := undef) rfl (by kernel_rfl) (by kernel_rfl) (by kernel_rfl) (fun _ _ _ h => h) (Or.inr ⟨by kernel_rfl, rfl⟩) ⟨⟨_, _, z16, z16_size, FD2⟩, kD2⟩ ?_
  simp only [Act.put, List.setIfInBounds_toArray, List.set_cons_zero, List.set_cons_succ]
  refine wpAnyH_take (i := 6) (v := undef) rfl (by kernel_rfl) (by kernel_rfl) (by kernel_rfl) (fun _ _ _ h => h) (Or.inr ⟨by kernel_rfl, rfl⟩) ⟨⟨_, _, z16, z16_size, FD2⟩, kD2⟩ ?_
  simp only [Act.put, List.setIfInBounds_toArray, List.set_cons_zero, List.set_cons_succ]
  refine wpAnyH_take (i := 7) (v := ?_) rfl (by kernel_rfl) (by kernel_rfl) (by kernel_rfl) (fun _ _ _ h => h) (Or.inl ⟨by kernel_rfl, ?_⟩) ⟨⟨_, _, z16, z16_size, FD2⟩, kD2⟩ ?_
  rotate_left
  · intro W hS
    go_simp
    try rfl
  simp only [Act.put, List.setIfInBounds_toArray, List.set_cons_zero, List.set_cons_succ, List.getElem_toArray, List.getElem_cons_succ, List.getElem_cons_zero]
  refine wpAnyH_ready (rs := [8]) (by kernel_rfl) (by simp) ?_
  refine AllReadyH.cons rfl (fun K hK => ?_) AllReadyH.nil
  rw [if_pos (by kernel_rfl)]
  refine wp_store_row 28 _ _ rfl w0.heap.size (in16 ⟨52, 0, onZ, onZ, false, 0⟩) rfl rfl 28 z16 FD2.z.h (szIn ⟨52, 0, onZ, onZ, false, 0⟩) z16_size (in16_one _) ?_
  have FZ := FD2.done (FD2.z.row (in16 ⟨52, 0, onZ, onZ, false, 0⟩)) (But.row1 _ _ _)
  have kZ := kD2.rowOther (M := w0.heap.size) (in16 ⟨52, 0, onZ, onZ, false, 0⟩) (by omega)
  refine hK.out _ _ ⟨⟨_, _, in16 ⟨52, 0, onZ, onZ, false, 0⟩, in16_size _, FZ⟩, kZ⟩ (fun _ => ?_)
  clear hK K
  try simp only [Act.put, List.setIfInBounds_toArray, List.set_cons_zero, List.set_cons_succ, List.getElem_toArray, List.getElem_cons_succ, List.getElem_cons_zero]
  refine wpAnyH_take (i := 9) (v := ?_) rfl (by kernel_rfl) (by kernel_rfl) (by kernel_rfl) (fun _ _ _ h => h) (Or.inl ⟨by kernel_rfl, ?_⟩) ⟨⟨_, _, in16 ⟨52, 0, onZ, onZ, false, 0⟩, in16_size _, FZ⟩, kZ⟩ ?_
  rotate_left
  · intro W hS
    go_simp
    try rfl
  simp only [Act.put, List.setIfInBounds_toArray, List.set_cons_zero, List.set_cons_succ, List.getElem_toArray, List.getElem_cons_succ, List.getElem_cons_zero]
  refine wpAnyH_done (by kernel_rfl) ?_ _
  go_wp2_with fail
  exact bodyPost_ret (v := .tuple #[inV ⟨52, 0, onZ, onZ, false, 0⟩, .bool (true)]) (results_ct rfl _ _ w0.heap.size 28 (in16 ⟨52, 0, onZ, onZ, false, 0⟩) (0, 0) _ _ rfl rfl FZ.z.h Tryd.underlying28 rfl (szIn inZ)) rfl ⟨rfl, FZ.r, (But.of k01 [B]).trans (FZ.k.mono k01.size (fun _ h => .inl h))⟩
set_option maxRecDepth 100000 in
set_option maxHeartbeats 4000000 in
theorem rest_dd_0 (R : Rs w N B a len cap zs p false false) (o : On)  {u : Bool} (hu : (o.k == 1) = u) :
    Calls Tryd.prog 35 #[rp B, .int .u8 221, opV o, .int .i64 0] w fun e w' => e = .returned (.tuple #[inV ⟨45, 0, o, onZ, false, 0⟩, .bool (u)]) ∧ Rs w' N B a len cap zs (p) (false) false ∧ But [B] w.heap.size w w' := by
  have hB0 := R.lt
  have k01 := (Below.refl w.heap.size w).alloc (Nat.le_refl _) (.cells (op6 o) 26)
  have R1 := R.alloc (.cells (op6 o) 26)
  have kO := Blk.new w 26 (op6 o)
  have hKw : w.heap.size < (w.alloc (.cells (op6 o) 26)).heap.size := kO.lt
  have hs : (w.alloc (.cells (op6 o) 26)).heap.size = w.heap.size + 1 := by simp
  have F := RF.start R1 28 z16
  have kO1 := kO.alloc (.cells z16 28)
  have hBK : w.heap.size ∉ [B] := by simp; omega
  go_enter Tryd.func35, Tryd.ntmps35
  go_upto_region 1 with fail
  generalize (w.alloc (.cells (op6 o) 26)).alloc (.cells z16 28) = w1 at *
  rw [← hs]
  generalize w.alloc (.cells (op6 o) 26) = w0 at *
  clear hs
  go_upto_region 22 with fail
  have FD := F.drew
  have kD := kO1.drew
  refine wp_region_held_drew (S := fun W => OX w0 W N B a len cap zs false w.heap.size (o)) (by kernel_rfl) ⟨⟨_, _, z16, z16_size, FD⟩, kD⟩ (fun hHeld => ?_)
  generalize w1.drew = wd at *
  refine wpAnyH_take (i := 0) (v := ?_) rfl (by kernel_rfl) (by kernel_rfl) (by kernel_rfl) (fun _ _ _ h => h) (Or.inl ⟨by kernel_rfl, ?_⟩) hHeld ?_
  rotate_left
  · intro W hS
    go_simp
    try rfl
  simp only [Act.put, List.setIfInBounds_toArray, List.set_cons_zero, List.set_cons_succ, List.getElem_toArray, List.getElem_cons_succ, List.getElem_cons_zero]
  refine wpAnyH_take (i := 1) (v := opV (o)) rfl (by kernel_rfl) (by kernel_rfl) (by kernel_rfl) (fun _ _ _ h => h) (Or.inl ⟨by kernel_rfl, ?_⟩) hHeld ?_
  · intro W hS
    exact run_load_row (by rfl) (by rfl) 26 _ (0, 0) _ hS.k.h Tryd.underlying26 rfl (szOp onZ)
  simp only [Act.put, List.setIfInBounds_toArray, List.set_cons_zero, List.set_cons_succ]
  refine wpAnyH_take (i := 2) (v := ?_) rfl (by kernel_rfl) (by kernel_rfl) (by kernel_rfl) (fun _ _ _ h => h) (Or.inl ⟨by kernel_rfl, ?_⟩) hHeld ?_
  rotate_left
  · intro W hS
    go_simp
    try rfl
  simp only [Act.put, List.setIfInBounds_toArray, List.set_cons_zero, List.set_cons_succ, List.getElem_toArray, List.getElem_cons_succ, List.getElem_cons_zero]
  refine wpAnyH_take (i := 3) (v := ?_) rfl (by kernel_rfl) (by kernel_rfl) (by kernel_rfl) (fun _ _ _ h => h) (Or.inl ⟨by kernel_rfl, ?_⟩) hHeld ?_
  rotate_left
  · intro W hS
    go_simp
    try rfl
  simp only [Act.put, List.setIfInBounds_toArray, List.set_cons_zero, List.set_cons_succ, List.getElem_toArray, List.getElem_cons_succ, List.getElem_cons_zero]
  refine wpAnyH_take (i := 4) (v := ?_) rfl (by kernel_rfl) (by kernel_rfl) (by kernel_rfl) (fun _ _ _ h => h) (Or.inl ⟨by kernel_rfl, ?_⟩) hHeld ?_
  rotate_left
  · intro W hS
    go_simp
    try rfl
  simp only [Act.put, List.setIfInBounds_toArray, List.set_cons_zero, List.set_cons_succ, List.getElem_toArray, List.getElem_cons_succ, List.getElem_cons_zero]
  refine wpAnyH_take (i := 5) (v := ?_) rfl (by kernel_rfl) (by kernel_rfl) (by kernel_rfl) (fun _ _ _ h => h) (Or.inl ⟨by kernel_rfl, ?_⟩) hHeld ?_
  rotate_left
  · intro W hS
    go_simp
    try rfl
  simp only [Act.put, List.setIfInBounds_toArray, List.set_cons_zero, List.set_cons_succ, List.getElem_toArray, List.getElem_cons_succ, List.getElem_cons_zero]
  refine wpAnyH_take (i := 6) (v := undef) rfl (by kernel_rfl) (by kernel_rfl) (by kernel_rfl) (fun _ _ _ h => h) (Or.inr ⟨by kernel_rfl, rfl⟩) hHeld ?_
  simp only [Act.put, List.setIfInBounds_toArray, List.set_cons_zero, List.set_cons_succ]
  refine wpAnyH_take (i := 7) (v := undef) rfl (by kernel_rfl) (by kernel_rfl) (by kernel_rfl) (fun _ _ _ h => h) (Or.inr ⟨by kernel_rfl, rfl⟩) hHeld ?_
  simp only [Act.put, List.setIfInBounds_toArray, List.set_cons_zero, List.set_cons_succ]
  refine wpAnyH_take (i := 8) (v := ?_) rfl (by kernel_rfl) (by kernel_rfl) (by kernel_rfl) (fun _ _ _ h => h) (Or.inl ⟨by kernel_rfl, ?_⟩) hHeld ?_
  rotate_left
  · intro W hS
    go_simp
    try rfl
  simp only [Act.put, List.setIfInBounds_toArray, List.set_cons_zero, List.set_cons_succ, List.getElem_toArray, List.getElem_cons_succ, List.getElem_cons_zero]
  refine wpAnyH_take (i := 9) (v := ?_) rfl (by kernel_rfl) (by kernel_rfl) (by kernel_rfl) (fun _ _ _ h => h) (Or.inl ⟨by kernel_rfl, ?_⟩) hHeld ?_
  rotate_left
  · intro W hS
    go_simp
    try rfl
  simp only [Act.put, List.setIfInBounds_toArray, List.set_cons_zero, List.set_cons_succ, List.getElem_toArray, List.getElem_cons_succ, List.getElem_cons_zero]
  refine wpAnyH_take (i := 10) (v := ?_) rfl (by kernel_rfl) (by kernel_rfl) (by kernel_rfl) (fun _ _ _ h => h) (Or.inl ⟨by kernel_rfl, ?_⟩) hHeld ?_
  rotate_left
  · intro W hS
    go_simp
    try rfl
  simp only [Act.put, List.setIfInBounds_toArray, List.set_cons_zero, List.set_cons_succ, List.getElem_toArray, List.getElem_cons_succ, List.getElem_cons_zero]
  refine wpAnyH_take (i := 11) (v := ?_) rfl (by kernel_rfl) (by kernel_rfl) (by kernel_rfl) (fun _ _ _ h => h) (Or.inl ⟨by kernel_rfl, ?_⟩) hHeld ?_
  rotate_left
  · intro W hS
    have c0 := hS.k.cell (i := 0) (v := .int .i64 o.k) rfl
    go_simp
    try rfl
  simp only [Act.put, List.setIfInBounds_toArray, List.set_cons_zero, List.set_cons_succ, List.getElem_toArray, List.getElem_cons_succ, List.getElem_cons_zero]
  refine wpAnyH_take (i := 12) (v := ?_) rfl (by kernel_rfl) (by kernel_rfl) (by kernel_rfl) (fun _ _ _ h => h) (Or.inl ⟨by kernel_rfl, ?_⟩) hHeld ?_
  rotate_left
  · intro W hS
    go_simp
    try rfl
  simp only [Act.put, List.setIfInBounds_toArray, List.set_cons_zero, List.set_cons_succ, List.getElem_toArray, List.getElem_cons_succ, List.getElem_cons_zero]
  refine wpAnyH_take (i := 13) (v := ?_) rfl (by kernel_rfl) (by kernel_rfl) (by kernel_rfl) (fun _ _ _ h => h) (Or.inl ⟨by kernel_rfl, ?_⟩) hHeld ?_
  rotate_left
  · intro W hS
    go_simp
    try rfl
  simp only [Act.put, List.setIfInBounds_toArray, List.set_cons_zero, List.set_cons_succ, List.getElem_toArray, List.getElem_cons_succ, List.getElem_cons_zero]
  refine wpAnyH_ready (rs := [14]) (by kernel_rfl) (by simp) ?_
  refine AllReadyH.cons rfl (fun K hK => ?_) AllReadyH.nil
  rw [if_pos (by kernel_rfl)]
  refine wp_store_row 28 _ _ rfl w0.heap.size (in16 ⟨45, 0, o, onZ, false, 0⟩) rfl rfl 28 z16 FD.z.h (szIn ⟨45, 0, o, onZ, false, 0⟩) z16_size (in16_one _) ?_
  have FZ := FD.done (FD.z.row (in16 ⟨45, 0, o, onZ, false, 0⟩)) (But.row1 _ _ _)
  have kZ := kD.rowOther (M := w0.heap.size) (in16 ⟨45, 0, o, onZ, false, 0⟩) (by omega)
  refine hK.out _ _ ⟨⟨_, _, in16 ⟨45, 0, o, onZ, false, 0⟩, in16_size _, FZ⟩, kZ⟩ (fun _ => ?_)
  clear hK K
  try simp only [Act.put, List.setIfInBounds_toArray, List.set_cons_zero, List.set_cons_succ, List.getElem_toArray, List.getElem_cons_succ, List.getElem_cons_zero]
  refine wpAnyH_take (i := 15) (v := ?_) rfl (by kernel_rfl) (by kernel_rfl) (by kernel_rfl) (fun _ _ _ h => h) (Or.inl ⟨by kernel_rfl, ?_⟩) ⟨⟨_, _, in16 ⟨45, 0, o, onZ, false, 0⟩, in16_size _, FZ⟩, kZ⟩ ?_
  rotate_left
  · intro W hS
    go_simp
    try rfl
  simp only [Act.put, List.setIfInBounds_toArray, List.set_cons_zero, List.set_cons_succ, List.getElem_toArray, List.getElem_cons_succ, List.getElem_cons_zero]
  refine wpAnyH_done (by kernel_rfl) ?_ _
  go_wp2_with fail
  exact bodyPost_ret (v := .tuple #[inV ⟨45, 0, o, onZ, false, 0⟩, .bool (u)]) (results_ct rfl _ _ w0.heap.size 28 (in16 ⟨45, 0, o, onZ, false, 0⟩) (0, 0) _ _ rfl rfl FZ.z.h Tryd.underlying28 rfl (szIn inZ)) rfl ⟨rfl, FZ.r, (But.of k01 [B]).trans (FZ.k.mono k01.size (fun _ h => .inl h))⟩
set_option maxRecDepth 100000 in
set_option maxHeartbeats 4000000 in
theorem rest_dd_3 (R : Rs w N B a len cap zs p false false) (o : On)  {u : Bool} (hu : (o.k == 1) = u) :
    Calls Tryd.prog 35 #[rp B, .int .u8 221, opV o, .int .i64 3] w fun e w' => e = .returned (.tuple #[inV ⟨46, 0, o, onZ, false, 0⟩, .bool (u)]) ∧ Rs w' N B a len cap zs (p) (false) false ∧ But [B] w.heap.size w w' := by
  have hB0 := R.lt
  have k01 := (Below.refl w.heap.size w).alloc (Nat.le_refl _) (.cells (op6 o) 26)
  have R1 := R.alloc (.cells (op6 o) 26)
  have kO := Blk.new w 26 (op6 o)
  have hKw : w.heap.size < (w.alloc (.cells (op6 o) 26)).heap.size := kO.lt
  have hs : (w.alloc (.cells (op6 o) 26)).heap.size = w.heap.size + 1 := by simp
  have F := RF.start R1 28 z16
  have kO1 := kO.alloc (.cells z16 28)
  have hBK : w.heap.size ∉ [B] := by simp; omega
  go_enter Tryd.func35, Tryd.ntmps35
  go_upto_region 1 with fail
  generalize (w.alloc (.cells (op6 o) 26)).alloc (.cells z16 28) = w1 at *
  rw [← hs]
  generalize w.alloc (.cells (op6 o) 26) = w0 at *
  clear hs
  go_upto_region 22 with fail
  have FD := F.drew
  have kD := kO1.drew
  refine wp_region_held_drew (S := fun W => OX w0 W N B a len cap zs false w.heap.size (o)) (by kernel_rfl) ⟨⟨_, _, z16, z16_size, FD⟩, kD⟩ (fun hHeld => ?_)
  generalize w1.drew = wd at *
  refine wpAnyH_take (i := 0) (v := ?_) rfl (by kernel_rfl) (by kernel_rfl) (by kernel_rfl) (fun _ _ _ h => h) (Or.inl ⟨by kernel_rfl, ?_⟩) hHeld ?_
  rotate_left
  · intro W hS
    go_simp
    try rfl
  simp only [Act.put, List.setIfInBounds_toArray, List.set_cons_zero, List.set_cons_succ, List.getElem_toArray, List.getElem_cons_succ, List.getElem_cons_zero]
  refine wpAnyH_take (i := 1) (v := opV (o)) rfl (by kernel_rfl) (by kernel_rfl) (by kernel_rfl) (fun _ _ _ h => h) (Or.inl ⟨by kernel_rfl, ?_⟩) hHeld ?_
  · intro W hS
    exact run_load_row (by rfl) (by rfl) 26 _ (0, 0) _ hS.k.h Tryd.underlying26 rfl (szOp onZ)
  simp only [Act.put, List.setIfInBounds_toArray, List.set_cons_zero, List.set_cons_succ]
  refine wpAnyH_take (i := 2) (v := ?_) rfl (by kernel_rfl) (by kernel_rfl) (by kernel_rfl) (fun _ _ _ h => h) (Or.inl ⟨by kernel_rfl, ?_⟩) hHeld ?_
  rotate_left
  · intro W hS
    go_simp
    try rfl
  simp only [Act.put, List.setIfInBounds_toArray, List.set_cons_zero, List.set_cons_succ, List.getElem_toArray, List.getElem_cons_succ, List.getElem_cons_zero]
  refine wpAnyH_take (i := 3) (v := ?_) rfl (by kernel_rfl) (by kernel_rfl) (by kernel_rfl) (fun _ _ _ h => h) (Or.inl ⟨by kernel_rfl, ?_⟩) hHeld ?_
  rotate_left
  · intro W hS
    go_simp
    try rfl
  simp only [Act.put, List.setIfInBounds_toArray, List.set_cons_zero, List.set_cons_succ, List.getElem_toArray, List.getElem_cons_succ, List.getElem_cons_zero]
  refine wpAnyH_take (i := 4) (v := ?_) rfl (by kernel_rfl) (by kernel_rfl) (by kernel_rfl) (fun _ _ _ h => h) (Or.inl ⟨by kernel_rfl, ?_⟩) hHeld ?_
  rotate_left
  · intro W hS
    go_simp
    try rfl
  simp only [Act.put, List.setIfInBounds_toArray, List.set_cons_zero, List.set_cons_succ, List.getElem_toArray, List.getElem_cons_succ, List.getElem_cons_zero]
  refine wpAnyH_take (i := 5) (v := ?_) rfl (by kernel_rfl) (by kernel_rfl) (by kernel_rfl) (fun _ _ _ h => h) (Or.inl ⟨by kernel_rfl, ?_⟩) hHeld ?_
  rotate_left
  · intro W hS
    go_simp
    try rfl
  simp only [Act.put, List.setIfInBounds_toArray, List.set_cons_zero, List.set_cons_succ, List.getElem_toArray, List.getElem_cons_succ, List.getElem_cons_zero]
  refine wpAnyH_take (i := 6) (v := ?_) rfl (by kernel_rfl) (by kernel_rfl) (by kernel_rfl) (fun _ _ _ h => h) (Or.inl ⟨by kernel_rfl, ?_⟩) hHeld ?_
  rotate_left
  · intro W hS
    go_simp
    try rfl
  simp only [Act.put, List.setIfInBounds_toArray, List.set_cons_zero, List.set_cons_succ, List.getElem_toArray, List.getElem_cons_succ, List.getElem_cons_zero]
  refine wpAnyH_take (i := 7) (v := ?_) rfl (by kernel_rfl) (by kernel_rfl) (by kernel_rfl) (fun _ _ _ h => h) (Or.inl ⟨by kernel_rfl, ?_⟩) hHeld ?_
  rotate_left
  · intro W hS
    go_simp
    try rfl
  simp only [Act.put, List.setIfInBounds_toArray, List.set_cons_zero, List.set_cons_succ, List.getElem_toArray, List.getElem_cons_succ, List.getElem_cons_zero]
  refine wpAnyH_take (i := 8) (v := ?_) rfl (by kernel_rfl) (by kernel_rfl) (by kernel_rfl) (fun _ _ _ h => h) (Or.inl ⟨by kernel_rfl, ?_⟩) hHeld ?_
  rotate_left
  · intro W hS
    go_simp
    try rfl
  simp only [Act.put, List.setIfInBounds_toArray, List.set_cons_zero, List.set_cons_succ, List.getElem_toArray, List.getElem_cons_succ, List.getElem_cons_zero]
  refine wpAnyH_take (i := 9) (v := ?_) rfl (by kernel_rfl) (by kernel_rfl) (by kernel_rfl) (fun _ _ _ h => h) (Or.inl ⟨by kernel_rfl, ?_⟩) hHeld ?_
  rotate_left
  · intro W hS
    go_simp
    try rfl
  simp only [Act.put, List.setIfInBounds_toArray, List.set_cons_zero, List.set_cons_succ, List.getElem_toArray, List.getElem_cons_succ, List.getElem_cons_zero]
  refine wpAnyH_take (i := 10) (v := ?_) rfl (by kernel_rfl) (by kernel_rfl) (by kernel_rfl) (fun _ _ _ h => h) (Or.inl ⟨by kernel_rfl, ?_⟩) hHeld ?_
  rotate_left
  · intro W hS
    go_simp
    try rfl
  simp only [Act.put, List.setIfInBounds_toArray, List.set_cons_zero, List.set_cons_succ, List.getElem_toArray, List.getElem_cons_succ, List.getElem_cons_zero]
  refine wpAnyH_take (i := 11) (v := ?_) rfl (by kernel_rfl) (by kernel_rfl) (by kernel_rfl) (fun _ _ _ h => h) (Or.inl ⟨by kernel_rfl, ?_⟩) hHeld ?_
  rotate_left
  · intro W hS
    have c0 := hS.k.cell (i := 0) (v := .int .i64 o.k) rfl
    go_simp
    try rfl
  simp only [Act.put, List.setIfInBounds_toArray, List.set_cons_zero, List.set_cons_succ, List.getElem_toArray, List.getElem_cons_succ, List.getElem_cons_zero]
  refine wpAnyH_take (i := 12) (v := ?_) rfl (by kernel_rfl) (by kernel_rfl) (by kernel_rfl) (fun _ _ _ h => h) (Or.inl ⟨by kernel_rfl, ?_⟩) hHeld ?_
  rotate_left
  · intro W hS
    go_simp
    try rfl
  simp only [Act.put, List.setIfInBounds_toArray, List.set_cons_zero, List.set_cons_succ, List.getElem_toArray, List.getElem_cons_succ, List.getElem_cons_zero]
  refine wpAnyH_take (i := 13) (v := ?_) rfl (by kernel_rfl) (by kernel_rfl) (by kernel_rfl) (fun _ _ _ h => h) (Or.inl ⟨by kernel_rfl, ?_⟩) hHeld ?_
  rotate_left
  · intro W hS
    go_simp
    try rfl
  simp only [Act.put, List.setIfInBounds_toArray, List.set_cons_zero, List.set_cons_succ, List.getElem_toArray, List.getElem_cons_succ, List.getElem_cons_zero]
  refine wpAnyH_ready (rs := [14]) (by kernel_rfl) (by simp) ?_
  refine AllReadyH.cons rfl (fun K hK => ?_) AllReadyH.nil
  rw [if_pos (by kernel_rfl)]
  refine wp_store_row 28 _ _ rfl w0.heap.size (in16 ⟨46, 0, o, onZ, false, 0⟩) rfl rfl 28 z16 FD.z.h (szIn ⟨46, 0, o, onZ, false, 0⟩) z16_size (in16_one _) ?_
  have FZ := FD.done (FD.z.row (in16 ⟨46, 0, o, onZ, false, 0⟩)) (But.row1 _ _ _)
  have kZ := kD.rowOther (M := w0.heap.size) (in16 ⟨46, 0, o, onZ, false, 0⟩) (by omega)
  refine hK.out _ _ ⟨⟨_, _, in16 ⟨46, 0, o, onZ, false, 0⟩, in16_size _, FZ⟩, kZ⟩ (fun _ => ?_)
  clear hK K
  try simp only [Act.put, List.setIfInBounds_toArray, List.set_cons_zero, List.set_cons_succ, List.getElem_toArray, List.getElem_cons_succ, List.getElem_cons_zero]
  refine wpAnyH_take (i := 15) (v := ?_) rfl (by kernel_rfl) (by kernel_rfl) (by kernel_rfl) (fun _ _ _ h => h) (Or.inl ⟨by kernel_rfl, ?_⟩) ⟨⟨_, _, in16 ⟨46, 0, o, onZ, false, 0⟩, in16_size _, FZ⟩, kZ⟩ ?_
  rotate_left
  · intro W hS
    go_simp
    try rfl
  simp only [Act.put, List.setIfInBounds_toArray, List.set_cons_zero, List.set_cons_succ, List.getElem_toArray, List.getElem_cons_succ, List.getElem_cons_zero]
  refine wpAnyH_done (by kernel_rfl) ?_ _
  go_wp2_with fail
  exact bodyPost_ret (v := .tuple #[inV ⟨46, 0, o, onZ, false, 0⟩, .bool (u)]) (results_ct rfl _ _ w0.heap.size 28 (in16 ⟨46, 0, o, onZ, false, 0⟩) (0, 0) _ _ rfl rfl FZ.z.h Tryd.underlying28 rfl (szIn inZ)) rfl ⟨rfl, FZ.r, (But.of k01 [B]).trans (FZ.k.mono k01.size (fun _ h => .inl h))⟩
set_option maxRecDepth 100000 in
set_option maxHeartbeats 4000000 in
theorem rest_dd_no (R : Rs w N B a len cap zs p false false) (o : On) {n : Int} (h0 : ¬ n = 0) (h3 : ¬ n = 3) :
    Calls Tryd.prog 35 #[rp B, .int .u8 221, opV o, .int .i64 n] w fun e w' => e = .returned (.tuple #[inV ⟨45, 0, o, onZ, false, 0⟩, .bool (true)]) ∧ Rs w' N B a len cap zs (p) (false) false ∧ But [B] w.heap.size w w' := by
  have hB0 := R.lt
  have k01 := (Below.refl w.heap.size w).alloc (Nat.le_refl _) (.cells (op6 o) 26)
  have R1 := R.alloc (.cells (op6 o) 26)
  have kO := Blk.new w 26 (op6 o)
  have hKw : w.heap.size < (w.alloc (.cells (op6 o) 26)).heap.size := kO.lt
  have hs : (w.alloc (.cells (op6 o) 26)).heap.size = w.heap.size + 1 := by simp
  have F := RF.start R1 28 z16
  have kO1 := kO.alloc (.cells z16 28)
  have hBK : w.heap.size ∉ [B] := by simp; omega
  have e3 : (n == 3) = false := by simp [h3]
  have e0 : (n != 0) = true := by simp [h0]
  have e1 : (n != 3) = true := by simp [h3]
  clear h0 h3
  go_enter Tryd.func35, Tryd.ntmps35
  go_upto_region 1 with fail
  generalize (w.alloc (.cells (op6 o) 26)).alloc (.cells z16 28) = w1 at *
  rw [← hs]
  generalize w.alloc (.cells (op6 o) 26) = w0 at *
  clear hs
  go_upto_region 22 with fail
  have FD := F.drew
  have kD := kO1.drew
  refine wp_region_held_drew (S := fun W => OX w0 W N B a len cap zs false w.heap.size (o)) (by kernel_rfl) ⟨⟨_, _, z16, z16_size, FD⟩, kD⟩ (fun hHeld => ?_)
  generalize w1.drew = wd at *
  refine wpAnyH_take (i := 0) (v := ?_) rfl (by kernel_rfl) (by kernel_rfl) (by kernel_rfl) (fun _ _ _ h => h) (Or.inl ⟨by kernel_rfl, ?_⟩) hHeld ?_
  rotate_left
  · intro W hS
    go_simp
    try rfl
  simp only [Act.put, List.setIfInBounds_toArray, List.set_cons_zero, List.set_cons_succ, List.getElem_toArray, List.getElem_cons_succ, List.getElem_cons_zero]
  refine wpAnyH_take (i := 1) (v := opV (o)) rfl (by kernel_rfl) (by kernel_rfl) (by kernel_rfl) (fun _ _ _ h => h) (Or.inl ⟨by kernel_rfl, ?_⟩) hHeld ?_
  · intro W hS
    exact run_load_row (by rfl) (by rfl) 26 _ (0, 0) _ hS.k.h Tryd.underlying26 rfl (szOp onZ)
  simp only [Act.put, List.setIfInBounds_toArray, List.set_cons_zero, List.set_cons_succ]
  refine wpAnyH_take (i := 2) (v := ?_) rfl (by kernel_rfl) (by kernel_rfl) (by kernel_rfl) (fun _ _ _ h => h) (Or.inl ⟨by kernel_rfl, ?_⟩) hHeld ?_
  rotate_left
  · intro W hS
    go_simp
    try rfl
  simp only [Act.put, List.setIfInBounds_toArray, List.set_cons_zero, List.set_cons_succ, List.getElem_toArray, List.getElem_cons_succ, List.getElem_cons_zero]
  refine wpAnyH_take (i := 3) (v := ?_) rfl (by kernel_rfl) (by kernel_rfl) (by kernel_rfl) (fun _ _ _ h => h) (Or.inl ⟨by kernel_rfl, ?_⟩) hHeld ?_
  rotate_left
  · intro W hS
    go_simp
    try rfl
  simp only [Act.put, List.setIfInBounds_toArray, List.set_cons_zero, List.set_cons_succ, List.getElem_toArray, List.getElem_cons_succ, List.getElem_cons_zero]
  refine wpAnyH_take (i := 4) (v := ?_) rfl (by kernel_rfl) (by kernel_rfl) (by kernel_rfl) (fun _ _ _ h => h) (Or.inl ⟨by kernel_rfl, ?_⟩) hHeld ?_
  rotate_left
  · intro W hS
    go_simp
    try rfl
  simp only [Act.put, List.setIfInBounds_toArray, List.set_cons_zero, List.set_cons_succ, List.getElem_toArray, List.getElem_cons_succ, List.getElem_cons_zero]
  refine wpAnyH_take (i := 5) (v := ?_) rfl (by kernel_rfl) (by kernel_rfl) (by kernel_rfl) (fun _ _ _ h => h) (Or.inl ⟨by kernel_rfl, ?_⟩) hHeld ?_
  rotate_left
  · intro W hS
    go_simp
    try rfl
  simp only [Act.put, List.setIfInBounds_toArray, List.set_cons_zero, List.set_cons_succ, List.getElem_toArray, List.getElem_cons_succ, List.getElem_cons_zero]
  refine wpAnyH_take (i := 6) (v := ?_) rfl (by kernel_rfl) (by kernel_rfl) (by kernel_rfl) (fun _ _ _ h => h) (Or.inl ⟨by kernel_rfl, ?_⟩) hHeld ?_
  rotate_left
  · intro W hS
    go_simp
    try rfl
  simp only [Act.put, List.setIfInBounds_toArray, List.set_cons_zero, List.set_cons_succ, List.getElem_toArray, List.getElem_cons_succ, List.getElem_cons_zero]
  refine wpAnyH_take (i := 7) (v := ?_) rfl (by kernel_rfl) (by kernel_rfl) (by kernel_rfl) (fun _ _ _ h => h) (Or.inl ⟨by kernel_rfl, ?_⟩) hHeld ?_
  rotate_left
  · intro W hS
    go_simp
    try rfl
  simp only [Act.put, List.setIfInBounds_toArray, List.set_cons_zero, List.set_cons_succ, List.getElem_toArray, List.getElem_cons_succ, List.getElem_cons_zero]
  refine wpAnyH_take (i := 8) (v := ?_) rfl (by kernel_rfl) (by kernel_rfl) (by kernel_rfl) (fun _ _ _ h => h) (Or.inl ⟨by kernel_rfl, ?_⟩) hHeld ?_
  rotate_left
  · intro W hS
    go_simp
    try rfl
  simp only [Act.put, List.setIfInBounds_toArray, List.set_cons_zero, List.set_cons_succ, List.getElem_toArray, List.getElem_cons_succ, List.getElem_cons_zero]
  refine wpAnyH_take (i := 9) (v := ?_) rfl (by kernel_rfl) (by kernel_rfl) (by kernel_rfl) (fun _ _ _ h => h) (Or.inl ⟨by kernel_rfl, ?_⟩) hHeld ?_
  rotate_left
  · intro W hS
    go_simp
    try rfl
  simp only [Act.put, List.setIfInBounds_toArray, List.set_cons_zero, List.set_cons_succ, List.getElem_toArray, List.getElem_cons_succ, List.getElem_cons_zero]
  refine wpAnyH_take (i := 10) (v := undef) rfl (by kernel_rfl) (by kernel_rfl) (by kernel_rfl) (fun _ _ _ h => h) (Or.inr ⟨by kernel_rfl, rfl⟩) hHeld ?_
  simp only [Act.put, List.setIfInBounds_toArray, List.set_cons_zero, List.set_cons_succ]
  refine wpAnyH_take (i := 11) (v := undef) rfl (by kernel_rfl) (by kernel_rfl) (by kernel_rfl) (fun _ _ _ h => h) (Or.inr ⟨by kernel_rfl, rfl⟩) hHeld ?_
  simp only [Act.put, List.setIfInBounds_toArray, List.set_cons_zero, List.set_cons_succ]
  refine wpAnyH_take (i := 12) (v := undef) rfl (by kernel_rfl) (by kernel_rfl) (by kernel_rfl) (fun _ _ _ h => h) (Or.inr ⟨by kernel_rfl, rfl⟩) hHeld ?_
  simp only [Act.put, List.setIfInBounds_toArray, List.set_cons_zero, List.set_cons_succ]
  refine wpAnyH_take (i := 13) (v := ?_) rfl (by kernel_rfl) (by kernel_rfl) (by kernel_rfl) (fun _ _ _ h => h) (Or.inl ⟨by kernel_rfl, ?_⟩) hHeld ?_
  rotate_left
  · intro W hS
    go_simp
    try rfl
  simp only [Act.put, List.setIfInBounds_toArray, List.set_cons_zero, List.set_cons_succ, List.getElem_toArray, List.getElem_cons_succ, List.getElem_cons_zero]
  refine wpAnyH_ready (rs := [14]) (by kernel_rfl) (by simp) ?_
  refine AllReadyH.cons rfl (fun K hK => ?_) AllReadyH.nil
  rw [if_pos (by kernel_rfl)]
  refine wp_store_row 28 _ _ rfl w0.heap.size (in16 ⟨45, 0, o, onZ, false, 0⟩) rfl rfl 28 z16 FD.z.h (szIn ⟨45, 0, o, onZ, false, 0⟩) z16_size (in16_one _) ?_
  have FZ := FD.done (FD.z.row (in16 ⟨45, 0, o, onZ, false, 0⟩)) (But.row1 _ _ _)
  have kZ := kD.rowOther (M := w0.heap.size) (in16 ⟨45, 0, o, onZ, false, 0⟩) (by omega)
  refine hK.out _ _ ⟨⟨_, _, in16 ⟨45, 0, o, onZ, false, 0⟩, in16_size _, FZ⟩, kZ⟩ (fun _ => ?_)
  clear hK K
  try simp only [Act.put, List.setIfInBounds_toArray, List.set_cons_zero, List.set_cons_succ, List.getElem_toArray, List.getElem_cons_succ, List.getElem_cons_zero]
  refine wpAnyH_take (i := 15) (v := ?_) rfl (by kernel_rfl) (by kernel_rfl) (by kernel_rfl) (fun _ _ _ h => h) (Or.inl ⟨by kernel_rfl, ?_⟩) ⟨⟨_, _, in16 ⟨45, 0, o, onZ, false, 0⟩, in16_size _, FZ⟩, kZ⟩ ?_
  rotate_left
  · intro W hS
    go_simp
    try rfl
  simp only [Act.put, List.setIfInBounds_toArray, List.set_cons_zero, List.set_cons_succ, List.getElem_toArray, List.getElem_cons_succ, List.getElem_cons_zero]
  refine wpAnyH_done (by kernel_rfl) ?_ _
  go_wp2_with fail
  exact bodyPost_ret (v := .tuple #[inV ⟨45, 0, o, onZ, false, 0⟩, .bool (true)]) (results_ct rfl _ _ w0.heap.size 28 (in16 ⟨45, 0, o, onZ, false, 0⟩) (0, 0) _ _ rfl rfl FZ.z.h Tryd.underlying28 rfl (szIn inZ)) rfl ⟨rfl, FZ.r, (But.of k01 [B]).trans (FZ.k.mono k01.size (fun _ h => .inl h))⟩
set_option maxRecDepth 100000 in
set_option maxHeartbeats 4000000 in
theorem rest_f7_0 (R : Rs w N B a len cap zs p false false) (o : On)  :
    Calls Tryd.prog 35 #[rp B, .int .u8 247, opV o, .int .i64 0] w fun e w' => e = .returned (.tuple #[inV ⟨11, 0, o, onImm (le4 zs p), false, 0⟩, .bool (false)]) ∧ Rs w' N B a len cap zs (nx zs p 4) (so zs p 4 false) false ∧ But [B] w.heap.size w w' := by
  have hB0 := R.lt
  have k01 := (Below.refl w.heap.size w).alloc (Nat.le_refl _) (.cells (op6 o) 26)
  have R1 := R.alloc (.cells (op6 o) 26)
  have kO := Blk.new w 26 (op6 o)
  have hKw : w.heap.size < (w.alloc (.cells (op6 o) 26)).heap.size := kO.lt
  have hs : (w.alloc (.cells (op6 o) 26)).heap.size = w.heap.size + 1 := by simp
  have F := RF.start R1 28 z16
  have kO1 := kO.alloc (.cells z16 28)
  have hBK : w.heap.size ∉ [B] := by simp; omega
  have hX := Lib.hid (fun W (R : Rs W N B a len cap zs p false false) => word_ref R)
  generalize le4 zs p = v at *
  generalize nx zs p 4 = q at *
  generalize so zs p 4 false = s at *
  have hI := Lib.hid (fun W => imm_any v W)
  go_enter Tryd.func35, Tryd.ntmps35
  go_upto_region 1 with fail
  generalize (w.alloc (.cells (op6 o) 26)).alloc (.cells z16 28) = w1 at *
  rw [← hs]
  generalize w.alloc (.cells (op6 o) 26) = w0 at *
  clear hs
  have hK1 := kO1.lt
  go_upto_region 25 with fail
  have hM1 := F.lt
  have b2 := (Below.refl w1.heap.size w1).alloc (Nat.le_refl _) (.cells f7A 40)
  have F2 := F.below b2
  have kO2 := kO1.below b2 kO1.lt
  have mO := Blk.new w1 40 f7A
  generalize w1.alloc (.cells f7A 40) = w2 at *
  generalize hM : w1.heap.size = M at *
  go_upto_region 26 with fail
  have FD := F2.drew
  have kD := kO2.drew
  refine wp_region_held_drew (S := fun W => OX w0 W N B a len cap zs false w.heap.size (o)) (by kernel_rfl) ⟨⟨_, _, z16, z16_size, FD⟩, kD⟩ (fun hHeld => ?_)
  generalize w2.drew = wd at *
  refine wpAnyH_take (i := 0) (v := opV (o)) rfl (by kernel_rfl) (by kernel_rfl) (by kernel_rfl) (fun _ _ _ h => h) (Or.inl ⟨by kernel_rfl, ?_⟩) hHeld ?_
  · intro W hS
    exact run_load_row (by rfl) (by rfl) 26 _ (0, 0) _ hS.k.h Tryd.underlying26 rfl (szOp onZ)
  simp only [Act.put, List.setIfInBounds_toArray, List.set_cons_zero, List.set_cons_succ]
  refine wpAnyH_take (i := 1) (v := ?_) rfl (by kernel_rfl) (by kernel_rfl) (by kernel_rfl) (fun _ _ _ h => h) (Or.inl ⟨by kernel_rfl, ?_⟩) hHeld ?_
  rotate_left
  · intro W hS
    go_simp
    try rfl
  simp only [Act.put, List.setIfInBounds_toArray, List.set_cons_zero, List.set_cons_succ, List.getElem_toArray, List.getElem_cons_succ, List.getElem_cons_zero]
  refine wpAnyH_ready (rs := [2]) (by kernel_rfl) (by simp) ?_
  refine AllReadyH.cons rfl (fun K hK => ?_) AllReadyH.nil
  go_simp
  with_reducible refine (hX.out _ FD.r).mono ?_
  rintro e wd2 ⟨rfl, RR2, bb2⟩
  have FD2 := FD.read RR2 bb2
  have kD2 := kD.but bb2 kD.lt hBK
  refine hK.out _ _ ⟨⟨_, _, z16, z16_size, FD2⟩, kD2⟩ (fun _ => ?_)
  clear hK K
  try simp only [Act.put, List.setIfInBounds_toArray, List.set_cons_zero, List.set_cons_succ]
  refine wpAnyH_ready (rs := [3]) (by kernel_rfl) (by simp) ?_
  refine AllReadyH.cons rfl (fun K hK => ?_) AllReadyH.nil
  go_simp
  with_reducible refine (hI.out _).mono ?_
  rintro e wd3 ⟨rfl, bb3⟩
  have FD3 := FD2.below bb3
  have kD3 := kD2.below bb3 kD2.lt
  refine hK.out _ _ ⟨⟨_, _, z16, z16_size, FD3⟩, kD3⟩ (fun _ => ?_)
  clear hK K
  try simp only [Act.put, List.setIfInBounds_toArray, List.set_cons_zero, List.set_cons_succ]
  refine wpAnyH_take (i := 4) (v := ?_) rfl (by kernel_rfl) (by kernel_rfl) (by kernel_rfl) (fun _ _ _ h => h) (Or.inl ⟨by kernel_rfl, ?_⟩) ⟨⟨_, _, z16, z16_size, FD3⟩, kD3⟩ ?_
  rotate_left
  · intro W hS
    go_simp
    try rfl
  simp only [Act.put, List.setIfInBounds_toArray, List.set_cons_zero, List.set_cons_succ, List.getElem_toArray, List.getElem_cons_succ, List.getElem_cons_zero]
  refine wpAnyH_ready (rs := [5]) (by kernel_rfl) (by simp) ?_
  refine AllReadyH.cons rfl (fun K hK => ?_) AllReadyH.nil
  rw [if_pos (by kernel_rfl)]
  refine wp_store_row 28 _ _ rfl w0.heap.size (in16 ⟨11, 0, o, onImm v, false, 0⟩) rfl rfl 28 z16 FD3.z.h (szIn ⟨11, 0, o, onImm v, false, 0⟩) z16_size (in16_one _) ?_
  have FZ := FD3.done (FD3.z.row (in16 ⟨11, 0, o, onImm v, false, 0⟩)) (But.row1 _ _ _)
  have kZ := kD3.rowOther (M := w0.heap.size) (in16 ⟨11, 0, o, onImm v, false, 0⟩) (by omega)
  refine hK.out _ _ ⟨⟨_, _, in16 ⟨11, 0, o, onImm v, false, 0⟩, in16_size _, FZ⟩, kZ⟩ (fun _ => ?_)
  clear hK K
  try simp only [Act.put, List.setIfInBounds_toArray, List.set_cons_zero, List.set_cons_succ, List.getElem_toArray, List.getElem_cons_succ, List.getElem_cons_zero]
  refine wpAnyH_take (i := 6) (v := ?_) rfl (by kernel_rfl) (by kernel_rfl) (by kernel_rfl) (fun _ _ _ h => h) (Or.inl ⟨by kernel_rfl, ?_⟩) ⟨⟨_, _, in16 ⟨11, 0, o, onImm v, false, 0⟩, in16_size _, FZ⟩, kZ⟩ ?_
  rotate_left
  · intro W hS
    go_simp
    try rfl
  simp only [Act.put, List.setIfInBounds_toArray, List.set_cons_zero, List.set_cons_succ, List.getElem_toArray, List.getElem_cons_succ, List.getElem_cons_zero]
  refine wpAnyH_done (by kernel_rfl) ?_ _
  go_wp2_with fail
  exact bodyPost_ret (v := .tuple #[inV ⟨11, 0, o, onImm v, false, 0⟩, .bool (false)]) (results_ct rfl _ _ w0.heap.size 28 (in16 ⟨11, 0, o, onImm v, false, 0⟩) (0, 0) _ _ rfl rfl FZ.z.h Tryd.underlying28 rfl (szIn inZ)) rfl ⟨rfl, FZ.r, (But.of k01 [B]).trans (FZ.k.mono k01.size (fun _ h => .inl h))⟩
set_option maxRecDepth 100000 in
set_option maxHeartbeats 4000000 in
theorem rest_f7_1 (R : Rs w N B a len cap zs p false false) (o : On)  :
    Calls Tryd.prog 35 #[rp B, .int .u8 247, opV o, .int .i64 1] w fun e w' => e = .returned (.tuple #[inV ⟨0, 0, o, onZ, false, 0⟩, .bool (true)]) ∧ Rs w' N B a len cap zs (p) (false) false ∧ But [B] w.heap.size w w' := by
  have hB0 := R.lt
  have k01 := (Below.refl w.heap.size w).alloc (Nat.le_refl _) (.cells (op6 o) 26)
  have R1 := R.alloc (.cells (op6 o) 26)
  have kO := Blk.new w 26 (op6 o)
  have hKw : w.heap.size < (w.alloc (.cells (op6 o) 26)).heap.size := kO.lt
  have hs : (w.alloc (.cells (op6 o) 26)).heap.size = w.heap.size + 1 := by simp
  have F := RF.start R1 28 z16
  have kO1 := kO.alloc (.cells z16 28)
  have hBK : w.heap.size ∉ [B] := by simp; omega
  go_enter Tryd.func35, Tryd.ntmps35
  go_upto_region 1 with fail
  generalize (w.alloc (.cells (op6 o) 26)).alloc (.cells z16 28) = w1 at *
  rw [← hs]
  generalize w.alloc (.cells (op6 o) 26) = w0 at *
  clear hs
  have hK1 := kO1.lt
  go_upto_region 25 with fail
  have hM1 := F.lt
  have b2 := (Below.refl w1.heap.size w1).alloc (Nat.le_refl _) (.cells f7A 40)
  have F2 := F.below b2
  have kO2 := kO1.below b2 kO1.lt
  have mO := Blk.new w1 40 f7A
  generalize w1.alloc (.cells f7A 40) = w2 at *
  generalize hM : w1.heap.size = M at *
  go_upto_region 27 with fail
  have FD := F2.drew
  have kD := kO2.drew
  have mD := mO.drew
  refine wp_region_held_drew (S := fun W => OX w0 W N B a len cap zs false w.heap.size (o) ∧ Blk W M 40 f7A) (by kernel_rfl) ⟨⟨⟨_, _, z16, z16_size, FD⟩, kD⟩, mD⟩ (fun hHeld => ?_)
  generalize w2.drew = wd at *
  refine wpAnyH_take (i := 0) (v := ?_) rfl (by kernel_rfl) (by kernel_rfl) (by kernel_rfl) (fun _ _ _ h => h) (Or.inl ⟨by kernel_rfl, ?_⟩) hHeld ?_
  rotate_left
  · intro W hS
    go_simp
    try rfl
  simp only [Act.put, List.setIfInBounds_toArray, List.set_cons_zero, List.set_cons_succ, List.getElem_toArray, List.getElem_cons_succ, List.getElem_cons_zero]
  refine wpAnyH_take (i := 1) (v := ?_) rfl (by kernel_rfl) (by kernel_rfl) (by kernel_rfl) (fun _ _ _ h => h) (Or.inl ⟨by kernel_rfl, ?_⟩) hHeld ?_
  rotate_left
  · intro W hS
    go_simp
    try rfl
  simp only [Act.put, List.setIfInBounds_toArray, List.set_cons_zero, List.set_cons_succ, List.getElem_toArray, List.getElem_cons_succ, List.getElem_cons_zero]
  refine wpAnyH_take (i := 2) (v := ?_) rfl (by kernel_rfl) (by kernel_rfl) (by kernel_rfl) (fun _ _ _ h => h) (Or.inl ⟨by kernel_rfl, ?_⟩) hHeld ?_
  rotate_left
  · intro W hS
    have c0 := hS.2.cell (i := 1) rfl
    go_simp
    try rfl
  simp only [Act.put, List.setIfInBounds_toArray, List.set_cons_zero, List.set_cons_succ, List.getElem_toArray, List.getElem_cons_succ, List.getElem_cons_zero]
  refine wpAnyH_take (i := 3) (v := opV (o)) rfl (by kernel_rfl) (by kernel_rfl) (by kernel_rfl) (fun _ _ _ h => h) (Or.inl ⟨by kernel_rfl, ?_⟩) hHeld ?_
  · intro W hS
    exact run_load_row (by rfl) (by rfl) 26 _ (0, 0) _ hS.1.k.h Tryd.underlying26 rfl (szOp onZ)
  simp only [Act.put, List.setIfInBounds_toArray, List.set_cons_zero, List.set_cons_succ]
  refine wpAnyH_take (i := 4) (v := ?_) rfl (by kernel_rfl) (by kernel_rfl) (by kernel_rfl) (fun _ _ _ h => h) (Or.inl ⟨by kernel_rfl, ?_⟩) hHeld ?_
  rotate_left
  · intro W hS
    go_simp
    try rfl
  simp only [Act.put, List.setIfInBounds_toArray, List.set_cons_zero, List.set_cons_succ, List.getElem_toArray, List.getElem_cons_succ, List.getElem_cons_zero]
  refine wpAnyH_take (i := 5) (v := ?_) rfl (by kernel_rfl) (by kernel_rfl) (by kernel_rfl) (fun _ _ _ h => h) (Or.inl ⟨by kernel_rfl, ?_⟩) hHeld ?_
  rotate_left
  · intro W hS
    go_simp
    try rfl
  simp only [Act.put, List.setIfInBounds_toArray, List.set_cons_zero, List.set_cons_succ, List.getElem_toArray, List.getElem_cons_succ, List.getElem_cons_zero]
  refine wpAnyH_take (i := 6) (v := ?_) rfl (by kernel_rfl) (by kernel_rfl) (by kernel_rfl) (fun _ _ _ h => h) (Or.inl ⟨by kernel_rfl, ?_⟩) hHeld ?_
  rotate_left
  · intro W hS
    go_simp
    try rfl
  simp only [Act.put, List.setIfInBounds_toArray, List.set_cons_zero, List.set_cons_succ, List.getElem_toArray, List.getElem_cons_succ, List.getElem_cons_zero]
  refine wpAnyH_take (i := 7) (v := ?_) rfl (by kernel_rfl) (by kernel_rfl) (by kernel_rfl) (fun _ _ _ h => h) (Or.inl ⟨by kernel_rfl, ?_⟩) hHeld ?_
  rotate_left
  · intro W hS
    have c0 := hS.2.cell (i := 1) rfl
    go_simp
    try rfl
  simp only [Act.put, List.setIfInBounds_toArray, List.set_cons_zero, List.set_cons_succ, List.getElem_toArray, List.getElem_cons_succ, List.getElem_cons_zero]
  refine wpAnyH_take (i := 8) (v := ?_) rfl (by kernel_rfl) (by kernel_rfl) (by kernel_rfl) (fun _ _ _ h => h) (Or.inl ⟨by kernel_rfl, ?_⟩) hHeld ?_
  rotate_left
  · intro W hS
    go_simp
    try rfl
  simp only [Act.put, List.setIfInBounds_toArray, List.set_cons_zero, List.set_cons_succ, List.getElem_toArray, List.getElem_cons_succ, List.getElem_cons_zero]
  refine wpAnyH_ready (rs := [9]) (by kernel_rfl) (by simp) ?_
  refine AllReadyH.cons rfl (fun K hK => ?_) AllReadyH.nil
  rw [if_pos (by kernel_rfl)]
  refine wp_store_row 28 _ _ rfl w0.heap.size (in16 ⟨0, 0, o, onZ, false, 0⟩) rfl rfl 28 z16 FD.z.h (szIn ⟨0, 0, o, onZ, false, 0⟩) z16_size (in16_one _) ?_
  have FZ := FD.done (FD.z.row (in16 ⟨0, 0, o, onZ, false, 0⟩)) (But.row1 _ _ _)
  have kZ := kD.rowOther (M := w0.heap.size) (in16 ⟨0, 0, o, onZ, false, 0⟩) (by omega)
  have mZ := mD.rowOther (M := w0.heap.size) (in16 ⟨0, 0, o, onZ, false, 0⟩) (by omega)
  refine hK.out _ _ ⟨⟨⟨_, _, in16 ⟨0, 0, o, onZ, false, 0⟩, in16_size _, FZ⟩, kZ⟩, mZ⟩ (fun _ => ?_)
  clear hK K
  try simp only [Act.put, List.setIfInBounds_toArray, List.set_cons_zero, List.set_cons_succ, List.getElem_toArray, List.getElem_cons_succ, List.getElem_cons_zero]
  refine wpAnyH_take (i := 10) (v := ?_) rfl (by kernel_rfl) (by kernel_rfl) (by kernel_rfl) (fun _ _ _ h => h) (Or.inl ⟨by kernel_rfl, ?_⟩) ⟨⟨⟨_, _, in16 ⟨0, 0, o, onZ, false, 0⟩, in16_size _, FZ⟩, kZ⟩, mZ⟩ ?_
  rotate_left
  · intro W hS
    go_simp
    try rfl
  simp only [Act.put, List.setIfInBounds_toArray, List.set_cons_zero, List.set_cons_succ, List.getElem_toArray, List.getElem_cons_succ, List.getElem_cons_zero]
  refine wpAnyH_done (by kernel_rfl) ?_ _
  go_wp2_with fail
  exact bodyPost_ret (v := .tuple #[inV ⟨0, 0, o, onZ, false, 0⟩, .bool (true)]) (results_ct rfl _ _ w0.heap.size 28 (in16 ⟨0, 0, o, onZ, false, 0⟩) (0, 0) _ _ rfl rfl FZ.z.h Tryd.underlying28 rfl (szIn inZ)) rfl ⟨rfl, FZ.r, (But.of k01 [B]).trans (FZ.k.mono k01.size (fun _ h => .inl h))⟩
set_option maxRecDepth 100000 in
set_option maxHeartbeats 4000000 in
theorem rest_f7_2 (R : Rs w N B a len cap zs p false false) (o : On)  :
    Calls Tryd.prog 35 #[rp B, .int .u8 247, opV o, .int .i64 2] w fun e w' => e = .returned (.tuple #[inV ⟨14, 0, o, onZ, false, 0⟩, .bool (false)]) ∧ Rs w' N B a len cap zs (p) (false) false ∧ But [B] w.heap.size w w' := by
  have hB0 := R.lt
  have k01 := (Below.refl w.heap.size w).alloc (Nat.le_refl _) (.cells (op6 o) 26)
  have R1 := R.alloc (.cells (op6 o) 26)
  have kO := Blk.new w 26 (op6 o)
  have hKw : w.heap.size < (w.alloc (.cells (op6 o) 26)).heap.size := kO.lt
  have hs : (w.alloc (.cells (op6 o) 26)).heap.size = w.heap.size + 1 := by simp
  have F := RF.start R1 28 z16
  have kO1 := kO.alloc (.cells z16 28)
  have hBK : w.heap.size ∉ [B] := by simp; omega
  go_enter Tryd.func35, Tryd.ntmps35
  go_upto_region 1 with fail
  generalize (w.alloc (.cells (op6 o) 26)).alloc (.cells z16 28) = w1 at *
  rw [← hs]
  generalize w.alloc (.cells (op6 o) 26) = w0 at *
  clear hs
  have hK1 := kO1.lt
  go_upto_region 25 with fail
  have hM1 := F.lt
  have b2 := (Below.refl w1.heap.size w1).alloc (Nat.le_refl _) (.cells f7A 40)
  have F2 := F.below b2
  have kO2 := kO1.below b2 kO1.lt
  have mO := Blk.new w1 40 f7A
  generalize w1.alloc (.cells f7A 40) = w2 at *
  generalize hM : w1.heap.size = M at *
  go_upto_region 27 with fail
  have FD := F2.drew
  have kD := kO2.drew
  have mD := mO.drew
  refine wp_region_held_drew (S := fun W => OX w0 W N B a len cap zs false w.heap.size (o) ∧ Blk W M 40 f7A) (by kernel_rfl) ⟨⟨⟨_, _, z16, z16_size, FD⟩, kD⟩, mD⟩ (fun hHeld => ?_)
  generalize w2.drew = wd at *
  refine wpAnyH_take (i := 0) (v := ?_) rfl (by kernel_rfl) (by kernel_rfl) (by kernel_rfl) (fun _ _ _ h => h) (Or.inl ⟨by kernel_rfl, ?_⟩) hHeld ?_
  rotate_left
  · intro W hS
    go_simp
    try rfl
  simp only [Act.put, List.setIfInBounds_toArray, List.set_cons_zero, List.set_cons_succ, List.getElem_toArray, List.getElem_cons_succ, List.getElem_cons_zero]
  refine wpAnyH_take (i := 1) (v := ?_) rfl (by kernel_rfl) (by kernel_rfl) (by kernel_rfl) (fun _ _ _ h => h) (Or.inl ⟨by kernel_rfl, ?_⟩) hHeld ?_
  rotate_left
  · intro W hS
    go_simp
    try rfl
  simp only [Act.put, List.setIfInBounds_toArray, List.set_cons_zero, List.set_cons_succ, List.getElem_toArray, List.getElem_cons_succ, List.getElem_cons_zero]
  refine wpAnyH_take (i := 2) (v := ?_) rfl (by kernel_rfl) (by kernel_rfl) (by kernel_rfl) (fun _ _ _ h => h) (Or.inl ⟨by kernel_rfl, ?_⟩) hHeld ?_
  rotate_left
  · intro W hS
    have c0 := hS.2.cell (i := 2) rfl
    go_simp
    try rfl
  simp only [Act.put, List.setIfInBounds_toArray, List.set_cons_zero, List.set_cons_succ, List.getElem_toArray, List.getElem_cons_succ, List.getElem_cons_zero]
  refine wpAnyH_take (i := 3) (v := opV (o)) rfl (by kernel_rfl) (by kernel_rfl) (by kernel_rfl) (fun _ _ _ h => h) (Or.inl ⟨by kernel_rfl, ?_⟩) hHeld ?_
  · intro W hS
    exact run_load_row (by rfl) (by rfl) 26 _ (0, 0) _ hS.1.k.h Tryd.underlying26 rfl (szOp onZ)
  simp only [Act.put, List.setIfInBounds_toArray, List.set_cons_zero, List.set_cons_succ]
  refine wpAnyH_take (i := 4) (v := ?_) rfl (by kernel_rfl) (by kernel_rfl) (by kernel_rfl) (fun _ _ _ h => h) (Or.inl ⟨by kernel_rfl, ?_⟩) hHeld ?_
  rotate_left
  · intro W hS
    go_simp
    try rfl
  simp only [Act.put, List.setIfInBounds_toArray, List.set_cons_zero, List.set_cons_succ, List.getElem_toArray, List.getElem_cons_succ, List.getElem_cons_zero]
  refine wpAnyH_take (i := 5) (v := ?_) rfl (by kernel_rfl) (by kernel_rfl) (by kernel_rfl) (fun _ _ _ h => h) (Or.inl ⟨by kernel_rfl, ?_⟩) hHeld ?_
  rotate_left
  · intro W hS
    go_simp
    try rfl
  simp only [Act.put, List.setIfInBounds_toArray, List.set_cons_zero, List.set_cons_succ, List.getElem_toArray, List.getElem_cons_succ, List.getElem_cons_zero]
  refine wpAnyH_take (i := 6) (v := ?_) rfl (by kernel_rfl) (by kernel_rfl) (by kernel_rfl) (fun _ _ _ h => h) (Or.inl ⟨by kernel_rfl, ?_⟩) hHeld ?_
  rotate_left
  · intro W hS
    go_simp
    try rfl
  simp only [Act.put, List.setIfInBounds_toArray, List.set_cons_zero, List.set_cons_succ, List.getElem_toArray, List.getElem_cons_succ, List.getElem_cons_zero]
  refine wpAnyH_take (i := 7) (v := ?_) rfl (by kernel_rfl) (by kernel_rfl) (by kernel_rfl) (fun _ _ _ h => h) (Or.inl ⟨by kernel_rfl, ?_⟩) hHeld ?_
  rotate_left
  · intro W hS
    have c0 := hS.2.cell (i := 2) rfl
    go_simp
    try rfl
  simp only [Act.put, List.setIfInBounds_toArray, List.set_cons_zero, List.set_cons_succ, List.getElem_toArray, List.getElem_cons_succ, List.getElem_cons_zero]
  refine wpAnyH_take (i := 8) (v := ?_) rfl (by kernel_rfl) (by kernel_rfl) (by kernel_rfl) (fun _ _ _ h => h) (Or.inl ⟨by kernel_rfl, ?_⟩) hHeld ?_
  rotate_left
  · intro W hS
    go_simp
    try rfl
  simp only [Act.put, List.setIfInBounds_toArray, List.set_cons_zero, List.set_cons_succ, List.getElem_toArray, List.getElem_cons_succ, List.getElem_cons_zero]
  refine wpAnyH_ready (rs := [9]) (by kernel_rfl) (by simp) ?_
  refine AllReadyH.cons rfl (fun K hK => ?_) AllReadyH.nil
  rw [if_pos (by kernel_rfl)]
  refine wp_store_row 28 _ _ rfl w0.heap.size (in16 ⟨14, 0, o, onZ, false, 0⟩) rfl rfl 28 z16 FD.z.h (szIn ⟨14, 0, o, onZ, false, 0⟩) z16_size (in16_one _) ?_
  have FZ := FD.done (FD.z.row (in16 ⟨14, 0, o, onZ, false, 0⟩)) (But.row1 _ _ _)
  have kZ := kD.rowOther (M := w0.heap.size) (in16 ⟨14, 0, o, onZ, false, 0⟩) (by omega)
  have mZ := mD.rowOther (M := w0.heap.size) (in16 ⟨14, 0, o, onZ, false, 0⟩) (by omega)
  refine hK.out _ _ ⟨⟨⟨_, _, in16 ⟨14, 0, o, onZ, false, 0⟩, in16_size _, FZ⟩, kZ⟩, mZ⟩ (fun _ => ?_)
  clear hK K
  try simp only [Act.put, List.setIfInBounds_toArray, List.set_cons_zero, List.set_cons_succ, List.getElem_toArray, List.getElem_cons_succ, List.getElem_cons_zero]
  refine wpAnyH_take (i := 10) (v := ?_) rfl (by kernel_rfl) (by kernel_rfl) (by kernel_rfl) (fun _ _ _ h => h) (Or.inl ⟨by kernel_rfl, ?_⟩) ⟨⟨⟨_, _, in16 ⟨14, 0, o, onZ, false, 0⟩, in16_size _, FZ⟩, kZ⟩, mZ⟩ ?_
  rotate_left
  · intro W hS
    go_simp
    try rfl
  simp only [Act.put, List.setIfInBounds_toArray, List.set_cons_zero, List.set_cons_succ, List.getElem_toArray, List.getElem_cons_succ, List.getElem_cons_zero]
  refine wpAnyH_done (by kernel_rfl) ?_ _
  go_wp2_with fail
  exact bodyPost_ret (v := .tuple #[inV ⟨14, 0, o, onZ, false, 0⟩, .bool (false)]) (results_ct rfl _ _ w0.heap.size 28 (in16 ⟨14, 0, o, onZ, false, 0⟩) (0, 0) _ _ rfl rfl FZ.z.h Tryd.underlying28 rfl (szIn inZ)) rfl ⟨rfl, FZ.r, (But.of k01 [B]).trans (FZ.k.mono k01.size (fun _ h => .inl h))⟩
set_option maxRecDepth 100000 in
set_option maxHeartbeats 4000000 in
theorem rest_f7_3 (R : Rs w N B a len cap zs p false false) (o : On)  :
    Calls Tryd.prog 35 #[rp B, .int .u8 247, opV o, .int .i64 3] w fun e w' => e = .returned (.tuple #[inV ⟨15, 0, o, onZ, false, 0⟩, .bool (false)]) ∧ Rs w' N B a len cap zs (p) (false) false ∧ But [B] w.heap.size w w' := by
  have hB0 := R.lt
  have k01 := (Below.refl w.heap.size w).alloc (Nat.le_refl _) (.cells (op6 o) 26)
  have R1 := R.alloc (.cells (op6 o) 26)
  have kO := Blk.new w 26 (op6 o)
  have hKw : w.heap.size < (w.alloc (.cells (op6 o) 26)).heap.size := kO.lt
  have hs : (w.alloc (.cells (op6 o) 26)).heap.size = w.heap.size + 1 := by simp
  have F := RF.start R1 28 z16
  have kO1 := kO.alloc (.cells z16 28)
  have hBK : w.heap.size ∉ [B] := by simp; omega
  go_enter Tryd.func35, Tryd.ntmps35
  go_upto_region 1 with fail
  generalize (w.alloc (.cells (op6 o) 26)).alloc (.cells z16 28) = w1 at *
  rw [← hs]
  generalize w.alloc (.cells (op6 o) 26) = w0 at *
  clear hs
  have hK1 := kO1.lt
  go_upto_region 25 with fail
  have hM1 := F.lt
  have b2 := (Below.refl w1.heap.size w1).alloc (Nat.le_refl _) (.cells f7A 40)
  have F2 := F.below b2
  have kO2 := kO1.below b2 kO1.lt
  have mO := Blk.new w1 40 f7A
  generalize w1.alloc (.cells f7A 40) = w2 at *
  generalize hM : w1.heap.size = M at *
  go_upto_region 27 with fail
  have FD := F2.drew
  have kD := kO2.drew
  have mD := mO.drew
  refine wp_region_held_drew (S := fun W => OX w0 W N B a len cap zs false w.heap.size (o) ∧ Blk W M 40 f7A) (by kernel_rfl) ⟨⟨⟨_, _, z16, z16_size, FD⟩, kD⟩, mD⟩ (fun hHeld => ?_)
  generalize w2.drew = wd at *
  refine wpAnyH_take (i := 0) (v := ?_) rfl (by kernel_rfl) (by kernel_rfl) (by kernel_rfl) (fun _ _ _ h => h) (Or.inl ⟨by kernel_rfl, ?_⟩) hHeld ?_
  rotate_left
  · intro W hS
    go_simp
    try rfl
  simp only [Act.put, List.setIfInBounds_toArray, List.set_cons_zero, List.set_cons_succ, List.getElem_toArray, List.getElem_cons_succ, List.getElem_cons_zero]
  refine wpAnyH_take (i := 1) (v := ?_) rfl (by kernel_rfl) (by kernel_rfl) (by kernel_rfl) (fun _ _ _ h => h) (Or.inl ⟨by kernel_rfl, ?_⟩) hHeld ?_
  rotate_left
  · intro W hS
    go_simp
    try rfl
  simp only [Act.put, List.setIfInBounds_toArray, List.set_cons_zero, List.set_cons_succ, List.getElem_toArray, List.getElem_cons_succ, List.getElem_cons_zero]
  refine wpAnyH_take (i := 2) (v := ?_) rfl (by kernel_rfl) (by kernel_rfl) (by kernel_rfl) (fun _ _ _ h => h) (Or.inl ⟨by kernel_rfl, ?_⟩) hHeld ?_
  rotate_left
  · intro W hS
    have c0 := hS.2.cell (i := 3) rfl
    go_simp
    try rfl
  simp only [Act.put, List.setIfInBounds_toArray, List.set_cons_zero, List.set_cons_succ, List.getElem_toArray, List.getElem_cons_succ, List.getElem_cons_zero]
  refine wpAnyH_take (i := 3) (v := opV (o)) rfl (by kernel_rfl) (by kernel_rfl) (by kernel_rfl) (fun _ _ _ h => h) (Or.inl ⟨by kernel_rfl, ?_⟩) hHeld ?_
  · intro W hS
    exact run_load_row (by rfl) (by rfl) 26 _ (0, 0) _ hS.1.k.h Tryd.underlying26 rfl (szOp onZ)
  simp only [Act.put, List.setIfInBounds_toArray, List.set_cons_zero, List.set_cons_succ]
  refine wpAnyH_take (i := 4) (v := ?_) rfl (by kernel_rfl) (by kernel_rfl) (by kernel_rfl) (fun _ _ _ h => h) (Or.inl ⟨by kernel_rfl, ?_⟩) hHeld ?_
  rotate_left
  · intro W hS
    go_simp
    try rfl
  simp only [Act.put, List.setIfInBounds_toArray, List.set_cons_zero, List.set_cons_succ, List.getElem_toArray, List.getElem_cons_succ, List.getElem_cons_zero]
  refine wpAnyH_take (i := 5) (v := ?_) rfl (by kernel_rfl) (by kernel_rfl) (by kernel_rfl) (fun _ _ _ h => h) (Or.inl ⟨by kernel_rfl, ?_⟩) hHeld ?_
  rotate_left
  · intro W hS
    go_simp
    try rfl
  simp only [Act.put, List.setIfInBounds_toArray, List.set_cons_zero, List.set_cons_succ, List.getElem_toArray, List.getElem_cons_succ, List.getElem_cons_zero]
  refine wpAnyH_take (i := 6) (v := ?_) rfl (by kernel_rfl) (by kernel_rfl) (by kernel_rfl) (fun _ _ _ h => h) (Or.inl ⟨by kernel_rfl, ?_⟩) hHeld ?_
  rotate_left
  · intro W hS
    go_simp
    try rfl
  simp only [Act.put, List.setIfInBounds_toArray, List.set_cons_zero, List.set_cons_succ, List.getElem_toArray, List.getElem_cons_succ, List.getElem_cons_zero]
  refine wpAnyH_take (i := 7) (v := ?_) rfl (by kernel_rfl) (by kernel_rfl) (by kernel_rfl) (fun _ _ _ h => h) (Or.inl ⟨by kernel_rfl, ?_⟩) hHeld ?_
  rotate_left
  · intro W hS
    have c0 := hS.2.cell (i := 3) rfl
    go_simp
    try rfl
  simp only [Act.put, List.setIfInBounds_toArray, List.set_cons_zero, List.set_cons_succ, List.getElem_toArray, List.getElem_cons_succ, List.getElem_cons_zero]
  refine wpAnyH_take (i := 8) (v := ?_) rfl (by kernel_rfl) (by kernel_rfl) (by kernel_rfl) (fun _ _ _ h => h) (Or.inl ⟨by kernel_rfl, ?_⟩) hHeld ?_
  rotate_left
  · intro W hS
    go_simp
    try rfl
  simp only [Act.put, List.setIfInBounds_toArray, List.set_cons_zero, List.set_cons_succ, List.getElem_toArray, List.getElem_cons_succ, List.getElem_cons_zero]
  refine wpAnyH_ready (rs := [9]) (by kernel_rfl) (by simp) ?_
  refine AllReadyH.cons rfl (fun K hK => ?_) AllReadyH.nil
  rw [if_pos (by kernel_rfl)]
  refine wp_store_row 28 _ _ rfl w0.heap.size (in16 ⟨15, 0, o, onZ, false, 0⟩) rfl rfl 28 z16 FD.z.h (szIn ⟨15, 0, o, onZ, false, 0⟩) z16_size (in16_one _) ?_
  have FZ := FD.done (FD.z.row (in16 ⟨15, 0, o, onZ, false, 0⟩)) (But.row1 _ _ _)
  have kZ := kD.rowOther (M := w0.heap.size) (in16 ⟨15, 0, o, onZ, false, 0⟩) (by omega)
  have mZ := mD.rowOther (M := w0.heap.size) (in16 ⟨15, 0, o, onZ, false, 0⟩) (by omega)
  refine hK.out _ _ ⟨⟨⟨_, _, in16 ⟨15, 0, o, onZ, false, 0⟩, in16_size _, FZ⟩, kZ⟩, mZ⟩ (fun _ => ?_)
  clear hK K
  try simp only [Act.put, List.setIfInBounds_toArray, List.set_cons_zero, List.set_cons_succ, List.getElem_toArray, List.getElem_cons_succ, List.getElem_cons_zero]
  refine wpAnyH_take (i := 10) (v := ?_) rfl (by kernel_rfl) (by kernel_rfl) (by kernel_rfl) (fun _ _ _ h => h) (Or.inl ⟨by kernel_rfl, ?_⟩) ⟨⟨⟨_, _, in16 ⟨15, 0, o, onZ, false, 0⟩, in16_size _, FZ⟩, kZ⟩, mZ⟩ ?_
  rotate_left
  · intro W hS
    go_simp
    try rfl
  simp only [Act.put, List.setIfInBounds_toArray, List.set_cons_zero, List.set_cons_succ, List.getElem_toArray, List.getElem_cons_succ, List.getElem_cons_zero]
  refine wpAnyH_done (by kernel_rfl) ?_ _
  go_wp2_with fail
  exact bodyPost_ret (v := .tuple #[inV ⟨15, 0, o, onZ, false, 0⟩, .bool (false)]) (results_ct rfl _ _ w0.heap.size 28 (in16 ⟨15, 0, o, onZ, false, 0⟩) (0, 0) _ _ rfl rfl FZ.z.h Tryd.underlying28 rfl (szIn inZ)) rfl ⟨rfl, FZ.r, (But.of k01 [B]).trans (FZ.k.mono k01.size (fun _ h => .inl h))⟩
set_option maxRecDepth 100000 in
set_option maxHeartbeats 4000000 in
theorem rest_f7_4 (R : Rs w N B a len cap zs p false false) (o : On)  :
    Calls Tryd.prog 35 #[rp B, .int .u8 247, opV o, .int .i64 4] w fun e w' => e = .returned (.tuple #[inV ⟨16, 0, o, onZ, false, 0⟩, .bool (false)]) ∧ Rs w' N B a len cap zs (p) (false) false ∧ But [B] w.heap.size w w' := by
  have hB0 := R.lt
  have k01 := (Below.refl w.heap.size w).alloc (Nat.le_refl _) (.cells (op6 o) 26)
  have R1 := R.alloc (.cells (op6 o) 26)
  have kO := Blk.new w 26 (op6 o)
  have hKw : w.heap.size < (w.alloc (.cells (op6 o) 26)).heap.size := kO.lt
  have hs : (w.alloc (.cells (op6 o) 26)).heap.size = w.heap.size + 1 := by simp
  have F := RF.start R1 28 z16
  have kO1 := kO.alloc (.cells z16 28)
  have hBK : w.heap.size ∉ [B] := by simp; omega
  go_enter Tryd.func35, Tryd.ntmps35
  go_upto_region 1 with fail
  generalize (w.alloc (.cells (op6 o) 26)).alloc (.cells z16 28) = w1 at *
  rw [← hs]
  generalize w.alloc (.cells (op6 o) 26) = w0 at *
  clear hs
  have hK1 := kO1.lt
  go_upto_region 25 with fail
  have hM1 := F.lt
  have b2 := (Below.refl w1.heap.size w1).alloc (Nat.le_refl _) (.cells f7A 40)
  have F2 := F.below b2
  have kO2 := kO1.below b2 kO1.lt
  have mO := Blk.new w1 40 f7A
  generalize w1.alloc (.cells f7A 40) = w2 at *
  generalize hM : w1.heap.size = M at *
  go_upto_region 27 with fail
  have FD := F2.drew
  have kD := kO2.drew
  have mD := mO.drew
  refine wp_region_held_drew (S := fun W => OX w0 W N B a len cap zs false w.heap.size (o) ∧ Blk W M 40 f7A) (by kernel_rfl) ⟨⟨⟨_, _, z16, z16_size, FD⟩, kD⟩, mD⟩ (fun hHeld => ?_)
  generalize w2.drew = wd at *
  refine wpAnyH_take (i := 0) (v := ?_) rfl (by kernel_rfl) (by kernel_rfl) (by kernel_rfl) (fun _ _ _ h => h) (Or.inl ⟨by kernel_rfl, ?_⟩) hHeld ?_
  rotate_left
  · intro W hS
    go_simp
    try rfl
  simp only [Act.put, List.setIfInBounds_toArray, List.set_cons_zero, List.set_cons_succ, List.getElem_toArray, List.getElem_cons_succ, List.getElem_cons_zero]
  refine wpAnyH_take (i := 1) (v := ?_) rfl (by kernel_rfl) (by kernel_rfl) (by kernel_rfl) (fun _ _ _ h => h) (Or.inl ⟨by kernel_rfl, ?_⟩) hHeld ?_
  rotate_left
  · intro W hS
    go_simp
    try rfl
  simp only [Act.put, List.setIfInBounds_toArray, List.set_cons_zero, List.set_cons_succ, List.getElem_toArray, List.getElem_cons_succ, List.getElem_cons_zero]
  refine wpAnyH_take (i := 2) (v := ?_) rfl (by kernel_rfl) (by kernel_rfl) (by kernel_rfl) (fun _ _ _ h => h) (Or.inl ⟨by kernel_rfl, ?_⟩) hHeld ?_
  rotate_left
  · intro W hS
    have c0 := hS.2.cell (i := 4) rfl
    go_simp
    try rfl
  simp only [Act.put, List.setIfInBounds_toArray, List.set_cons_zero, List.set_cons_succ, List.getElem_toArray, List.getElem_cons_succ, List.getElem_cons_zero]
  refine wpAnyH_take (i := 3) (v := opV (o)) rfl (by kernel_rfl) (by kernel_rfl) (by kernel_rfl) (fun _ _ _ h => h) (Or.inl ⟨by kernel_rfl, ?_⟩) hHeld ?_
  · intro W hS
    exact run_load_row (by rfl) (by rfl) 26 _ (0, 0) _ hS.1.k.h Tryd.underlying26 rfl (szOp onZ)
  simp only [Act.put, List.setIfInBounds_toArray, List.set_cons_zero, List.set_cons_succ]
  refine wpAnyH_take (i := 4) (v := ?_) rfl (by kernel_rfl) (by kernel_rfl) (by kernel_rfl) (fun _ _ _ h => h) (Or.inl ⟨by kernel_rfl, ?_⟩) hHeld ?_
  rotate_left
  · intro W hS
    go_simp
    try rfl
  simp only [Act.put, List.setIfInBounds_toArray, List.set_cons_zero, List.set_cons_succ, List.getElem_toArray, List.getElem_cons_succ, List.getElem_cons_zero]
  refine wpAnyH_take (i := 5) (v := ?_) rfl (by kernel_rfl) (by kernel_rfl) (by kernel_rfl) (fun _ _ _ h => h) (Or.inl ⟨by kernel_rfl, ?_⟩) hHeld ?_
  rotate_left
  · intro W hS
    go_simp
    try rfl
  simp only [Act.put, List.setIfInBounds_toArray, List.set_cons_zero, List.set_cons_succ, List.getElem_toArray, List.getElem_cons_succ, List.getElem_cons_zero]
  refine wpAnyH_take (i := 6) (v := ?_) rfl (by kernel_rfl) (by kernel_rfl) (by kernel_rfl) (fun _ _ _ h => h) (Or.inl ⟨by kernel_rfl, ?_⟩) hHeld ?_
  rotate_left
  · intro W hS
    go_simp
    try rfl
  simp only [Act.put, List.setIfInBounds_toArray, List.set_cons_zero, List.set_cons_succ, List.getElem_toArray, List.getElem_cons_succ, List.getElem_cons_zero]
  refine wpAnyH_take (i := 7) (v := ?_) rfl (by kernel_rfl) (by kernel_rfl) (by kernel_rfl) (fun _ _ _ h => h) (Or.inl ⟨by kernel_rfl, ?_⟩) hHeld ?_
  rotate_left
  · intro W hS
    have c0 := hS.2.cell (i := 4) rfl
    go_simp
    try rfl
  simp only [Act.put, List.setIfInBounds_toArray, List.set_cons_zero, List.set_cons_succ, List.getElem_toArray, List.getElem_cons_succ, List.getElem_cons_zero]
  refine wpAnyH_take (i := 8) (v := ?_) rfl (by kernel_rfl) (by kernel_rfl) (by kernel_rfl) (fun _ _ _ h => h) (Or.inl ⟨by kernel_rfl, ?_⟩) hHeld ?_
  rotate_left
  · intro W hS
    go_simp
    try rfl
  simp only [Act.put, List.setIfInBounds_toArray, List.set_cons_zero, List.set_cons_succ, List.getElem_toArray, List.getElem_cons_succ, List.getElem_cons_zero]
  refine wpAnyH_ready (rs := [9]) (by kernel_rfl) (by simp) ?_
  refine AllReadyH.cons rfl (fun K hK => ?_) AllReadyH.nil
  rw [if_pos (by kernel_rfl)]
  refine wp_store_row 28 _ _ rfl w0.heap.size (in16 ⟨16, 0, o, onZ, false, 0⟩) rfl rfl 28 z16 FD.z.h (szIn ⟨16, 0, o, onZ, false, 0⟩) z16_size (in16_one _) ?_
  have FZ := FD.done (FD.z.row (in16 ⟨16, 0, o, onZ, false, 0⟩)) (But.row1 _ _ _)
  have kZ := kD.rowOther (M := w0.heap.size) (in16 ⟨16, 0, o, onZ, false, 0⟩) (by omega)
  have mZ := mD.rowOther (M := w0.heap.size) (in16 ⟨16, 0, o, onZ, false, 0⟩) (by omega)
  refine hK.out _ _ ⟨⟨⟨_, _, in16 ⟨16, 0, o, onZ, false, 0⟩, in16_size _, FZ⟩, kZ⟩, mZ⟩ (fun _ => ?_)
  clear hK K
  try simp only [Act.put, List.setIfInBounds_toArray, List.set_cons_zero, List.set_cons_succ, List.getElem_toArray, List.getElem_cons_succ, List.getElem_cons_zero]
  refine wpAnyH_take (i := 10) (v := ?_) rfl (by kernel_rfl) (by kernel_rfl) (by kernel_rfl) (fun _ _ _ h => h) (Or.inl ⟨by kernel_rfl, ?_⟩) ⟨⟨⟨_, _, in16 ⟨16, 0, o, onZ, false, 0⟩, in16_size _, FZ⟩, kZ⟩, mZ⟩ ?_
  rotate_left
  · intro W hS
    go_simp
    try rfl
  simp only [Act.put, List.setIfInBounds_toArray, List.set_cons_zero, List.set_cons_succ, List.getElem_toArray, List.getElem_cons_succ, List.getElem_cons_zero]
  refine wpAnyH_done (by kernel_rfl) ?_ _
  go_wp2_with fail
  exact bodyPost_ret (v := .tuple #[inV ⟨16, 0, o, onZ, false, 0⟩, .bool (false)]) (results_ct rfl _ _ w0.heap.size 28 (in16 ⟨16, 0, o, onZ, false, 0⟩) (0, 0) _ _ rfl rfl FZ.z.h Tryd.underlying28 rfl (szIn inZ)) rfl ⟨rfl, FZ.r, (But.of k01 [B]).trans (FZ.k.mono k01.size (fun _ h => .inl h))⟩
set_option maxRecDepth 100000 in
set_option maxHeartbeats 4000000 in
theorem rest_f7_5 (R : Rs w N B a len cap zs p false false) (o : On)  :
    Calls Tryd.prog 35 #[rp B, .int .u8 247, opV o, .int .i64 5] w fun e w' => e = .returned (.tuple #[inV ⟨17, 0, o, onZ, false, 0⟩, .bool (false)]) ∧ Rs w' N B a len cap zs (p) (false) false ∧ But [B] w.heap.size w w' := by
  have hB0 := R.lt
  have k01 := (Below.refl w.heap.size w).alloc (Nat.le_refl _) (.cells (op6 o) 26)
  have R1 := R.alloc (.cells (op6 o) 26)
  have kO := Blk.new w 26 (op6 o)
  have hKw : w.heap.size < (w.alloc (.cells (op6 o) 26)).heap.size := kO.lt
  have hs : (w.alloc (.cells (op6 o) 26)).heap.size = w.heap.size + 1 := by simp
  have F := RF.start R1 28 z16
  have kO1 := kO.alloc (.cells z16 28)
  have hBK : w.heap.size ∉ [B] := by simp; omega
  go_enter Tryd.func35, Tryd.ntmps35
  go_upto_region 1 with fail
  generalize (w.alloc (.cells (op6 o) 26)).alloc (.cells z16 28) = w1 at *
  rw [← hs]
  generalize w.alloc (.cells (op6 o) 26) = w0 at *
  clear hs
  have hK1 := kO1.lt
  go_upto_region 25 with fail
  have hM1 := F.lt
  have b2 := (Below.refl w1.heap.size w1).alloc (Nat.le_refl _) (.cells f7A 40)
  have F2 := F.below b2
  have kO2 := kO1.below b2 kO1.lt
  have mO := Blk.new w1 40 f7A
  generalize w1.alloc (.cells f7A 40) = w2 at *
  generalize hM : w1.heap.size = M at *
  go_upto_region 27 with fail
  have FD := F2.drew
  have kD := kO2.drew
  have mD := mO.drew
  refine wp_region_held_drew (S := fun W => OX w0 W N B a len cap zs false w.heap.size (o) ∧ Blk W M 40 f7A) (by kernel_rfl) ⟨⟨⟨_, _, z16, z16_size, FD⟩, kD⟩, mD⟩ (fun hHeld => ?_)
  generalize w2.drew = wd at *
  refine wpAnyH_take (i := 0) (v := ?_) rfl (by kernel_rfl) (by kernel_rfl) (by kernel_rfl) (fun _ _ _ h => h) (Or.inl ⟨by kernel_rfl, ?_⟩) hHeld ?_
  rotate_left
  · intro W hS
    go_simp
    try rfl
  simp only [Act.put, List.setIfInBounds_toArray, List.set_cons_zero, List.set_cons_succ, List.getElem_toArray, List.getElem_cons_succ, List.getElem_cons_zero]
  refine wpAnyH_take (i := 1) (v := ?_) rfl (by kernel_rfl) (by kernel_rfl) (by kernel_rfl) (fun _ _ _ h => h) (Or.inl ⟨by kernel_rfl, ?_⟩) hHeld ?_
  rotate_left
  · intro W hS
    go_simp
    try rfl
  simp only [Act.put, List.setIfInBounds_toArray, List.set_cons_zero, List.set_cons_succ, List.getElem_toArray, List.getElem_cons_succ, List.getElem_cons_zero]
  refine wpAnyH_take (i := 2) (v := ?_) rfl (by kernel_rfl) (by kernel_rfl) (by kernel_rfl) (fun _ _ _ h => h) (Or.inl ⟨by kernel_rfl, ?_⟩) hHeld ?_
  rotate_left
  · intro W hS
    have c0 := hS.2.cell (i := 5) rfl
    go_simp
    try rfl
  simp only [Act.put, List.setIfInBounds_toArray, List.set_cons_zero, List.set_cons_succ, List.getElem_toArray, List.getElem_cons_succ, List.getElem_cons_zero]
  refine wpAnyH_take (i := 3) (v := opV (o)) rfl (by kernel_rfl) (by kernel_rfl) (by kernel_rfl) (fun _ _ _ h => h) (Or.inl ⟨by kernel_rfl, ?_⟩) hHeld ?_
  · intro W hS
    exact run_load_row (by rfl) (by rfl) 26 _ (0, 0) _ hS.1.k.h Tryd.underlying26 rfl (szOp onZ)
  simp only [Act.put, List.setIfInBounds_toArray, List.set_cons_zero, List.set_cons_succ]
  refine wpAnyH_take (i := 4) (v := ?_) rfl (by kernel_rfl) (by kernel_rfl) (by kernel_rfl) (fun _ _ _ h => h) (Or.inl ⟨by kernel_rfl, ?_⟩) hHeld ?_
  rotate_left
  · intro W hS
    go_simp
    try rfl
  simp only [Act.put, List.setIfInBounds_toArray, List.set_cons_zero, List.set_cons_succ, List.getElem_toArray, List.getElem_cons_succ, List.getElem_cons_zero]
  refine wpAnyH_take (i := 5) (v := ?_) rfl (by kernel_rfl) (by kernel_rfl) (by kernel_rfl) (fun _ _ _ h => h) (Or.inl ⟨by kernel_rfl, ?_⟩) hHeld ?_
  rotate_left
  · intro W hS
    go_simp
    try rfl
  simp only [Act.put, List.setIfInBounds_toArray, List.set_cons_zero, List.set_cons_succ, List.getElem_toArray, List.getElem_cons_succ, List.getElem_cons_zero]
  refine wpAnyH_take (i := 6) (v := ?_) rfl (by kernel_rfl) (by kernel_rfl) (by kernel_rfl) (fun _ _ _ h => h) (Or.inl ⟨by kernel_rfl, ?_⟩) hHeld ?_
  rotate_left
  · intro W hS
    go_simp
    try rfl
  simp only [Act.put, List.setIfInBounds_toArray, List.set_cons_zero, List.set_cons_succ, List.getElem_toArray, List.getElem_cons_succ, List.getElem_cons_zero]
  refine wpAnyH_take (i := 7) (v := ?_) rfl (by kernel_rfl) (by kernel_rfl) (by kernel_rfl) (fun _ _ _ h => h) (Or.inl ⟨by kernel_rfl, ?_⟩) hHeld ?_
  rotate_left
  · intro W hS
    have c0 := hS.2.cell (i := 5) rfl
    go_simp
    try rfl
  simp only [Act.put, List.setIfInBounds_toArray, List.set_cons_zero, List.set_cons_succ, List.getElem_toArray, List.getElem_cons_succ, List.getElem_cons_zero]
  refine wpAnyH_take (i := 8) (v := ?_) rfl (by kernel_rfl) (by kernel_rfl) (by kernel_rfl) (fun _ _ _ h => h) (Or.inl ⟨by kernel_rfl, ?_⟩) hHeld ?_
  rotate_left
  · intro W hS
    go_simp
    try rfl
  simp only [Act.put, List.setIfInBounds_toArray, List.set_cons_zero, List.set_cons_succ, List.getElem_toArray, List.getElem_cons_succ, List.getElem_cons_zero]
  refine wpAnyH_ready (rs := [9]) (by kernel_rfl) (by simp) ?_
  refine AllReadyH.cons rfl (fun K hK => ?_) AllReadyH.nil
  rw [if_pos (by kernel_rfl)]
  refine wp_store_row 28 _ _ rfl w0.heap.size (in16 ⟨17, 0, o, onZ, false, 0⟩) rfl rfl 28 z16 FD.z.h (szIn ⟨17, 0, o, onZ, false, 0⟩) z16_size (in16_one _) ?_
  have FZ := FD.done (FD.z.row (in16 ⟨17, 0, o, onZ, false, 0⟩)) (But.row1 _ _ _)
  have kZ := kD.rowOther (M := w0.heap.size) (in16 ⟨17, 0, o, onZ, false, 0⟩) (by omega)
  have mZ := mD.rowOther (M := w0.heap.size) (in16 ⟨17, 0, o, onZ, false, 0⟩) (by omega)
  refine hK.out _ _ ⟨⟨⟨_, _, in16 ⟨17, 0, o, onZ, false, 0⟩, in16_size _, FZ⟩, kZ⟩, mZ⟩ (fun _ => ?_)
  clear hK K
  try simp only [Act.put, List.setIfInBounds_toArray, List.set_cons_zero, List.set_cons_succ, List.getElem_toArray, List.getElem_cons_succ, List.getElem_cons_zero]
  refine wpAnyH_take (i := 10) (v := ?_) rfl (by kernel_rfl) (by kernel_rfl) (by kernel_rfl) (fun _ _ _ h => h) (Or.inl ⟨by kernel_rfl, ?_⟩) ⟨⟨⟨_, _, in16 ⟨17, 0, o, onZ, false, 0⟩, in16_size _, FZ⟩, kZ⟩, mZ⟩ ?_
  rotate_left
  · intro W hS
    go_simp
    try rfl
  simp only [Act.put, List.setIfInBounds_toArray, List.set_cons_zero, List.set_cons_succ, List.getElem_toArray, List.getElem_cons_succ, List.getElem_cons_zero]
  refine wpAnyH_done (by kernel_rfl) ?_ _
  go_wp2_with fail
  exact bodyPost_ret (v := .tuple #[inV ⟨17, 0, o, onZ, false, 0⟩, .bool (false)]) (results_ct rfl _ _ w0.heap.size 28 (in16 ⟨17, 0, o, onZ, false, 0⟩) (0, 0) _ _ rfl rfl FZ.z.h Tryd.underlying28 rfl (szIn inZ)) rfl ⟨rfl, FZ.r, (But.of k01 [B]).trans (FZ.k.mono k01.size (fun _ h => .inl h))⟩
set_option maxRecDepth 100000 in
set_option maxHeartbeats 4000000 in
theorem rest_f7_6 (R : Rs w N B a len cap zs p false false) (o : On)  :
    Calls Tryd.prog 35 #[rp B, .int .u8 247, opV o, .int .i64 6] w fun e w' => e = .returned (.tuple #[inV ⟨19, 0, o, onZ, false, 0⟩, .bool (false)]) ∧ Rs w' N B a len cap zs (p) (false) false ∧ But [B] w.heap.size w w' := by
  have hB0 := R.lt
  have k01 := (Below.refl w.heap.size w).alloc (Nat.le_refl _) (.cells (op6 o) 26)
  have R1 := R.alloc (.cells (op6 o) 26)
  have kO := Blk.new w 26 (op6 o)
  have hKw : w.heap.size < (w.alloc (.cells (op6 o) 26)).heap.size := kO.lt
  have hs : (w.alloc (.cells (op6 o) 26)).heap.size = w.heap.size + 1 := by simp
  have F := RF.start R1 28 z16
  have kO1 := kO.alloc (.cells z16 28)
  have hBK : w.heap.size ∉ [B] := by simp; omega
  go_enter Tryd.func35, Tryd.ntmps35
  go_upto_region 1 with fail
  generalize (w.alloc (.cells (op6 o) 26)).alloc (.cells z16 28) = w1 at *
  rw [← hs]
  generalize w.alloc (.cells (op6 o) 26) = w0 at *
  clear hs
  have hK1 := kO1.lt
  go_upto_region 25 with fail
  have hM1 := F.lt
  have b2 := (Below.refl w1.heap.size w1).alloc (Nat.le_refl _) (.cells f7A 40)
  have F2 := F.below b2
  have kO2 := kO1.below b2 kO1.lt
  have mO := Blk.new w1 40 f7A
  generalize w1.alloc (.cells f7A 40) = w2 at *
  generalize hM : w1.heap.size = M at *
  go_upto_region 27 with fail
  have FD := F2.drew
  have kD := kO2.drew
  have mD := mO.drew
  refine wp_region_held_drew (S := fun W => OX w0 W N B a len cap zs false w.heap.size (o) ∧ Blk W M 40 f7A) (by kernel_rfl) ⟨⟨⟨_, _, z16, z16_size, FD⟩, kD⟩, mD⟩ (fun hHeld => ?_)
  generalize w2.drew = wd at *
  refine wpAnyH_take (i := 0) (v := ?_) rfl (by kernel_rfl) (by kernel_rfl) (by kernel_rfl) (fun _ _ _ h => h) (Or.inl ⟨by kernel_rfl, ?_⟩) hHeld ?_
  rotate_left
  · intro W hS
    go_simp
    try rfl
  simp only [Act.put, List.setIfInBounds_toArray, List.set_cons_zero, List.set_cons_succ, List.getElem_toArray, List.getElem_cons_succ, List.getElem_cons_zero]
  refine wpAnyH_take (i := 1) (v := ?_) rfl (by kernel_rfl) (by kernel_rfl) (by kernel_rfl) (fun _ _ _ h => h) (Or.inl ⟨by kernel_rfl, ?_⟩) hHeld ?_
  rotate_left
  · intro W hS
    go_simp
    try rfl
  simp only [Act.put, List.setIfInBounds_toArray, List.set_cons_zero, List.set_cons_succ, List.getElem_toArray, List.getElem_cons_succ, List.getElem_cons_zero]
  refine wpAnyH_take (i := 2) (v := ?_) rfl (by kernel_rfl) (by kernel_rfl) (by kernel_rfl) (fun _ _ _ h => h) (Or.inl ⟨by kernel_rfl, ?_⟩) hHeld ?_
  rotate_left
  · intro W hS
    have c0 := hS.2.cell (i := 6) rfl
    go_simp
    try rfl
  simp only [Act.put, List.setIfInBounds_toArray, List.set_cons_zero, List.set_cons_succ, List.getElem_toArray, List.getElem_cons_succ, List.getElem_cons_zero]
  refine wpAnyH_take (i := 3) (v := opV (o)) rfl (by kernel_rfl) (by kernel_rfl) (by kernel_rfl) (fun _ _ _ h => h) (Or.inl ⟨by kernel_rfl, ?_⟩) hHeld ?_
  · intro W hS
    exact run_load_row (by rfl) (by rfl) 26 _ (0, 0) _ hS.1.k.h Tryd.underlying26 rfl (szOp onZ)
  simp only [Act.put, List.setIfInBounds_toArray, List.set_cons_zero, List.set_cons_succ]
  refine wpAnyH_take (i := 4) (v := ?_) rfl (by kernel_rfl) (by kernel_rfl) (by kernel_rfl) (fun _ _ _ h => h) (Or.inl ⟨by kernel_rfl, ?_⟩) hHeld ?_
  rotate_left
  · intro W hS
    go_simp
    try rfl
  simp only [Act.put, List.setIfInBounds_toArray, List.set_cons_zero, List.set_cons_succ, List.getElem_toArray, List.getElem_cons_succ, List.getElem_cons_zero]
  refine wpAnyH_take (i := 5) (v := ?_) rfl (by kernel_rfl) (by kernel_rfl) (by kernel_rfl) (fun _ _ _ h => h) (Or.inl ⟨by kernel_rfl, ?_⟩) hHeld ?_
  rotate_left
  · intro W hS
    go_simp
    try rfl
  simp only [Act.put, List.setIfInBounds_toArray, List.set_cons_zero, List.set_cons_succ, List.getElem_toArray, List.getElem_cons_succ, List.getElem_cons_zero]
  refine wpAnyH_take (i := 6) (v := ?_) rfl (by kernel_rfl) (by kernel_rfl) (by kernel_rfl) (fun _ _ _ h => h) (Or.inl ⟨by kernel_rfl, ?_⟩) hHeld ?_
  rotate_left
  · intro W hS
    go_simp
    try rfl
  simp only [Act.put, List.setIfInBounds_toArray, List.set_cons_zero, List.set_cons_succ, List.getElem_toArray, List.getElem_cons_succ, List.getElem_cons_zero]
  refine wpAnyH_take (i := 7) (v := ?_) rfl (by kernel_rfl) (by kernel_rfl) (by kernel_rfl) (fun _ _ _ h => h) (Or.inl ⟨by kernel_rfl, ?_⟩) hHeld ?_
  rotate_left
  · intro W hS
    have c0 := hS.2.cell (i := 6) rfl
    go_simp
    try rfl
  simp only [Act.put, List.setIfInBounds_toArray, List.set_cons_zero, List.set_cons_succ, List.getElem_toArray, List.getElem_cons_succ, List.getElem_cons_zero]
  refine wpAnyH_take (i := 8) (v := ?_) rfl (by kernel_rfl) (by kernel_rfl) (by kernel_rfl) (fun _ _ _ h => h) (Or.inl ⟨by kernel_rfl, ?_⟩) hHeld ?_
  rotate_left
  · intro W hS
    go_simp
    try rfl
  simp only [Act.put, List.setIfInBounds_toArray, List.set_cons_zero, List.set_cons_succ, List.getElem_toArray, List.getElem_cons_succ, List.getElem_cons_zero]
  refine wpAnyH_ready (rs := [9]) (by kernel_rfl) (by simp) ?_
  refine AllReadyH.cons rfl (fun K hK => ?_) AllReadyH.nil
  rw [if_pos (by kernel_rfl)]
  refine wp_store_row 28 _ _ rfl w0.heap.size (in16 ⟨19, 0, o, onZ, false, 0⟩) rfl rfl 28 z16 FD.z.h (szIn ⟨19, 0, o, onZ, false, 0⟩) z16_size (in16_one _) ?_
  have FZ := FD.done (FD.z.row (in16 ⟨19, 0, o, onZ, false, 0⟩)) (But.row1 _ _ _)
  have kZ := kD.rowOther (M := w0.heap.size) (in16 ⟨19, 0, o, onZ, false, 0⟩) (by omega)
  have mZ := mD.rowOther (M := w0.heap.size) (in16 ⟨19, 0, o, onZ, false, 0⟩) (by omega)
  refine hK.out _ _ ⟨⟨⟨_, _, in16 ⟨19, 0, o, onZ, false, 0⟩, in16_size _, FZ⟩, kZ⟩, mZ⟩ (fun _ => ?_)
  clear hK K
  try simp only [Act.put, List.setIfInBounds_toArray, List.set_cons_zero, List.set_cons_succ, List.getElem_toArray, List.getElem_cons_succ, List.getElem_cons_zero]
  refine wpAnyH_take (i := 10) (v := ?_) rfl (by kernel_rfl) (by kernel_rfl) (by kernel_rfl) (fun _ _ _ h => h) (Or.inl ⟨by kernel_rfl, ?_⟩) ⟨⟨⟨_, _, in16 ⟨19, 0, o, onZ, false, 0⟩, in16_size _, FZ⟩, kZ⟩, mZ⟩ ?_
  rotate_left
  · intro W hS
    go_simp
    try rfl
  simp only [Act.put, List.setIfInBounds_toArray, List.set_cons_zero, List.set_cons_succ, List.getElem_toArray, List.getElem_cons_succ, List.getElem_cons_zero]
  refine wpAnyH_done (by kernel_rfl) ?_ _
  go_wp2_with fail
  exact bodyPost_ret (v := .tuple #[inV ⟨19, 0, o, onZ, false, 0⟩, .bool (false)]) (results_ct rfl _ _ w0.heap.size 28 (in16 ⟨19, 0, o, onZ, false, 0⟩) (0, 0) _ _ rfl rfl FZ.z.h Tryd.underlying28 rfl (szIn inZ)) rfl ⟨rfl, FZ.r, (But.of k01 [B]).trans (FZ.k.mono k01.size (fun _ h => .inl h))⟩
set_option maxRecDepth 100000 in
set_option maxHeartbeats 4000000 in
theorem rest_f7_7 (R : Rs w N B a len cap zs p false false) (o : On)  :
    Calls Tryd.prog 35 #[rp B, .int .u8 247, opV o, .int .i64 7] w fun e w' => e = .returned (.tuple #[inV ⟨20, 0, o, onZ, false, 0⟩, .bool (false)]) ∧ Rs w' N B a len cap zs (p) (false) false ∧ But [B] w.heap.size w w' := by
  have hB0 := R.lt
  have k01 := (Below.refl w.heap.size w).alloc (Nat.le_refl _) (.cells (op6 o) 26)
  have R1 := R.alloc (.cells (op6 o) 26)
  have kO := Blk.new w 26 (op6 o)
  have hKw : w.heap.size < (w.alloc (.cells (op6 o) 26)).heap.size := kO.lt
  have hs : (w.alloc (.cells (op6 o) 26)).heap.size = w.heap.size + 1 := by simp
  have F := RF.start R1 28 z16
  have kO1 := kO.alloc (.cells z16 28)
  have hBK : w.heap.size ∉ [B] := by simp; omega
  go_enter Tryd.func35, Tryd.ntmps35
  go_upto_region 1 with fail
  generalize (w.alloc (.cells (op6 o) 26)).alloc (.cells z16 28) = w1 at *
  rw [← hs]
  generalize w.alloc (.cells (op6 o) 26) = w0 at *
  clear hs
  have hK1 := kO1.lt
  go_upto_region 25 with fail
  have hM1 := F.lt
  have b2 := (Below.refl w1.heap.size w1).alloc (Nat.le_refl _) (.cells f7A 40)
  have F2 := F.below b2
  have kO2 := kO1.below b2 kO1.lt
  have mO := Blk.new w1 40 f7A
  generalize w1.alloc (.cells f7A 40) = w2 at *
  generalize hM : w1.heap.size = M at *
  go_upto_region 27 with fail
  have FD := F2.drew
  have kD := kO2.drew
  have mD := mO.drew
  refine wp_region_held_drew (S := fun W => OX w0 W N B a len cap zs false w.heap.size (o) ∧ Blk W M 40 f7A) (by kernel_rfl) ⟨⟨⟨_, _, z16, z16_size, FD⟩, kD⟩, mD⟩ (fun hHeld => ?_)
  generalize w2.drew = wd at *
  refine wpAnyH_take (i := 0) (v := ?_) rfl (by kernel_rfl) (by kernel_rfl) (by kernel_rfl) (fun _ _ _ h => h) (Or.inl ⟨by kernel_rfl, ?_⟩) hHeld ?_
  rotate_left
  · intro W hS
    go_simp
    try rfl
  simp only [Act.put, List.setIfInBounds_toArray, List.set_cons_zero, List.set_cons_succ, List.getElem_toArray, List.getElem_cons_succ, List.getElem_cons_zero]
  refine wpAnyH_take (i := 1) (v := ?_) rfl (by kernel_rfl) (by kernel_rfl) (by kernel_rfl) (fun _ _ _ h => h) (Or.inl ⟨by kernel_rfl, ?_⟩) hHeld ?_
  rotate_left
  · intro W hS
    go_simp
    try rfl
  simp only [Act.put, List.setIfInBounds_toArray, List.set_cons_zero, List.set_cons_succ, List.getElem_toArray, List.getElem_cons_succ, List.getElem_cons_zero]
  refine wpAnyH_take (i := 2) (v := ?_) rfl (by kernel_rfl) (by kernel_rfl) (by kernel_rfl) (fun _ _ _ h => h) (Or.inl ⟨by kernel_rfl, ?_⟩) hHeld ?_
  rotate_left
  · intro W hS
    have c0 := hS.2.cell (i := 7) rfl
    go_simp
    try rfl
  simp only [Act.put, List.setIfInBounds_toArray, List.set_cons_zero, List.set_cons_succ, List.getElem_toArray, List.getElem_cons_succ, List.getElem_cons_zero]
  refine wpAnyH_take (i := 3) (v := opV (o)) rfl (by kernel_rfl) (by kernel_rfl) (by kernel_rfl) (fun _ _ _ h => h) (Or.inl ⟨by kernel_rfl, ?_⟩) hHeld ?_
  · intro W hS
    exact run_load_row (by rfl) (by rfl) 26 _ (0, 0) _ hS.1.k.h Tryd.underlying26 rfl (szOp onZ)
  simp only [Act.put, List.setIfInBounds_toArray, List.set_cons_zero, List.set_cons_succ]
  refine wpAnyH_take (i := 4) (v := ?_) rfl (by kernel_rfl) (by kernel_rfl) (by kernel_rfl) (fun _ _ _ h => h) (Or.inl ⟨by kernel_rfl, ?_⟩) hHeld ?_
  rotate_left
  · intro W hS
    go_simp
    try rfl
  simp only [Act.put, List.setIfInBounds_toArray, List.set_cons_zero, List.set_cons_succ, List.getElem_toArray, List.getElem_cons_succ, List.getElem_cons_zero]
  refine wpAnyH_take (i := 5) (v := ?_) rfl (by kernel_rfl) (by kernel_rfl) (by kernel_rfl) (fun _ _ _ h => h) (Or.inl ⟨by kernel_rfl, ?_⟩) hHeld ?_
  rotate_left
  · intro W hS
    go_simp
    try rfl
  simp only [Act.put, List.setIfInBounds_toArray, List.set_cons_zero, List.set_cons_succ, List.getElem_toArray, List.getElem_cons_succ, List.getElem_cons_zero]
  refine wpAnyH_take (i := 6) (v := ?_) rfl (by kernel_rfl) (by kernel_rfl) (by kernel_rfl) (fun _ _ _ h => h) (Or.inl ⟨by kernel_rfl, ?_⟩) hHeld ?_
  rotate_left
  · intro W hS
    go_simp
    try rfl
  simp only [Act.put, List.setIfInBounds_toArray, List.set_cons_zero, List.set_cons_succ, List.getElem_toArray, List.getElem_cons_succ, List.getElem_cons_zero]
  refine wpAnyH_take (i := 7) (v := ?_) rfl (by kernel_rfl) (by kernel_rfl) (by kernel_rfl) (fun _ _ _ h => h) (Or.inl ⟨by kernel_rfl, ?_⟩) hHeld ?_
  rotate_left
  · intro W hS
    have c0 := hS.2.cell (i := 7) rfl
    go_simp
    try rfl
  simp only [Act.put, List.setIfInBounds_toArray, List.set_cons_zero, List.set_cons_succ, List.getElem_toArray, List.getElem_cons_succ, List.getElem_cons_zero]
  refine wpAnyH_take (i := 8) (v := ?_) rfl (by kernel_rfl) (by kernel_rfl) (by kernel_rfl) (fun _ _ _ h => h) (Or.inl ⟨by kernel_rfl, ?_⟩) hHeld ?_
  rotate_left
  · intro W hS
    go_simp
    try rfl
  simp only [Act.put, List.setIfInBounds_toArray, List.set_cons_zero, List.set_cons_succ, List.getElem_toArray, List.getElem_cons_succ, List.getElem_cons_zero]
  refine wpAnyH_ready (rs := [9]) (by kernel_rfl) (by simp) ?_
  refine AllReadyH.cons rfl (fun K hK => ?_) AllReadyH.nil
  rw [if_pos (by kernel_rfl)]
  refine wp_store_row 28 _ _ rfl w0.heap.size (in16 ⟨20, 0, o, onZ, false, 0⟩) rfl rfl 28 z16 FD.z.h (szIn ⟨20, 0, o, onZ, false, 0⟩) z16_size (in16_one _) ?_
  have FZ := FD.done (FD.z.row (in16 ⟨20, 0, o, onZ, false, 0⟩)) (But.row1 _ _ _)
  have kZ := kD.rowOther (M := w0.heap.size) (in16 ⟨20, 0, o, onZ, false, 0⟩) (by omega)
  have mZ := mD.rowOther (M := w0.heap.size) (in16 ⟨20, 0, o, onZ, false, 0⟩) (by omega)
  refine hK.out _ _ ⟨⟨⟨_, _, in16 ⟨20, 0, o, onZ, false, 0⟩, in16_size _, FZ⟩, kZ⟩, mZ⟩ (fun _ => ?_)
  clear hK K
  try simp only [Act.put, List.setIfInBounds_toArray, List.set_cons_zero, List.set_cons_succ, List.getElem_toArray, List.getElem_cons_succ, List.getElem_cons_zero]
  refine wpAnyH_take (i := 10) (v := ?_) rfl (by kernel_rfl) (by kernel_rfl) (by kernel_rfl) (fun _ _ _ h => h) (Or.inl ⟨by kernel_rfl, ?_⟩) ⟨⟨⟨_, _, in16 ⟨20, 0, o, onZ, false, 0⟩, in16_size _, FZ⟩, kZ⟩, mZ⟩ ?_
  rotate_left
  · intro W hS
    go_simp
    try rfl
  simp only [Act.put, List.setIfInBounds_toArray, List.set_cons_zero, List.set_cons_succ, List.getElem_toArray, List.getElem_cons_succ, List.getElem_cons_zero]
  refine wpAnyH_done (by kernel_rfl) ?_ _
  go_wp2_with fail
  exact bodyPost_ret (v := .tuple #[inV ⟨20, 0, o, onZ, false, 0⟩, .bool (false)]) (results_ct rfl _ _ w0.heap.size 28 (in16 ⟨20, 0, o, onZ, false, 0⟩) (0, 0) _ _ rfl rfl FZ.z.h Tryd.underlying28 rfl (szIn inZ)) rfl ⟨rfl, FZ.r, (But.of k01 [B]).trans (FZ.k.mono k01.size (fun _ h => .inl h))⟩
set_option maxRecDepth 100000 in
set_option maxHeartbeats 4000000 in
theorem rest_ff_0 (R : Rs w N B a len cap zs p false false) (o : On)  :
    Calls Tryd.prog 35 #[rp B, .int .u8 255, opV o, .int .i64 0] w fun e w' => e = .returned (.tuple #[inV ⟨12, 0, o, onZ, false, 0⟩, .bool (false)]) ∧ Rs w' N B a len cap zs (p) (false) false ∧ But [B] w.heap.size w w' := by
  have hB0 := R.lt
  have k01 := (Below.refl w.heap.size w).alloc (Nat.le_refl _) (.cells (op6 o) 26)
  have R1 := R.alloc (.cells (op6 o) 26)
  have kO := Blk.new w 26 (op6 o)
  have hKw : w.heap.size < (w.alloc (.cells (op6 o) 26)).heap.size := kO.lt
  have hs : (w.alloc (.cells (op6 o) 26)).heap.size = w.heap.size + 1 := by simp
  have F := RF.start R1 28 z16
  have kO1 := kO.alloc (.cells z16 28)
  have hBK : w.heap.size ∉ [B] := by simp; omega
  go_enter Tryd.func35, Tryd.ntmps35
  go_upto_region 1 with fail
  generalize (w.alloc (.cells (op6 o) 26)).alloc (.cells z16 28) = w1 at *
  rw [← hs]
  generalize w.alloc (.cells (op6 o) 26) = w0 at *
  clear hs
  have hK1 := kO1.lt
  go_upto_region 29 with fail
  have hM1 := F.lt
  have b2 := (Below.refl w1.heap.size w1).alloc (Nat.le_refl _) (.cells ffA 40)
  have F2 := F.below b2
  have kO2 := kO1.below b2 kO1.lt
  have mO := Blk.new w1 40 ffA
  generalize w1.alloc (.cells ffA 40) = w2 at *
  generalize hM : w1.heap.size = M at *
  have c3 := F2.r.c3
  have f3 := F2.r.blk.fr 3
  go_upto_region 30 with fail
  have F3 := F2.setBad false
  have kO3 := kO2.other 3 (.bool false) (M := B) (by simp at hBK; omega)
  have mO3 := mO.other 3 (.bool false) (M := B) (by omega)
  generalize w2.setCell ⟨B, 3, none⟩ (.bool false) = w3 at *
  clear c3 f3
  have FD := F3.drew
  have kD := kO3.drew
  have mD := mO3.drew
  refine wp_region_held_drew (S := fun W => OX w0 W N B a len cap zs false w.heap.size (o) ∧ Blk W M 40 ffA) (by kernel_rfl) ⟨⟨⟨_, _, z16, z16_size, FD⟩, kD⟩, mD⟩ (fun hHeld => ?_)
  generalize w3.drew = wd at *
  refine wpAnyH_take (i := 0) (v := ?_) rfl (by kernel_rfl) (by kernel_rfl) (by kernel_rfl) (fun _ _ _ h => h) (Or.inl ⟨by kernel_rfl, ?_⟩) hHeld ?_
  rotate_left
  · intro W hS
    go_simp
    try rfl
  simp only [Act.put, List.setIfInBounds_toArray, List.set_cons_zero, List.set_cons_succ, List.getElem_toArray, List.getElem_cons_succ, List.getElem_cons_zero]
  refine wpAnyH_take (i := 1) (v := ?_) rfl (by kernel_rfl) (by kernel_rfl) (by kernel_rfl) (fun _ _ _ h => h) (Or.inl ⟨by kernel_rfl, ?_⟩) hHeld ?_
  rotate_left
  · intro W hS
    go_simp
    try rfl
  simp only [Act.put, List.setIfInBounds_toArray, List.set_cons_zero, List.set_cons_succ, List.getElem_toArray, List.getElem_cons_succ, List.getElem_cons_zero]
  refine wpAnyH_take (i := 2) (v := ?_) rfl (by kernel_rfl) (by kernel_rfl) (by kernel_rfl) (fun _ _ _ h => h) (Or.inl ⟨by kernel_rfl, ?_⟩) hHeld ?_
  rotate_left
  · intro W hS
    have c0 := hS.2.cell (i := 0) rfl
    go_simp
    try rfl
  simp only [Act.put, List.setIfInBounds_toArray, List.set_cons_zero, List.set_cons_succ, List.getElem_toArray, List.getElem_cons_succ, List.getElem_cons_zero]
  refine wpAnyH_take (i := 3) (v := opV (o)) rfl (by kernel_rfl) (by kernel_rfl) (by kernel_rfl) (fun _ _ _ h => h) (Or.inl ⟨by kernel_rfl, ?_⟩) hHeld ?_
  · intro W hS
    exact run_load_row (by rfl) (by rfl) 26 _ (0, 0) _ hS.1.k.h Tryd.underlying26 rfl (szOp onZ)
  simp only [Act.put, List.setIfInBounds_toArray, List.set_cons_zero, List.set_cons_succ]
  refine wpAnyH_take (i := 4) (v := ?_) rfl (by kernel_rfl) (by kernel_rfl) (by kernel_rfl) (fun _ _ _ h => h) (Or.inl ⟨by kernel_rfl, ?_⟩) hHeld ?_
  rotate_left
  · intro W hS
    go_simp
    try rfl
  simp only [Act.put, List.setIfInBounds_toArray, List.set_cons_zero, List.set_cons_succ, List.getElem_toArray, List.getElem_cons_succ, List.getElem_cons_zero]
  refine wpAnyH_take (i := 5) (v := ?_) rfl (by kernel_rfl) (by kernel_rfl) (by kernel_rfl) (fun _ _ _ h => h) (Or.inl ⟨by kernel_rfl, ?_⟩) hHeld ?_
  rotate_left
  · intro W hS
    go_simp
    try rfl
  simp only [Act.put, List.setIfInBounds_toArray, List.set_cons_zero, List.set_cons_succ, List.getElem_toArray, List.getElem_cons_succ, List.getElem_cons_zero]
  refine wpAnyH_take (i := 6) (v := ?_) rfl (by kernel_rfl) (by kernel_rfl) (by kernel_rfl) (fun _ _ _ h => h) (Or.inl ⟨by kernel_rfl, ?_⟩) hHeld ?_
  rotate_left
  · intro W hS
    go_simp
    try rfl
  simp only [Act.put, List.setIfInBounds_toArray, List.set_cons_zero, List.set_cons_succ, List.getElem_toArray, List.getElem_cons_succ, List.getElem_cons_zero]
  refine wpAnyH_take (i := 7) (v := ?_) rfl (by kernel_rfl) (by kernel_rfl) (by kernel_rfl) (fun _ _ _ h => h) (Or.inl ⟨by kernel_rfl, ?_⟩) hHeld ?_
  rotate_left
  · intro W hS
    have c0 := hS.2.cell (i := 0) rfl
    go_simp
    try rfl
  simp only [Act.put, List.setIfInBounds_toArray, List.set_cons_zero, List.set_cons_succ, List.getElem_toArray, List.getElem_cons_succ, List.getElem_cons_zero]
  refine wpAnyH_take (i := 8) (v := ?_) rfl (by kernel_rfl) (by kernel_rfl) (by kernel_rfl) (fun _ _ _ h => h) (Or.inl ⟨by kernel_rfl, ?_⟩) hHeld ?_
  rotate_left
  · intro W hS
    go_simp
    try rfl
  simp only [Act.put, List.setIfInBounds_toArray, List.set_cons_zero, List.set_cons_succ, List.getElem_toArray, List.getElem_cons_succ, List.getElem_cons_zero]
  refine wpAnyH_ready (rs := [9]) (by kernel_rfl) (by simp) ?_
  refine AllReadyH.cons rfl (fun K hK => ?_) AllReadyH.nil
  rw [if_pos (by kernel_rfl)]
  refine wp_store_row 28 _ _ rfl w0.heap.size (in16 ⟨12, 0, o, onZ, false, 0⟩) rfl rfl 28 z16 FD.z.h (szIn ⟨12, 0, o, onZ, false, 0⟩) z16_size (in16_one _) ?_
  have FZ := FD.done (FD.z.row (in16 ⟨12, 0, o, onZ, false, 0⟩)) (But.row1 _ _ _)
  have kZ := kD.rowOther (M := w0.heap.size) (in16 ⟨12, 0, o, onZ, false, 0⟩) (by omega)
  have mZ := mD.rowOther (M := w0.heap.size) (in16 ⟨12, 0, o, onZ, false, 0⟩) (by omega)
  refine hK.out _ _ ⟨⟨⟨_, _, in16 ⟨12, 0, o, onZ, false, 0⟩, in16_size _, FZ⟩, kZ⟩, mZ⟩ (fun _ => ?_)
  clear hK K
  try simp only [Act.put, List.setIfInBounds_toArray, List.set_cons_zero, List.set_cons_succ, List.getElem_toArray, List.getElem_cons_succ, List.getElem_cons_zero]
  refine wpAnyH_take (i := 10) (v := ?_) rfl (by kernel_rfl) (by kernel_rfl) (by kernel_rfl) (fun _ _ _ h => h) (Or.inl ⟨by kernel_rfl, ?_⟩) ⟨⟨⟨_, _, in16 ⟨12, 0, o, onZ, false, 0⟩, in16_size _, FZ⟩, kZ⟩, mZ⟩ ?_
  rotate_left
  · intro W hS
    go_simp
    try rfl
  simp only [Act.put, List.setIfInBounds_toArray, List.set_cons_zero, List.set_cons_succ, List.getElem_toArray, List.getElem_cons_succ, List.getElem_cons_zero]
  refine wpAnyH_done (by kernel_rfl) ?_ _
  go_wp2_with fail
  exact bodyPost_ret (v := .tuple #[inV ⟨12, 0, o, onZ, false, 0⟩, .bool (false)]) (results_ct rfl _ _ w0.heap.size 28 (in16 ⟨12, 0, o, onZ, false, 0⟩) (0, 0) _ _ rfl rfl FZ.z.h Tryd.underlying28 rfl (szIn inZ)) rfl ⟨rfl, FZ.r, (But.of k01 [B]).trans (FZ.k.mono k01.size (fun _ h => .inl h))⟩
set_option maxRecDepth 100000 in
set_option maxHeartbeats 4000000 in
theorem rest_ff_1 (R : Rs w N B a len cap zs p false false) (o : On)  :
    Calls Tryd.prog 35 #[rp B, .int .u8 255, opV o, .int .i64 1] w fun e w' => e = .returned (.tuple #[inV ⟨13, 0, o, onZ, false, 0⟩, .bool (false)]) ∧ Rs w' N B a len cap zs (p) (false) false ∧ But [B] w.heap.size w w' := by
  have hB0 := R.lt
  have k01 := (Below.refl w.heap.size w).alloc (Nat.le_refl _) (.cells (op6 o) 26)
  have R1 := R.alloc (.cells (op6 o) 26)
  have kO := Blk.new w 26 (op6 o)
  have hKw : w.heap.size < (w.alloc (.cells (op6 o) 26)).heap.size := kO.lt
  have hs : (w.alloc (.cells (op6 o) 26)).heap.size = w.heap.size + 1 := by simp
  have F := RF.start R1 28 z16
  have kO1 := kO.alloc (.cells z16 28)
  have hBK : w.heap.size ∉ [B] := by simp; omega
  go_enter Tryd.func35, Tryd.ntmps35
  go_upto_region 1 with fail
  generalize (w.alloc (.cells (op6 o) 26)).alloc (.cells z16 28) = w1 at *
  rw [← hs]
  generalize w.alloc (.cells (op6 o) 26) = w0 at *
  clear hs
  have hK1 := kO1.lt
  go_upto_region 29 with fail
  have hM1 := F.lt
  have b2 := (Below.refl w1.heap.size w1).alloc (Nat.le_refl _) (.cells ffA 40)
  have F2 := F.below b2
  have kO2 := kO1.below b2 kO1.lt
  have mO := Blk.new w1 40 ffA
  generalize w1.alloc (.cells ffA 40) = w2 at *
  generalize hM : w1.heap.size = M at *
  have c3 := F2.r.c3
  have f3 := F2.r.blk.fr 3
  go_upto_region 30 with fail
  have F3 := F2.setBad false
  have kO3 := kO2.other 3 (.bool false) (M := B) (by simp at hBK; omega)
  have mO3 := mO.other 3 (.bool false) (M := B) (by omega)
  generalize w2.setCell ⟨B, 3, none⟩ (.bool false) = w3 at *
  clear c3 f3
  have FD := F3.drew
  have kD := kO3.drew
  have mD := mO3.drew
  refine wp_region_held_drew (S := fun W => OX w0 W N B a len cap zs false w.heap.size (o) ∧ Blk W M 40 ffA) (by kernel_rfl) ⟨⟨⟨_, _, z16, z16_size, FD⟩, kD⟩, mD⟩ (fun hHeld => ?_)
  generalize w3.drew = wd at *
  refine wpAnyH_take (i := 0) (v := ?_) rfl (by kernel_rfl) (by kernel_rfl) (by kernel_rfl) (fun _ _ _ h => h) (Or.inl ⟨by kernel_rfl, ?_⟩) hHeld ?_
  rotate_left
  · intro W hS
    go_simp
    try rfl
  simp only [Act.put, List.setIfInBounds_toArray, List.set_cons_zero, List.set_cons_succ, List.getElem_toArray, List.getElem_cons_succ, List.getElem_cons_zero]
  refine wpAnyH_take (i := 1) (v := ?_) rfl (by kernel_rfl) (by kernel_rfl) (by kernel_rfl) (fun _ _ _ h => h) (Or.inl ⟨by kernel_rfl, ?_⟩) hHeld ?_
  rotate_left
  · intro W hS
    go_simp
    try rfl
  simp only [Act.put, List.setIfInBounds_toArray, List.set_cons_zero, List.set_cons_succ, List.getElem_toArray, List.getElem_cons_succ, List.getElem_cons_zero]
  refine wpAnyH_take (i := 2) (v := ?_) rfl (by kernel_rfl) (by kernel_rfl) (by kernel_rfl) (fun _ _ _ h => h) (Or.inl ⟨by kernel_rfl, ?_⟩) hHeld ?_
  rotate_left
  · intro W hS
    have c0 := hS.2.cell (i := 1) rfl
    go_simp
    try rfl
  simp only [Act.put, List.setIfInBounds_toArray, List.set_cons_zero, List.set_cons_succ, List.getElem_toArray, List.getElem_cons_succ, List.getElem_cons_zero]
  refine wpAnyH_take (i := 3) (v := opV (o)) rfl (by kernel_rfl) (by kernel_rfl) (by kernel_rfl) (fun _ _ _ h => h) (Or.inl ⟨by kernel_rfl, ?_⟩) hHeld ?_
  · intro W hS
    exact run_load_row (by rfl) (by rfl) 26 _ (0, 0) _ hS.1.k.h Tryd.underlying26 rfl (szOp onZ)
  simp only [Act.put, List.setIfInBounds_toArray, List.set_cons_zero, List.set_cons_succ]
  refine wpAnyH_take (i := 4) (v := ?_) rfl (by kernel_rfl) (by kernel_rfl) (by kernel_rfl) (fun _ _ _ h => h) (Or.inl ⟨by kernel_rfl, ?_⟩) hHeld ?_
  rotate_left
  · intro W hS
    go_simp
    try rfl
  simp only [Act.put, List.setIfInBounds_toArray, List.set_cons_zero, List.set_cons_succ, List.getElem_toArray, List.getElem_cons_succ, List.getElem_cons_zero]
  refine wpAnyH_take (i := 5) (v := ?_) rfl (by kernel_rfl) (by kernel_rfl) (by kernel_rfl) (fun _ _ _ h => h) (Or.inl ⟨by kernel_rfl, ?_⟩) hHeld ?_
  rotate_left
  · intro W hS
    go_simp
    try rfl
  simp only [Act.put, List.setIfInBounds_toArray, List.set_cons_zero, List.set_cons_succ, List.getElem_toArray, List.getElem_cons_succ, List.getElem_cons_zero]
  refine wpAnyH_take (i := 6) (v := ?_) rfl (by kernel_rfl) (by kernel_rfl) (by kernel_rfl) (fun _ _ _ h => h) (Or.inl ⟨by kernel_rfl, ?_⟩) hHeld ?_
  rotate_left
  · intro W hS
    go_simp
    try rfl
  simp only [Act.put, List.setIfInBounds_toArray, List.set_cons_zero, List.set_cons_succ, List.getElem_toArray, List.getElem_cons_succ, List.getElem_cons_zero]
  refine wpAnyH_take (i := 7) (v := ?_) rfl (by kernel_rfl) (by kernel_rfl) (by kernel_rfl) (fun _ _ _ h => h) (Or.inl ⟨by kernel_rfl, ?_⟩) hHeld ?_
  rotate_left
  · intro W hS
    have c0 := hS.2.cell (i := 1) rfl
    go_simp
    try rfl
  simp only [Act.put, List.setIfInBounds_toArray, List.set_cons_zero, List.set_cons_succ, List.getElem_toArray, List.getElem_cons_succ, List.getElem_cons_zero]
  refine wpAnyH_take (i := 8) (v := ?_) rfl (by kernel_rfl) (by kernel_rfl) (by kernel_rfl) (fun _ _ _ h => h) (Or.inl ⟨by kernel_rfl, ?_⟩) hHeld ?_
  rotate_left
  · intro W hS
    go_simp
    try rfl
  simp only [Act.put, List.setIfInBounds_toArray, List.set_cons_zero, List.set_cons_succ, List.getElem_toArray, List.getElem_cons_succ, List.getElem_cons_zero]
  refine wpAnyH_ready (rs := [9]) (by kernel_rfl) (by simp) ?_
  refine AllReadyH.cons rfl (fun K hK => ?_) AllReadyH.nil
  rw [if_pos (by kernel_rfl)]
  refine wp_store_row 28 _ _ rfl w0.heap.size (in16 ⟨13, 0, o, onZ, false, 0⟩) rfl rfl 28 z16 FD.z.h (szIn ⟨13, 0, o, onZ, false, 0⟩) z16_size (in16_one _) ?_
  have FZ := FD.done (FD.z.row (in16 ⟨13, 0, o, onZ, false, 0⟩)) (But.row1 _ _ _)
  have kZ := kD.rowOther (M := w0.heap.size) (in16 ⟨13, 0, o, onZ, false, 0⟩) (by omega)
  have mZ := mD.rowOther (M := w0.heap.size) (in16 ⟨13, 0, o, onZ, false, 0⟩) (by omega)
  refine hK.out _ _ ⟨⟨⟨_, _, in16 ⟨13, 0, o, onZ, false, 0⟩, in16_size _, FZ⟩, kZ⟩, mZ⟩ (fun _ => ?_)
  clear hK K
  try simp only [Act.put, List.setIfInBounds_toArray, List.set_cons_zero, List.set_cons_succ, List.getElem_toArray, List.getElem_cons_succ, List.getElem_cons_zero]
  refine wpAnyH_take (i := 10) (v := ?_) rfl (by kernel_rfl) (by kernel_rfl) (by kernel_rfl) (fun _ _ _ h => h) (Or.inl ⟨by kernel_rfl, ?_⟩) ⟨⟨⟨_, _, in16 ⟨13, 0, o, onZ, false, 0⟩, in16_size _, FZ⟩, kZ⟩, mZ⟩ ?_
  rotate_left
  · intro W hS
    go_simp
    try rfl
  simp only [Act.put, List.setIfInBounds_toArray, List.set_cons_zero, List.set_cons_succ, List.getElem_toArray, List.getElem_cons_succ, List.getElem_cons_zero]
  refine wpAnyH_done (by kernel_rfl) ?_ _
  go_wp2_with fail
  exact bodyPost_ret (v := .tuple #[inV ⟨13, 0, o, onZ, false, 0⟩, .bool (false)]) (results_ct rfl _ _ w0.heap.size 28 (in16 ⟨13, 0, o, onZ, false, 0⟩) (0, 0) _ _ rfl rfl FZ.z.h Tryd.underlying28 rfl (szIn inZ)) rfl ⟨rfl, FZ.r, (But.of k01 [B]).trans (FZ.k.mono k01.size (fun _ h => .inl h))⟩
set_option maxRecDepth 100000 in
set_option maxHeartbeats 4000000 in
theorem rest_ff_2 (R : Rs w N B a len cap zs p false false) (o : On)  :
    Calls Tryd.prog 35 #[rp B, .int .u8 255, opV o, .int .i64 2] w fun e w' => e = .returned (.tuple #[inV ⟨30, 0, o, onZ, false, 0⟩, .bool (false)]) ∧ Rs w' N B a len cap zs (p) (false) false ∧ But [B] w.heap.size w w' := by
  have hB0 := R.lt
  have k01 := (Below.refl w.heap.size w).alloc (Nat.le_refl _) (.cells (op6 o) 26)
  have R1 := R.alloc (.cells (op6 o) 26)
  have kO := Blk.new w 26 (op6 o)
  have hKw : w.heap.size < (w.alloc (.cells (op6 o) 26)).heap.size := kO.lt
  have hs : (w.alloc (.cells (op6 o) 26)).heap.size = w.heap.size + 1 := by simp
  have F := RF.start R1 28 z16
  have kO1 := kO.alloc (.cells z16 28)
  have hBK : w.heap.size ∉ [B] := by simp; omega
  go_enter Tryd.func35, Tryd.ntmps35
  go_upto_region 1 with fail
  generalize (w.alloc (.cells (op6 o) 26)).alloc (.cells z16 28) = w1 at *
  rw [← hs]
  generalize w.alloc (.cells (op6 o) 26) = w0 at *
  clear hs
  have hK1 := kO1.lt
  go_upto_region 29 with fail
  have hM1 := F.lt
  have b2 := (Below.refl w1.heap.size w1).alloc (Nat.le_refl _) (.cells ffA 40)
  have F2 := F.below b2
  have kO2 := kO1.below b2 kO1.lt
  have mO := Blk.new w1 40 ffA
  generalize w1.alloc (.cells ffA 40) = w2 at *
  generalize hM : w1.heap.size = M at *
  have c3 := F2.r.c3
  have f3 := F2.r.blk.fr 3
  go_upto_region 30 with fail
  have F3 := F2.setBad false
  have kO3 := kO2.other 3 (.bool false) (M := B) (by simp at hBK; omega)
  have mO3 := mO.other 3 (.bool false) (M := B) (by omega)
  generalize w2.setCell ⟨B, 3, none⟩ (.bool false) = w3 at *
  clear c3 f3
  have FD := F3.drew
  have kD := kO3.drew
  have mD := mO3.drew
  refine wp_region_held_drew (S := fun W => OX w0 W N B a len cap zs false w.heap.size (o) ∧ Blk W M 40 ffA) (by kernel_rfl) ⟨⟨⟨_, _, z16, z16_size, FD⟩, kD⟩, mD⟩ (fun hHeld => ?_)
  generalize w3.drew = wd at *
  refine wpAnyH_take (i := 0) (v := ?_) rfl (by kernel_rfl) (by kernel_rfl) (by kernel_rfl) (fun _ _ _ h => h) (Or.inl ⟨by kernel_rfl, ?_⟩) hHeld ?_
  rotate_left
  · intro W hS
    go_simp
    try rfl
  simp only [Act.put, List.setIfInBounds_toArray, List.set_cons_zero, List.set_cons_succ, List.getElem_toArray, List.getElem_cons_succ, List.getElem_cons_zero]
  refine wpAnyH_take (i := 1) (v := ?_) rfl (by kernel_rfl) (by kernel_rfl) (by kernel_rfl) (fun _ _ _ h => h) (Or.inl ⟨by kernel_rfl, ?_⟩) hHeld ?_
  rotate_left
  · intro W hS
    go_simp
    try rfl
  simp only [Act.put, List.setIfInBounds_toArray, List.set_cons_zero, List.set_cons_succ, List.getElem_toArray, List.getElem_cons_succ, List.getElem_cons_zero]
  refine wpAnyH_take (i := 2) (v := ?_) rfl (by kernel_rfl) (by kernel_rfl) (by kernel_rfl) (fun _ _ _ h => h) (Or.inl ⟨by kernel_rfl, ?_⟩) hHeld ?_
  rotate_left
  · intro W hS
    have c0 := hS.2.cell (i := 2) rfl
    go_simp
    try rfl
  simp only [Act.put, List.setIfInBounds_toArray, List.set_cons_zero, List.set_cons_succ, List.getElem_toArray, List.getElem_cons_succ, List.getElem_cons_zero]
  refine wpAnyH_take (i := 3) (v := opV (o)) rfl (by kernel_rfl) (by kernel_rfl) (by kernel_rfl) (fun _ _ _ h => h) (Or.inl ⟨by kernel_rfl, ?_⟩) hHeld ?_
  · intro W hS
    exact run_load_row (by rfl) (by rfl) 26 _ (0, 0) _ hS.1.k.h Tryd.underlying26 rfl (szOp onZ)
  simp only [Act.put, List.setIfInBounds_toArray, List.set_cons_zero, List.set_cons_succ]
  refine wpAnyH_take (i := 4) (v := ?_) rfl (by kernel_rfl) (by kernel_rfl) (by kernel_rfl) (fun _ _ _ h => h) (Or.inl ⟨by kernel_rfl, ?_⟩) hHeld ?_
  rotate_left
  · intro W hS
    go_simp
    try rfl
  simp only [Act.put, List.setIfInBounds_toArray, List.set_cons_zero, List.set_cons_succ, List.getElem_toArray, List.getElem_cons_succ, List.getElem_cons_zero]
  refine wpAnyH_take (i := 5) (v := ?_) rfl (by kernel_rfl) (by kernel_rfl) (by kernel_rfl) (fun _ _ _ h => h) (Or.inl ⟨by kernel_rfl, ?_⟩) hHeld ?_
  rotate_left
  · intro W hS
    go_simp
    try rfl
  simp only [Act.put, List.setIfInBounds_toArray, List.set_cons_zero, List.set_cons_succ, List.getElem_toArray, List.getElem_cons_succ, List.getElem_cons_zero]
  refine wpAnyH_take (i := 6) (v := ?_) rfl (by kernel_rfl) (by kernel_rfl) (by kernel_rfl) (fun _ _ _ h => h) (Or.inl ⟨by kernel_rfl, ?_⟩) hHeld ?_
  rotate_left
  · intro W hS
    go_simp
    try rfl
  simp only [Act.put, List.setIfInBounds_toArray, List.set_cons_zero, List.set_cons_succ, List.getElem_toArray, List.getElem_cons_succ, List.getElem_cons_zero]
  refine wpAnyH_take (i := 7) (v := ?_) rfl (by kernel_rfl) (by kernel_rfl) (by kernel_rfl) (fun _ _ _ h => h) (Or.inl ⟨by kernel_rfl, ?_⟩) hHeld ?_
  rotate_left
  · intro W hS
    have c0 := hS.2.cell (i := 2) rfl
    go_simp
    try rfl
  simp only [Act.put, List.setIfInBounds_toArray, List.set_cons_zero, List.set_cons_succ, List.getElem_toArray, List.getElem_cons_succ, List.getElem_cons_zero]
  refine wpAnyH_take (i := 8) (v := ?_) rfl (by kernel_rfl) (by kernel_rfl) (by kernel_rfl) (fun _ _ _ h => h) (Or.inl ⟨by kernel_rfl, ?_⟩) hHeld ?_
  rotate_left
  · intro W hS
    go_simp
    try rfl
  simp only [Act.put, List.setIfInBounds_toArray, List.set_cons_zero, List.set_cons_succ, List.getElem_toArray, List.getElem_cons_succ, List.getElem_cons_zero]
  refine wpAnyH_ready (rs := [9]) (by kernel_rfl) (by simp) ?_
  refine AllReadyH.cons rfl (fun K hK => ?_) AllReadyH.nil
  rw [if_pos (by kernel_rfl)]
  refine wp_store_row 28 _ _ rfl w0.heap.size (in16 ⟨30, 0, o, onZ, false, 0⟩) rfl rfl 28 z16 FD.z.h (szIn ⟨30, 0, o, onZ, false, 0⟩) z16_size (in16_one _) ?_
  have FZ := FD.done (FD.z.row (in16 ⟨30, 0, o, onZ, false, 0⟩)) (But.row1 _ _ _)
  have kZ := kD.rowOther (M := w0.heap.size) (in16 ⟨30, 0, o, onZ, false, 0⟩) (by omega)
  have mZ := mD.rowOther (M := w0.heap.size) (in16 ⟨30, 0, o, onZ, false, 0⟩) (by omega)
  refine hK.out _ _ ⟨⟨⟨_, _, in16 ⟨30, 0, o, onZ, false, 0⟩, in16_size _, FZ⟩, kZ⟩, mZ⟩ (fun _ => ?_)
  clear hK K
  try simp only [Act.put, List.setIfInBounds_toArray, List.set_cons_zero, List.set_cons_succ, List.getElem_toArray, List.getElem_cons_succ, List.getElem_cons_zero]
  refine wpAnyH_take (i := 10) (v := ?_) rfl (by kernel_rfl) (by kernel_rfl) (by kernel_rfl) (fun _ _ _ h => h) (Or.inl ⟨by kernel_rfl, ?_⟩) ⟨⟨⟨_, _, in16 ⟨30, 0, o, onZ, false, 0⟩, in16_size _, FZ⟩, kZ⟩, mZ⟩ ?_
  rotate_left
  · intro W hS
    go_simp
    try rfl
  simp only [Act.put, List.setIfInBounds_toArray, List.set_cons_zero, List.set_cons_succ, List.getElem_toArray, List.getElem_cons_succ, List.getElem_cons_zero]
  refine wpAnyH_done (by kernel_rfl) ?_ _
  go_wp2_with fail
  exact bodyPost_ret (v := .tuple #[inV ⟨30, 0, o, onZ, false, 0⟩, .bool (false)]) (results_ct rfl _ _ w0.heap.size 28 (in16 ⟨30, 0, o, onZ, false, 0⟩) (0, 0) _ _ rfl rfl FZ.z.h Tryd.underlying28 rfl (szIn inZ)) rfl ⟨rfl, FZ.r, (But.of k01 [B]).trans (FZ.k.mono k01.size (fun _ h => .inl h))⟩
set_option maxRecDepth 100000 in
set_option maxHeartbeats 4000000 in
theorem rest_ff_3 (R : Rs w N B a len cap zs p false false) (o : On)  :
    Calls Tryd.prog 35 #[rp B, .int .u8 255, opV o, .int .i64 3] w fun e w' => e = .returned (.tuple #[inV ⟨0, 0, o, onZ, false, 0⟩, .bool (true)]) ∧ Rs w' N B a len cap zs (p) (false) false ∧ But [B] w.heap.size w w' := by
  have hB0 := R.lt
  have k01 := (Below.refl w.heap.size w).alloc (Nat.le_refl _) (.cells (op6 o) 26)
  have R1 := R.alloc (.cells (op6 o) 26)
  have kO := Blk.new w 26 (op6 o)
  have hKw : w.heap.size < (w.alloc (.cells (op6 o) 26)).heap.size := kO.lt
  have hs : (w.alloc (.cells (op6 o) 26)).heap.size = w.heap.size + 1 := by simp
  have F := RF.start R1 28 z16
  have kO1 := kO.alloc (.cells z16 28)
  have hBK : w.heap.size ∉ [B] := by simp; omega
  go_enter Tryd.func35, Tryd.ntmps35
  go_upto_region 1 with fail
  generalize (w.alloc (.cells (op6 o) 26)).alloc (.cells z16 28) = w1 at *
  rw [← hs]
  generalize w.alloc (.cells (op6 o) 26) = w0 at *
  clear hs
  have hK1 := kO1.lt
  go_upto_region 29 with fail
  have hM1 := F.lt
  have b2 := (Below.refl w1.heap.size w1).alloc (Nat.le_refl _) (.cells ffA 40)
  have F2 := F.below b2
  have kO2 := kO1.below b2 kO1.lt
  have mO := Blk.new w1 40 ffA
  generalize w1.alloc (.cells ffA 40) = w2 at *
  generalize hM : w1.heap.size = M at *
  have c3 := F2.r.c3
  have f3 := F2.r.blk.fr 3
  go_upto_region 30 with fail
  have F3 := F2.setBad false
  have kO3 := kO2.other 3 (.bool false) (M := B) (by simp at hBK; omega)
  have mO3 := mO.other 3 (.bool false) (M := B) (by omega)
  generalize w2.setCell ⟨B, 3, none⟩ (.bool false) = w3 at *
  clear c3 f3
  have FD := F3.drew
  have kD := kO3.drew
  have mD := mO3.drew
  refine wp_region_held_drew (S := fun W => OX w0 W N B a len cap zs false w.heap.size (o) ∧ Blk W M 40 ffA) (by kernel_rfl) ⟨⟨⟨_, _, z16, z16_size, FD⟩, kD⟩, mD⟩ (fun hHeld => ?_)
  generalize w3.drew = wd at *
  refine wpAnyH_take (i := 0) (v := ?_) rfl (by kernel_rfl) (by kernel_rfl) (by kernel_rfl) (fun _ _ _ h => h) (Or.inl ⟨by kernel_rfl, ?_⟩) hHeld ?_
  rotate_left
  · intro W hS
    go_simp
    try rfl
  simp only [Act.put, List.setIfInBounds_toArray, List.set_cons_zero, List.set_cons_succ, List.getElem_toArray, List.getElem_cons_succ, List.getElem_cons_zero]
  refine wpAnyH_take (i := 1) (v := ?_) rfl (by kernel_rfl) (by kernel_rfl) (by kernel_rfl) (fun _ _ _ h => h) (Or.inl ⟨by kernel_rfl, ?_⟩) hHeld ?_
  rotate_left
  · intro W hS
    go_simp
    try rfl
  simp only [Act.put, List.setIfInBounds_toArray, List.set_cons_zero, List.set_cons_succ, List.getElem_toArray, List.getElem_cons_succ, List.getElem_cons_zero]
  refine wpAnyH_take (i := 2) (v := ?_) rfl (by kernel_rfl) (by kernel_rfl) (by kernel_rfl) (fun _ _ _ h => h) (Or.inl ⟨by kernel_rfl, ?_⟩) hHeld ?_
  rotate_left
  · intro W hS
    have c0 := hS.2.cell (i := 3) rfl
    go_simp
    try rfl
  simp only [Act.put, List.setIfInBounds_toArray, List.set_cons_zero, List.set_cons_succ, List.getElem_toArray, List.getElem_cons_succ, List.getElem_cons_zero]
  refine wpAnyH_take (i := 3) (v := opV (o)) rfl (by kernel_rfl) (by kernel_rfl) (by kernel_rfl) (fun _ _ _ h => h) (Or.inl ⟨by kernel_rfl, ?_⟩) hHeld ?_
  · intro W hS
    exact run_load_row (by rfl) (by rfl) 26 _ (0, 0) _ hS.1.k.h Tryd.underlying26 rfl (szOp onZ)
  simp only [Act.put, List.setIfInBounds_toArray, List.set_cons_zero, List.set_cons_succ]
  refine wpAnyH_take (i := 4) (v := ?_) rfl (by kernel_rfl) (by kernel_rfl) (by kernel_rfl) (fun _ _ _ h => h) (Or.inl ⟨by kernel_rfl, ?_⟩) hHeld ?_
  rotate_left
  · intro W hS
    go_simp
    try rfl
  simp only [Act.put, List.setIfInBounds_toArray, List.set_cons_zero, List.set_cons_succ, List.getElem_toArray, List.getElem_cons_succ, List.getElem_cons_zero]
  refine wpAnyH_take (i := 5) (v := ?_) rfl (by kernel_rfl) (by kernel_rfl) (by kernel_rfl) (fun _ _ _ h => h) (Or.inl ⟨by kernel_rfl, ?_⟩) hHeld ?_
  rotate_left
  · intro W hS
    go_simp
    try rfl
  simp only [Act.put, List.setIfInBounds_toArray, List.set_cons_zero, List.set_cons_succ, List.getElem_toArray, List.getElem_cons_succ, List.getElem_cons_zero]
  refine wpAnyH_take (i := 6) (v := ?_) rfl (by kernel_rfl) (by kernel_rfl) (by kernel_rfl) (fun _ _ _ h => h) (Or.inl ⟨by kernel_rfl, ?_⟩) hHeld ?_
  rotate_left
  · intro W hS
    go_simp
    try rfl
  simp only [Act.put, List.setIfInBounds_toArray, List.set_cons_zero, List.set_cons_succ, List.getElem_toArray, List.getElem_cons_succ, List.getElem_cons_zero]
  refine wpAnyH_take (i := 7) (v := ?_) rfl (by kernel_rfl) (by kernel_rfl) (by kernel_rfl) (fun _ _ _ h => h) (Or.inl ⟨by kernel_rfl, ?_⟩) hHeld ?_
  rotate_left
  · intro W hS
    have c0 := hS.2.cell (i := 3) rfl
    go_simp
    try rfl
  simp only [Act.put, List.setIfInBounds_toArray, List.set_cons_zero, List.set_cons_succ, List.getElem_toArray, List.getElem_cons_succ, List.getElem_cons_zero]
  refine wpAnyH_take (i := 8) (v := ?_) rfl (by kernel_rfl) (by kernel_rfl) (by kernel_rfl) (fun _ _ _ h => h) (Or.inl ⟨by kernel_rfl, ?_⟩) hHeld ?_
  rotate_left
  · intro W hS
    go_simp
    try rfl
  simp only [Act.put, List.setIfInBounds_toArray, List.set_cons_zero, List.set_cons_succ, List.getElem_toArray, List.getElem_cons_succ, List.getElem_cons_zero]
  refine wpAnyH_ready (rs := [9]) (by kernel_rfl) (by simp) ?_
  refine AllReadyH.cons rfl (fun K hK => ?_) AllReadyH.nil
  rw [if_pos (by kernel_rfl)]
  refine wp_store_row 28 _ _ rfl w0.heap.size (in16 ⟨0, 0, o, onZ, false, 0⟩) rfl rfl 28 z16 FD.z.h (szIn ⟨0, 0, o, onZ, false, 0⟩) z16_size (in16_one _) ?_
  have FZ := FD.done (FD.z.row (in16 ⟨0, 0, o, onZ, false, 0⟩)) (But.row1 _ _ _)
  have kZ := kD.rowOther (M := w0.heap.size) (in16 ⟨0, 0, o, onZ, false, 0⟩) (by omega)
  have mZ := mD.rowOther (M := w0.heap.size) (in16 ⟨0, 0, o, onZ, false, 0⟩) (by omega)
  refine hK.out _ _ ⟨⟨⟨_, _, in16 ⟨0, 0, o, onZ, false, 0⟩, in16_size _, FZ⟩, kZ⟩, mZ⟩ (fun _ => ?_)
  clear hK K
  try simp only [Act.put, List.setIfInBounds_toArray, List.set_cons_zero, List.set_cons_succ, List.getElem_toArray, List.getElem_cons_succ, List.getElem_cons_zero]
  refine wpAnyH_take (i := 10) (v := ?_) rfl (by kernel_rfl) (by kernel_rfl) (by kernel_rfl) (fun _ _ _ h => h) (Or.inl ⟨by kernel_rfl, ?_⟩) ⟨⟨⟨_, _, in16 ⟨0, 0, o, onZ, false, 0⟩, in16_size _, FZ⟩, kZ⟩, mZ⟩ ?_
  rotate_left
  · intro W hS
    go_simp
    try rfl
  simp only [Act.put, List.setIfInBounds_toArray, List.set_cons_zero, List.set_cons_succ, List.getElem_toArray, List.getElem_cons_succ, List.getElem_cons_zero]
  refine wpAnyH_done (by kernel_rfl) ?_ _
  go_wp2_with fail
  exact bodyPost_ret (v := .tuple #[inV ⟨0, 0, o, onZ, false, 0⟩, .bool (true)]) (results_ct rfl _ _ w0.heap.size 28 (in16 ⟨0, 0, o, onZ, false, 0⟩) (0, 0) _ _ rfl rfl FZ.z.h Tryd.underlying28 rfl (szIn inZ)) rfl ⟨rfl, FZ.r, (But.of k01 [B]).trans (FZ.k.mono k01.size (fun _ h => .inl h))⟩
set_option maxRecDepth 100000 in
set_option maxHeartbeats 4000000 in
theorem rest_ff_4 (R : Rs w N B a len cap zs p false false) (o : On)  :
    Calls Tryd.prog 35 #[rp B, .int .u8 255, opV o, .int .i64 4] w fun e w' => e = .returned (.tuple #[inV ⟨32, 0, o, onZ, false, 0⟩, .bool (false)]) ∧ Rs w' N B a len cap zs (p) (false) false ∧ But [B] w.heap.size w w' := by
  have hB0 := R.lt
  have k01 := (Below.refl w.heap.size w).alloc (Nat.le_refl _) (.cells (op6 o) 26)
  have R1 := R.alloc (.cells (op6 o) 26)
  have kO := Blk.new w 26 (op6 o)
  have hKw : w.heap.size < (w.alloc (.cells (op6 o) 26)).heap.size := kO.lt
  have hs : (w.alloc (.cells (op6 o) 26)).heap.size = w.heap.size + 1 := by simp
  have F := RF.start R1 28 z16
  have kO1 := kO.alloc (.cells z16 28)
  have hBK : w.heap.size ∉ [B] := by simp; omega
  go_enter Tryd.func35, Tryd.ntmps35
  go_upto_region 1 with fail
  generalize (w.alloc (.cells (op6 o) 26)).alloc (.cells z16 28) = w1 at *
  rw [← hs]
  generalize w.alloc (.cells (op6 o) 26) = w0 at *
  clear hs
  have hK1 := kO1.lt
  go_upto_region 29 with fail
  have hM1 := F.lt
  have b2 := (Below.refl w1.heap.size w1).alloc (Nat.le_refl _) (.cells ffA 40)
  have F2 := F.below b2
  have kO2 := kO1.below b2 kO1.lt
  have mO := Blk.new w1 40 ffA
  generalize w1.alloc (.cells ffA 40) = w2 at *
  generalize hM : w1.heap.size = M at *
  have c3 := F2.r.c3
  have f3 := F2.r.blk.fr 3
  go_upto_region 30 with fail
  have F3 := F2.setBad false
  have kO3 := kO2.other 3 (.bool false) (M := B) (by simp at hBK; omega)
  have mO3 := mO.other 3 (.bool false) (M := B) (by omega)
  generalize w2.setCell ⟨B, 3, none⟩ (.bool false) = w3 at *
  clear c3 f3
  have FD := F3.drew
  have kD := kO3.drew
  have mD := mO3.drew
  refine wp_region_held_drew (S := fun W => OX w0 W N B a len cap zs false w.heap.size (o) ∧ Blk W M 40 ffA) (by kernel_rfl) ⟨⟨⟨_, _, z16, z16_size, FD⟩, kD⟩, mD⟩ (fun hHeld => ?_)
  generalize w3.drew = wd at *
  refine wpAnyH_take (i := 0) (v := ?_) rfl (by kernel_rfl) (by kernel_rfl) (by kernel_rfl) (fun _ _ _ h => h) (Or.inl ⟨by kernel_rfl, ?_⟩) hHeld ?_
  rotate_left
  · intro W hS
    go_simp
    try rfl
  simp only [Act.put, List.setIfInBounds_toArray, List.set_cons_zero, List.set_cons_succ, List.getElem_toArray, List.getElem_cons_succ, List.getElem_cons_zero]
  refine wpAnyH_take (i := 1) (v := ?_) rfl (by kernel_rfl) (by kernel_rfl) (by kernel_rfl) (fun _ _ _ h => h) (Or.inl ⟨by kernel_rfl, ?_⟩) hHeld ?_
  rotate_left
  · intro W hS
    go_simp
    try rfl
  simp only [Act.put, List.setIfInBounds_toArray, List.set_cons_zero, List.set_cons_succ, List.getElem_toArray, List.getElem_cons_succ, List.getElem_cons_zero]
  refine wpAnyH_take (i := 2) (v := ?_) rfl (by kernel_rfl) (by kernel_rfl) (by kernel_rfl) (fun _ _ _ h => h) (Or.inl ⟨by kernel_rfl, ?_⟩) hHeld ?_
  rotate_left
  · intro W hS
    have c0 := hS.2.cell (i := 4) rfl
    go_simp
    try rfl
  simp only [Act.put, List.setIfInBounds_toArray, List.set_cons_zero, List.set_cons_succ, List.getElem_toArray, List.getElem_cons_succ, List.getElem_cons_zero]
  refine wpAnyH_take (i := 3) (v := opV (o)) rfl (by kernel_rfl) (by kernel_rfl) (by kernel_rfl) (fun _ _ _ h => h) (Or.inl ⟨by kernel_rfl, ?_⟩) hHeld ?_
  · intro W hS
    exact run_load_row (by rfl) (by rfl) 26 _ (0, 0) _ hS.1.k.h Tryd.underlying26 rfl (szOp onZ)
  simp only [Act.put, List.setIfInBounds_toArray, List.set_cons_zero, List.set_cons_succ]
  refine wpAnyH_take (i := 4) (v := ?_) rfl (by kernel_rfl) (by kernel_rfl) (by kernel_rfl) (fun _ _ _ h => h) (Or.inl ⟨by kernel_rfl, ?_⟩) hHeld ?_
  rotate_left
  · intro W hS
    go_simp
    try rfl
  simp only [Act.put, List.setIfInBounds_toArray, List.set_cons_zero, List.set_cons_succ, List.getElem_toArray, List.getElem_cons_succ, List.getElem_cons_zero]
  refine wpAnyH_take (i := 5) (v := ?_) rfl (by kernel_rfl) (by kernel_rfl) (by kernel_rfl) (fun _ _ _ h => h) (Or.inl ⟨by kernel_rfl, ?_⟩) hHeld ?_
  rotate_left
  · intro W hS
    go_simp
    try rfl
  simp only [Act.put, List.setIfInBounds_toArray, List.set_cons_zero, List.set_cons_succ, List.getElem_toArray, List.getElem_cons_succ, List.getElem_cons_zero]
  refine wpAnyH_take (i := 6) (v := ?_) rfl (by kernel_rfl) (by kernel_rfl) (by kernel_rfl) (fun _ _ _ h => h) (Or.inl ⟨by kernel_rfl, ?_⟩) hHeld ?_
  rotate_left
  · intro W hS
    go_simp
    try rfl
  simp only [Act.put, List.setIfInBounds_toArray, List.set_cons_zero, List.set_cons_succ, List.getElem_toArray, List.getElem_cons_succ, List.getElem_cons_zero]
  refine wpAnyH_take (i := 7) (v := ?_) rfl (by kernel_rfl) (by kernel_rfl) (by kernel_rfl) (fun _ _ _ h => h) (Or.inl ⟨by kernel_rfl, ?_⟩) hHeld ?_
  rotate_left
  · intro W hS
    have c0 := hS.2.cell (i := 4) rfl
    go_simp
    try rfl
  simp only [Act.put, List.setIfInBounds_toArray, List.set_cons_zero, List.set_cons_succ, List.getElem_toArray, List.getElem_cons_succ, List.getElem_cons_zero]
  refine wpAnyH_take (i := 8) (v := ?_) rfl (by kernel_rfl) (by kernel_rfl) (by kernel_rfl) (fun _ _ _ h => h) (Or.inl ⟨by kernel_rfl, ?_⟩) hHeld ?_
  rotate_left
  · intro W hS
    go_simp
    try rfl
  simp only [Act.put, List.setIfInBounds_toArray, List.set_cons_zero, List.set_cons_succ, List.getElem_toArray, List.getElem_cons_succ, List.getElem_cons_zero]
  refine wpAnyH_ready (rs := [9]) (by kernel_rfl) (by simp) ?_
  refine AllReadyH.cons rfl (fun K hK => ?_) AllReadyH.nil
  rw [if_pos (by kernel_rfl)]
  refine wp_store_row 28 _ _ rfl w0.heap.size (in16 ⟨32, 0, o, onZ, false, 0⟩) rfl rfl 28 z16 FD.z.h (szIn ⟨32, 0, o, onZ, false, 0⟩) z16_size (in16_one _) ?_
  have FZ := FD.done (FD.z.row (in16 ⟨32, 0, o, onZ, false, 0⟩)) (But.row1 _ _ _)
  have kZ := kD.rowOther (M := w0.heap.size) (in16 ⟨32, 0, o, onZ, false, 0⟩) (by omega)
  have mZ := mD.rowOther (M := w0.heap.size) (in16 ⟨32, 0, o, onZ, false, 0⟩) (by omega)
  refine hK.out _ _ ⟨⟨⟨_, _, in16 ⟨32, 0, o, onZ, false, 0⟩, in16_size _, FZ⟩, kZ⟩, mZ⟩ (fun _ => ?_)
  clear hK K
  try simp only [Act.put, List.setIfInBounds_toArray, List.set_cons_zero, List.set_cons_succ, List.getElem_toArray, List.getElem_cons_succ, List.getElem_cons_zero]
  refine wpAnyH_take (i := 10) (v := ?_) rfl (by kernel_rfl) (by kernel_rfl) (by kernel_rfl) (fun _ _ _ h => h) (Or.inl ⟨by kernel_rfl, ?_⟩) ⟨⟨⟨_, _, in16 ⟨32, 0, o, onZ, false, 0⟩, in16_size _, FZ⟩, kZ⟩, mZ⟩ ?_
  rotate_left
  · intro W hS
    go_simp
    try rfl
  simp only [Act.put, List.setIfInBounds_toArray, List.set_cons_zero, List.set_cons_succ, List.getElem_toArray, List.getElem_cons_succ, List.getElem_cons_zero]
  refine wpAnyH_done (by kernel_rfl) ?_ _
  go_wp2_with fail
  exact bodyPost_ret (v := .tuple #[inV ⟨32, 0, o, onZ, false, 0⟩, .bool (false)]) (results_ct rfl _ _ w0.heap.size 28 (in16 ⟨32, 0, o, onZ, false, 0⟩) (0, 0) _ _ rfl rfl FZ.z.h Tryd.underlying28 rfl (szIn inZ)) rfl ⟨rfl, FZ.r, (But.of k01 [B]).trans (FZ.k.mono k01.size (fun _ h => .inl h))⟩
set_option maxRecDepth 100000 in
set_option maxHeartbeats 4000000 in
theorem rest_ff_5 (R : Rs w N B a len cap zs p false false) (o : On)  :
    Calls Tryd.prog 35 #[rp B, .int .u8 255, opV o, .int .i64 5] w fun e w' => e = .returned (.tuple #[inV ⟨0, 0, o, onZ, false, 0⟩, .bool (true)]) ∧ Rs w' N B a len cap zs (p) (false) false ∧ But [B] w.heap.size w w' := by
  have hB0 := R.lt
  have k01 := (Below.refl w.heap.size w).alloc (Nat.le_refl _) (.cells (op6 o) 26)
  have R1 := R.alloc (.cells (op6 o) 26)
  have kO := Blk.new w 26 (op6 o)
  have hKw : w.heap.size < (w.alloc (.cells (op6 o) 26)).heap.size := kO.lt
  have hs : (w.alloc (.cells (op6 o) 26)).heap.size = w.heap.size + 1 := by simp
  have F := RF.start R1 28 z16
  have kO1 := kO.alloc (.cells z16 28)
  have hBK : w.heap.size ∉ [B] := by simp; omega
  go_enter Tryd.func35, Tryd.ntmps35
  go_upto_region 1 with fail
  generalize (w.alloc (.cells (op6 o) 26)).alloc (.cells z16 28) = w1 at *
  rw [← hs]
  generalize w.alloc (.cells (op6 o) 26) = w0 at *
  clear hs
  have hK1 := kO1.lt
  go_upto_region 29 with fail
  have hM1 := F.lt
  have b2 := (Below.refl w1.heap.size w1).alloc (Nat.le_refl _) (.cells ffA 40)
  have F2 := F.below b2
  have kO2 := kO1.below b2 kO1.lt
  have mO := Blk.new w1 40 ffA
  generalize w1.alloc (.cells ffA 40) = w2 at *
  generalize hM : w1.heap.size = M at *
  have c3 := F2.r.c3
  have f3 := F2.r.blk.fr 3
  go_upto_region 30 with fail
  have F3 := F2.setBad false
  have kO3 := kO2.other 3 (.bool false) (M := B) (by simp at hBK; omega)
  have mO3 := mO.other 3 (.bool false) (M := B) (by omega)
  generalize w2.setCell ⟨B, 3, none⟩ (.bool false) = w3 at *
  clear c3 f3
  have FD := F3.drew
  have kD := kO3.drew
  have mD := mO3.drew
  refine wp_region_held_drew (S := fun W => OX w0 W N B a len cap zs false w.heap.size (o) ∧ Blk W M 40 ffA) (by kernel_rfl) ⟨⟨⟨_, _, z16, z16_size, FD⟩, kD⟩, mD⟩ (fun hHeld => ?_)
  generalize w3.drew = wd at *
  refine wpAnyH_take (i := 0) (v := ?_) rfl (by kernel_rfl) (by kernel_rfl) (by kernel_rfl) (fun _ _ _ h => h) (Or.inl ⟨by kernel_rfl, ?_⟩) hHeld ?_
  rotate_left
  · intro W hS
    go_simp
    try rfl
  simp only [Act.put, List.setIfInBounds_toArray, List.set_cons_zero, List.set_cons_succ, List.getElem_toArray, List.getElem_cons_succ, List.getElem_cons_zero]
  refine wpAnyH_take (i := 1) (v := ?_) rfl (by kernel_rfl) (by kernel_rfl) (by kernel_rfl) (fun _ _ _ h => h) (Or.inl ⟨by kernel_rfl, ?_⟩) hHeld ?_
  rotate_left
  · intro W hS
    go_simp
    try rfl
  simp only [Act.put, List.setIfInBounds_toArray, List.set_cons_zero, List.set_cons_succ, List.getElem_toArray, List.getElem_cons_succ, List.getElem_cons_zero]
  refine wpAnyH_take (i := 2) (v := ?_) rfl (by kernel_rfl) (by kernel_rfl) (by kernel_rfl) (fun _ _ _ h => h) (Or.inl ⟨by kernel_rfl, ?_⟩) hHeld ?_
  rotate_left
  · intro W hS
    have c0 := hS.2.cell (i := 5) rfl
    go_simp
    try rfl
  simp only [Act.put, List.setIfInBounds_toArray, List.set_cons_zero, List.set_cons_succ, List.getElem_toArray, List.getElem_cons_succ, List.getElem_cons_zero]
  refine wpAnyH_take (i := 3) (v := opV (o)) rfl (by kernel_rfl) (by kernel_rfl) (by kernel_rfl) (fun _ _ _ h => h) (Or.inl ⟨by kernel_rfl, ?_⟩) hHeld ?_
  · intro W hS
    exact run_load_row (by rfl) (by rfl) 26 _ (0, 0) _ hS.1.k.h Tryd.underlying26 rfl (szOp onZ)
  simp only [Act.put, List.setIfInBounds_toArray, List.set_cons_zero, List.set_cons_succ]
  refine wpAnyH_take (i := 4) (v := ?_) rfl (by kernel_rfl) (by kernel_rfl) (by kernel_rfl) (fun _ _ _ h => h) (Or.inl ⟨by kernel_rfl, ?_⟩) hHeld ?_
  rotate_left
  · intro W hS
    go_simp
    try rfl
  simp only [Act.put, List.setIfInBounds_toArray, List.set_cons_zero, List.set_cons_succ, List.getElem_toArray, List.getElem_cons_succ, List.getElem_cons_zero]
  refine wpAnyH_take (i := 5) (v := ?_) rfl (by kernel_rfl) (by kernel_rfl) (by kernel_rfl) (fun _ _ _ h => h) (Or.inl ⟨by kernel_rfl, ?_⟩) hHeld ?_
  rotate_left
  · intro W hS
    go_simp
    try rfl
  simp only [Act.put, List.setIfInBounds_toArray, List.set_cons_zero, List.set_cons_succ, List.getElem_toArray, List.getElem_cons_succ, List.getElem_cons_zero]
  refine wpAnyH_take (i := 6) (v := ?_) rfl (by kernel_rfl) (by kernel_rfl) (by kernel_rfl) (fun _ _ _ h => h) (Or.inl ⟨by kernel_rfl, ?_⟩) hHeld ?_
  rotate_left
  · intro W hS
    go_simp
    try rfl
  simp only [Act.put, List.setIfInBounds_toArray, List.set_cons_zero, List.set_cons_succ, List.getElem_toArray, List.getElem_cons_succ, List.getElem_cons_zero]
  refine wpAnyH_take (i := 7) (v := ?_) rfl (by kernel_rfl) (by kernel_rfl) (by kernel_rfl) (fun _ _ _ h => h) (Or.inl ⟨by kernel_rfl, ?_⟩) hHeld ?_
  rotate_left
  · intro W hS
    have c0 := hS.2.cell (i := 5) rfl
    go_simp
    try rfl
  simp only [Act.put, List.setIfInBounds_toArray, List.set_cons_zero, List.set_cons_succ, List.getElem_toArray, List.getElem_cons_succ, List.getElem_cons_zero]
  refine wpAnyH_take (i := 8) (v := ?_) rfl (by kernel_rfl) (by kernel_rfl) (by kernel_rfl) (fun _ _ _ h => h) (Or.inl ⟨by kernel_rfl, ?_⟩) hHeld ?_
  rotate_left
  · intro W hS
    go_simp
    try rfl
  simp only [Act.put, List.setIfInBounds_toArray, List.set_cons_zero, List.set_cons_succ, List.getElem_toArray, List.getElem_cons_succ, List.getElem_cons_zero]
  refine wpAnyH_ready (rs := [9]) (by kernel_rfl) (by simp) ?_
  refine AllReadyH.cons rfl (fun K hK => ?_) AllReadyH.nil
  rw [if_pos (by kernel_rfl)]
  refine wp_store_row 28 _ _ rfl w0.heap.size (in16 ⟨0, 0, o, onZ, false, 0⟩) rfl rfl 28 z16 FD.z.h (szIn ⟨0, 0, o, onZ, false, 0⟩) z16_size (in16_one _) ?_
  have FZ := FD.done (FD.z.row (in16 ⟨0, 0, o, onZ, false, 0⟩)) (But.row1 _ _ _)
  have kZ := kD.rowOther (M := w0.heap.size) (in16 ⟨0, 0, o, onZ, false, 0⟩) (by omega)
  have mZ := mD.rowOther (M := w0.heap.size) (in16 ⟨0, 0, o, onZ, false, 0⟩) (by omega)
  refine hK.out _ _ ⟨⟨⟨_, _, in16 ⟨0, 0, o, onZ, false, 0⟩, in16_size _, FZ⟩, kZ⟩, mZ⟩ (fun _ => ?_)
  clear hK K
  try simp only [Act.put, List.setIfInBounds_toArray, List.set_cons_zero, List.set_cons_succ, List.getElem_toArray, List.getElem_cons_succ, List.getElem_cons_zero]
  refine wpAnyH_take (i := 10) (v := ?_) rfl (by kernel_rfl) (by kernel_rfl) (by kernel_rfl) (fun _ _ _ h => h) (Or.inl ⟨by kernel_rfl, ?_⟩) ⟨⟨⟨_, _, in16 ⟨0, 0, o, onZ, false, 0⟩, in16_size _, FZ⟩, kZ⟩, mZ⟩ ?_
  rotate_left
  · intro W hS
    go_simp
    try rfl
  simp only [Act.put, List.setIfInBounds_toArray, List.set_cons_zero, List.set_cons_succ, List.getElem_toArray, List.getElem_cons_succ, List.getElem_cons_zero]
  refine wpAnyH_done (by kernel_rfl) ?_ _
  go_wp2_with fail
  exact bodyPost_ret (v := .tuple #[inV ⟨0, 0, o, onZ, false, 0⟩, .bool (true)]) (results_ct rfl _ _ w0.heap.size 28 (in16 ⟨0, 0, o, onZ, false, 0⟩) (0, 0) _ _ rfl rfl FZ.z.h Tryd.underlying28 rfl (szIn inZ)) rfl ⟨rfl, FZ.r, (But.of k01 [B]).trans (FZ.k.mono k01.size (fun _ h => .inl h))⟩
set_option maxRecDepth 100000 in
set_option maxHeartbeats 4000000 in
theorem rest_ff_6 (R : Rs w N B a len cap zs p false false) (o : On)  :
    Calls Tryd.prog 35 #[rp B, .int .u8 255, opV o, .int .i64 6] w fun e w' => e = .returned (.tuple #[inV ⟨28, 0, o, onZ, false, 0⟩, .bool (false)]) ∧ Rs w' N B a len cap zs (p) (false) false ∧ But [B] w.heap.size w w' := by
  have hB0 := R.lt
  have k01 := (Below.refl w.heap.size w).alloc (Nat.le_refl _) (.cells (op6 o) 26)
  have R1 := R.alloc (.cells (op6 o) 26)
  have kO := Blk.new w 26 (op6 o)
  have hKw : w.heap.size < (w.alloc (.cells (op6 o) 26)).heap.size := kO.lt
  have hs : (w.alloc (.cells (op6 o) 26)).heap.size = w.heap.size + 1 := by simp
  have F := RF.start R1 28 z16
  have kO1 := kO.alloc (.cells z16 28)
  have hBK : w.heap.size ∉ [B] := by simp; omega
  go_enter Tryd.func35, Tryd.ntmps35
  go_upto_region 1 with fail
  generalize (w.alloc (.cells (op6 o) 26)).alloc (.cells z16 28) = w1 at *
  rw [← hs]
  generalize w.alloc (.cells (op6 o) 26) = w0 at *
  clear hs
  have hK1 := kO1.lt
  go_upto_region 29 with fail
  have hM1 := F.lt
  have b2 := (Below.refl w1.heap.size w1).alloc (Nat.le_refl _) (.cells ffA 40)
  have F2 := F.below b2
  have kO2 := kO1.below b2 kO1.lt
  have mO := Blk.new w1 40 ffA
  generalize w1.alloc (.cells ffA 40) = w2 at *
  generalize hM : w1.heap.size = M at *
  have c3 := F2.r.c3
  have f3 := F2.r.blk.fr 3
  go_upto_region 30 with fail
  have F3 := F2.setBad false
  have kO3 := kO2.other 3 (.bool false) (M := B) (by simp at hBK; omega)
  have mO3 := mO.other 3 (.bool false) (M := B) (by omega)
  generalize w2.setCell ⟨B, 3, none⟩ (.bool false) = w3 at *
  clear c3 f3
  have FD := F3.drew
  have kD := kO3.drew
  have mD := mO3.drew
  refine wp_region_held_drew (S := fun W => OX w0 W N B a len cap zs false w.heap.size (o) ∧ Blk W M 40 ffA) (by kernel_rfl) ⟨⟨⟨_, _, z16, z16_size, FD⟩, kD⟩, mD⟩ (fun hHeld => ?_)
  generalize w3.drew = wd at *
  refine wpAnyH_take (i := 0) (v := ?_) rfl (by kernel_rfl) (by kernel_rfl) (by kernel_rfl) (fun _ _ _ h => h) (Or.inl ⟨by kernel_rfl, ?_⟩) hHeld ?_
  rotate_left
  · intro W hS
    go_simp
    try rfl
  simp only [Act.put, List.setIfInBounds_toArray, List.set_cons_zero, List.set_cons_succ, List.getElem_toArray, List.getElem_cons_succ, List.getElem_cons_zero]
  refine wpAnyH_take (i := 1) (v := ?_) rfl (by kernel_rfl) (by kernel_rfl) (by kernel_rfl) (fun _ _ _ h => h) (Or.inl ⟨by kernel_rfl, ?_⟩) hHeld ?_
  rotate_left
  · intro W hS
    go_simp
    try rfl
  simp only [Act.put, List.setIfInBounds_toArray, List.set_cons_zero, List.set_cons_succ, List.getElem_toArray, List.getElem_cons_succ, List.getElem_cons_zero]
  refine wpAnyH_take (i := 2) (v := ?_) rfl (by kernel_rfl) (by kernel_rfl) (by kernel_rfl) (fun _ _ _ h => h) (Or.inl ⟨by kernel_rfl, ?_⟩) hHeld ?_
  rotate_left
  · intro W hS
    have c0 := hS.2.cell (i := 6) rfl
    go_simp
    try rfl
  simp only [Act.put, List.setIfInBounds_toArray, List.set_cons_zero, List.set_cons_succ, List.getElem_toArray, List.getElem_cons_succ, List.getElem_cons_zero]
  refine wpAnyH_take (i := 3) (v := opV (o)) rfl (by kernel_rfl) (by kernel_rfl) (by kernel_rfl) (fun _ _ _ h => h) (Or.inl ⟨by kernel_rfl, ?_⟩) hHeld ?_
  · intro W hS
    exact run_load_row (by rfl) (by rfl) 26 _ (0, 0) _ hS.1.k.h Tryd.underlying26 rfl (szOp onZ)
  simp only [Act.put, List.setIfInBounds_toArray, List.set_cons_zero, List.set_cons_succ]
  refine wpAnyH_take (i := 4) (v := ?_) rfl (by kernel_rfl) (by kernel_rfl) (by kernel_rfl) (fun _ _ _ h => h) (Or.inl ⟨by kernel_rfl, ?_⟩) hHeld ?_
  rotate_left
  · intro W hS
    go_simp
    try rfl
  simp only [Act.put, List.setIfInBounds_toArray, List.set_cons_zero, List.set_cons_succ, List.getElem_toArray, List.getElem_cons_succ, List.getElem_cons_zero]
  refine wpAnyH_take (i := 5) (v := ?_) rfl (by kernel_rfl) (by kernel_rfl) (by kernel_rfl) (fun _ _ _ h => h) (Or.inl ⟨by kernel_rfl, ?_⟩) hHeld ?_
  rotate_left
  · intro W hS
    go_simp
    try rfl
  simp only [Act.put, List.setIfInBounds_toArray, List.set_cons_zero, List.set_cons_succ, List.getElem_toArray, List.getElem_cons_succ, List.getElem_cons_zero]
  refine wpAnyH_take (i := 6) (v := ?_) rfl (by kernel_rfl) (by kernel_rfl) (by kernel_rfl) (fun _ _ _ h => h) (Or.inl ⟨by kernel_rfl, ?_⟩) hHeld ?_
  rotate_left
  · intro W hS
    go_simp
    try rfl
  simp only [Act.put, List.setIfInBounds_toArray, List.set_cons_zero, List.set_cons_succ, List.getElem_toArray, List.getElem_cons_succ, List.getElem_cons_zero]
  refine wpAnyH_take (i := 7) (v := ?_) rfl (by kernel_rfl) (by kernel_rfl) (by kernel_rfl) (fun _ _ _ h => h) (Or.inl ⟨by kernel_rfl, ?_⟩) hHeld ?_
  rotate_left
  · intro W hS
    have c0 := hS.2.cell (i := 6) rfl
    go_simp
    try rfl
  simp only [Act.put, List.setIfInBounds_toArray, List.set_cons_zero, List.set_cons_succ, List.getElem_toArray, List.getElem_cons_succ, List.getElem_cons_zero]
  refine wpAnyH_take (i := 8) (v := ?_) rfl (by kernel_rfl) (by kernel_rfl) (by kernel_rfl) (fun _ _ _ h => h) (Or.inl ⟨by kernel_rfl, ?_⟩) hHeld ?_
  rotate_left
  · intro W hS
    go_simp
    try rfl
  simp only [Act.put, List.setIfInBounds_toArray, List.set_cons_zero, List.set_cons_succ, List.getElem_toArray, List.getElem_cons_succ, List.getElem_cons_zero]
  refine wpAnyH_ready (rs := [9]) (by kernel_rfl) (by simp) ?_
  refine AllReadyH.cons rfl (fun K hK => ?_) AllReadyH.nil
  rw [if_pos (by kernel_rfl)]
  refine wp_store_row 28 _ _ rfl w0.heap.size (in16 ⟨28, 0, o, onZ, false, 0⟩) rfl rfl 28 z16 FD.z.h (szIn ⟨28, 0, o, onZ, false, 0⟩) z16_size (in16_one _) ?_
  have FZ := FD.done (FD.z.row (in16 ⟨28, 0, o, onZ, false, 0⟩)) (But.row1 _ _ _)
  have kZ := kD.rowOther (M := w0.heap.size) (in16 ⟨28, 0, o, onZ, false, 0⟩) (by omega)
  have mZ := mD.rowOther (M := w0.heap.size) (in16 ⟨28, 0, o, onZ, false, 0⟩) (by omega)
  refine hK.out _ _ ⟨⟨⟨_, _, in16 ⟨28, 0, o, onZ, false, 0⟩, in16_size _, FZ⟩, kZ⟩, mZ⟩ (fun _ => ?_)
  clear hK K
  try simp only [Act.put, List.setIfInBounds_toArray, List.set_cons_zero, List.set_cons_succ, List.getElem_toArray, List.getElem_cons_succ, List.getElem_cons_zero]
  refine wpAnyH_take (i := 10) (v := ?_) rfl (by kernel_rfl) (by kernel_rfl) (by kernel_rfl) (fun _ _ _ h => h) (Or.inl ⟨by kernel_rfl, ?_⟩) ⟨⟨⟨_, _, in16 ⟨28, 0, o, onZ, false, 0⟩, in16_size _, FZ⟩, kZ⟩, mZ⟩ ?_
  rotate_left
  · intro W hS
    go_simp
    try rfl
  simp only [Act.put, List.setIfInBounds_toArray, List.set_cons_zero, List.set_cons_succ, List.getElem_toArray, List.getElem_cons_succ, List.getElem_cons_zero]
  refine wpAnyH_done (by kernel_rfl) ?_ _
  go_wp2_with fail
  exact bodyPost_ret (v := .tuple #[inV ⟨28, 0, o, onZ, false, 0⟩, .bool (false)]) (results_ct rfl _ _ w0.heap.size 28 (in16 ⟨28, 0, o, onZ, false, 0⟩) (0, 0) _ _ rfl rfl FZ.z.h Tryd.underlying28 rfl (szIn inZ)) rfl ⟨rfl, FZ.r, (But.of k01 [B]).trans (FZ.k.mono k01.size (fun _ h => .inl h))⟩
set_option maxRecDepth 100000 in
set_option maxHeartbeats 4000000 in
theorem rest_ff_7 (R : Rs w N B a len cap zs p false false) (o : On)  :
    Calls Tryd.prog 35 #[rp B, .int .u8 255, opV o, .int .i64 7] w fun e w' => e = .returned (.tuple #[inV ⟨0, 0, o, onZ, false, 0⟩, .bool (true)]) ∧ Rs w' N B a len cap zs (p) (false) true ∧ But [B] w.heap.size w w' := by
  have hB0 := R.lt
  have k01 := (Below.refl w.heap.size w).alloc (Nat.le_refl _) (.cells (op6 o) 26)
  have R1 := R.alloc (.cells (op6 o) 26)
  have kO := Blk.new w 26 (op6 o)
  have hKw : w.heap.size < (w.alloc (.cells (op6 o) 26)).heap.size := kO.lt
  have hs : (w.alloc (.cells (op6 o) 26)).heap.size = w.heap.size + 1 := by simp
  have F := RF.start R1 28 z16
  have kO1 := kO.alloc (.cells z16 28)
  have hBK : w.heap.size ∉ [B] := by simp; omega
  go_enter Tryd.func35, Tryd.ntmps35
  go_upto_region 1 with fail
  generalize (w.alloc (.cells (op6 o) 26)).alloc (.cells z16 28) = w1 at *
  rw [← hs]
  generalize w.alloc (.cells (op6 o) 26) = w0 at *
  clear hs
  have hK1 := kO1.lt
  go_upto_region 29 with fail
  have hM1 := F.lt
  have b2 := (Below.refl w1.heap.size w1).alloc (Nat.le_refl _) (.cells ffA 40)
  have F2 := F.below b2
  have kO2 := kO1.below b2 kO1.lt
  have mO := Blk.new w1 40 ffA
  generalize w1.alloc (.cells ffA 40) = w2 at *
  generalize hM : w1.heap.size = M at *
  have c3 := F2.r.c3
  have f3 := F2.r.blk.fr 3
  go_upto_region 30 with fail
  have F3 := F2.setBad true
  have kO3 := kO2.other 3 (.bool true) (M := B) (by simp at hBK; omega)
  have mO3 := mO.other 3 (.bool true) (M := B) (by omega)
  generalize w2.setCell ⟨B, 3, none⟩ (.bool true) = w3 at *
  clear c3 f3
  have FD := F3.drew
  have kD := kO3.drew
  have mD := mO3.drew
  refine wp_region_held_drew (S := fun W => OX w0 W N B a len cap zs true w.heap.size (o) ∧ Blk W M 40 ffA) (by kernel_rfl) ⟨⟨⟨_, _, z16, z16_size, FD⟩, kD⟩, mD⟩ (fun hHeld => ?_)
  generalize w3.drew = wd at *
  refine wpAnyH_take (i := 0) (v := ?_) rfl (by kernel_rfl) (by kernel_rfl) (by kernel_rfl) (fun _ _ _ h => h) (Or.inl ⟨by kernel_rfl, ?_⟩) hHeld ?_
  rotate_left
  · intro W hS
    go_simp
    try rfl
  simp only [Act.put, List.setIfInBounds_toArray, List.set_cons_zero, List.set_cons_succ, List.getElem_toArray, List.getElem_cons_succ, List.getElem_cons_zero]
  refine wpAnyH_take (i := 1) (v := ?_) rfl (by kernel_rfl) (by kernel_rfl) (by kernel_rfl) (fun _ _ _ h => h) (Or.inl ⟨by kernel_rfl, ?_⟩) hHeld ?_
  rotate_left
  · intro W hS
    go_simp
    try rfl
  simp only [Act.put, List.setIfInBounds_toArray, List.set_cons_zero, List.set_cons_succ, List.getElem_toArray, List.getElem_cons_succ, List.getElem_cons_zero]
  refine wpAnyH_take (i := 2) (v := ?_) rfl (by kernel_rfl) (by kernel_rfl) (by kernel_rfl) (fun _ _ _ h => h) (Or.inl ⟨by kernel_rfl, ?_⟩) hHeld ?_
  rotate_left
  · intro W hS
    have c0 := hS.2.cell (i := 7) rfl
    go_simp
    try rfl
  simp only [Act.put, List.setIfInBounds_toArray, List.set_cons_zero, List.set_cons_succ, List.getElem_toArray, List.getElem_cons_succ, List.getElem_cons_zero]
  refine wpAnyH_take (i := 3) (v := opV (o)) rfl (by kernel_rfl) (by kernel_rfl) (by kernel_rfl) (fun _ _ _ h => h) (Or.inl ⟨by kernel_rfl, ?_⟩) hHeld ?_
  · intro W hS
    exact run_load_row (by rfl) (by rfl) 26 _ (0, 0) _ hS.1.k.h Tryd.underlying26 rfl (szOp onZ)
  simp only [Act.put, List.setIfInBounds_toArray, List.set_cons_zero, List.set_cons_succ]
  refine wpAnyH_take (i := 4) (v := ?_) rfl (by kernel_rfl) (by kernel_rfl) (by kernel_rfl) (fun _ _ _ h => h) (Or.inl ⟨by kernel_rfl, ?_⟩) hHeld ?_
  rotate_left
  · intro W hS
    go_simp
    try rfl
  simp only [Act.put, List.setIfInBounds_toArray, List.set_cons_zero, List.set_cons_succ, List.getElem_toArray, List.getElem_cons_succ, List.getElem_cons_zero]
  refine wpAnyH_take (i := 5) (v := ?_) rfl (by kernel_rfl) (by kernel_rfl) (by kernel_rfl) (fun _ _ _ h => h) (Or.inl ⟨by kernel_rfl, ?_⟩) hHeld ?_
  rotate_left
  · intro W hS
    go_simp
    try rfl
  simp only [Act.put, List.setIfInBounds_toArray, List.set_cons_zero, List.set_cons_succ, List.getElem_toArray, List.getElem_cons_succ, List.getElem_cons_zero]
  refine wpAnyH_take (i := 6) (v := ?_) rfl (by kernel_rfl) (by kernel_rfl) (by kernel_rfl) (fun _ _ _ h => h) (Or.inl ⟨by kernel_rfl, ?_⟩) hHeld ?_
  rotate_left
  · intro W hS
    go_simp
    try rfl
  simp only [Act.put, List.setIfInBounds_toArray, List.set_cons_zero, List.set_cons_succ, List.getElem_toArray, List.getElem_cons_succ, List.getElem_cons_zero]
  refine wpAnyH_take (i := 7) (v := ?_) rfl (by kernel_rfl) (by kernel_rfl) (by kernel_rfl) (fun _ _ _ h => h) (Or.inl ⟨by kernel_rfl, ?_⟩) hHeld ?_
  rotate_left
  · intro W hS
    have c0 := hS.2.cell (i := 7) rfl
    go_simp
    try rfl
  simp only [Act.put, List.setIfInBounds_toArray, List.set_cons_zero, List.set_cons_succ, List.getElem_toArray, List.getElem_cons_succ, List.getElem_cons_zero]
  refine wpAnyH_take (i := 8) (v := ?_) rfl (by kernel_rfl) (by kernel_rfl) (by kernel_rfl) (fun _ _ _ h => h) (Or.inl ⟨by kernel_rfl, ?_⟩) hHeld ?_
  rotate_left
  · intro W hS
    go_simp
    try rfl
  simp only [Act.put, List.setIfInBounds_toArray, List.set_cons_zero, List.set_cons_succ, List.getElem_toArray, List.getElem_cons_succ, List.getElem_cons_zero]
  refine wpAnyH_ready (rs := [9]) (by kernel_rfl) (by simp) ?_
  refine AllReadyH.cons rfl (fun K hK => ?_) AllReadyH.nil
  rw [if_pos (by kernel_rfl)]
  refine wp_store_row 28 _ _ rfl w0.heap.size (in16 ⟨0, 0, o, onZ, false, 0⟩) rfl rfl 28 z16 FD.z.h (szIn ⟨0, 0, o, onZ, false, 0⟩) z16_size (in16_one _) ?_
  have FZ := FD.done (FD.z.row (in16 ⟨0, 0, o, onZ, false, 0⟩)) (But.row1 _ _ _)
  have kZ := kD.rowOther (M := w0.heap.size) (in16 ⟨0, 0, o, onZ, false, 0⟩) (by omega)
  have mZ := mD.rowOther (M := w0.heap.size) (in16 ⟨0, 0, o, onZ, false, 0⟩) (by omega)
  refine hK.out _ _ ⟨⟨⟨_, _, in16 ⟨0, 0, o, onZ, false, 0⟩, in16_size _, FZ⟩, kZ⟩, mZ⟩ (fun _ => ?_)
  clear hK K
  try simp only [Act.put, List.setIfInBounds_toArray, List.set_cons_zero, List.set_cons_succ, List.getElem_toArray, List.getElem_cons_succ, List.getElem_cons_zero]
  refine wpAnyH_take (i := 10) (v := ?_) rfl (by kernel_rfl) (by kernel_rfl) (by kernel_rfl) (fun _ _ _ h => h) (Or.inl ⟨by kernel_rfl, ?_⟩) ⟨⟨⟨_, _, in16 ⟨0, 0, o, onZ, false, 0⟩, in16_size _, FZ⟩, kZ⟩, mZ⟩ ?_
  rotate_left
  · intro W hS
    go_simp
    try rfl
  simp only [Act.put, List.setIfInBounds_toArray, List.set_cons_zero, List.set_cons_succ, List.getElem_toArray, List.getElem_cons_succ, List.getElem_cons_zero]
  refine wpAnyH_done (by kernel_rfl) ?_ _
  go_wp2_with fail
  exact bodyPost_ret (v := .tuple #[inV ⟨0, 0, o, onZ, false, 0⟩, .bool (true)]) (results_ct rfl _ _ w0.heap.size 28 (in16 ⟨0, 0, o, onZ, false, 0⟩) (0, 0) _ _ rfl rfl FZ.z.h Tryd.underlying28 rfl (szIn inZ)) rfl ⟨rfl, FZ.r, (But.of k01 [B]).trans (FZ.k.mono k01.size (fun _ h => .inl h))⟩
end
end Go.Proofs.YtlooobehlhgccaaDoor
