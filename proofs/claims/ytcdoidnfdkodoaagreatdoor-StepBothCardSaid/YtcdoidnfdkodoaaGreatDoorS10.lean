import Derived.Test.YtcdoidnfdkodoaaGreatDoorS08
namespace Go.Proofs.YtcdoidnfdkodoaaGreatDoor
open Go.RowKit
set_option linter.unusedVariables false
set_option linter.unusedSimpArgs false
set_option linter.unusedSectionVars false
theorem load_st {ops : Array Oper} {rest : List Oper} {o : Oper} {a : Act} {w : World} {Q : Exit → Act → World → Prop} (hgd : o.guard = none) (x : Operand) (ho : o.op = .load 29 x)
    (K : Nat) (cs : Array Value) (hx : a.eval x = .pointer (some ⟨K, 0, none⟩)) (k : Blk w K 29 cs) (hz : cs.size = 17)
    (h : wpList Tryz.prog ops Q rest (a.put o.dst (.agg cs)) w) : wpList Tryz.prog ops Q (o :: rest) a w :=
  wpList_load_row hgd 29 x ho K hx 29 cs (0, 0) _ k.h Tryz.underlying29 rfl (szS.trans (congrArg some hz.symm)) h
theorem load_on {ops : Array Oper} {rest : List Oper} {o : Oper} {a : Act} {w : World} {Q : Exit → Act → World → Prop} (hgd : o.guard = none) (x : Operand) (ho : o.op = .load 31 x)
    (K : Nat) (cs : Array Value) (hx : a.eval x = .pointer (some ⟨K, 0, none⟩)) (k : Blk w K 31 cs) (hz : cs.size = 6)
    (h : wpList Tryz.prog ops Q rest (a.put o.dst (.agg cs)) w) : wpList Tryz.prog ops Q (o :: rest) a w :=
  wpList_load_row hgd 31 x ho K hx 31 cs (0, 0) _ k.h Tryz.underlying31 rfl (szO.trans (congrArg some hz.symm)) h
theorem store_st {ops : Array Oper} {rest : List Oper} {o : Oper} {a : Act} {w : World} {Q : Exit → Act → World → Prop} (hgd : o.guard = none) (x y : Operand) (ho : o.op = .store 29 x y)
    (K : Nat) (cs old : Array Value) (hx : a.eval x = .pointer (some ⟨K, 0, none⟩)) (hy : a.eval y = .agg cs) (k : Blk w K 29 old) (hz : cs.size = 17) (hz2 : old.size = 17) (h1 : cs.all (·.oneCell') = true)
    (h : ∀ W, Blk W K 29 cs → But [K] w.heap.size w W → W.heap.size = w.heap.size → wpList Tryz.prog ops Q rest (a.put o.dst undef) W) : wpList Tryz.prog ops Q (o :: rest) a w := by
  refine wpList_store_row hgd 29 x y ho K cs hx hy 29 old k.h (szS.trans (congrArg some hz.symm)) (hz2.trans hz.symm) h1 ?_
  exact h _ (k.row cs) ((But.refl _ _ _).setRow (by simp) cs) (by simp [World.setRow])
theorem stA_all (g : Gs) : (stA g).all (·.oneCell') = true := by simp [Value.oneCell']
set_option maxRecDepth 20000 in
theorem readReg4 (g : Gs) (i n : Int) (hn : (n == 1) = false) (w : World) : Calls Tryz.prog 250 #[stV g, .int .i64 i, .int .i64 n] w fun e w' => e = .returned (.int .u32 (regV g i)) ∧ Below w.heap.size w w' := by
  have b0 := (Below.refl w.heap.size w).alloc (Nat.le_refl _) (.cells (stA g) 29)
  have kS := Blk.new w 29 (stA g)
  have hR := Lib.hid (fun W => register_any g i W)
  generalize regV g i = v at *
  go_enter Tryz.func250, Tryz.ntmps250
  go_wp2_with (first | (with_reducible refine load_st rfl _ rfl w.heap.size (stA g) rfl kS rfl ?_) | ((with_reducible refine (hR.out _).mono ?_); rintro e w1 ⟨rfl, b1⟩))
  go_ret
  exact ⟨rfl, b0.trans (b1.mono b0.size)⟩
set_option maxRecDepth 20000 in
theorem read_reg4 (p : Value) (g : Gs) (o : On) (hk : o.k = 1) (w : World) : Calls Tryz.prog 230 #[p, stV g, opV o, .int .i64 4] w fun e w' => e = .returned (.int .u32 (regV g o.r)) ∧ Below w.heap.size w w' := by
  obtain ⟨kS, kO, b0⟩ := stO w g o
  have c0 := kO.cell (i := 0) (v := .int .i64 o.k) rfl
  have c1 := kO.cell (i := 1) (v := .int .i64 o.r) rfl
  rw [hk] at c0
  have hR := Lib.hid (fun W => readReg4 g o.r 4 rfl W)
  generalize regV g o.r = v at *
  go_enter Tryz.func230, Tryz.ntmps230
  go_wp2_with (first | (with_reducible refine load_st rfl _ rfl w.heap.size (stA g) rfl kS rfl ?_) | ((with_reducible refine (hR.out _).mono ?_); rintro e w1 ⟨rfl, b1⟩))
  go_ret
  exact ⟨rfl, b0.trans (b1.mono b0.size)⟩
set_option maxRecDepth 20000 in
theorem read_none (p : Value) (g : Gs) (o : On) (n : Int) (hk : o.k = 0) (w : World) : Calls Tryz.prog 230 #[p, stV g, opV o, .int .i64 n] w fun e w' => e = .returned (.int .u32 0) ∧ Below w.heap.size w w' := by
  obtain ⟨kS, kO, b0⟩ := stO w g o
  have c0 := kO.cell (i := 0) (v := .int .i64 o.k) rfl
  rw [hk] at c0
  go_enter Tryz.func230, Tryz.ntmps230
  go_wp2_with fail
  go_ret
  exact ⟨rfl, b0⟩
set_option maxRecDepth 20000 in
theorem read_mem {B : Nat} {m : Mm} {w : World} (h : PAt w B m) (ok : m.ok) (g : Gs) (o : On) (n : Int) (hk : o.k = 3) (hl : lackL m (plO g o) 1 (numL n) = none) : Calls Tryz.prog 230 #[mp B, stV g, opV o, .int .i64 n] w fun e w' => e = .returned (.int .u32 (readL m (plO g o).toNat (numL n))) ∧ Below w.heap.size w w' := by
  obtain ⟨kS, kO, b0⟩ := stO w g o
  have c0 := kO.cell (i := 0) (v := .int .i64 o.k) rfl
  rw [hk] at c0
  have hP := Lib.hid (fun W => Place_any g o W)
  have hbd := plO_bd g o
  generalize plO g o = A at *
  obtain ⟨A, rfl⟩ := Int.eq_ofNat_of_zero_le hbd.1
  rw [Int.toNat_natCast]
  have hL := Lib.hid (fun (W : World) (hW : PAt W B m) => load_yes hW ok A (by omega) n hl)
  clear hl
  generalize readL m A (numL n) = v at *
  have h0 := h.below b0 h.lt
  go_enter Tryz.func230, Tryz.ntmps230
  go_wp2_with (first | (with_reducible refine load_st rfl _ rfl w.heap.size (stA g) rfl kS rfl ?_) | (with_reducible refine load_on rfl _ rfl (w.heap.size + 1) (op6 o) rfl kO rfl ?_) | ((with_reducible refine (hP.out _).mono ?_); rintro e w1 ⟨rfl, b1⟩; have h1 := h0.below b1 h0.lt; have b01 := b0.trans (b1.mono b0.size)) | ((with_reducible refine (hL.out _ h1).mono ?_); rintro e w2 ⟨rfl, b2⟩))
  go_ret
  exact ⟨rfl, b01.trans (b2.mono b01.size)⟩
set_option maxRecDepth 20000 in
theorem written_mem {B : Nat} {m : Mm} {w : World} (h : PAt w B m) (ok : m.ok) (g : Gs) (o : On) (n v : Int) (hv : 0 ≤ v ∧ v ≤ 4294967295) (hk : o.k = 3) (hl : lackL m (plO g o) 2 (numL n) = none) :
    Calls Tryz.prog 227 #[mp B, stV g, opV o, .int .i64 n, .int .u32 v] w fun e w' => e = .returned (stV g) ∧ PAt w' B (wroteS m (plO g o).toNat n v) ∧ But [B] w.heap.size w w' := by
  have hBl := h.lt
  obtain ⟨kS, kO, b0⟩ := stO w g o
  have kZ := Blk.new ((w.alloc (.cells (stA g) 29)).alloc (.cells (op6 o) 31)) 29 z17
  replace kS := kS.alloc (.cells z17 29)
  replace kO := kO.alloc (.cells z17 29)
  replace b0 := b0.alloc (by simp; omega) (.cells z17 29)
  simp only [World.size_alloc] at kZ
  have c0 := kO.cell (i := 0) (v := .int .i64 o.k) rfl
  rw [hk] at c0
  have hP := Lib.hid (fun W => Place_any g o W)
  have hbd := plO_bd g o
  generalize plO g o = A at *
  obtain ⟨A, rfl⟩ := Int.eq_ofNat_of_zero_le hbd.1
  rw [Int.toNat_natCast]
  have hL := Lib.hid (fun (W : World) (hW : PAt W B m) => store_yes hW ok A (by omega) n v hv hl)
  clear hl
  have h0 := h.below b0 h.lt
  generalize hm' : wroteS m A n v = m' at *
  have Hm := Lib.hid hm'
  clear hm'
  have hs := h0.lt
  have s0 : (((w.alloc (.cells (stA g) 29)).alloc (.cells (op6 o) 31)).alloc (.cells z17 29)).heap.size = w.heap.size + 3 := by simp
  go_enter Tryz.func227, Tryz.ntmps227
  go_wp2_with (first | (with_reducible refine load_st rfl _ rfl w.heap.size (stA g) rfl kS rfl ?_) | (with_reducible refine load_on rfl _ rfl (w.heap.size + 1) (op6 o) rfl kO rfl ?_) | ((with_reducible refine (hP.out _).mono ?_); rintro e w1 ⟨rfl, b1⟩; have h1 := h0.below b1 h0.lt; have b01 := b0.trans (b1.mono b0.size); have kS1 := kS.below b1 kS.lt; have kZ1 := kZ.below b1 kZ.lt; have s1 := b1.size) | ((with_reducible refine (hL.out _ h1).mono ?_); rintro e w2 ⟨rfl, p2, b2⟩; have kS2 := kS1.but b2 kS1.lt (by simp; omega); have kZ2 := kZ1.but b2 kZ1.lt (by simp; omega); have b02 := (But.of b01 [B]).trans (b2.mono b01.size (by simp))) | (with_reducible refine load_st rfl _ rfl w.heap.size (stA g) rfl kS2 rfl ?_) | ((with_reducible refine store_st rfl _ _ rfl (w.heap.size + 1 + 1) (stA g) z17 rfl rfl kZ2 rfl rfl (stA_all g) ?_); intro w3 kR k3 s3))
  have b03 := (b02.mono (S' := [B, w.heap.size + 1 + 1]) (Nat.le_refl _) (fun k hk => .inl (by simp at hk ⊢; omega))).trans (k3.mono b02.size (fun k hk => .inl (by simp at hk ⊢; omega)))
  have p3 := p2.but k3 p2.lt (by simp; omega)
  have hB0 : But [B] w.heap.size w w3 := b03.mono (Nat.le_refl _) (fun k hk => by simp at hk ⊢; omega)
  go_wp2_with fail
  exact bodyPost_ret (v := stV g) (results_cell_row rfl _ _ (w.heap.size + 1 + 1) 29 (stA g) (0, 0) _ rfl kR.h Tryz.underlying29 rfl szS) rfl ⟨rfl, p3, hB0⟩
theorem st_set (g : Gs) {j : Nat} (h : j < 8) (v : Int) : (stA g).setIfInBounds j (.int .u32 v) = stA (setr g j v) := by
  rcases (by omega : j = 0 ∨ j = 1 ∨ j = 2 ∨ j = 3 ∨ j = 4 ∨ j = 5 ∨ j = 6 ∨ j = 7) with rfl | rfl | rfl | rfl | rfl | rfl | rfl | rfl <;> simp [stA, setr]
set_option maxRecDepth 20000 in
theorem withReg4 (g : Gs) (j : Nat) (hj : j < 8) (v : Int) (w : World) : Calls Tryz.prog 249 #[stV g, .int .i64 j, .int .i64 4, .int .u32 v] w fun e w' => e = .returned (stV (setr g j v)) ∧ Below w.heap.size w w' := by
  have b0 := ((Below.refl w.heap.size w).alloc (Nat.le_refl _) (.cells (stA g) 29)).alloc (by simp) (.cells z17 29)
  have kS := (Blk.new w 29 (stA g)).alloc (.cells z17 29)
  have kZ := Blk.new (w.alloc (.cells (stA g) 29)) 29 z17
  rw [World.size_alloc] at kZ
  have hn : ((j : Int) == -1) = false := by simp
  have hN := Lib.hid (fun W => numbered_any (j : Int) W)
  rw [show ((j : Int)) % 8 = (j : Int) by omega] at hN
  have cj := kS.cell (st_at g hj)
  have fj := kS.fr j
  have l0 : ((j : Int) < 0) = False := eq_false (by omega)
  have l8 : ((j : Int) < 8) = True := eq_true (by omega)
  have hset := st_set g hj v
  generalize g.r j = x at *
  go_enter Tryz.func249, Tryz.ntmps249
  go_upto_region 6 with (first | ((with_reducible refine (hN.out _).mono ?_); rintro e w1 ⟨rfl, rfl⟩))
  clear cj fj kS kZ b0
  go_wp2_with fail
  have kR := Blk.new (w.alloc (.cells (stA (setr g j v)) 29)) 29 (stA (setr g j v))
  rw [World.size_alloc] at kR
  have b3 := ((Below.refl w.heap.size w).alloc (Nat.le_refl _) (.cells (stA (setr g j v)) 29)).alloc (by simp) (.cells (stA (setr g j v)) 29)
  exact bodyPost_ret (v := stV (setr g j v)) (results_cell_row rfl _ _ (w.heap.size + 1) 29 (stA (setr g j v)) (0, 0) _ rfl kR.h Tryz.underlying29 rfl szS) rfl ⟨rfl, b3⟩
set_option maxRecDepth 20000 in
theorem written_reg4 (p : Value) (g : Gs) (o : On) (j : Nat) (hj : j < 8) (hk : o.k = 1) (hr : o.r = j) (v : Int) (w : World) : Calls Tryz.prog 227 #[p, stV g, opV o, .int .i64 4, .int .u32 v] w fun e w' => e = .returned (stV (setr g j v)) ∧ Below w.heap.size w w' := by
  obtain ⟨kS, kO, b0⟩ := stO w g o
  have kZ := Blk.new ((w.alloc (.cells (stA g) 29)).alloc (.cells (op6 o) 31)) 29 z17
  replace kS := kS.alloc (.cells z17 29)
  replace kO := kO.alloc (.cells z17 29)
  replace b0 := b0.alloc (by simp; omega) (.cells z17 29)
  simp only [World.size_alloc] at kZ
  have c0 := kO.cell (i := 0) (v := .int .i64 o.k) rfl
  have c1 := kO.cell (i := 1) (v := .int .i64 o.r) rfl
  rw [hk] at c0
  rw [hr] at c1
  have hW := Lib.hid (fun W => withReg4 g j hj v W)
  have hs := kZ.lt
  clear hr
  go_enter Tryz.func227, Tryz.ntmps227
  go_wp2_with (first | (with_reducible refine load_st rfl _ rfl w.heap.size (stA g) rfl kS rfl ?_) | ((with_reducible refine (hW.out _).mono ?_); rintro e w1 ⟨rfl, b1⟩; have kZ1 := kZ.below b1 kZ.lt; have b01 := b0.trans (b1.mono b0.size)) | ((with_reducible refine store_st rfl _ _ rfl (w.heap.size + 1 + 1) (stA (setr g j v)) z17 rfl rfl kZ1 rfl rfl (stA_all _) ?_); intro w3 kR k3 s3))
  have b3 := ((But.of b01 [w.heap.size + 1 + 1]).trans (k3.mono b01.size (fun k hk => .inl hk))).below (Nat.le_refl _) (by simp; omega)
  exact bodyPost_ret (v := stV (setr g j v)) (results_cell_row rfl _ _ (w.heap.size + 1 + 1) 29 (stA (setr g j v)) (0, 0) _ rfl kR.h Tryz.underlying29 rfl szS) rfl ⟨rfl, b3⟩
end Go.Proofs.YtcdoidnfdkodoaaGreatDoor
