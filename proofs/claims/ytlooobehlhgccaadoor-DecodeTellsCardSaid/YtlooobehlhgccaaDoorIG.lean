/- The reference: what an operand is. -/
import Derived.Test.YtlooobehlhgccaaDoorP3
namespace Go.Proofs.YtlooobehlhgccaaDoor
open Go.RowKit
set_option linter.unusedVariables false
set_option linter.unusedSimpArgs false
set_option linter.unusedSectionVars false

abbrev TellsB (F : Nat) (o : On) (b : Bool) : Prop := ∀ W : World, Calls Tryd.prog F #[opV o] W fun e w' => e = .returned (.bool b) ∧ Below W.heap.size W w'
/-- A place as the document's instructions have them. -/
def MemOk (b x s : Int) : Prop := (-1 ≤ b ∧ b < 8) ∧ ((x = -1 ∧ s = 1) ∨ (0 ≤ x ∧ x < 8 ∧ x ≠ 4 ∧ (s = 1 ∨ s = 2 ∨ s = 4 ∨ s = 8)))
theorem none_z  : TellsB 41 (onZ) true := by
  intro w
  unfold onZ
  go_enter Tryd.func41, Tryd.ntmps41
  go_wp2
  go_ret
  exact ⟨rfl, (Below.refl _ _).alloc (Nat.le_refl _) _⟩
theorem isReg_reg {r : Int} (h : 0 ≤ r ∧ r < 8) : TellsB 37 (onReg r) true := by
  intro w
  have h1 : ((0 : Int) ≤ r) = True := eq_true h.1
  have h2 : (r < 8) = True := eq_true h.2
  unfold onReg
  go_enter Tryd.func37, Tryd.ntmps37
  go_wp2
  go_ret
  exact ⟨rfl, (Below.refl _ _).alloc (Nat.le_refl _) _⟩
theorem isReg_imm (m : Int) : TellsB 37 (onImm m) false := by
  intro w
  unfold onImm
  go_enter Tryd.func37, Tryd.ntmps37
  go_wp2
  go_ret
  exact ⟨rfl, (Below.refl _ _).alloc (Nat.le_refl _) _⟩
theorem isReg_mem (m b x s : Int) : TellsB 37 (onMem m b x s) false := by
  intro w
  unfold onMem
  go_enter Tryd.func37, Tryd.ntmps37
  go_wp2
  go_ret
  exact ⟨rfl, (Below.refl _ _).alloc (Nat.le_refl _) _⟩
theorem isImm_imm (m : Int) : TellsB 38 (onImm m) true := by
  intro w
  unfold onImm
  go_enter Tryd.func38, Tryd.ntmps38
  go_wp2
  go_ret
  exact ⟨rfl, (Below.refl _ _).alloc (Nat.le_refl _) _⟩
theorem isImm_mem (m b x s : Int) : TellsB 38 (onMem m b x s) false := by
  intro w
  unfold onMem
  go_enter Tryd.func38, Tryd.ntmps38
  go_wp2
  go_ret
  exact ⟨rfl, (Below.refl _ _).alloc (Nat.le_refl _) _⟩
theorem isMem_imm (m : Int) : TellsB 39 (onImm m) false := by
  intro w
  unfold onImm
  go_enter Tryd.func39, Tryd.ntmps39
  go_wp2
  go_ret
  exact ⟨rfl, (Below.refl _ _).alloc (Nat.le_refl _) _⟩
theorem isMem_mem (m : Int) {b x s : Int} (h : MemOk b x s) : TellsB 39 (onMem m b x s) true := by
  intro w
  obtain ⟨⟨h1, h2⟩, h3⟩ := h
  have g1 : ((-1 : Int) ≤ b) = True := eq_true h1
  have g2 : (b < 8) = True := eq_true h2
  have g3 : ((-1 : Int) ≤ x) = True := eq_true (by omega)
  have g4 : (x < 8) = True := eq_true (by omega)
  have g5 : (x != 4) = true := by simp; omega
  clear h1 h2
  unfold onMem
  rcases h3 with ⟨rfl, rfl⟩ | ⟨h4, -, -, rfl | rfl | rfl | rfl⟩
  · go_enter Tryd.func39, Tryd.ntmps39
    go_wp2
    go_ret
    exact ⟨rfl, (Below.refl _ _).alloc (Nat.le_refl _) _⟩
  all_goals have g6 : ((0 : Int) ≤ x) = True := eq_true h4
  all_goals clear h4
  all_goals go_enter Tryd.func39, Tryd.ntmps39
  all_goals go_wp2
  all_goals go_ret
  all_goals exact ⟨rfl, (Below.refl _ _).alloc (Nat.le_refl _) _⟩
theorem rm_reg {o : On} (h1 : TellsB 37 o true) : TellsB 36 o true := by
  intro w
  have g1 := Lib.hid h1
  clear h1
  have b0 := (Below.refl w.heap.size w).alloc (Nat.le_refl _) (.cells (op6 o) 26)
  go_enter Tryd.func36, Tryd.ntmps36
  go_wp2_with (first | ((with_reducible refine (g1.out _).mono ?_); rintro e w1 ⟨rfl, b1⟩; replace b0 := b0.trans (b1.mono b0.size); have kO := (Blk.new w 26 (op6 o)).below b1 (Blk.new w 26 (op6 o)).lt; have c0 := kO.cell (i := 0) rfl; have c1 := kO.cell (i := 1) rfl; have c2 := kO.cell (i := 2) rfl; have c3 := kO.cell (i := 3) rfl; have c4 := kO.cell (i := 4) rfl; have c5 := kO.cell (i := 5) rfl))
  go_ret
  exact ⟨rfl, b0⟩
theorem rm_other {o : On} {b : Bool} (h1 : TellsB 37 o false) (h2 : TellsB 39 o b) : TellsB 36 o b := by
  intro w
  have g1 := Lib.hid h1
  have g2 := Lib.hid h2
  clear h1 h2
  have b0 := (Below.refl w.heap.size w).alloc (Nat.le_refl _) (.cells (op6 o) 26)
  go_enter Tryd.func36, Tryd.ntmps36
  go_wp2_with (first | ((with_reducible refine (g1.out _).mono ?_); rintro e w1 ⟨rfl, b1⟩; replace b0 := b0.trans (b1.mono b0.size); have kO := (Blk.new w 26 (op6 o)).below b1 (Blk.new w 26 (op6 o)).lt; have c0 := kO.cell (i := 0) rfl; have c1 := kO.cell (i := 1) rfl; have c2 := kO.cell (i := 2) rfl; have c3 := kO.cell (i := 3) rfl; have c4 := kO.cell (i := 4) rfl; have c5 := kO.cell (i := 5) rfl) | ((with_reducible refine (g2.out _).mono ?_); rintro e w2 ⟨rfl, b2⟩; replace b0 := b0.trans (b2.mono b0.size)))
  go_ret
  exact ⟨rfl, b0⟩
theorem byteI_no {o : On} (h1 : TellsB 38 o false) : TellsB 40 o false := by
  intro w
  have g1 := Lib.hid h1
  clear h1
  have b0 := (Below.refl w.heap.size w).alloc (Nat.le_refl _) (.cells (op6 o) 26)
  go_enter Tryd.func40, Tryd.ntmps40
  go_wp2_with (first | ((with_reducible refine (g1.out _).mono ?_); rintro e w1 ⟨rfl, b1⟩; replace b0 := b0.trans (b1.mono b0.size); have kO := (Blk.new w 26 (op6 o)).below b1 (Blk.new w 26 (op6 o)).lt; have c0 := kO.cell (i := 0) rfl; have c1 := kO.cell (i := 1) rfl; have c2 := kO.cell (i := 2) rfl; have c3 := kO.cell (i := 3) rfl; have c4 := kO.cell (i := 4) rfl; have c5 := kO.cell (i := 5) rfl))
  go_ret
  exact ⟨rfl, b0⟩
theorem byte_imm {m : Int} (h : m < 256) : TellsB 40 (onImm m) true := by
  intro w
  have g1 := Lib.hid (isImm_imm m)
  have g2 : (m < 256) = True := eq_true h
  have b0 := (Below.refl w.heap.size w).alloc (Nat.le_refl _) (.cells (op6 (onImm m)) 26)
  have kO := Blk.new w 26 (op6 (onImm m))
  go_enter Tryd.func40, Tryd.ntmps40
  go_wp2_with (first | ((with_reducible refine (g1.out _).mono ?_); rintro e w1 ⟨rfl, b1⟩; replace b0 := b0.trans (b1.mono b0.size); replace kO := kO.below b1 kO.lt; have c2 := kO.cell (i := 2) (v := .int .u32 m) rfl; have f2 := kO.fr 2))
  go_ret
  exact ⟨rfl, b0⟩
end Go.Proofs.YtlooobehlhgccaaDoor
namespace Go.Proofs.YtlooobehlhgccaaDoor
open Go.RowKit
set_option linter.unusedVariables false
set_option linter.unusedSimpArgs false
set_option linter.unusedSectionVars false

abbrev OpdB (op : Int) (A B : On) (b : Bool) : Prop := ∀ W : World, Calls Tryd.prog 28 #[.int .i64 op, opV A, opV B] W fun e w' => e = .returned (.bool b) ∧ Below W.heap.size W w'
set_option maxRecDepth 100000 in
theorem opd_mov_r {A B : On} (h0 : TellsB 36 A true) (h1 : TellsB 37 B true) : OpdB 1 A B true := by
  intro w
  have g0 := Lib.hid h0
  have g1 := Lib.hid h1
  clear h0 h1
  have kA := (Blk.new w 26 (op6 A)).alloc (.cells (op6 B) 26)
  have kB := Blk.new (w.alloc (.cells (op6 A) 26)) 26 (op6 B)
  have b0 := ((Below.refl w.heap.size w).alloc (Nat.le_refl _) (.cells (op6 A) 26)).alloc (by simp) (.cells (op6 B) 26)
  rw [show (w.alloc (.cells (op6 A) 26)).heap.size = w.heap.size + 1 by simp] at kB
  go_enter Tryd.func28, Tryd.ntmps28
  go_wp2_with (first | ((with_reducible refine (g0.out _).mono ?_); rintro e w0 ⟨rfl, x0⟩; replace b0 := b0.trans (x0.mono b0.size); replace kA := kA.below x0 kA.lt; replace kB := kB.below x0 kB.lt; have cA0 := kA.cell (i := 0) rfl; have cB0 := kB.cell (i := 0) rfl; have cA1 := kA.cell (i := 1) rfl; have cB1 := kB.cell (i := 1) rfl; have cA2 := kA.cell (i := 2) rfl; have cB2 := kB.cell (i := 2) rfl; have cA3 := kA.cell (i := 3) rfl; have cB3 := kB.cell (i := 3) rfl; have cA4 := kA.cell (i := 4) rfl; have cB4 := kB.cell (i := 4) rfl; have cA5 := kA.cell (i := 5) rfl; have cB5 := kB.cell (i := 5) rfl) | ((with_reducible refine (g1.out _).mono ?_); rintro e w1 ⟨rfl, x1⟩; replace b0 := b0.trans (x1.mono b0.size); replace kA := kA.below x1 kA.lt; replace kB := kB.below x1 kB.lt; have cA0 := kA.cell (i := 0) rfl; have cB0 := kB.cell (i := 0) rfl; have cA1 := kA.cell (i := 1) rfl; have cB1 := kB.cell (i := 1) rfl; have cA2 := kA.cell (i := 2) rfl; have cB2 := kB.cell (i := 2) rfl; have cA3 := kA.cell (i := 3) rfl; have cB3 := kB.cell (i := 3) rfl; have cA4 := kA.cell (i := 4) rfl; have cB4 := kB.cell (i := 4) rfl; have cA5 := kA.cell (i := 5) rfl; have cB5 := kB.cell (i := 5) rfl))
  go_ret
  exact ⟨rfl, b0⟩
set_option maxRecDepth 100000 in
theorem opd_mov_i {A B : On} (h0 : TellsB 36 A true) (h1 : TellsB 37 B false) (h2 : TellsB 38 B true) : OpdB 1 A B true := by
  intro w
  have g0 := Lib.hid h0
  have g1 := Lib.hid h1
  have g2 := Lib.hid h2
  clear h0 h1 h2
  have kA := (Blk.new w 26 (op6 A)).alloc (.cells (op6 B) 26)
  have kB := Blk.new (w.alloc (.cells (op6 A) 26)) 26 (op6 B)
  have b0 := ((Below.refl w.heap.size w).alloc (Nat.le_refl _) (.cells (op6 A) 26)).alloc (by simp) (.cells (op6 B) 26)
  rw [show (w.alloc (.cells (op6 A) 26)).heap.size = w.heap.size + 1 by simp] at kB
  go_enter Tryd.func28, Tryd.ntmps28
  go_wp2_with (first | ((with_reducible refine (g0.out _).mono ?_); rintro e w0 ⟨rfl, x0⟩; replace b0 := b0.trans (x0.mono b0.size); replace kA := kA.below x0 kA.lt; replace kB := kB.below x0 kB.lt; have cA0 := kA.cell (i := 0) rfl; have cB0 := kB.cell (i := 0) rfl; have cA1 := kA.cell (i := 1) rfl; have cB1 := kB.cell (i := 1) rfl; have cA2 := kA.cell (i := 2) rfl; have cB2 := kB.cell (i := 2) rfl; have cA3 := kA.cell (i := 3) rfl; have cB3 := kB.cell (i := 3) rfl; have cA4 := kA.cell (i := 4) rfl; have cB4 := kB.cell (i := 4) rfl; have cA5 := kA.cell (i := 5) rfl; have cB5 := kB.cell (i := 5) rfl) | ((with_reducible refine (g1.out _).mono ?_); rintro e w1 ⟨rfl, x1⟩; replace b0 := b0.trans (x1.mono b0.size); replace kA := kA.below x1 kA.lt; replace kB := kB.below x1 kB.lt; have cA0 := kA.cell (i := 0) rfl; have cB0 := kB.cell (i := 0) rfl; have cA1 := kA.cell (i := 1) rfl; have cB1 := kB.cell (i := 1) rfl; have cA2 := kA.cell (i := 2) rfl; have cB2 := kB.cell (i := 2) rfl; have cA3 := kA.cell (i := 3) rfl; have cB3 := kB.cell (i := 3) rfl; have cA4 := kA.cell (i := 4) rfl; have cB4 := kB.cell (i := 4) rfl; have cA5 := kA.cell (i := 5) rfl; have cB5 := kB.cell (i := 5) rfl) | ((with_reducible refine (g2.out _).mono ?_); rintro e w2 ⟨rfl, x2⟩; replace b0 := b0.trans (x2.mono b0.size); replace kA := kA.below x2 kA.lt; replace kB := kB.below x2 kB.lt; have cA0 := kA.cell (i := 0) rfl; have cB0 := kB.cell (i := 0) rfl; have cA1 := kA.cell (i := 1) rfl; have cB1 := kB.cell (i := 1) rfl; have cA2 := kA.cell (i := 2) rfl; have cB2 := kB.cell (i := 2) rfl; have cA3 := kA.cell (i := 3) rfl; have cB3 := kB.cell (i := 3) rfl; have cA4 := kA.cell (i := 4) rfl; have cB4 := kB.cell (i := 4) rfl; have cA5 := kA.cell (i := 5) rfl; have cB5 := kB.cell (i := 5) rfl))
  go_ret
  exact ⟨rfl, b0⟩
set_option maxRecDepth 100000 in
theorem opd_mov_m {A B : On} (h0 : TellsB 36 A true) (h1 : TellsB 37 B false) (h2 : TellsB 38 B false) (h3 : TellsB 37 A true) (h4 : TellsB 39 B true) : OpdB 1 A B true := by
  intro w
  have g0 := Lib.hid h0
  have g1 := Lib.hid h1
  have g2 := Lib.hid h2
  have g3 := Lib.hid h3
  have g4 := Lib.hid h4
  clear h0 h1 h2 h3 h4
  have kA := (Blk.new w 26 (op6 A)).alloc (.cells (op6 B) 26)
  have kB := Blk.new (w.alloc (.cells (op6 A) 26)) 26 (op6 B)
  have b0 := ((Below.refl w.heap.size w).alloc (Nat.le_refl _) (.cells (op6 A) 26)).alloc (by simp) (.cells (op6 B) 26)
  rw [show (w.alloc (.cells (op6 A) 26)).heap.size = w.heap.size + 1 by simp] at kB
  go_enter Tryd.func28, Tryd.ntmps28
  go_wp2_with (first | ((with_reducible refine (g0.out _).mono ?_); rintro e w0 ⟨rfl, x0⟩; replace b0 := b0.trans (x0.mono b0.size); replace kA := kA.below x0 kA.lt; replace kB := kB.below x0 kB.lt; have cA0 := kA.cell (i := 0) rfl; have cB0 := kB.cell (i := 0) rfl; have cA1 := kA.cell (i := 1) rfl; have cB1 := kB.cell (i := 1) rfl; have cA2 := kA.cell (i := 2) rfl; have cB2 := kB.cell (i := 2) rfl; have cA3 := kA.cell (i := 3) rfl; have cB3 := kB.cell (i := 3) rfl; have cA4 := kA.cell (i := 4) rfl; have cB4 := kB.cell (i := 4) rfl; have cA5 := kA.cell (i := 5) rfl; have cB5 := kB.cell (i := 5) rfl) | ((with_reducible refine (g1.out _).mono ?_); rintro e w1 ⟨rfl, x1⟩; replace b0 := b0.trans (x1.mono b0.size); replace kA := kA.below x1 kA.lt; replace kB := kB.below x1 kB.lt; have cA0 := kA.cell (i := 0) rfl; have cB0 := kB.cell (i := 0) rfl; have cA1 := kA.cell (i := 1) rfl; have cB1 := kB.cell (i := 1) rfl; have cA2 := kA.cell (i := 2) rfl; have cB2 := kB.cell (i := 2) rfl; have cA3 := kA.cell (i := 3) rfl; have cB3 := kB.cell (i := 3) rfl; have cA4 := kA.cell (i := 4) rfl; have cB4 := kB.cell (i := 4) rfl; have cA5 := kA.cell (i := 5) rfl; have cB5 := kB.cell (i := 5) rfl) | ((with_reducible refine (g2.out _).mono ?_); rintro e w2 ⟨rfl, x2⟩; replace b0 := b0.trans (x2.mono b0.size); replace kA := kA.below x2 kA.lt; replace kB := kB.below x2 kB.lt; have cA0 := kA.cell (i := 0) rfl; have cB0 := kB.cell (i := 0) rfl; have cA1 := kA.cell (i := 1) rfl; have cB1 := kB.cell (i := 1) rfl; have cA2 := kA.cell (i := 2) rfl; have cB2 := kB.cell (i := 2) rfl; have cA3 := kA.cell (i := 3) rfl; have cB3 := kB.cell (i := 3) rfl; have cA4 := kA.cell (i := 4) rfl; have cB4 := kB.cell (i := 4) rfl; have cA5 := kA.cell (i := 5) rfl; have cB5 := kB.cell (i := 5) rfl) | ((with_reducible refine (g3.out _).mono ?_); rintro e w3 ⟨rfl, x3⟩; replace b0 := b0.trans (x3.mono b0.size); replace kA := kA.below x3 kA.lt; replace kB := kB.below x3 kB.lt; have cA0 := kA.cell (i := 0) rfl; have cB0 := kB.cell (i := 0) rfl; have cA1 := kA.cell (i := 1) rfl; have cB1 := kB.cell (i := 1) rfl; have cA2 := kA.cell (i := 2) rfl; have cB2 := kB.cell (i := 2) rfl; have cA3 := kA.cell (i := 3) rfl; have cB3 := kB.cell (i := 3) rfl; have cA4 := kA.cell (i := 4) rfl; have cB4 := kB.cell (i := 4) rfl; have cA5 := kA.cell (i := 5) rfl; have cB5 := kB.cell (i := 5) rfl) | ((with_reducible refine (g4.out _).mono ?_); rintro e w4 ⟨rfl, x4⟩; replace b0 := b0.trans (x4.mono b0.size); replace kA := kA.below x4 kA.lt; replace kB := kB.below x4 kB.lt; have cA0 := kA.cell (i := 0) rfl; have cB0 := kB.cell (i := 0) rfl; have cA1 := kA.cell (i := 1) rfl; have cB1 := kB.cell (i := 1) rfl; have cA2 := kA.cell (i := 2) rfl; have cB2 := kB.cell (i := 2) rfl; have cA3 := kA.cell (i := 3) rfl; have cB3 := kB.cell (i := 3) rfl; have cA4 := kA.cell (i := 4) rfl; have cB4 := kB.cell (i := 4) rfl; have cA5 := kA.cell (i := 5) rfl; have cB5 := kB.cell (i := 5) rfl))
  go_ret
  exact ⟨rfl, b0⟩
set_option maxRecDepth 100000 in
theorem opd_eight_r {A B : On} {op : Int} (ho : 3 ≤ op ∧ op ≤ 10) (h0 : TellsB 36 A true) (h1 : TellsB 37 B true) : OpdB op A B true := by
  intro w
  have g0 := Lib.hid h0
  have g1 := Lib.hid h1
  clear h0 h1
  have e1 : (op == 1) = false := by simp; omega
  have e2 : ((3 : Int) ≤ op) = True := eq_true ho.1
  have e3 : (op ≤ 10) = True := eq_true ho.2
  clear ho
  have kA := (Blk.new w 26 (op6 A)).alloc (.cells (op6 B) 26)
  have kB := Blk.new (w.alloc (.cells (op6 A) 26)) 26 (op6 B)
  have b0 := ((Below.refl w.heap.size w).alloc (Nat.le_refl _) (.cells (op6 A) 26)).alloc (by simp) (.cells (op6 B) 26)
  rw [show (w.alloc (.cells (op6 A) 26)).heap.size = w.heap.size + 1 by simp] at kB
  go_enter Tryd.func28, Tryd.ntmps28
  go_wp2_with (first | ((with_reducible refine (g0.out _).mono ?_); rintro e w0 ⟨rfl, x0⟩; replace b0 := b0.trans (x0.mono b0.size); replace kA := kA.below x0 kA.lt; replace kB := kB.below x0 kB.lt; have cA0 := kA.cell (i := 0) rfl; have cB0 := kB.cell (i := 0) rfl; have cA1 := kA.cell (i := 1) rfl; have cB1 := kB.cell (i := 1) rfl; have cA2 := kA.cell (i := 2) rfl; have cB2 := kB.cell (i := 2) rfl; have cA3 := kA.cell (i := 3) rfl; have cB3 := kB.cell (i := 3) rfl; have cA4 := kA.cell (i := 4) rfl; have cB4 := kB.cell (i := 4) rfl; have cA5 := kA.cell (i := 5) rfl; have cB5 := kB.cell (i := 5) rfl) | ((with_reducible refine (g1.out _).mono ?_); rintro e w1 ⟨rfl, x1⟩; replace b0 := b0.trans (x1.mono b0.size); replace kA := kA.below x1 kA.lt; replace kB := kB.below x1 kB.lt; have cA0 := kA.cell (i := 0) rfl; have cB0 := kB.cell (i := 0) rfl; have cA1 := kA.cell (i := 1) rfl; have cB1 := kB.cell (i := 1) rfl; have cA2 := kA.cell (i := 2) rfl; have cB2 := kB.cell (i := 2) rfl; have cA3 := kA.cell (i := 3) rfl; have cB3 := kB.cell (i := 3) rfl; have cA4 := kA.cell (i := 4) rfl; have cB4 := kB.cell (i := 4) rfl; have cA5 := kA.cell (i := 5) rfl; have cB5 := kB.cell (i := 5) rfl))
  go_ret
  exact ⟨rfl, b0⟩
set_option maxRecDepth 100000 in
theorem opd_eight_i {A B : On} {op : Int} (ho : 3 ≤ op ∧ op ≤ 10) (h0 : TellsB 36 A true) (h1 : TellsB 37 B false) (h2 : TellsB 38 B true) : OpdB op A B true := by
  intro w
  have g0 := Lib.hid h0
  have g1 := Lib.hid h1
  have g2 := Lib.hid h2
  clear h0 h1 h2
  have e1 : (op == 1) = false := by simp; omega
  have e2 : ((3 : Int) ≤ op) = True := eq_true ho.1
  have e3 : (op ≤ 10) = True := eq_true ho.2
  clear ho
  have kA := (Blk.new w 26 (op6 A)).alloc (.cells (op6 B) 26)
  have kB := Blk.new (w.alloc (.cells (op6 A) 26)) 26 (op6 B)
  have b0 := ((Below.refl w.heap.size w).alloc (Nat.le_refl _) (.cells (op6 A) 26)).alloc (by simp) (.cells (op6 B) 26)
  rw [show (w.alloc (.cells (op6 A) 26)).heap.size = w.heap.size + 1 by simp] at kB
  go_enter Tryd.func28, Tryd.ntmps28
  go_wp2_with (first | ((with_reducible refine (g0.out _).mono ?_); rintro e w0 ⟨rfl, x0⟩; replace b0 := b0.trans (x0.mono b0.size); replace kA := kA.below x0 kA.lt; replace kB := kB.below x0 kB.lt; have cA0 := kA.cell (i := 0) rfl; have cB0 := kB.cell (i := 0) rfl; have cA1 := kA.cell (i := 1) rfl; have cB1 := kB.cell (i := 1) rfl; have cA2 := kA.cell (i := 2) rfl; have cB2 := kB.cell (i := 2) rfl; have cA3 := kA.cell (i := 3) rfl; have cB3 := kB.cell (i := 3) rfl; have cA4 := kA.cell (i := 4) rfl; have cB4 := kB.cell (i := 4) rfl; have cA5 := kA.cell (i := 5) rfl; have cB5 := kB.cell (i := 5) rfl) | ((with_reducible refine (g1.out _).mono ?_); rintro e w1 ⟨rfl, x1⟩; replace b0 := b0.trans (x1.mono b0.size); replace kA := kA.below x1 kA.lt; replace kB := kB.below x1 kB.lt; have cA0 := kA.cell (i := 0) rfl; have cB0 := kB.cell (i := 0) rfl; have cA1 := kA.cell (i := 1) rfl; have cB1 := kB.cell (i := 1) rfl; have cA2 := kA.cell (i := 2) rfl; have cB2 := kB.cell (i := 2) rfl; have cA3 := kA.cell (i := 3) rfl; have cB3 := kB.cell (i := 3) rfl; have cA4 := kA.cell (i := 4) rfl; have cB4 := kB.cell (i := 4) rfl; have cA5 := kA.cell (i := 5) rfl; have cB5 := kB.cell (i := 5) rfl) | ((with_reducible refine (g2.out _).mono ?_); rintro e w2 ⟨rfl, x2⟩; replace b0 := b0.trans (x2.mono b0.size); replace kA := kA.below x2 kA.lt; replace kB := kB.below x2 kB.lt; have cA0 := kA.cell (i := 0) rfl; have cB0 := kB.cell (i := 0) rfl; have cA1 := kA.cell (i := 1) rfl; have cB1 := kB.cell (i := 1) rfl; have cA2 := kA.cell (i := 2) rfl; have cB2 := kB.cell (i := 2) rfl; have cA3 := kA.cell (i := 3) rfl; have cB3 := kB.cell (i := 3) rfl; have cA4 := kA.cell (i := 4) rfl; have cB4 := kB.cell (i := 4) rfl; have cA5 := kA.cell (i := 5) rfl; have cB5 := kB.cell (i := 5) rfl))
  go_ret
  exact ⟨rfl, b0⟩
set_option maxRecDepth 100000 in
theorem opd_eight_m {A B : On} {op : Int} (ho : 3 ≤ op ∧ op ≤ 10) (h0 : TellsB 36 A true) (h1 : TellsB 37 B false) (h2 : TellsB 38 B false) (h3 : TellsB 37 A true) (h4 : TellsB 39 B true) : OpdB op A B true := by
  intro w
  have g0 := Lib.hid h0
  have g1 := Lib.hid h1
  have g2 := Lib.hid h2
  have g3 := Lib.hid h3
  have g4 := Lib.hid h4
  clear h0 h1 h2 h3 h4
  have e1 : (op == 1) = false := by simp; omega
  have e2 : ((3 : Int) ≤ op) = True := eq_true ho.1
  have e3 : (op ≤ 10) = True := eq_true ho.2
  clear ho
  have kA := (Blk.new w 26 (op6 A)).alloc (.cells (op6 B) 26)
  have kB := Blk.new (w.alloc (.cells (op6 A) 26)) 26 (op6 B)
  have b0 := ((Below.refl w.heap.size w).alloc (Nat.le_refl _) (.cells (op6 A) 26)).alloc (by simp) (.cells (op6 B) 26)
  rw [show (w.alloc (.cells (op6 A) 26)).heap.size = w.heap.size + 1 by simp] at kB
  go_enter Tryd.func28, Tryd.ntmps28
  go_wp2_with (first | ((with_reducible refine (g0.out _).mono ?_); rintro e w0 ⟨rfl, x0⟩; replace b0 := b0.trans (x0.mono b0.size); replace kA := kA.below x0 kA.lt; replace kB := kB.below x0 kB.lt; have cA0 := kA.cell (i := 0) rfl; have cB0 := kB.cell (i := 0) rfl; have cA1 := kA.cell (i := 1) rfl; have cB1 := kB.cell (i := 1) rfl; have cA2 := kA.cell (i := 2) rfl; have cB2 := kB.cell (i := 2) rfl; have cA3 := kA.cell (i := 3) rfl; have cB3 := kB.cell (i := 3) rfl; have cA4 := kA.cell (i := 4) rfl; have cB4 := kB.cell (i := 4) rfl; have cA5 := kA.cell (i := 5) rfl; have cB5 := kB.cell (i := 5) rfl) | ((with_reducible refine (g1.out _).mono ?_); rintro e w1 ⟨rfl, x1⟩; replace b0 := b0.trans (x1.mono b0.size); replace kA := kA.below x1 kA.lt; replace kB := kB.below x1 kB.lt; have cA0 := kA.cell (i := 0) rfl; have cB0 := kB.cell (i := 0) rfl; have cA1 := kA.cell (i := 1) rfl; have cB1 := kB.cell (i := 1) rfl; have cA2 := kA.cell (i := 2) rfl; have cB2 := kB.cell (i := 2) rfl; have cA3 := kA.cell (i := 3) rfl; have cB3 := kB.cell (i := 3) rfl; have cA4 := kA.cell (i := 4) rfl; have cB4 := kB.cell (i := 4) rfl; have cA5 := kA.cell (i := 5) rfl; have cB5 := kB.cell (i := 5) rfl) | ((with_reducible refine (g2.out _).mono ?_); rintro e w2 ⟨rfl, x2⟩; replace b0 := b0.trans (x2.mono b0.size); replace kA := kA.below x2 kA.lt; replace kB := kB.below x2 kB.lt; have cA0 := kA.cell (i := 0) rfl; have cB0 := kB.cell (i := 0) rfl; have cA1 := kA.cell (i := 1) rfl; have cB1 := kB.cell (i := 1) rfl; have cA2 := kA.cell (i := 2) rfl; have cB2 := kB.cell (i := 2) rfl; have cA3 := kA.cell (i := 3) rfl; have cB3 := kB.cell (i := 3) rfl; have cA4 := kA.cell (i := 4) rfl; have cB4 := kB.cell (i := 4) rfl; have cA5 := kA.cell (i := 5) rfl; have cB5 := kB.cell (i := 5) rfl) | ((with_reducible refine (g3.out _).mono ?_); rintro e w3 ⟨rfl, x3⟩; replace b0 := b0.trans (x3.mono b0.size); replace kA := kA.below x3 kA.lt; replace kB := kB.below x3 kB.lt; have cA0 := kA.cell (i := 0) rfl; have cB0 := kB.cell (i := 0) rfl; have cA1 := kA.cell (i := 1) rfl; have cB1 := kB.cell (i := 1) rfl; have cA2 := kA.cell (i := 2) rfl; have cB2 := kB.cell (i := 2) rfl; have cA3 := kA.cell (i := 3) rfl; have cB3 := kB.cell (i := 3) rfl; have cA4 := kA.cell (i := 4) rfl; have cB4 := kB.cell (i := 4) rfl; have cA5 := kA.cell (i := 5) rfl; have cB5 := kB.cell (i := 5) rfl) | ((with_reducible refine (g4.out _).mono ?_); rintro e w4 ⟨rfl, x4⟩; replace b0 := b0.trans (x4.mono b0.size); replace kA := kA.below x4 kA.lt; replace kB := kB.below x4 kB.lt; have cA0 := kA.cell (i := 0) rfl; have cB0 := kB.cell (i := 0) rfl; have cA1 := kA.cell (i := 1) rfl; have cB1 := kB.cell (i := 1) rfl; have cA2 := kA.cell (i := 2) rfl; have cB2 := kB.cell (i := 2) rfl; have cA3 := kA.cell (i := 3) rfl; have cB3 := kB.cell (i := 3) rfl; have cA4 := kA.cell (i := 4) rfl; have cB4 := kB.cell (i := 4) rfl; have cA5 := kA.cell (i := 5) rfl; have cB5 := kB.cell (i := 5) rfl))
  go_ret
  exact ⟨rfl, b0⟩
set_option maxRecDepth 100000 in
theorem opd_test_r {A B : On} (h0 : TellsB 36 A true) (h1 : TellsB 37 B true) : OpdB 11 A B true := by
  intro w
  have g0 := Lib.hid h0
  have g1 := Lib.hid h1
  clear h0 h1
  have kA := (Blk.new w 26 (op6 A)).alloc (.cells (op6 B) 26)
  have kB := Blk.new (w.alloc (.cells (op6 A) 26)) 26 (op6 B)
  have b0 := ((Below.refl w.heap.size w).alloc (Nat.le_refl _) (.cells (op6 A) 26)).alloc (by simp) (.cells (op6 B) 26)
  rw [show (w.alloc (.cells (op6 A) 26)).heap.size = w.heap.size + 1 by simp] at kB
  go_enter Tryd.func28, Tryd.ntmps28
  go_wp2_with (first | ((with_reducible refine (g0.out _).mono ?_); rintro e w0 ⟨rfl, x0⟩; replace b0 := b0.trans (x0.mono b0.size); replace kA := kA.below x0 kA.lt; replace kB := kB.below x0 kB.lt; have cA0 := kA.cell (i := 0) rfl; have cB0 := kB.cell (i := 0) rfl; have cA1 := kA.cell (i := 1) rfl; have cB1 := kB.cell (i := 1) rfl; have cA2 := kA.cell (i := 2) rfl; have cB2 := kB.cell (i := 2) rfl; have cA3 := kA.cell (i := 3) rfl; have cB3 := kB.cell (i := 3) rfl; have cA4 := kA.cell (i := 4) rfl; have cB4 := kB.cell (i := 4) rfl; have cA5 := kA.cell (i := 5) rfl; have cB5 := kB.cell (i := 5) rfl) | ((with_reducible refine (g1.out _).mono ?_); rintro e w1 ⟨rfl, x1⟩; replace b0 := b0.trans (x1.mono b0.size); replace kA := kA.below x1 kA.lt; replace kB := kB.below x1 kB.lt; have cA0 := kA.cell (i := 0) rfl; have cB0 := kB.cell (i := 0) rfl; have cA1 := kA.cell (i := 1) rfl; have cB1 := kB.cell (i := 1) rfl; have cA2 := kA.cell (i := 2) rfl; have cB2 := kB.cell (i := 2) rfl; have cA3 := kA.cell (i := 3) rfl; have cB3 := kB.cell (i := 3) rfl; have cA4 := kA.cell (i := 4) rfl; have cB4 := kB.cell (i := 4) rfl; have cA5 := kA.cell (i := 5) rfl; have cB5 := kB.cell (i := 5) rfl))
  go_ret
  exact ⟨rfl, b0⟩
set_option maxRecDepth 100000 in
theorem opd_test_i {A B : On} (h0 : TellsB 36 A true) (h1 : TellsB 37 B false) (h2 : TellsB 38 B true) : OpdB 11 A B true := by
  intro w
  have g0 := Lib.hid h0
  have g1 := Lib.hid h1
  have g2 := Lib.hid h2
  clear h0 h1 h2
  have kA := (Blk.new w 26 (op6 A)).alloc (.cells (op6 B) 26)
  have kB := Blk.new (w.alloc (.cells (op6 A) 26)) 26 (op6 B)
  have b0 := ((Below.refl w.heap.size w).alloc (Nat.le_refl _) (.cells (op6 A) 26)).alloc (by simp) (.cells (op6 B) 26)
  rw [show (w.alloc (.cells (op6 A) 26)).heap.size = w.heap.size + 1 by simp] at kB
  go_enter Tryd.func28, Tryd.ntmps28
  go_wp2_with (first | ((with_reducible refine (g0.out _).mono ?_); rintro e w0 ⟨rfl, x0⟩; replace b0 := b0.trans (x0.mono b0.size); replace kA := kA.below x0 kA.lt; replace kB := kB.below x0 kB.lt; have cA0 := kA.cell (i := 0) rfl; have cB0 := kB.cell (i := 0) rfl; have cA1 := kA.cell (i := 1) rfl; have cB1 := kB.cell (i := 1) rfl; have cA2 := kA.cell (i := 2) rfl; have cB2 := kB.cell (i := 2) rfl; have cA3 := kA.cell (i := 3) rfl; have cB3 := kB.cell (i := 3) rfl; have cA4 := kA.cell (i := 4) rfl; have cB4 := kB.cell (i := 4) rfl; have cA5 := kA.cell (i := 5) rfl; have cB5 := kB.cell (i := 5) rfl) | ((with_reducible refine (g1.out _).mono ?_); rintro e w1 ⟨rfl, x1⟩; replace b0 := b0.trans (x1.mono b0.size); replace kA := kA.below x1 kA.lt; replace kB := kB.below x1 kB.lt; have cA0 := kA.cell (i := 0) rfl; have cB0 := kB.cell (i := 0) rfl; have cA1 := kA.cell (i := 1) rfl; have cB1 := kB.cell (i := 1) rfl; have cA2 := kA.cell (i := 2) rfl; have cB2 := kB.cell (i := 2) rfl; have cA3 := kA.cell (i := 3) rfl; have cB3 := kB.cell (i := 3) rfl; have cA4 := kA.cell (i := 4) rfl; have cB4 := kB.cell (i := 4) rfl; have cA5 := kA.cell (i := 5) rfl; have cB5 := kB.cell (i := 5) rfl) | ((with_reducible refine (g2.out _).mono ?_); rintro e w2 ⟨rfl, x2⟩; replace b0 := b0.trans (x2.mono b0.size); replace kA := kA.below x2 kA.lt; replace kB := kB.below x2 kB.lt; have cA0 := kA.cell (i := 0) rfl; have cB0 := kB.cell (i := 0) rfl; have cA1 := kA.cell (i := 1) rfl; have cB1 := kB.cell (i := 1) rfl; have cA2 := kA.cell (i := 2) rfl; have cB2 := kB.cell (i := 2) rfl; have cA3 := kA.cell (i := 3) rfl; have cB3 := kB.cell (i := 3) rfl; have cA4 := kA.cell (i := 4) rfl; have cB4 := kB.cell (i := 4) rfl; have cA5 := kA.cell (i := 5) rfl; have cB5 := kB.cell (i := 5) rfl))
  go_ret
  exact ⟨rfl, b0⟩
set_option maxRecDepth 100000 in
theorem opd_movb_r {A B : On} (h0 : TellsB 36 A true) (h1 : TellsB 37 B true) : OpdB 2 A B true := by
  intro w
  have g0 := Lib.hid h0
  have g1 := Lib.hid h1
  clear h0 h1
  have kA := (Blk.new w 26 (op6 A)).alloc (.cells (op6 B) 26)
  have kB := Blk.new (w.alloc (.cells (op6 A) 26)) 26 (op6 B)
  have b0 := ((Below.refl w.heap.size w).alloc (Nat.le_refl _) (.cells (op6 A) 26)).alloc (by simp) (.cells (op6 B) 26)
  rw [show (w.alloc (.cells (op6 A) 26)).heap.size = w.heap.size + 1 by simp] at kB
  go_enter Tryd.func28, Tryd.ntmps28
  go_wp2_with (first | ((with_reducible refine (g0.out _).mono ?_); rintro e w0 ⟨rfl, x0⟩; replace b0 := b0.trans (x0.mono b0.size); replace kA := kA.below x0 kA.lt; replace kB := kB.below x0 kB.lt; have cA0 := kA.cell (i := 0) rfl; have cB0 := kB.cell (i := 0) rfl; have cA1 := kA.cell (i := 1) rfl; have cB1 := kB.cell (i := 1) rfl; have cA2 := kA.cell (i := 2) rfl; have cB2 := kB.cell (i := 2) rfl; have cA3 := kA.cell (i := 3) rfl; have cB3 := kB.cell (i := 3) rfl; have cA4 := kA.cell (i := 4) rfl; have cB4 := kB.cell (i := 4) rfl; have cA5 := kA.cell (i := 5) rfl; have cB5 := kB.cell (i := 5) rfl) | ((with_reducible refine (g1.out _).mono ?_); rintro e w1 ⟨rfl, x1⟩; replace b0 := b0.trans (x1.mono b0.size); replace kA := kA.below x1 kA.lt; replace kB := kB.below x1 kB.lt; have cA0 := kA.cell (i := 0) rfl; have cB0 := kB.cell (i := 0) rfl; have cA1 := kA.cell (i := 1) rfl; have cB1 := kB.cell (i := 1) rfl; have cA2 := kA.cell (i := 2) rfl; have cB2 := kB.cell (i := 2) rfl; have cA3 := kA.cell (i := 3) rfl; have cB3 := kB.cell (i := 3) rfl; have cA4 := kA.cell (i := 4) rfl; have cB4 := kB.cell (i := 4) rfl; have cA5 := kA.cell (i := 5) rfl; have cB5 := kB.cell (i := 5) rfl))
  go_ret
  exact ⟨rfl, b0⟩
set_option maxRecDepth 100000 in
theorem opd_movb_i {A B : On} (h0 : TellsB 36 A true) (h1 : TellsB 37 B false) (h2 : TellsB 40 B true) : OpdB 2 A B true := by
  intro w
  have g0 := Lib.hid h0
  have g1 := Lib.hid h1
  have g2 := Lib.hid h2
  clear h0 h1 h2
  have kA := (Blk.new w 26 (op6 A)).alloc (.cells (op6 B) 26)
  have kB := Blk.new (w.alloc (.cells (op6 A) 26)) 26 (op6 B)
  have b0 := ((Below.refl w.heap.size w).alloc (Nat.le_refl _) (.cells (op6 A) 26)).alloc (by simp) (.cells (op6 B) 26)
  rw [show (w.alloc (.cells (op6 A) 26)).heap.size = w.heap.size + 1 by simp] at kB
  go_enter Tryd.func28, Tryd.ntmps28
  go_wp2_with (first | ((with_reducible refine (g0.out _).mono ?_); rintro e w0 ⟨rfl, x0⟩; replace b0 := b0.trans (x0.mono b0.size); replace kA := kA.below x0 kA.lt; replace kB := kB.below x0 kB.lt; have cA0 := kA.cell (i := 0) rfl; have cB0 := kB.cell (i := 0) rfl; have cA1 := kA.cell (i := 1) rfl; have cB1 := kB.cell (i := 1) rfl; have cA2 := kA.cell (i := 2) rfl; have cB2 := kB.cell (i := 2) rfl; have cA3 := kA.cell (i := 3) rfl; have cB3 := kB.cell (i := 3) rfl; have cA4 := kA.cell (i := 4) rfl; have cB4 := kB.cell (i := 4) rfl; have cA5 := kA.cell (i := 5) rfl; have cB5 := kB.cell (i := 5) rfl) | ((with_reducible refine (g1.out _).mono ?_); rintro e w1 ⟨rfl, x1⟩; replace b0 := b0.trans (x1.mono b0.size); replace kA := kA.below x1 kA.lt; replace kB := kB.below x1 kB.lt; have cA0 := kA.cell (i := 0) rfl; have cB0 := kB.cell (i := 0) rfl; have cA1 := kA.cell (i := 1) rfl; have cB1 := kB.cell (i := 1) rfl; have cA2 := kA.cell (i := 2) rfl; have cB2 := kB.cell (i := 2) rfl; have cA3 := kA.cell (i := 3) rfl; have cB3 := kB.cell (i := 3) rfl; have cA4 := kA.cell (i := 4) rfl; have cB4 := kB.cell (i := 4) rfl; have cA5 := kA.cell (i := 5) rfl; have cB5 := kB.cell (i := 5) rfl) | ((with_reducible refine (g2.out _).mono ?_); rintro e w2 ⟨rfl, x2⟩; replace b0 := b0.trans (x2.mono b0.size); replace kA := kA.below x2 kA.lt; replace kB := kB.below x2 kB.lt; have cA0 := kA.cell (i := 0) rfl; have cB0 := kB.cell (i := 0) rfl; have cA1 := kA.cell (i := 1) rfl; have cB1 := kB.cell (i := 1) rfl; have cA2 := kA.cell (i := 2) rfl; have cB2 := kB.cell (i := 2) rfl; have cA3 := kA.cell (i := 3) rfl; have cB3 := kB.cell (i := 3) rfl; have cA4 := kA.cell (i := 4) rfl; have cB4 := kB.cell (i := 4) rfl; have cA5 := kA.cell (i := 5) rfl; have cB5 := kB.cell (i := 5) rfl))
  go_ret
  exact ⟨rfl, b0⟩
set_option maxRecDepth 100000 in
theorem opd_movb_m {A B : On} (h0 : TellsB 36 A true) (h1 : TellsB 37 B false) (h2 : TellsB 40 B false) (h3 : TellsB 37 A true) (h4 : TellsB 39 B true) : OpdB 2 A B true := by
  intro w
  have g0 := Lib.hid h0
  have g1 := Lib.hid h1
  have g2 := Lib.hid h2
  have g3 := Lib.hid h3
  have g4 := Lib.hid h4
  clear h0 h1 h2 h3 h4
  have kA := (Blk.new w 26 (op6 A)).alloc (.cells (op6 B) 26)
  have kB := Blk.new (w.alloc (.cells (op6 A) 26)) 26 (op6 B)
  have b0 := ((Below.refl w.heap.size w).alloc (Nat.le_refl _) (.cells (op6 A) 26)).alloc (by simp) (.cells (op6 B) 26)
  rw [show (w.alloc (.cells (op6 A) 26)).heap.size = w.heap.size + 1 by simp] at kB
  go_enter Tryd.func28, Tryd.ntmps28
  go_wp2_with (first | ((with_reducible refine (g0.out _).mono ?_); rintro e w0 ⟨rfl, x0⟩; replace b0 := b0.trans (x0.mono b0.size); replace kA := kA.below x0 kA.lt; replace kB := kB.below x0 kB.lt; have cA0 := kA.cell (i := 0) rfl; have cB0 := kB.cell (i := 0) rfl; have cA1 := kA.cell (i := 1) rfl; have cB1 := kB.cell (i := 1) rfl; have cA2 := kA.cell (i := 2) rfl; have cB2 := kB.cell (i := 2) rfl; have cA3 := kA.cell (i := 3) rfl; have cB3 := kB.cell (i := 3) rfl; have cA4 := kA.cell (i := 4) rfl; have cB4 := kB.cell (i := 4) rfl; have cA5 := kA.cell (i := 5) rfl; have cB5 := kB.cell (i := 5) rfl) | ((with_reducible refine (g1.out _).mono ?_); rintro e w1 ⟨rfl, x1⟩; replace b0 := b0.trans (x1.mono b0.size); replace kA := kA.below x1 kA.lt; replace kB := kB.below x1 kB.lt; have cA0 := kA.cell (i := 0) rfl; have cB0 := kB.cell (i := 0) rfl; have cA1 := kA.cell (i := 1) rfl; have cB1 := kB.cell (i := 1) rfl; have cA2 := kA.cell (i := 2) rfl; have cB2 := kB.cell (i := 2) rfl; have cA3 := kA.cell (i := 3) rfl; have cB3 := kB.cell (i := 3) rfl; have cA4 := kA.cell (i := 4) rfl; have cB4 := kB.cell (i := 4) rfl; have cA5 := kA.cell (i := 5) rfl; have cB5 := kB.cell (i := 5) rfl) | ((with_reducible refine (g2.out _).mono ?_); rintro e w2 ⟨rfl, x2⟩; replace b0 := b0.trans (x2.mono b0.size); replace kA := kA.below x2 kA.lt; replace kB := kB.below x2 kB.lt; have cA0 := kA.cell (i := 0) rfl; have cB0 := kB.cell (i := 0) rfl; have cA1 := kA.cell (i := 1) rfl; have cB1 := kB.cell (i := 1) rfl; have cA2 := kA.cell (i := 2) rfl; have cB2 := kB.cell (i := 2) rfl; have cA3 := kA.cell (i := 3) rfl; have cB3 := kB.cell (i := 3) rfl; have cA4 := kA.cell (i := 4) rfl; have cB4 := kB.cell (i := 4) rfl; have cA5 := kA.cell (i := 5) rfl; have cB5 := kB.cell (i := 5) rfl) | ((with_reducible refine (g3.out _).mono ?_); rintro e w3 ⟨rfl, x3⟩; replace b0 := b0.trans (x3.mono b0.size); replace kA := kA.below x3 kA.lt; replace kB := kB.below x3 kB.lt; have cA0 := kA.cell (i := 0) rfl; have cB0 := kB.cell (i := 0) rfl; have cA1 := kA.cell (i := 1) rfl; have cB1 := kB.cell (i := 1) rfl; have cA2 := kA.cell (i := 2) rfl; have cB2 := kB.cell (i := 2) rfl; have cA3 := kA.cell (i := 3) rfl; have cB3 := kB.cell (i := 3) rfl; have cA4 := kA.cell (i := 4) rfl; have cB4 := kB.cell (i := 4) rfl; have cA5 := kA.cell (i := 5) rfl; have cB5 := kB.cell (i := 5) rfl) | ((with_reducible refine (g4.out _).mono ?_); rintro e w4 ⟨rfl, x4⟩; replace b0 := b0.trans (x4.mono b0.size); replace kA := kA.below x4 kA.lt; replace kB := kB.below x4 kB.lt; have cA0 := kA.cell (i := 0) rfl; have cB0 := kB.cell (i := 0) rfl; have cA1 := kA.cell (i := 1) rfl; have cB1 := kB.cell (i := 1) rfl; have cA2 := kA.cell (i := 2) rfl; have cB2 := kB.cell (i := 2) rfl; have cA3 := kA.cell (i := 3) rfl; have cB3 := kB.cell (i := 3) rfl; have cA4 := kA.cell (i := 4) rfl; have cB4 := kB.cell (i := 4) rfl; have cA5 := kA.cell (i := 5) rfl; have cB5 := kB.cell (i := 5) rfl))
  go_ret
  exact ⟨rfl, b0⟩
set_option maxRecDepth 100000 in
theorem opd_xchg {A B : On} (h0 : TellsB 36 A true) (h1 : TellsB 37 B true) : OpdB 27 A B true := by
  intro w
  have g0 := Lib.hid h0
  have g1 := Lib.hid h1
  clear h0 h1
  have kA := (Blk.new w 26 (op6 A)).alloc (.cells (op6 B) 26)
  have kB := Blk.new (w.alloc (.cells (op6 A) 26)) 26 (op6 B)
  have b0 := ((Below.refl w.heap.size w).alloc (Nat.le_refl _) (.cells (op6 A) 26)).alloc (by simp) (.cells (op6 B) 26)
  rw [show (w.alloc (.cells (op6 A) 26)).heap.size = w.heap.size + 1 by simp] at kB
  go_enter Tryd.func28, Tryd.ntmps28
  go_wp2_with (first | ((with_reducible refine (g0.out _).mono ?_); rintro e w0 ⟨rfl, x0⟩; replace b0 := b0.trans (x0.mono b0.size); replace kA := kA.below x0 kA.lt; replace kB := kB.below x0 kB.lt; have cA0 := kA.cell (i := 0) rfl; have cB0 := kB.cell (i := 0) rfl; have cA1 := kA.cell (i := 1) rfl; have cB1 := kB.cell (i := 1) rfl; have cA2 := kA.cell (i := 2) rfl; have cB2 := kB.cell (i := 2) rfl; have cA3 := kA.cell (i := 3) rfl; have cB3 := kB.cell (i := 3) rfl; have cA4 := kA.cell (i := 4) rfl; have cB4 := kB.cell (i := 4) rfl; have cA5 := kA.cell (i := 5) rfl; have cB5 := kB.cell (i := 5) rfl) | ((with_reducible refine (g1.out _).mono ?_); rintro e w1 ⟨rfl, x1⟩; replace b0 := b0.trans (x1.mono b0.size); replace kA := kA.below x1 kA.lt; replace kB := kB.below x1 kB.lt; have cA0 := kA.cell (i := 0) rfl; have cB0 := kB.cell (i := 0) rfl; have cA1 := kA.cell (i := 1) rfl; have cB1 := kB.cell (i := 1) rfl; have cA2 := kA.cell (i := 2) rfl; have cB2 := kB.cell (i := 2) rfl; have cA3 := kA.cell (i := 3) rfl; have cB3 := kB.cell (i := 3) rfl; have cA4 := kA.cell (i := 4) rfl; have cB4 := kB.cell (i := 4) rfl; have cA5 := kA.cell (i := 5) rfl; have cB5 := kB.cell (i := 5) rfl))
  go_ret
  exact ⟨rfl, b0⟩
set_option maxRecDepth 100000 in
theorem opd_one12 {A B : On} (h0 : TellsB 36 A true) (h1 : TellsB 41 B true) : OpdB 12 A B true := by
  intro w
  have g0 := Lib.hid h0
  have g1 := Lib.hid h1
  clear h0 h1
  have kA := (Blk.new w 26 (op6 A)).alloc (.cells (op6 B) 26)
  have kB := Blk.new (w.alloc (.cells (op6 A) 26)) 26 (op6 B)
  have b0 := ((Below.refl w.heap.size w).alloc (Nat.le_refl _) (.cells (op6 A) 26)).alloc (by simp) (.cells (op6 B) 26)
  rw [show (w.alloc (.cells (op6 A) 26)).heap.size = w.heap.size + 1 by simp] at kB
  go_enter Tryd.func28, Tryd.ntmps28
  go_wp2_with (first | ((with_reducible refine (g0.out _).mono ?_); rintro e w0 ⟨rfl, x0⟩; replace b0 := b0.trans (x0.mono b0.size); replace kA := kA.below x0 kA.lt; replace kB := kB.below x0 kB.lt; have cA0 := kA.cell (i := 0) rfl; have cB0 := kB.cell (i := 0) rfl; have cA1 := kA.cell (i := 1) rfl; have cB1 := kB.cell (i := 1) rfl; have cA2 := kA.cell (i := 2) rfl; have cB2 := kB.cell (i := 2) rfl; have cA3 := kA.cell (i := 3) rfl; have cB3 := kB.cell (i := 3) rfl; have cA4 := kA.cell (i := 4) rfl; have cB4 := kB.cell (i := 4) rfl; have cA5 := kA.cell (i := 5) rfl; have cB5 := kB.cell (i := 5) rfl) | ((with_reducible refine (g1.out _).mono ?_); rintro e w1 ⟨rfl, x1⟩; replace b0 := b0.trans (x1.mono b0.size); replace kA := kA.below x1 kA.lt; replace kB := kB.below x1 kB.lt; have cA0 := kA.cell (i := 0) rfl; have cB0 := kB.cell (i := 0) rfl; have cA1 := kA.cell (i := 1) rfl; have cB1 := kB.cell (i := 1) rfl; have cA2 := kA.cell (i := 2) rfl; have cB2 := kB.cell (i := 2) rfl; have cA3 := kA.cell (i := 3) rfl; have cB3 := kB.cell (i := 3) rfl; have cA4 := kA.cell (i := 4) rfl; have cB4 := kB.cell (i := 4) rfl; have cA5 := kA.cell (i := 5) rfl; have cB5 := kB.cell (i := 5) rfl))
  go_ret
  exact ⟨rfl, b0⟩
set_option maxRecDepth 100000 in
theorem opd_one13 {A B : On} (h0 : TellsB 36 A true) (h1 : TellsB 41 B true) : OpdB 13 A B true := by
  intro w
  have g0 := Lib.hid h0
  have g1 := Lib.hid h1
  clear h0 h1
  have kA := (Blk.new w 26 (op6 A)).alloc (.cells (op6 B) 26)
  have kB := Blk.new (w.alloc (.cells (op6 A) 26)) 26 (op6 B)
  have b0 := ((Below.refl w.heap.size w).alloc (Nat.le_refl _) (.cells (op6 A) 26)).alloc (by simp) (.cells (op6 B) 26)
  rw [show (w.alloc (.cells (op6 A) 26)).heap.size = w.heap.size + 1 by simp] at kB
  go_enter Tryd.func28, Tryd.ntmps28
  go_wp2_with (first | ((with_reducible refine (g0.out _).mono ?_); rintro e w0 ⟨rfl, x0⟩; replace b0 := b0.trans (x0.mono b0.size); replace kA := kA.below x0 kA.lt; replace kB := kB.below x0 kB.lt; have cA0 := kA.cell (i := 0) rfl; have cB0 := kB.cell (i := 0) rfl; have cA1 := kA.cell (i := 1) rfl; have cB1 := kB.cell (i := 1) rfl; have cA2 := kA.cell (i := 2) rfl; have cB2 := kB.cell (i := 2) rfl; have cA3 := kA.cell (i := 3) rfl; have cB3 := kB.cell (i := 3) rfl; have cA4 := kA.cell (i := 4) rfl; have cB4 := kB.cell (i := 4) rfl; have cA5 := kA.cell (i := 5) rfl; have cB5 := kB.cell (i := 5) rfl) | ((with_reducible refine (g1.out _).mono ?_); rintro e w1 ⟨rfl, x1⟩; replace b0 := b0.trans (x1.mono b0.size); replace kA := kA.below x1 kA.lt; replace kB := kB.below x1 kB.lt; have cA0 := kA.cell (i := 0) rfl; have cB0 := kB.cell (i := 0) rfl; have cA1 := kA.cell (i := 1) rfl; have cB1 := kB.cell (i := 1) rfl; have cA2 := kA.cell (i := 2) rfl; have cB2 := kB.cell (i := 2) rfl; have cA3 := kA.cell (i := 3) rfl; have cB3 := kB.cell (i := 3) rfl; have cA4 := kA.cell (i := 4) rfl; have cB4 := kB.cell (i := 4) rfl; have cA5 := kA.cell (i := 5) rfl; have cB5 := kB.cell (i := 5) rfl))
  go_ret
  exact ⟨rfl, b0⟩
set_option maxRecDepth 100000 in
theorem opd_one14 {A B : On} (h0 : TellsB 36 A true) (h1 : TellsB 41 B true) : OpdB 14 A B true := by
  intro w
  have g0 := Lib.hid h0
  have g1 := Lib.hid h1
  clear h0 h1
  have kA := (Blk.new w 26 (op6 A)).alloc (.cells (op6 B) 26)
  have kB := Blk.new (w.alloc (.cells (op6 A) 26)) 26 (op6 B)
  have b0 := ((Below.refl w.heap.size w).alloc (Nat.le_refl _) (.cells (op6 A) 26)).alloc (by simp) (.cells (op6 B) 26)
  rw [show (w.alloc (.cells (op6 A) 26)).heap.size = w.heap.size + 1 by simp] at kB
  go_enter Tryd.func28, Tryd.ntmps28
  go_wp2_with (first | ((with_reducible refine (g0.out _).mono ?_); rintro e w0 ⟨rfl, x0⟩; replace b0 := b0.trans (x0.mono b0.size); replace kA := kA.below x0 kA.lt; replace kB := kB.below x0 kB.lt; have cA0 := kA.cell (i := 0) rfl; have cB0 := kB.cell (i := 0) rfl; have cA1 := kA.cell (i := 1) rfl; have cB1 := kB.cell (i := 1) rfl; have cA2 := kA.cell (i := 2) rfl; have cB2 := kB.cell (i := 2) rfl; have cA3 := kA.cell (i := 3) rfl; have cB3 := kB.cell (i := 3) rfl; have cA4 := kA.cell (i := 4) rfl; have cB4 := kB.cell (i := 4) rfl; have cA5 := kA.cell (i := 5) rfl; have cB5 := kB.cell (i := 5) rfl) | ((with_reducible refine (g1.out _).mono ?_); rintro e w1 ⟨rfl, x1⟩; replace b0 := b0.trans (x1.mono b0.size); replace kA := kA.below x1 kA.lt; replace kB := kB.below x1 kB.lt; have cA0 := kA.cell (i := 0) rfl; have cB0 := kB.cell (i := 0) rfl; have cA1 := kA.cell (i := 1) rfl; have cB1 := kB.cell (i := 1) rfl; have cA2 := kA.cell (i := 2) rfl; have cB2 := kB.cell (i := 2) rfl; have cA3 := kA.cell (i := 3) rfl; have cB3 := kB.cell (i := 3) rfl; have cA4 := kA.cell (i := 4) rfl; have cB4 := kB.cell (i := 4) rfl; have cA5 := kA.cell (i := 5) rfl; have cB5 := kB.cell (i := 5) rfl))
  go_ret
  exact ⟨rfl, b0⟩
set_option maxRecDepth 100000 in
theorem opd_one15 {A B : On} (h0 : TellsB 36 A true) (h1 : TellsB 41 B true) : OpdB 15 A B true := by
  intro w
  have g0 := Lib.hid h0
  have g1 := Lib.hid h1
  clear h0 h1
  have kA := (Blk.new w 26 (op6 A)).alloc (.cells (op6 B) 26)
  have kB := Blk.new (w.alloc (.cells (op6 A) 26)) 26 (op6 B)
  have b0 := ((Below.refl w.heap.size w).alloc (Nat.le_refl _) (.cells (op6 A) 26)).alloc (by simp) (.cells (op6 B) 26)
  rw [show (w.alloc (.cells (op6 A) 26)).heap.size = w.heap.size + 1 by simp] at kB
  go_enter Tryd.func28, Tryd.ntmps28
  go_wp2_with (first | ((with_reducible refine (g0.out _).mono ?_); rintro e w0 ⟨rfl, x0⟩; replace b0 := b0.trans (x0.mono b0.size); replace kA := kA.below x0 kA.lt; replace kB := kB.below x0 kB.lt; have cA0 := kA.cell (i := 0) rfl; have cB0 := kB.cell (i := 0) rfl; have cA1 := kA.cell (i := 1) rfl; have cB1 := kB.cell (i := 1) rfl; have cA2 := kA.cell (i := 2) rfl; have cB2 := kB.cell (i := 2) rfl; have cA3 := kA.cell (i := 3) rfl; have cB3 := kB.cell (i := 3) rfl; have cA4 := kA.cell (i := 4) rfl; have cB4 := kB.cell (i := 4) rfl; have cA5 := kA.cell (i := 5) rfl; have cB5 := kB.cell (i := 5) rfl) | ((with_reducible refine (g1.out _).mono ?_); rintro e w1 ⟨rfl, x1⟩; replace b0 := b0.trans (x1.mono b0.size); replace kA := kA.below x1 kA.lt; replace kB := kB.below x1 kB.lt; have cA0 := kA.cell (i := 0) rfl; have cB0 := kB.cell (i := 0) rfl; have cA1 := kA.cell (i := 1) rfl; have cB1 := kB.cell (i := 1) rfl; have cA2 := kA.cell (i := 2) rfl; have cB2 := kB.cell (i := 2) rfl; have cA3 := kA.cell (i := 3) rfl; have cB3 := kB.cell (i := 3) rfl; have cA4 := kA.cell (i := 4) rfl; have cB4 := kB.cell (i := 4) rfl; have cA5 := kA.cell (i := 5) rfl; have cB5 := kB.cell (i := 5) rfl))
  go_ret
  exact ⟨rfl, b0⟩
set_option maxRecDepth 100000 in
theorem opd_one16 {A B : On} (h0 : TellsB 36 A true) (h1 : TellsB 41 B true) : OpdB 16 A B true := by
  intro w
  have g0 := Lib.hid h0
  have g1 := Lib.hid h1
  clear h0 h1
  have kA := (Blk.new w 26 (op6 A)).alloc (.cells (op6 B) 26)
  have kB := Blk.new (w.alloc (.cells (op6 A) 26)) 26 (op6 B)
  have b0 := ((Below.refl w.heap.size w).alloc (Nat.le_refl _) (.cells (op6 A) 26)).alloc (by simp) (.cells (op6 B) 26)
  rw [show (w.alloc (.cells (op6 A) 26)).heap.size = w.heap.size + 1 by simp] at kB
  go_enter Tryd.func28, Tryd.ntmps28
  go_wp2_with (first | ((with_reducible refine (g0.out _).mono ?_); rintro e w0 ⟨rfl, x0⟩; replace b0 := b0.trans (x0.mono b0.size); replace kA := kA.below x0 kA.lt; replace kB := kB.below x0 kB.lt; have cA0 := kA.cell (i := 0) rfl; have cB0 := kB.cell (i := 0) rfl; have cA1 := kA.cell (i := 1) rfl; have cB1 := kB.cell (i := 1) rfl; have cA2 := kA.cell (i := 2) rfl; have cB2 := kB.cell (i := 2) rfl; have cA3 := kA.cell (i := 3) rfl; have cB3 := kB.cell (i := 3) rfl; have cA4 := kA.cell (i := 4) rfl; have cB4 := kB.cell (i := 4) rfl; have cA5 := kA.cell (i := 5) rfl; have cB5 := kB.cell (i := 5) rfl) | ((with_reducible refine (g1.out _).mono ?_); rintro e w1 ⟨rfl, x1⟩; replace b0 := b0.trans (x1.mono b0.size); replace kA := kA.below x1 kA.lt; replace kB := kB.below x1 kB.lt; have cA0 := kA.cell (i := 0) rfl; have cB0 := kB.cell (i := 0) rfl; have cA1 := kA.cell (i := 1) rfl; have cB1 := kB.cell (i := 1) rfl; have cA2 := kA.cell (i := 2) rfl; have cB2 := kB.cell (i := 2) rfl; have cA3 := kA.cell (i := 3) rfl; have cB3 := kB.cell (i := 3) rfl; have cA4 := kA.cell (i := 4) rfl; have cB4 := kB.cell (i := 4) rfl; have cA5 := kA.cell (i := 5) rfl; have cB5 := kB.cell (i := 5) rfl))
  go_ret
  exact ⟨rfl, b0⟩
set_option maxRecDepth 100000 in
theorem opd_one17 {A B : On} (h0 : TellsB 36 A true) (h1 : TellsB 41 B true) : OpdB 17 A B true := by
  intro w
  have g0 := Lib.hid h0
  have g1 := Lib.hid h1
  clear h0 h1
  have kA := (Blk.new w 26 (op6 A)).alloc (.cells (op6 B) 26)
  have kB := Blk.new (w.alloc (.cells (op6 A) 26)) 26 (op6 B)
  have b0 := ((Below.refl w.heap.size w).alloc (Nat.le_refl _) (.cells (op6 A) 26)).alloc (by simp) (.cells (op6 B) 26)
  rw [show (w.alloc (.cells (op6 A) 26)).heap.size = w.heap.size + 1 by simp] at kB
  go_enter Tryd.func28, Tryd.ntmps28
  go_wp2_with (first | ((with_reducible refine (g0.out _).mono ?_); rintro e w0 ⟨rfl, x0⟩; replace b0 := b0.trans (x0.mono b0.size); replace kA := kA.below x0 kA.lt; replace kB := kB.below x0 kB.lt; have cA0 := kA.cell (i := 0) rfl; have cB0 := kB.cell (i := 0) rfl; have cA1 := kA.cell (i := 1) rfl; have cB1 := kB.cell (i := 1) rfl; have cA2 := kA.cell (i := 2) rfl; have cB2 := kB.cell (i := 2) rfl; have cA3 := kA.cell (i := 3) rfl; have cB3 := kB.cell (i := 3) rfl; have cA4 := kA.cell (i := 4) rfl; have cB4 := kB.cell (i := 4) rfl; have cA5 := kA.cell (i := 5) rfl; have cB5 := kB.cell (i := 5) rfl) | ((with_reducible refine (g1.out _).mono ?_); rintro e w1 ⟨rfl, x1⟩; replace b0 := b0.trans (x1.mono b0.size); replace kA := kA.below x1 kA.lt; replace kB := kB.below x1 kB.lt; have cA0 := kA.cell (i := 0) rfl; have cB0 := kB.cell (i := 0) rfl; have cA1 := kA.cell (i := 1) rfl; have cB1 := kB.cell (i := 1) rfl; have cA2 := kA.cell (i := 2) rfl; have cB2 := kB.cell (i := 2) rfl; have cA3 := kA.cell (i := 3) rfl; have cB3 := kB.cell (i := 3) rfl; have cA4 := kA.cell (i := 4) rfl; have cB4 := kB.cell (i := 4) rfl; have cA5 := kA.cell (i := 5) rfl; have cB5 := kB.cell (i := 5) rfl))
  go_ret
  exact ⟨rfl, b0⟩
set_option maxRecDepth 100000 in
theorem opd_one19 {A B : On} (h0 : TellsB 36 A true) (h1 : TellsB 41 B true) : OpdB 19 A B true := by
  intro w
  have g0 := Lib.hid h0
  have g1 := Lib.hid h1
  clear h0 h1
  have kA := (Blk.new w 26 (op6 A)).alloc (.cells (op6 B) 26)
  have kB := Blk.new (w.alloc (.cells (op6 A) 26)) 26 (op6 B)
  have b0 := ((Below.refl w.heap.size w).alloc (Nat.le_refl _) (.cells (op6 A) 26)).alloc (by simp) (.cells (op6 B) 26)
  rw [show (w.alloc (.cells (op6 A) 26)).heap.size = w.heap.size + 1 by simp] at kB
  go_enter Tryd.func28, Tryd.ntmps28
  go_wp2_with (first | ((with_reducible refine (g0.out _).mono ?_); rintro e w0 ⟨rfl, x0⟩; replace b0 := b0.trans (x0.mono b0.size); replace kA := kA.below x0 kA.lt; replace kB := kB.below x0 kB.lt; have cA0 := kA.cell (i := 0) rfl; have cB0 := kB.cell (i := 0) rfl; have cA1 := kA.cell (i := 1) rfl; have cB1 := kB.cell (i := 1) rfl; have cA2 := kA.cell (i := 2) rfl; have cB2 := kB.cell (i := 2) rfl; have cA3 := kA.cell (i := 3) rfl; have cB3 := kB.cell (i := 3) rfl; have cA4 := kA.cell (i := 4) rfl; have cB4 := kB.cell (i := 4) rfl; have cA5 := kA.cell (i := 5) rfl; have cB5 := kB.cell (i := 5) rfl) | ((with_reducible refine (g1.out _).mono ?_); rintro e w1 ⟨rfl, x1⟩; replace b0 := b0.trans (x1.mono b0.size); replace kA := kA.below x1 kA.lt; replace kB := kB.below x1 kB.lt; have cA0 := kA.cell (i := 0) rfl; have cB0 := kB.cell (i := 0) rfl; have cA1 := kA.cell (i := 1) rfl; have cB1 := kB.cell (i := 1) rfl; have cA2 := kA.cell (i := 2) rfl; have cB2 := kB.cell (i := 2) rfl; have cA3 := kA.cell (i := 3) rfl; have cB3 := kB.cell (i := 3) rfl; have cA4 := kA.cell (i := 4) rfl; have cB4 := kB.cell (i := 4) rfl; have cA5 := kA.cell (i := 5) rfl; have cB5 := kB.cell (i := 5) rfl))
  go_ret
  exact ⟨rfl, b0⟩
set_option maxRecDepth 100000 in
theorem opd_one20 {A B : On} (h0 : TellsB 36 A true) (h1 : TellsB 41 B true) : OpdB 20 A B true := by
  intro w
  have g0 := Lib.hid h0
  have g1 := Lib.hid h1
  clear h0 h1
  have kA := (Blk.new w 26 (op6 A)).alloc (.cells (op6 B) 26)
  have kB := Blk.new (w.alloc (.cells (op6 A) 26)) 26 (op6 B)
  have b0 := ((Below.refl w.heap.size w).alloc (Nat.le_refl _) (.cells (op6 A) 26)).alloc (by simp) (.cells (op6 B) 26)
  rw [show (w.alloc (.cells (op6 A) 26)).heap.size = w.heap.size + 1 by simp] at kB
  go_enter Tryd.func28, Tryd.ntmps28
  go_wp2_with (first | ((with_reducible refine (g0.out _).mono ?_); rintro e w0 ⟨rfl, x0⟩; replace b0 := b0.trans (x0.mono b0.size); replace kA := kA.below x0 kA.lt; replace kB := kB.below x0 kB.lt; have cA0 := kA.cell (i := 0) rfl; have cB0 := kB.cell (i := 0) rfl; have cA1 := kA.cell (i := 1) rfl; have cB1 := kB.cell (i := 1) rfl; have cA2 := kA.cell (i := 2) rfl; have cB2 := kB.cell (i := 2) rfl; have cA3 := kA.cell (i := 3) rfl; have cB3 := kB.cell (i := 3) rfl; have cA4 := kA.cell (i := 4) rfl; have cB4 := kB.cell (i := 4) rfl; have cA5 := kA.cell (i := 5) rfl; have cB5 := kB.cell (i := 5) rfl) | ((with_reducible refine (g1.out _).mono ?_); rintro e w1 ⟨rfl, x1⟩; replace b0 := b0.trans (x1.mono b0.size); replace kA := kA.below x1 kA.lt; replace kB := kB.below x1 kB.lt; have cA0 := kA.cell (i := 0) rfl; have cB0 := kB.cell (i := 0) rfl; have cA1 := kA.cell (i := 1) rfl; have cB1 := kB.cell (i := 1) rfl; have cA2 := kA.cell (i := 2) rfl; have cB2 := kB.cell (i := 2) rfl; have cA3 := kA.cell (i := 3) rfl; have cB3 := kB.cell (i := 3) rfl; have cA4 := kA.cell (i := 4) rfl; have cB4 := kB.cell (i := 4) rfl; have cA5 := kA.cell (i := 5) rfl; have cB5 := kB.cell (i := 5) rfl))
  go_ret
  exact ⟨rfl, b0⟩
set_option maxRecDepth 100000 in
theorem opd_one34 {A B : On} (h0 : TellsB 36 A true) (h1 : TellsB 41 B true) : OpdB 34 A B true := by
  intro w
  have g0 := Lib.hid h0
  have g1 := Lib.hid h1
  clear h0 h1
  have kA := (Blk.new w 26 (op6 A)).alloc (.cells (op6 B) 26)
  have kB := Blk.new (w.alloc (.cells (op6 A) 26)) 26 (op6 B)
  have b0 := ((Below.refl w.heap.size w).alloc (Nat.le_refl _) (.cells (op6 A) 26)).alloc (by simp) (.cells (op6 B) 26)
  rw [show (w.alloc (.cells (op6 A) 26)).heap.size = w.heap.size + 1 by simp] at kB
  go_enter Tryd.func28, Tryd.ntmps28
  go_wp2_with (first | ((with_reducible refine (g0.out _).mono ?_); rintro e w0 ⟨rfl, x0⟩; replace b0 := b0.trans (x0.mono b0.size); replace kA := kA.below x0 kA.lt; replace kB := kB.below x0 kB.lt; have cA0 := kA.cell (i := 0) rfl; have cB0 := kB.cell (i := 0) rfl; have cA1 := kA.cell (i := 1) rfl; have cB1 := kB.cell (i := 1) rfl; have cA2 := kA.cell (i := 2) rfl; have cB2 := kB.cell (i := 2) rfl; have cA3 := kA.cell (i := 3) rfl; have cB3 := kB.cell (i := 3) rfl; have cA4 := kA.cell (i := 4) rfl; have cB4 := kB.cell (i := 4) rfl; have cA5 := kA.cell (i := 5) rfl; have cB5 := kB.cell (i := 5) rfl) | ((with_reducible refine (g1.out _).mono ?_); rintro e w1 ⟨rfl, x1⟩; replace b0 := b0.trans (x1.mono b0.size); replace kA := kA.below x1 kA.lt; replace kB := kB.below x1 kB.lt; have cA0 := kA.cell (i := 0) rfl; have cB0 := kB.cell (i := 0) rfl; have cA1 := kA.cell (i := 1) rfl; have cB1 := kB.cell (i := 1) rfl; have cA2 := kA.cell (i := 2) rfl; have cB2 := kB.cell (i := 2) rfl; have cA3 := kA.cell (i := 3) rfl; have cB3 := kB.cell (i := 3) rfl; have cA4 := kA.cell (i := 4) rfl; have cB4 := kB.cell (i := 4) rfl; have cA5 := kA.cell (i := 5) rfl; have cB5 := kB.cell (i := 5) rfl))
  go_ret
  exact ⟨rfl, b0⟩
set_option maxRecDepth 100000 in
theorem opd_one28 {A B : On} (h0 : TellsB 36 A true) (h1 : TellsB 41 B true) : OpdB 28 A B true := by
  intro w
  have g0 := Lib.hid h0
  have g1 := Lib.hid h1
  clear h0 h1
  have kA := (Blk.new w 26 (op6 A)).alloc (.cells (op6 B) 26)
  have kB := Blk.new (w.alloc (.cells (op6 A) 26)) 26 (op6 B)
  have b0 := ((Below.refl w.heap.size w).alloc (Nat.le_refl _) (.cells (op6 A) 26)).alloc (by simp) (.cells (op6 B) 26)
  rw [show (w.alloc (.cells (op6 A) 26)).heap.size = w.heap.size + 1 by simp] at kB
  go_enter Tryd.func28, Tryd.ntmps28
  go_wp2_with (first | ((with_reducible refine (g0.out _).mono ?_); rintro e w0 ⟨rfl, x0⟩; replace b0 := b0.trans (x0.mono b0.size); replace kA := kA.below x0 kA.lt; replace kB := kB.below x0 kB.lt; have cA0 := kA.cell (i := 0) rfl; have cB0 := kB.cell (i := 0) rfl; have cA1 := kA.cell (i := 1) rfl; have cB1 := kB.cell (i := 1) rfl; have cA2 := kA.cell (i := 2) rfl; have cB2 := kB.cell (i := 2) rfl; have cA3 := kA.cell (i := 3) rfl; have cB3 := kB.cell (i := 3) rfl; have cA4 := kA.cell (i := 4) rfl; have cB4 := kB.cell (i := 4) rfl; have cA5 := kA.cell (i := 5) rfl; have cB5 := kB.cell (i := 5) rfl) | ((with_reducible refine (g1.out _).mono ?_); rintro e w1 ⟨rfl, x1⟩; replace b0 := b0.trans (x1.mono b0.size); replace kA := kA.below x1 kA.lt; replace kB := kB.below x1 kB.lt; have cA0 := kA.cell (i := 0) rfl; have cB0 := kB.cell (i := 0) rfl; have cA1 := kA.cell (i := 1) rfl; have cB1 := kB.cell (i := 1) rfl; have cA2 := kA.cell (i := 2) rfl; have cB2 := kB.cell (i := 2) rfl; have cA3 := kA.cell (i := 3) rfl; have cB3 := kB.cell (i := 3) rfl; have cA4 := kA.cell (i := 4) rfl; have cB4 := kB.cell (i := 4) rfl; have cA5 := kA.cell (i := 5) rfl; have cB5 := kB.cell (i := 5) rfl))
  go_ret
  exact ⟨rfl, b0⟩
set_option maxRecDepth 100000 in
theorem opd_one30 {A B : On} (h0 : TellsB 36 A true) (h1 : TellsB 41 B true) : OpdB 30 A B true := by
  intro w
  have g0 := Lib.hid h0
  have g1 := Lib.hid h1
  clear h0 h1
  have kA := (Blk.new w 26 (op6 A)).alloc (.cells (op6 B) 26)
  have kB := Blk.new (w.alloc (.cells (op6 A) 26)) 26 (op6 B)
  have b0 := ((Below.refl w.heap.size w).alloc (Nat.le_refl _) (.cells (op6 A) 26)).alloc (by simp) (.cells (op6 B) 26)
  rw [show (w.alloc (.cells (op6 A) 26)).heap.size = w.heap.size + 1 by simp] at kB
  go_enter Tryd.func28, Tryd.ntmps28
  go_wp2_with (first | ((with_reducible refine (g0.out _).mono ?_); rintro e w0 ⟨rfl, x0⟩; replace b0 := b0.trans (x0.mono b0.size); replace kA := kA.below x0 kA.lt; replace kB := kB.below x0 kB.lt; have cA0 := kA.cell (i := 0) rfl; have cB0 := kB.cell (i := 0) rfl; have cA1 := kA.cell (i := 1) rfl; have cB1 := kB.cell (i := 1) rfl; have cA2 := kA.cell (i := 2) rfl; have cB2 := kB.cell (i := 2) rfl; have cA3 := kA.cell (i := 3) rfl; have cB3 := kB.cell (i := 3) rfl; have cA4 := kA.cell (i := 4) rfl; have cB4 := kB.cell (i := 4) rfl; have cA5 := kA.cell (i := 5) rfl; have cB5 := kB.cell (i := 5) rfl) | ((with_reducible refine (g1.out _).mono ?_); rintro e w1 ⟨rfl, x1⟩; replace b0 := b0.trans (x1.mono b0.size); replace kA := kA.below x1 kA.lt; replace kB := kB.below x1 kB.lt; have cA0 := kA.cell (i := 0) rfl; have cB0 := kB.cell (i := 0) rfl; have cA1 := kA.cell (i := 1) rfl; have cB1 := kB.cell (i := 1) rfl; have cA2 := kA.cell (i := 2) rfl; have cB2 := kB.cell (i := 2) rfl; have cA3 := kA.cell (i := 3) rfl; have cB3 := kB.cell (i := 3) rfl; have cA4 := kA.cell (i := 4) rfl; have cB4 := kB.cell (i := 4) rfl; have cA5 := kA.cell (i := 5) rfl; have cB5 := kB.cell (i := 5) rfl))
  go_ret
  exact ⟨rfl, b0⟩
set_option maxRecDepth 100000 in
theorem opd_one32 {A B : On} (h0 : TellsB 36 A true) (h1 : TellsB 41 B true) : OpdB 32 A B true := by
  intro w
  have g0 := Lib.hid h0
  have g1 := Lib.hid h1
  clear h0 h1
  have kA := (Blk.new w 26 (op6 A)).alloc (.cells (op6 B) 26)
  have kB := Blk.new (w.alloc (.cells (op6 A) 26)) 26 (op6 B)
  have b0 := ((Below.refl w.heap.size w).alloc (Nat.le_refl _) (.cells (op6 A) 26)).alloc (by simp) (.cells (op6 B) 26)
  rw [show (w.alloc (.cells (op6 A) 26)).heap.size = w.heap.size + 1 by simp] at kB
  go_enter Tryd.func28, Tryd.ntmps28
  go_wp2_with (first | ((with_reducible refine (g0.out _).mono ?_); rintro e w0 ⟨rfl, x0⟩; replace b0 := b0.trans (x0.mono b0.size); replace kA := kA.below x0 kA.lt; replace kB := kB.below x0 kB.lt; have cA0 := kA.cell (i := 0) rfl; have cB0 := kB.cell (i := 0) rfl; have cA1 := kA.cell (i := 1) rfl; have cB1 := kB.cell (i := 1) rfl; have cA2 := kA.cell (i := 2) rfl; have cB2 := kB.cell (i := 2) rfl; have cA3 := kA.cell (i := 3) rfl; have cB3 := kB.cell (i := 3) rfl; have cA4 := kA.cell (i := 4) rfl; have cB4 := kB.cell (i := 4) rfl; have cA5 := kA.cell (i := 5) rfl; have cB5 := kB.cell (i := 5) rfl) | ((with_reducible refine (g1.out _).mono ?_); rintro e w1 ⟨rfl, x1⟩; replace b0 := b0.trans (x1.mono b0.size); replace kA := kA.below x1 kA.lt; replace kB := kB.below x1 kB.lt; have cA0 := kA.cell (i := 0) rfl; have cB0 := kB.cell (i := 0) rfl; have cA1 := kA.cell (i := 1) rfl; have cB1 := kB.cell (i := 1) rfl; have cA2 := kA.cell (i := 2) rfl; have cB2 := kB.cell (i := 2) rfl; have cA3 := kA.cell (i := 3) rfl; have cB3 := kB.cell (i := 3) rfl; have cA4 := kA.cell (i := 4) rfl; have cB4 := kB.cell (i := 4) rfl; have cA5 := kA.cell (i := 5) rfl; have cB5 := kB.cell (i := 5) rfl))
  go_ret
  exact ⟨rfl, b0⟩
set_option maxRecDepth 100000 in
theorem opd_two18 {A B : On} (h0 : TellsB 37 A true) (h1 : TellsB 36 B true) : OpdB 18 A B true := by
  intro w
  have g0 := Lib.hid h0
  have g1 := Lib.hid h1
  clear h0 h1
  have kA := (Blk.new w 26 (op6 A)).alloc (.cells (op6 B) 26)
  have kB := Blk.new (w.alloc (.cells (op6 A) 26)) 26 (op6 B)
  have b0 := ((Below.refl w.heap.size w).alloc (Nat.le_refl _) (.cells (op6 A) 26)).alloc (by simp) (.cells (op6 B) 26)
  rw [show (w.alloc (.cells (op6 A) 26)).heap.size = w.heap.size + 1 by simp] at kB
  go_enter Tryd.func28, Tryd.ntmps28
  go_wp2_with (first | ((with_reducible refine (g0.out _).mono ?_); rintro e w0 ⟨rfl, x0⟩; replace b0 := b0.trans (x0.mono b0.size); replace kA := kA.below x0 kA.lt; replace kB := kB.below x0 kB.lt; have cA0 := kA.cell (i := 0) rfl; have cB0 := kB.cell (i := 0) rfl; have cA1 := kA.cell (i := 1) rfl; have cB1 := kB.cell (i := 1) rfl; have cA2 := kA.cell (i := 2) rfl; have cB2 := kB.cell (i := 2) rfl; have cA3 := kA.cell (i := 3) rfl; have cB3 := kB.cell (i := 3) rfl; have cA4 := kA.cell (i := 4) rfl; have cB4 := kB.cell (i := 4) rfl; have cA5 := kA.cell (i := 5) rfl; have cB5 := kB.cell (i := 5) rfl) | ((with_reducible refine (g1.out _).mono ?_); rintro e w1 ⟨rfl, x1⟩; replace b0 := b0.trans (x1.mono b0.size); replace kA := kA.below x1 kA.lt; replace kB := kB.below x1 kB.lt; have cA0 := kA.cell (i := 0) rfl; have cB0 := kB.cell (i := 0) rfl; have cA1 := kA.cell (i := 1) rfl; have cB1 := kB.cell (i := 1) rfl; have cA2 := kA.cell (i := 2) rfl; have cB2 := kB.cell (i := 2) rfl; have cA3 := kA.cell (i := 3) rfl; have cB3 := kB.cell (i := 3) rfl; have cA4 := kA.cell (i := 4) rfl; have cB4 := kB.cell (i := 4) rfl; have cA5 := kA.cell (i := 5) rfl; have cB5 := kB.cell (i := 5) rfl))
  go_ret
  exact ⟨rfl, b0⟩
set_option maxRecDepth 100000 in
theorem opd_two35 {A B : On} (h0 : TellsB 37 A true) (h1 : TellsB 36 B true) : OpdB 35 A B true := by
  intro w
  have g0 := Lib.hid h0
  have g1 := Lib.hid h1
  clear h0 h1
  have kA := (Blk.new w 26 (op6 A)).alloc (.cells (op6 B) 26)
  have kB := Blk.new (w.alloc (.cells (op6 A) 26)) 26 (op6 B)
  have b0 := ((Below.refl w.heap.size w).alloc (Nat.le_refl _) (.cells (op6 A) 26)).alloc (by simp) (.cells (op6 B) 26)
  rw [show (w.alloc (.cells (op6 A) 26)).heap.size = w.heap.size + 1 by simp] at kB
  go_enter Tryd.func28, Tryd.ntmps28
  go_wp2_with (first | ((with_reducible refine (g0.out _).mono ?_); rintro e w0 ⟨rfl, x0⟩; replace b0 := b0.trans (x0.mono b0.size); replace kA := kA.below x0 kA.lt; replace kB := kB.below x0 kB.lt; have cA0 := kA.cell (i := 0) rfl; have cB0 := kB.cell (i := 0) rfl; have cA1 := kA.cell (i := 1) rfl; have cB1 := kB.cell (i := 1) rfl; have cA2 := kA.cell (i := 2) rfl; have cB2 := kB.cell (i := 2) rfl; have cA3 := kA.cell (i := 3) rfl; have cB3 := kB.cell (i := 3) rfl; have cA4 := kA.cell (i := 4) rfl; have cB4 := kB.cell (i := 4) rfl; have cA5 := kA.cell (i := 5) rfl; have cB5 := kB.cell (i := 5) rfl) | ((with_reducible refine (g1.out _).mono ?_); rintro e w1 ⟨rfl, x1⟩; replace b0 := b0.trans (x1.mono b0.size); replace kA := kA.below x1 kA.lt; replace kB := kB.below x1 kB.lt; have cA0 := kA.cell (i := 0) rfl; have cB0 := kB.cell (i := 0) rfl; have cA1 := kA.cell (i := 1) rfl; have cB1 := kB.cell (i := 1) rfl; have cA2 := kA.cell (i := 2) rfl; have cB2 := kB.cell (i := 2) rfl; have cA3 := kA.cell (i := 3) rfl; have cB3 := kB.cell (i := 3) rfl; have cA4 := kA.cell (i := 4) rfl; have cB4 := kB.cell (i := 4) rfl; have cA5 := kA.cell (i := 5) rfl; have cB5 := kB.cell (i := 5) rfl))
  go_ret
  exact ⟨rfl, b0⟩
set_option maxRecDepth 100000 in
theorem opd_two36 {A B : On} (h0 : TellsB 37 A true) (h1 : TellsB 36 B true) : OpdB 36 A B true := by
  intro w
  have g0 := Lib.hid h0
  have g1 := Lib.hid h1
  clear h0 h1
  have kA := (Blk.new w 26 (op6 A)).alloc (.cells (op6 B) 26)
  have kB := Blk.new (w.alloc (.cells (op6 A) 26)) 26 (op6 B)
  have b0 := ((Below.refl w.heap.size w).alloc (Nat.le_refl _) (.cells (op6 A) 26)).alloc (by simp) (.cells (op6 B) 26)
  rw [show (w.alloc (.cells (op6 A) 26)).heap.size = w.heap.size + 1 by simp] at kB
  go_enter Tryd.func28, Tryd.ntmps28
  go_wp2_with (first | ((with_reducible refine (g0.out _).mono ?_); rintro e w0 ⟨rfl, x0⟩; replace b0 := b0.trans (x0.mono b0.size); replace kA := kA.below x0 kA.lt; replace kB := kB.below x0 kB.lt; have cA0 := kA.cell (i := 0) rfl; have cB0 := kB.cell (i := 0) rfl; have cA1 := kA.cell (i := 1) rfl; have cB1 := kB.cell (i := 1) rfl; have cA2 := kA.cell (i := 2) rfl; have cB2 := kB.cell (i := 2) rfl; have cA3 := kA.cell (i := 3) rfl; have cB3 := kB.cell (i := 3) rfl; have cA4 := kA.cell (i := 4) rfl; have cB4 := kB.cell (i := 4) rfl; have cA5 := kA.cell (i := 5) rfl; have cB5 := kB.cell (i := 5) rfl) | ((with_reducible refine (g1.out _).mono ?_); rintro e w1 ⟨rfl, x1⟩; replace b0 := b0.trans (x1.mono b0.size); replace kA := kA.below x1 kA.lt; replace kB := kB.below x1 kB.lt; have cA0 := kA.cell (i := 0) rfl; have cB0 := kB.cell (i := 0) rfl; have cA1 := kA.cell (i := 1) rfl; have cB1 := kB.cell (i := 1) rfl; have cA2 := kA.cell (i := 2) rfl; have cB2 := kB.cell (i := 2) rfl; have cA3 := kA.cell (i := 3) rfl; have cB3 := kB.cell (i := 3) rfl; have cA4 := kA.cell (i := 4) rfl; have cB4 := kB.cell (i := 4) rfl; have cA5 := kA.cell (i := 5) rfl; have cB5 := kB.cell (i := 5) rfl))
  go_ret
  exact ⟨rfl, b0⟩
set_option maxRecDepth 100000 in
theorem opd_two37 {A B : On} (h0 : TellsB 37 A true) (h1 : TellsB 36 B true) : OpdB 37 A B true := by
  intro w
  have g0 := Lib.hid h0
  have g1 := Lib.hid h1
  clear h0 h1
  have kA := (Blk.new w 26 (op6 A)).alloc (.cells (op6 B) 26)
  have kB := Blk.new (w.alloc (.cells (op6 A) 26)) 26 (op6 B)
  have b0 := ((Below.refl w.heap.size w).alloc (Nat.le_refl _) (.cells (op6 A) 26)).alloc (by simp) (.cells (op6 B) 26)
  rw [show (w.alloc (.cells (op6 A) 26)).heap.size = w.heap.size + 1 by simp] at kB
  go_enter Tryd.func28, Tryd.ntmps28
  go_wp2_with (first | ((with_reducible refine (g0.out _).mono ?_); rintro e w0 ⟨rfl, x0⟩; replace b0 := b0.trans (x0.mono b0.size); replace kA := kA.below x0 kA.lt; replace kB := kB.below x0 kB.lt; have cA0 := kA.cell (i := 0) rfl; have cB0 := kB.cell (i := 0) rfl; have cA1 := kA.cell (i := 1) rfl; have cB1 := kB.cell (i := 1) rfl; have cA2 := kA.cell (i := 2) rfl; have cB2 := kB.cell (i := 2) rfl; have cA3 := kA.cell (i := 3) rfl; have cB3 := kB.cell (i := 3) rfl; have cA4 := kA.cell (i := 4) rfl; have cB4 := kB.cell (i := 4) rfl; have cA5 := kA.cell (i := 5) rfl; have cB5 := kB.cell (i := 5) rfl) | ((with_reducible refine (g1.out _).mono ?_); rintro e w1 ⟨rfl, x1⟩; replace b0 := b0.trans (x1.mono b0.size); replace kA := kA.below x1 kA.lt; replace kB := kB.below x1 kB.lt; have cA0 := kA.cell (i := 0) rfl; have cB0 := kB.cell (i := 0) rfl; have cA1 := kA.cell (i := 1) rfl; have cB1 := kB.cell (i := 1) rfl; have cA2 := kA.cell (i := 2) rfl; have cB2 := kB.cell (i := 2) rfl; have cA3 := kA.cell (i := 3) rfl; have cB3 := kB.cell (i := 3) rfl; have cA4 := kA.cell (i := 4) rfl; have cB4 := kB.cell (i := 4) rfl; have cA5 := kA.cell (i := 5) rfl; have cB5 := kB.cell (i := 5) rfl))
  go_ret
  exact ⟨rfl, b0⟩
set_option maxRecDepth 100000 in
theorem opd_sh21_i {A B : On} (h0 : TellsB 36 A true) (h1 : TellsB 40 B true) : OpdB 21 A B true := by
  intro w
  have g0 := Lib.hid h0
  have g1 := Lib.hid h1
  clear h0 h1
  have kA := (Blk.new w 26 (op6 A)).alloc (.cells (op6 B) 26)
  have kB := Blk.new (w.alloc (.cells (op6 A) 26)) 26 (op6 B)
  have b0 := ((Below.refl w.heap.size w).alloc (Nat.le_refl _) (.cells (op6 A) 26)).alloc (by simp) (.cells (op6 B) 26)
  rw [show (w.alloc (.cells (op6 A) 26)).heap.size = w.heap.size + 1 by simp] at kB
  go_enter Tryd.func28, Tryd.ntmps28
  go_wp2_with (first | ((with_reducible refine (g0.out _).mono ?_); rintro e w0 ⟨rfl, x0⟩; replace b0 := b0.trans (x0.mono b0.size); replace kA := kA.below x0 kA.lt; replace kB := kB.below x0 kB.lt; have cA0 := kA.cell (i := 0) rfl; have cB0 := kB.cell (i := 0) rfl; have cA1 := kA.cell (i := 1) rfl; have cB1 := kB.cell (i := 1) rfl; have cA2 := kA.cell (i := 2) rfl; have cB2 := kB.cell (i := 2) rfl; have cA3 := kA.cell (i := 3) rfl; have cB3 := kB.cell (i := 3) rfl; have cA4 := kA.cell (i := 4) rfl; have cB4 := kB.cell (i := 4) rfl; have cA5 := kA.cell (i := 5) rfl; have cB5 := kB.cell (i := 5) rfl) | ((with_reducible refine (g1.out _).mono ?_); rintro e w1 ⟨rfl, x1⟩; replace b0 := b0.trans (x1.mono b0.size); replace kA := kA.below x1 kA.lt; replace kB := kB.below x1 kB.lt; have cA0 := kA.cell (i := 0) rfl; have cB0 := kB.cell (i := 0) rfl; have cA1 := kA.cell (i := 1) rfl; have cB1 := kB.cell (i := 1) rfl; have cA2 := kA.cell (i := 2) rfl; have cB2 := kB.cell (i := 2) rfl; have cA3 := kA.cell (i := 3) rfl; have cB3 := kB.cell (i := 3) rfl; have cA4 := kA.cell (i := 4) rfl; have cB4 := kB.cell (i := 4) rfl; have cA5 := kA.cell (i := 5) rfl; have cB5 := kB.cell (i := 5) rfl))
  go_ret
  exact ⟨rfl, b0⟩
set_option maxRecDepth 100000 in
theorem opd_sh22_i {A B : On} (h0 : TellsB 36 A true) (h1 : TellsB 40 B true) : OpdB 22 A B true := by
  intro w
  have g0 := Lib.hid h0
  have g1 := Lib.hid h1
  clear h0 h1
  have kA := (Blk.new w 26 (op6 A)).alloc (.cells (op6 B) 26)
  have kB := Blk.new (w.alloc (.cells (op6 A) 26)) 26 (op6 B)
  have b0 := ((Below.refl w.heap.size w).alloc (Nat.le_refl _) (.cells (op6 A) 26)).alloc (by simp) (.cells (op6 B) 26)
  rw [show (w.alloc (.cells (op6 A) 26)).heap.size = w.heap.size + 1 by simp] at kB
  go_enter Tryd.func28, Tryd.ntmps28
  go_wp2_with (first | ((with_reducible refine (g0.out _).mono ?_); rintro e w0 ⟨rfl, x0⟩; replace b0 := b0.trans (x0.mono b0.size); replace kA := kA.below x0 kA.lt; replace kB := kB.below x0 kB.lt; have cA0 := kA.cell (i := 0) rfl; have cB0 := kB.cell (i := 0) rfl; have cA1 := kA.cell (i := 1) rfl; have cB1 := kB.cell (i := 1) rfl; have cA2 := kA.cell (i := 2) rfl; have cB2 := kB.cell (i := 2) rfl; have cA3 := kA.cell (i := 3) rfl; have cB3 := kB.cell (i := 3) rfl; have cA4 := kA.cell (i := 4) rfl; have cB4 := kB.cell (i := 4) rfl; have cA5 := kA.cell (i := 5) rfl; have cB5 := kB.cell (i := 5) rfl) | ((with_reducible refine (g1.out _).mono ?_); rintro e w1 ⟨rfl, x1⟩; replace b0 := b0.trans (x1.mono b0.size); replace kA := kA.below x1 kA.lt; replace kB := kB.below x1 kB.lt; have cA0 := kA.cell (i := 0) rfl; have cB0 := kB.cell (i := 0) rfl; have cA1 := kA.cell (i := 1) rfl; have cB1 := kB.cell (i := 1) rfl; have cA2 := kA.cell (i := 2) rfl; have cB2 := kB.cell (i := 2) rfl; have cA3 := kA.cell (i := 3) rfl; have cB3 := kB.cell (i := 3) rfl; have cA4 := kA.cell (i := 4) rfl; have cB4 := kB.cell (i := 4) rfl; have cA5 := kA.cell (i := 5) rfl; have cB5 := kB.cell (i := 5) rfl))
  go_ret
  exact ⟨rfl, b0⟩
set_option maxRecDepth 100000 in
theorem opd_sh23_i {A B : On} (h0 : TellsB 36 A true) (h1 : TellsB 40 B true) : OpdB 23 A B true := by
  intro w
  have g0 := Lib.hid h0
  have g1 := Lib.hid h1
  clear h0 h1
  have kA := (Blk.new w 26 (op6 A)).alloc (.cells (op6 B) 26)
  have kB := Blk.new (w.alloc (.cells (op6 A) 26)) 26 (op6 B)
  have b0 := ((Below.refl w.heap.size w).alloc (Nat.le_refl _) (.cells (op6 A) 26)).alloc (by simp) (.cells (op6 B) 26)
  rw [show (w.alloc (.cells (op6 A) 26)).heap.size = w.heap.size + 1 by simp] at kB
  go_enter Tryd.func28, Tryd.ntmps28
  go_wp2_with (first | ((with_reducible refine (g0.out _).mono ?_); rintro e w0 ⟨rfl, x0⟩; replace b0 := b0.trans (x0.mono b0.size); replace kA := kA.below x0 kA.lt; replace kB := kB.below x0 kB.lt; have cA0 := kA.cell (i := 0) rfl; have cB0 := kB.cell (i := 0) rfl; have cA1 := kA.cell (i := 1) rfl; have cB1 := kB.cell (i := 1) rfl; have cA2 := kA.cell (i := 2) rfl; have cB2 := kB.cell (i := 2) rfl; have cA3 := kA.cell (i := 3) rfl; have cB3 := kB.cell (i := 3) rfl; have cA4 := kA.cell (i := 4) rfl; have cB4 := kB.cell (i := 4) rfl; have cA5 := kA.cell (i := 5) rfl; have cB5 := kB.cell (i := 5) rfl) | ((with_reducible refine (g1.out _).mono ?_); rintro e w1 ⟨rfl, x1⟩; replace b0 := b0.trans (x1.mono b0.size); replace kA := kA.below x1 kA.lt; replace kB := kB.below x1 kB.lt; have cA0 := kA.cell (i := 0) rfl; have cB0 := kB.cell (i := 0) rfl; have cA1 := kA.cell (i := 1) rfl; have cB1 := kB.cell (i := 1) rfl; have cA2 := kA.cell (i := 2) rfl; have cB2 := kB.cell (i := 2) rfl; have cA3 := kA.cell (i := 3) rfl; have cB3 := kB.cell (i := 3) rfl; have cA4 := kA.cell (i := 4) rfl; have cB4 := kB.cell (i := 4) rfl; have cA5 := kA.cell (i := 5) rfl; have cB5 := kB.cell (i := 5) rfl))
  go_ret
  exact ⟨rfl, b0⟩
set_option maxRecDepth 100000 in
theorem opd_sh24_i {A B : On} (h0 : TellsB 36 A true) (h1 : TellsB 40 B true) : OpdB 24 A B true := by
  intro w
  have g0 := Lib.hid h0
  have g1 := Lib.hid h1
  clear h0 h1
  have kA := (Blk.new w 26 (op6 A)).alloc (.cells (op6 B) 26)
  have kB := Blk.new (w.alloc (.cells (op6 A) 26)) 26 (op6 B)
  have b0 := ((Below.refl w.heap.size w).alloc (Nat.le_refl _) (.cells (op6 A) 26)).alloc (by simp) (.cells (op6 B) 26)
  rw [show (w.alloc (.cells (op6 A) 26)).heap.size = w.heap.size + 1 by simp] at kB
  go_enter Tryd.func28, Tryd.ntmps28
  go_wp2_with (first | ((with_reducible refine (g0.out _).mono ?_); rintro e w0 ⟨rfl, x0⟩; replace b0 := b0.trans (x0.mono b0.size); replace kA := kA.below x0 kA.lt; replace kB := kB.below x0 kB.lt; have cA0 := kA.cell (i := 0) rfl; have cB0 := kB.cell (i := 0) rfl; have cA1 := kA.cell (i := 1) rfl; have cB1 := kB.cell (i := 1) rfl; have cA2 := kA.cell (i := 2) rfl; have cB2 := kB.cell (i := 2) rfl; have cA3 := kA.cell (i := 3) rfl; have cB3 := kB.cell (i := 3) rfl; have cA4 := kA.cell (i := 4) rfl; have cB4 := kB.cell (i := 4) rfl; have cA5 := kA.cell (i := 5) rfl; have cB5 := kB.cell (i := 5) rfl) | ((with_reducible refine (g1.out _).mono ?_); rintro e w1 ⟨rfl, x1⟩; replace b0 := b0.trans (x1.mono b0.size); replace kA := kA.below x1 kA.lt; replace kB := kB.below x1 kB.lt; have cA0 := kA.cell (i := 0) rfl; have cB0 := kB.cell (i := 0) rfl; have cA1 := kA.cell (i := 1) rfl; have cB1 := kB.cell (i := 1) rfl; have cA2 := kA.cell (i := 2) rfl; have cB2 := kB.cell (i := 2) rfl; have cA3 := kA.cell (i := 3) rfl; have cB3 := kB.cell (i := 3) rfl; have cA4 := kA.cell (i := 4) rfl; have cB4 := kB.cell (i := 4) rfl; have cA5 := kA.cell (i := 5) rfl; have cB5 := kB.cell (i := 5) rfl))
  go_ret
  exact ⟨rfl, b0⟩
set_option maxRecDepth 100000 in
theorem opd_sh25_i {A B : On} (h0 : TellsB 36 A true) (h1 : TellsB 40 B true) : OpdB 25 A B true := by
  intro w
  have g0 := Lib.hid h0
  have g1 := Lib.hid h1
  clear h0 h1
  have kA := (Blk.new w 26 (op6 A)).alloc (.cells (op6 B) 26)
  have kB := Blk.new (w.alloc (.cells (op6 A) 26)) 26 (op6 B)
  have b0 := ((Below.refl w.heap.size w).alloc (Nat.le_refl _) (.cells (op6 A) 26)).alloc (by simp) (.cells (op6 B) 26)
  rw [show (w.alloc (.cells (op6 A) 26)).heap.size = w.heap.size + 1 by simp] at kB
  go_enter Tryd.func28, Tryd.ntmps28
  go_wp2_with (first | ((with_reducible refine (g0.out _).mono ?_); rintro e w0 ⟨rfl, x0⟩; replace b0 := b0.trans (x0.mono b0.size); replace kA := kA.below x0 kA.lt; replace kB := kB.below x0 kB.lt; have cA0 := kA.cell (i := 0) rfl; have cB0 := kB.cell (i := 0) rfl; have cA1 := kA.cell (i := 1) rfl; have cB1 := kB.cell (i := 1) rfl; have cA2 := kA.cell (i := 2) rfl; have cB2 := kB.cell (i := 2) rfl; have cA3 := kA.cell (i := 3) rfl; have cB3 := kB.cell (i := 3) rfl; have cA4 := kA.cell (i := 4) rfl; have cB4 := kB.cell (i := 4) rfl; have cA5 := kA.cell (i := 5) rfl; have cB5 := kB.cell (i := 5) rfl) | ((with_reducible refine (g1.out _).mono ?_); rintro e w1 ⟨rfl, x1⟩; replace b0 := b0.trans (x1.mono b0.size); replace kA := kA.below x1 kA.lt; replace kB := kB.below x1 kB.lt; have cA0 := kA.cell (i := 0) rfl; have cB0 := kB.cell (i := 0) rfl; have cA1 := kA.cell (i := 1) rfl; have cB1 := kB.cell (i := 1) rfl; have cA2 := kA.cell (i := 2) rfl; have cB2 := kB.cell (i := 2) rfl; have cA3 := kA.cell (i := 3) rfl; have cB3 := kB.cell (i := 3) rfl; have cA4 := kA.cell (i := 4) rfl; have cB4 := kB.cell (i := 4) rfl; have cA5 := kA.cell (i := 5) rfl; have cB5 := kB.cell (i := 5) rfl))
  go_ret
  exact ⟨rfl, b0⟩
set_option maxRecDepth 100000 in
theorem opd_sh21_r {A B : On} {u : Bool} (hr : (B.r == 1) = u) (h0 : TellsB 36 A true) (h1 : TellsB 40 B false) (h2 : TellsB 37 B true) : OpdB 21 A B u := by
  intro w
  have g0 := Lib.hid h0
  have g1 := Lib.hid h1
  have g2 := Lib.hid h2
  clear h0 h1 h2
  have kA := (Blk.new w 26 (op6 A)).alloc (.cells (op6 B) 26)
  have kB := Blk.new (w.alloc (.cells (op6 A) 26)) 26 (op6 B)
  have b0 := ((Below.refl w.heap.size w).alloc (Nat.le_refl _) (.cells (op6 A) 26)).alloc (by simp) (.cells (op6 B) 26)
  rw [show (w.alloc (.cells (op6 A) 26)).heap.size = w.heap.size + 1 by simp] at kB
  go_enter Tryd.func28, Tryd.ntmps28
  go_wp2_with (first | ((with_reducible refine (g0.out _).mono ?_); rintro e w0 ⟨rfl, x0⟩; replace b0 := b0.trans (x0.mono b0.size); replace kA := kA.below x0 kA.lt; replace kB := kB.below x0 kB.lt; have cA0 := kA.cell (i := 0) rfl; have cB0 := kB.cell (i := 0) rfl; have cA1 := kA.cell (i := 1) rfl; have cB1 := kB.cell (i := 1) rfl; have cA2 := kA.cell (i := 2) rfl; have cB2 := kB.cell (i := 2) rfl; have cA3 := kA.cell (i := 3) rfl; have cB3 := kB.cell (i := 3) rfl; have cA4 := kA.cell (i := 4) rfl; have cB4 := kB.cell (i := 4) rfl; have cA5 := kA.cell (i := 5) rfl; have cB5 := kB.cell (i := 5) rfl) | ((with_reducible refine (g1.out _).mono ?_); rintro e w1 ⟨rfl, x1⟩; replace b0 := b0.trans (x1.mono b0.size); replace kA := kA.below x1 kA.lt; replace kB := kB.below x1 kB.lt; have cA0 := kA.cell (i := 0) rfl; have cB0 := kB.cell (i := 0) rfl; have cA1 := kA.cell (i := 1) rfl; have cB1 := kB.cell (i := 1) rfl; have cA2 := kA.cell (i := 2) rfl; have cB2 := kB.cell (i := 2) rfl; have cA3 := kA.cell (i := 3) rfl; have cB3 := kB.cell (i := 3) rfl; have cA4 := kA.cell (i := 4) rfl; have cB4 := kB.cell (i := 4) rfl; have cA5 := kA.cell (i := 5) rfl; have cB5 := kB.cell (i := 5) rfl) | ((with_reducible refine (g2.out _).mono ?_); rintro e w2 ⟨rfl, x2⟩; replace b0 := b0.trans (x2.mono b0.size); replace kA := kA.below x2 kA.lt; replace kB := kB.below x2 kB.lt; have cA0 := kA.cell (i := 0) rfl; have cB0 := kB.cell (i := 0) rfl; have cA1 := kA.cell (i := 1) rfl; have cB1 := kB.cell (i := 1) rfl; have cA2 := kA.cell (i := 2) rfl; have cB2 := kB.cell (i := 2) rfl; have cA3 := kA.cell (i := 3) rfl; have cB3 := kB.cell (i := 3) rfl; have cA4 := kA.cell (i := 4) rfl; have cB4 := kB.cell (i := 4) rfl; have cA5 := kA.cell (i := 5) rfl; have cB5 := kB.cell (i := 5) rfl))
  go_ret
  exact ⟨rfl, b0⟩
set_option maxRecDepth 100000 in
theorem opd_sh22_r {A B : On} {u : Bool} (hr : (B.r == 1) = u) (h0 : TellsB 36 A true) (h1 : TellsB 40 B false) (h2 : TellsB 37 B true) : OpdB 22 A B u := by
  intro w
  have g0 := Lib.hid h0
  have g1 := Lib.hid h1
  have g2 := Lib.hid h2
  clear h0 h1 h2
  have kA := (Blk.new w 26 (op6 A)).alloc (.cells (op6 B) 26)
  have kB := Blk.new (w.alloc (.cells (op6 A) 26)) 26 (op6 B)
  have b0 := ((Below.refl w.heap.size w).alloc (Nat.le_refl _) (.cells (op6 A) 26)).alloc (by simp) (.cells (op6 B) 26)
  rw [show (w.alloc (.cells (op6 A) 26)).heap.size = w.heap.size + 1 by simp] at kB
  go_enter Tryd.func28, Tryd.ntmps28
  go_wp2_with (first | ((with_reducible refine (g0.out _).mono ?_); rintro e w0 ⟨rfl, x0⟩; replace b0 := b0.trans (x0.mono b0.size); replace kA := kA.below x0 kA.lt; replace kB := kB.below x0 kB.lt; have cA0 := kA.cell (i := 0) rfl; have cB0 := kB.cell (i := 0) rfl; have cA1 := kA.cell (i := 1) rfl; have cB1 := kB.cell (i := 1) rfl; have cA2 := kA.cell (i := 2) rfl; have cB2 := kB.cell (i := 2) rfl; have cA3 := kA.cell (i := 3) rfl; have cB3 := kB.cell (i := 3) rfl; have cA4 := kA.cell (i := 4) rfl; have cB4 := kB.cell (i := 4) rfl; have cA5 := kA.cell (i := 5) rfl; have cB5 := kB.cell (i := 5) rfl) | ((with_reducible refine (g1.out _).mono ?_); rintro e w1 ⟨rfl, x1⟩; replace b0 := b0.trans (x1.mono b0.size); replace kA := kA.below x1 kA.lt; replace kB := kB.below x1 kB.lt; have cA0 := kA.cell (i := 0) rfl; have cB0 := kB.cell (i := 0) rfl; have cA1 := kA.cell (i := 1) rfl; have cB1 := kB.cell (i := 1) rfl; have cA2 := kA.cell (i := 2) rfl; have cB2 := kB.cell (i := 2) rfl; have cA3 := kA.cell (i := 3) rfl; have cB3 := kB.cell (i := 3) rfl; have cA4 := kA.cell (i := 4) rfl; have cB4 := kB.cell (i := 4) rfl; have cA5 := kA.cell (i := 5) rfl; have cB5 := kB.cell (i := 5) rfl) | ((with_reducible refine (g2.out _).mono ?_); rintro e w2 ⟨rfl, x2⟩; replace b0 := b0.trans (x2.mono b0.size); replace kA := kA.below x2 kA.lt; replace kB := kB.below x2 kB.lt; have cA0 := kA.cell (i := 0) rfl; have cB0 := kB.cell (i := 0) rfl; have cA1 := kA.cell (i := 1) rfl; have cB1 := kB.cell (i := 1) rfl; have cA2 := kA.cell (i := 2) rfl; have cB2 := kB.cell (i := 2) rfl; have cA3 := kA.cell (i := 3) rfl; have cB3 := kB.cell (i := 3) rfl; have cA4 := kA.cell (i := 4) rfl; have cB4 := kB.cell (i := 4) rfl; have cA5 := kA.cell (i := 5) rfl; have cB5 := kB.cell (i := 5) rfl))
  go_ret
  exact ⟨rfl, b0⟩
set_option maxRecDepth 100000 in
theorem opd_sh23_r {A B : On} {u : Bool} (hr : (B.r == 1) = u) (h0 : TellsB 36 A true) (h1 : TellsB 40 B false) (h2 : TellsB 37 B true) : OpdB 23 A B u := by
  intro w
  have g0 := Lib.hid h0
  have g1 := Lib.hid h1
  have g2 := Lib.hid h2
  clear h0 h1 h2
  have kA := (Blk.new w 26 (op6 A)).alloc (.cells (op6 B) 26)
  have kB := Blk.new (w.alloc (.cells (op6 A) 26)) 26 (op6 B)
  have b0 := ((Below.refl w.heap.size w).alloc (Nat.le_refl _) (.cells (op6 A) 26)).alloc (by simp) (.cells (op6 B) 26)
  rw [show (w.alloc (.cells (op6 A) 26)).heap.size = w.heap.size + 1 by simp] at kB
  go_enter Tryd.func28, Tryd.ntmps28
  go_wp2_with (first | ((with_reducible refine (g0.out _).mono ?_); rintro e w0 ⟨rfl, x0⟩; replace b0 := b0.trans (x0.mono b0.size); replace kA := kA.below x0 kA.lt; replace kB := kB.below x0 kB.lt; have cA0 := kA.cell (i := 0) rfl; have cB0 := kB.cell (i := 0) rfl; have cA1 := kA.cell (i := 1) rfl; have cB1 := kB.cell (i := 1) rfl; have cA2 := kA.cell (i := 2) rfl; have cB2 := kB.cell (i := 2) rfl; have cA3 := kA.cell (i := 3) rfl; have cB3 := kB.cell (i := 3) rfl; have cA4 := kA.cell (i := 4) rfl; have cB4 := kB.cell (i := 4) rfl; have cA5 := kA.cell (i := 5) rfl; have cB5 := kB.cell (i := 5) rfl) | ((with_reducible refine (g1.out _).mono ?_); rintro e w1 ⟨rfl, x1⟩; replace b0 := b0.trans (x1.mono b0.size); replace kA := kA.below x1 kA.lt; replace kB := kB.below x1 kB.lt; have cA0 := kA.cell (i := 0) rfl; have cB0 := kB.cell (i := 0) rfl; have cA1 := kA.cell (i := 1) rfl; have cB1 := kB.cell (i := 1) rfl; have cA2 := kA.cell (i := 2) rfl; have cB2 := kB.cell (i := 2) rfl; have cA3 := kA.cell (i := 3) rfl; have cB3 := kB.cell (i := 3) rfl; have cA4 := kA.cell (i := 4) rfl; have cB4 := kB.cell (i := 4) rfl; have cA5 := kA.cell (i := 5) rfl; have cB5 := kB.cell (i := 5) rfl) | ((with_reducible refine (g2.out _).mono ?_); rintro e w2 ⟨rfl, x2⟩; replace b0 := b0.trans (x2.mono b0.size); replace kA := kA.below x2 kA.lt; replace kB := kB.below x2 kB.lt; have cA0 := kA.cell (i := 0) rfl; have cB0 := kB.cell (i := 0) rfl; have cA1 := kA.cell (i := 1) rfl; have cB1 := kB.cell (i := 1) rfl; have cA2 := kA.cell (i := 2) rfl; have cB2 := kB.cell (i := 2) rfl; have cA3 := kA.cell (i := 3) rfl; have cB3 := kB.cell (i := 3) rfl; have cA4 := kA.cell (i := 4) rfl; have cB4 := kB.cell (i := 4) rfl; have cA5 := kA.cell (i := 5) rfl; have cB5 := kB.cell (i := 5) rfl))
  go_ret
  exact ⟨rfl, b0⟩
set_option maxRecDepth 100000 in
theorem opd_sh24_r {A B : On} {u : Bool} (hr : (B.r == 1) = u) (h0 : TellsB 36 A true) (h1 : TellsB 40 B false) (h2 : TellsB 37 B true) : OpdB 24 A B u := by
  intro w
  have g0 := Lib.hid h0
  have g1 := Lib.hid h1
  have g2 := Lib.hid h2
  clear h0 h1 h2
  have kA := (Blk.new w 26 (op6 A)).alloc (.cells (op6 B) 26)
  have kB := Blk.new (w.alloc (.cells (op6 A) 26)) 26 (op6 B)
  have b0 := ((Below.refl w.heap.size w).alloc (Nat.le_refl _) (.cells (op6 A) 26)).alloc (by simp) (.cells (op6 B) 26)
  rw [show (w.alloc (.cells (op6 A) 26)).heap.size = w.heap.size + 1 by simp] at kB
  go_enter Tryd.func28, Tryd.ntmps28
  go_wp2_with (first | ((with_reducible refine (g0.out _).mono ?_); rintro e w0 ⟨rfl, x0⟩; replace b0 := b0.trans (x0.mono b0.size); replace kA := kA.below x0 kA.lt; replace kB := kB.below x0 kB.lt; have cA0 := kA.cell (i := 0) rfl; have cB0 := kB.cell (i := 0) rfl; have cA1 := kA.cell (i := 1) rfl; have cB1 := kB.cell (i := 1) rfl; have cA2 := kA.cell (i := 2) rfl; have cB2 := kB.cell (i := 2) rfl; have cA3 := kA.cell (i := 3) rfl; have cB3 := kB.cell (i := 3) rfl; have cA4 := kA.cell (i := 4) rfl; have cB4 := kB.cell (i := 4) rfl; have cA5 := kA.cell (i := 5) rfl; have cB5 := kB.cell (i := 5) rfl) | ((with_reducible refine (g1.out _).mono ?_); rintro e w1 ⟨rfl, x1⟩; replace b0 := b0.trans (x1.mono b0.size); replace kA := kA.below x1 kA.lt; replace kB := kB.below x1 kB.lt; have cA0 := kA.cell (i := 0) rfl; have cB0 := kB.cell (i := 0) rfl; have cA1 := kA.cell (i := 1) rfl; have cB1 := kB.cell (i := 1) rfl; have cA2 := kA.cell (i := 2) rfl; have cB2 := kB.cell (i := 2) rfl; have cA3 := kA.cell (i := 3) rfl; have cB3 := kB.cell (i := 3) rfl; have cA4 := kA.cell (i := 4) rfl; have cB4 := kB.cell (i := 4) rfl; have cA5 := kA.cell (i := 5) rfl; have cB5 := kB.cell (i := 5) rfl) | ((with_reducible refine (g2.out _).mono ?_); rintro e w2 ⟨rfl, x2⟩; replace b0 := b0.trans (x2.mono b0.size); replace kA := kA.below x2 kA.lt; replace kB := kB.below x2 kB.lt; have cA0 := kA.cell (i := 0) rfl; have cB0 := kB.cell (i := 0) rfl; have cA1 := kA.cell (i := 1) rfl; have cB1 := kB.cell (i := 1) rfl; have cA2 := kA.cell (i := 2) rfl; have cB2 := kB.cell (i := 2) rfl; have cA3 := kA.cell (i := 3) rfl; have cB3 := kB.cell (i := 3) rfl; have cA4 := kA.cell (i := 4) rfl; have cB4 := kB.cell (i := 4) rfl; have cA5 := kA.cell (i := 5) rfl; have cB5 := kB.cell (i := 5) rfl))
  go_ret
  exact ⟨rfl, b0⟩
set_option maxRecDepth 100000 in
theorem opd_sh25_r {A B : On} {u : Bool} (hr : (B.r == 1) = u) (h0 : TellsB 36 A true) (h1 : TellsB 40 B false) (h2 : TellsB 37 B true) : OpdB 25 A B u := by
  intro w
  have g0 := Lib.hid h0
  have g1 := Lib.hid h1
  have g2 := Lib.hid h2
  clear h0 h1 h2
  have kA := (Blk.new w 26 (op6 A)).alloc (.cells (op6 B) 26)
  have kB := Blk.new (w.alloc (.cells (op6 A) 26)) 26 (op6 B)
  have b0 := ((Below.refl w.heap.size w).alloc (Nat.le_refl _) (.cells (op6 A) 26)).alloc (by simp) (.cells (op6 B) 26)
  rw [show (w.alloc (.cells (op6 A) 26)).heap.size = w.heap.size + 1 by simp] at kB
  go_enter Tryd.func28, Tryd.ntmps28
  go_wp2_with (first | ((with_reducible refine (g0.out _).mono ?_); rintro e w0 ⟨rfl, x0⟩; replace b0 := b0.trans (x0.mono b0.size); replace kA := kA.below x0 kA.lt; replace kB := kB.below x0 kB.lt; have cA0 := kA.cell (i := 0) rfl; have cB0 := kB.cell (i := 0) rfl; have cA1 := kA.cell (i := 1) rfl; have cB1 := kB.cell (i := 1) rfl; have cA2 := kA.cell (i := 2) rfl; have cB2 := kB.cell (i := 2) rfl; have cA3 := kA.cell (i := 3) rfl; have cB3 := kB.cell (i := 3) rfl; have cA4 := kA.cell (i := 4) rfl; have cB4 := kB.cell (i := 4) rfl; have cA5 := kA.cell (i := 5) rfl; have cB5 := kB.cell (i := 5) rfl) | ((with_reducible refine (g1.out _).mono ?_); rintro e w1 ⟨rfl, x1⟩; replace b0 := b0.trans (x1.mono b0.size); replace kA := kA.below x1 kA.lt; replace kB := kB.below x1 kB.lt; have cA0 := kA.cell (i := 0) rfl; have cB0 := kB.cell (i := 0) rfl; have cA1 := kA.cell (i := 1) rfl; have cB1 := kB.cell (i := 1) rfl; have cA2 := kA.cell (i := 2) rfl; have cB2 := kB.cell (i := 2) rfl; have cA3 := kA.cell (i := 3) rfl; have cB3 := kB.cell (i := 3) rfl; have cA4 := kA.cell (i := 4) rfl; have cB4 := kB.cell (i := 4) rfl; have cA5 := kA.cell (i := 5) rfl; have cB5 := kB.cell (i := 5) rfl) | ((with_reducible refine (g2.out _).mono ?_); rintro e w2 ⟨rfl, x2⟩; replace b0 := b0.trans (x2.mono b0.size); replace kA := kA.below x2 kA.lt; replace kB := kB.below x2 kB.lt; have cA0 := kA.cell (i := 0) rfl; have cB0 := kB.cell (i := 0) rfl; have cA1 := kA.cell (i := 1) rfl; have cB1 := kB.cell (i := 1) rfl; have cA2 := kA.cell (i := 2) rfl; have cB2 := kB.cell (i := 2) rfl; have cA3 := kA.cell (i := 3) rfl; have cB3 := kB.cell (i := 3) rfl; have cA4 := kA.cell (i := 4) rfl; have cB4 := kB.cell (i := 4) rfl; have cA5 := kA.cell (i := 5) rfl; have cB5 := kB.cell (i := 5) rfl))
  go_ret
  exact ⟨rfl, b0⟩
set_option maxRecDepth 100000 in
theorem opd_lea {A B : On} (h0 : TellsB 37 A true) (h1 : TellsB 39 B true) : OpdB 26 A B true := by
  intro w
  have g0 := Lib.hid h0
  have g1 := Lib.hid h1
  clear h0 h1
  have kA := (Blk.new w 26 (op6 A)).alloc (.cells (op6 B) 26)
  have kB := Blk.new (w.alloc (.cells (op6 A) 26)) 26 (op6 B)
  have b0 := ((Below.refl w.heap.size w).alloc (Nat.le_refl _) (.cells (op6 A) 26)).alloc (by simp) (.cells (op6 B) 26)
  rw [show (w.alloc (.cells (op6 A) 26)).heap.size = w.heap.size + 1 by simp] at kB
  go_enter Tryd.func28, Tryd.ntmps28
  go_wp2_with (first | ((with_reducible refine (g0.out _).mono ?_); rintro e w0 ⟨rfl, x0⟩; replace b0 := b0.trans (x0.mono b0.size); replace kA := kA.below x0 kA.lt; replace kB := kB.below x0 kB.lt; have cA0 := kA.cell (i := 0) rfl; have cB0 := kB.cell (i := 0) rfl; have cA1 := kA.cell (i := 1) rfl; have cB1 := kB.cell (i := 1) rfl; have cA2 := kA.cell (i := 2) rfl; have cB2 := kB.cell (i := 2) rfl; have cA3 := kA.cell (i := 3) rfl; have cB3 := kB.cell (i := 3) rfl; have cA4 := kA.cell (i := 4) rfl; have cB4 := kB.cell (i := 4) rfl; have cA5 := kA.cell (i := 5) rfl; have cB5 := kB.cell (i := 5) rfl) | ((with_reducible refine (g1.out _).mono ?_); rintro e w1 ⟨rfl, x1⟩; replace b0 := b0.trans (x1.mono b0.size); replace kA := kA.below x1 kA.lt; replace kB := kB.below x1 kB.lt; have cA0 := kA.cell (i := 0) rfl; have cB0 := kB.cell (i := 0) rfl; have cA1 := kA.cell (i := 1) rfl; have cB1 := kB.cell (i := 1) rfl; have cA2 := kA.cell (i := 2) rfl; have cB2 := kB.cell (i := 2) rfl; have cA3 := kA.cell (i := 3) rfl; have cB3 := kB.cell (i := 3) rfl; have cA4 := kA.cell (i := 4) rfl; have cB4 := kB.cell (i := 4) rfl; have cA5 := kA.cell (i := 5) rfl; have cB5 := kB.cell (i := 5) rfl))
  go_ret
  exact ⟨rfl, b0⟩
set_option maxRecDepth 100000 in
theorem opd_imm28 {A B : On} (h0 : TellsB 36 A false) (h1 : TellsB 38 A true) (h2 : TellsB 41 B true) : OpdB 28 A B true := by
  intro w
  have g0 := Lib.hid h0
  have g1 := Lib.hid h1
  have g2 := Lib.hid h2
  clear h0 h1 h2
  have kA := (Blk.new w 26 (op6 A)).alloc (.cells (op6 B) 26)
  have kB := Blk.new (w.alloc (.cells (op6 A) 26)) 26 (op6 B)
  have b0 := ((Below.refl w.heap.size w).alloc (Nat.le_refl _) (.cells (op6 A) 26)).alloc (by simp) (.cells (op6 B) 26)
  rw [show (w.alloc (.cells (op6 A) 26)).heap.size = w.heap.size + 1 by simp] at kB
  go_enter Tryd.func28, Tryd.ntmps28
  go_wp2_with (first | ((with_reducible refine (g0.out _).mono ?_); rintro e w0 ⟨rfl, x0⟩; replace b0 := b0.trans (x0.mono b0.size); replace kA := kA.below x0 kA.lt; replace kB := kB.below x0 kB.lt; have cA0 := kA.cell (i := 0) rfl; have cB0 := kB.cell (i := 0) rfl; have cA1 := kA.cell (i := 1) rfl; have cB1 := kB.cell (i := 1) rfl; have cA2 := kA.cell (i := 2) rfl; have cB2 := kB.cell (i := 2) rfl; have cA3 := kA.cell (i := 3) rfl; have cB3 := kB.cell (i := 3) rfl; have cA4 := kA.cell (i := 4) rfl; have cB4 := kB.cell (i := 4) rfl; have cA5 := kA.cell (i := 5) rfl; have cB5 := kB.cell (i := 5) rfl) | ((with_reducible refine (g1.out _).mono ?_); rintro e w1 ⟨rfl, x1⟩; replace b0 := b0.trans (x1.mono b0.size); replace kA := kA.below x1 kA.lt; replace kB := kB.below x1 kB.lt; have cA0 := kA.cell (i := 0) rfl; have cB0 := kB.cell (i := 0) rfl; have cA1 := kA.cell (i := 1) rfl; have cB1 := kB.cell (i := 1) rfl; have cA2 := kA.cell (i := 2) rfl; have cB2 := kB.cell (i := 2) rfl; have cA3 := kA.cell (i := 3) rfl; have cB3 := kB.cell (i := 3) rfl; have cA4 := kA.cell (i := 4) rfl; have cB4 := kB.cell (i := 4) rfl; have cA5 := kA.cell (i := 5) rfl; have cB5 := kB.cell (i := 5) rfl) | ((with_reducible refine (g2.out _).mono ?_); rintro e w2 ⟨rfl, x2⟩; replace b0 := b0.trans (x2.mono b0.size); replace kA := kA.below x2 kA.lt; replace kB := kB.below x2 kB.lt; have cA0 := kA.cell (i := 0) rfl; have cB0 := kB.cell (i := 0) rfl; have cA1 := kA.cell (i := 1) rfl; have cB1 := kB.cell (i := 1) rfl; have cA2 := kA.cell (i := 2) rfl; have cB2 := kB.cell (i := 2) rfl; have cA3 := kA.cell (i := 3) rfl; have cB3 := kB.cell (i := 3) rfl; have cA4 := kA.cell (i := 4) rfl; have cB4 := kB.cell (i := 4) rfl; have cA5 := kA.cell (i := 5) rfl; have cB5 := kB.cell (i := 5) rfl))
  go_ret
  exact ⟨rfl, b0⟩
set_option maxRecDepth 100000 in
theorem opd_imm30 {A B : On} (h0 : TellsB 36 A false) (h1 : TellsB 38 A true) (h2 : TellsB 41 B true) : OpdB 30 A B true := by
  intro w
  have g0 := Lib.hid h0
  have g1 := Lib.hid h1
  have g2 := Lib.hid h2
  clear h0 h1 h2
  have kA := (Blk.new w 26 (op6 A)).alloc (.cells (op6 B) 26)
  have kB := Blk.new (w.alloc (.cells (op6 A) 26)) 26 (op6 B)
  have b0 := ((Below.refl w.heap.size w).alloc (Nat.le_refl _) (.cells (op6 A) 26)).alloc (by simp) (.cells (op6 B) 26)
  rw [show (w.alloc (.cells (op6 A) 26)).heap.size = w.heap.size + 1 by simp] at kB
  go_enter Tryd.func28, Tryd.ntmps28
  go_wp2_with (first | ((with_reducible refine (g0.out _).mono ?_); rintro e w0 ⟨rfl, x0⟩; replace b0 := b0.trans (x0.mono b0.size); replace kA := kA.below x0 kA.lt; replace kB := kB.below x0 kB.lt; have cA0 := kA.cell (i := 0) rfl; have cB0 := kB.cell (i := 0) rfl; have cA1 := kA.cell (i := 1) rfl; have cB1 := kB.cell (i := 1) rfl; have cA2 := kA.cell (i := 2) rfl; have cB2 := kB.cell (i := 2) rfl; have cA3 := kA.cell (i := 3) rfl; have cB3 := kB.cell (i := 3) rfl; have cA4 := kA.cell (i := 4) rfl; have cB4 := kB.cell (i := 4) rfl; have cA5 := kA.cell (i := 5) rfl; have cB5 := kB.cell (i := 5) rfl) | ((with_reducible refine (g1.out _).mono ?_); rintro e w1 ⟨rfl, x1⟩; replace b0 := b0.trans (x1.mono b0.size); replace kA := kA.below x1 kA.lt; replace kB := kB.below x1 kB.lt; have cA0 := kA.cell (i := 0) rfl; have cB0 := kB.cell (i := 0) rfl; have cA1 := kA.cell (i := 1) rfl; have cB1 := kB.cell (i := 1) rfl; have cA2 := kA.cell (i := 2) rfl; have cB2 := kB.cell (i := 2) rfl; have cA3 := kA.cell (i := 3) rfl; have cB3 := kB.cell (i := 3) rfl; have cA4 := kA.cell (i := 4) rfl; have cB4 := kB.cell (i := 4) rfl; have cA5 := kA.cell (i := 5) rfl; have cB5 := kB.cell (i := 5) rfl) | ((with_reducible refine (g2.out _).mono ?_); rintro e w2 ⟨rfl, x2⟩; replace b0 := b0.trans (x2.mono b0.size); replace kA := kA.below x2 kA.lt; replace kB := kB.below x2 kB.lt; have cA0 := kA.cell (i := 0) rfl; have cB0 := kB.cell (i := 0) rfl; have cA1 := kA.cell (i := 1) rfl; have cB1 := kB.cell (i := 1) rfl; have cA2 := kA.cell (i := 2) rfl; have cB2 := kB.cell (i := 2) rfl; have cA3 := kA.cell (i := 3) rfl; have cB3 := kB.cell (i := 3) rfl; have cA4 := kA.cell (i := 4) rfl; have cB4 := kB.cell (i := 4) rfl; have cA5 := kA.cell (i := 5) rfl; have cB5 := kB.cell (i := 5) rfl))
  go_ret
  exact ⟨rfl, b0⟩
set_option maxRecDepth 100000 in
theorem opd_imm32 {A B : On} (h0 : TellsB 36 A false) (h1 : TellsB 38 A true) (h2 : TellsB 41 B true) : OpdB 32 A B true := by
  intro w
  have g0 := Lib.hid h0
  have g1 := Lib.hid h1
  have g2 := Lib.hid h2
  clear h0 h1 h2
  have kA := (Blk.new w 26 (op6 A)).alloc (.cells (op6 B) 26)
  have kB := Blk.new (w.alloc (.cells (op6 A) 26)) 26 (op6 B)
  have b0 := ((Below.refl w.heap.size w).alloc (Nat.le_refl _) (.cells (op6 A) 26)).alloc (by simp) (.cells (op6 B) 26)
  rw [show (w.alloc (.cells (op6 A) 26)).heap.size = w.heap.size + 1 by simp] at kB
  go_enter Tryd.func28, Tryd.ntmps28
  go_wp2_with (first | ((with_reducible refine (g0.out _).mono ?_); rintro e w0 ⟨rfl, x0⟩; replace b0 := b0.trans (x0.mono b0.size); replace kA := kA.below x0 kA.lt; replace kB := kB.below x0 kB.lt; have cA0 := kA.cell (i := 0) rfl; have cB0 := kB.cell (i := 0) rfl; have cA1 := kA.cell (i := 1) rfl; have cB1 := kB.cell (i := 1) rfl; have cA2 := kA.cell (i := 2) rfl; have cB2 := kB.cell (i := 2) rfl; have cA3 := kA.cell (i := 3) rfl; have cB3 := kB.cell (i := 3) rfl; have cA4 := kA.cell (i := 4) rfl; have cB4 := kB.cell (i := 4) rfl; have cA5 := kA.cell (i := 5) rfl; have cB5 := kB.cell (i := 5) rfl) | ((with_reducible refine (g1.out _).mono ?_); rintro e w1 ⟨rfl, x1⟩; replace b0 := b0.trans (x1.mono b0.size); replace kA := kA.below x1 kA.lt; replace kB := kB.below x1 kB.lt; have cA0 := kA.cell (i := 0) rfl; have cB0 := kB.cell (i := 0) rfl; have cA1 := kA.cell (i := 1) rfl; have cB1 := kB.cell (i := 1) rfl; have cA2 := kA.cell (i := 2) rfl; have cB2 := kB.cell (i := 2) rfl; have cA3 := kA.cell (i := 3) rfl; have cB3 := kB.cell (i := 3) rfl; have cA4 := kA.cell (i := 4) rfl; have cB4 := kB.cell (i := 4) rfl; have cA5 := kA.cell (i := 5) rfl; have cB5 := kB.cell (i := 5) rfl) | ((with_reducible refine (g2.out _).mono ?_); rintro e w2 ⟨rfl, x2⟩; replace b0 := b0.trans (x2.mono b0.size); replace kA := kA.below x2 kA.lt; replace kB := kB.below x2 kB.lt; have cA0 := kA.cell (i := 0) rfl; have cB0 := kB.cell (i := 0) rfl; have cA1 := kA.cell (i := 1) rfl; have cB1 := kB.cell (i := 1) rfl; have cA2 := kA.cell (i := 2) rfl; have cB2 := kB.cell (i := 2) rfl; have cA3 := kA.cell (i := 3) rfl; have cB3 := kB.cell (i := 3) rfl; have cA4 := kA.cell (i := 4) rfl; have cB4 := kB.cell (i := 4) rfl; have cA5 := kA.cell (i := 5) rfl; have cB5 := kB.cell (i := 5) rfl))
  go_ret
  exact ⟨rfl, b0⟩
set_option maxRecDepth 100000 in
theorem opd_pop {A B : On} (h0 : TellsB 37 A true) (h1 : TellsB 41 B true) : OpdB 29 A B true := by
  intro w
  have g0 := Lib.hid h0
  have g1 := Lib.hid h1
  clear h0 h1
  have kA := (Blk.new w 26 (op6 A)).alloc (.cells (op6 B) 26)
  have kB := Blk.new (w.alloc (.cells (op6 A) 26)) 26 (op6 B)
  have b0 := ((Below.refl w.heap.size w).alloc (Nat.le_refl _) (.cells (op6 A) 26)).alloc (by simp) (.cells (op6 B) 26)
  rw [show (w.alloc (.cells (op6 A) 26)).heap.size = w.heap.size + 1 by simp] at kB
  go_enter Tryd.func28, Tryd.ntmps28
  go_wp2_with (first | ((with_reducible refine (g0.out _).mono ?_); rintro e w0 ⟨rfl, x0⟩; replace b0 := b0.trans (x0.mono b0.size); replace kA := kA.below x0 kA.lt; replace kB := kB.below x0 kB.lt; have cA0 := kA.cell (i := 0) rfl; have cB0 := kB.cell (i := 0) rfl; have cA1 := kA.cell (i := 1) rfl; have cB1 := kB.cell (i := 1) rfl; have cA2 := kA.cell (i := 2) rfl; have cB2 := kB.cell (i := 2) rfl; have cA3 := kA.cell (i := 3) rfl; have cB3 := kB.cell (i := 3) rfl; have cA4 := kA.cell (i := 4) rfl; have cB4 := kB.cell (i := 4) rfl; have cA5 := kA.cell (i := 5) rfl; have cB5 := kB.cell (i := 5) rfl) | ((with_reducible refine (g1.out _).mono ?_); rintro e w1 ⟨rfl, x1⟩; replace b0 := b0.trans (x1.mono b0.size); replace kA := kA.below x1 kA.lt; replace kB := kB.below x1 kB.lt; have cA0 := kA.cell (i := 0) rfl; have cB0 := kB.cell (i := 0) rfl; have cA1 := kA.cell (i := 1) rfl; have cB1 := kB.cell (i := 1) rfl; have cA2 := kA.cell (i := 2) rfl; have cB2 := kB.cell (i := 2) rfl; have cA3 := kA.cell (i := 3) rfl; have cB3 := kB.cell (i := 3) rfl; have cA4 := kA.cell (i := 4) rfl; have cB4 := kB.cell (i := 4) rfl; have cA5 := kA.cell (i := 5) rfl; have cB5 := kB.cell (i := 5) rfl))
  go_ret
  exact ⟨rfl, b0⟩
set_option maxRecDepth 100000 in
theorem opd_jcc {A B : On} (h0 : TellsB 38 A true) (h1 : TellsB 41 B true) : OpdB 33 A B true := by
  intro w
  have g0 := Lib.hid h0
  have g1 := Lib.hid h1
  clear h0 h1
  have kA := (Blk.new w 26 (op6 A)).alloc (.cells (op6 B) 26)
  have kB := Blk.new (w.alloc (.cells (op6 A) 26)) 26 (op6 B)
  have b0 := ((Below.refl w.heap.size w).alloc (Nat.le_refl _) (.cells (op6 A) 26)).alloc (by simp) (.cells (op6 B) 26)
  rw [show (w.alloc (.cells (op6 A) 26)).heap.size = w.heap.size + 1 by simp] at kB
  go_enter Tryd.func28, Tryd.ntmps28
  go_wp2_with (first | ((with_reducible refine (g0.out _).mono ?_); rintro e w0 ⟨rfl, x0⟩; replace b0 := b0.trans (x0.mono b0.size); replace kA := kA.below x0 kA.lt; replace kB := kB.below x0 kB.lt; have cA0 := kA.cell (i := 0) rfl; have cB0 := kB.cell (i := 0) rfl; have cA1 := kA.cell (i := 1) rfl; have cB1 := kB.cell (i := 1) rfl; have cA2 := kA.cell (i := 2) rfl; have cB2 := kB.cell (i := 2) rfl; have cA3 := kA.cell (i := 3) rfl; have cB3 := kB.cell (i := 3) rfl; have cA4 := kA.cell (i := 4) rfl; have cB4 := kB.cell (i := 4) rfl; have cA5 := kA.cell (i := 5) rfl; have cB5 := kB.cell (i := 5) rfl) | ((with_reducible refine (g1.out _).mono ?_); rintro e w1 ⟨rfl, x1⟩; replace b0 := b0.trans (x1.mono b0.size); replace kA := kA.below x1 kA.lt; replace kB := kB.below x1 kB.lt; have cA0 := kA.cell (i := 0) rfl; have cB0 := kB.cell (i := 0) rfl; have cA1 := kA.cell (i := 1) rfl; have cB1 := kB.cell (i := 1) rfl; have cA2 := kA.cell (i := 2) rfl; have cB2 := kB.cell (i := 2) rfl; have cA3 := kA.cell (i := 3) rfl; have cB3 := kB.cell (i := 3) rfl; have cA4 := kA.cell (i := 4) rfl; have cB4 := kB.cell (i := 4) rfl; have cA5 := kA.cell (i := 5) rfl; have cB5 := kB.cell (i := 5) rfl))
  go_ret
  exact ⟨rfl, b0⟩
set_option maxRecDepth 100000 in
theorem opd_int {A B : On} {u : Bool} (hm : (A.m == 128) = u) (h0 : TellsB 38 A true) (h1 : TellsB 41 B true) : OpdB 43 A B u := by
  intro w
  have g0 := Lib.hid h0
  have g1 := Lib.hid h1
  clear h0 h1
  have kA := (Blk.new w 26 (op6 A)).alloc (.cells (op6 B) 26)
  have kB := Blk.new (w.alloc (.cells (op6 A) 26)) 26 (op6 B)
  have b0 := ((Below.refl w.heap.size w).alloc (Nat.le_refl _) (.cells (op6 A) 26)).alloc (by simp) (.cells (op6 B) 26)
  rw [show (w.alloc (.cells (op6 A) 26)).heap.size = w.heap.size + 1 by simp] at kB
  go_enter Tryd.func28, Tryd.ntmps28
  go_wp2_with (first | ((with_reducible refine (g0.out _).mono ?_); rintro e w0 ⟨rfl, x0⟩; replace b0 := b0.trans (x0.mono b0.size); replace kA := kA.below x0 kA.lt; replace kB := kB.below x0 kB.lt; have cA0 := kA.cell (i := 0) rfl; have cB0 := kB.cell (i := 0) rfl; have cA1 := kA.cell (i := 1) rfl; have cB1 := kB.cell (i := 1) rfl; have cA2 := kA.cell (i := 2) rfl; have cB2 := kB.cell (i := 2) rfl; have cA3 := kA.cell (i := 3) rfl; have cB3 := kB.cell (i := 3) rfl; have cA4 := kA.cell (i := 4) rfl; have cB4 := kB.cell (i := 4) rfl; have cA5 := kA.cell (i := 5) rfl; have cB5 := kB.cell (i := 5) rfl) | ((with_reducible refine (g1.out _).mono ?_); rintro e w1 ⟨rfl, x1⟩; replace b0 := b0.trans (x1.mono b0.size); replace kA := kA.below x1 kA.lt; replace kB := kB.below x1 kB.lt; have cA0 := kA.cell (i := 0) rfl; have cB0 := kB.cell (i := 0) rfl; have cA1 := kA.cell (i := 1) rfl; have cB1 := kB.cell (i := 1) rfl; have cA2 := kA.cell (i := 2) rfl; have cB2 := kB.cell (i := 2) rfl; have cA3 := kA.cell (i := 3) rfl; have cB3 := kB.cell (i := 3) rfl; have cA4 := kA.cell (i := 4) rfl; have cB4 := kB.cell (i := 4) rfl; have cA5 := kA.cell (i := 5) rfl; have cB5 := kB.cell (i := 5) rfl))
  all_goals go_ret
  all_goals exact ⟨by simp_all, b0⟩
set_option maxRecDepth 100000 in
theorem opd_mem45 {A B : On} (h0 : TellsB 39 A true) (h1 : TellsB 41 B true) : OpdB 45 A B true := by
  intro w
  have g0 := Lib.hid h0
  have g1 := Lib.hid h1
  clear h0 h1
  have kA := (Blk.new w 26 (op6 A)).alloc (.cells (op6 B) 26)
  have kB := Blk.new (w.alloc (.cells (op6 A) 26)) 26 (op6 B)
  have b0 := ((Below.refl w.heap.size w).alloc (Nat.le_refl _) (.cells (op6 A) 26)).alloc (by simp) (.cells (op6 B) 26)
  rw [show (w.alloc (.cells (op6 A) 26)).heap.size = w.heap.size + 1 by simp] at kB
  go_enter Tryd.func28, Tryd.ntmps28
  go_wp2_with (first | ((with_reducible refine (g0.out _).mono ?_); rintro e w0 ⟨rfl, x0⟩; replace b0 := b0.trans (x0.mono b0.size); replace kA := kA.below x0 kA.lt; replace kB := kB.below x0 kB.lt; have cA0 := kA.cell (i := 0) rfl; have cB0 := kB.cell (i := 0) rfl; have cA1 := kA.cell (i := 1) rfl; have cB1 := kB.cell (i := 1) rfl; have cA2 := kA.cell (i := 2) rfl; have cB2 := kB.cell (i := 2) rfl; have cA3 := kA.cell (i := 3) rfl; have cB3 := kB.cell (i := 3) rfl; have cA4 := kA.cell (i := 4) rfl; have cB4 := kB.cell (i := 4) rfl; have cA5 := kA.cell (i := 5) rfl; have cB5 := kB.cell (i := 5) rfl) | ((with_reducible refine (g1.out _).mono ?_); rintro e w1 ⟨rfl, x1⟩; replace b0 := b0.trans (x1.mono b0.size); replace kA := kA.below x1 kA.lt; replace kB := kB.below x1 kB.lt; have cA0 := kA.cell (i := 0) rfl; have cB0 := kB.cell (i := 0) rfl; have cA1 := kA.cell (i := 1) rfl; have cB1 := kB.cell (i := 1) rfl; have cA2 := kA.cell (i := 2) rfl; have cB2 := kB.cell (i := 2) rfl; have cA3 := kA.cell (i := 3) rfl; have cB3 := kB.cell (i := 3) rfl; have cA4 := kA.cell (i := 4) rfl; have cB4 := kB.cell (i := 4) rfl; have cA5 := kA.cell (i := 5) rfl; have cB5 := kB.cell (i := 5) rfl))
  go_ret
  exact ⟨rfl, b0⟩
set_option maxRecDepth 100000 in
theorem opd_mem46 {A B : On} (h0 : TellsB 39 A true) (h1 : TellsB 41 B true) : OpdB 46 A B true := by
  intro w
  have g0 := Lib.hid h0
  have g1 := Lib.hid h1
  clear h0 h1
  have kA := (Blk.new w 26 (op6 A)).alloc (.cells (op6 B) 26)
  have kB := Blk.new (w.alloc (.cells (op6 A) 26)) 26 (op6 B)
  have b0 := ((Below.refl w.heap.size w).alloc (Nat.le_refl _) (.cells (op6 A) 26)).alloc (by simp) (.cells (op6 B) 26)
  rw [show (w.alloc (.cells (op6 A) 26)).heap.size = w.heap.size + 1 by simp] at kB
  go_enter Tryd.func28, Tryd.ntmps28
  go_wp2_with (first | ((with_reducible refine (g0.out _).mono ?_); rintro e w0 ⟨rfl, x0⟩; replace b0 := b0.trans (x0.mono b0.size); replace kA := kA.below x0 kA.lt; replace kB := kB.below x0 kB.lt; have cA0 := kA.cell (i := 0) rfl; have cB0 := kB.cell (i := 0) rfl; have cA1 := kA.cell (i := 1) rfl; have cB1 := kB.cell (i := 1) rfl; have cA2 := kA.cell (i := 2) rfl; have cB2 := kB.cell (i := 2) rfl; have cA3 := kA.cell (i := 3) rfl; have cB3 := kB.cell (i := 3) rfl; have cA4 := kA.cell (i := 4) rfl; have cB4 := kB.cell (i := 4) rfl; have cA5 := kA.cell (i := 5) rfl; have cB5 := kB.cell (i := 5) rfl) | ((with_reducible refine (g1.out _).mono ?_); rintro e w1 ⟨rfl, x1⟩; replace b0 := b0.trans (x1.mono b0.size); replace kA := kA.below x1 kA.lt; replace kB := kB.below x1 kB.lt; have cA0 := kA.cell (i := 0) rfl; have cB0 := kB.cell (i := 0) rfl; have cA1 := kA.cell (i := 1) rfl; have cB1 := kB.cell (i := 1) rfl; have cA2 := kA.cell (i := 2) rfl; have cB2 := kB.cell (i := 2) rfl; have cA3 := kA.cell (i := 3) rfl; have cB3 := kB.cell (i := 3) rfl; have cA4 := kA.cell (i := 4) rfl; have cB4 := kB.cell (i := 4) rfl; have cA5 := kA.cell (i := 5) rfl; have cB5 := kB.cell (i := 5) rfl))
  go_ret
  exact ⟨rfl, b0⟩
set_option maxRecDepth 100000 in
theorem opd_mem47 {A B : On} (h0 : TellsB 39 A true) (h1 : TellsB 41 B true) : OpdB 47 A B true := by
  intro w
  have g0 := Lib.hid h0
  have g1 := Lib.hid h1
  clear h0 h1
  have kA := (Blk.new w 26 (op6 A)).alloc (.cells (op6 B) 26)
  have kB := Blk.new (w.alloc (.cells (op6 A) 26)) 26 (op6 B)
  have b0 := ((Below.refl w.heap.size w).alloc (Nat.le_refl _) (.cells (op6 A) 26)).alloc (by simp) (.cells (op6 B) 26)
  rw [show (w.alloc (.cells (op6 A) 26)).heap.size = w.heap.size + 1 by simp] at kB
  go_enter Tryd.func28, Tryd.ntmps28
  go_wp2_with (first | ((with_reducible refine (g0.out _).mono ?_); rintro e w0 ⟨rfl, x0⟩; replace b0 := b0.trans (x0.mono b0.size); replace kA := kA.below x0 kA.lt; replace kB := kB.below x0 kB.lt; have cA0 := kA.cell (i := 0) rfl; have cB0 := kB.cell (i := 0) rfl; have cA1 := kA.cell (i := 1) rfl; have cB1 := kB.cell (i := 1) rfl; have cA2 := kA.cell (i := 2) rfl; have cB2 := kB.cell (i := 2) rfl; have cA3 := kA.cell (i := 3) rfl; have cB3 := kB.cell (i := 3) rfl; have cA4 := kA.cell (i := 4) rfl; have cB4 := kB.cell (i := 4) rfl; have cA5 := kA.cell (i := 5) rfl; have cB5 := kB.cell (i := 5) rfl) | ((with_reducible refine (g1.out _).mono ?_); rintro e w1 ⟨rfl, x1⟩; replace b0 := b0.trans (x1.mono b0.size); replace kA := kA.below x1 kA.lt; replace kB := kB.below x1 kB.lt; have cA0 := kA.cell (i := 0) rfl; have cB0 := kB.cell (i := 0) rfl; have cA1 := kA.cell (i := 1) rfl; have cB1 := kB.cell (i := 1) rfl; have cA2 := kA.cell (i := 2) rfl; have cB2 := kB.cell (i := 2) rfl; have cA3 := kA.cell (i := 3) rfl; have cB3 := kB.cell (i := 3) rfl; have cA4 := kA.cell (i := 4) rfl; have cB4 := kB.cell (i := 4) rfl; have cA5 := kA.cell (i := 5) rfl; have cB5 := kB.cell (i := 5) rfl))
  go_ret
  exact ⟨rfl, b0⟩
set_option maxRecDepth 100000 in
theorem opd_mem48 {A B : On} (h0 : TellsB 39 A true) (h1 : TellsB 41 B true) : OpdB 48 A B true := by
  intro w
  have g0 := Lib.hid h0
  have g1 := Lib.hid h1
  clear h0 h1
  have kA := (Blk.new w 26 (op6 A)).alloc (.cells (op6 B) 26)
  have kB := Blk.new (w.alloc (.cells (op6 A) 26)) 26 (op6 B)
  have b0 := ((Below.refl w.heap.size w).alloc (Nat.le_refl _) (.cells (op6 A) 26)).alloc (by simp) (.cells (op6 B) 26)
  rw [show (w.alloc (.cells (op6 A) 26)).heap.size = w.heap.size + 1 by simp] at kB
  go_enter Tryd.func28, Tryd.ntmps28
  go_wp2_with (first | ((with_reducible refine (g0.out _).mono ?_); rintro e w0 ⟨rfl, x0⟩; replace b0 := b0.trans (x0.mono b0.size); replace kA := kA.below x0 kA.lt; replace kB := kB.below x0 kB.lt; have cA0 := kA.cell (i := 0) rfl; have cB0 := kB.cell (i := 0) rfl; have cA1 := kA.cell (i := 1) rfl; have cB1 := kB.cell (i := 1) rfl; have cA2 := kA.cell (i := 2) rfl; have cB2 := kB.cell (i := 2) rfl; have cA3 := kA.cell (i := 3) rfl; have cB3 := kB.cell (i := 3) rfl; have cA4 := kA.cell (i := 4) rfl; have cB4 := kB.cell (i := 4) rfl; have cA5 := kA.cell (i := 5) rfl; have cB5 := kB.cell (i := 5) rfl) | ((with_reducible refine (g1.out _).mono ?_); rintro e w1 ⟨rfl, x1⟩; replace b0 := b0.trans (x1.mono b0.size); replace kA := kA.below x1 kA.lt; replace kB := kB.below x1 kB.lt; have cA0 := kA.cell (i := 0) rfl; have cB0 := kB.cell (i := 0) rfl; have cA1 := kA.cell (i := 1) rfl; have cB1 := kB.cell (i := 1) rfl; have cA2 := kA.cell (i := 2) rfl; have cB2 := kB.cell (i := 2) rfl; have cA3 := kA.cell (i := 3) rfl; have cB3 := kB.cell (i := 3) rfl; have cA4 := kA.cell (i := 4) rfl; have cB4 := kB.cell (i := 4) rfl; have cA5 := kA.cell (i := 5) rfl; have cB5 := kB.cell (i := 5) rfl))
  go_ret
  exact ⟨rfl, b0⟩
set_option maxRecDepth 100000 in
theorem opd_mem49 {A B : On} (h0 : TellsB 39 A true) (h1 : TellsB 41 B true) : OpdB 49 A B true := by
  intro w
  have g0 := Lib.hid h0
  have g1 := Lib.hid h1
  clear h0 h1
  have kA := (Blk.new w 26 (op6 A)).alloc (.cells (op6 B) 26)
  have kB := Blk.new (w.alloc (.cells (op6 A) 26)) 26 (op6 B)
  have b0 := ((Below.refl w.heap.size w).alloc (Nat.le_refl _) (.cells (op6 A) 26)).alloc (by simp) (.cells (op6 B) 26)
  rw [show (w.alloc (.cells (op6 A) 26)).heap.size = w.heap.size + 1 by simp] at kB
  go_enter Tryd.func28, Tryd.ntmps28
  go_wp2_with (first | ((with_reducible refine (g0.out _).mono ?_); rintro e w0 ⟨rfl, x0⟩; replace b0 := b0.trans (x0.mono b0.size); replace kA := kA.below x0 kA.lt; replace kB := kB.below x0 kB.lt; have cA0 := kA.cell (i := 0) rfl; have cB0 := kB.cell (i := 0) rfl; have cA1 := kA.cell (i := 1) rfl; have cB1 := kB.cell (i := 1) rfl; have cA2 := kA.cell (i := 2) rfl; have cB2 := kB.cell (i := 2) rfl; have cA3 := kA.cell (i := 3) rfl; have cB3 := kB.cell (i := 3) rfl; have cA4 := kA.cell (i := 4) rfl; have cB4 := kB.cell (i := 4) rfl; have cA5 := kA.cell (i := 5) rfl; have cB5 := kB.cell (i := 5) rfl) | ((with_reducible refine (g1.out _).mono ?_); rintro e w1 ⟨rfl, x1⟩; replace b0 := b0.trans (x1.mono b0.size); replace kA := kA.below x1 kA.lt; replace kB := kB.below x1 kB.lt; have cA0 := kA.cell (i := 0) rfl; have cB0 := kB.cell (i := 0) rfl; have cA1 := kA.cell (i := 1) rfl; have cB1 := kB.cell (i := 1) rfl; have cA2 := kA.cell (i := 2) rfl; have cB2 := kB.cell (i := 2) rfl; have cA3 := kA.cell (i := 3) rfl; have cB3 := kB.cell (i := 3) rfl; have cA4 := kA.cell (i := 4) rfl; have cB4 := kB.cell (i := 4) rfl; have cA5 := kA.cell (i := 5) rfl; have cB5 := kB.cell (i := 5) rfl))
  go_ret
  exact ⟨rfl, b0⟩
set_option maxRecDepth 100000 in
theorem opd_mem50 {A B : On} (h0 : TellsB 39 A true) (h1 : TellsB 41 B true) : OpdB 50 A B true := by
  intro w
  have g0 := Lib.hid h0
  have g1 := Lib.hid h1
  clear h0 h1
  have kA := (Blk.new w 26 (op6 A)).alloc (.cells (op6 B) 26)
  have kB := Blk.new (w.alloc (.cells (op6 A) 26)) 26 (op6 B)
  have b0 := ((Below.refl w.heap.size w).alloc (Nat.le_refl _) (.cells (op6 A) 26)).alloc (by simp) (.cells (op6 B) 26)
  rw [show (w.alloc (.cells (op6 A) 26)).heap.size = w.heap.size + 1 by simp] at kB
  go_enter Tryd.func28, Tryd.ntmps28
  go_wp2_with (first | ((with_reducible refine (g0.out _).mono ?_); rintro e w0 ⟨rfl, x0⟩; replace b0 := b0.trans (x0.mono b0.size); replace kA := kA.below x0 kA.lt; replace kB := kB.below x0 kB.lt; have cA0 := kA.cell (i := 0) rfl; have cB0 := kB.cell (i := 0) rfl; have cA1 := kA.cell (i := 1) rfl; have cB1 := kB.cell (i := 1) rfl; have cA2 := kA.cell (i := 2) rfl; have cB2 := kB.cell (i := 2) rfl; have cA3 := kA.cell (i := 3) rfl; have cB3 := kB.cell (i := 3) rfl; have cA4 := kA.cell (i := 4) rfl; have cB4 := kB.cell (i := 4) rfl; have cA5 := kA.cell (i := 5) rfl; have cB5 := kB.cell (i := 5) rfl) | ((with_reducible refine (g1.out _).mono ?_); rintro e w1 ⟨rfl, x1⟩; replace b0 := b0.trans (x1.mono b0.size); replace kA := kA.below x1 kA.lt; replace kB := kB.below x1 kB.lt; have cA0 := kA.cell (i := 0) rfl; have cB0 := kB.cell (i := 0) rfl; have cA1 := kA.cell (i := 1) rfl; have cB1 := kB.cell (i := 1) rfl; have cA2 := kA.cell (i := 2) rfl; have cB2 := kB.cell (i := 2) rfl; have cA3 := kA.cell (i := 3) rfl; have cB3 := kB.cell (i := 3) rfl; have cA4 := kA.cell (i := 4) rfl; have cB4 := kB.cell (i := 4) rfl; have cA5 := kA.cell (i := 5) rfl; have cB5 := kB.cell (i := 5) rfl))
  go_ret
  exact ⟨rfl, b0⟩
set_option maxRecDepth 100000 in
theorem opd_mem53 {A B : On} (h0 : TellsB 39 A true) (h1 : TellsB 41 B true) : OpdB 53 A B true := by
  intro w
  have g0 := Lib.hid h0
  have g1 := Lib.hid h1
  clear h0 h1
  have kA := (Blk.new w 26 (op6 A)).alloc (.cells (op6 B) 26)
  have kB := Blk.new (w.alloc (.cells (op6 A) 26)) 26 (op6 B)
  have b0 := ((Below.refl w.heap.size w).alloc (Nat.le_refl _) (.cells (op6 A) 26)).alloc (by simp) (.cells (op6 B) 26)
  rw [show (w.alloc (.cells (op6 A) 26)).heap.size = w.heap.size + 1 by simp] at kB
  go_enter Tryd.func28, Tryd.ntmps28
  go_wp2_with (first | ((with_reducible refine (g0.out _).mono ?_); rintro e w0 ⟨rfl, x0⟩; replace b0 := b0.trans (x0.mono b0.size); replace kA := kA.below x0 kA.lt; replace kB := kB.below x0 kB.lt; have cA0 := kA.cell (i := 0) rfl; have cB0 := kB.cell (i := 0) rfl; have cA1 := kA.cell (i := 1) rfl; have cB1 := kB.cell (i := 1) rfl; have cA2 := kA.cell (i := 2) rfl; have cB2 := kB.cell (i := 2) rfl; have cA3 := kA.cell (i := 3) rfl; have cB3 := kB.cell (i := 3) rfl; have cA4 := kA.cell (i := 4) rfl; have cB4 := kB.cell (i := 4) rfl; have cA5 := kA.cell (i := 5) rfl; have cB5 := kB.cell (i := 5) rfl) | ((with_reducible refine (g1.out _).mono ?_); rintro e w1 ⟨rfl, x1⟩; replace b0 := b0.trans (x1.mono b0.size); replace kA := kA.below x1 kA.lt; replace kB := kB.below x1 kB.lt; have cA0 := kA.cell (i := 0) rfl; have cB0 := kB.cell (i := 0) rfl; have cA1 := kA.cell (i := 1) rfl; have cB1 := kB.cell (i := 1) rfl; have cA2 := kA.cell (i := 2) rfl; have cB2 := kB.cell (i := 2) rfl; have cA3 := kA.cell (i := 3) rfl; have cB3 := kB.cell (i := 3) rfl; have cA4 := kA.cell (i := 4) rfl; have cB4 := kB.cell (i := 4) rfl; have cA5 := kA.cell (i := 5) rfl; have cB5 := kB.cell (i := 5) rfl))
  go_ret
  exact ⟨rfl, b0⟩
set_option maxRecDepth 100000 in
theorem opd_z31 {A B : On} (h0 : TellsB 41 A true) (h1 : TellsB 41 B true) : OpdB 31 A B true := by
  intro w
  have g0 := Lib.hid h0
  have g1 := Lib.hid h1
  clear h0 h1
  have kA := (Blk.new w 26 (op6 A)).alloc (.cells (op6 B) 26)
  have kB := Blk.new (w.alloc (.cells (op6 A) 26)) 26 (op6 B)
  have b0 := ((Below.refl w.heap.size w).alloc (Nat.le_refl _) (.cells (op6 A) 26)).alloc (by simp) (.cells (op6 B) 26)
  rw [show (w.alloc (.cells (op6 A) 26)).heap.size = w.heap.size + 1 by simp] at kB
  go_enter Tryd.func28, Tryd.ntmps28
  go_wp2_with (first | ((with_reducible refine (g0.out _).mono ?_); rintro e w0 ⟨rfl, x0⟩; replace b0 := b0.trans (x0.mono b0.size); replace kA := kA.below x0 kA.lt; replace kB := kB.below x0 kB.lt; have cA0 := kA.cell (i := 0) rfl; have cB0 := kB.cell (i := 0) rfl; have cA1 := kA.cell (i := 1) rfl; have cB1 := kB.cell (i := 1) rfl; have cA2 := kA.cell (i := 2) rfl; have cB2 := kB.cell (i := 2) rfl; have cA3 := kA.cell (i := 3) rfl; have cB3 := kB.cell (i := 3) rfl; have cA4 := kA.cell (i := 4) rfl; have cB4 := kB.cell (i := 4) rfl; have cA5 := kA.cell (i := 5) rfl; have cB5 := kB.cell (i := 5) rfl) | ((with_reducible refine (g1.out _).mono ?_); rintro e w1 ⟨rfl, x1⟩; replace b0 := b0.trans (x1.mono b0.size); replace kA := kA.below x1 kA.lt; replace kB := kB.below x1 kB.lt; have cA0 := kA.cell (i := 0) rfl; have cB0 := kB.cell (i := 0) rfl; have cA1 := kA.cell (i := 1) rfl; have cB1 := kB.cell (i := 1) rfl; have cA2 := kA.cell (i := 2) rfl; have cB2 := kB.cell (i := 2) rfl; have cA3 := kA.cell (i := 3) rfl; have cB3 := kB.cell (i := 3) rfl; have cA4 := kA.cell (i := 4) rfl; have cB4 := kB.cell (i := 4) rfl; have cA5 := kA.cell (i := 5) rfl; have cB5 := kB.cell (i := 5) rfl))
  go_ret
  exact ⟨rfl, b0⟩
set_option maxRecDepth 100000 in
theorem opd_z38 {A B : On} (h0 : TellsB 41 A true) (h1 : TellsB 41 B true) : OpdB 38 A B true := by
  intro w
  have g0 := Lib.hid h0
  have g1 := Lib.hid h1
  clear h0 h1
  have kA := (Blk.new w 26 (op6 A)).alloc (.cells (op6 B) 26)
  have kB := Blk.new (w.alloc (.cells (op6 A) 26)) 26 (op6 B)
  have b0 := ((Below.refl w.heap.size w).alloc (Nat.le_refl _) (.cells (op6 A) 26)).alloc (by simp) (.cells (op6 B) 26)
  rw [show (w.alloc (.cells (op6 A) 26)).heap.size = w.heap.size + 1 by simp] at kB
  go_enter Tryd.func28, Tryd.ntmps28
  go_wp2_with (first | ((with_reducible refine (g0.out _).mono ?_); rintro e w0 ⟨rfl, x0⟩; replace b0 := b0.trans (x0.mono b0.size); replace kA := kA.below x0 kA.lt; replace kB := kB.below x0 kB.lt; have cA0 := kA.cell (i := 0) rfl; have cB0 := kB.cell (i := 0) rfl; have cA1 := kA.cell (i := 1) rfl; have cB1 := kB.cell (i := 1) rfl; have cA2 := kA.cell (i := 2) rfl; have cB2 := kB.cell (i := 2) rfl; have cA3 := kA.cell (i := 3) rfl; have cB3 := kB.cell (i := 3) rfl; have cA4 := kA.cell (i := 4) rfl; have cB4 := kB.cell (i := 4) rfl; have cA5 := kA.cell (i := 5) rfl; have cB5 := kB.cell (i := 5) rfl) | ((with_reducible refine (g1.out _).mono ?_); rintro e w1 ⟨rfl, x1⟩; replace b0 := b0.trans (x1.mono b0.size); replace kA := kA.below x1 kA.lt; replace kB := kB.below x1 kB.lt; have cA0 := kA.cell (i := 0) rfl; have cB0 := kB.cell (i := 0) rfl; have cA1 := kA.cell (i := 1) rfl; have cB1 := kB.cell (i := 1) rfl; have cA2 := kA.cell (i := 2) rfl; have cB2 := kB.cell (i := 2) rfl; have cA3 := kA.cell (i := 3) rfl; have cB3 := kB.cell (i := 3) rfl; have cA4 := kA.cell (i := 4) rfl; have cB4 := kB.cell (i := 4) rfl; have cA5 := kA.cell (i := 5) rfl; have cB5 := kB.cell (i := 5) rfl))
  go_ret
  exact ⟨rfl, b0⟩
set_option maxRecDepth 100000 in
theorem opd_z39 {A B : On} (h0 : TellsB 41 A true) (h1 : TellsB 41 B true) : OpdB 39 A B true := by
  intro w
  have g0 := Lib.hid h0
  have g1 := Lib.hid h1
  clear h0 h1
  have kA := (Blk.new w 26 (op6 A)).alloc (.cells (op6 B) 26)
  have kB := Blk.new (w.alloc (.cells (op6 A) 26)) 26 (op6 B)
  have b0 := ((Below.refl w.heap.size w).alloc (Nat.le_refl _) (.cells (op6 A) 26)).alloc (by simp) (.cells (op6 B) 26)
  rw [show (w.alloc (.cells (op6 A) 26)).heap.size = w.heap.size + 1 by simp] at kB
  go_enter Tryd.func28, Tryd.ntmps28
  go_wp2_with (first | ((with_reducible refine (g0.out _).mono ?_); rintro e w0 ⟨rfl, x0⟩; replace b0 := b0.trans (x0.mono b0.size); replace kA := kA.below x0 kA.lt; replace kB := kB.below x0 kB.lt; have cA0 := kA.cell (i := 0) rfl; have cB0 := kB.cell (i := 0) rfl; have cA1 := kA.cell (i := 1) rfl; have cB1 := kB.cell (i := 1) rfl; have cA2 := kA.cell (i := 2) rfl; have cB2 := kB.cell (i := 2) rfl; have cA3 := kA.cell (i := 3) rfl; have cB3 := kB.cell (i := 3) rfl; have cA4 := kA.cell (i := 4) rfl; have cB4 := kB.cell (i := 4) rfl; have cA5 := kA.cell (i := 5) rfl; have cB5 := kB.cell (i := 5) rfl) | ((with_reducible refine (g1.out _).mono ?_); rintro e w1 ⟨rfl, x1⟩; replace b0 := b0.trans (x1.mono b0.size); replace kA := kA.below x1 kA.lt; replace kB := kB.below x1 kB.lt; have cA0 := kA.cell (i := 0) rfl; have cB0 := kB.cell (i := 0) rfl; have cA1 := kA.cell (i := 1) rfl; have cB1 := kB.cell (i := 1) rfl; have cA2 := kA.cell (i := 2) rfl; have cB2 := kB.cell (i := 2) rfl; have cA3 := kA.cell (i := 3) rfl; have cB3 := kB.cell (i := 3) rfl; have cA4 := kA.cell (i := 4) rfl; have cB4 := kB.cell (i := 4) rfl; have cA5 := kA.cell (i := 5) rfl; have cB5 := kB.cell (i := 5) rfl))
  go_ret
  exact ⟨rfl, b0⟩
set_option maxRecDepth 100000 in
theorem opd_z40 {A B : On} (h0 : TellsB 41 A true) (h1 : TellsB 41 B true) : OpdB 40 A B true := by
  intro w
  have g0 := Lib.hid h0
  have g1 := Lib.hid h1
  clear h0 h1
  have kA := (Blk.new w 26 (op6 A)).alloc (.cells (op6 B) 26)
  have kB := Blk.new (w.alloc (.cells (op6 A) 26)) 26 (op6 B)
  have b0 := ((Below.refl w.heap.size w).alloc (Nat.le_refl _) (.cells (op6 A) 26)).alloc (by simp) (.cells (op6 B) 26)
  rw [show (w.alloc (.cells (op6 A) 26)).heap.size = w.heap.size + 1 by simp] at kB
  go_enter Tryd.func28, Tryd.ntmps28
  go_wp2_with (first | ((with_reducible refine (g0.out _).mono ?_); rintro e w0 ⟨rfl, x0⟩; replace b0 := b0.trans (x0.mono b0.size); replace kA := kA.below x0 kA.lt; replace kB := kB.below x0 kB.lt; have cA0 := kA.cell (i := 0) rfl; have cB0 := kB.cell (i := 0) rfl; have cA1 := kA.cell (i := 1) rfl; have cB1 := kB.cell (i := 1) rfl; have cA2 := kA.cell (i := 2) rfl; have cB2 := kB.cell (i := 2) rfl; have cA3 := kA.cell (i := 3) rfl; have cB3 := kB.cell (i := 3) rfl; have cA4 := kA.cell (i := 4) rfl; have cB4 := kB.cell (i := 4) rfl; have cA5 := kA.cell (i := 5) rfl; have cB5 := kB.cell (i := 5) rfl) | ((with_reducible refine (g1.out _).mono ?_); rintro e w1 ⟨rfl, x1⟩; replace b0 := b0.trans (x1.mono b0.size); replace kA := kA.below x1 kA.lt; replace kB := kB.below x1 kB.lt; have cA0 := kA.cell (i := 0) rfl; have cB0 := kB.cell (i := 0) rfl; have cA1 := kA.cell (i := 1) rfl; have cB1 := kB.cell (i := 1) rfl; have cA2 := kA.cell (i := 2) rfl; have cB2 := kB.cell (i := 2) rfl; have cA3 := kA.cell (i := 3) rfl; have cB3 := kB.cell (i := 3) rfl; have cA4 := kA.cell (i := 4) rfl; have cB4 := kB.cell (i := 4) rfl; have cA5 := kA.cell (i := 5) rfl; have cB5 := kB.cell (i := 5) rfl))
  go_ret
  exact ⟨rfl, b0⟩
set_option maxRecDepth 100000 in
theorem opd_z41 {A B : On} (h0 : TellsB 41 A true) (h1 : TellsB 41 B true) : OpdB 41 A B true := by
  intro w
  have g0 := Lib.hid h0
  have g1 := Lib.hid h1
  clear h0 h1
  have kA := (Blk.new w 26 (op6 A)).alloc (.cells (op6 B) 26)
  have kB := Blk.new (w.alloc (.cells (op6 A) 26)) 26 (op6 B)
  have b0 := ((Below.refl w.heap.size w).alloc (Nat.le_refl _) (.cells (op6 A) 26)).alloc (by simp) (.cells (op6 B) 26)
  rw [show (w.alloc (.cells (op6 A) 26)).heap.size = w.heap.size + 1 by simp] at kB
  go_enter Tryd.func28, Tryd.ntmps28
  go_wp2_with (first | ((with_reducible refine (g0.out _).mono ?_); rintro e w0 ⟨rfl, x0⟩; replace b0 := b0.trans (x0.mono b0.size); replace kA := kA.below x0 kA.lt; replace kB := kB.below x0 kB.lt; have cA0 := kA.cell (i := 0) rfl; have cB0 := kB.cell (i := 0) rfl; have cA1 := kA.cell (i := 1) rfl; have cB1 := kB.cell (i := 1) rfl; have cA2 := kA.cell (i := 2) rfl; have cB2 := kB.cell (i := 2) rfl; have cA3 := kA.cell (i := 3) rfl; have cB3 := kB.cell (i := 3) rfl; have cA4 := kA.cell (i := 4) rfl; have cB4 := kB.cell (i := 4) rfl; have cA5 := kA.cell (i := 5) rfl; have cB5 := kB.cell (i := 5) rfl) | ((with_reducible refine (g1.out _).mono ?_); rintro e w1 ⟨rfl, x1⟩; replace b0 := b0.trans (x1.mono b0.size); replace kA := kA.below x1 kA.lt; replace kB := kB.below x1 kB.lt; have cA0 := kA.cell (i := 0) rfl; have cB0 := kB.cell (i := 0) rfl; have cA1 := kA.cell (i := 1) rfl; have cB1 := kB.cell (i := 1) rfl; have cA2 := kA.cell (i := 2) rfl; have cB2 := kB.cell (i := 2) rfl; have cA3 := kA.cell (i := 3) rfl; have cB3 := kB.cell (i := 3) rfl; have cA4 := kA.cell (i := 4) rfl; have cB4 := kB.cell (i := 4) rfl; have cA5 := kA.cell (i := 5) rfl; have cB5 := kB.cell (i := 5) rfl))
  go_ret
  exact ⟨rfl, b0⟩
set_option maxRecDepth 100000 in
theorem opd_z42 {A B : On} (h0 : TellsB 41 A true) (h1 : TellsB 41 B true) : OpdB 42 A B true := by
  intro w
  have g0 := Lib.hid h0
  have g1 := Lib.hid h1
  clear h0 h1
  have kA := (Blk.new w 26 (op6 A)).alloc (.cells (op6 B) 26)
  have kB := Blk.new (w.alloc (.cells (op6 A) 26)) 26 (op6 B)
  have b0 := ((Below.refl w.heap.size w).alloc (Nat.le_refl _) (.cells (op6 A) 26)).alloc (by simp) (.cells (op6 B) 26)
  rw [show (w.alloc (.cells (op6 A) 26)).heap.size = w.heap.size + 1 by simp] at kB
  go_enter Tryd.func28, Tryd.ntmps28
  go_wp2_with (first | ((with_reducible refine (g0.out _).mono ?_); rintro e w0 ⟨rfl, x0⟩; replace b0 := b0.trans (x0.mono b0.size); replace kA := kA.below x0 kA.lt; replace kB := kB.below x0 kB.lt; have cA0 := kA.cell (i := 0) rfl; have cB0 := kB.cell (i := 0) rfl; have cA1 := kA.cell (i := 1) rfl; have cB1 := kB.cell (i := 1) rfl; have cA2 := kA.cell (i := 2) rfl; have cB2 := kB.cell (i := 2) rfl; have cA3 := kA.cell (i := 3) rfl; have cB3 := kB.cell (i := 3) rfl; have cA4 := kA.cell (i := 4) rfl; have cB4 := kB.cell (i := 4) rfl; have cA5 := kA.cell (i := 5) rfl; have cB5 := kB.cell (i := 5) rfl) | ((with_reducible refine (g1.out _).mono ?_); rintro e w1 ⟨rfl, x1⟩; replace b0 := b0.trans (x1.mono b0.size); replace kA := kA.below x1 kA.lt; replace kB := kB.below x1 kB.lt; have cA0 := kA.cell (i := 0) rfl; have cB0 := kB.cell (i := 0) rfl; have cA1 := kA.cell (i := 1) rfl; have cB1 := kB.cell (i := 1) rfl; have cA2 := kA.cell (i := 2) rfl; have cB2 := kB.cell (i := 2) rfl; have cA3 := kA.cell (i := 3) rfl; have cB3 := kB.cell (i := 3) rfl; have cA4 := kA.cell (i := 4) rfl; have cB4 := kB.cell (i := 4) rfl; have cA5 := kA.cell (i := 5) rfl; have cB5 := kB.cell (i := 5) rfl))
  go_ret
  exact ⟨rfl, b0⟩
set_option maxRecDepth 100000 in
theorem opd_z44 {A B : On} (h0 : TellsB 41 A true) (h1 : TellsB 41 B true) : OpdB 44 A B true := by
  intro w
  have g0 := Lib.hid h0
  have g1 := Lib.hid h1
  clear h0 h1
  have kA := (Blk.new w 26 (op6 A)).alloc (.cells (op6 B) 26)
  have kB := Blk.new (w.alloc (.cells (op6 A) 26)) 26 (op6 B)
  have b0 := ((Below.refl w.heap.size w).alloc (Nat.le_refl _) (.cells (op6 A) 26)).alloc (by simp) (.cells (op6 B) 26)
  rw [show (w.alloc (.cells (op6 A) 26)).heap.size = w.heap.size + 1 by simp] at kB
  go_enter Tryd.func28, Tryd.ntmps28
  go_wp2_with (first | ((with_reducible refine (g0.out _).mono ?_); rintro e w0 ⟨rfl, x0⟩; replace b0 := b0.trans (x0.mono b0.size); replace kA := kA.below x0 kA.lt; replace kB := kB.below x0 kB.lt; have cA0 := kA.cell (i := 0) rfl; have cB0 := kB.cell (i := 0) rfl; have cA1 := kA.cell (i := 1) rfl; have cB1 := kB.cell (i := 1) rfl; have cA2 := kA.cell (i := 2) rfl; have cB2 := kB.cell (i := 2) rfl; have cA3 := kA.cell (i := 3) rfl; have cB3 := kB.cell (i := 3) rfl; have cA4 := kA.cell (i := 4) rfl; have cB4 := kB.cell (i := 4) rfl; have cA5 := kA.cell (i := 5) rfl; have cB5 := kB.cell (i := 5) rfl) | ((with_reducible refine (g1.out _).mono ?_); rintro e w1 ⟨rfl, x1⟩; replace b0 := b0.trans (x1.mono b0.size); replace kA := kA.below x1 kA.lt; replace kB := kB.below x1 kB.lt; have cA0 := kA.cell (i := 0) rfl; have cB0 := kB.cell (i := 0) rfl; have cA1 := kA.cell (i := 1) rfl; have cB1 := kB.cell (i := 1) rfl; have cA2 := kA.cell (i := 2) rfl; have cB2 := kB.cell (i := 2) rfl; have cA3 := kA.cell (i := 3) rfl; have cB3 := kB.cell (i := 3) rfl; have cA4 := kA.cell (i := 4) rfl; have cB4 := kB.cell (i := 4) rfl; have cA5 := kA.cell (i := 5) rfl; have cB5 := kB.cell (i := 5) rfl))
  go_ret
  exact ⟨rfl, b0⟩
set_option maxRecDepth 100000 in
theorem opd_z51 {A B : On} (h0 : TellsB 41 A true) (h1 : TellsB 41 B true) : OpdB 51 A B true := by
  intro w
  have g0 := Lib.hid h0
  have g1 := Lib.hid h1
  clear h0 h1
  have kA := (Blk.new w 26 (op6 A)).alloc (.cells (op6 B) 26)
  have kB := Blk.new (w.alloc (.cells (op6 A) 26)) 26 (op6 B)
  have b0 := ((Below.refl w.heap.size w).alloc (Nat.le_refl _) (.cells (op6 A) 26)).alloc (by simp) (.cells (op6 B) 26)
  rw [show (w.alloc (.cells (op6 A) 26)).heap.size = w.heap.size + 1 by simp] at kB
  go_enter Tryd.func28, Tryd.ntmps28
  go_wp2_with (first | ((with_reducible refine (g0.out _).mono ?_); rintro e w0 ⟨rfl, x0⟩; replace b0 := b0.trans (x0.mono b0.size); replace kA := kA.below x0 kA.lt; replace kB := kB.below x0 kB.lt; have cA0 := kA.cell (i := 0) rfl; have cB0 := kB.cell (i := 0) rfl; have cA1 := kA.cell (i := 1) rfl; have cB1 := kB.cell (i := 1) rfl; have cA2 := kA.cell (i := 2) rfl; have cB2 := kB.cell (i := 2) rfl; have cA3 := kA.cell (i := 3) rfl; have cB3 := kB.cell (i := 3) rfl; have cA4 := kA.cell (i := 4) rfl; have cB4 := kB.cell (i := 4) rfl; have cA5 := kA.cell (i := 5) rfl; have cB5 := kB.cell (i := 5) rfl) | ((with_reducible refine (g1.out _).mono ?_); rintro e w1 ⟨rfl, x1⟩; replace b0 := b0.trans (x1.mono b0.size); replace kA := kA.below x1 kA.lt; replace kB := kB.below x1 kB.lt; have cA0 := kA.cell (i := 0) rfl; have cB0 := kB.cell (i := 0) rfl; have cA1 := kA.cell (i := 1) rfl; have cB1 := kB.cell (i := 1) rfl; have cA2 := kA.cell (i := 2) rfl; have cB2 := kB.cell (i := 2) rfl; have cA3 := kA.cell (i := 3) rfl; have cB3 := kB.cell (i := 3) rfl; have cA4 := kA.cell (i := 4) rfl; have cB4 := kB.cell (i := 4) rfl; have cA5 := kA.cell (i := 5) rfl; have cB5 := kB.cell (i := 5) rfl))
  go_ret
  exact ⟨rfl, b0⟩
set_option maxRecDepth 100000 in
theorem opd_z52 {A B : On} (h0 : TellsB 41 A true) (h1 : TellsB 41 B true) : OpdB 52 A B true := by
  intro w
  have g0 := Lib.hid h0
  have g1 := Lib.hid h1
  clear h0 h1
  have kA := (Blk.new w 26 (op6 A)).alloc (.cells (op6 B) 26)
  have kB := Blk.new (w.alloc (.cells (op6 A) 26)) 26 (op6 B)
  have b0 := ((Below.refl w.heap.size w).alloc (Nat.le_refl _) (.cells (op6 A) 26)).alloc (by simp) (.cells (op6 B) 26)
  rw [show (w.alloc (.cells (op6 A) 26)).heap.size = w.heap.size + 1 by simp] at kB
  go_enter Tryd.func28, Tryd.ntmps28
  go_wp2_with (first | ((with_reducible refine (g0.out _).mono ?_); rintro e w0 ⟨rfl, x0⟩; replace b0 := b0.trans (x0.mono b0.size); replace kA := kA.below x0 kA.lt; replace kB := kB.below x0 kB.lt; have cA0 := kA.cell (i := 0) rfl; have cB0 := kB.cell (i := 0) rfl; have cA1 := kA.cell (i := 1) rfl; have cB1 := kB.cell (i := 1) rfl; have cA2 := kA.cell (i := 2) rfl; have cB2 := kB.cell (i := 2) rfl; have cA3 := kA.cell (i := 3) rfl; have cB3 := kB.cell (i := 3) rfl; have cA4 := kA.cell (i := 4) rfl; have cB4 := kB.cell (i := 4) rfl; have cA5 := kA.cell (i := 5) rfl; have cB5 := kB.cell (i := 5) rfl) | ((with_reducible refine (g1.out _).mono ?_); rintro e w1 ⟨rfl, x1⟩; replace b0 := b0.trans (x1.mono b0.size); replace kA := kA.below x1 kA.lt; replace kB := kB.below x1 kB.lt; have cA0 := kA.cell (i := 0) rfl; have cB0 := kB.cell (i := 0) rfl; have cA1 := kA.cell (i := 1) rfl; have cB1 := kB.cell (i := 1) rfl; have cA2 := kA.cell (i := 2) rfl; have cB2 := kB.cell (i := 2) rfl; have cA3 := kA.cell (i := 3) rfl; have cB3 := kB.cell (i := 3) rfl; have cA4 := kA.cell (i := 4) rfl; have cB4 := kB.cell (i := 4) rfl; have cA5 := kA.cell (i := 5) rfl; have cB5 := kB.cell (i := 5) rfl))
  go_ret
  exact ⟨rfl, b0⟩
set_option maxRecDepth 100000 in
theorem opd_no {A B : On} : OpdB 0 A B false := by
  intro w
  have kA := (Blk.new w 26 (op6 A)).alloc (.cells (op6 B) 26)
  have kB := Blk.new (w.alloc (.cells (op6 A) 26)) 26 (op6 B)
  have b0 := ((Below.refl w.heap.size w).alloc (Nat.le_refl _) (.cells (op6 A) 26)).alloc (by simp) (.cells (op6 B) 26)
  rw [show (w.alloc (.cells (op6 A) 26)).heap.size = w.heap.size + 1 by simp] at kB
  go_enter Tryd.func28, Tryd.ntmps28
  go_wp2
  go_ret
  exact ⟨rfl, b0⟩
end Go.Proofs.YtlooobehlhgccaaDoor
namespace Go.Proofs.YtlooobehlhgccaaDoor
open Go.RowKit
set_option linter.unusedVariables false
set_option linter.unusedSimpArgs false
set_option linter.unusedSectionVars false

abbrev IsTells (i : In) (b : Bool) : Prop := ∀ W : World, Calls Tryd.prog 16 #[inV i] W fun e w' => e = .returned (.bool b) ∧ Below W.heap.size W w'
theorem is_plain {op : Int} {A B : On} {b : Bool} (h : OpdB op A B b) : IsTells ⟨op, 0, A, B, false, 0⟩ b := by
  intro w
  have g := Lib.hid h
  clear h
  have b0 := (Below.refl w.heap.size w).alloc (Nat.le_refl _) (.cells (in16 ⟨op, 0, A, B, false, 0⟩) 28)
  go_enter Tryd.func16, Tryd.ntmps16
  go_wp2_with ((with_reducible refine (g.out _).mono ?_); rintro e w1 ⟨rfl, x1⟩; replace b0 := b0.trans (x1.mono b0.size))
  go_ret
  exact ⟨rfl, b0⟩
theorem is_cond33 {A B : On} {b : Bool} {c : Int} (hc : 0 ≤ c ∧ c ≤ 15) (h : OpdB 33 A B b) : IsTells ⟨33, c, A, B, false, 0⟩ b := by
  intro w
  have g := Lib.hid h
  clear h
  have q1 : (c < 0) = False := eq_false (by omega)
  have q2 : ((15 : Int) < c) = False := eq_false (by omega)
  generalize hu : (c != 0) = u
  clear hc
  have b0 := (Below.refl w.heap.size w).alloc (Nat.le_refl _) (.cells (in16 ⟨33, c, A, B, false, 0⟩) 28)
  cases u
  · go_enter Tryd.func16, Tryd.ntmps16
    go_wp2_with ((with_reducible refine (g.out _).mono ?_); rintro e w1 ⟨rfl, x1⟩; replace b0 := b0.trans (x1.mono b0.size))
    go_ret
    exact ⟨rfl, b0⟩
  · go_enter Tryd.func16, Tryd.ntmps16
    go_wp2_with ((with_reducible refine (g.out _).mono ?_); rintro e w1 ⟨rfl, x1⟩; replace b0 := b0.trans (x1.mono b0.size))
    go_ret
    exact ⟨rfl, b0⟩
theorem is_cond34 {A B : On} {b : Bool} {c : Int} (hc : 0 ≤ c ∧ c ≤ 15) (h : OpdB 34 A B b) : IsTells ⟨34, c, A, B, false, 0⟩ b := by
  intro w
  have g := Lib.hid h
  clear h
  have q1 : (c < 0) = False := eq_false (by omega)
  have q2 : ((15 : Int) < c) = False := eq_false (by omega)
  generalize hu : (c != 0) = u
  clear hc
  have b0 := (Below.refl w.heap.size w).alloc (Nat.le_refl _) (.cells (in16 ⟨34, c, A, B, false, 0⟩) 28)
  cases u
  · go_enter Tryd.func16, Tryd.ntmps16
    go_wp2_with ((with_reducible refine (g.out _).mono ?_); rintro e w1 ⟨rfl, x1⟩; replace b0 := b0.trans (x1.mono b0.size))
    go_ret
    exact ⟨rfl, b0⟩
  · go_enter Tryd.func16, Tryd.ntmps16
    go_wp2_with ((with_reducible refine (g.out _).mono ?_); rintro e w1 ⟨rfl, x1⟩; replace b0 := b0.trans (x1.mono b0.size))
    go_ret
    exact ⟨rfl, b0⟩
theorem is_cond35 {A B : On} {b : Bool} {c : Int} (hc : 0 ≤ c ∧ c ≤ 15) (h : OpdB 35 A B b) : IsTells ⟨35, c, A, B, false, 0⟩ b := by
  intro w
  have g := Lib.hid h
  clear h
  have q1 : (c < 0) = False := eq_false (by omega)
  have q2 : ((15 : Int) < c) = False := eq_false (by omega)
  generalize hu : (c != 0) = u
  clear hc
  have b0 := (Below.refl w.heap.size w).alloc (Nat.le_refl _) (.cells (in16 ⟨35, c, A, B, false, 0⟩) 28)
  cases u
  · go_enter Tryd.func16, Tryd.ntmps16
    go_wp2_with ((with_reducible refine (g.out _).mono ?_); rintro e w1 ⟨rfl, x1⟩; replace b0 := b0.trans (x1.mono b0.size))
    go_ret
    exact ⟨rfl, b0⟩
  · go_enter Tryd.func16, Tryd.ntmps16
    go_wp2_with ((with_reducible refine (g.out _).mono ?_); rintro e w1 ⟨rfl, x1⟩; replace b0 := b0.trans (x1.mono b0.size))
    go_ret
    exact ⟨rfl, b0⟩
theorem is_rep41 {A B : On} {b : Bool} (h : OpdB 41 A B b) : IsTells ⟨41, 0, A, B, true, 0⟩ b := by
  intro w
  have g := Lib.hid h
  clear h
  have b0 := (Below.refl w.heap.size w).alloc (Nat.le_refl _) (.cells (in16 ⟨41, 0, A, B, true, 0⟩) 28)
  go_enter Tryd.func16, Tryd.ntmps16
  go_wp2_with ((with_reducible refine (g.out _).mono ?_); rintro e w1 ⟨rfl, x1⟩; replace b0 := b0.trans (x1.mono b0.size))
  go_ret
  exact ⟨rfl, b0⟩
theorem is_rep42 {A B : On} {b : Bool} (h : OpdB 42 A B b) : IsTells ⟨42, 0, A, B, true, 0⟩ b := by
  intro w
  have g := Lib.hid h
  clear h
  have b0 := (Below.refl w.heap.size w).alloc (Nat.le_refl _) (.cells (in16 ⟨42, 0, A, B, true, 0⟩) 28)
  go_enter Tryd.func16, Tryd.ntmps16
  go_wp2_with ((with_reducible refine (g.out _).mono ?_); rintro e w1 ⟨rfl, x1⟩; replace b0 := b0.trans (x1.mono b0.size))
  go_ret
  exact ⟨rfl, b0⟩
end Go.Proofs.YtlooobehlhgccaaDoor
