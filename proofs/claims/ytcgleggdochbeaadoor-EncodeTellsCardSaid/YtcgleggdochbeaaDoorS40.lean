import Derived.Test.YtcgleggdochbeaaDoorS14
import Derived.Test.YtcgleggdochbeaaDoorS09
namespace Go.Proofs.YtcgleggdochbeaaDoor
open Go.RowKit
set_option linter.unusedVariables false
set_option linter.unusedSimpArgs false
set_option linter.unusedSectionVars false
abbrev TellsB (F : Nat) (o : On) (b : Bool) : Prop := ∀ W : World, Calls Tryd.prog F #[opV o] W fun e w' => e = .returned (.bool b) ∧ Below W.heap.size W w'
def MemOk (b x s : Int) : Prop := (-1 ≤ b ∧ b < 8) ∧ ((x = -1 ∧ s = 1) ∨ (0 ≤ x ∧ x < 8 ∧ x ≠ 4 ∧ (s = 1 ∨ s = 2 ∨ s = 4 ∨ s = 8)))
theorem none_z  : TellsB 73 (onZ) true := by
 intro w
 unfold onZ
 go_enter Tryd.func73, Tryd.ntmps73
 go_wp2
 go_ret
 exact ⟨rfl, (Below.refl _ _).alloc (Nat.le_refl _) _⟩
theorem isReg_reg {r : Int} (h : 0 ≤ r ∧ r < 8) : TellsB 69 (onReg r) true := by
 intro w
 have h1 : ((0 : Int) ≤ r) = True := eq_true h.1
 have h2 : (r < 8) = True := eq_true h.2
 unfold onReg
 go_enter Tryd.func69, Tryd.ntmps69
 go_wp2
 go_ret
 exact ⟨rfl, (Below.refl _ _).alloc (Nat.le_refl _) _⟩
theorem isImm_imm (m : Int) : TellsB 70 (onImm m) true := by
 intro w
 unfold onImm
 go_enter Tryd.func70, Tryd.ntmps70
 go_wp2
 go_ret
 exact ⟨rfl, (Below.refl _ _).alloc (Nat.le_refl _) _⟩
theorem isMem_mem (m : Int) {b x s : Int} (h : MemOk b x s) : TellsB 71 (onMem m b x s) true := by
 intro w
 obtain ⟨⟨h1, h2⟩, h3⟩ := h
 have g1 : ((-1 : Int) ≤ b) = True := eq_true h1
 have g2 : (b < 8) = True := eq_true h2
 have g3 : ((-1 : Int) ≤ x) = True := eq_true (by omega)
 have g4 : (x < 8) = True := eq_true (by omega)
 have g5 : (x != 4) = true := by simp; omega
 clear h1 h2
 unfold onMem
 rcases h3 with ⟨rfl, rfl⟩ | ⟨h4, -, -, rfl | rfl | rfl | rfl⟩
 ·go_enter Tryd.func71, Tryd.ntmps71
  go_wp2
  go_ret
  exact ⟨rfl, (Below.refl _ _).alloc (Nat.le_refl _) _⟩
 all_goals have g6 : ((0 : Int) ≤ x) = True := eq_true h4
 all_goals clear h4
 all_goals go_enter Tryd.func71, Tryd.ntmps71
 all_goals go_wp2
 all_goals go_ret
 all_goals exact ⟨rfl, (Below.refl _ _).alloc (Nat.le_refl _) _⟩
theorem rm_reg {o : On} (h1 : TellsB 69 o true) : TellsB 68 o true := by
 intro w
 have g1 := Lib.hid h1
 clear h1
 have b0 := (Below.refl w.heap.size w).alloc (Nat.le_refl _) (.cells (op6 o) 24)
 go_enter Tryd.func68, Tryd.ntmps68
 go_wp2_with (first | ((with_reducible refine (g1.out _).mono ?_); rintro e w1 ⟨rfl, b1⟩; replace b0 := b0.trans (b1.mono b0.size); have kO := (Blk.new w 24 (op6 o)).below b1 (Blk.new w 24 (op6 o)).lt; have c0 := kO.cell (i := 0) rfl; have c1 := kO.cell (i := 1) rfl; have c2 := kO.cell (i := 2) rfl; have c3 := kO.cell (i := 3) rfl; have c4 := kO.cell (i := 4) rfl; have c5 := kO.cell (i := 5) rfl))
 go_ret
 exact ⟨rfl, b0⟩
theorem rm_other {o : On} {b : Bool} (h1 : TellsB 69 o false) (h2 : TellsB 71 o b) : TellsB 68 o b := by
 intro w
 have g1 := Lib.hid h1
 have g2 := Lib.hid h2
 clear h1 h2
 have b0 := (Below.refl w.heap.size w).alloc (Nat.le_refl _) (.cells (op6 o) 24)
 go_enter Tryd.func68, Tryd.ntmps68
 go_wp2_with (first | ((with_reducible refine (g1.out _).mono ?_); rintro e w1 ⟨rfl, b1⟩; replace b0 := b0.trans (b1.mono b0.size); have kO := (Blk.new w 24 (op6 o)).below b1 (Blk.new w 24 (op6 o)).lt; have c0 := kO.cell (i := 0) rfl; have c1 := kO.cell (i := 1) rfl; have c2 := kO.cell (i := 2) rfl; have c3 := kO.cell (i := 3) rfl; have c4 := kO.cell (i := 4) rfl; have c5 := kO.cell (i := 5) rfl) | ((with_reducible refine (g2.out _).mono ?_); rintro e w2 ⟨rfl, b2⟩; replace b0 := b0.trans (b2.mono b0.size)))
 go_ret
 exact ⟨rfl, b0⟩
theorem byteI_no {o : On} (h1 : TellsB 70 o false) : TellsB 72 o false := by
 intro w
 have g1 := Lib.hid h1
 clear h1
 have b0 := (Below.refl w.heap.size w).alloc (Nat.le_refl _) (.cells (op6 o) 24)
 go_enter Tryd.func72, Tryd.ntmps72
 go_wp2_with (first | ((with_reducible refine (g1.out _).mono ?_); rintro e w1 ⟨rfl, b1⟩; replace b0 := b0.trans (b1.mono b0.size); have kO := (Blk.new w 24 (op6 o)).below b1 (Blk.new w 24 (op6 o)).lt; have c0 := kO.cell (i := 0) rfl; have c1 := kO.cell (i := 1) rfl; have c2 := kO.cell (i := 2) rfl; have c3 := kO.cell (i := 3) rfl; have c4 := kO.cell (i := 4) rfl; have c5 := kO.cell (i := 5) rfl))
 go_ret
 exact ⟨rfl, b0⟩
theorem byte_imm {m : Int} (h : m < 256) : TellsB 72 (onImm m) true := by
 intro w
 have g1 := Lib.hid (isImm_imm m)
 have g2 : (m < 256) = True := eq_true h
 have b0 := (Below.refl w.heap.size w).alloc (Nat.le_refl _) (.cells (op6 (onImm m)) 24)
 have kO := Blk.new w 24 (op6 (onImm m))
 go_enter Tryd.func72, Tryd.ntmps72
 go_wp2_with (first | ((with_reducible refine (g1.out _).mono ?_); rintro e w1 ⟨rfl, b1⟩; replace b0 := b0.trans (b1.mono b0.size); replace kO := kO.below b1 kO.lt; have c2 := kO.cell (i := 2) (v := .int .u32 m) rfl; have f2 := kO.fr 2))
 go_ret
 exact ⟨rfl, b0⟩
end Go.Proofs.YtcgleggdochbeaaDoor
