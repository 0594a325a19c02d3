import Derived.Test.YtcgleggdochbeaaDoorS46
namespace Go.Proofs.YtcgleggdochbeaaDoor
open Go.RowKit
set_option linter.unusedVariables false
set_option linter.unusedSimpArgs false
set_option linter.unusedSectionVars false
theorem ise_neg {A B : On} {op c l : Int} {r : Bool} (hl : l < 0) : IsTells ⟨op, c, A, B, r, l⟩ false := by
 intro w
 have n0 : (l < 0) = True := eq_true hl
 clear hl
 have b0 := (Below.refl w.heap.size w).alloc (Nat.le_refl _) (.cells (in16 ⟨op, c, A, B, r, l⟩) 26)
 go_enter Tryd.func22, Tryd.ntmps22
 go_wp2
 go_ret
 exact ⟨rfl, b0⟩
theorem ise_big {A B : On} {op c l : Int} {r : Bool} (hl : 15 < l) : IsTells ⟨op, c, A, B, r, l⟩ false := by
 intro w
 have n0 : (l < 0) = False := eq_false (by omega)
 have n1 : ((15 : Int) < l) = True := eq_true hl
 clear hl
 have b0 := (Below.refl w.heap.size w).alloc (Nat.le_refl _) (.cells (in16 ⟨op, c, A, B, r, l⟩) 26)
 go_enter Tryd.func22, Tryd.ntmps22
 go_wp2
 go_ret
 exact ⟨rfl, b0⟩
theorem ise_rep {A B : On} {op c l : Int} (hl : 0 ≤ l ∧ l ≤ 15) (ho : ¬ op = 41 ∧ ¬ op = 42) : IsTells ⟨op, c, A, B, true, l⟩ false := by
 intro w
 have n0 : (l < 0) = False := eq_false (by omega)
 have n1 : ((15 : Int) < l) = False := eq_false (by omega)
 have xop41 : (op != 41) = true := by simp; omega
 have xop42 : (op != 42) = true := by simp; omega
 clear hl ho
 have b0 := (Below.refl w.heap.size w).alloc (Nat.le_refl _) (.cells (in16 ⟨op, c, A, B, true, l⟩) 26)
 go_enter Tryd.func22, Tryd.ntmps22
 go_wp2
 go_ret
 exact ⟨rfl, b0⟩
theorem ise_f_lo {A B : On} {op c l : Int} (hl : 0 ≤ l ∧ l ≤ 15) (hc : c < 0) : IsTells ⟨op, c, A, B, false, l⟩ false := by
 intro w
 have n0 : (l < 0) = False := eq_false (by omega)
 have n1 : ((15 : Int) < l) = False := eq_false (by omega)
 have c0 : (c < 0) = True := eq_true hc
 clear hl hc
 have b0 := (Below.refl w.heap.size w).alloc (Nat.le_refl _) (.cells (in16 ⟨op, c, A, B, false, l⟩) 26)
 go_enter Tryd.func22, Tryd.ntmps22
 go_wp2
 go_ret
 exact ⟨rfl, b0⟩
theorem ise_f_hi {A B : On} {op c l : Int} (hl : 0 ≤ l ∧ l ≤ 15) (hc : 15 < c) : IsTells ⟨op, c, A, B, false, l⟩ false := by
 intro w
 have n0 : (l < 0) = False := eq_false (by omega)
 have n1 : ((15 : Int) < l) = False := eq_false (by omega)
 have c0 : (c < 0) = False := eq_false (by omega)
 have c1 : ((15 : Int) < c) = True := eq_true hc
 clear hl hc
 have b0 := (Below.refl w.heap.size w).alloc (Nat.le_refl _) (.cells (in16 ⟨op, c, A, B, false, l⟩) 26)
 go_enter Tryd.func22, Tryd.ntmps22
 go_wp2
 go_ret
 exact ⟨rfl, b0⟩
theorem ise_f_z {A B : On} {op l : Int} (hl : 0 ≤ l ∧ l ≤ 15) {b : Bool} (h : OpdB op A B b) : IsTells ⟨op, 0, A, B, false, l⟩ b := by
 intro w
 have g := Lib.hid h
 clear h
 have n0 : (l < 0) = False := eq_false (by omega)
 have n1 : ((15 : Int) < l) = False := eq_false (by omega)
 clear hl
 have b0 := (Below.refl w.heap.size w).alloc (Nat.le_refl _) (.cells (in16 ⟨op, 0, A, B, false, l⟩) 26)
 go_enter Tryd.func22, Tryd.ntmps22
 go_wp2_with ((with_reducible refine (g.out _).mono ?_); rintro e w1 ⟨rfl, x1⟩; replace b0 := b0.trans (x1.mono b0.size))
 go_ret
 exact ⟨rfl, b0⟩
theorem ise_f_no {A B : On} {op c l : Int} (hl : 0 ≤ l ∧ l ≤ 15) (hc : 0 < c ∧ c ≤ 15) (ho : ¬ op = 33 ∧ ¬ op = 34 ∧ ¬ op = 35) : IsTells ⟨op, c, A, B, false, l⟩ false := by
 intro w
 have n0 : (l < 0) = False := eq_false (by omega)
 have n1 : ((15 : Int) < l) = False := eq_false (by omega)
 have c0 : (c < 0) = False := eq_false (by omega)
 have c1 : ((15 : Int) < c) = False := eq_false (by omega)
 have c2 : (c != 0) = true := by simp; omega
 have xop33 : (op != 33) = true := by simp; omega
 have xop34 : (op != 34) = true := by simp; omega
 have xop35 : (op != 35) = true := by simp; omega
 clear hl hc ho
 have b0 := (Below.refl w.heap.size w).alloc (Nat.le_refl _) (.cells (in16 ⟨op, c, A, B, false, l⟩) 26)
 go_enter Tryd.func22, Tryd.ntmps22
 go_wp2
 go_ret
 exact ⟨rfl, b0⟩
theorem ise_t41_lo {A B : On} {c l : Int} (hl : 0 ≤ l ∧ l ≤ 15) (hc : c < 0) : IsTells ⟨41, c, A, B, true, l⟩ false := by
 intro w
 have n0 : (l < 0) = False := eq_false (by omega)
 have n1 : ((15 : Int) < l) = False := eq_false (by omega)
 have c0 : (c < 0) = True := eq_true hc
 clear hl hc
 have b0 := (Below.refl w.heap.size w).alloc (Nat.le_refl _) (.cells (in16 ⟨41, c, A, B, true, l⟩) 26)
 go_enter Tryd.func22, Tryd.ntmps22
 go_wp2
 go_ret
 exact ⟨rfl, b0⟩
theorem ise_t41_hi {A B : On} {c l : Int} (hl : 0 ≤ l ∧ l ≤ 15) (hc : 15 < c) : IsTells ⟨41, c, A, B, true, l⟩ false := by
 intro w
 have n0 : (l < 0) = False := eq_false (by omega)
 have n1 : ((15 : Int) < l) = False := eq_false (by omega)
 have c0 : (c < 0) = False := eq_false (by omega)
 have c1 : ((15 : Int) < c) = True := eq_true hc
 clear hl hc
 have b0 := (Below.refl w.heap.size w).alloc (Nat.le_refl _) (.cells (in16 ⟨41, c, A, B, true, l⟩) 26)
 go_enter Tryd.func22, Tryd.ntmps22
 go_wp2
 go_ret
 exact ⟨rfl, b0⟩
theorem ise_t41_z {A B : On} {l : Int} (hl : 0 ≤ l ∧ l ≤ 15) {b : Bool} (h : OpdB 41 A B b) : IsTells ⟨41, 0, A, B, true, l⟩ b := by
 intro w
 have g := Lib.hid h
 clear h
 have n0 : (l < 0) = False := eq_false (by omega)
 have n1 : ((15 : Int) < l) = False := eq_false (by omega)
 clear hl
 have b0 := (Below.refl w.heap.size w).alloc (Nat.le_refl _) (.cells (in16 ⟨41, 0, A, B, true, l⟩) 26)
 go_enter Tryd.func22, Tryd.ntmps22
 go_wp2_with ((with_reducible refine (g.out _).mono ?_); rintro e w1 ⟨rfl, x1⟩; replace b0 := b0.trans (x1.mono b0.size))
 go_ret
 exact ⟨rfl, b0⟩
theorem ise_t41_no {A B : On} {c l : Int} (hl : 0 ≤ l ∧ l ≤ 15) (hc : 0 < c ∧ c ≤ 15) : IsTells ⟨41, c, A, B, true, l⟩ false := by
 intro w
 have n0 : (l < 0) = False := eq_false (by omega)
 have n1 : ((15 : Int) < l) = False := eq_false (by omega)
 have c0 : (c < 0) = False := eq_false (by omega)
 have c1 : ((15 : Int) < c) = False := eq_false (by omega)
 have c2 : (c != 0) = true := by simp; omega
 clear hl hc
 have b0 := (Below.refl w.heap.size w).alloc (Nat.le_refl _) (.cells (in16 ⟨41, c, A, B, true, l⟩) 26)
 go_enter Tryd.func22, Tryd.ntmps22
 go_wp2
 go_ret
 exact ⟨rfl, b0⟩
theorem ise_t42_lo {A B : On} {c l : Int} (hl : 0 ≤ l ∧ l ≤ 15) (hc : c < 0) : IsTells ⟨42, c, A, B, true, l⟩ false := by
 intro w
 have n0 : (l < 0) = False := eq_false (by omega)
 have n1 : ((15 : Int) < l) = False := eq_false (by omega)
 have c0 : (c < 0) = True := eq_true hc
 clear hl hc
 have b0 := (Below.refl w.heap.size w).alloc (Nat.le_refl _) (.cells (in16 ⟨42, c, A, B, true, l⟩) 26)
 go_enter Tryd.func22, Tryd.ntmps22
 go_wp2
 go_ret
 exact ⟨rfl, b0⟩
theorem ise_t42_hi {A B : On} {c l : Int} (hl : 0 ≤ l ∧ l ≤ 15) (hc : 15 < c) : IsTells ⟨42, c, A, B, true, l⟩ false := by
 intro w
 have n0 : (l < 0) = False := eq_false (by omega)
 have n1 : ((15 : Int) < l) = False := eq_false (by omega)
 have c0 : (c < 0) = False := eq_false (by omega)
 have c1 : ((15 : Int) < c) = True := eq_true hc
 clear hl hc
 have b0 := (Below.refl w.heap.size w).alloc (Nat.le_refl _) (.cells (in16 ⟨42, c, A, B, true, l⟩) 26)
 go_enter Tryd.func22, Tryd.ntmps22
 go_wp2
 go_ret
 exact ⟨rfl, b0⟩
theorem ise_t42_z {A B : On} {l : Int} (hl : 0 ≤ l ∧ l ≤ 15) {b : Bool} (h : OpdB 42 A B b) : IsTells ⟨42, 0, A, B, true, l⟩ b := by
 intro w
 have g := Lib.hid h
 clear h
 have n0 : (l < 0) = False := eq_false (by omega)
 have n1 : ((15 : Int) < l) = False := eq_false (by omega)
 clear hl
 have b0 := (Below.refl w.heap.size w).alloc (Nat.le_refl _) (.cells (in16 ⟨42, 0, A, B, true, l⟩) 26)
 go_enter Tryd.func22, Tryd.ntmps22
 go_wp2_with ((with_reducible refine (g.out _).mono ?_); rintro e w1 ⟨rfl, x1⟩; replace b0 := b0.trans (x1.mono b0.size))
 go_ret
 exact ⟨rfl, b0⟩
theorem ise_t42_no {A B : On} {c l : Int} (hl : 0 ≤ l ∧ l ≤ 15) (hc : 0 < c ∧ c ≤ 15) : IsTells ⟨42, c, A, B, true, l⟩ false := by
 intro w
 have n0 : (l < 0) = False := eq_false (by omega)
 have n1 : ((15 : Int) < l) = False := eq_false (by omega)
 have c0 : (c < 0) = False := eq_false (by omega)
 have c1 : ((15 : Int) < c) = False := eq_false (by omega)
 have c2 : (c != 0) = true := by simp; omega
 clear hl hc
 have b0 := (Below.refl w.heap.size w).alloc (Nat.le_refl _) (.cells (in16 ⟨42, c, A, B, true, l⟩) 26)
 go_enter Tryd.func22, Tryd.ntmps22
 go_wp2
 go_ret
 exact ⟨rfl, b0⟩
theorem ise_c33 {A B : On} {c l : Int} (hl : 0 ≤ l ∧ l ≤ 15) (hc : 0 < c ∧ c ≤ 15) {b : Bool} (h : OpdB 33 A B b) : IsTells ⟨33, c, A, B, false, l⟩ b := by
 intro w
 have g := Lib.hid h
 clear h
 have n0 : (l < 0) = False := eq_false (by omega)
 have n1 : ((15 : Int) < l) = False := eq_false (by omega)
 have c0 : (c < 0) = False := eq_false (by omega)
 have c1 : ((15 : Int) < c) = False := eq_false (by omega)
 have c2 : (c != 0) = true := by simp; omega
 clear hl hc
 have b0 := (Below.refl w.heap.size w).alloc (Nat.le_refl _) (.cells (in16 ⟨33, c, A, B, false, l⟩) 26)
 go_enter Tryd.func22, Tryd.ntmps22
 go_wp2_with ((with_reducible refine (g.out _).mono ?_); rintro e w1 ⟨rfl, x1⟩; replace b0 := b0.trans (x1.mono b0.size))
 go_ret
 exact ⟨rfl, b0⟩
theorem ise_c34 {A B : On} {c l : Int} (hl : 0 ≤ l ∧ l ≤ 15) (hc : 0 < c ∧ c ≤ 15) {b : Bool} (h : OpdB 34 A B b) : IsTells ⟨34, c, A, B, false, l⟩ b := by
 intro w
 have g := Lib.hid h
 clear h
 have n0 : (l < 0) = False := eq_false (by omega)
 have n1 : ((15 : Int) < l) = False := eq_false (by omega)
 have c0 : (c < 0) = False := eq_false (by omega)
 have c1 : ((15 : Int) < c) = False := eq_false (by omega)
 have c2 : (c != 0) = true := by simp; omega
 clear hl hc
 have b0 := (Below.refl w.heap.size w).alloc (Nat.le_refl _) (.cells (in16 ⟨34, c, A, B, false, l⟩) 26)
 go_enter Tryd.func22, Tryd.ntmps22
 go_wp2_with ((with_reducible refine (g.out _).mono ?_); rintro e w1 ⟨rfl, x1⟩; replace b0 := b0.trans (x1.mono b0.size))
 go_ret
 exact ⟨rfl, b0⟩
theorem ise_c35 {A B : On} {c l : Int} (hl : 0 ≤ l ∧ l ≤ 15) (hc : 0 < c ∧ c ≤ 15) {b : Bool} (h : OpdB 35 A B b) : IsTells ⟨35, c, A, B, false, l⟩ b := by
 intro w
 have g := Lib.hid h
 clear h
 have n0 : (l < 0) = False := eq_false (by omega)
 have n1 : ((15 : Int) < l) = False := eq_false (by omega)
 have c0 : (c < 0) = False := eq_false (by omega)
 have c1 : ((15 : Int) < c) = False := eq_false (by omega)
 have c2 : (c != 0) = true := by simp; omega
 clear hl hc
 have b0 := (Below.refl w.heap.size w).alloc (Nat.le_refl _) (.cells (in16 ⟨35, c, A, B, false, l⟩) 26)
 go_enter Tryd.func22, Tryd.ntmps22
 go_wp2_with ((with_reducible refine (g.out _).mono ?_); rintro e w1 ⟨rfl, x1⟩; replace b0 := b0.trans (x1.mono b0.size))
 go_ret
 exact ⟨rfl, b0⟩
theorem cond_cases (c : Int) : c < 0 ∨ 15 < c ∨ c = 0 ∨ (0 < c ∧ c ≤ 15) := by omega
theorem knows_lo {op c : Int} (h : c < 0) : knowsB (rowN op) c = false := by
 unfold knowsB
 rw [show (c == 0) = false by simp; omega, decide_eq_false (show ¬ 0 < c by omega)]
 simp
theorem knows_hi {op c : Int} (h : 15 < c) : knowsB (rowN op) c = false := by
 unfold knowsB
 rw [show (c == 0) = false by simp; omega, decide_eq_false (show ¬ c < 16 by omega)]
 simp
theorem knows_mid {op c : Int} (h : 0 < c ∧ c ≤ 15) : knowsB (rowN op) c = (op == 33 || op == 34 || op == 35) := by
 unfold knowsB
 rw [show (c == 0) = false by simp; omega, decide_eq_true h.1, decide_eq_true (show c < 16 by omega), cond_row]
 simp
theorem isB_eq {op c : Int} {A B : On} {r : Bool} {l : Int} (hl : 0 ≤ l ∧ l ≤ 15) : isB ⟨op, c, A, B, r, l⟩ = ((rR (rowN op) || !r) && knowsB (rowN op) c && takesB (rowN op) (cA A) (cA B)) := by
 unfold isB
 dsimp only
 rw [decide_eq_true hl.1, decide_eq_true hl.2]
 simp
theorem is_any (i : In) : IsTells i (isB i) := by
 obtain ⟨op, c, A, B, r, l⟩ := i
 by_cases hn : l < 0
 ·rw [show isB ⟨op, c, A, B, r, l⟩ = false by unfold isB; dsimp only; rw [decide_eq_false (show ¬ 0 ≤ l by omega)]; simp]
  exact ise_neg hn
 by_cases h15 : 15 < l
 ·rw [show isB ⟨op, c, A, B, r, l⟩ = false by unfold isB; dsimp only; rw [decide_eq_false (show ¬ l ≤ 15 by omega)]; simp]
  exact ise_big h15
 have hl : 0 ≤ l ∧ l ≤ 15 := by omega
 have hO : OpdB op A B (takesB (rowN op) (cA A) (cA B)) := opd_any op
 rw [isB_eq hl]
 cases r
 ·rw [Bool.not_false, Bool.or_true, Bool.true_and]
  rcases cond_cases c with hc | hc | rfl | hc
  ·rw [knows_lo hc]; exact ise_f_lo hl hc
  ·rw [knows_hi hc]; exact ise_f_hi hl hc
  ·rw [show knowsB (rowN op) 0 = true from rfl, Bool.true_and]; exact ise_f_z hl hO
  ·rw [knows_mid hc]
   by_cases e3 : op = 33
   ·subst e3; exact ise_c33 hl hc hO
   by_cases e4 : op = 34
   ·subst e4; exact ise_c34 hl hc hO
   by_cases e5 : op = 35
   ·subst e5; exact ise_c35 hl hc hO
   rw [show (op == 33 || op == 34 || op == 35) = false by simp [e3, e4, e5], Bool.false_and]
   exact ise_f_no hl hc ⟨e3, e4, e5⟩
 ·rw [rep_row, Bool.not_true, Bool.or_false]
  by_cases e1 : op = 41
  ·subst e1
   rcases cond_cases c with hc | hc | rfl | hc
   ·rw [knows_lo hc]; exact ise_t41_lo hl hc
   ·rw [knows_hi hc]; exact ise_t41_hi hl hc
   ·exact ise_t41_z hl hO
   ·rw [knows_mid hc]; exact ise_t41_no hl hc
  by_cases e2 : op = 42
  ·subst e2
   rcases cond_cases c with hc | hc | rfl | hc
   ·rw [knows_lo hc]; exact ise_t42_lo hl hc
   ·rw [knows_hi hc]; exact ise_t42_hi hl hc
   ·exact ise_t42_z hl hO
   ·rw [knows_mid hc]; exact ise_t42_no hl hc
  rw [show (op == 41 || op == 42) = false by simp [e1, e2]]
  exact ise_rep hl ⟨e1, e2⟩
end Go.Proofs.YtcgleggdochbeaaDoor
