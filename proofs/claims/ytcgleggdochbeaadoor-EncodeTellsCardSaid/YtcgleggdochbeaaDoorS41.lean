import Derived.Test.YtcgleggdochbeaaDoorS40
namespace Go.Proofs.YtcgleggdochbeaaDoor
open Go.RowKit
set_option maxRecDepth 100000
set_option linter.unusedVariables false
set_option linter.unusedSimpArgs false
set_option linter.unusedSectionVars false
abbrev OpdB (op : Int) (A B : On) (b : Bool) : Prop := ∀ W : World, Calls Tryd.prog 42 #[.int .i64 op, opV A, opV B] W fun e w' => e = .returned (.bool b) ∧ Below W.heap.size W w'
theorem opd_mov_r {A B : On} (h0 : TellsB 68 A true) (h1 : TellsB 69 B true) : OpdB 1 A B true := by
 intro w
 have g0 := Lib.hid h0
 have g1 := Lib.hid h1
 clear h0 h1
 obtain ⟨kA, kB, b0⟩ := onAB w A B
 go_enter Tryd.func42, Tryd.ntmps42
 go_wp2_with (first | ((with_reducible refine (g0.out _).mono ?_); rintro e w0 ⟨rfl, x0⟩; obtain ⟨b0, kA, kB, a0, a1, a2, a3, a4, a5, c0, c1, c2, c3, c4, c5⟩ := onS b0 kA kB x0) | ((with_reducible refine (g1.out _).mono ?_); rintro e w1 ⟨rfl, x1⟩; obtain ⟨b0, kA, kB, a0, a1, a2, a3, a4, a5, c0, c1, c2, c3, c4, c5⟩ := onS b0 kA kB x1))
 go_ret
 exact ⟨rfl, b0⟩
theorem opd_mov_i {A B : On} (h0 : TellsB 68 A true) (h1 : TellsB 69 B false) (h2 : TellsB 70 B true) : OpdB 1 A B true := by
 intro w
 have g0 := Lib.hid h0
 have g1 := Lib.hid h1
 have g2 := Lib.hid h2
 clear h0 h1 h2
 obtain ⟨kA, kB, b0⟩ := onAB w A B
 go_enter Tryd.func42, Tryd.ntmps42
 go_wp2_with (first | ((with_reducible refine (g0.out _).mono ?_); rintro e w0 ⟨rfl, x0⟩; obtain ⟨b0, kA, kB, a0, a1, a2, a3, a4, a5, c0, c1, c2, c3, c4, c5⟩ := onS b0 kA kB x0) | ((with_reducible refine (g1.out _).mono ?_); rintro e w1 ⟨rfl, x1⟩; obtain ⟨b0, kA, kB, a0, a1, a2, a3, a4, a5, c0, c1, c2, c3, c4, c5⟩ := onS b0 kA kB x1) | ((with_reducible refine (g2.out _).mono ?_); rintro e w2 ⟨rfl, x2⟩; obtain ⟨b0, kA, kB, a0, a1, a2, a3, a4, a5, c0, c1, c2, c3, c4, c5⟩ := onS b0 kA kB x2))
 go_ret
 exact ⟨rfl, b0⟩
theorem opd_mov_m {A B : On} (h0 : TellsB 68 A true) (h1 : TellsB 69 B false) (h2 : TellsB 70 B false) (h3 : TellsB 69 A true) (h4 : TellsB 71 B true) : OpdB 1 A B true := by
 intro w
 have g0 := Lib.hid h0
 have g1 := Lib.hid h1
 have g2 := Lib.hid h2
 have g3 := Lib.hid h3
 have g4 := Lib.hid h4
 clear h0 h1 h2 h3 h4
 obtain ⟨kA, kB, b0⟩ := onAB w A B
 go_enter Tryd.func42, Tryd.ntmps42
 go_wp2_with (first | ((with_reducible refine (g0.out _).mono ?_); rintro e w0 ⟨rfl, x0⟩; obtain ⟨b0, kA, kB, a0, a1, a2, a3, a4, a5, c0, c1, c2, c3, c4, c5⟩ := onS b0 kA kB x0) | ((with_reducible refine (g1.out _).mono ?_); rintro e w1 ⟨rfl, x1⟩; obtain ⟨b0, kA, kB, a0, a1, a2, a3, a4, a5, c0, c1, c2, c3, c4, c5⟩ := onS b0 kA kB x1) | ((with_reducible refine (g2.out _).mono ?_); rintro e w2 ⟨rfl, x2⟩; obtain ⟨b0, kA, kB, a0, a1, a2, a3, a4, a5, c0, c1, c2, c3, c4, c5⟩ := onS b0 kA kB x2) | ((with_reducible refine (g3.out _).mono ?_); rintro e w3 ⟨rfl, x3⟩; obtain ⟨b0, kA, kB, a0, a1, a2, a3, a4, a5, c0, c1, c2, c3, c4, c5⟩ := onS b0 kA kB x3) | ((with_reducible refine (g4.out _).mono ?_); rintro e w4 ⟨rfl, x4⟩; obtain ⟨b0, kA, kB, a0, a1, a2, a3, a4, a5, c0, c1, c2, c3, c4, c5⟩ := onS b0 kA kB x4))
 go_ret
 exact ⟨rfl, b0⟩
theorem opd_eight_r {A B : On} {op : Int} (ho : 3 ≤ op ∧ op ≤ 10) (h0 : TellsB 68 A true) (h1 : TellsB 69 B true) : OpdB op A B true := by
 intro w
 have g0 := Lib.hid h0
 have g1 := Lib.hid h1
 clear h0 h1
 have e1 : (op == 1) = false := by simp; omega
 have e2 : ((3 : Int) ≤ op) = True := eq_true ho.1
 have e3 : (op ≤ 10) = True := eq_true ho.2
 clear ho
 obtain ⟨kA, kB, b0⟩ := onAB w A B
 go_enter Tryd.func42, Tryd.ntmps42
 go_wp2_with (first | ((with_reducible refine (g0.out _).mono ?_); rintro e w0 ⟨rfl, x0⟩; obtain ⟨b0, kA, kB, a0, a1, a2, a3, a4, a5, c0, c1, c2, c3, c4, c5⟩ := onS b0 kA kB x0) | ((with_reducible refine (g1.out _).mono ?_); rintro e w1 ⟨rfl, x1⟩; obtain ⟨b0, kA, kB, a0, a1, a2, a3, a4, a5, c0, c1, c2, c3, c4, c5⟩ := onS b0 kA kB x1))
 go_ret
 exact ⟨rfl, b0⟩
theorem opd_eight_i {A B : On} {op : Int} (ho : 3 ≤ op ∧ op ≤ 10) (h0 : TellsB 68 A true) (h1 : TellsB 69 B false) (h2 : TellsB 70 B true) : OpdB op A B true := by
 intro w
 have g0 := Lib.hid h0
 have g1 := Lib.hid h1
 have g2 := Lib.hid h2
 clear h0 h1 h2
 have e1 : (op == 1) = false := by simp; omega
 have e2 : ((3 : Int) ≤ op) = True := eq_true ho.1
 have e3 : (op ≤ 10) = True := eq_true ho.2
 clear ho
 obtain ⟨kA, kB, b0⟩ := onAB w A B
 go_enter Tryd.func42, Tryd.ntmps42
 go_wp2_with (first | ((with_reducible refine (g0.out _).mono ?_); rintro e w0 ⟨rfl, x0⟩; obtain ⟨b0, kA, kB, a0, a1, a2, a3, a4, a5, c0, c1, c2, c3, c4, c5⟩ := onS b0 kA kB x0) | ((with_reducible refine (g1.out _).mono ?_); rintro e w1 ⟨rfl, x1⟩; obtain ⟨b0, kA, kB, a0, a1, a2, a3, a4, a5, c0, c1, c2, c3, c4, c5⟩ := onS b0 kA kB x1) | ((with_reducible refine (g2.out _).mono ?_); rintro e w2 ⟨rfl, x2⟩; obtain ⟨b0, kA, kB, a0, a1, a2, a3, a4, a5, c0, c1, c2, c3, c4, c5⟩ := onS b0 kA kB x2))
 go_ret
 exact ⟨rfl, b0⟩
theorem opd_eight_m {A B : On} {op : Int} (ho : 3 ≤ op ∧ op ≤ 10) (h0 : TellsB 68 A true) (h1 : TellsB 69 B false) (h2 : TellsB 70 B false) (h3 : TellsB 69 A true) (h4 : TellsB 71 B true) : OpdB op A B true := by
 intro w
 have g0 := Lib.hid h0
 have g1 := Lib.hid h1
 have g2 := Lib.hid h2
 have g3 := Lib.hid h3
 have g4 := Lib.hid h4
 clear h0 h1 h2 h3 h4
 have e1 : (op == 1) = false := by simp; omega
 have e2 : ((3 : Int) ≤ op) = True := eq_true ho.1
 have e3 : (op ≤ 10) = True := eq_true ho.2
 clear ho
 obtain ⟨kA, kB, b0⟩ := onAB w A B
 go_enter Tryd.func42, Tryd.ntmps42
 go_wp2_with (first | ((with_reducible refine (g0.out _).mono ?_); rintro e w0 ⟨rfl, x0⟩; obtain ⟨b0, kA, kB, a0, a1, a2, a3, a4, a5, c0, c1, c2, c3, c4, c5⟩ := onS b0 kA kB x0) | ((with_reducible refine (g1.out _).mono ?_); rintro e w1 ⟨rfl, x1⟩; obtain ⟨b0, kA, kB, a0, a1, a2, a3, a4, a5, c0, c1, c2, c3, c4, c5⟩ := onS b0 kA kB x1) | ((with_reducible refine (g2.out _).mono ?_); rintro e w2 ⟨rfl, x2⟩; obtain ⟨b0, kA, kB, a0, a1, a2, a3, a4, a5, c0, c1, c2, c3, c4, c5⟩ := onS b0 kA kB x2) | ((with_reducible refine (g3.out _).mono ?_); rintro e w3 ⟨rfl, x3⟩; obtain ⟨b0, kA, kB, a0, a1, a2, a3, a4, a5, c0, c1, c2, c3, c4, c5⟩ := onS b0 kA kB x3) | ((with_reducible refine (g4.out _).mono ?_); rintro e w4 ⟨rfl, x4⟩; obtain ⟨b0, kA, kB, a0, a1, a2, a3, a4, a5, c0, c1, c2, c3, c4, c5⟩ := onS b0 kA kB x4))
 go_ret
 exact ⟨rfl, b0⟩
theorem opd_test_r {A B : On} (h0 : TellsB 68 A true) (h1 : TellsB 69 B true) : OpdB 11 A B true := by
 intro w
 have g0 := Lib.hid h0
 have g1 := Lib.hid h1
 clear h0 h1
 obtain ⟨kA, kB, b0⟩ := onAB w A B
 go_enter Tryd.func42, Tryd.ntmps42
 go_wp2_with (first | ((with_reducible refine (g0.out _).mono ?_); rintro e w0 ⟨rfl, x0⟩; obtain ⟨b0, kA, kB, a0, a1, a2, a3, a4, a5, c0, c1, c2, c3, c4, c5⟩ := onS b0 kA kB x0) | ((with_reducible refine (g1.out _).mono ?_); rintro e w1 ⟨rfl, x1⟩; obtain ⟨b0, kA, kB, a0, a1, a2, a3, a4, a5, c0, c1, c2, c3, c4, c5⟩ := onS b0 kA kB x1))
 go_ret
 exact ⟨rfl, b0⟩
theorem opd_test_i {A B : On} (h0 : TellsB 68 A true) (h1 : TellsB 69 B false) (h2 : TellsB 70 B true) : OpdB 11 A B true := by
 intro w
 have g0 := Lib.hid h0
 have g1 := Lib.hid h1
 have g2 := Lib.hid h2
 clear h0 h1 h2
 obtain ⟨kA, kB, b0⟩ := onAB w A B
 go_enter Tryd.func42, Tryd.ntmps42
 go_wp2_with (first | ((with_reducible refine (g0.out _).mono ?_); rintro e w0 ⟨rfl, x0⟩; obtain ⟨b0, kA, kB, a0, a1, a2, a3, a4, a5, c0, c1, c2, c3, c4, c5⟩ := onS b0 kA kB x0) | ((with_reducible refine (g1.out _).mono ?_); rintro e w1 ⟨rfl, x1⟩; obtain ⟨b0, kA, kB, a0, a1, a2, a3, a4, a5, c0, c1, c2, c3, c4, c5⟩ := onS b0 kA kB x1) | ((with_reducible refine (g2.out _).mono ?_); rintro e w2 ⟨rfl, x2⟩; obtain ⟨b0, kA, kB, a0, a1, a2, a3, a4, a5, c0, c1, c2, c3, c4, c5⟩ := onS b0 kA kB x2))
 go_ret
 exact ⟨rfl, b0⟩
theorem opd_movb_r {A B : On} (h0 : TellsB 68 A true) (h1 : TellsB 69 B true) : OpdB 2 A B true := by
 intro w
 have g0 := Lib.hid h0
 have g1 := Lib.hid h1
 clear h0 h1
 obtain ⟨kA, kB, b0⟩ := onAB w A B
 go_enter Tryd.func42, Tryd.ntmps42
 go_wp2_with (first | ((with_reducible refine (g0.out _).mono ?_); rintro e w0 ⟨rfl, x0⟩; obtain ⟨b0, kA, kB, a0, a1, a2, a3, a4, a5, c0, c1, c2, c3, c4, c5⟩ := onS b0 kA kB x0) | ((with_reducible refine (g1.out _).mono ?_); rintro e w1 ⟨rfl, x1⟩; obtain ⟨b0, kA, kB, a0, a1, a2, a3, a4, a5, c0, c1, c2, c3, c4, c5⟩ := onS b0 kA kB x1))
 go_ret
 exact ⟨rfl, b0⟩
theorem opd_movb_i {A B : On} (h0 : TellsB 68 A true) (h1 : TellsB 69 B false) (h2 : TellsB 72 B true) : OpdB 2 A B true := by
 intro w
 have g0 := Lib.hid h0
 have g1 := Lib.hid h1
 have g2 := Lib.hid h2
 clear h0 h1 h2
 obtain ⟨kA, kB, b0⟩ := onAB w A B
 go_enter Tryd.func42, Tryd.ntmps42
 go_wp2_with (first | ((with_reducible refine (g0.out _).mono ?_); rintro e w0 ⟨rfl, x0⟩; obtain ⟨b0, kA, kB, a0, a1, a2, a3, a4, a5, c0, c1, c2, c3, c4, c5⟩ := onS b0 kA kB x0) | ((with_reducible refine (g1.out _).mono ?_); rintro e w1 ⟨rfl, x1⟩; obtain ⟨b0, kA, kB, a0, a1, a2, a3, a4, a5, c0, c1, c2, c3, c4, c5⟩ := onS b0 kA kB x1) | ((with_reducible refine (g2.out _).mono ?_); rintro e w2 ⟨rfl, x2⟩; obtain ⟨b0, kA, kB, a0, a1, a2, a3, a4, a5, c0, c1, c2, c3, c4, c5⟩ := onS b0 kA kB x2))
 go_ret
 exact ⟨rfl, b0⟩
theorem opd_movb_m {A B : On} (h0 : TellsB 68 A true) (h1 : TellsB 69 B false) (h2 : TellsB 72 B false) (h3 : TellsB 69 A true) (h4 : TellsB 71 B true) : OpdB 2 A B true := by
 intro w
 have g0 := Lib.hid h0
 have g1 := Lib.hid h1
 have g2 := Lib.hid h2
 have g3 := Lib.hid h3
 have g4 := Lib.hid h4
 clear h0 h1 h2 h3 h4
 obtain ⟨kA, kB, b0⟩ := onAB w A B
 go_enter Tryd.func42, Tryd.ntmps42
 go_wp2_with (first | ((with_reducible refine (g0.out _).mono ?_); rintro e w0 ⟨rfl, x0⟩; obtain ⟨b0, kA, kB, a0, a1, a2, a3, a4, a5, c0, c1, c2, c3, c4, c5⟩ := onS b0 kA kB x0) | ((with_reducible refine (g1.out _).mono ?_); rintro e w1 ⟨rfl, x1⟩; obtain ⟨b0, kA, kB, a0, a1, a2, a3, a4, a5, c0, c1, c2, c3, c4, c5⟩ := onS b0 kA kB x1) | ((with_reducible refine (g2.out _).mono ?_); rintro e w2 ⟨rfl, x2⟩; obtain ⟨b0, kA, kB, a0, a1, a2, a3, a4, a5, c0, c1, c2, c3, c4, c5⟩ := onS b0 kA kB x2) | ((with_reducible refine (g3.out _).mono ?_); rintro e w3 ⟨rfl, x3⟩; obtain ⟨b0, kA, kB, a0, a1, a2, a3, a4, a5, c0, c1, c2, c3, c4, c5⟩ := onS b0 kA kB x3) | ((with_reducible refine (g4.out _).mono ?_); rintro e w4 ⟨rfl, x4⟩; obtain ⟨b0, kA, kB, a0, a1, a2, a3, a4, a5, c0, c1, c2, c3, c4, c5⟩ := onS b0 kA kB x4))
 go_ret
 exact ⟨rfl, b0⟩
theorem opd_xchg {A B : On} (h0 : TellsB 68 A true) (h1 : TellsB 69 B true) : OpdB 27 A B true := by
 intro w
 have g0 := Lib.hid h0
 have g1 := Lib.hid h1
 clear h0 h1
 obtain ⟨kA, kB, b0⟩ := onAB w A B
 go_enter Tryd.func42, Tryd.ntmps42
 go_wp2_with (first | ((with_reducible refine (g0.out _).mono ?_); rintro e w0 ⟨rfl, x0⟩; obtain ⟨b0, kA, kB, a0, a1, a2, a3, a4, a5, c0, c1, c2, c3, c4, c5⟩ := onS b0 kA kB x0) | ((with_reducible refine (g1.out _).mono ?_); rintro e w1 ⟨rfl, x1⟩; obtain ⟨b0, kA, kB, a0, a1, a2, a3, a4, a5, c0, c1, c2, c3, c4, c5⟩ := onS b0 kA kB x1))
 go_ret
 exact ⟨rfl, b0⟩
theorem opd_one12 {A B : On} (h0 : TellsB 68 A true) (h1 : TellsB 73 B true) : OpdB 12 A B true := by
 intro w
 have g0 := Lib.hid h0
 have g1 := Lib.hid h1
 clear h0 h1
 obtain ⟨kA, kB, b0⟩ := onAB w A B
 go_enter Tryd.func42, Tryd.ntmps42
 go_wp2_with (first | ((with_reducible refine (g0.out _).mono ?_); rintro e w0 ⟨rfl, x0⟩; obtain ⟨b0, kA, kB, a0, a1, a2, a3, a4, a5, c0, c1, c2, c3, c4, c5⟩ := onS b0 kA kB x0) | ((with_reducible refine (g1.out _).mono ?_); rintro e w1 ⟨rfl, x1⟩; obtain ⟨b0, kA, kB, a0, a1, a2, a3, a4, a5, c0, c1, c2, c3, c4, c5⟩ := onS b0 kA kB x1))
 go_ret
 exact ⟨rfl, b0⟩
theorem opd_one13 {A B : On} (h0 : TellsB 68 A true) (h1 : TellsB 73 B true) : OpdB 13 A B true := by
 intro w
 have g0 := Lib.hid h0
 have g1 := Lib.hid h1
 clear h0 h1
 obtain ⟨kA, kB, b0⟩ := onAB w A B
 go_enter Tryd.func42, Tryd.ntmps42
 go_wp2_with (first | ((with_reducible refine (g0.out _).mono ?_); rintro e w0 ⟨rfl, x0⟩; obtain ⟨b0, kA, kB, a0, a1, a2, a3, a4, a5, c0, c1, c2, c3, c4, c5⟩ := onS b0 kA kB x0) | ((with_reducible refine (g1.out _).mono ?_); rintro e w1 ⟨rfl, x1⟩; obtain ⟨b0, kA, kB, a0, a1, a2, a3, a4, a5, c0, c1, c2, c3, c4, c5⟩ := onS b0 kA kB x1))
 go_ret
 exact ⟨rfl, b0⟩
theorem opd_one14 {A B : On} (h0 : TellsB 68 A true) (h1 : TellsB 73 B true) : OpdB 14 A B true := by
 intro w
 have g0 := Lib.hid h0
 have g1 := Lib.hid h1
 clear h0 h1
 obtain ⟨kA, kB, b0⟩ := onAB w A B
 go_enter Tryd.func42, Tryd.ntmps42
 go_wp2_with (first | ((with_reducible refine (g0.out _).mono ?_); rintro e w0 ⟨rfl, x0⟩; obtain ⟨b0, kA, kB, a0, a1, a2, a3, a4, a5, c0, c1, c2, c3, c4, c5⟩ := onS b0 kA kB x0) | ((with_reducible refine (g1.out _).mono ?_); rintro e w1 ⟨rfl, x1⟩; obtain ⟨b0, kA, kB, a0, a1, a2, a3, a4, a5, c0, c1, c2, c3, c4, c5⟩ := onS b0 kA kB x1))
 go_ret
 exact ⟨rfl, b0⟩
theorem opd_one15 {A B : On} (h0 : TellsB 68 A true) (h1 : TellsB 73 B true) : OpdB 15 A B true := by
 intro w
 have g0 := Lib.hid h0
 have g1 := Lib.hid h1
 clear h0 h1
 obtain ⟨kA, kB, b0⟩ := onAB w A B
 go_enter Tryd.func42, Tryd.ntmps42
 go_wp2_with (first | ((with_reducible refine (g0.out _).mono ?_); rintro e w0 ⟨rfl, x0⟩; obtain ⟨b0, kA, kB, a0, a1, a2, a3, a4, a5, c0, c1, c2, c3, c4, c5⟩ := onS b0 kA kB x0) | ((with_reducible refine (g1.out _).mono ?_); rintro e w1 ⟨rfl, x1⟩; obtain ⟨b0, kA, kB, a0, a1, a2, a3, a4, a5, c0, c1, c2, c3, c4, c5⟩ := onS b0 kA kB x1))
 go_ret
 exact ⟨rfl, b0⟩
theorem opd_one16 {A B : On} (h0 : TellsB 68 A true) (h1 : TellsB 73 B true) : OpdB 16 A B true := by
 intro w
 have g0 := Lib.hid h0
 have g1 := Lib.hid h1
 clear h0 h1
 obtain ⟨kA, kB, b0⟩ := onAB w A B
 go_enter Tryd.func42, Tryd.ntmps42
 go_wp2_with (first | ((with_reducible refine (g0.out _).mono ?_); rintro e w0 ⟨rfl, x0⟩; obtain ⟨b0, kA, kB, a0, a1, a2, a3, a4, a5, c0, c1, c2, c3, c4, c5⟩ := onS b0 kA kB x0) | ((with_reducible refine (g1.out _).mono ?_); rintro e w1 ⟨rfl, x1⟩; obtain ⟨b0, kA, kB, a0, a1, a2, a3, a4, a5, c0, c1, c2, c3, c4, c5⟩ := onS b0 kA kB x1))
 go_ret
 exact ⟨rfl, b0⟩
theorem opd_one17 {A B : On} (h0 : TellsB 68 A true) (h1 : TellsB 73 B true) : OpdB 17 A B true := by
 intro w
 have g0 := Lib.hid h0
 have g1 := Lib.hid h1
 clear h0 h1
 obtain ⟨kA, kB, b0⟩ := onAB w A B
 go_enter Tryd.func42, Tryd.ntmps42
 go_wp2_with (first | ((with_reducible refine (g0.out _).mono ?_); rintro e w0 ⟨rfl, x0⟩; obtain ⟨b0, kA, kB, a0, a1, a2, a3, a4, a5, c0, c1, c2, c3, c4, c5⟩ := onS b0 kA kB x0) | ((with_reducible refine (g1.out _).mono ?_); rintro e w1 ⟨rfl, x1⟩; obtain ⟨b0, kA, kB, a0, a1, a2, a3, a4, a5, c0, c1, c2, c3, c4, c5⟩ := onS b0 kA kB x1))
 go_ret
 exact ⟨rfl, b0⟩
theorem opd_one19 {A B : On} (h0 : TellsB 68 A true) (h1 : TellsB 73 B true) : OpdB 19 A B true := by
 intro w
 have g0 := Lib.hid h0
 have g1 := Lib.hid h1
 clear h0 h1
 obtain ⟨kA, kB, b0⟩ := onAB w A B
 go_enter Tryd.func42, Tryd.ntmps42
 go_wp2_with (first | ((with_reducible refine (g0.out _).mono ?_); rintro e w0 ⟨rfl, x0⟩; obtain ⟨b0, kA, kB, a0, a1, a2, a3, a4, a5, c0, c1, c2, c3, c4, c5⟩ := onS b0 kA kB x0) | ((with_reducible refine (g1.out _).mono ?_); rintro e w1 ⟨rfl, x1⟩; obtain ⟨b0, kA, kB, a0, a1, a2, a3, a4, a5, c0, c1, c2, c3, c4, c5⟩ := onS b0 kA kB x1))
 go_ret
 exact ⟨rfl, b0⟩
theorem opd_one20 {A B : On} (h0 : TellsB 68 A true) (h1 : TellsB 73 B true) : OpdB 20 A B true := by
 intro w
 have g0 := Lib.hid h0
 have g1 := Lib.hid h1
 clear h0 h1
 obtain ⟨kA, kB, b0⟩ := onAB w A B
 go_enter Tryd.func42, Tryd.ntmps42
 go_wp2_with (first | ((with_reducible refine (g0.out _).mono ?_); rintro e w0 ⟨rfl, x0⟩; obtain ⟨b0, kA, kB, a0, a1, a2, a3, a4, a5, c0, c1, c2, c3, c4, c5⟩ := onS b0 kA kB x0) | ((with_reducible refine (g1.out _).mono ?_); rintro e w1 ⟨rfl, x1⟩; obtain ⟨b0, kA, kB, a0, a1, a2, a3, a4, a5, c0, c1, c2, c3, c4, c5⟩ := onS b0 kA kB x1))
 go_ret
 exact ⟨rfl, b0⟩
theorem opd_one34 {A B : On} (h0 : TellsB 68 A true) (h1 : TellsB 73 B true) : OpdB 34 A B true := by
 intro w
 have g0 := Lib.hid h0
 have g1 := Lib.hid h1
 clear h0 h1
 obtain ⟨kA, kB, b0⟩ := onAB w A B
 go_enter Tryd.func42, Tryd.ntmps42
 go_wp2_with (first | ((with_reducible refine (g0.out _).mono ?_); rintro e w0 ⟨rfl, x0⟩; obtain ⟨b0, kA, kB, a0, a1, a2, a3, a4, a5, c0, c1, c2, c3, c4, c5⟩ := onS b0 kA kB x0) | ((with_reducible refine (g1.out _).mono ?_); rintro e w1 ⟨rfl, x1⟩; obtain ⟨b0, kA, kB, a0, a1, a2, a3, a4, a5, c0, c1, c2, c3, c4, c5⟩ := onS b0 kA kB x1))
 go_ret
 exact ⟨rfl, b0⟩
theorem opd_one28 {A B : On} (h0 : TellsB 68 A true) (h1 : TellsB 73 B true) : OpdB 28 A B true := by
 intro w
 have g0 := Lib.hid h0
 have g1 := Lib.hid h1
 clear h0 h1
 obtain ⟨kA, kB, b0⟩ := onAB w A B
 go_enter Tryd.func42, Tryd.ntmps42
 go_wp2_with (first | ((with_reducible refine (g0.out _).mono ?_); rintro e w0 ⟨rfl, x0⟩; obtain ⟨b0, kA, kB, a0, a1, a2, a3, a4, a5, c0, c1, c2, c3, c4, c5⟩ := onS b0 kA kB x0) | ((with_reducible refine (g1.out _).mono ?_); rintro e w1 ⟨rfl, x1⟩; obtain ⟨b0, kA, kB, a0, a1, a2, a3, a4, a5, c0, c1, c2, c3, c4, c5⟩ := onS b0 kA kB x1))
 go_ret
 exact ⟨rfl, b0⟩
theorem opd_one30 {A B : On} (h0 : TellsB 68 A true) (h1 : TellsB 73 B true) : OpdB 30 A B true := by
 intro w
 have g0 := Lib.hid h0
 have g1 := Lib.hid h1
 clear h0 h1
 obtain ⟨kA, kB, b0⟩ := onAB w A B
 go_enter Tryd.func42, Tryd.ntmps42
 go_wp2_with (first | ((with_reducible refine (g0.out _).mono ?_); rintro e w0 ⟨rfl, x0⟩; obtain ⟨b0, kA, kB, a0, a1, a2, a3, a4, a5, c0, c1, c2, c3, c4, c5⟩ := onS b0 kA kB x0) | ((with_reducible refine (g1.out _).mono ?_); rintro e w1 ⟨rfl, x1⟩; obtain ⟨b0, kA, kB, a0, a1, a2, a3, a4, a5, c0, c1, c2, c3, c4, c5⟩ := onS b0 kA kB x1))
 go_ret
 exact ⟨rfl, b0⟩
theorem opd_one32 {A B : On} (h0 : TellsB 68 A true) (h1 : TellsB 73 B true) : OpdB 32 A B true := by
 intro w
 have g0 := Lib.hid h0
 have g1 := Lib.hid h1
 clear h0 h1
 obtain ⟨kA, kB, b0⟩ := onAB w A B
 go_enter Tryd.func42, Tryd.ntmps42
 go_wp2_with (first | ((with_reducible refine (g0.out _).mono ?_); rintro e w0 ⟨rfl, x0⟩; obtain ⟨b0, kA, kB, a0, a1, a2, a3, a4, a5, c0, c1, c2, c3, c4, c5⟩ := onS b0 kA kB x0) | ((with_reducible refine (g1.out _).mono ?_); rintro e w1 ⟨rfl, x1⟩; obtain ⟨b0, kA, kB, a0, a1, a2, a3, a4, a5, c0, c1, c2, c3, c4, c5⟩ := onS b0 kA kB x1))
 go_ret
 exact ⟨rfl, b0⟩
theorem opd_two18 {A B : On} (h0 : TellsB 69 A true) (h1 : TellsB 68 B true) : OpdB 18 A B true := by
 intro w
 have g0 := Lib.hid h0
 have g1 := Lib.hid h1
 clear h0 h1
 obtain ⟨kA, kB, b0⟩ := onAB w A B
 go_enter Tryd.func42, Tryd.ntmps42
 go_wp2_with (first | ((with_reducible refine (g0.out _).mono ?_); rintro e w0 ⟨rfl, x0⟩; obtain ⟨b0, kA, kB, a0, a1, a2, a3, a4, a5, c0, c1, c2, c3, c4, c5⟩ := onS b0 kA kB x0) | ((with_reducible refine (g1.out _).mono ?_); rintro e w1 ⟨rfl, x1⟩; obtain ⟨b0, kA, kB, a0, a1, a2, a3, a4, a5, c0, c1, c2, c3, c4, c5⟩ := onS b0 kA kB x1))
 go_ret
 exact ⟨rfl, b0⟩
theorem opd_two35 {A B : On} (h0 : TellsB 69 A true) (h1 : TellsB 68 B true) : OpdB 35 A B true := by
 intro w
 have g0 := Lib.hid h0
 have g1 := Lib.hid h1
 clear h0 h1
 obtain ⟨kA, kB, b0⟩ := onAB w A B
 go_enter Tryd.func42, Tryd.ntmps42
 go_wp2_with (first | ((with_reducible refine (g0.out _).mono ?_); rintro e w0 ⟨rfl, x0⟩; obtain ⟨b0, kA, kB, a0, a1, a2, a3, a4, a5, c0, c1, c2, c3, c4, c5⟩ := onS b0 kA kB x0) | ((with_reducible refine (g1.out _).mono ?_); rintro e w1 ⟨rfl, x1⟩; obtain ⟨b0, kA, kB, a0, a1, a2, a3, a4, a5, c0, c1, c2, c3, c4, c5⟩ := onS b0 kA kB x1))
 go_ret
 exact ⟨rfl, b0⟩
theorem opd_two36 {A B : On} (h0 : TellsB 69 A true) (h1 : TellsB 68 B true) : OpdB 36 A B true := by
 intro w
 have g0 := Lib.hid h0
 have g1 := Lib.hid h1
 clear h0 h1
 obtain ⟨kA, kB, b0⟩ := onAB w A B
 go_enter Tryd.func42, Tryd.ntmps42
 go_wp2_with (first | ((with_reducible refine (g0.out _).mono ?_); rintro e w0 ⟨rfl, x0⟩; obtain ⟨b0, kA, kB, a0, a1, a2, a3, a4, a5, c0, c1, c2, c3, c4, c5⟩ := onS b0 kA kB x0) | ((with_reducible refine (g1.out _).mono ?_); rintro e w1 ⟨rfl, x1⟩; obtain ⟨b0, kA, kB, a0, a1, a2, a3, a4, a5, c0, c1, c2, c3, c4, c5⟩ := onS b0 kA kB x1))
 go_ret
 exact ⟨rfl, b0⟩
theorem opd_two37 {A B : On} (h0 : TellsB 69 A true) (h1 : TellsB 68 B true) : OpdB 37 A B true := by
 intro w
 have g0 := Lib.hid h0
 have g1 := Lib.hid h1
 clear h0 h1
 obtain ⟨kA, kB, b0⟩ := onAB w A B
 go_enter Tryd.func42, Tryd.ntmps42
 go_wp2_with (first | ((with_reducible refine (g0.out _).mono ?_); rintro e w0 ⟨rfl, x0⟩; obtain ⟨b0, kA, kB, a0, a1, a2, a3, a4, a5, c0, c1, c2, c3, c4, c5⟩ := onS b0 kA kB x0) | ((with_reducible refine (g1.out _).mono ?_); rintro e w1 ⟨rfl, x1⟩; obtain ⟨b0, kA, kB, a0, a1, a2, a3, a4, a5, c0, c1, c2, c3, c4, c5⟩ := onS b0 kA kB x1))
 go_ret
 exact ⟨rfl, b0⟩
theorem opd_sh21_i {A B : On} (h0 : TellsB 68 A true) (h1 : TellsB 72 B true) : OpdB 21 A B true := by
 intro w
 have g0 := Lib.hid h0
 have g1 := Lib.hid h1
 clear h0 h1
 obtain ⟨kA, kB, b0⟩ := onAB w A B
 go_enter Tryd.func42, Tryd.ntmps42
 go_wp2_with (first | ((with_reducible refine (g0.out _).mono ?_); rintro e w0 ⟨rfl, x0⟩; obtain ⟨b0, kA, kB, a0, a1, a2, a3, a4, a5, c0, c1, c2, c3, c4, c5⟩ := onS b0 kA kB x0) | ((with_reducible refine (g1.out _).mono ?_); rintro e w1 ⟨rfl, x1⟩; obtain ⟨b0, kA, kB, a0, a1, a2, a3, a4, a5, c0, c1, c2, c3, c4, c5⟩ := onS b0 kA kB x1))
 go_ret
 exact ⟨rfl, b0⟩
theorem opd_sh22_i {A B : On} (h0 : TellsB 68 A true) (h1 : TellsB 72 B true) : OpdB 22 A B true := by
 intro w
 have g0 := Lib.hid h0
 have g1 := Lib.hid h1
 clear h0 h1
 obtain ⟨kA, kB, b0⟩ := onAB w A B
 go_enter Tryd.func42, Tryd.ntmps42
 go_wp2_with (first | ((with_reducible refine (g0.out _).mono ?_); rintro e w0 ⟨rfl, x0⟩; obtain ⟨b0, kA, kB, a0, a1, a2, a3, a4, a5, c0, c1, c2, c3, c4, c5⟩ := onS b0 kA kB x0) | ((with_reducible refine (g1.out _).mono ?_); rintro e w1 ⟨rfl, x1⟩; obtain ⟨b0, kA, kB, a0, a1, a2, a3, a4, a5, c0, c1, c2, c3, c4, c5⟩ := onS b0 kA kB x1))
 go_ret
 exact ⟨rfl, b0⟩
theorem opd_sh23_i {A B : On} (h0 : TellsB 68 A true) (h1 : TellsB 72 B true) : OpdB 23 A B true := by
 intro w
 have g0 := Lib.hid h0
 have g1 := Lib.hid h1
 clear h0 h1
 obtain ⟨kA, kB, b0⟩ := onAB w A B
 go_enter Tryd.func42, Tryd.ntmps42
 go_wp2_with (first | ((with_reducible refine (g0.out _).mono ?_); rintro e w0 ⟨rfl, x0⟩; obtain ⟨b0, kA, kB, a0, a1, a2, a3, a4, a5, c0, c1, c2, c3, c4, c5⟩ := onS b0 kA kB x0) | ((with_reducible refine (g1.out _).mono ?_); rintro e w1 ⟨rfl, x1⟩; obtain ⟨b0, kA, kB, a0, a1, a2, a3, a4, a5, c0, c1, c2, c3, c4, c5⟩ := onS b0 kA kB x1))
 go_ret
 exact ⟨rfl, b0⟩
theorem opd_sh24_i {A B : On} (h0 : TellsB 68 A true) (h1 : TellsB 72 B true) : OpdB 24 A B true := by
 intro w
 have g0 := Lib.hid h0
 have g1 := Lib.hid h1
 clear h0 h1
 obtain ⟨kA, kB, b0⟩ := onAB w A B
 go_enter Tryd.func42, Tryd.ntmps42
 go_wp2_with (first | ((with_reducible refine (g0.out _).mono ?_); rintro e w0 ⟨rfl, x0⟩; obtain ⟨b0, kA, kB, a0, a1, a2, a3, a4, a5, c0, c1, c2, c3, c4, c5⟩ := onS b0 kA kB x0) | ((with_reducible refine (g1.out _).mono ?_); rintro e w1 ⟨rfl, x1⟩; obtain ⟨b0, kA, kB, a0, a1, a2, a3, a4, a5, c0, c1, c2, c3, c4, c5⟩ := onS b0 kA kB x1))
 go_ret
 exact ⟨rfl, b0⟩
theorem opd_sh25_i {A B : On} (h0 : TellsB 68 A true) (h1 : TellsB 72 B true) : OpdB 25 A B true := by
 intro w
 have g0 := Lib.hid h0
 have g1 := Lib.hid h1
 clear h0 h1
 obtain ⟨kA, kB, b0⟩ := onAB w A B
 go_enter Tryd.func42, Tryd.ntmps42
 go_wp2_with (first | ((with_reducible refine (g0.out _).mono ?_); rintro e w0 ⟨rfl, x0⟩; obtain ⟨b0, kA, kB, a0, a1, a2, a3, a4, a5, c0, c1, c2, c3, c4, c5⟩ := onS b0 kA kB x0) | ((with_reducible refine (g1.out _).mono ?_); rintro e w1 ⟨rfl, x1⟩; obtain ⟨b0, kA, kB, a0, a1, a2, a3, a4, a5, c0, c1, c2, c3, c4, c5⟩ := onS b0 kA kB x1))
 go_ret
 exact ⟨rfl, b0⟩
theorem opd_sh21_r {A B : On} {u : Bool} (hr : (B.r == 1) = u) (h0 : TellsB 68 A true) (h1 : TellsB 72 B false) (h2 : TellsB 69 B true) : OpdB 21 A B u := by
 intro w
 have g0 := Lib.hid h0
 have g1 := Lib.hid h1
 have g2 := Lib.hid h2
 clear h0 h1 h2
 obtain ⟨kA, kB, b0⟩ := onAB w A B
 go_enter Tryd.func42, Tryd.ntmps42
 go_wp2_with (first | ((with_reducible refine (g0.out _).mono ?_); rintro e w0 ⟨rfl, x0⟩; obtain ⟨b0, kA, kB, a0, a1, a2, a3, a4, a5, c0, c1, c2, c3, c4, c5⟩ := onS b0 kA kB x0) | ((with_reducible refine (g1.out _).mono ?_); rintro e w1 ⟨rfl, x1⟩; obtain ⟨b0, kA, kB, a0, a1, a2, a3, a4, a5, c0, c1, c2, c3, c4, c5⟩ := onS b0 kA kB x1) | ((with_reducible refine (g2.out _).mono ?_); rintro e w2 ⟨rfl, x2⟩; obtain ⟨b0, kA, kB, a0, a1, a2, a3, a4, a5, c0, c1, c2, c3, c4, c5⟩ := onS b0 kA kB x2))
 go_ret
 exact ⟨rfl, b0⟩
theorem opd_sh22_r {A B : On} {u : Bool} (hr : (B.r == 1) = u) (h0 : TellsB 68 A true) (h1 : TellsB 72 B false) (h2 : TellsB 69 B true) : OpdB 22 A B u := by
 intro w
 have g0 := Lib.hid h0
 have g1 := Lib.hid h1
 have g2 := Lib.hid h2
 clear h0 h1 h2
 obtain ⟨kA, kB, b0⟩ := onAB w A B
 go_enter Tryd.func42, Tryd.ntmps42
 go_wp2_with (first | ((with_reducible refine (g0.out _).mono ?_); rintro e w0 ⟨rfl, x0⟩; obtain ⟨b0, kA, kB, a0, a1, a2, a3, a4, a5, c0, c1, c2, c3, c4, c5⟩ := onS b0 kA kB x0) | ((with_reducible refine (g1.out _).mono ?_); rintro e w1 ⟨rfl, x1⟩; obtain ⟨b0, kA, kB, a0, a1, a2, a3, a4, a5, c0, c1, c2, c3, c4, c5⟩ := onS b0 kA kB x1) | ((with_reducible refine (g2.out _).mono ?_); rintro e w2 ⟨rfl, x2⟩; obtain ⟨b0, kA, kB, a0, a1, a2, a3, a4, a5, c0, c1, c2, c3, c4, c5⟩ := onS b0 kA kB x2))
 go_ret
 exact ⟨rfl, b0⟩
theorem opd_sh23_r {A B : On} {u : Bool} (hr : (B.r == 1) = u) (h0 : TellsB 68 A true) (h1 : TellsB 72 B false) (h2 : TellsB 69 B true) : OpdB 23 A B u := by
 intro w
 have g0 := Lib.hid h0
 have g1 := Lib.hid h1
 have g2 := Lib.hid h2
 clear h0 h1 h2
 obtain ⟨kA, kB, b0⟩ := onAB w A B
 go_enter Tryd.func42, Tryd.ntmps42
 go_wp2_with (first | ((with_reducible refine (g0.out _).mono ?_); rintro e w0 ⟨rfl, x0⟩; obtain ⟨b0, kA, kB, a0, a1, a2, a3, a4, a5, c0, c1, c2, c3, c4, c5⟩ := onS b0 kA kB x0) | ((with_reducible refine (g1.out _).mono ?_); rintro e w1 ⟨rfl, x1⟩; obtain ⟨b0, kA, kB, a0, a1, a2, a3, a4, a5, c0, c1, c2, c3, c4, c5⟩ := onS b0 kA kB x1) | ((with_reducible refine (g2.out _).mono ?_); rintro e w2 ⟨rfl, x2⟩; obtain ⟨b0, kA, kB, a0, a1, a2, a3, a4, a5, c0, c1, c2, c3, c4, c5⟩ := onS b0 kA kB x2))
 go_ret
 exact ⟨rfl, b0⟩
theorem opd_sh24_r {A B : On} {u : Bool} (hr : (B.r == 1) = u) (h0 : TellsB 68 A true) (h1 : TellsB 72 B false) (h2 : TellsB 69 B true) : OpdB 24 A B u := by
 intro w
 have g0 := Lib.hid h0
 have g1 := Lib.hid h1
 have g2 := Lib.hid h2
 clear h0 h1 h2
 obtain ⟨kA, kB, b0⟩ := onAB w A B
 go_enter Tryd.func42, Tryd.ntmps42
 go_wp2_with (first | ((with_reducible refine (g0.out _).mono ?_); rintro e w0 ⟨rfl, x0⟩; obtain ⟨b0, kA, kB, a0, a1, a2, a3, a4, a5, c0, c1, c2, c3, c4, c5⟩ := onS b0 kA kB x0) | ((with_reducible refine (g1.out _).mono ?_); rintro e w1 ⟨rfl, x1⟩; obtain ⟨b0, kA, kB, a0, a1, a2, a3, a4, a5, c0, c1, c2, c3, c4, c5⟩ := onS b0 kA kB x1) | ((with_reducible refine (g2.out _).mono ?_); rintro e w2 ⟨rfl, x2⟩; obtain ⟨b0, kA, kB, a0, a1, a2, a3, a4, a5, c0, c1, c2, c3, c4, c5⟩ := onS b0 kA kB x2))
 go_ret
 exact ⟨rfl, b0⟩
theorem opd_sh25_r {A B : On} {u : Bool} (hr : (B.r == 1) = u) (h0 : TellsB 68 A true) (h1 : TellsB 72 B false) (h2 : TellsB 69 B true) : OpdB 25 A B u := by
 intro w
 have g0 := Lib.hid h0
 have g1 := Lib.hid h1
 have g2 := Lib.hid h2
 clear h0 h1 h2
 obtain ⟨kA, kB, b0⟩ := onAB w A B
 go_enter Tryd.func42, Tryd.ntmps42
 go_wp2_with (first | ((with_reducible refine (g0.out _).mono ?_); rintro e w0 ⟨rfl, x0⟩; obtain ⟨b0, kA, kB, a0, a1, a2, a3, a4, a5, c0, c1, c2, c3, c4, c5⟩ := onS b0 kA kB x0) | ((with_reducible refine (g1.out _).mono ?_); rintro e w1 ⟨rfl, x1⟩; obtain ⟨b0, kA, kB, a0, a1, a2, a3, a4, a5, c0, c1, c2, c3, c4, c5⟩ := onS b0 kA kB x1) | ((with_reducible refine (g2.out _).mono ?_); rintro e w2 ⟨rfl, x2⟩; obtain ⟨b0, kA, kB, a0, a1, a2, a3, a4, a5, c0, c1, c2, c3, c4, c5⟩ := onS b0 kA kB x2))
 go_ret
 exact ⟨rfl, b0⟩
theorem opd_lea {A B : On} (h0 : TellsB 69 A true) (h1 : TellsB 71 B true) : OpdB 26 A B true := by
 intro w
 have g0 := Lib.hid h0
 have g1 := Lib.hid h1
 clear h0 h1
 obtain ⟨kA, kB, b0⟩ := onAB w A B
 go_enter Tryd.func42, Tryd.ntmps42
 go_wp2_with (first | ((with_reducible refine (g0.out _).mono ?_); rintro e w0 ⟨rfl, x0⟩; obtain ⟨b0, kA, kB, a0, a1, a2, a3, a4, a5, c0, c1, c2, c3, c4, c5⟩ := onS b0 kA kB x0) | ((with_reducible refine (g1.out _).mono ?_); rintro e w1 ⟨rfl, x1⟩; obtain ⟨b0, kA, kB, a0, a1, a2, a3, a4, a5, c0, c1, c2, c3, c4, c5⟩ := onS b0 kA kB x1))
 go_ret
 exact ⟨rfl, b0⟩
theorem opd_imm28 {A B : On} (h0 : TellsB 68 A false) (h1 : TellsB 70 A true) (h2 : TellsB 73 B true) : OpdB 28 A B true := by
 intro w
 have g0 := Lib.hid h0
 have g1 := Lib.hid h1
 have g2 := Lib.hid h2
 clear h0 h1 h2
 obtain ⟨kA, kB, b0⟩ := onAB w A B
 go_enter Tryd.func42, Tryd.ntmps42
 go_wp2_with (first | ((with_reducible refine (g0.out _).mono ?_); rintro e w0 ⟨rfl, x0⟩; obtain ⟨b0, kA, kB, a0, a1, a2, a3, a4, a5, c0, c1, c2, c3, c4, c5⟩ := onS b0 kA kB x0) | ((with_reducible refine (g1.out _).mono ?_); rintro e w1 ⟨rfl, x1⟩; obtain ⟨b0, kA, kB, a0, a1, a2, a3, a4, a5, c0, c1, c2, c3, c4, c5⟩ := onS b0 kA kB x1) | ((with_reducible refine (g2.out _).mono ?_); rintro e w2 ⟨rfl, x2⟩; obtain ⟨b0, kA, kB, a0, a1, a2, a3, a4, a5, c0, c1, c2, c3, c4, c5⟩ := onS b0 kA kB x2))
 go_ret
 exact ⟨rfl, b0⟩
theorem opd_imm30 {A B : On} (h0 : TellsB 68 A false) (h1 : TellsB 70 A true) (h2 : TellsB 73 B true) : OpdB 30 A B true := by
 intro w
 have g0 := Lib.hid h0
 have g1 := Lib.hid h1
 have g2 := Lib.hid h2
 clear h0 h1 h2
 obtain ⟨kA, kB, b0⟩ := onAB w A B
 go_enter Tryd.func42, Tryd.ntmps42
 go_wp2_with (first | ((with_reducible refine (g0.out _).mono ?_); rintro e w0 ⟨rfl, x0⟩; obtain ⟨b0, kA, kB, a0, a1, a2, a3, a4, a5, c0, c1, c2, c3, c4, c5⟩ := onS b0 kA kB x0) | ((with_reducible refine (g1.out _).mono ?_); rintro e w1 ⟨rfl, x1⟩; obtain ⟨b0, kA, kB, a0, a1, a2, a3, a4, a5, c0, c1, c2, c3, c4, c5⟩ := onS b0 kA kB x1) | ((with_reducible refine (g2.out _).mono ?_); rintro e w2 ⟨rfl, x2⟩; obtain ⟨b0, kA, kB, a0, a1, a2, a3, a4, a5, c0, c1, c2, c3, c4, c5⟩ := onS b0 kA kB x2))
 go_ret
 exact ⟨rfl, b0⟩
theorem opd_imm32 {A B : On} (h0 : TellsB 68 A false) (h1 : TellsB 70 A true) (h2 : TellsB 73 B true) : OpdB 32 A B true := by
 intro w
 have g0 := Lib.hid h0
 have g1 := Lib.hid h1
 have g2 := Lib.hid h2
 clear h0 h1 h2
 obtain ⟨kA, kB, b0⟩ := onAB w A B
 go_enter Tryd.func42, Tryd.ntmps42
 go_wp2_with (first | ((with_reducible refine (g0.out _).mono ?_); rintro e w0 ⟨rfl, x0⟩; obtain ⟨b0, kA, kB, a0, a1, a2, a3, a4, a5, c0, c1, c2, c3, c4, c5⟩ := onS b0 kA kB x0) | ((with_reducible refine (g1.out _).mono ?_); rintro e w1 ⟨rfl, x1⟩; obtain ⟨b0, kA, kB, a0, a1, a2, a3, a4, a5, c0, c1, c2, c3, c4, c5⟩ := onS b0 kA kB x1) | ((with_reducible refine (g2.out _).mono ?_); rintro e w2 ⟨rfl, x2⟩; obtain ⟨b0, kA, kB, a0, a1, a2, a3, a4, a5, c0, c1, c2, c3, c4, c5⟩ := onS b0 kA kB x2))
 go_ret
 exact ⟨rfl, b0⟩
theorem opd_pop {A B : On} (h0 : TellsB 69 A true) (h1 : TellsB 73 B true) : OpdB 29 A B true := by
 intro w
 have g0 := Lib.hid h0
 have g1 := Lib.hid h1
 clear h0 h1
 obtain ⟨kA, kB, b0⟩ := onAB w A B
 go_enter Tryd.func42, Tryd.ntmps42
 go_wp2_with (first | ((with_reducible refine (g0.out _).mono ?_); rintro e w0 ⟨rfl, x0⟩; obtain ⟨b0, kA, kB, a0, a1, a2, a3, a4, a5, c0, c1, c2, c3, c4, c5⟩ := onS b0 kA kB x0) | ((with_reducible refine (g1.out _).mono ?_); rintro e w1 ⟨rfl, x1⟩; obtain ⟨b0, kA, kB, a0, a1, a2, a3, a4, a5, c0, c1, c2, c3, c4, c5⟩ := onS b0 kA kB x1))
 go_ret
 exact ⟨rfl, b0⟩
theorem opd_jcc {A B : On} (h0 : TellsB 70 A true) (h1 : TellsB 73 B true) : OpdB 33 A B true := by
 intro w
 have g0 := Lib.hid h0
 have g1 := Lib.hid h1
 clear h0 h1
 obtain ⟨kA, kB, b0⟩ := onAB w A B
 go_enter Tryd.func42, Tryd.ntmps42
 go_wp2_with (first | ((with_reducible refine (g0.out _).mono ?_); rintro e w0 ⟨rfl, x0⟩; obtain ⟨b0, kA, kB, a0, a1, a2, a3, a4, a5, c0, c1, c2, c3, c4, c5⟩ := onS b0 kA kB x0) | ((with_reducible refine (g1.out _).mono ?_); rintro e w1 ⟨rfl, x1⟩; obtain ⟨b0, kA, kB, a0, a1, a2, a3, a4, a5, c0, c1, c2, c3, c4, c5⟩ := onS b0 kA kB x1))
 go_ret
 exact ⟨rfl, b0⟩
theorem opd_int {A B : On} {u : Bool} (hm : (A.m == 128) = u) (h0 : TellsB 70 A true) (h1 : TellsB 73 B true) : OpdB 43 A B u := by
 intro w
 have g0 := Lib.hid h0
 have g1 := Lib.hid h1
 clear h0 h1
 obtain ⟨kA, kB, b0⟩ := onAB w A B
 go_enter Tryd.func42, Tryd.ntmps42
 go_wp2_with (first | ((with_reducible refine (g0.out _).mono ?_); rintro e w0 ⟨rfl, x0⟩; obtain ⟨b0, kA, kB, a0, a1, a2, a3, a4, a5, c0, c1, c2, c3, c4, c5⟩ := onS b0 kA kB x0) | ((with_reducible refine (g1.out _).mono ?_); rintro e w1 ⟨rfl, x1⟩; obtain ⟨b0, kA, kB, a0, a1, a2, a3, a4, a5, c0, c1, c2, c3, c4, c5⟩ := onS b0 kA kB x1))
 all_goals go_ret
 all_goals exact ⟨by simp_all, b0⟩
theorem opd_mem45 {A B : On} (h0 : TellsB 71 A true) (h1 : TellsB 73 B true) : OpdB 45 A B true := by
 intro w
 have g0 := Lib.hid h0
 have g1 := Lib.hid h1
 clear h0 h1
 obtain ⟨kA, kB, b0⟩ := onAB w A B
 go_enter Tryd.func42, Tryd.ntmps42
 go_wp2_with (first | ((with_reducible refine (g0.out _).mono ?_); rintro e w0 ⟨rfl, x0⟩; obtain ⟨b0, kA, kB, a0, a1, a2, a3, a4, a5, c0, c1, c2, c3, c4, c5⟩ := onS b0 kA kB x0) | ((with_reducible refine (g1.out _).mono ?_); rintro e w1 ⟨rfl, x1⟩; obtain ⟨b0, kA, kB, a0, a1, a2, a3, a4, a5, c0, c1, c2, c3, c4, c5⟩ := onS b0 kA kB x1))
 go_ret
 exact ⟨rfl, b0⟩
theorem opd_mem46 {A B : On} (h0 : TellsB 71 A true) (h1 : TellsB 73 B true) : OpdB 46 A B true := by
 intro w
 have g0 := Lib.hid h0
 have g1 := Lib.hid h1
 clear h0 h1
 obtain ⟨kA, kB, b0⟩ := onAB w A B
 go_enter Tryd.func42, Tryd.ntmps42
 go_wp2_with (first | ((with_reducible refine (g0.out _).mono ?_); rintro e w0 ⟨rfl, x0⟩; obtain ⟨b0, kA, kB, a0, a1, a2, a3, a4, a5, c0, c1, c2, c3, c4, c5⟩ := onS b0 kA kB x0) | ((with_reducible refine (g1.out _).mono ?_); rintro e w1 ⟨rfl, x1⟩; obtain ⟨b0, kA, kB, a0, a1, a2, a3, a4, a5, c0, c1, c2, c3, c4, c5⟩ := onS b0 kA kB x1))
 go_ret
 exact ⟨rfl, b0⟩
theorem opd_mem47 {A B : On} (h0 : TellsB 71 A true) (h1 : TellsB 73 B true) : OpdB 47 A B true := by
 intro w
 have g0 := Lib.hid h0
 have g1 := Lib.hid h1
 clear h0 h1
 obtain ⟨kA, kB, b0⟩ := onAB w A B
 go_enter Tryd.func42, Tryd.ntmps42
 go_wp2_with (first | ((with_reducible refine (g0.out _).mono ?_); rintro e w0 ⟨rfl, x0⟩; obtain ⟨b0, kA, kB, a0, a1, a2, a3, a4, a5, c0, c1, c2, c3, c4, c5⟩ := onS b0 kA kB x0) | ((with_reducible refine (g1.out _).mono ?_); rintro e w1 ⟨rfl, x1⟩; obtain ⟨b0, kA, kB, a0, a1, a2, a3, a4, a5, c0, c1, c2, c3, c4, c5⟩ := onS b0 kA kB x1))
 go_ret
 exact ⟨rfl, b0⟩
theorem opd_mem48 {A B : On} (h0 : TellsB 71 A true) (h1 : TellsB 73 B true) : OpdB 48 A B true := by
 intro w
 have g0 := Lib.hid h0
 have g1 := Lib.hid h1
 clear h0 h1
 obtain ⟨kA, kB, b0⟩ := onAB w A B
 go_enter Tryd.func42, Tryd.ntmps42
 go_wp2_with (first | ((with_reducible refine (g0.out _).mono ?_); rintro e w0 ⟨rfl, x0⟩; obtain ⟨b0, kA, kB, a0, a1, a2, a3, a4, a5, c0, c1, c2, c3, c4, c5⟩ := onS b0 kA kB x0) | ((with_reducible refine (g1.out _).mono ?_); rintro e w1 ⟨rfl, x1⟩; obtain ⟨b0, kA, kB, a0, a1, a2, a3, a4, a5, c0, c1, c2, c3, c4, c5⟩ := onS b0 kA kB x1))
 go_ret
 exact ⟨rfl, b0⟩
theorem opd_mem49 {A B : On} (h0 : TellsB 71 A true) (h1 : TellsB 73 B true) : OpdB 49 A B true := by
 intro w
 have g0 := Lib.hid h0
 have g1 := Lib.hid h1
 clear h0 h1
 obtain ⟨kA, kB, b0⟩ := onAB w A B
 go_enter Tryd.func42, Tryd.ntmps42
 go_wp2_with (first | ((with_reducible refine (g0.out _).mono ?_); rintro e w0 ⟨rfl, x0⟩; obtain ⟨b0, kA, kB, a0, a1, a2, a3, a4, a5, c0, c1, c2, c3, c4, c5⟩ := onS b0 kA kB x0) | ((with_reducible refine (g1.out _).mono ?_); rintro e w1 ⟨rfl, x1⟩; obtain ⟨b0, kA, kB, a0, a1, a2, a3, a4, a5, c0, c1, c2, c3, c4, c5⟩ := onS b0 kA kB x1))
 go_ret
 exact ⟨rfl, b0⟩
theorem opd_mem50 {A B : On} (h0 : TellsB 71 A true) (h1 : TellsB 73 B true) : OpdB 50 A B true := by
 intro w
 have g0 := Lib.hid h0
 have g1 := Lib.hid h1
 clear h0 h1
 obtain ⟨kA, kB, b0⟩ := onAB w A B
 go_enter Tryd.func42, Tryd.ntmps42
 go_wp2_with (first | ((with_reducible refine (g0.out _).mono ?_); rintro e w0 ⟨rfl, x0⟩; obtain ⟨b0, kA, kB, a0, a1, a2, a3, a4, a5, c0, c1, c2, c3, c4, c5⟩ := onS b0 kA kB x0) | ((with_reducible refine (g1.out _).mono ?_); rintro e w1 ⟨rfl, x1⟩; obtain ⟨b0, kA, kB, a0, a1, a2, a3, a4, a5, c0, c1, c2, c3, c4, c5⟩ := onS b0 kA kB x1))
 go_ret
 exact ⟨rfl, b0⟩
theorem opd_mem53 {A B : On} (h0 : TellsB 71 A true) (h1 : TellsB 73 B true) : OpdB 53 A B true := by
 intro w
 have g0 := Lib.hid h0
 have g1 := Lib.hid h1
 clear h0 h1
 obtain ⟨kA, kB, b0⟩ := onAB w A B
 go_enter Tryd.func42, Tryd.ntmps42
 go_wp2_with (first | ((with_reducible refine (g0.out _).mono ?_); rintro e w0 ⟨rfl, x0⟩; obtain ⟨b0, kA, kB, a0, a1, a2, a3, a4, a5, c0, c1, c2, c3, c4, c5⟩ := onS b0 kA kB x0) | ((with_reducible refine (g1.out _).mono ?_); rintro e w1 ⟨rfl, x1⟩; obtain ⟨b0, kA, kB, a0, a1, a2, a3, a4, a5, c0, c1, c2, c3, c4, c5⟩ := onS b0 kA kB x1))
 go_ret
 exact ⟨rfl, b0⟩
theorem opd_z31 {A B : On} (h0 : TellsB 73 A true) (h1 : TellsB 73 B true) : OpdB 31 A B true := by
 intro w
 have g0 := Lib.hid h0
 have g1 := Lib.hid h1
 clear h0 h1
 obtain ⟨kA, kB, b0⟩ := onAB w A B
 go_enter Tryd.func42, Tryd.ntmps42
 go_wp2_with (first | ((with_reducible refine (g0.out _).mono ?_); rintro e w0 ⟨rfl, x0⟩; obtain ⟨b0, kA, kB, a0, a1, a2, a3, a4, a5, c0, c1, c2, c3, c4, c5⟩ := onS b0 kA kB x0) | ((with_reducible refine (g1.out _).mono ?_); rintro e w1 ⟨rfl, x1⟩; obtain ⟨b0, kA, kB, a0, a1, a2, a3, a4, a5, c0, c1, c2, c3, c4, c5⟩ := onS b0 kA kB x1))
 go_ret
 exact ⟨rfl, b0⟩
theorem opd_z38 {A B : On} (h0 : TellsB 73 A true) (h1 : TellsB 73 B true) : OpdB 38 A B true := by
 intro w
 have g0 := Lib.hid h0
 have g1 := Lib.hid h1
 clear h0 h1
 obtain ⟨kA, kB, b0⟩ := onAB w A B
 go_enter Tryd.func42, Tryd.ntmps42
 go_wp2_with (first | ((with_reducible refine (g0.out _).mono ?_); rintro e w0 ⟨rfl, x0⟩; obtain ⟨b0, kA, kB, a0, a1, a2, a3, a4, a5, c0, c1, c2, c3, c4, c5⟩ := onS b0 kA kB x0) | ((with_reducible refine (g1.out _).mono ?_); rintro e w1 ⟨rfl, x1⟩; obtain ⟨b0, kA, kB, a0, a1, a2, a3, a4, a5, c0, c1, c2, c3, c4, c5⟩ := onS b0 kA kB x1))
 go_ret
 exact ⟨rfl, b0⟩
theorem opd_z39 {A B : On} (h0 : TellsB 73 A true) (h1 : TellsB 73 B true) : OpdB 39 A B true := by
 intro w
 have g0 := Lib.hid h0
 have g1 := Lib.hid h1
 clear h0 h1
 obtain ⟨kA, kB, b0⟩ := onAB w A B
 go_enter Tryd.func42, Tryd.ntmps42
 go_wp2_with (first | ((with_reducible refine (g0.out _).mono ?_); rintro e w0 ⟨rfl, x0⟩; obtain ⟨b0, kA, kB, a0, a1, a2, a3, a4, a5, c0, c1, c2, c3, c4, c5⟩ := onS b0 kA kB x0) | ((with_reducible refine (g1.out _).mono ?_); rintro e w1 ⟨rfl, x1⟩; obtain ⟨b0, kA, kB, a0, a1, a2, a3, a4, a5, c0, c1, c2, c3, c4, c5⟩ := onS b0 kA kB x1))
 go_ret
 exact ⟨rfl, b0⟩
theorem opd_z40 {A B : On} (h0 : TellsB 73 A true) (h1 : TellsB 73 B true) : OpdB 40 A B true := by
 intro w
 have g0 := Lib.hid h0
 have g1 := Lib.hid h1
 clear h0 h1
 obtain ⟨kA, kB, b0⟩ := onAB w A B
 go_enter Tryd.func42, Tryd.ntmps42
 go_wp2_with (first | ((with_reducible refine (g0.out _).mono ?_); rintro e w0 ⟨rfl, x0⟩; obtain ⟨b0, kA, kB, a0, a1, a2, a3, a4, a5, c0, c1, c2, c3, c4, c5⟩ := onS b0 kA kB x0) | ((with_reducible refine (g1.out _).mono ?_); rintro e w1 ⟨rfl, x1⟩; obtain ⟨b0, kA, kB, a0, a1, a2, a3, a4, a5, c0, c1, c2, c3, c4, c5⟩ := onS b0 kA kB x1))
 go_ret
 exact ⟨rfl, b0⟩
theorem opd_z41 {A B : On} (h0 : TellsB 73 A true) (h1 : TellsB 73 B true) : OpdB 41 A B true := by
 intro w
 have g0 := Lib.hid h0
 have g1 := Lib.hid h1
 clear h0 h1
 obtain ⟨kA, kB, b0⟩ := onAB w A B
 go_enter Tryd.func42, Tryd.ntmps42
 go_wp2_with (first | ((with_reducible refine (g0.out _).mono ?_); rintro e w0 ⟨rfl, x0⟩; obtain ⟨b0, kA, kB, a0, a1, a2, a3, a4, a5, c0, c1, c2, c3, c4, c5⟩ := onS b0 kA kB x0) | ((with_reducible refine (g1.out _).mono ?_); rintro e w1 ⟨rfl, x1⟩; obtain ⟨b0, kA, kB, a0, a1, a2, a3, a4, a5, c0, c1, c2, c3, c4, c5⟩ := onS b0 kA kB x1))
 go_ret
 exact ⟨rfl, b0⟩
theorem opd_z42 {A B : On} (h0 : TellsB 73 A true) (h1 : TellsB 73 B true) : OpdB 42 A B true := by
 intro w
 have g0 := Lib.hid h0
 have g1 := Lib.hid h1
 clear h0 h1
 obtain ⟨kA, kB, b0⟩ := onAB w A B
 go_enter Tryd.func42, Tryd.ntmps42
 go_wp2_with (first | ((with_reducible refine (g0.out _).mono ?_); rintro e w0 ⟨rfl, x0⟩; obtain ⟨b0, kA, kB, a0, a1, a2, a3, a4, a5, c0, c1, c2, c3, c4, c5⟩ := onS b0 kA kB x0) | ((with_reducible refine (g1.out _).mono ?_); rintro e w1 ⟨rfl, x1⟩; obtain ⟨b0, kA, kB, a0, a1, a2, a3, a4, a5, c0, c1, c2, c3, c4, c5⟩ := onS b0 kA kB x1))
 go_ret
 exact ⟨rfl, b0⟩
theorem opd_z44 {A B : On} (h0 : TellsB 73 A true) (h1 : TellsB 73 B true) : OpdB 44 A B true := by
 intro w
 have g0 := Lib.hid h0
 have g1 := Lib.hid h1
 clear h0 h1
 obtain ⟨kA, kB, b0⟩ := onAB w A B
 go_enter Tryd.func42, Tryd.ntmps42
 go_wp2_with (first | ((with_reducible refine (g0.out _).mono ?_); rintro e w0 ⟨rfl, x0⟩; obtain ⟨b0, kA, kB, a0, a1, a2, a3, a4, a5, c0, c1, c2, c3, c4, c5⟩ := onS b0 kA kB x0) | ((with_reducible refine (g1.out _).mono ?_); rintro e w1 ⟨rfl, x1⟩; obtain ⟨b0, kA, kB, a0, a1, a2, a3, a4, a5, c0, c1, c2, c3, c4, c5⟩ := onS b0 kA kB x1))
 go_ret
 exact ⟨rfl, b0⟩
theorem opd_z51 {A B : On} (h0 : TellsB 73 A true) (h1 : TellsB 73 B true) : OpdB 51 A B true := by
 intro w
 have g0 := Lib.hid h0
 have g1 := Lib.hid h1
 clear h0 h1
 obtain ⟨kA, kB, b0⟩ := onAB w A B
 go_enter Tryd.func42, Tryd.ntmps42
 go_wp2_with (first | ((with_reducible refine (g0.out _).mono ?_); rintro e w0 ⟨rfl, x0⟩; obtain ⟨b0, kA, kB, a0, a1, a2, a3, a4, a5, c0, c1, c2, c3, c4, c5⟩ := onS b0 kA kB x0) | ((with_reducible refine (g1.out _).mono ?_); rintro e w1 ⟨rfl, x1⟩; obtain ⟨b0, kA, kB, a0, a1, a2, a3, a4, a5, c0, c1, c2, c3, c4, c5⟩ := onS b0 kA kB x1))
 go_ret
 exact ⟨rfl, b0⟩
theorem opd_z52 {A B : On} (h0 : TellsB 73 A true) (h1 : TellsB 73 B true) : OpdB 52 A B true := by
 intro w
 have g0 := Lib.hid h0
 have g1 := Lib.hid h1
 clear h0 h1
 obtain ⟨kA, kB, b0⟩ := onAB w A B
 go_enter Tryd.func42, Tryd.ntmps42
 go_wp2_with (first | ((with_reducible refine (g0.out _).mono ?_); rintro e w0 ⟨rfl, x0⟩; obtain ⟨b0, kA, kB, a0, a1, a2, a3, a4, a5, c0, c1, c2, c3, c4, c5⟩ := onS b0 kA kB x0) | ((with_reducible refine (g1.out _).mono ?_); rintro e w1 ⟨rfl, x1⟩; obtain ⟨b0, kA, kB, a0, a1, a2, a3, a4, a5, c0, c1, c2, c3, c4, c5⟩ := onS b0 kA kB x1))
 go_ret
 exact ⟨rfl, b0⟩
end Go.Proofs.YtcgleggdochbeaaDoor
