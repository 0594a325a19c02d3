import Derived.Test.YtcgleggdochbeaaDoorS43
namespace Go.Proofs.YtcgleggdochbeaaDoor
open Go.RowKit
set_option maxRecDepth 100000
set_option linter.unusedVariables false
set_option linter.unusedSimpArgs false
set_option linter.unusedSectionVars false
theorem opd_mov_x {A B : On} (h0 : TellsB 68 A false) : OpdB 1 A B false := by
 intro w
 have g0 := Lib.hid h0
 clear h0
 obtain ⟨kA, kB, b0⟩ := onAB w A B
 go_enter Tryd.func42, Tryd.ntmps42
 go_wp2_with (first | ((with_reducible refine (g0.out _).mono ?_); rintro e w0 ⟨rfl, x0⟩; obtain ⟨b0, kA, kB, a0, a1, a2, a3, a4, a5, c0, c1, c2, c3, c4, c5⟩ := onS b0 kA kB x0))
 go_ret
 exact ⟨rfl, b0⟩
theorem opd_mov_y {A B : On} (h0 : TellsB 68 A true) (h1 : TellsB 69 B false) (h2 : TellsB 70 B false) (h3 : TellsB 69 A false) : OpdB 1 A B false := by
 intro w
 have g0 := Lib.hid h0
 have g1 := Lib.hid h1
 have g2 := Lib.hid h2
 have g3 := Lib.hid h3
 clear h0 h1 h2 h3
 obtain ⟨kA, kB, b0⟩ := onAB w A B
 go_enter Tryd.func42, Tryd.ntmps42
 go_wp2_with (first | ((with_reducible refine (g0.out _).mono ?_); rintro e w0 ⟨rfl, x0⟩; obtain ⟨b0, kA, kB, a0, a1, a2, a3, a4, a5, c0, c1, c2, c3, c4, c5⟩ := onS b0 kA kB x0) | ((with_reducible refine (g1.out _).mono ?_); rintro e w1 ⟨rfl, x1⟩; obtain ⟨b0, kA, kB, a0, a1, a2, a3, a4, a5, c0, c1, c2, c3, c4, c5⟩ := onS b0 kA kB x1) | ((with_reducible refine (g2.out _).mono ?_); rintro e w2 ⟨rfl, x2⟩; obtain ⟨b0, kA, kB, a0, a1, a2, a3, a4, a5, c0, c1, c2, c3, c4, c5⟩ := onS b0 kA kB x2) | ((with_reducible refine (g3.out _).mono ?_); rintro e w3 ⟨rfl, x3⟩; obtain ⟨b0, kA, kB, a0, a1, a2, a3, a4, a5, c0, c1, c2, c3, c4, c5⟩ := onS b0 kA kB x3))
 go_ret
 exact ⟨rfl, b0⟩
theorem opd_mov_w {A B : On} (h0 : TellsB 68 A true) (h1 : TellsB 69 B false) (h2 : TellsB 70 B false) (h3 : TellsB 69 A true) (h4 : TellsB 71 B false) : OpdB 1 A B false := by
 intro w
 have g0 := Lib.hid h0
 have g1 := Lib.hid h1
 have g2 := Lib.hid h2
 have g3 := Lib.hid h3
 have g4 := Lib.hid h4
 clear h0 h1 h2 h3 h4
 obtain ⟨kA, kB, b0⟩ := onAB w A B
 go_enter Tryd.func42, Tryd.ntmps42
 go_wp2_with (first | ((with_reducible refine (g0.out _).mono ?_); rintro e w0 ⟨rfl, x0⟩; obtain ⟨b0, kA, kB, a0, a1, a2, a3, a4, a5, c0, c1, c2, c3, c4, c5⟩ := onS b0 kA kB x0) | ((with_reducible refine (g1.out _).mono ?_); rintro e w1 ⟨rfl, x1⟩; obtain ⟨b0, kA, kB, a0, a1, a2, a3, a4, a5, c0, c1, c2, c3, c4, c5⟩ := onS b0 kA kB x1) | ((with_reducible refine (g2.out _).mono ?_); rintro e w2 ⟨rfl, x2⟩; obtain ⟨b0, kA, kB, a0, a1, a2, a3, a4, a5, c0, c1, c2, c3, c4, c5⟩ := onS b0 kA kB x2) | ((with_reducible refine (g3.out _).mono ?_); rintro e w3 ⟨rfl, x3⟩; obtain ⟨b0, kA, kB, a0, a1, a2, a3, a4, a5, c0, c1, c2, c3, c4, c5⟩ := onS b0 kA kB x3) | ((with_reducible refine (g4.out _).mono ?_); rintro e w4 ⟨rfl, x4⟩; obtain ⟨b0, kA, kB, a0, a1, a2, a3, a4, a5, c0, c1, c2, c3, c4, c5⟩ := onS b0 kA kB x4))
 go_ret
 exact ⟨rfl, b0⟩
theorem opd_eight_x {A B : On} {op : Int} (ho : 3 ≤ op ∧ op ≤ 10) (h0 : TellsB 68 A false) : OpdB op A B false := by
 intro w
 have g0 := Lib.hid h0
 clear h0
 have e1 : (op == 1) = false := by simp; omega
 have e2 : ((3 : Int) ≤ op) = True := eq_true ho.1
 have e3 : (op ≤ 10) = True := eq_true ho.2
 clear ho
 obtain ⟨kA, kB, b0⟩ := onAB w A B
 go_enter Tryd.func42, Tryd.ntmps42
 go_wp2_with (first | ((with_reducible refine (g0.out _).mono ?_); rintro e w0 ⟨rfl, x0⟩; obtain ⟨b0, kA, kB, a0, a1, a2, a3, a4, a5, c0, c1, c2, c3, c4, c5⟩ := onS b0 kA kB x0))
 go_ret
 exact ⟨rfl, b0⟩
theorem opd_eight_y {A B : On} {op : Int} (ho : 3 ≤ op ∧ op ≤ 10) (h0 : TellsB 68 A true) (h1 : TellsB 69 B false) (h2 : TellsB 70 B false) (h3 : TellsB 69 A false) : OpdB op A B false := by
 intro w
 have g0 := Lib.hid h0
 have g1 := Lib.hid h1
 have g2 := Lib.hid h2
 have g3 := Lib.hid h3
 clear h0 h1 h2 h3
 have e1 : (op == 1) = false := by simp; omega
 have e2 : ((3 : Int) ≤ op) = True := eq_true ho.1
 have e3 : (op ≤ 10) = True := eq_true ho.2
 clear ho
 obtain ⟨kA, kB, b0⟩ := onAB w A B
 go_enter Tryd.func42, Tryd.ntmps42
 go_wp2_with (first | ((with_reducible refine (g0.out _).mono ?_); rintro e w0 ⟨rfl, x0⟩; obtain ⟨b0, kA, kB, a0, a1, a2, a3, a4, a5, c0, c1, c2, c3, c4, c5⟩ := onS b0 kA kB x0) | ((with_reducible refine (g1.out _).mono ?_); rintro e w1 ⟨rfl, x1⟩; obtain ⟨b0, kA, kB, a0, a1, a2, a3, a4, a5, c0, c1, c2, c3, c4, c5⟩ := onS b0 kA kB x1) | ((with_reducible refine (g2.out _).mono ?_); rintro e w2 ⟨rfl, x2⟩; obtain ⟨b0, kA, kB, a0, a1, a2, a3, a4, a5, c0, c1, c2, c3, c4, c5⟩ := onS b0 kA kB x2) | ((with_reducible refine (g3.out _).mono ?_); rintro e w3 ⟨rfl, x3⟩; obtain ⟨b0, kA, kB, a0, a1, a2, a3, a4, a5, c0, c1, c2, c3, c4, c5⟩ := onS b0 kA kB x3))
 go_ret
 exact ⟨rfl, b0⟩
theorem opd_eight_w {A B : On} {op : Int} (ho : 3 ≤ op ∧ op ≤ 10) (h0 : TellsB 68 A true) (h1 : TellsB 69 B false) (h2 : TellsB 70 B false) (h3 : TellsB 69 A true) (h4 : TellsB 71 B false) : OpdB op A B false := by
 intro w
 have g0 := Lib.hid h0
 have g1 := Lib.hid h1
 have g2 := Lib.hid h2
 have g3 := Lib.hid h3
 have g4 := Lib.hid h4
 clear h0 h1 h2 h3 h4
 have e1 : (op == 1) = false := by simp; omega
 have e2 : ((3 : Int) ≤ op) = True := eq_true ho.1
 have e3 : (op ≤ 10) = True := eq_true ho.2
 clear ho
 obtain ⟨kA, kB, b0⟩ := onAB w A B
 go_enter Tryd.func42, Tryd.ntmps42
 go_wp2_with (first | ((with_reducible refine (g0.out _).mono ?_); rintro e w0 ⟨rfl, x0⟩; obtain ⟨b0, kA, kB, a0, a1, a2, a3, a4, a5, c0, c1, c2, c3, c4, c5⟩ := onS b0 kA kB x0) | ((with_reducible refine (g1.out _).mono ?_); rintro e w1 ⟨rfl, x1⟩; obtain ⟨b0, kA, kB, a0, a1, a2, a3, a4, a5, c0, c1, c2, c3, c4, c5⟩ := onS b0 kA kB x1) | ((with_reducible refine (g2.out _).mono ?_); rintro e w2 ⟨rfl, x2⟩; obtain ⟨b0, kA, kB, a0, a1, a2, a3, a4, a5, c0, c1, c2, c3, c4, c5⟩ := onS b0 kA kB x2) | ((with_reducible refine (g3.out _).mono ?_); rintro e w3 ⟨rfl, x3⟩; obtain ⟨b0, kA, kB, a0, a1, a2, a3, a4, a5, c0, c1, c2, c3, c4, c5⟩ := onS b0 kA kB x3) | ((with_reducible refine (g4.out _).mono ?_); rintro e w4 ⟨rfl, x4⟩; obtain ⟨b0, kA, kB, a0, a1, a2, a3, a4, a5, c0, c1, c2, c3, c4, c5⟩ := onS b0 kA kB x4))
 go_ret
 exact ⟨rfl, b0⟩
theorem opd_movb_x {A B : On} (h0 : TellsB 68 A false) : OpdB 2 A B false := by
 intro w
 have g0 := Lib.hid h0
 clear h0
 obtain ⟨kA, kB, b0⟩ := onAB w A B
 go_enter Tryd.func42, Tryd.ntmps42
 go_wp2_with (first | ((with_reducible refine (g0.out _).mono ?_); rintro e w0 ⟨rfl, x0⟩; obtain ⟨b0, kA, kB, a0, a1, a2, a3, a4, a5, c0, c1, c2, c3, c4, c5⟩ := onS b0 kA kB x0))
 go_ret
 exact ⟨rfl, b0⟩
theorem opd_movb_y {A B : On} (h0 : TellsB 68 A true) (h1 : TellsB 69 B false) (h2 : TellsB 72 B false) (h3 : TellsB 69 A false) : OpdB 2 A B false := by
 intro w
 have g0 := Lib.hid h0
 have g1 := Lib.hid h1
 have g2 := Lib.hid h2
 have g3 := Lib.hid h3
 clear h0 h1 h2 h3
 obtain ⟨kA, kB, b0⟩ := onAB w A B
 go_enter Tryd.func42, Tryd.ntmps42
 go_wp2_with (first | ((with_reducible refine (g0.out _).mono ?_); rintro e w0 ⟨rfl, x0⟩; obtain ⟨b0, kA, kB, a0, a1, a2, a3, a4, a5, c0, c1, c2, c3, c4, c5⟩ := onS b0 kA kB x0) | ((with_reducible refine (g1.out _).mono ?_); rintro e w1 ⟨rfl, x1⟩; obtain ⟨b0, kA, kB, a0, a1, a2, a3, a4, a5, c0, c1, c2, c3, c4, c5⟩ := onS b0 kA kB x1) | ((with_reducible refine (g2.out _).mono ?_); rintro e w2 ⟨rfl, x2⟩; obtain ⟨b0, kA, kB, a0, a1, a2, a3, a4, a5, c0, c1, c2, c3, c4, c5⟩ := onS b0 kA kB x2) | ((with_reducible refine (g3.out _).mono ?_); rintro e w3 ⟨rfl, x3⟩; obtain ⟨b0, kA, kB, a0, a1, a2, a3, a4, a5, c0, c1, c2, c3, c4, c5⟩ := onS b0 kA kB x3))
 go_ret
 exact ⟨rfl, b0⟩
theorem opd_movb_w {A B : On} (h0 : TellsB 68 A true) (h1 : TellsB 69 B false) (h2 : TellsB 72 B false) (h3 : TellsB 69 A true) (h4 : TellsB 71 B false) : OpdB 2 A B false := by
 intro w
 have g0 := Lib.hid h0
 have g1 := Lib.hid h1
 have g2 := Lib.hid h2
 have g3 := Lib.hid h3
 have g4 := Lib.hid h4
 clear h0 h1 h2 h3 h4
 obtain ⟨kA, kB, b0⟩ := onAB w A B
 go_enter Tryd.func42, Tryd.ntmps42
 go_wp2_with (first | ((with_reducible refine (g0.out _).mono ?_); rintro e w0 ⟨rfl, x0⟩; obtain ⟨b0, kA, kB, a0, a1, a2, a3, a4, a5, c0, c1, c2, c3, c4, c5⟩ := onS b0 kA kB x0) | ((with_reducible refine (g1.out _).mono ?_); rintro e w1 ⟨rfl, x1⟩; obtain ⟨b0, kA, kB, a0, a1, a2, a3, a4, a5, c0, c1, c2, c3, c4, c5⟩ := onS b0 kA kB x1) | ((with_reducible refine (g2.out _).mono ?_); rintro e w2 ⟨rfl, x2⟩; obtain ⟨b0, kA, kB, a0, a1, a2, a3, a4, a5, c0, c1, c2, c3, c4, c5⟩ := onS b0 kA kB x2) | ((with_reducible refine (g3.out _).mono ?_); rintro e w3 ⟨rfl, x3⟩; obtain ⟨b0, kA, kB, a0, a1, a2, a3, a4, a5, c0, c1, c2, c3, c4, c5⟩ := onS b0 kA kB x3) | ((with_reducible refine (g4.out _).mono ?_); rintro e w4 ⟨rfl, x4⟩; obtain ⟨b0, kA, kB, a0, a1, a2, a3, a4, a5, c0, c1, c2, c3, c4, c5⟩ := onS b0 kA kB x4))
 go_ret
 exact ⟨rfl, b0⟩
theorem opd_test_x {A B : On} (h0 : TellsB 68 A false) : OpdB 11 A B false := by
 intro w
 have g0 := Lib.hid h0
 clear h0
 obtain ⟨kA, kB, b0⟩ := onAB w A B
 go_enter Tryd.func42, Tryd.ntmps42
 go_wp2_with (first | ((with_reducible refine (g0.out _).mono ?_); rintro e w0 ⟨rfl, x0⟩; obtain ⟨b0, kA, kB, a0, a1, a2, a3, a4, a5, c0, c1, c2, c3, c4, c5⟩ := onS b0 kA kB x0))
 go_ret
 exact ⟨rfl, b0⟩
theorem opd_test_y {A B : On} (h0 : TellsB 68 A true) (h1 : TellsB 69 B false) (h2 : TellsB 70 B false) : OpdB 11 A B false := by
 intro w
 have g0 := Lib.hid h0
 have g1 := Lib.hid h1
 have g2 := Lib.hid h2
 clear h0 h1 h2
 obtain ⟨kA, kB, b0⟩ := onAB w A B
 go_enter Tryd.func42, Tryd.ntmps42
 go_wp2_with (first | ((with_reducible refine (g0.out _).mono ?_); rintro e w0 ⟨rfl, x0⟩; obtain ⟨b0, kA, kB, a0, a1, a2, a3, a4, a5, c0, c1, c2, c3, c4, c5⟩ := onS b0 kA kB x0) | ((with_reducible refine (g1.out _).mono ?_); rintro e w1 ⟨rfl, x1⟩; obtain ⟨b0, kA, kB, a0, a1, a2, a3, a4, a5, c0, c1, c2, c3, c4, c5⟩ := onS b0 kA kB x1) | ((with_reducible refine (g2.out _).mono ?_); rintro e w2 ⟨rfl, x2⟩; obtain ⟨b0, kA, kB, a0, a1, a2, a3, a4, a5, c0, c1, c2, c3, c4, c5⟩ := onS b0 kA kB x2))
 go_ret
 exact ⟨rfl, b0⟩
theorem opd_xchg_x {A B : On} (h0 : TellsB 68 A false) : OpdB 27 A B false := by
 intro w
 have g0 := Lib.hid h0
 clear h0
 obtain ⟨kA, kB, b0⟩ := onAB w A B
 go_enter Tryd.func42, Tryd.ntmps42
 go_wp2_with (first | ((with_reducible refine (g0.out _).mono ?_); rintro e w0 ⟨rfl, x0⟩; obtain ⟨b0, kA, kB, a0, a1, a2, a3, a4, a5, c0, c1, c2, c3, c4, c5⟩ := onS b0 kA kB x0))
 go_ret
 exact ⟨rfl, b0⟩
theorem opd_xchg_y {A B : On} (h0 : TellsB 68 A true) (h1 : TellsB 69 B false) : OpdB 27 A B false := by
 intro w
 have g0 := Lib.hid h0
 have g1 := Lib.hid h1
 clear h0 h1
 obtain ⟨kA, kB, b0⟩ := onAB w A B
 go_enter Tryd.func42, Tryd.ntmps42
 go_wp2_with (first | ((with_reducible refine (g0.out _).mono ?_); rintro e w0 ⟨rfl, x0⟩; obtain ⟨b0, kA, kB, a0, a1, a2, a3, a4, a5, c0, c1, c2, c3, c4, c5⟩ := onS b0 kA kB x0) | ((with_reducible refine (g1.out _).mono ?_); rintro e w1 ⟨rfl, x1⟩; obtain ⟨b0, kA, kB, a0, a1, a2, a3, a4, a5, c0, c1, c2, c3, c4, c5⟩ := onS b0 kA kB x1))
 go_ret
 exact ⟨rfl, b0⟩
theorem opd_lea_x {A B : On} (h0 : TellsB 69 A false) : OpdB 26 A B false := by
 intro w
 have g0 := Lib.hid h0
 clear h0
 obtain ⟨kA, kB, b0⟩ := onAB w A B
 go_enter Tryd.func42, Tryd.ntmps42
 go_wp2_with (first | ((with_reducible refine (g0.out _).mono ?_); rintro e w0 ⟨rfl, x0⟩; obtain ⟨b0, kA, kB, a0, a1, a2, a3, a4, a5, c0, c1, c2, c3, c4, c5⟩ := onS b0 kA kB x0))
 go_ret
 exact ⟨rfl, b0⟩
theorem opd_lea_y {A B : On} (h0 : TellsB 69 A true) (h1 : TellsB 71 B false) : OpdB 26 A B false := by
 intro w
 have g0 := Lib.hid h0
 have g1 := Lib.hid h1
 clear h0 h1
 obtain ⟨kA, kB, b0⟩ := onAB w A B
 go_enter Tryd.func42, Tryd.ntmps42
 go_wp2_with (first | ((with_reducible refine (g0.out _).mono ?_); rintro e w0 ⟨rfl, x0⟩; obtain ⟨b0, kA, kB, a0, a1, a2, a3, a4, a5, c0, c1, c2, c3, c4, c5⟩ := onS b0 kA kB x0) | ((with_reducible refine (g1.out _).mono ?_); rintro e w1 ⟨rfl, x1⟩; obtain ⟨b0, kA, kB, a0, a1, a2, a3, a4, a5, c0, c1, c2, c3, c4, c5⟩ := onS b0 kA kB x1))
 go_ret
 exact ⟨rfl, b0⟩
theorem opd_pop_x {A B : On} (h0 : TellsB 69 A false) : OpdB 29 A B false := by
 intro w
 have g0 := Lib.hid h0
 clear h0
 obtain ⟨kA, kB, b0⟩ := onAB w A B
 go_enter Tryd.func42, Tryd.ntmps42
 go_wp2_with (first | ((with_reducible refine (g0.out _).mono ?_); rintro e w0 ⟨rfl, x0⟩; obtain ⟨b0, kA, kB, a0, a1, a2, a3, a4, a5, c0, c1, c2, c3, c4, c5⟩ := onS b0 kA kB x0))
 go_ret
 exact ⟨rfl, b0⟩
theorem opd_pop_y {A B : On} (h0 : TellsB 69 A true) (h1 : TellsB 73 B false) : OpdB 29 A B false := by
 intro w
 have g0 := Lib.hid h0
 have g1 := Lib.hid h1
 clear h0 h1
 obtain ⟨kA, kB, b0⟩ := onAB w A B
 go_enter Tryd.func42, Tryd.ntmps42
 go_wp2_with (first | ((with_reducible refine (g0.out _).mono ?_); rintro e w0 ⟨rfl, x0⟩; obtain ⟨b0, kA, kB, a0, a1, a2, a3, a4, a5, c0, c1, c2, c3, c4, c5⟩ := onS b0 kA kB x0) | ((with_reducible refine (g1.out _).mono ?_); rintro e w1 ⟨rfl, x1⟩; obtain ⟨b0, kA, kB, a0, a1, a2, a3, a4, a5, c0, c1, c2, c3, c4, c5⟩ := onS b0 kA kB x1))
 go_ret
 exact ⟨rfl, b0⟩
theorem opd_jcc_x {A B : On} (h0 : TellsB 70 A false) : OpdB 33 A B false := by
 intro w
 have g0 := Lib.hid h0
 clear h0
 obtain ⟨kA, kB, b0⟩ := onAB w A B
 go_enter Tryd.func42, Tryd.ntmps42
 go_wp2_with (first | ((with_reducible refine (g0.out _).mono ?_); rintro e w0 ⟨rfl, x0⟩; obtain ⟨b0, kA, kB, a0, a1, a2, a3, a4, a5, c0, c1, c2, c3, c4, c5⟩ := onS b0 kA kB x0))
 go_ret
 exact ⟨rfl, b0⟩
theorem opd_jcc_y {A B : On} (h0 : TellsB 70 A true) (h1 : TellsB 73 B false) : OpdB 33 A B false := by
 intro w
 have g0 := Lib.hid h0
 have g1 := Lib.hid h1
 clear h0 h1
 obtain ⟨kA, kB, b0⟩ := onAB w A B
 go_enter Tryd.func42, Tryd.ntmps42
 go_wp2_with (first | ((with_reducible refine (g0.out _).mono ?_); rintro e w0 ⟨rfl, x0⟩; obtain ⟨b0, kA, kB, a0, a1, a2, a3, a4, a5, c0, c1, c2, c3, c4, c5⟩ := onS b0 kA kB x0) | ((with_reducible refine (g1.out _).mono ?_); rintro e w1 ⟨rfl, x1⟩; obtain ⟨b0, kA, kB, a0, a1, a2, a3, a4, a5, c0, c1, c2, c3, c4, c5⟩ := onS b0 kA kB x1))
 go_ret
 exact ⟨rfl, b0⟩
theorem opd_one12_x {A B : On} (h0 : TellsB 68 A false) : OpdB 12 A B false := by
 intro w
 have g0 := Lib.hid h0
 clear h0
 obtain ⟨kA, kB, b0⟩ := onAB w A B
 go_enter Tryd.func42, Tryd.ntmps42
 go_wp2_with (first | ((with_reducible refine (g0.out _).mono ?_); rintro e w0 ⟨rfl, x0⟩; obtain ⟨b0, kA, kB, a0, a1, a2, a3, a4, a5, c0, c1, c2, c3, c4, c5⟩ := onS b0 kA kB x0))
 go_ret
 exact ⟨rfl, b0⟩
theorem opd_one12_y {A B : On} (h0 : TellsB 68 A true) (h1 : TellsB 73 B false) : OpdB 12 A B false := by
 intro w
 have g0 := Lib.hid h0
 have g1 := Lib.hid h1
 clear h0 h1
 obtain ⟨kA, kB, b0⟩ := onAB w A B
 go_enter Tryd.func42, Tryd.ntmps42
 go_wp2_with (first | ((with_reducible refine (g0.out _).mono ?_); rintro e w0 ⟨rfl, x0⟩; obtain ⟨b0, kA, kB, a0, a1, a2, a3, a4, a5, c0, c1, c2, c3, c4, c5⟩ := onS b0 kA kB x0) | ((with_reducible refine (g1.out _).mono ?_); rintro e w1 ⟨rfl, x1⟩; obtain ⟨b0, kA, kB, a0, a1, a2, a3, a4, a5, c0, c1, c2, c3, c4, c5⟩ := onS b0 kA kB x1))
 go_ret
 exact ⟨rfl, b0⟩
theorem opd_one13_x {A B : On} (h0 : TellsB 68 A false) : OpdB 13 A B false := by
 intro w
 have g0 := Lib.hid h0
 clear h0
 obtain ⟨kA, kB, b0⟩ := onAB w A B
 go_enter Tryd.func42, Tryd.ntmps42
 go_wp2_with (first | ((with_reducible refine (g0.out _).mono ?_); rintro e w0 ⟨rfl, x0⟩; obtain ⟨b0, kA, kB, a0, a1, a2, a3, a4, a5, c0, c1, c2, c3, c4, c5⟩ := onS b0 kA kB x0))
 go_ret
 exact ⟨rfl, b0⟩
theorem opd_one13_y {A B : On} (h0 : TellsB 68 A true) (h1 : TellsB 73 B false) : OpdB 13 A B false := by
 intro w
 have g0 := Lib.hid h0
 have g1 := Lib.hid h1
 clear h0 h1
 obtain ⟨kA, kB, b0⟩ := onAB w A B
 go_enter Tryd.func42, Tryd.ntmps42
 go_wp2_with (first | ((with_reducible refine (g0.out _).mono ?_); rintro e w0 ⟨rfl, x0⟩; obtain ⟨b0, kA, kB, a0, a1, a2, a3, a4, a5, c0, c1, c2, c3, c4, c5⟩ := onS b0 kA kB x0) | ((with_reducible refine (g1.out _).mono ?_); rintro e w1 ⟨rfl, x1⟩; obtain ⟨b0, kA, kB, a0, a1, a2, a3, a4, a5, c0, c1, c2, c3, c4, c5⟩ := onS b0 kA kB x1))
 go_ret
 exact ⟨rfl, b0⟩
theorem opd_one14_x {A B : On} (h0 : TellsB 68 A false) : OpdB 14 A B false := by
 intro w
 have g0 := Lib.hid h0
 clear h0
 obtain ⟨kA, kB, b0⟩ := onAB w A B
 go_enter Tryd.func42, Tryd.ntmps42
 go_wp2_with (first | ((with_reducible refine (g0.out _).mono ?_); rintro e w0 ⟨rfl, x0⟩; obtain ⟨b0, kA, kB, a0, a1, a2, a3, a4, a5, c0, c1, c2, c3, c4, c5⟩ := onS b0 kA kB x0))
 go_ret
 exact ⟨rfl, b0⟩
theorem opd_one14_y {A B : On} (h0 : TellsB 68 A true) (h1 : TellsB 73 B false) : OpdB 14 A B false := by
 intro w
 have g0 := Lib.hid h0
 have g1 := Lib.hid h1
 clear h0 h1
 obtain ⟨kA, kB, b0⟩ := onAB w A B
 go_enter Tryd.func42, Tryd.ntmps42
 go_wp2_with (first | ((with_reducible refine (g0.out _).mono ?_); rintro e w0 ⟨rfl, x0⟩; obtain ⟨b0, kA, kB, a0, a1, a2, a3, a4, a5, c0, c1, c2, c3, c4, c5⟩ := onS b0 kA kB x0) | ((with_reducible refine (g1.out _).mono ?_); rintro e w1 ⟨rfl, x1⟩; obtain ⟨b0, kA, kB, a0, a1, a2, a3, a4, a5, c0, c1, c2, c3, c4, c5⟩ := onS b0 kA kB x1))
 go_ret
 exact ⟨rfl, b0⟩
theorem opd_one15_x {A B : On} (h0 : TellsB 68 A false) : OpdB 15 A B false := by
 intro w
 have g0 := Lib.hid h0
 clear h0
 obtain ⟨kA, kB, b0⟩ := onAB w A B
 go_enter Tryd.func42, Tryd.ntmps42
 go_wp2_with (first | ((with_reducible refine (g0.out _).mono ?_); rintro e w0 ⟨rfl, x0⟩; obtain ⟨b0, kA, kB, a0, a1, a2, a3, a4, a5, c0, c1, c2, c3, c4, c5⟩ := onS b0 kA kB x0))
 go_ret
 exact ⟨rfl, b0⟩
theorem opd_one15_y {A B : On} (h0 : TellsB 68 A true) (h1 : TellsB 73 B false) : OpdB 15 A B false := by
 intro w
 have g0 := Lib.hid h0
 have g1 := Lib.hid h1
 clear h0 h1
 obtain ⟨kA, kB, b0⟩ := onAB w A B
 go_enter Tryd.func42, Tryd.ntmps42
 go_wp2_with (first | ((with_reducible refine (g0.out _).mono ?_); rintro e w0 ⟨rfl, x0⟩; obtain ⟨b0, kA, kB, a0, a1, a2, a3, a4, a5, c0, c1, c2, c3, c4, c5⟩ := onS b0 kA kB x0) | ((with_reducible refine (g1.out _).mono ?_); rintro e w1 ⟨rfl, x1⟩; obtain ⟨b0, kA, kB, a0, a1, a2, a3, a4, a5, c0, c1, c2, c3, c4, c5⟩ := onS b0 kA kB x1))
 go_ret
 exact ⟨rfl, b0⟩
theorem opd_one16_x {A B : On} (h0 : TellsB 68 A false) : OpdB 16 A B false := by
 intro w
 have g0 := Lib.hid h0
 clear h0
 obtain ⟨kA, kB, b0⟩ := onAB w A B
 go_enter Tryd.func42, Tryd.ntmps42
 go_wp2_with (first | ((with_reducible refine (g0.out _).mono ?_); rintro e w0 ⟨rfl, x0⟩; obtain ⟨b0, kA, kB, a0, a1, a2, a3, a4, a5, c0, c1, c2, c3, c4, c5⟩ := onS b0 kA kB x0))
 go_ret
 exact ⟨rfl, b0⟩
theorem opd_one16_y {A B : On} (h0 : TellsB 68 A true) (h1 : TellsB 73 B false) : OpdB 16 A B false := by
 intro w
 have g0 := Lib.hid h0
 have g1 := Lib.hid h1
 clear h0 h1
 obtain ⟨kA, kB, b0⟩ := onAB w A B
 go_enter Tryd.func42, Tryd.ntmps42
 go_wp2_with (first | ((with_reducible refine (g0.out _).mono ?_); rintro e w0 ⟨rfl, x0⟩; obtain ⟨b0, kA, kB, a0, a1, a2, a3, a4, a5, c0, c1, c2, c3, c4, c5⟩ := onS b0 kA kB x0) | ((with_reducible refine (g1.out _).mono ?_); rintro e w1 ⟨rfl, x1⟩; obtain ⟨b0, kA, kB, a0, a1, a2, a3, a4, a5, c0, c1, c2, c3, c4, c5⟩ := onS b0 kA kB x1))
 go_ret
 exact ⟨rfl, b0⟩
theorem opd_one17_x {A B : On} (h0 : TellsB 68 A false) : OpdB 17 A B false := by
 intro w
 have g0 := Lib.hid h0
 clear h0
 obtain ⟨kA, kB, b0⟩ := onAB w A B
 go_enter Tryd.func42, Tryd.ntmps42
 go_wp2_with (first | ((with_reducible refine (g0.out _).mono ?_); rintro e w0 ⟨rfl, x0⟩; obtain ⟨b0, kA, kB, a0, a1, a2, a3, a4, a5, c0, c1, c2, c3, c4, c5⟩ := onS b0 kA kB x0))
 go_ret
 exact ⟨rfl, b0⟩
theorem opd_one17_y {A B : On} (h0 : TellsB 68 A true) (h1 : TellsB 73 B false) : OpdB 17 A B false := by
 intro w
 have g0 := Lib.hid h0
 have g1 := Lib.hid h1
 clear h0 h1
 obtain ⟨kA, kB, b0⟩ := onAB w A B
 go_enter Tryd.func42, Tryd.ntmps42
 go_wp2_with (first | ((with_reducible refine (g0.out _).mono ?_); rintro e w0 ⟨rfl, x0⟩; obtain ⟨b0, kA, kB, a0, a1, a2, a3, a4, a5, c0, c1, c2, c3, c4, c5⟩ := onS b0 kA kB x0) | ((with_reducible refine (g1.out _).mono ?_); rintro e w1 ⟨rfl, x1⟩; obtain ⟨b0, kA, kB, a0, a1, a2, a3, a4, a5, c0, c1, c2, c3, c4, c5⟩ := onS b0 kA kB x1))
 go_ret
 exact ⟨rfl, b0⟩
theorem opd_one19_x {A B : On} (h0 : TellsB 68 A false) : OpdB 19 A B false := by
 intro w
 have g0 := Lib.hid h0
 clear h0
 obtain ⟨kA, kB, b0⟩ := onAB w A B
 go_enter Tryd.func42, Tryd.ntmps42
 go_wp2_with (first | ((with_reducible refine (g0.out _).mono ?_); rintro e w0 ⟨rfl, x0⟩; obtain ⟨b0, kA, kB, a0, a1, a2, a3, a4, a5, c0, c1, c2, c3, c4, c5⟩ := onS b0 kA kB x0))
 go_ret
 exact ⟨rfl, b0⟩
theorem opd_one19_y {A B : On} (h0 : TellsB 68 A true) (h1 : TellsB 73 B false) : OpdB 19 A B false := by
 intro w
 have g0 := Lib.hid h0
 have g1 := Lib.hid h1
 clear h0 h1
 obtain ⟨kA, kB, b0⟩ := onAB w A B
 go_enter Tryd.func42, Tryd.ntmps42
 go_wp2_with (first | ((with_reducible refine (g0.out _).mono ?_); rintro e w0 ⟨rfl, x0⟩; obtain ⟨b0, kA, kB, a0, a1, a2, a3, a4, a5, c0, c1, c2, c3, c4, c5⟩ := onS b0 kA kB x0) | ((with_reducible refine (g1.out _).mono ?_); rintro e w1 ⟨rfl, x1⟩; obtain ⟨b0, kA, kB, a0, a1, a2, a3, a4, a5, c0, c1, c2, c3, c4, c5⟩ := onS b0 kA kB x1))
 go_ret
 exact ⟨rfl, b0⟩
theorem opd_one20_x {A B : On} (h0 : TellsB 68 A false) : OpdB 20 A B false := by
 intro w
 have g0 := Lib.hid h0
 clear h0
 obtain ⟨kA, kB, b0⟩ := onAB w A B
 go_enter Tryd.func42, Tryd.ntmps42
 go_wp2_with (first | ((with_reducible refine (g0.out _).mono ?_); rintro e w0 ⟨rfl, x0⟩; obtain ⟨b0, kA, kB, a0, a1, a2, a3, a4, a5, c0, c1, c2, c3, c4, c5⟩ := onS b0 kA kB x0))
 go_ret
 exact ⟨rfl, b0⟩
theorem opd_one20_y {A B : On} (h0 : TellsB 68 A true) (h1 : TellsB 73 B false) : OpdB 20 A B false := by
 intro w
 have g0 := Lib.hid h0
 have g1 := Lib.hid h1
 clear h0 h1
 obtain ⟨kA, kB, b0⟩ := onAB w A B
 go_enter Tryd.func42, Tryd.ntmps42
 go_wp2_with (first | ((with_reducible refine (g0.out _).mono ?_); rintro e w0 ⟨rfl, x0⟩; obtain ⟨b0, kA, kB, a0, a1, a2, a3, a4, a5, c0, c1, c2, c3, c4, c5⟩ := onS b0 kA kB x0) | ((with_reducible refine (g1.out _).mono ?_); rintro e w1 ⟨rfl, x1⟩; obtain ⟨b0, kA, kB, a0, a1, a2, a3, a4, a5, c0, c1, c2, c3, c4, c5⟩ := onS b0 kA kB x1))
 go_ret
 exact ⟨rfl, b0⟩
theorem opd_one34_x {A B : On} (h0 : TellsB 68 A false) : OpdB 34 A B false := by
 intro w
 have g0 := Lib.hid h0
 clear h0
 obtain ⟨kA, kB, b0⟩ := onAB w A B
 go_enter Tryd.func42, Tryd.ntmps42
 go_wp2_with (first | ((with_reducible refine (g0.out _).mono ?_); rintro e w0 ⟨rfl, x0⟩; obtain ⟨b0, kA, kB, a0, a1, a2, a3, a4, a5, c0, c1, c2, c3, c4, c5⟩ := onS b0 kA kB x0))
 go_ret
 exact ⟨rfl, b0⟩
theorem opd_one34_y {A B : On} (h0 : TellsB 68 A true) (h1 : TellsB 73 B false) : OpdB 34 A B false := by
 intro w
 have g0 := Lib.hid h0
 have g1 := Lib.hid h1
 clear h0 h1
 obtain ⟨kA, kB, b0⟩ := onAB w A B
 go_enter Tryd.func42, Tryd.ntmps42
 go_wp2_with (first | ((with_reducible refine (g0.out _).mono ?_); rintro e w0 ⟨rfl, x0⟩; obtain ⟨b0, kA, kB, a0, a1, a2, a3, a4, a5, c0, c1, c2, c3, c4, c5⟩ := onS b0 kA kB x0) | ((with_reducible refine (g1.out _).mono ?_); rintro e w1 ⟨rfl, x1⟩; obtain ⟨b0, kA, kB, a0, a1, a2, a3, a4, a5, c0, c1, c2, c3, c4, c5⟩ := onS b0 kA kB x1))
 go_ret
 exact ⟨rfl, b0⟩
theorem opd_two18_x {A B : On} (h0 : TellsB 69 A false) : OpdB 18 A B false := by
 intro w
 have g0 := Lib.hid h0
 clear h0
 obtain ⟨kA, kB, b0⟩ := onAB w A B
 go_enter Tryd.func42, Tryd.ntmps42
 go_wp2_with (first | ((with_reducible refine (g0.out _).mono ?_); rintro e w0 ⟨rfl, x0⟩; obtain ⟨b0, kA, kB, a0, a1, a2, a3, a4, a5, c0, c1, c2, c3, c4, c5⟩ := onS b0 kA kB x0))
 go_ret
 exact ⟨rfl, b0⟩
theorem opd_two18_y {A B : On} (h0 : TellsB 69 A true) (h1 : TellsB 68 B false) : OpdB 18 A B false := by
 intro w
 have g0 := Lib.hid h0
 have g1 := Lib.hid h1
 clear h0 h1
 obtain ⟨kA, kB, b0⟩ := onAB w A B
 go_enter Tryd.func42, Tryd.ntmps42
 go_wp2_with (first | ((with_reducible refine (g0.out _).mono ?_); rintro e w0 ⟨rfl, x0⟩; obtain ⟨b0, kA, kB, a0, a1, a2, a3, a4, a5, c0, c1, c2, c3, c4, c5⟩ := onS b0 kA kB x0) | ((with_reducible refine (g1.out _).mono ?_); rintro e w1 ⟨rfl, x1⟩; obtain ⟨b0, kA, kB, a0, a1, a2, a3, a4, a5, c0, c1, c2, c3, c4, c5⟩ := onS b0 kA kB x1))
 go_ret
 exact ⟨rfl, b0⟩
theorem opd_two35_x {A B : On} (h0 : TellsB 69 A false) : OpdB 35 A B false := by
 intro w
 have g0 := Lib.hid h0
 clear h0
 obtain ⟨kA, kB, b0⟩ := onAB w A B
 go_enter Tryd.func42, Tryd.ntmps42
 go_wp2_with (first | ((with_reducible refine (g0.out _).mono ?_); rintro e w0 ⟨rfl, x0⟩; obtain ⟨b0, kA, kB, a0, a1, a2, a3, a4, a5, c0, c1, c2, c3, c4, c5⟩ := onS b0 kA kB x0))
 go_ret
 exact ⟨rfl, b0⟩
theorem opd_two35_y {A B : On} (h0 : TellsB 69 A true) (h1 : TellsB 68 B false) : OpdB 35 A B false := by
 intro w
 have g0 := Lib.hid h0
 have g1 := Lib.hid h1
 clear h0 h1
 obtain ⟨kA, kB, b0⟩ := onAB w A B
 go_enter Tryd.func42, Tryd.ntmps42
 go_wp2_with (first | ((with_reducible refine (g0.out _).mono ?_); rintro e w0 ⟨rfl, x0⟩; obtain ⟨b0, kA, kB, a0, a1, a2, a3, a4, a5, c0, c1, c2, c3, c4, c5⟩ := onS b0 kA kB x0) | ((with_reducible refine (g1.out _).mono ?_); rintro e w1 ⟨rfl, x1⟩; obtain ⟨b0, kA, kB, a0, a1, a2, a3, a4, a5, c0, c1, c2, c3, c4, c5⟩ := onS b0 kA kB x1))
 go_ret
 exact ⟨rfl, b0⟩
theorem opd_two36_x {A B : On} (h0 : TellsB 69 A false) : OpdB 36 A B false := by
 intro w
 have g0 := Lib.hid h0
 clear h0
 obtain ⟨kA, kB, b0⟩ := onAB w A B
 go_enter Tryd.func42, Tryd.ntmps42
 go_wp2_with (first | ((with_reducible refine (g0.out _).mono ?_); rintro e w0 ⟨rfl, x0⟩; obtain ⟨b0, kA, kB, a0, a1, a2, a3, a4, a5, c0, c1, c2, c3, c4, c5⟩ := onS b0 kA kB x0))
 go_ret
 exact ⟨rfl, b0⟩
theorem opd_two36_y {A B : On} (h0 : TellsB 69 A true) (h1 : TellsB 68 B false) : OpdB 36 A B false := by
 intro w
 have g0 := Lib.hid h0
 have g1 := Lib.hid h1
 clear h0 h1
 obtain ⟨kA, kB, b0⟩ := onAB w A B
 go_enter Tryd.func42, Tryd.ntmps42
 go_wp2_with (first | ((with_reducible refine (g0.out _).mono ?_); rintro e w0 ⟨rfl, x0⟩; obtain ⟨b0, kA, kB, a0, a1, a2, a3, a4, a5, c0, c1, c2, c3, c4, c5⟩ := onS b0 kA kB x0) | ((with_reducible refine (g1.out _).mono ?_); rintro e w1 ⟨rfl, x1⟩; obtain ⟨b0, kA, kB, a0, a1, a2, a3, a4, a5, c0, c1, c2, c3, c4, c5⟩ := onS b0 kA kB x1))
 go_ret
 exact ⟨rfl, b0⟩
theorem opd_two37_x {A B : On} (h0 : TellsB 69 A false) : OpdB 37 A B false := by
 intro w
 have g0 := Lib.hid h0
 clear h0
 obtain ⟨kA, kB, b0⟩ := onAB w A B
 go_enter Tryd.func42, Tryd.ntmps42
 go_wp2_with (first | ((with_reducible refine (g0.out _).mono ?_); rintro e w0 ⟨rfl, x0⟩; obtain ⟨b0, kA, kB, a0, a1, a2, a3, a4, a5, c0, c1, c2, c3, c4, c5⟩ := onS b0 kA kB x0))
 go_ret
 exact ⟨rfl, b0⟩
theorem opd_two37_y {A B : On} (h0 : TellsB 69 A true) (h1 : TellsB 68 B false) : OpdB 37 A B false := by
 intro w
 have g0 := Lib.hid h0
 have g1 := Lib.hid h1
 clear h0 h1
 obtain ⟨kA, kB, b0⟩ := onAB w A B
 go_enter Tryd.func42, Tryd.ntmps42
 go_wp2_with (first | ((with_reducible refine (g0.out _).mono ?_); rintro e w0 ⟨rfl, x0⟩; obtain ⟨b0, kA, kB, a0, a1, a2, a3, a4, a5, c0, c1, c2, c3, c4, c5⟩ := onS b0 kA kB x0) | ((with_reducible refine (g1.out _).mono ?_); rintro e w1 ⟨rfl, x1⟩; obtain ⟨b0, kA, kB, a0, a1, a2, a3, a4, a5, c0, c1, c2, c3, c4, c5⟩ := onS b0 kA kB x1))
 go_ret
 exact ⟨rfl, b0⟩
end Go.Proofs.YtcgleggdochbeaaDoor
