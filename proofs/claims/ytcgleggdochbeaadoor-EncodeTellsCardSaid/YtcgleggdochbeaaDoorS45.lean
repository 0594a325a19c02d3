import Derived.Test.YtcgleggdochbeaaDoorS43
namespace Go.Proofs.YtcgleggdochbeaaDoor
open Go.RowKit
set_option maxRecDepth 100000
set_option linter.unusedVariables false
set_option linter.unusedSimpArgs false
set_option linter.unusedSectionVars false
theorem opd_sh21_x {A B : On} (h0 : TellsB 68 A false) : OpdB 21 A B false := by
 intro w
 have g0 := Lib.hid h0
 clear h0
 obtain ⟨kA, kB, b0⟩ := onAB w A B
 go_enter Tryd.func42, Tryd.ntmps42
 go_wp2_with (first | ((with_reducible refine (g0.out _).mono ?_); rintro e w0 ⟨rfl, x0⟩; obtain ⟨b0, kA, kB, a0, a1, a2, a3, a4, a5, c0, c1, c2, c3, c4, c5⟩ := onS b0 kA kB x0))
 go_ret
 exact ⟨rfl, b0⟩
theorem opd_sh21_y {A B : On} (h0 : TellsB 68 A true) (h1 : TellsB 72 B false) (h2 : TellsB 69 B false) : OpdB 21 A B false := by
 intro w
 have g0 := Lib.hid h0
 have g1 := Lib.hid h1
 have g2 := Lib.hid h2
 clear h0 h1 h2
 obtain ⟨kA, kB, b0⟩ := onAB w A B
 go_enter Tryd.func42, Tryd.ntmps42
 go_wp2_with (first | ((with_reducible refine (g0.out _).mono ?_); rintro e w0 ⟨rfl, x0⟩; obtain ⟨b0, kA, kB, a0, a1, a2, a3, a4, a5, c0, c1, c2, c3, c4, c5⟩ := onS b0 kA kB x0) | ((with_reducible refine (g1.out _).mono ?_); rintro e w1 ⟨rfl, x1⟩; obtain ⟨b0, kA, kB, a0, a1, a2, a3, a4, a5, c0, c1, c2, c3, c4, c5⟩ := onS b0 kA kB x1) | ((with_reducible refine (g2.out _).mono ?_); rintro e w2 ⟨rfl, x2⟩; obtain ⟨b0, kA, kB, a0, a1, a2, a3, a4, a5, c0, c1, c2, c3, c4, c5⟩ := onS b0 kA kB x2))
 go_ret
 exact ⟨rfl, b0⟩
theorem opd_sh22_x {A B : On} (h0 : TellsB 68 A false) : OpdB 22 A B false := by
 intro w
 have g0 := Lib.hid h0
 clear h0
 obtain ⟨kA, kB, b0⟩ := onAB w A B
 go_enter Tryd.func42, Tryd.ntmps42
 go_wp2_with (first | ((with_reducible refine (g0.out _).mono ?_); rintro e w0 ⟨rfl, x0⟩; obtain ⟨b0, kA, kB, a0, a1, a2, a3, a4, a5, c0, c1, c2, c3, c4, c5⟩ := onS b0 kA kB x0))
 go_ret
 exact ⟨rfl, b0⟩
theorem opd_sh22_y {A B : On} (h0 : TellsB 68 A true) (h1 : TellsB 72 B false) (h2 : TellsB 69 B false) : OpdB 22 A B false := by
 intro w
 have g0 := Lib.hid h0
 have g1 := Lib.hid h1
 have g2 := Lib.hid h2
 clear h0 h1 h2
 obtain ⟨kA, kB, b0⟩ := onAB w A B
 go_enter Tryd.func42, Tryd.ntmps42
 go_wp2_with (first | ((with_reducible refine (g0.out _).mono ?_); rintro e w0 ⟨rfl, x0⟩; obtain ⟨b0, kA, kB, a0, a1, a2, a3, a4, a5, c0, c1, c2, c3, c4, c5⟩ := onS b0 kA kB x0) | ((with_reducible refine (g1.out _).mono ?_); rintro e w1 ⟨rfl, x1⟩; obtain ⟨b0, kA, kB, a0, a1, a2, a3, a4, a5, c0, c1, c2, c3, c4, c5⟩ := onS b0 kA kB x1) | ((with_reducible refine (g2.out _).mono ?_); rintro e w2 ⟨rfl, x2⟩; obtain ⟨b0, kA, kB, a0, a1, a2, a3, a4, a5, c0, c1, c2, c3, c4, c5⟩ := onS b0 kA kB x2))
 go_ret
 exact ⟨rfl, b0⟩
theorem opd_sh23_x {A B : On} (h0 : TellsB 68 A false) : OpdB 23 A B false := by
 intro w
 have g0 := Lib.hid h0
 clear h0
 obtain ⟨kA, kB, b0⟩ := onAB w A B
 go_enter Tryd.func42, Tryd.ntmps42
 go_wp2_with (first | ((with_reducible refine (g0.out _).mono ?_); rintro e w0 ⟨rfl, x0⟩; obtain ⟨b0, kA, kB, a0, a1, a2, a3, a4, a5, c0, c1, c2, c3, c4, c5⟩ := onS b0 kA kB x0))
 go_ret
 exact ⟨rfl, b0⟩
theorem opd_sh23_y {A B : On} (h0 : TellsB 68 A true) (h1 : TellsB 72 B false) (h2 : TellsB 69 B false) : OpdB 23 A B false := by
 intro w
 have g0 := Lib.hid h0
 have g1 := Lib.hid h1
 have g2 := Lib.hid h2
 clear h0 h1 h2
 obtain ⟨kA, kB, b0⟩ := onAB w A B
 go_enter Tryd.func42, Tryd.ntmps42
 go_wp2_with (first | ((with_reducible refine (g0.out _).mono ?_); rintro e w0 ⟨rfl, x0⟩; obtain ⟨b0, kA, kB, a0, a1, a2, a3, a4, a5, c0, c1, c2, c3, c4, c5⟩ := onS b0 kA kB x0) | ((with_reducible refine (g1.out _).mono ?_); rintro e w1 ⟨rfl, x1⟩; obtain ⟨b0, kA, kB, a0, a1, a2, a3, a4, a5, c0, c1, c2, c3, c4, c5⟩ := onS b0 kA kB x1) | ((with_reducible refine (g2.out _).mono ?_); rintro e w2 ⟨rfl, x2⟩; obtain ⟨b0, kA, kB, a0, a1, a2, a3, a4, a5, c0, c1, c2, c3, c4, c5⟩ := onS b0 kA kB x2))
 go_ret
 exact ⟨rfl, b0⟩
theorem opd_sh24_x {A B : On} (h0 : TellsB 68 A false) : OpdB 24 A B false := by
 intro w
 have g0 := Lib.hid h0
 clear h0
 obtain ⟨kA, kB, b0⟩ := onAB w A B
 go_enter Tryd.func42, Tryd.ntmps42
 go_wp2_with (first | ((with_reducible refine (g0.out _).mono ?_); rintro e w0 ⟨rfl, x0⟩; obtain ⟨b0, kA, kB, a0, a1, a2, a3, a4, a5, c0, c1, c2, c3, c4, c5⟩ := onS b0 kA kB x0))
 go_ret
 exact ⟨rfl, b0⟩
theorem opd_sh24_y {A B : On} (h0 : TellsB 68 A true) (h1 : TellsB 72 B false) (h2 : TellsB 69 B false) : OpdB 24 A B false := by
 intro w
 have g0 := Lib.hid h0
 have g1 := Lib.hid h1
 have g2 := Lib.hid h2
 clear h0 h1 h2
 obtain ⟨kA, kB, b0⟩ := onAB w A B
 go_enter Tryd.func42, Tryd.ntmps42
 go_wp2_with (first | ((with_reducible refine (g0.out _).mono ?_); rintro e w0 ⟨rfl, x0⟩; obtain ⟨b0, kA, kB, a0, a1, a2, a3, a4, a5, c0, c1, c2, c3, c4, c5⟩ := onS b0 kA kB x0) | ((with_reducible refine (g1.out _).mono ?_); rintro e w1 ⟨rfl, x1⟩; obtain ⟨b0, kA, kB, a0, a1, a2, a3, a4, a5, c0, c1, c2, c3, c4, c5⟩ := onS b0 kA kB x1) | ((with_reducible refine (g2.out _).mono ?_); rintro e w2 ⟨rfl, x2⟩; obtain ⟨b0, kA, kB, a0, a1, a2, a3, a4, a5, c0, c1, c2, c3, c4, c5⟩ := onS b0 kA kB x2))
 go_ret
 exact ⟨rfl, b0⟩
theorem opd_sh25_x {A B : On} (h0 : TellsB 68 A false) : OpdB 25 A B false := by
 intro w
 have g0 := Lib.hid h0
 clear h0
 obtain ⟨kA, kB, b0⟩ := onAB w A B
 go_enter Tryd.func42, Tryd.ntmps42
 go_wp2_with (first | ((with_reducible refine (g0.out _).mono ?_); rintro e w0 ⟨rfl, x0⟩; obtain ⟨b0, kA, kB, a0, a1, a2, a3, a4, a5, c0, c1, c2, c3, c4, c5⟩ := onS b0 kA kB x0))
 go_ret
 exact ⟨rfl, b0⟩
theorem opd_sh25_y {A B : On} (h0 : TellsB 68 A true) (h1 : TellsB 72 B false) (h2 : TellsB 69 B false) : OpdB 25 A B false := by
 intro w
 have g0 := Lib.hid h0
 have g1 := Lib.hid h1
 have g2 := Lib.hid h2
 clear h0 h1 h2
 obtain ⟨kA, kB, b0⟩ := onAB w A B
 go_enter Tryd.func42, Tryd.ntmps42
 go_wp2_with (first | ((with_reducible refine (g0.out _).mono ?_); rintro e w0 ⟨rfl, x0⟩; obtain ⟨b0, kA, kB, a0, a1, a2, a3, a4, a5, c0, c1, c2, c3, c4, c5⟩ := onS b0 kA kB x0) | ((with_reducible refine (g1.out _).mono ?_); rintro e w1 ⟨rfl, x1⟩; obtain ⟨b0, kA, kB, a0, a1, a2, a3, a4, a5, c0, c1, c2, c3, c4, c5⟩ := onS b0 kA kB x1) | ((with_reducible refine (g2.out _).mono ?_); rintro e w2 ⟨rfl, x2⟩; obtain ⟨b0, kA, kB, a0, a1, a2, a3, a4, a5, c0, c1, c2, c3, c4, c5⟩ := onS b0 kA kB x2))
 go_ret
 exact ⟨rfl, b0⟩
theorem opd_imm28_x {A B : On} (h0 : TellsB 68 A false) (h1 : TellsB 70 A false) : OpdB 28 A B false := by
 intro w
 have g0 := Lib.hid h0
 have g1 := Lib.hid h1
 clear h0 h1
 obtain ⟨kA, kB, b0⟩ := onAB w A B
 go_enter Tryd.func42, Tryd.ntmps42
 go_wp2_with (first | ((with_reducible refine (g0.out _).mono ?_); rintro e w0 ⟨rfl, x0⟩; obtain ⟨b0, kA, kB, a0, a1, a2, a3, a4, a5, c0, c1, c2, c3, c4, c5⟩ := onS b0 kA kB x0) | ((with_reducible refine (g1.out _).mono ?_); rintro e w1 ⟨rfl, x1⟩; obtain ⟨b0, kA, kB, a0, a1, a2, a3, a4, a5, c0, c1, c2, c3, c4, c5⟩ := onS b0 kA kB x1))
 go_ret
 exact ⟨rfl, b0⟩
theorem opd_imm28_y {A B : On} (h0 : TellsB 68 A true) (h1 : TellsB 73 B false) : OpdB 28 A B false := by
 intro w
 have g0 := Lib.hid h0
 have g1 := Lib.hid h1
 clear h0 h1
 obtain ⟨kA, kB, b0⟩ := onAB w A B
 go_enter Tryd.func42, Tryd.ntmps42
 go_wp2_with (first | ((with_reducible refine (g0.out _).mono ?_); rintro e w0 ⟨rfl, x0⟩; obtain ⟨b0, kA, kB, a0, a1, a2, a3, a4, a5, c0, c1, c2, c3, c4, c5⟩ := onS b0 kA kB x0) | ((with_reducible refine (g1.out _).mono ?_); rintro e w1 ⟨rfl, x1⟩; obtain ⟨b0, kA, kB, a0, a1, a2, a3, a4, a5, c0, c1, c2, c3, c4, c5⟩ := onS b0 kA kB x1))
 go_ret
 exact ⟨rfl, b0⟩
theorem opd_imm28_w {A B : On} (h0 : TellsB 68 A false) (h1 : TellsB 70 A true) (h2 : TellsB 73 B false) : OpdB 28 A B false := by
 intro w
 have g0 := Lib.hid h0
 have g1 := Lib.hid h1
 have g2 := Lib.hid h2
 clear h0 h1 h2
 obtain ⟨kA, kB, b0⟩ := onAB w A B
 go_enter Tryd.func42, Tryd.ntmps42
 go_wp2_with (first | ((with_reducible refine (g0.out _).mono ?_); rintro e w0 ⟨rfl, x0⟩; obtain ⟨b0, kA, kB, a0, a1, a2, a3, a4, a5, c0, c1, c2, c3, c4, c5⟩ := onS b0 kA kB x0) | ((with_reducible refine (g1.out _).mono ?_); rintro e w1 ⟨rfl, x1⟩; obtain ⟨b0, kA, kB, a0, a1, a2, a3, a4, a5, c0, c1, c2, c3, c4, c5⟩ := onS b0 kA kB x1) | ((with_reducible refine (g2.out _).mono ?_); rintro e w2 ⟨rfl, x2⟩; obtain ⟨b0, kA, kB, a0, a1, a2, a3, a4, a5, c0, c1, c2, c3, c4, c5⟩ := onS b0 kA kB x2))
 go_ret
 exact ⟨rfl, b0⟩
theorem opd_imm30_x {A B : On} (h0 : TellsB 68 A false) (h1 : TellsB 70 A false) : OpdB 30 A B false := by
 intro w
 have g0 := Lib.hid h0
 have g1 := Lib.hid h1
 clear h0 h1
 obtain ⟨kA, kB, b0⟩ := onAB w A B
 go_enter Tryd.func42, Tryd.ntmps42
 go_wp2_with (first | ((with_reducible refine (g0.out _).mono ?_); rintro e w0 ⟨rfl, x0⟩; obtain ⟨b0, kA, kB, a0, a1, a2, a3, a4, a5, c0, c1, c2, c3, c4, c5⟩ := onS b0 kA kB x0) | ((with_reducible refine (g1.out _).mono ?_); rintro e w1 ⟨rfl, x1⟩; obtain ⟨b0, kA, kB, a0, a1, a2, a3, a4, a5, c0, c1, c2, c3, c4, c5⟩ := onS b0 kA kB x1))
 go_ret
 exact ⟨rfl, b0⟩
theorem opd_imm30_y {A B : On} (h0 : TellsB 68 A true) (h1 : TellsB 73 B false) : OpdB 30 A B false := by
 intro w
 have g0 := Lib.hid h0
 have g1 := Lib.hid h1
 clear h0 h1
 obtain ⟨kA, kB, b0⟩ := onAB w A B
 go_enter Tryd.func42, Tryd.ntmps42
 go_wp2_with (first | ((with_reducible refine (g0.out _).mono ?_); rintro e w0 ⟨rfl, x0⟩; obtain ⟨b0, kA, kB, a0, a1, a2, a3, a4, a5, c0, c1, c2, c3, c4, c5⟩ := onS b0 kA kB x0) | ((with_reducible refine (g1.out _).mono ?_); rintro e w1 ⟨rfl, x1⟩; obtain ⟨b0, kA, kB, a0, a1, a2, a3, a4, a5, c0, c1, c2, c3, c4, c5⟩ := onS b0 kA kB x1))
 go_ret
 exact ⟨rfl, b0⟩
theorem opd_imm30_w {A B : On} (h0 : TellsB 68 A false) (h1 : TellsB 70 A true) (h2 : TellsB 73 B false) : OpdB 30 A B false := by
 intro w
 have g0 := Lib.hid h0
 have g1 := Lib.hid h1
 have g2 := Lib.hid h2
 clear h0 h1 h2
 obtain ⟨kA, kB, b0⟩ := onAB w A B
 go_enter Tryd.func42, Tryd.ntmps42
 go_wp2_with (first | ((with_reducible refine (g0.out _).mono ?_); rintro e w0 ⟨rfl, x0⟩; obtain ⟨b0, kA, kB, a0, a1, a2, a3, a4, a5, c0, c1, c2, c3, c4, c5⟩ := onS b0 kA kB x0) | ((with_reducible refine (g1.out _).mono ?_); rintro e w1 ⟨rfl, x1⟩; obtain ⟨b0, kA, kB, a0, a1, a2, a3, a4, a5, c0, c1, c2, c3, c4, c5⟩ := onS b0 kA kB x1) | ((with_reducible refine (g2.out _).mono ?_); rintro e w2 ⟨rfl, x2⟩; obtain ⟨b0, kA, kB, a0, a1, a2, a3, a4, a5, c0, c1, c2, c3, c4, c5⟩ := onS b0 kA kB x2))
 go_ret
 exact ⟨rfl, b0⟩
theorem opd_imm32_x {A B : On} (h0 : TellsB 68 A false) (h1 : TellsB 70 A false) : OpdB 32 A B false := by
 intro w
 have g0 := Lib.hid h0
 have g1 := Lib.hid h1
 clear h0 h1
 obtain ⟨kA, kB, b0⟩ := onAB w A B
 go_enter Tryd.func42, Tryd.ntmps42
 go_wp2_with (first | ((with_reducible refine (g0.out _).mono ?_); rintro e w0 ⟨rfl, x0⟩; obtain ⟨b0, kA, kB, a0, a1, a2, a3, a4, a5, c0, c1, c2, c3, c4, c5⟩ := onS b0 kA kB x0) | ((with_reducible refine (g1.out _).mono ?_); rintro e w1 ⟨rfl, x1⟩; obtain ⟨b0, kA, kB, a0, a1, a2, a3, a4, a5, c0, c1, c2, c3, c4, c5⟩ := onS b0 kA kB x1))
 go_ret
 exact ⟨rfl, b0⟩
theorem opd_imm32_y {A B : On} (h0 : TellsB 68 A true) (h1 : TellsB 73 B false) : OpdB 32 A B false := by
 intro w
 have g0 := Lib.hid h0
 have g1 := Lib.hid h1
 clear h0 h1
 obtain ⟨kA, kB, b0⟩ := onAB w A B
 go_enter Tryd.func42, Tryd.ntmps42
 go_wp2_with (first | ((with_reducible refine (g0.out _).mono ?_); rintro e w0 ⟨rfl, x0⟩; obtain ⟨b0, kA, kB, a0, a1, a2, a3, a4, a5, c0, c1, c2, c3, c4, c5⟩ := onS b0 kA kB x0) | ((with_reducible refine (g1.out _).mono ?_); rintro e w1 ⟨rfl, x1⟩; obtain ⟨b0, kA, kB, a0, a1, a2, a3, a4, a5, c0, c1, c2, c3, c4, c5⟩ := onS b0 kA kB x1))
 go_ret
 exact ⟨rfl, b0⟩
theorem opd_imm32_w {A B : On} (h0 : TellsB 68 A false) (h1 : TellsB 70 A true) (h2 : TellsB 73 B false) : OpdB 32 A B false := by
 intro w
 have g0 := Lib.hid h0
 have g1 := Lib.hid h1
 have g2 := Lib.hid h2
 clear h0 h1 h2
 obtain ⟨kA, kB, b0⟩ := onAB w A B
 go_enter Tryd.func42, Tryd.ntmps42
 go_wp2_with (first | ((with_reducible refine (g0.out _).mono ?_); rintro e w0 ⟨rfl, x0⟩; obtain ⟨b0, kA, kB, a0, a1, a2, a3, a4, a5, c0, c1, c2, c3, c4, c5⟩ := onS b0 kA kB x0) | ((with_reducible refine (g1.out _).mono ?_); rintro e w1 ⟨rfl, x1⟩; obtain ⟨b0, kA, kB, a0, a1, a2, a3, a4, a5, c0, c1, c2, c3, c4, c5⟩ := onS b0 kA kB x1) | ((with_reducible refine (g2.out _).mono ?_); rintro e w2 ⟨rfl, x2⟩; obtain ⟨b0, kA, kB, a0, a1, a2, a3, a4, a5, c0, c1, c2, c3, c4, c5⟩ := onS b0 kA kB x2))
 go_ret
 exact ⟨rfl, b0⟩
theorem opd_int_x {A B : On} (h0 : TellsB 70 A false) : OpdB 43 A B false := by
 intro w
 have g0 := Lib.hid h0
 clear h0
 obtain ⟨kA, kB, b0⟩ := onAB w A B
 go_enter Tryd.func42, Tryd.ntmps42
 go_wp2_with (first | ((with_reducible refine (g0.out _).mono ?_); rintro e w0 ⟨rfl, x0⟩; obtain ⟨b0, kA, kB, a0, a1, a2, a3, a4, a5, c0, c1, c2, c3, c4, c5⟩ := onS b0 kA kB x0))
 go_ret
 exact ⟨rfl, b0⟩
theorem opd_int_y {A B : On} {u : Bool} (hm : (A.m == 128) = u) (h0 : TellsB 70 A true) (h1 : TellsB 73 B false) : OpdB 43 A B false := by
 intro w
 have g0 := Lib.hid h0
 have g1 := Lib.hid h1
 clear h0 h1
 obtain ⟨kA, kB, b0⟩ := onAB w A B
 go_enter Tryd.func42, Tryd.ntmps42
 go_wp2_with (first | ((with_reducible refine (g0.out _).mono ?_); rintro e w0 ⟨rfl, x0⟩; obtain ⟨b0, kA, kB, a0, a1, a2, a3, a4, a5, c0, c1, c2, c3, c4, c5⟩ := onS b0 kA kB x0) | ((with_reducible refine (g1.out _).mono ?_); rintro e w1 ⟨rfl, x1⟩; obtain ⟨b0, kA, kB, a0, a1, a2, a3, a4, a5, c0, c1, c2, c3, c4, c5⟩ := onS b0 kA kB x1))
 all_goals go_ret
 all_goals exact ⟨rfl, b0⟩
theorem opd_mem45_x {A B : On} (h0 : TellsB 71 A false) : OpdB 45 A B false := by
 intro w
 have g0 := Lib.hid h0
 clear h0
 obtain ⟨kA, kB, b0⟩ := onAB w A B
 go_enter Tryd.func42, Tryd.ntmps42
 go_wp2_with (first | ((with_reducible refine (g0.out _).mono ?_); rintro e w0 ⟨rfl, x0⟩; obtain ⟨b0, kA, kB, a0, a1, a2, a3, a4, a5, c0, c1, c2, c3, c4, c5⟩ := onS b0 kA kB x0))
 go_ret
 exact ⟨rfl, b0⟩
theorem opd_mem45_y {A B : On} (h0 : TellsB 71 A true) (h1 : TellsB 73 B false) : OpdB 45 A B false := by
 intro w
 have g0 := Lib.hid h0
 have g1 := Lib.hid h1
 clear h0 h1
 obtain ⟨kA, kB, b0⟩ := onAB w A B
 go_enter Tryd.func42, Tryd.ntmps42
 go_wp2_with (first | ((with_reducible refine (g0.out _).mono ?_); rintro e w0 ⟨rfl, x0⟩; obtain ⟨b0, kA, kB, a0, a1, a2, a3, a4, a5, c0, c1, c2, c3, c4, c5⟩ := onS b0 kA kB x0) | ((with_reducible refine (g1.out _).mono ?_); rintro e w1 ⟨rfl, x1⟩; obtain ⟨b0, kA, kB, a0, a1, a2, a3, a4, a5, c0, c1, c2, c3, c4, c5⟩ := onS b0 kA kB x1))
 go_ret
 exact ⟨rfl, b0⟩
theorem opd_mem46_x {A B : On} (h0 : TellsB 71 A false) : OpdB 46 A B false := by
 intro w
 have g0 := Lib.hid h0
 clear h0
 obtain ⟨kA, kB, b0⟩ := onAB w A B
 go_enter Tryd.func42, Tryd.ntmps42
 go_wp2_with (first | ((with_reducible refine (g0.out _).mono ?_); rintro e w0 ⟨rfl, x0⟩; obtain ⟨b0, kA, kB, a0, a1, a2, a3, a4, a5, c0, c1, c2, c3, c4, c5⟩ := onS b0 kA kB x0))
 go_ret
 exact ⟨rfl, b0⟩
theorem opd_mem46_y {A B : On} (h0 : TellsB 71 A true) (h1 : TellsB 73 B false) : OpdB 46 A B false := by
 intro w
 have g0 := Lib.hid h0
 have g1 := Lib.hid h1
 clear h0 h1
 obtain ⟨kA, kB, b0⟩ := onAB w A B
 go_enter Tryd.func42, Tryd.ntmps42
 go_wp2_with (first | ((with_reducible refine (g0.out _).mono ?_); rintro e w0 ⟨rfl, x0⟩; obtain ⟨b0, kA, kB, a0, a1, a2, a3, a4, a5, c0, c1, c2, c3, c4, c5⟩ := onS b0 kA kB x0) | ((with_reducible refine (g1.out _).mono ?_); rintro e w1 ⟨rfl, x1⟩; obtain ⟨b0, kA, kB, a0, a1, a2, a3, a4, a5, c0, c1, c2, c3, c4, c5⟩ := onS b0 kA kB x1))
 go_ret
 exact ⟨rfl, b0⟩
theorem opd_mem47_x {A B : On} (h0 : TellsB 71 A false) : OpdB 47 A B false := by
 intro w
 have g0 := Lib.hid h0
 clear h0
 obtain ⟨kA, kB, b0⟩ := onAB w A B
 go_enter Tryd.func42, Tryd.ntmps42
 go_wp2_with (first | ((with_reducible refine (g0.out _).mono ?_); rintro e w0 ⟨rfl, x0⟩; obtain ⟨b0, kA, kB, a0, a1, a2, a3, a4, a5, c0, c1, c2, c3, c4, c5⟩ := onS b0 kA kB x0))
 go_ret
 exact ⟨rfl, b0⟩
theorem opd_mem47_y {A B : On} (h0 : TellsB 71 A true) (h1 : TellsB 73 B false) : OpdB 47 A B false := by
 intro w
 have g0 := Lib.hid h0
 have g1 := Lib.hid h1
 clear h0 h1
 obtain ⟨kA, kB, b0⟩ := onAB w A B
 go_enter Tryd.func42, Tryd.ntmps42
 go_wp2_with (first | ((with_reducible refine (g0.out _).mono ?_); rintro e w0 ⟨rfl, x0⟩; obtain ⟨b0, kA, kB, a0, a1, a2, a3, a4, a5, c0, c1, c2, c3, c4, c5⟩ := onS b0 kA kB x0) | ((with_reducible refine (g1.out _).mono ?_); rintro e w1 ⟨rfl, x1⟩; obtain ⟨b0, kA, kB, a0, a1, a2, a3, a4, a5, c0, c1, c2, c3, c4, c5⟩ := onS b0 kA kB x1))
 go_ret
 exact ⟨rfl, b0⟩
theorem opd_mem48_x {A B : On} (h0 : TellsB 71 A false) : OpdB 48 A B false := by
 intro w
 have g0 := Lib.hid h0
 clear h0
 obtain ⟨kA, kB, b0⟩ := onAB w A B
 go_enter Tryd.func42, Tryd.ntmps42
 go_wp2_with (first | ((with_reducible refine (g0.out _).mono ?_); rintro e w0 ⟨rfl, x0⟩; obtain ⟨b0, kA, kB, a0, a1, a2, a3, a4, a5, c0, c1, c2, c3, c4, c5⟩ := onS b0 kA kB x0))
 go_ret
 exact ⟨rfl, b0⟩
theorem opd_mem48_y {A B : On} (h0 : TellsB 71 A true) (h1 : TellsB 73 B false) : OpdB 48 A B false := by
 intro w
 have g0 := Lib.hid h0
 have g1 := Lib.hid h1
 clear h0 h1
 obtain ⟨kA, kB, b0⟩ := onAB w A B
 go_enter Tryd.func42, Tryd.ntmps42
 go_wp2_with (first | ((with_reducible refine (g0.out _).mono ?_); rintro e w0 ⟨rfl, x0⟩; obtain ⟨b0, kA, kB, a0, a1, a2, a3, a4, a5, c0, c1, c2, c3, c4, c5⟩ := onS b0 kA kB x0) | ((with_reducible refine (g1.out _).mono ?_); rintro e w1 ⟨rfl, x1⟩; obtain ⟨b0, kA, kB, a0, a1, a2, a3, a4, a5, c0, c1, c2, c3, c4, c5⟩ := onS b0 kA kB x1))
 go_ret
 exact ⟨rfl, b0⟩
theorem opd_mem49_x {A B : On} (h0 : TellsB 71 A false) : OpdB 49 A B false := by
 intro w
 have g0 := Lib.hid h0
 clear h0
 obtain ⟨kA, kB, b0⟩ := onAB w A B
 go_enter Tryd.func42, Tryd.ntmps42
 go_wp2_with (first | ((with_reducible refine (g0.out _).mono ?_); rintro e w0 ⟨rfl, x0⟩; obtain ⟨b0, kA, kB, a0, a1, a2, a3, a4, a5, c0, c1, c2, c3, c4, c5⟩ := onS b0 kA kB x0))
 go_ret
 exact ⟨rfl, b0⟩
theorem opd_mem49_y {A B : On} (h0 : TellsB 71 A true) (h1 : TellsB 73 B false) : OpdB 49 A B false := by
 intro w
 have g0 := Lib.hid h0
 have g1 := Lib.hid h1
 clear h0 h1
 obtain ⟨kA, kB, b0⟩ := onAB w A B
 go_enter Tryd.func42, Tryd.ntmps42
 go_wp2_with (first | ((with_reducible refine (g0.out _).mono ?_); rintro e w0 ⟨rfl, x0⟩; obtain ⟨b0, kA, kB, a0, a1, a2, a3, a4, a5, c0, c1, c2, c3, c4, c5⟩ := onS b0 kA kB x0) | ((with_reducible refine (g1.out _).mono ?_); rintro e w1 ⟨rfl, x1⟩; obtain ⟨b0, kA, kB, a0, a1, a2, a3, a4, a5, c0, c1, c2, c3, c4, c5⟩ := onS b0 kA kB x1))
 go_ret
 exact ⟨rfl, b0⟩
theorem opd_mem50_x {A B : On} (h0 : TellsB 71 A false) : OpdB 50 A B false := by
 intro w
 have g0 := Lib.hid h0
 clear h0
 obtain ⟨kA, kB, b0⟩ := onAB w A B
 go_enter Tryd.func42, Tryd.ntmps42
 go_wp2_with (first | ((with_reducible refine (g0.out _).mono ?_); rintro e w0 ⟨rfl, x0⟩; obtain ⟨b0, kA, kB, a0, a1, a2, a3, a4, a5, c0, c1, c2, c3, c4, c5⟩ := onS b0 kA kB x0))
 go_ret
 exact ⟨rfl, b0⟩
theorem opd_mem50_y {A B : On} (h0 : TellsB 71 A true) (h1 : TellsB 73 B false) : OpdB 50 A B false := by
 intro w
 have g0 := Lib.hid h0
 have g1 := Lib.hid h1
 clear h0 h1
 obtain ⟨kA, kB, b0⟩ := onAB w A B
 go_enter Tryd.func42, Tryd.ntmps42
 go_wp2_with (first | ((with_reducible refine (g0.out _).mono ?_); rintro e w0 ⟨rfl, x0⟩; obtain ⟨b0, kA, kB, a0, a1, a2, a3, a4, a5, c0, c1, c2, c3, c4, c5⟩ := onS b0 kA kB x0) | ((with_reducible refine (g1.out _).mono ?_); rintro e w1 ⟨rfl, x1⟩; obtain ⟨b0, kA, kB, a0, a1, a2, a3, a4, a5, c0, c1, c2, c3, c4, c5⟩ := onS b0 kA kB x1))
 go_ret
 exact ⟨rfl, b0⟩
theorem opd_mem53_x {A B : On} (h0 : TellsB 71 A false) : OpdB 53 A B false := by
 intro w
 have g0 := Lib.hid h0
 clear h0
 obtain ⟨kA, kB, b0⟩ := onAB w A B
 go_enter Tryd.func42, Tryd.ntmps42
 go_wp2_with (first | ((with_reducible refine (g0.out _).mono ?_); rintro e w0 ⟨rfl, x0⟩; obtain ⟨b0, kA, kB, a0, a1, a2, a3, a4, a5, c0, c1, c2, c3, c4, c5⟩ := onS b0 kA kB x0))
 go_ret
 exact ⟨rfl, b0⟩
theorem opd_mem53_y {A B : On} (h0 : TellsB 71 A true) (h1 : TellsB 73 B false) : OpdB 53 A B false := by
 intro w
 have g0 := Lib.hid h0
 have g1 := Lib.hid h1
 clear h0 h1
 obtain ⟨kA, kB, b0⟩ := onAB w A B
 go_enter Tryd.func42, Tryd.ntmps42
 go_wp2_with (first | ((with_reducible refine (g0.out _).mono ?_); rintro e w0 ⟨rfl, x0⟩; obtain ⟨b0, kA, kB, a0, a1, a2, a3, a4, a5, c0, c1, c2, c3, c4, c5⟩ := onS b0 kA kB x0) | ((with_reducible refine (g1.out _).mono ?_); rintro e w1 ⟨rfl, x1⟩; obtain ⟨b0, kA, kB, a0, a1, a2, a3, a4, a5, c0, c1, c2, c3, c4, c5⟩ := onS b0 kA kB x1))
 go_ret
 exact ⟨rfl, b0⟩
theorem opd_z31_x {A B : On} (h0 : TellsB 73 A false) : OpdB 31 A B false := by
 intro w
 have g0 := Lib.hid h0
 clear h0
 obtain ⟨kA, kB, b0⟩ := onAB w A B
 go_enter Tryd.func42, Tryd.ntmps42
 go_wp2_with (first | ((with_reducible refine (g0.out _).mono ?_); rintro e w0 ⟨rfl, x0⟩; obtain ⟨b0, kA, kB, a0, a1, a2, a3, a4, a5, c0, c1, c2, c3, c4, c5⟩ := onS b0 kA kB x0))
 go_ret
 exact ⟨rfl, b0⟩
theorem opd_z31_y {A B : On} (h0 : TellsB 73 A true) (h1 : TellsB 73 B false) : OpdB 31 A B false := by
 intro w
 have g0 := Lib.hid h0
 have g1 := Lib.hid h1
 clear h0 h1
 obtain ⟨kA, kB, b0⟩ := onAB w A B
 go_enter Tryd.func42, Tryd.ntmps42
 go_wp2_with (first | ((with_reducible refine (g0.out _).mono ?_); rintro e w0 ⟨rfl, x0⟩; obtain ⟨b0, kA, kB, a0, a1, a2, a3, a4, a5, c0, c1, c2, c3, c4, c5⟩ := onS b0 kA kB x0) | ((with_reducible refine (g1.out _).mono ?_); rintro e w1 ⟨rfl, x1⟩; obtain ⟨b0, kA, kB, a0, a1, a2, a3, a4, a5, c0, c1, c2, c3, c4, c5⟩ := onS b0 kA kB x1))
 go_ret
 exact ⟨rfl, b0⟩
theorem opd_z38_x {A B : On} (h0 : TellsB 73 A false) : OpdB 38 A B false := by
 intro w
 have g0 := Lib.hid h0
 clear h0
 obtain ⟨kA, kB, b0⟩ := onAB w A B
 go_enter Tryd.func42, Tryd.ntmps42
 go_wp2_with (first | ((with_reducible refine (g0.out _).mono ?_); rintro e w0 ⟨rfl, x0⟩; obtain ⟨b0, kA, kB, a0, a1, a2, a3, a4, a5, c0, c1, c2, c3, c4, c5⟩ := onS b0 kA kB x0))
 go_ret
 exact ⟨rfl, b0⟩
theorem opd_z38_y {A B : On} (h0 : TellsB 73 A true) (h1 : TellsB 73 B false) : OpdB 38 A B false := by
 intro w
 have g0 := Lib.hid h0
 have g1 := Lib.hid h1
 clear h0 h1
 obtain ⟨kA, kB, b0⟩ := onAB w A B
 go_enter Tryd.func42, Tryd.ntmps42
 go_wp2_with (first | ((with_reducible refine (g0.out _).mono ?_); rintro e w0 ⟨rfl, x0⟩; obtain ⟨b0, kA, kB, a0, a1, a2, a3, a4, a5, c0, c1, c2, c3, c4, c5⟩ := onS b0 kA kB x0) | ((with_reducible refine (g1.out _).mono ?_); rintro e w1 ⟨rfl, x1⟩; obtain ⟨b0, kA, kB, a0, a1, a2, a3, a4, a5, c0, c1, c2, c3, c4, c5⟩ := onS b0 kA kB x1))
 go_ret
 exact ⟨rfl, b0⟩
theorem opd_z39_x {A B : On} (h0 : TellsB 73 A false) : OpdB 39 A B false := by
 intro w
 have g0 := Lib.hid h0
 clear h0
 obtain ⟨kA, kB, b0⟩ := onAB w A B
 go_enter Tryd.func42, Tryd.ntmps42
 go_wp2_with (first | ((with_reducible refine (g0.out _).mono ?_); rintro e w0 ⟨rfl, x0⟩; obtain ⟨b0, kA, kB, a0, a1, a2, a3, a4, a5, c0, c1, c2, c3, c4, c5⟩ := onS b0 kA kB x0))
 go_ret
 exact ⟨rfl, b0⟩
theorem opd_z39_y {A B : On} (h0 : TellsB 73 A true) (h1 : TellsB 73 B false) : OpdB 39 A B false := by
 intro w
 have g0 := Lib.hid h0
 have g1 := Lib.hid h1
 clear h0 h1
 obtain ⟨kA, kB, b0⟩ := onAB w A B
 go_enter Tryd.func42, Tryd.ntmps42
 go_wp2_with (first | ((with_reducible refine (g0.out _).mono ?_); rintro e w0 ⟨rfl, x0⟩; obtain ⟨b0, kA, kB, a0, a1, a2, a3, a4, a5, c0, c1, c2, c3, c4, c5⟩ := onS b0 kA kB x0) | ((with_reducible refine (g1.out _).mono ?_); rintro e w1 ⟨rfl, x1⟩; obtain ⟨b0, kA, kB, a0, a1, a2, a3, a4, a5, c0, c1, c2, c3, c4, c5⟩ := onS b0 kA kB x1))
 go_ret
 exact ⟨rfl, b0⟩
theorem opd_z40_x {A B : On} (h0 : TellsB 73 A false) : OpdB 40 A B false := by
 intro w
 have g0 := Lib.hid h0
 clear h0
 obtain ⟨kA, kB, b0⟩ := onAB w A B
 go_enter Tryd.func42, Tryd.ntmps42
 go_wp2_with (first | ((with_reducible refine (g0.out _).mono ?_); rintro e w0 ⟨rfl, x0⟩; obtain ⟨b0, kA, kB, a0, a1, a2, a3, a4, a5, c0, c1, c2, c3, c4, c5⟩ := onS b0 kA kB x0))
 go_ret
 exact ⟨rfl, b0⟩
theorem opd_z40_y {A B : On} (h0 : TellsB 73 A true) (h1 : TellsB 73 B false) : OpdB 40 A B false := by
 intro w
 have g0 := Lib.hid h0
 have g1 := Lib.hid h1
 clear h0 h1
 obtain ⟨kA, kB, b0⟩ := onAB w A B
 go_enter Tryd.func42, Tryd.ntmps42
 go_wp2_with (first | ((with_reducible refine (g0.out _).mono ?_); rintro e w0 ⟨rfl, x0⟩; obtain ⟨b0, kA, kB, a0, a1, a2, a3, a4, a5, c0, c1, c2, c3, c4, c5⟩ := onS b0 kA kB x0) | ((with_reducible refine (g1.out _).mono ?_); rintro e w1 ⟨rfl, x1⟩; obtain ⟨b0, kA, kB, a0, a1, a2, a3, a4, a5, c0, c1, c2, c3, c4, c5⟩ := onS b0 kA kB x1))
 go_ret
 exact ⟨rfl, b0⟩
theorem opd_z41_x {A B : On} (h0 : TellsB 73 A false) : OpdB 41 A B false := by
 intro w
 have g0 := Lib.hid h0
 clear h0
 obtain ⟨kA, kB, b0⟩ := onAB w A B
 go_enter Tryd.func42, Tryd.ntmps42
 go_wp2_with (first | ((with_reducible refine (g0.out _).mono ?_); rintro e w0 ⟨rfl, x0⟩; obtain ⟨b0, kA, kB, a0, a1, a2, a3, a4, a5, c0, c1, c2, c3, c4, c5⟩ := onS b0 kA kB x0))
 go_ret
 exact ⟨rfl, b0⟩
theorem opd_z41_y {A B : On} (h0 : TellsB 73 A true) (h1 : TellsB 73 B false) : OpdB 41 A B false := by
 intro w
 have g0 := Lib.hid h0
 have g1 := Lib.hid h1
 clear h0 h1
 obtain ⟨kA, kB, b0⟩ := onAB w A B
 go_enter Tryd.func42, Tryd.ntmps42
 go_wp2_with (first | ((with_reducible refine (g0.out _).mono ?_); rintro e w0 ⟨rfl, x0⟩; obtain ⟨b0, kA, kB, a0, a1, a2, a3, a4, a5, c0, c1, c2, c3, c4, c5⟩ := onS b0 kA kB x0) | ((with_reducible refine (g1.out _).mono ?_); rintro e w1 ⟨rfl, x1⟩; obtain ⟨b0, kA, kB, a0, a1, a2, a3, a4, a5, c0, c1, c2, c3, c4, c5⟩ := onS b0 kA kB x1))
 go_ret
 exact ⟨rfl, b0⟩
theorem opd_z42_x {A B : On} (h0 : TellsB 73 A false) : OpdB 42 A B false := by
 intro w
 have g0 := Lib.hid h0
 clear h0
 obtain ⟨kA, kB, b0⟩ := onAB w A B
 go_enter Tryd.func42, Tryd.ntmps42
 go_wp2_with (first | ((with_reducible refine (g0.out _).mono ?_); rintro e w0 ⟨rfl, x0⟩; obtain ⟨b0, kA, kB, a0, a1, a2, a3, a4, a5, c0, c1, c2, c3, c4, c5⟩ := onS b0 kA kB x0))
 go_ret
 exact ⟨rfl, b0⟩
theorem opd_z42_y {A B : On} (h0 : TellsB 73 A true) (h1 : TellsB 73 B false) : OpdB 42 A B false := by
 intro w
 have g0 := Lib.hid h0
 have g1 := Lib.hid h1
 clear h0 h1
 obtain ⟨kA, kB, b0⟩ := onAB w A B
 go_enter Tryd.func42, Tryd.ntmps42
 go_wp2_with (first | ((with_reducible refine (g0.out _).mono ?_); rintro e w0 ⟨rfl, x0⟩; obtain ⟨b0, kA, kB, a0, a1, a2, a3, a4, a5, c0, c1, c2, c3, c4, c5⟩ := onS b0 kA kB x0) | ((with_reducible refine (g1.out _).mono ?_); rintro e w1 ⟨rfl, x1⟩; obtain ⟨b0, kA, kB, a0, a1, a2, a3, a4, a5, c0, c1, c2, c3, c4, c5⟩ := onS b0 kA kB x1))
 go_ret
 exact ⟨rfl, b0⟩
theorem opd_z44_x {A B : On} (h0 : TellsB 73 A false) : OpdB 44 A B false := by
 intro w
 have g0 := Lib.hid h0
 clear h0
 obtain ⟨kA, kB, b0⟩ := onAB w A B
 go_enter Tryd.func42, Tryd.ntmps42
 go_wp2_with (first | ((with_reducible refine (g0.out _).mono ?_); rintro e w0 ⟨rfl, x0⟩; obtain ⟨b0, kA, kB, a0, a1, a2, a3, a4, a5, c0, c1, c2, c3, c4, c5⟩ := onS b0 kA kB x0))
 go_ret
 exact ⟨rfl, b0⟩
theorem opd_z44_y {A B : On} (h0 : TellsB 73 A true) (h1 : TellsB 73 B false) : OpdB 44 A B false := by
 intro w
 have g0 := Lib.hid h0
 have g1 := Lib.hid h1
 clear h0 h1
 obtain ⟨kA, kB, b0⟩ := onAB w A B
 go_enter Tryd.func42, Tryd.ntmps42
 go_wp2_with (first | ((with_reducible refine (g0.out _).mono ?_); rintro e w0 ⟨rfl, x0⟩; obtain ⟨b0, kA, kB, a0, a1, a2, a3, a4, a5, c0, c1, c2, c3, c4, c5⟩ := onS b0 kA kB x0) | ((with_reducible refine (g1.out _).mono ?_); rintro e w1 ⟨rfl, x1⟩; obtain ⟨b0, kA, kB, a0, a1, a2, a3, a4, a5, c0, c1, c2, c3, c4, c5⟩ := onS b0 kA kB x1))
 go_ret
 exact ⟨rfl, b0⟩
theorem opd_z51_x {A B : On} (h0 : TellsB 73 A false) : OpdB 51 A B false := by
 intro w
 have g0 := Lib.hid h0
 clear h0
 obtain ⟨kA, kB, b0⟩ := onAB w A B
 go_enter Tryd.func42, Tryd.ntmps42
 go_wp2_with (first | ((with_reducible refine (g0.out _).mono ?_); rintro e w0 ⟨rfl, x0⟩; obtain ⟨b0, kA, kB, a0, a1, a2, a3, a4, a5, c0, c1, c2, c3, c4, c5⟩ := onS b0 kA kB x0))
 go_ret
 exact ⟨rfl, b0⟩
theorem opd_z51_y {A B : On} (h0 : TellsB 73 A true) (h1 : TellsB 73 B false) : OpdB 51 A B false := by
 intro w
 have g0 := Lib.hid h0
 have g1 := Lib.hid h1
 clear h0 h1
 obtain ⟨kA, kB, b0⟩ := onAB w A B
 go_enter Tryd.func42, Tryd.ntmps42
 go_wp2_with (first | ((with_reducible refine (g0.out _).mono ?_); rintro e w0 ⟨rfl, x0⟩; obtain ⟨b0, kA, kB, a0, a1, a2, a3, a4, a5, c0, c1, c2, c3, c4, c5⟩ := onS b0 kA kB x0) | ((with_reducible refine (g1.out _).mono ?_); rintro e w1 ⟨rfl, x1⟩; obtain ⟨b0, kA, kB, a0, a1, a2, a3, a4, a5, c0, c1, c2, c3, c4, c5⟩ := onS b0 kA kB x1))
 go_ret
 exact ⟨rfl, b0⟩
theorem opd_z52_x {A B : On} (h0 : TellsB 73 A false) : OpdB 52 A B false := by
 intro w
 have g0 := Lib.hid h0
 clear h0
 obtain ⟨kA, kB, b0⟩ := onAB w A B
 go_enter Tryd.func42, Tryd.ntmps42
 go_wp2_with (first | ((with_reducible refine (g0.out _).mono ?_); rintro e w0 ⟨rfl, x0⟩; obtain ⟨b0, kA, kB, a0, a1, a2, a3, a4, a5, c0, c1, c2, c3, c4, c5⟩ := onS b0 kA kB x0))
 go_ret
 exact ⟨rfl, b0⟩
theorem opd_z52_y {A B : On} (h0 : TellsB 73 A true) (h1 : TellsB 73 B false) : OpdB 52 A B false := by
 intro w
 have g0 := Lib.hid h0
 have g1 := Lib.hid h1
 clear h0 h1
 obtain ⟨kA, kB, b0⟩ := onAB w A B
 go_enter Tryd.func42, Tryd.ntmps42
 go_wp2_with (first | ((with_reducible refine (g0.out _).mono ?_); rintro e w0 ⟨rfl, x0⟩; obtain ⟨b0, kA, kB, a0, a1, a2, a3, a4, a5, c0, c1, c2, c3, c4, c5⟩ := onS b0 kA kB x0) | ((with_reducible refine (g1.out _).mono ?_); rintro e w1 ⟨rfl, x1⟩; obtain ⟨b0, kA, kB, a0, a1, a2, a3, a4, a5, c0, c1, c2, c3, c4, c5⟩ := onS b0 kA kB x1))
 go_ret
 exact ⟨rfl, b0⟩
theorem opd_low {A B : On} {op : Int} (ho : op < 1) : OpdB op A B false := by
 intro w
 have f1 : (op == 1) = false := by simp; omega
 have f11 : (op == 11) = false := by simp; omega
 have f2 : (op == 2) = false := by simp; omega
 have f27 : (op == 27) = false := by simp; omega
 have f19 : (op == 19) = false := by simp; omega
 have f20 : (op == 20) = false := by simp; omega
 have f34 : (op == 34) = false := by simp; omega
 have f18 : (op == 18) = false := by simp; omega
 have f35 : (op == 35) = false := by simp; omega
 have f36 : (op == 36) = false := by simp; omega
 have f37 : (op == 37) = false := by simp; omega
 have f26 : (op == 26) = false := by simp; omega
 have f28 : (op == 28) = false := by simp; omega
 have f30 : (op == 30) = false := by simp; omega
 have f32 : (op == 32) = false := by simp; omega
 have f29 : (op == 29) = false := by simp; omega
 have f33 : (op == 33) = false := by simp; omega
 have f43 : (op == 43) = false := by simp; omega
 have f45 : (op == 45) = false := by simp; omega
 have f46 : (op == 46) = false := by simp; omega
 have f53 : (op == 53) = false := by simp; omega
 have f31 : (op == 31) = false := by simp; omega
 have f44 : (op == 44) = false := by simp; omega
 have f51 : (op == 51) = false := by simp; omega
 have f52 : (op == 52) = false := by simp; omega
 have l3 : ((3 : Int) ≤ op) = False := eq_false (by omega)
 have l12 : ((12 : Int) ≤ op) = False := eq_false (by omega)
 have l21 : ((21 : Int) ≤ op) = False := eq_false (by omega)
 have l47 : ((47 : Int) ≤ op) = False := eq_false (by omega)
 have l38 : ((38 : Int) ≤ op) = False := eq_false (by omega)
 clear ho
 obtain ⟨kA, kB, b0⟩ := onAB w A B
 go_enter Tryd.func42, Tryd.ntmps42
 go_wp2
 go_ret
 exact ⟨rfl, b0⟩
theorem opd_high {A B : On} {op : Int} (ho : 53 < op) : OpdB op A B false := by
 intro w
 have f1 : (op == 1) = false := by simp; omega
 have f11 : (op == 11) = false := by simp; omega
 have f2 : (op == 2) = false := by simp; omega
 have f27 : (op == 27) = false := by simp; omega
 have f19 : (op == 19) = false := by simp; omega
 have f20 : (op == 20) = false := by simp; omega
 have f34 : (op == 34) = false := by simp; omega
 have f18 : (op == 18) = false := by simp; omega
 have f35 : (op == 35) = false := by simp; omega
 have f36 : (op == 36) = false := by simp; omega
 have f37 : (op == 37) = false := by simp; omega
 have f26 : (op == 26) = false := by simp; omega
 have f28 : (op == 28) = false := by simp; omega
 have f30 : (op == 30) = false := by simp; omega
 have f32 : (op == 32) = false := by simp; omega
 have f29 : (op == 29) = false := by simp; omega
 have f33 : (op == 33) = false := by simp; omega
 have f43 : (op == 43) = false := by simp; omega
 have f45 : (op == 45) = false := by simp; omega
 have f46 : (op == 46) = false := by simp; omega
 have f53 : (op == 53) = false := by simp; omega
 have f31 : (op == 31) = false := by simp; omega
 have f44 : (op == 44) = false := by simp; omega
 have f51 : (op == 51) = false := by simp; omega
 have f52 : (op == 52) = false := by simp; omega
 have l3 : ((3 : Int) ≤ op) = True := eq_true (by omega)
 have l12 : ((12 : Int) ≤ op) = True := eq_true (by omega)
 have l21 : ((21 : Int) ≤ op) = True := eq_true (by omega)
 have l47 : ((47 : Int) ≤ op) = True := eq_true (by omega)
 have l38 : ((38 : Int) ≤ op) = True := eq_true (by omega)
 have u10 : (op ≤ 10) = False := eq_false (by omega)
 have u17 : (op ≤ 17) = False := eq_false (by omega)
 have u25 : (op ≤ 25) = False := eq_false (by omega)
 have u50 : (op ≤ 50) = False := eq_false (by omega)
 have u42 : (op ≤ 42) = False := eq_false (by omega)
 clear ho
 obtain ⟨kA, kB, b0⟩ := onAB w A B
 go_enter Tryd.func42, Tryd.ntmps42
 go_wp2
 go_ret
 exact ⟨rfl, b0⟩
end Go.Proofs.YtcgleggdochbeaaDoor
