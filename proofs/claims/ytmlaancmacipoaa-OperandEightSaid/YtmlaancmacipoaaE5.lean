/- OperandEight: the walk. -/
import Derived.Test.YtmlaancmacipoaaE4
namespace Go.Proofs.Ytmlaancmacipoaa
open Go.RowKit
set_option linter.unusedVariables false
set_option linter.unusedSimpArgs false
set_option linter.unusedSectionVars false

section
variable {n0 : Nat} {w0 w : World} {B R : Nat} {m t : Mm}
theorem bLn (b : Bp n0 w0 w B R m t) (A : Nat) (hA : A ≤ 4294967295) (r : Int) (hr : r = 1 ∨ r = 2 ∨ r = 4) (hl : lackL t A r 8 = none) : Calls Try.prog 10 #[mp R, .int .u32 A, .int .i64 8, .int .i64 r] w fun e w' => e = .returned (.tuple #[fltV 0 0 0 0, .bool false]) ∧ Bp n0 w0 w' B R m t ∧ Below w.heap.size w w' :=
  (rLacks_none b.r b.ok2 A 8 hA r hr (by decide) hl).mono fun e w' h => ⟨h.1, b.below h.2, h.2⟩
theorem bLs (b : Bp n0 w0 w B R m t) (A : Nat) (hA : A ≤ 4294967295) (r : Int) (hr : r = 1 ∨ r = 2 ∨ r = 4) {j : Nat} (hl : lackL t A r 8 = some j) : Calls Try.prog 10 #[mp R, .int .u32 A, .int .i64 8, .int .i64 r] w fun e w' => e = .returned (.tuple #[fltV 1 0 ((A + j) % 4294967296) r, .bool true]) ∧ Bp n0 w0 w' B R m t ∧ Below w.heap.size w w' :=
  (rLacks_some b.r b.ok2 A 8 j hA r hr (by decide) hl).mono fun e w' h => ⟨h.1, b.below h.2, h.2⟩
end
set_option maxHeartbeats 4000000 in
set_option maxRecDepth 20000 in
theorem eight_any {w : World} (x : Option Addr) (len cap : Nat) (L : List Sp) (hs : SpansAt w x len L) (hlen : len ≤ 9223372036854775807) (A : Nat) (hA : A ≤ 4294967295) (v : Int) (hv : 0 ≤ v ∧ v ≤ 18446744073709551615) :
    Calls Try.prog 3 #[.slice x len cap, .int .u32 A, .int .u64 v] w fun e w' => e = .returned (.bool true) ∧ Below w.heap.size w w' := by
  have hK := Lib.hid (fun W => oknown W)
  have hb := Lib.hid (fun W (hW : Below w.heap.size w W) => both_any (w := W) x len cap L (hs.below hW (Nat.le_refl _)) hlen)
  have hf := Lib.hid (fun W (hW : Below w.heap.size w W) => few_any (w := W) x len cap L (hs.below hW (Nat.le_refl _)) hlen)
  go_enter Try.func3, Try.ntmps3
  go_upto_region 3 with (first | ((with_reducible refine (hK.out _).mono ?_); rintro e w1 ⟨rfl, k1⟩))
  go_upto_region 4 with (first | ((with_reducible refine (hb.out _ k1).mono ?_); rintro e w2 ⟨B, R, q, rfl, k2, hq⟩))
  replace k2 := k1.trans (k2.mono k1.size)
  have s1 := k1.size
  clear hK hb
  cases q with
  | false =>
    clear hq
    go_wp2_with (first | ((with_reducible refine (hf.out _ k2).mono ?_); rintro e w3 ⟨⟨q2, rfl⟩, hw⟩; subst hw; cases q2))
    all_goals (go_ret; exact ⟨rfl, k2⟩)
  | true =>
    obtain ⟨m, hBl, hRl, bb⟩ := hq rfl
    clear hq
    have lB : w.heap.size ≤ B := by omega
    have lR : w.heap.size ≤ R := by omega
    go_upto_region 6 with (first | ((with_reducible refine (hf.out _ k2).mono ?_); rintro e w3 ⟨⟨q2, rfl⟩, hw⟩; subst hw; cases q2))
    · go_ret
      exact ⟨rfl, k2⟩
    clear hf hs hlen
    have hv1 := Lib.hid hv
    cases h2 : lackL m A 2 8 with
    | none =>
      cases h1 : lackL m A 1 8 with
      | none =>
        have q6 := Lib.hid (bLn bb A hA 2 (by decide) h2)
        have q7 := Lib.hid (fun W (hW : Bp w2.heap.size w2 W B R m m) => bWrite8_yes hW A hA v hv1.out h2)
        have q10 := Lib.hid (fun W (hW : Bp w2.heap.size w2 W B R (w8S m A v) m) => bLn hW A hA 1 (by decide) h1)
        have q11 := Lib.hid (fun W (hW : Bp w2.heap.size w2 W B R (w8S m A v) m) => bRead8_yes hW A hA h1)
        rw [read_w8 m A v hv1.out] at q11
        clear h1 h2
        have zb := Lib.hid bb.r.lt
        have hb2 := bb.h.lt
        have hr2 := bb.r.lt
        have nF1 := Lib.hid (show B < w2.heap.size from bb.h.lt)
        go_upto_region 7 with (first | ((with_reducible refine q6.out.mono ?_); rintro e w3 ⟨rfl, b3, k3⟩))
        have z3 := k3.size
        clear k3
        have ka := (Below.refl w3.heap.size w3).alloc (Nat.le_refl _) (.cells #[.int .i64 0, .int .u32 0, .int .u32 0, .int .i64 0] 32)
        have b4 := b3.below ka
        have F1 := Four.begun w3 0 0 0 0 32
        clear ka
        generalize w3.alloc (.cells #[.int .i64 0, .int .u32 0, .int .u32 0, .int .i64 0] 32) = W4 at *
        generalize w3.heap.size = N1 at *
        clear b3
        go_upto_region 8 with (first | ((with_reducible refine (q7.out _ b4).mono ?_); rintro e w5 ⟨rfl, b5, k5⟩))
        clear k5 F1
        have ka := (Below.refl w5.heap.size w5).alloc (Nat.le_refl _) (.cells #[.int .i64 0, .int .u32 0, .int .u32 0, .int .i64 0] 32)
        have b7 := b5.below ka
        have F2 := Four.begun w5 0 0 0 0 32
        clear ka
        generalize w5.alloc (.cells #[.int .i64 0, .int .u32 0, .int .u32 0, .int .i64 0] 32) = W6 at *
        generalize w5.heap.size = N2 at *
        clear b4 b5 F2
        go_upto_region 10 with fail
        go_upto_region 11 with (first | ((with_reducible refine (q10.out _ b7).mono ?_); rintro e w8 ⟨rfl, b8, k8⟩))
        clear k8
        have ka := (Below.refl w8.heap.size w8).alloc (Nat.le_refl _) (.cells #[.int .i64 0, .int .u32 0, .int .u32 0, .int .i64 0] 32)
        have b9 := b8.below ka
        have F3 := Four.begun w8 0 0 0 0 32
        clear ka
        generalize w8.alloc (.cells #[.int .i64 0, .int .u32 0, .int .u32 0, .int .i64 0] 32) = W9 at *
        generalize w8.heap.size = N3 at *
        clear b7 b8
        go_upto_region 12 with (first | ((with_reducible refine (q11.out _ b9).mono ?_); rintro e wA ⟨rfl, bA, kA⟩))
        clear kA
        have ka := (Below.refl wA.heap.size wA).alloc (Nat.le_refl _) (.cells #[.int .i64 0, .int .u32 0, .int .u32 0, .int .i64 0] 32)
        have bB := bA.below ka
        have F4 := Four.begun wA 0 0 0 0 32
        clear ka
        generalize wA.alloc (.cells #[.int .i64 0, .int .u32 0, .int .u32 0, .int .i64 0] 32) = WB at *
        generalize wA.heap.size = N4 at *
        clear b9 bA
        go_wp2_with fail
        go_ret
        exact ⟨rfl, k2.trans (bB.k.below k2.size (by simp; omega))⟩
      | some i =>
        have q6 := Lib.hid (bLn bb A hA 2 (by decide) h2)
        have q7 := Lib.hid (fun W (hW : Bp w2.heap.size w2 W B R m m) => bWrite8_yes hW A hA v hv1.out h2)
        have q10 := Lib.hid (fun W (hW : Bp w2.heap.size w2 W B R (w8S m A v) m) => bLs hW A hA 1 (by decide) h1)
        have q11 := Lib.hid (fun W (hW : Bp w2.heap.size w2 W B R (w8S m A v) m) => bRead8_no hW A hA h1)
        generalize ((A : Int) + i) % 4294967296 = x2 at *
        clear h1 h2
        have zb := Lib.hid bb.r.lt
        have hb2 := bb.h.lt
        have hr2 := bb.r.lt
        have nF1 := Lib.hid (show B < w2.heap.size from bb.h.lt)
        go_upto_region 7 with (first | ((with_reducible refine q6.out.mono ?_); rintro e w3 ⟨rfl, b3, k3⟩))
        have z3 := k3.size
        clear k3
        have ka := (Below.refl w3.heap.size w3).alloc (Nat.le_refl _) (.cells #[.int .i64 0, .int .u32 0, .int .u32 0, .int .i64 0] 32)
        have b4 := b3.below ka
        have F1 := Four.begun w3 0 0 0 0 32
        clear ka
        generalize w3.alloc (.cells #[.int .i64 0, .int .u32 0, .int .u32 0, .int .i64 0] 32) = W4 at *
        generalize w3.heap.size = N1 at *
        clear b3
        go_upto_region 8 with (first | ((with_reducible refine (q7.out _ b4).mono ?_); rintro e w5 ⟨rfl, b5, k5⟩))
        clear k5 F1
        have ka := (Below.refl w5.heap.size w5).alloc (Nat.le_refl _) (.cells #[.int .i64 0, .int .u32 0, .int .u32 0, .int .i64 0] 32)
        have b7 := b5.below ka
        have F2 := Four.begun w5 0 0 0 0 32
        clear ka
        generalize w5.alloc (.cells #[.int .i64 0, .int .u32 0, .int .u32 0, .int .i64 0] 32) = W6 at *
        generalize w5.heap.size = N2 at *
        clear b4 b5 F2
        go_upto_region 10 with fail
        go_upto_region 11 with (first | ((with_reducible refine (q10.out _ b7).mono ?_); rintro e w8 ⟨rfl, b8, k8⟩))
        clear k8
        have ka := (Below.refl w8.heap.size w8).alloc (Nat.le_refl _) (.cells #[.int .i64 1, .int .u32 0, .int .u32 x2, .int .i64 1] 32)
        have b9 := b8.below ka
        have F3 := Four.begun w8 1 0 x2 1 32
        clear ka
        generalize w8.alloc (.cells #[.int .i64 1, .int .u32 0, .int .u32 x2, .int .i64 1] 32) = W9 at *
        generalize w8.heap.size = N3 at *
        clear b7 b8
        go_upto_region 12 with (first | ((with_reducible refine (q11.out _ b9).mono ?_); rintro e wA ⟨rfl, bA, kA⟩))
        replace F3 := F3.but (But.of kA []) (size_of_cell F3.c0) (by simp)
        clear kA
        have ka := (Below.refl wA.heap.size wA).alloc (Nat.le_refl _) (.cells #[.int .i64 1, .int .u32 0, .int .u32 x2, .int .i64 1] 32)
        have bB := bA.below ka
        have F4 := Four.begun wA 1 0 x2 1 32
        replace F3 := F3.but (But.of ka []) (size_of_cell F3.c0) (by simp)
        clear ka
        generalize wA.alloc (.cells #[.int .i64 1, .int .u32 0, .int .u32 x2, .int .i64 1] 32) = WB at *
        generalize wA.heap.size = N4 at *
        clear b9 bA
        have F3c0 := F3.c0
        have F3c1 := F3.c1
        have F3c2 := F3.c2
        have F3c3 := F3.c3
        have F4c0 := F4.c0
        have F4c1 := F4.c1
        have F4c2 := F4.c2
        have F4c3 := F4.c3
        go_wp2_with fail
        go_ret
        exact ⟨rfl, k2.trans (bB.k.below k2.size (by simp; omega))⟩
    | some j =>
      cases h1 : lackL m A 1 8 with
      | none =>
        have q6 := Lib.hid (bLs bb A hA 2 (by decide) h2)
        have q7 := Lib.hid (fun W (hW : Bp w2.heap.size w2 W B R m m) => bWrite8_no hW A hA v h2)
        have q10 := Lib.hid (fun W (hW : Bp w2.heap.size w2 W B R m m) => bLn hW A hA 1 (by decide) h1)
        have q11 := Lib.hid (fun W (hW : Bp w2.heap.size w2 W B R m m) => bRead8_yes hW A hA h1)
        generalize up8 (readL m A 4) (readL m (A + 4) 4) = z at *
        have qA := Lib.hid (fun W (hW : Bp w2.heap.size w2 W B R m m) => alike_any hW)
        generalize ((A : Int) + j) % 4294967296 = x1 at *
        clear h1 h2
        have zb := Lib.hid bb.r.lt
        have hb2 := bb.h.lt
        have hr2 := bb.r.lt
        have nF1 := Lib.hid (show B < w2.heap.size from bb.h.lt)
        go_upto_region 7 with (first | ((with_reducible refine q6.out.mono ?_); rintro e w3 ⟨rfl, b3, k3⟩))
        have z3 := k3.size
        clear k3
        have ka := (Below.refl w3.heap.size w3).alloc (Nat.le_refl _) (.cells #[.int .i64 1, .int .u32 0, .int .u32 x1, .int .i64 2] 32)
        have b4 := b3.below ka
        have F1 := Four.begun w3 1 0 x1 2 32
        clear ka
        generalize w3.alloc (.cells #[.int .i64 1, .int .u32 0, .int .u32 x1, .int .i64 2] 32) = W4 at *
        generalize w3.heap.size = N1 at *
        clear b3
        go_upto_region 8 with (first | ((with_reducible refine (q7.out _ b4).mono ?_); rintro e w5 ⟨rfl, b5, k5⟩))
        replace F1 := F1.but (But.of k5 []) (size_of_cell F1.c0) (by simp)
        clear k5
        have ka := (Below.refl w5.heap.size w5).alloc (Nat.le_refl _) (.cells #[.int .i64 1, .int .u32 0, .int .u32 x1, .int .i64 2] 32)
        have b6 := b5.below ka
        have F2 := Four.begun w5 1 0 x1 2 32
        replace F1 := F1.but (But.of ka []) (size_of_cell F1.c0) (by simp)
        clear ka
        generalize w5.alloc (.cells #[.int .i64 1, .int .u32 0, .int .u32 x1, .int .i64 2] 32) = W6 at *
        generalize w5.heap.size = N2 at *
        clear b4 b5
        have F1c0 := F1.c0
        have F1c1 := F1.c1
        have F1c2 := F1.c2
        have F1c3 := F1.c3
        have F2c0 := F2.c0
        have F2c1 := F2.c1
        have F2c2 := F2.c2
        have F2c3 := F2.c3
        go_upto_region 10 with (first | ((with_reducible refine (qA.out _ b6).mono ?_); rintro e w7 ⟨rfl, b7, k7⟩))
        clear F1c0 F1c1 F1c2 F1c3 F2c0 F2c1 F2c2 F2c3
        clear b6 k7
        go_upto_region 11 with (first | ((with_reducible refine (q10.out _ b7).mono ?_); rintro e w8 ⟨rfl, b8, k8⟩))
        clear k8
        have ka := (Below.refl w8.heap.size w8).alloc (Nat.le_refl _) (.cells #[.int .i64 0, .int .u32 0, .int .u32 0, .int .i64 0] 32)
        have b9 := b8.below ka
        have F3 := Four.begun w8 0 0 0 0 32
        clear ka
        generalize w8.alloc (.cells #[.int .i64 0, .int .u32 0, .int .u32 0, .int .i64 0] 32) = W9 at *
        generalize w8.heap.size = N3 at *
        clear b7 b8
        go_upto_region 12 with (first | ((with_reducible refine (q11.out _ b9).mono ?_); rintro e wA ⟨rfl, bA, kA⟩))
        clear kA
        have ka := (Below.refl wA.heap.size wA).alloc (Nat.le_refl _) (.cells #[.int .i64 0, .int .u32 0, .int .u32 0, .int .i64 0] 32)
        have bB := bA.below ka
        have F4 := Four.begun wA 0 0 0 0 32
        clear ka
        generalize wA.alloc (.cells #[.int .i64 0, .int .u32 0, .int .u32 0, .int .i64 0] 32) = WB at *
        generalize wA.heap.size = N4 at *
        clear b9 bA
        go_wp2_with fail
        go_ret
        exact ⟨rfl, k2.trans (bB.k.below k2.size (by simp; omega))⟩
      | some i =>
        have q6 := Lib.hid (bLs bb A hA 2 (by decide) h2)
        have q7 := Lib.hid (fun W (hW : Bp w2.heap.size w2 W B R m m) => bWrite8_no hW A hA v h2)
        have q10 := Lib.hid (fun W (hW : Bp w2.heap.size w2 W B R m m) => bLs hW A hA 1 (by decide) h1)
        have q11 := Lib.hid (fun W (hW : Bp w2.heap.size w2 W B R m m) => bRead8_no hW A hA h1)
        have qA := Lib.hid (fun W (hW : Bp w2.heap.size w2 W B R m m) => alike_any hW)
        generalize ((A : Int) + j) % 4294967296 = x1 at *
        generalize ((A : Int) + i) % 4294967296 = x2 at *
        clear h1 h2
        have zb := Lib.hid bb.r.lt
        have hb2 := bb.h.lt
        have hr2 := bb.r.lt
        have nF1 := Lib.hid (show B < w2.heap.size from bb.h.lt)
        go_upto_region 7 with (first | ((with_reducible refine q6.out.mono ?_); rintro e w3 ⟨rfl, b3, k3⟩))
        have z3 := k3.size
        clear k3
        have ka := (Below.refl w3.heap.size w3).alloc (Nat.le_refl _) (.cells #[.int .i64 1, .int .u32 0, .int .u32 x1, .int .i64 2] 32)
        have b4 := b3.below ka
        have F1 := Four.begun w3 1 0 x1 2 32
        clear ka
        generalize w3.alloc (.cells #[.int .i64 1, .int .u32 0, .int .u32 x1, .int .i64 2] 32) = W4 at *
        generalize w3.heap.size = N1 at *
        clear b3
        go_upto_region 8 with (first | ((with_reducible refine (q7.out _ b4).mono ?_); rintro e w5 ⟨rfl, b5, k5⟩))
        replace F1 := F1.but (But.of k5 []) (size_of_cell F1.c0) (by simp)
        clear k5
        have ka := (Below.refl w5.heap.size w5).alloc (Nat.le_refl _) (.cells #[.int .i64 1, .int .u32 0, .int .u32 x1, .int .i64 2] 32)
        have b6 := b5.below ka
        have F2 := Four.begun w5 1 0 x1 2 32
        replace F1 := F1.but (But.of ka []) (size_of_cell F1.c0) (by simp)
        clear ka
        generalize w5.alloc (.cells #[.int .i64 1, .int .u32 0, .int .u32 x1, .int .i64 2] 32) = W6 at *
        generalize w5.heap.size = N2 at *
        clear b4 b5
        have F1c0 := F1.c0
        have F1c1 := F1.c1
        have F1c2 := F1.c2
        have F1c3 := F1.c3
        have F2c0 := F2.c0
        have F2c1 := F2.c1
        have F2c2 := F2.c2
        have F2c3 := F2.c3
        go_upto_region 10 with (first | ((with_reducible refine (qA.out _ b6).mono ?_); rintro e w7 ⟨rfl, b7, k7⟩))
        clear F1c0 F1c1 F1c2 F1c3 F2c0 F2c1 F2c2 F2c3
        clear b6 k7
        go_upto_region 11 with (first | ((with_reducible refine (q10.out _ b7).mono ?_); rintro e w8 ⟨rfl, b8, k8⟩))
        clear k8
        have ka := (Below.refl w8.heap.size w8).alloc (Nat.le_refl _) (.cells #[.int .i64 1, .int .u32 0, .int .u32 x2, .int .i64 1] 32)
        have b9 := b8.below ka
        have F3 := Four.begun w8 1 0 x2 1 32
        clear ka
        generalize w8.alloc (.cells #[.int .i64 1, .int .u32 0, .int .u32 x2, .int .i64 1] 32) = W9 at *
        generalize w8.heap.size = N3 at *
        clear b7 b8
        go_upto_region 12 with (first | ((with_reducible refine (q11.out _ b9).mono ?_); rintro e wA ⟨rfl, bA, kA⟩))
        replace F3 := F3.but (But.of kA []) (size_of_cell F3.c0) (by simp)
        clear kA
        have ka := (Below.refl wA.heap.size wA).alloc (Nat.le_refl _) (.cells #[.int .i64 1, .int .u32 0, .int .u32 x2, .int .i64 1] 32)
        have bB := bA.below ka
        have F4 := Four.begun wA 1 0 x2 1 32
        replace F3 := F3.but (But.of ka []) (size_of_cell F3.c0) (by simp)
        clear ka
        generalize wA.alloc (.cells #[.int .i64 1, .int .u32 0, .int .u32 x2, .int .i64 1] 32) = WB at *
        generalize wA.heap.size = N4 at *
        clear b9 bA
        have F3c0 := F3.c0
        have F3c1 := F3.c1
        have F3c2 := F3.c2
        have F3c3 := F3.c3
        have F4c0 := F4.c0
        have F4c1 := F4.c1
        have F4c2 := F4.c2
        have F4c3 := F4.c3
        go_wp2_with fail
        go_ret
        exact ⟨rfl, k2.trans (bB.k.below k2.size (by simp; omega))⟩
end Go.Proofs.Ytmlaancmacipoaa
