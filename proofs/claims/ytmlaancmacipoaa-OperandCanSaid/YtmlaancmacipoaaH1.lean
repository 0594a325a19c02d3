/- OperandCan. -/
import Derived.Test.YtmlaancmacipoaaG7
import Derived.Test.YtmlaancmacipoaaWf
namespace Go.Proofs.Ytmlaancmacipoaa
open Go.RowKit
set_option linter.unusedVariables false
set_option linter.unusedSimpArgs false
set_option linter.unusedSectionVars false

abbrev gZ : Gs := ⟨fun _ => 0, 0, fun _ => false, false, 0⟩
def kG (g : Int) : Mm := mapS Mm.new 0 1 g
theorem kG_ok (g : Int) : (kG g).ok := mapS_ok new_okM 0 1 g
theorem map_new {g : Int} (h : 1 ≤ g ∧ g ≤ 7) : mapE Mm.new 0 1 g = true := by
  unfold mapE
  rw [are_iff.2 (by omega), Bool.true_and]
  kernel_rfl
theorem kG_r {g : Int} (h : 1 ≤ g ∧ g ≤ 7) : (kG g).r 0 = g := by
  unfold kG mapS
  rw [if_pos (map_new h)]
  rfl
theorem place_kG {g : Int} (h : 1 ≤ g ∧ g ≤ 7) {A : Int} (hA : 0 ≤ A ∧ A < 256) : placeL (kG g) A = g := by
  unfold placeL
  rw [show (A / 256).toNat = 0 by omega]
  exact kG_r h
theorem and_seven : ∀ a : Nat, a < 8 → bits .and .i64 (a : Int) 7 = (a : Int) := of_decide_eq_true (by kernel_rfl)
theorem lk_kG {g a : Int} (h : 1 ≤ g ∧ g ≤ 7) (ha : 0 ≤ a ∧ a < 8) {A : Int} (hA : 0 ≤ A ∧ A < 256) : lkL (kG g) a A = bits .andNot .i64 a g := by
  unfold lkL
  rw [place_kG h hA]
  obtain ⟨n, rfl⟩ := Int.eq_ofNat_of_zero_le ha.1
  rw [and_seven n (by omega)]
theorem pl_imm (m : Int) (h : 0 ≤ m ∧ m ≤ 4294967295) : plO gZ ⟨3, 0, m, -1, -1, 1⟩ = m := by
  unfold plO
  rw [if_pos rfl]
  show ((regV gZ (-1) + regV gZ (-1) * 1 % 4294967296) % 4294967296 + m) % 4294967296 = m
  rw [show regV gZ (-1) = 0 from rfl]
  omega
section
variable {n0 : Nat} {w0 w : World} {B : Nat} {g a A : Int}
theorem c_map (p : Pg n0 w0 w B Mm.new) (h : 1 ≤ g ∧ g ≤ 7) : Calls Try.prog 18 #[mp B, .int .i64 0, .int .i64 1, .int .i64 g] w fun e w' => e = .returned (.int .i64 0) ∧ Pg n0 w0 w' B (kG g) := by
  have q := pMap p 0 1 g (by decide)
  rw [map_new h, show errM true = 0 from rfl] at q
  exact q.mono fun e w' h => ⟨h.1, h.2.1⟩
theorem c_yes (p : Pg n0 w0 w B (kG g)) (h : 1 ≤ g ∧ g ≤ 7) (ha : 0 ≤ a ∧ a < 8) (hA : 0 ≤ A ∧ A < 250) (hm : bits .andNot .i64 a g = 0) : Calls Try.prog 20 #[mp B, stV gZ, opV ⟨3, 0, A, -1, -1, 1⟩, .int .i64 4, .int .i64 a] w fun e w' => e = .returned (.tuple #[fltV 0 0 0 0, .bool true]) ∧ Pg n0 w0 w' B (kG g) ∧ Below w.heap.size w w' := by
  have q := Can_yes p.h (kG_ok g) gZ ⟨3, 0, A, -1, -1, 1⟩ 4 a rfl (by decide) (fun i hi => by rw [pl_imm A (by omega), Int.emod_eq_of_lt (by omega) (by omega), lk_kG h ha (by omega)]; exact hm)
  exact q.mono fun e w' h => ⟨h.1, p.below h.2, h.2⟩
theorem c_no (p : Pg n0 w0 w B (kG g)) (h : 1 ≤ g ∧ g ≤ 7) (ha : 0 ≤ a ∧ a < 8) (hA : 0 ≤ A ∧ A < 250) (hm : ¬ bits .andNot .i64 a g = 0) : Calls Try.prog 20 #[mp B, stV gZ, opV ⟨3, 0, A, -1, -1, 1⟩, .int .i64 4, .int .i64 a] w fun e w' => e = .returned (.tuple #[fltV 1 0 A (bits .and .i64 (bits .andNot .i64 a g) (wrap64 (-(bits .andNot .i64 a g)))), .bool false]) ∧ Pg n0 w0 w' B (kG g) ∧ Below w.heap.size w w' := by
  have e1 : (plO gZ ⟨3, 0, A, -1, -1, 1⟩ + ((0 : Nat) : Int)) % 4294967296 = A := by rw [pl_imm A (by omega)]; omega
  have q := Can_no p.h (kG_ok g) gZ ⟨3, 0, A, -1, -1, 1⟩ 4 a rfl (by decide) 0 (by decide) (fun i hi => absurd hi (by omega)) (by rw [e1, lk_kG h ha (by omega)]; exact hm)
  rw [e1, lk_kG h ha (by omega)] at q
  exact q.mono fun e w' h => ⟨h.1, p.below h.2, h.2⟩
theorem c_reg {m : Mm} (p : Pg n0 w0 w B m) : Calls Try.prog 20 #[mp B, stV gZ, opV ⟨1, 3, 0, 0, 0, 0⟩, .int .i64 4, .int .i64 7] w fun e w' => e = .returned (.tuple #[fltV 0 0 0 0, .bool true]) ∧ Pg n0 w0 w' B m ∧ Below w.heap.size w w' :=
  (Can_other p.h p.ok gZ ⟨1, 3, 0, 0, 0, 0⟩ 4 7 rfl).mono fun e w' h => ⟨h.1, p.below h.2, h.2⟩
end
theorem reg_law (r : Int) (w : World) : Calls Try.prog 19 #[.int .i64 r] w fun e w' => e = .returned (opV ⟨1, r, 0, 0, 0, 0⟩) ∧ Below w.heap.size w w' := by
  have kx := (Below.refl w.heap.size w).alloc (Nat.le_refl _) (.cells (op6 ⟨1, r, 0, 0, 0, 0⟩) 47)
  go_enter Try.func19, Try.ntmps19
  go_wp2
  exact bodyPost_ret (v := opV ⟨1, r, 0, 0, 0, 0⟩) (by simp [results, Try.results19, go_sem]) rfl ⟨rfl, kx⟩
set_option maxRecDepth 100000 in
set_option maxHeartbeats 4000000 in
theorem ocan_yes (a0 a1 a2 : Int) (w0 : 0 ≤ a0 ∧ a0 ≤ 255) (w1 : 0 ≤ a1 ∧ a1 ≤ 255) (w2 : 0 ≤ a2 ∧ a2 ≤ 255) (hm : bits .andNot .i64 (a1 % 8) (a0 % 7 + 1) = 0) (w : World) : Calls Try.prog 6 #[.int .u8 a0, .int .u8 a1, .int .u8 a2] w fun e w' => e = .returned (.bool true) ∧ Below w.heap.size w w' := by
  have hK := Lib.hid (fun W => oknown W)
  have hNew := Lib.hid (fun W => pNew W)
  have hR := Lib.hid (fun W => reg_law 3 W)
  have hg : 1 ≤ a0 % 7 + 1 ∧ a0 % 7 + 1 ≤ 7 := by omega
  have ha : 0 ≤ a1 % 8 ∧ a1 % 8 < 8 := by omega
  have hA : 0 ≤ a2 % 250 ∧ a2 % 250 < 250 := by omega
  have HM := Lib.hid hm
  go_enter Try.func6, Try.ntmps6
  go_upto_region 4 with (first | ((with_reducible refine (hK.out _).mono ?_); rintro e W1 ⟨rfl, b1⟩) | ((with_reducible refine (hNew.out _).mono ?_); rintro e W2 ⟨rfl, p2⟩))
  have q2 := Lib.hid (c_map p2 hg)
  go_upto_region 8 with (first | ((with_reducible refine q2.out.mono ?_); rintro e W3 ⟨rfl, p3⟩))
  have kO : Blk (W3.alloc (.cells (op6 ⟨3, 0, a2 % 250, -1, -1, 1⟩) 47)) W3.heap.size 47 (op6 ⟨3, 0, a2 % 250, -1, -1, 1⟩) := Blk.new _ _ _
  have p4 := p3.below ((Below.refl W3.heap.size W3).alloc (Nat.le_refl _) (.cells (op6 ⟨3, 0, a2 % 250, -1, -1, 1⟩) 47))
  clear q2 p2 p3
  generalize W3.alloc (.cells (op6 ⟨3, 0, a2 % 250, -1, -1, 1⟩) 47) = W4 at *
  have q4 := Lib.hid (c_yes p4 hg ha hA HM.out)
  have hm' := HM.out
  go_upto_region 9 with (first | (with_reducible refine load_on rfl _ rfl W3.heap.size (op6 ⟨3, 0, a2 % 250, -1, -1, 1⟩) rfl kO rfl ?_) | ((with_reducible refine q4.out.mono ?_); rintro e W5 ⟨rfl, p5, b5⟩))
  have zF := Blk.new W5 32 #[.int .i64 0, .int .u32 0, .int .u32 0, .int .i64 0]
  have p6 := p5.below ((Below.refl W5.heap.size W5).alloc (Nat.le_refl _) (.cells #[.int .i64 0, .int .u32 0, .int .u32 0, .int .i64 0] 32))
  clear q4 p4 p5 kO b5
  generalize W5.heap.size = E at *
  generalize W5.alloc (.cells #[.int .i64 0, .int .u32 0, .int .u32 0, .int .i64 0] 32) = W6 at *
  go_upto_region 11 with (first | ((with_reducible refine (hR.out _).mono ?_); rintro e W7 ⟨rfl, b7⟩; have p7 := p6.below b7; have q7 := Lib.hid (c_reg p7)) | ((with_reducible refine q7.out.mono ?_); rintro e W8 ⟨rfl, p8, b8⟩))
  replace zF := (zF.below b7 zF.lt).below b8 (Nat.lt_of_lt_of_le zF.lt b7.size)
  replace zF := zF.alloc (.cells #[.int .i64 0, .int .u32 0, .int .u32 0, .int .i64 0] 32)
  have p9 := p8.below ((Below.refl W8.heap.size W8).alloc (Nat.le_refl _) (.cells #[.int .i64 0, .int .u32 0, .int .u32 0, .int .i64 0] 32))
  have c0 := zF.cell (i := 0) rfl
  have c1 := zF.cell (i := 1) rfl
  have c2 := zF.cell (i := 2) rfl
  have c3 := zF.cell (i := 3) rfl
  clear q7 p6 p7 p8
  generalize W8.alloc (.cells #[.int .i64 0, .int .u32 0, .int .u32 0, .int .i64 0] 32) = W9 at *
  go_wp2_with fail
  go_ret
  exact ⟨rfl, b1.trans (p9.done.mono b1.size)⟩
set_option maxRecDepth 100000 in
set_option maxHeartbeats 4000000 in
theorem ocan_no (a0 a1 a2 : Int) (w0 : 0 ≤ a0 ∧ a0 ≤ 255) (w1 : 0 ≤ a1 ∧ a1 ≤ 255) (w2 : 0 ≤ a2 ∧ a2 ≤ 255) (hm : ¬ bits .andNot .i64 (a1 % 8) (a0 % 7 + 1) = 0) (w : World) : Calls Try.prog 6 #[.int .u8 a0, .int .u8 a1, .int .u8 a2] w fun e w' => e = .returned (.bool true) ∧ Below w.heap.size w w' := by
  have hK := Lib.hid (fun W => oknown W)
  have hNew := Lib.hid (fun W => pNew W)
  have hR := Lib.hid (fun W => reg_law 3 W)
  have hg : 1 ≤ a0 % 7 + 1 ∧ a0 % 7 + 1 ≤ 7 := by omega
  have ha : 0 ≤ a1 % 8 ∧ a1 % 8 < 8 := by omega
  have hA : 0 ≤ a2 % 250 ∧ a2 % 250 < 250 := by omega
  have HM := Lib.hid hm
  have hq0 : (bits .andNot .i64 (a1 % 8) (a0 % 7 + 1) == 0) = false := by simp [hm]
  clear hm
  go_enter Try.func6, Try.ntmps6
  go_upto_region 4 with (first | ((with_reducible refine (hK.out _).mono ?_); rintro e W1 ⟨rfl, b1⟩) | ((with_reducible refine (hNew.out _).mono ?_); rintro e W2 ⟨rfl, p2⟩))
  have q2 := Lib.hid (c_map p2 hg)
  go_upto_region 8 with (first | ((with_reducible refine q2.out.mono ?_); rintro e W3 ⟨rfl, p3⟩))
  have kO : Blk (W3.alloc (.cells (op6 ⟨3, 0, a2 % 250, -1, -1, 1⟩) 47)) W3.heap.size 47 (op6 ⟨3, 0, a2 % 250, -1, -1, 1⟩) := Blk.new _ _ _
  have p4 := p3.below ((Below.refl W3.heap.size W3).alloc (Nat.le_refl _) (.cells (op6 ⟨3, 0, a2 % 250, -1, -1, 1⟩) 47))
  clear q2 p2 p3
  generalize W3.alloc (.cells (op6 ⟨3, 0, a2 % 250, -1, -1, 1⟩) 47) = W4 at *
  have q4 := Lib.hid (c_no p4 hg ha hA HM.out)
  generalize hq : bits .andNot .i64 (a1 % 8) (a0 % 7 + 1) = q at *
  go_upto_region 9 with (first | (with_reducible refine load_on rfl _ rfl W3.heap.size (op6 ⟨3, 0, a2 % 250, -1, -1, 1⟩) rfl kO rfl ?_) | ((with_reducible refine q4.out.mono ?_); rintro e W5 ⟨rfl, p5, b5⟩))
  have zF := Blk.new W5 32 #[.int .i64 1, .int .u32 0, .int .u32 (a2 % 250), .int .i64 (bits .and .i64 q (wrap64 (-q)))]
  have p6 := p5.below ((Below.refl W5.heap.size W5).alloc (Nat.le_refl _) (.cells #[.int .i64 1, .int .u32 0, .int .u32 (a2 % 250), .int .i64 (bits .and .i64 q (wrap64 (-q)))] 32))
  clear q4 p4 p5 kO b5
  generalize W5.heap.size = E at *
  generalize W5.alloc (.cells #[.int .i64 1, .int .u32 0, .int .u32 (a2 % 250), .int .i64 (bits .and .i64 q (wrap64 (-q)))] 32) = W6 at *
  go_upto_region 11 with (first | ((with_reducible refine (hR.out _).mono ?_); rintro e W7 ⟨rfl, b7⟩; have p7 := p6.below b7; have q7 := Lib.hid (c_reg p7)) | ((with_reducible refine q7.out.mono ?_); rintro e W8 ⟨rfl, p8, b8⟩))
  replace zF := (zF.below b7 zF.lt).below b8 (Nat.lt_of_lt_of_le zF.lt b7.size)
  replace zF := zF.alloc (.cells #[.int .i64 0, .int .u32 0, .int .u32 0, .int .i64 0] 32)
  have p9 := p8.below ((Below.refl W8.heap.size W8).alloc (Nat.le_refl _) (.cells #[.int .i64 0, .int .u32 0, .int .u32 0, .int .i64 0] 32))
  have c0 := zF.cell (i := 0) rfl
  have c1 := zF.cell (i := 1) rfl
  have c2 := zF.cell (i := 2) rfl
  have c3 := zF.cell (i := 3) rfl
  clear q7 p6 p7 p8
  generalize W8.alloc (.cells #[.int .i64 0, .int .u32 0, .int .u32 0, .int .i64 0] 32) = W9 at *
  go_wp2_with fail
  go_ret
  exact ⟨rfl, b1.trans (p9.done.mono b1.size)⟩
theorem ocan_walk (a0 a1 a2 : Int) (w0 : 0 ≤ a0 ∧ a0 ≤ 255) (w1 : 0 ≤ a1 ∧ a1 ≤ 255) (w2 : 0 ≤ a2 ∧ a2 ≤ 255) (w : World) : Calls Try.prog 6 #[.int .u8 a0, .int .u8 a1, .int .u8 a2] w fun e w' => e = .returned (.bool true) ∧ Below w.heap.size w w' := by
  by_cases hm : bits .andNot .i64 (a1 % 8) (a0 % 7 + 1) = 0
  · exact ocan_yes a0 a1 a2 w0 w1 w2 hm w
  · exact ocan_no a0 a1 a2 w0 w1 w2 hm w
end Go.Proofs.Ytmlaancmacipoaa
