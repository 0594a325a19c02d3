/- What a word does. -/
import Derived.Test.YtcddhlepkmbkcaaDoorP2
import Derived.Test.YtcddhlepkmbkcaaDoorR4
import Derived.Deep.QuietTactic
import Derived.BigQuiet
import Derived.StillTailTactics
namespace Go.Proofs.YtcddhlepkmbkcaaDoor
open Go.RowKit
set_option linter.unusedVariables false
set_option linter.unusedSimpArgs false
set_option linter.unusedSectionVars false

theorem HAt.drewN {w : World} {B : Nat} {s : St} (h : HAt w B s) (n : Nat) : HAt (w.drewN n) B s := ⟨h.gl, h.blk, h.ok⟩
theorem getX_in {s : St} (h : s.ok) {i : Int} (h0 : 0 ≤ i) (h1 : i < 32) : getX s i = s.x i := by
  unfold getX
  by_cases hi : 0 < i
  · rw [if_pos (by omega)]
  · rw [if_neg (by omega), show i = 0 by omega, h.x0]
/-- What 'do' answers. -/
def DoR (B : Nat) (s : St) (o : Out) (e : Ending) (w' : World) : Prop :=
  match o with
  | .go k s' => e = .returned (.int .i64 k) ∧ HAt w' B s'
  | .halt k p => e = .panicked (haltP k p) ∧ HAt w' B s
theorem doL_46 (s : St) (d a b i : Int) : doL s 46 d a b i = .go 1 { s with pc := (s.pc + 4) % 4294967296 } := by simp [doL]
theorem doL_47 (s : St) (d a b i : Int) : doL s 47 d a b i = .go 2 { s with pc := (s.pc + 4) % 4294967296 } := by simp [doL]
theorem doL_3 (s : St) (d a b i : Int) : doL s 3 d a b i = jumpL s d ((s.pc + i) % 4294967296) := by simp [doL]
theorem doL_4 (s : St) (d a b i : Int) : doL s 4 d a b i = jumpL s d ((s.x a + i) % 4294967296 / 2 * 2) := by simp [doL]
theorem doL_br (s : St) (op d a b i : Int) (h : op = 5 ∨ op = 6 ∨ op = 7 ∨ op = 8 ∨ op = 9 ∨ op = 10) : doL s op d a b i =
    (if takenL op (s.x a) (s.x b) = true then (if (s.pc + i) % 4294967296 % 4 = 0 then .go 0 { s with pc := (s.pc + i) % 4294967296 } else .halt 5 ((s.pc + i) % 4294967296))
      else .go 0 { s with pc := (s.pc + 4) % 4294967296 }) := by
  unfold doL
  rw [if_neg (by omega), if_neg (by omega), if_neg (by omega), if_neg (by omega), if_pos (by omega)]
theorem doL_ld (s : St) (op d a b i : Int) (h : op = 11 ∨ op = 12 ∨ op = 13 ∨ op = 14 ∨ op = 15) : doL s op d a b i =
    (if fitsL ((s.x a + i) % 4294967296) (sizeL op) = true then .go 0 { s with x := setX s.x d (widenL op (wordM s.m ((s.x a + i) % 4294967296) (sizeL op))), pc := (s.pc + 4) % 4294967296 }
      else .halt 3 ((s.x a + i) % 4294967296)) := by
  unfold doL
  rw [if_neg (by omega), if_neg (by omega), if_neg (by omega), if_neg (by omega), if_neg (by omega), if_pos (by omega)]
theorem doL_st (s : St) (op d a b i : Int) (h : op = 16 ∨ op = 17 ∨ op = 18) : doL s op d a b i =
    (if fitsL ((s.x a + i) % 4294967296) (sizeL op) = true then .go 0 { s with m := storeM s.m ((s.x a + i) % 4294967296) (sizeL op) (s.x b), pc := (s.pc + 4) % 4294967296 }
      else .halt 4 ((s.x a + i) % 4294967296)) := by
  unfold doL
  rw [if_neg (by omega), if_neg (by omega), if_neg (by omega), if_neg (by omega), if_neg (by omega), if_neg (by omega), if_pos (by omega)]
theorem doL_2 (s : St) (d a b i : Int) : doL s 2 d a b i = .go 0 { s with x := setX s.x d ((s.pc + i) % 4294967296), pc := (s.pc + 4) % 4294967296 } := by simp [doL]
theorem doL_alu (s : St) (op d a b i : Int) (h : op = 1 ∨ 19 ≤ op ∧ op ≤ 45) : doL s op d a b i = .go 0 { s with x := setX s.x d (aluL op (s.x a) ((s.x b + i) % 4294967296)), pc := (s.pc + 4) % 4294967296 } := by
  unfold doL
  rw [if_neg (by omega), if_neg (by omega), if_neg (by omega), if_neg (by omega), if_neg (by omega), if_neg (by omega), if_neg (by omega), if_neg (by omega)]
theorem jump_yes {s : St} {d t : Int} (h : t % 4 = 0) : jumpL s d t = .go 0 { s with x := setX s.x d ((s.pc + 4) % 4294967296), pc := t } := by unfold jumpL; rw [if_pos h]
theorem jump_no {s : St} {d t : Int} (h : ¬ t % 4 = 0) : jumpL s d t = .halt 5 t := by unfold jumpL; rw [if_neg h]
theorem isL_regs {op d a b i : Int} (h : isL op d a b i = true) : (1 ≤ op ∧ op ≤ 47) ∧ (0 ≤ d ∧ d < 32) ∧ (0 ≤ a ∧ a < 32) ∧ (0 ≤ b ∧ b < 32) ∧ (-2147483648 ≤ i ∧ i ≤ 2147483647) := by
  obtain ⟨k, rfl, h1, h2, h3, h4⟩ := isL_kind h
  obtain ⟨g1, g2, g3, g4, g5, g6⟩ := okF_regs h3
  have r1 := (regL_iff d _).1 g1
  have r2 := (regL_iff a _).1 g2
  have r3 := (regL_iff b _).1 g3
  have hf := opCases (op := k) h1 h2
  refine ⟨by omega, by omega, by omega, by omega, ?_⟩
  clear h h3 h4 g1 g2 g3 g6 r1 r2 r3
  rcases hf with e | e | e | e | e | e | e | e | e <;> rw [e] at g4 g5 <;> simp [leastN, greatestN] at g4 g5 <;> omega
theorem bits_bd (o : BinOp) (a b : Int) : 0 ≤ bits o .u32 a b ∧ bits o .u32 a b ≤ 4294967295 := by
  have h : ∀ z : Int, 0 ≤ IntKind.u32.wrap z ∧ IntKind.u32.wrap z ≤ 4294967295 := fun z => by rw [IntKind.wrap_u32]; omega
  exact h _
theorem quotL_bd {op a b : Int} (ha : 0 ≤ a ∧ a ≤ 4294967295) (hb : 0 ≤ b ∧ b ≤ 4294967295) : 0 ≤ quotL op a b ∧ quotL op a b ≤ 4294967295 := by
  have hd := ediv_bd ha hb.1
  have he := emod_bd ha hb.1
  unfold quotL
  repeat' split
  all_goals omega
theorem prodL_bd {op a b : Int} (ha : 0 ≤ a ∧ a ≤ 4294967295) (hb : 0 ≤ b ∧ b ≤ 4294967295) : 0 ≤ prodL op a b ∧ prodL op a b ≤ 4294967295 := by
  have hp := mul_bd ha hb
  unfold prodL
  split
  · omega
  · split
    · omega
    · split <;> omega
theorem ite_bd {c : Prop} [Decidable c] {x y : Int} (hx : 0 ≤ x ∧ x ≤ 4294967295) (hy : 0 ≤ y ∧ y ≤ 4294967295) : 0 ≤ (if c then x else y) ∧ (if c then x else y) ≤ 4294967295 := by
  by_cases h : c
  · rw [if_pos h]; exact hx
  · rw [if_neg h]; exact hy
theorem w32_bd (x : Int) : 0 ≤ x % 4294967296 ∧ x % 4294967296 ≤ 4294967295 := by omega
theorem oneL_bd (c : Bool) : 0 ≤ oneL c ∧ oneL c ≤ 4294967295 := by unfold oneL; exact ite_bd (by omega) (by omega)
theorem aluL_bd {op a b : Int} (ha : 0 ≤ a ∧ a ≤ 4294967295) (hb : 0 ≤ b ∧ b ≤ 4294967295) : 0 ≤ aluL op a b ∧ aluL op a b ≤ 4294967295 := by
  unfold aluL
  exact ite_bd hb (ite_bd (w32_bd _) (ite_bd (w32_bd _) (ite_bd (oneL_bd _) (ite_bd (oneL_bd _) (ite_bd (bits_bd _ _ _) (ite_bd (bits_bd _ _ _) (ite_bd (bits_bd _ _ _) (ite_bd (w32_bd _) (ite_bd (div_pow_bd _ ha) (ite_bd (w32_bd _) (ite_bd (prodL_bd ha hb) (quotL_bd ha hb))))))))))))
theorem clear1 (x : Int) (hx : 0 ≤ x ∧ x ≤ 4294967295) : bits .andNot .u32 x 1 = x / 2 * 2 := by
  obtain ⟨X, rfl⟩ := Int.eq_ofNat_of_zero_le hx.1
  rw [show (1 : Int) = ((1 : Nat) : Int) from rfl, u32_andNot_nat X 1 (by omega) (by decide), show 4294967295 - 1 = (2 ^ 31 - 1) * 2 ^ 1 by decide, and_field]
  have : X / 2 < 2147483648 := by omega
  simp; omega
theorem widenL_bd {op v : Int} (hv : 0 ≤ v ∧ v ≤ 4294967295) : 0 ≤ widenL op v ∧ widenL op v ≤ 4294967295 := by
  unfold widenL
  split
  · omega
  · split <;> omega
set_option maxHeartbeats 1000000 in
set_option maxRecDepth 8000 in
theorem do_any {B : Nat} {s : St} {w : World} (h : HAt w B s) (op d a b i : Int) (hl : isL op d a b i = true) :
    Calls Tryd.prog 41 #[hp B, wordV op d a b i] w fun e w' => DoR B s (doL s op d a b i) e w' ∧ But [B] w.heap.size w w' := by
  obtain ⟨bop, bd, ba, bb, bi⟩ := isL_regs hl
  clear hl
  have hpc := h.pc
  have okx := h.ok
  have hB := h.lt
  have bpc := okx.pc
  have bxa := okx.x a
  have bxb := okx.x b
  have ha : getX s a = s.x a := getX_in okx ba.1 ba.2
  have hb : getX s b = s.x b := getX_in okx bb.1 bb.2
  go_enter Tryd.func41, Tryd.ntmps41
  go_wp2_with fail
  go_region
  have h2 : HAt ((w.alloc (.cells #[.int .i64 op, .int .i64 d, .int .i64 a, .int .i64 b, .int .i32 i] 23)).drew) B s := (h.alloc _).drew
  have k2 : But [B] w.heap.size w ((w.alloc (.cells #[.int .i64 op, .int .i64 d, .int .i64 a, .int .i64 b, .int .i32 i] 23)).drew) := ((But.refl _ _ _).alloc (Nat.le_refl _) _).drew
  have z2 : w.heap.size < ((w.alloc (.cells #[.int .i64 op, .int .i64 d, .int .i64 a, .int .i64 b, .int .i32 i] 23)).drew).heap.size := by simp
  have c0 : ((w.alloc (.cells #[.int .i64 op, .int .i64 d, .int .i64 a, .int .i64 b, .int .i32 i] 23)).drew).cell? ⟨w.heap.size, 0, none⟩ = some (.int .i64 op) := by simp
  have c1 : ((w.alloc (.cells #[.int .i64 op, .int .i64 d, .int .i64 a, .int .i64 b, .int .i32 i] 23)).drew).cell? ⟨w.heap.size, 1, none⟩ = some (.int .i64 d) := by simp
  have c2 : ((w.alloc (.cells #[.int .i64 op, .int .i64 d, .int .i64 a, .int .i64 b, .int .i32 i] 23)).drew).cell? ⟨w.heap.size, 2, none⟩ = some (.int .i64 a) := by simp
  have c3 : ((w.alloc (.cells #[.int .i64 op, .int .i64 d, .int .i64 a, .int .i64 b, .int .i32 i] 23)).drew).cell? ⟨w.heap.size, 3, none⟩ = some (.int .i64 b) := by simp
  have c4 : ((w.alloc (.cells #[.int .i64 op, .int .i64 d, .int .i64 a, .int .i64 b, .int .i32 i] 23)).drew).cell? ⟨w.heap.size, 4, none⟩ = some (.int .i32 i) := by simp
  generalize ((w.alloc (.cells #[.int .i64 op, .int .i64 d, .int .i64 a, .int .i64 b, .int .i32 i] 23)).drew) = w2 at *
  have hX := fun (n : Nat) (i : Int) => X_any (h2.drewN n) i
  go_wp2_with fail
  go_quiet (first | (refine (hX _ _).mono ?_; rintro e w'' ⟨rfl, rfl⟩; exact ⟨rfl, _, rfl⟩))
  clear hX hpc c2 c3 c4
  replace h2 := h2.drewN nq
  replace k2 : But [B] w.heap.size w (w2.drewN nq) := ⟨k2.os, k2.tape, k2.output, k2.size, k2.block⟩
  replace z2 : w.heap.size < (w2.drewN nq).heap.size := z2
  replace c0 : (w2.drewN nq).cell? ⟨w.heap.size, 0, none⟩ = some (.int .i64 op) := c0
  replace c1 : (w2.drewN nq).cell? ⟨w.heap.size, 1, none⟩ = some (.int .i64 d) := c1
  generalize (w2.drewN nq) = w3 at *
  clear w2 nq
  have f3 := h2.fr 32
  have p3 := h2.pc
  rcases (by omega : op = 46 ∨ op = 47 ∨ op = 3 ∨ op = 4 ∨ (op = 5 ∨ op = 6 ∨ op = 7 ∨ op = 8 ∨ op = 9 ∨ op = 10) ∨ (op = 11 ∨ op = 12 ∨ op = 13 ∨ op = 14 ∨ op = 15) ∨ (op = 16 ∨ op = 17 ∨ op = 18) ∨ op = 2 ∨ (op = 1 ∨ 19 ≤ op ∧ op ≤ 45)) with rfl | rfl | rfl | rfl | hop | hop | hop | rfl | hop
  · go_wp2_with fail
    go_ret
    refine ⟨?_, k2.setCell (by simp) _⟩
    rw [doL_46]
    exact ⟨rfl, h2.set_pc (by omega)⟩
  · go_wp2_with fail
    go_ret
    refine ⟨?_, k2.setCell (by simp) _⟩
    rw [doL_47]
    exact ⟨rfl, h2.set_pc (by omega)⟩
  · have bt : 0 ≤ (s.pc + i) % 4294967296 ∧ (s.pc + i) % 4294967296 ≤ 4294967295 := by omega
    by_cases ht : (s.pc + i) % 4294967296 % 4 = 0
    · go_wp2_with (first | (go_at_call 55; refine (target_yes _ bt ht _).mono ?_; rintro e w' ⟨rfl, rfl⟩))
      go_still_tail 8, (by kernel_rfl)
      change wpList _ _ _ _ _ w3.drew
      have h4 := h2.drew
      replace k2 := k2.drew
      replace z2 : w.heap.size < w3.drew.heap.size := z2
      generalize w3.drew = w4 at *
      go_wp2_with fail
      refine (SetX_any h4 _ _ (by omega)).mono ?_
      rintro e w5 ⟨rfl, h5, k5⟩
      have f5 := h5.fr 32
      have p5 := h5.pc
      go_wp2_with fail
      go_ret
      refine ⟨?_, (k2.trans (k5.mono (by omega) (by simp))).setCell (by simp) _⟩
      rw [doL_3, jump_yes ht]
      exact ⟨rfl, h5.set_pc (by omega)⟩
    · go_wp2_with (first | (go_at_call 55; refine (target_no _ bt ht _).mono ?_; rintro e w' ⟨rfl, rfl⟩))
      refine ⟨rfl, ?_, k2⟩
      rw [doL_3, jump_no ht]
      exact ⟨rfl, h2⟩
  · have bt : 0 ≤ (s.x a + i) % 4294967296 / 2 * 2 ∧ (s.x a + i) % 4294967296 / 2 * 2 ≤ 4294967295 := by omega
    have hcl := clear1 ((s.x a + i) % 4294967296) (by omega)
    by_cases ht : (s.x a + i) % 4294967296 / 2 * 2 % 4 = 0
    · go_wp2_with (first | (go_at_call 55; refine (target_yes _ bt ht _).mono ?_; rintro e w' ⟨rfl, rfl⟩))
      go_still_tail 8, (by kernel_rfl)
      change wpList _ _ _ _ _ w3.drew
      have h4 := h2.drew
      replace k2 := k2.drew
      replace z2 : w.heap.size < w3.drew.heap.size := z2
      generalize w3.drew = w4 at *
      go_wp2_with fail
      refine (SetX_any h4 _ _ (by omega)).mono ?_
      rintro e w5 ⟨rfl, h5, k5⟩
      have f5 := h5.fr 32
      have p5 := h5.pc
      go_wp2_with fail
      go_ret
      refine ⟨?_, (k2.trans (k5.mono (by omega) (by simp))).setCell (by simp) _⟩
      rw [doL_4, jump_yes ht]
      exact ⟨rfl, h5.set_pc bt⟩
    · go_wp2_with (first | (go_at_call 55; refine (target_no _ bt ht _).mono ?_; rintro e w' ⟨rfl, rfl⟩))
      refine ⟨rfl, ?_, k2⟩
      rw [doL_4, jump_no ht]
      exact ⟨rfl, h2⟩
  · have hdo := hid (doL_br s op d a b i hop)
    have hT := fun w => taken_any op (s.x a) (s.x b) w
    have bt : 0 ≤ (s.pc + i) % 4294967296 ∧ (s.pc + i) % 4294967296 ≤ 4294967295 := by omega
    cases htk : takenL op (s.x a) (s.x b) with
    | true =>
      rw [htk] at hT
      replace hdo := hid (hdo.out.trans (if_pos htk))
      by_cases ht : (s.pc + i) % 4294967296 % 4 = 0
      · replace hdo := hid (hdo.out.trans (if_pos ht))
        clear htk
        rcases hop with rfl | rfl | rfl | rfl | rfl | rfl <;>
          (go_wp2_with (first | (go_at_call 56; refine (hT _).mono ?_; rintro e w' ⟨rfl, rfl⟩) | (go_at_call 55; refine (target_yes _ bt ht _).mono ?_; rintro e w' ⟨rfl, rfl⟩)); go_ret; refine ⟨?_, k2.setCell (by simp) _⟩; rw [hdo.out]; exact ⟨rfl, h2.set_pc bt⟩)
      · replace hdo := hid (hdo.out.trans (if_neg ht))
        clear htk
        rcases hop with rfl | rfl | rfl | rfl | rfl | rfl <;>
          (go_wp2_with (first | (go_at_call 56; refine (hT _).mono ?_; rintro e w' ⟨rfl, rfl⟩) | (go_at_call 55; refine (target_no _ bt ht _).mono ?_; rintro e w' ⟨rfl, rfl⟩)); refine ⟨rfl, ?_, k2⟩; rw [hdo.out]; exact ⟨rfl, h2⟩)
    | false =>
      rw [htk] at hT
      replace hdo := hid (hdo.out.trans (if_neg (by rw [htk]; decide)))
      clear htk
      rcases hop with rfl | rfl | rfl | rfl | rfl | rfl <;>
        (go_wp2_with (first | (go_at_call 56; refine (hT _).mono ?_; rintro e w' ⟨rfl, rfl⟩)); go_ret; refine ⟨?_, k2.setCell (by simp) _⟩; rw [hdo.out]; exact ⟨rfl, h2.set_pc (by omega)⟩)
  · have hdo := hid (doL_ld s op d a b i hop)
    have bt : 0 ≤ (s.x a + i) % 4294967296 ∧ (s.x a + i) % 4294967296 ≤ 4294967295 := by omega
    have hS := fun w => size_any op w
    cases hft : fitsL ((s.x a + i) % 4294967296) (sizeL op) with
    | true =>
      replace hdo := hid (hdo.out.trans (if_pos hft))
      have hL := loaded_yes h2 3 _ (sizeL op) bt hft
      have bw := wordM_bd okx.m ((s.x a + i) % 4294967296) (sizeL op)
      clear hft
      generalize wordM s.m ((s.x a + i) % 4294967296) (sizeL op) = v at hL hdo bw
      generalize sizeL op = sz at *
      have bwd := widenL_bd (op := op) bw
      have hW := fun w => (widened_any op v bw w).mono fun e w' h => (⟨h.1, h.2.symm⟩ : e = .returned (.int .u32 (widenL op v)) ∧ w' = w)
      generalize widenL op v = V at *
      rcases hop with rfl | rfl | rfl | rfl | rfl <;>
        (go_wp2_with (first | (go_at_call 57; refine (hS _).mono ?_; rintro e w' ⟨rfl, rfl⟩) | (refine hL.mono ?_; rintro e w4 ⟨rfl, b4⟩))
         have h4 := h2.below b4 h2.lt
         replace k2 : But [B] w.heap.size w w4 := k2.trans (But.of (b4.mono (by omega)) _)
         replace c0 := (b4.cell z2).trans c0
         replace c1 := (b4.cell z2).trans c1
         replace z2 : w.heap.size < w4.heap.size := Nat.lt_of_lt_of_le z2 b4.size
         clear b4 h2 p3 f3 hL
         go_still_tail 7, (by kernel_rfl)
         still_call (hW _)
         repeat still_step
         refine wpStill_nil ?_
         change wpList _ _ _ _ _ w4.drew
         replace h4 := h4.drew
         replace k2 := k2.drew
         replace z2 : w.heap.size < w4.drew.heap.size := z2
         generalize w4.drew = w5 at *
         go_wp2_with fail
         refine (SetX_any h4 _ _ bwd).mono ?_
         rintro e w6 ⟨rfl, h6, k6⟩
         have f6 := h6.fr 32
         have p6 := h6.pc
         go_wp2_with fail
         go_ret
         refine ⟨?_, (k2.trans (k6.mono (by omega) (by simp))).setCell (by simp) _⟩
         rw [hdo.out]
         exact ⟨rfl, h6.set_pc (by omega)⟩)
    | false =>
      replace hdo := hid (hdo.out.trans (if_neg (by rw [hft]; decide)))
      have hL := loaded_no h2 3 _ (sizeL op) bt hft
      clear hft
      generalize sizeL op = sz at *
      rcases hop with rfl | rfl | rfl | rfl | rfl <;>
        (go_wp2_with (first | (go_at_call 57; refine (hS _).mono ?_; rintro e w' ⟨rfl, rfl⟩) | (refine hL.mono ?_; rintro e w4 ⟨rfl, rfl⟩))
         refine ⟨rfl, ?_, k2⟩
         rw [hdo.out]
         exact ⟨rfl, h2⟩)
  · have hdo := hid (doL_st s op d a b i hop)
    have bt : 0 ≤ (s.x a + i) % 4294967296 ∧ (s.x a + i) % 4294967296 ≤ 4294967295 := by omega
    have hS := fun w => size_any op w
    cases hft : fitsL ((s.x a + i) % 4294967296) (sizeL op) with
    | true =>
      replace hdo := hid (hdo.out.trans (if_pos hft))
      have hL := stored_yes h2 _ (sizeL op) _ bt bxb hft
      clear hft
      generalize sizeL op = sz at *
      rcases hop with rfl | rfl | rfl <;>
        (go_wp2_with (first | (go_at_call 57; refine (hS _).mono ?_; rintro e w' ⟨rfl, rfl⟩) | (refine hL.mono ?_; rintro e w4 ⟨rfl, h4, k4⟩; have f4 := h4.fr 32; have p4 := h4.pc))
         go_ret
         refine ⟨?_, (k2.trans (k4.mono (by omega) (by simp))).setCell (by simp) _⟩
         rw [hdo.out]
         exact ⟨rfl, h4.set_pc (by omega)⟩)
    | false =>
      replace hdo := hid (hdo.out.trans (if_neg (by rw [hft]; decide)))
      have hL := stored_no h2 _ (sizeL op) (s.x b) bt hft
      clear hft
      generalize sizeL op = sz at *
      rcases hop with rfl | rfl | rfl <;>
        (go_wp2_with (first | (go_at_call 57; refine (hS _).mono ?_; rintro e w' ⟨rfl, rfl⟩) | (refine hL.mono ?_; rintro e w4 ⟨rfl, rfl⟩))
         refine ⟨rfl, ?_, k2⟩
         rw [hdo.out]
         exact ⟨rfl, h2⟩)
  · go_wp2_with fail
    go_still_tail 9, (by kernel_rfl)
    change wpList _ _ _ _ _ w3.drew
    have h4 := h2.drew
    replace k2 := k2.drew
    replace z2 : w.heap.size < w3.drew.heap.size := z2
    generalize w3.drew = w4 at *
    go_wp2_with fail
    refine (SetX_any h4 _ _ (by omega)).mono ?_
    rintro e w5 ⟨rfl, h5, k5⟩
    have f5 := h5.fr 32
    have p5 := h5.pc
    go_wp2_with fail
    go_ret
    refine ⟨?_, (k2.trans (k5.mono (by omega) (by simp))).setCell (by simp) _⟩
    rw [doL_2, show (s.pc + i) % 4294967296 = (s.pc + i % 4294967296) % 4294967296 by omega]
    exact ⟨rfl, h5.set_pc (by omega)⟩
  · have hdo := hid (doL_alu s op d a b i hop)
    have bbi : 0 ≤ (s.x b + i) % 4294967296 ∧ (s.x b + i) % 4294967296 ≤ 4294967295 := by omega
    have bal := aluL_bd (op := op) bxa bbi
    have hei : (s.x b + i % 4294967296) % 4294967296 = (s.x b + i) % 4294967296 := by omega
    rw [← hei] at bbi bal hdo
    clear hei
    have hR := fun w => (reck_any op (s.x a) ((s.x b + i % 4294967296) % 4294967296) (by omega) (by omega) (by omega) bxa bbi w).mono fun e w' h => (⟨h.1, h.2.symm⟩ : e = .returned (.int .u32 (aluL op (s.x a) ((s.x b + i % 4294967296) % 4294967296))) ∧ w' = w)
    generalize aluL op (s.x a) ((s.x b + i % 4294967296) % 4294967296) = R at *
    have n2 : ¬ op = 2 := by omega
    have n3 : ¬ op = 3 := by omega
    have n4 : ¬ op = 4 := by omega
    have n5 : ¬ op = 5 := by omega
    have n6 : ¬ op = 6 := by omega
    have n7 : ¬ op = 7 := by omega
    have n8 : ¬ op = 8 := by omega
    have n9 : ¬ op = 9 := by omega
    have n10 : ¬ op = 10 := by omega
    have n11 : ¬ op = 11 := by omega
    have n12 : ¬ op = 12 := by omega
    have n13 : ¬ op = 13 := by omega
    have n14 : ¬ op = 14 := by omega
    have n15 : ¬ op = 15 := by omega
    have n16 : ¬ op = 16 := by omega
    have n17 : ¬ op = 17 := by omega
    have n18 : ¬ op = 18 := by omega
    have n46 : ¬ op = 46 := by omega
    have n47 : ¬ op = 47 := by omega
    clear hop
    go_wp2_with fail
    go_still_tail 10, (by kernel_rfl)
    still_call (hR _)
    repeat still_step
    refine wpStill_nil ?_
    change wpList _ _ _ _ _ w3.drew
    have h4 := h2.drew
    replace k2 := k2.drew
    replace z2 : w.heap.size < w3.drew.heap.size := z2
    generalize w3.drew = w4 at *
    go_wp2_with fail
    refine (SetX_any h4 _ _ bal).mono ?_
    rintro e w5 ⟨rfl, h5, k5⟩
    have f5 := h5.fr 32
    have p5 := h5.pc
    go_wp2_with fail
    go_ret
    refine ⟨?_, (k2.trans (k5.mono (by omega) (by simp))).setCell (by simp) _⟩
    rw [hdo.out]
    exact ⟨rfl, h5.set_pc (by omega)⟩
end Go.Proofs.YtcddhlepkmbkcaaDoor
