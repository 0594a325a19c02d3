import Derived.Test.YtcgleggdochbeaaDoorS02
import Derived.Test.YtcgleggdochbeaaDoorS12
import Derived.Test.YtcgleggdochbeaaDoorS09
import Derived.Deep.RegionHeld
namespace Go.Proofs.YtcgleggdochbeaaDoor
open Go.RowKit
set_option linter.unusedVariables false
set_option linter.unusedSimpArgs false
theorem isRegister_any (r : Int) (w : World) : Calls Tryd.prog 85 #[.int .i64 r] w fun e w' => e = .returned (.bool (isRegB r)) ∧ w = w' := by
 go_enter Tryd.func85, Tryd.ntmps85
 go_wp2
 all_goals go_ret
 all_goals refine ⟨ret_bool ?_, rfl⟩
 all_goals unfold isRegB
 all_goals (first | (simp_all [Bool.cond_eq_ite]; done) | (simp_all [Bool.cond_eq_ite]; omega))
theorem isScale_any (s : Int) (w : World) : Calls Tryd.prog 91 #[.int .u32 s] w fun e w' => e = .returned (.bool (isScaleB s)) ∧ w = w' := by
 go_enter Tryd.func91, Tryd.ntmps91
 go_wp2
 all_goals go_ret
 all_goals refine ⟨ret_bool ?_, rfl⟩
 all_goals unfold isScaleB
 all_goals (first | (simp_all [Bool.cond_eq_ite]; done) | (simp_all [Bool.cond_eq_ite]; omega))
theorem isIndex_any (x s : Int) (w : World) : Calls Tryd.prog 86 #[.int .i64 x, .int .u32 s] w fun e w' => e = .returned (.bool (isIndexB x s)) ∧ w = w' := by
 go_enter Tryd.func86, Tryd.ntmps86
 go_wp2_with (first | (go_at_call 85; refine (isRegister_any x _).mono ?_; rintro e w' ⟨rfl, rfl⟩) | (go_at_call 91; refine (isScale_any s _).mono ?_; rintro e w' ⟨rfl, rfl⟩))
 all_goals go_ret
 all_goals refine ⟨ret_bool ?_, rfl⟩
 all_goals unfold isIndexB
 all_goals (first | (simp_all [Bool.cond_eq_ite]; done) | (simp_all [Bool.cond_eq_ite]; omega))
theorem registerAs_any (r : Int) (w : World) : Calls Tryd.prog 77 #[.int .i64 r] w fun e w' => e = .returned (.int .i64 (regA r)) ∧ w = w' := by
 go_enter Tryd.func77, Tryd.ntmps77
 go_wp2_with (first | (go_at_call 85; refine (isRegister_any r _).mono ?_; rintro e w' ⟨rfl, rfl⟩))
 all_goals go_ret
 all_goals refine ⟨ret_int ?_, rfl⟩
 all_goals unfold regA
 all_goals (first | (simp_all [Bool.cond_eq_ite]; done) | (simp_all [Bool.cond_eq_ite]; omega))
theorem numberAs_any (n : Int) (w : World) : Calls Tryd.prog 78 #[.int .u32 n] w fun e w' => e = .returned (.int .i64 (numA n)) ∧ w = w' := by
 go_enter Tryd.func78, Tryd.ntmps78
 go_wp2
 all_goals go_ret
 all_goals refine ⟨ret_int ?_, rfl⟩
 all_goals unfold numA
 all_goals (first | (simp_all [Bool.cond_eq_ite]; done) | (simp_all [Bool.cond_eq_ite]; omega))
end Go.Proofs.YtcgleggdochbeaaDoor
namespace Go.Proofs.YtcgleggdochbeaaDoor
open Go.RowKit
set_option linter.unusedVariables false
set_option linter.unusedSimpArgs false
theorem memoryAs_any (o : On) (w : World) : Calls Tryd.prog 79 #[opV o] w fun e w' => e = .returned (.int .i64 (memA o.b o.x o.s)) ∧ Below w.heap.size w w' := by
 go_enter Tryd.func79, Tryd.ntmps79
 go_wp2_with (first | (go_at_call 85; refine (isRegister_any o.b _).mono ?_; rintro e w' ⟨rfl, rfl⟩) | (go_at_call 86; refine (isIndex_any o.x o.s _).mono ?_; rintro e w' ⟨rfl, rfl⟩))
 all_goals go_ret
 all_goals refine ⟨ret_int ?_, (Below.refl _ _).alloc (Nat.le_refl _) _⟩
 all_goals unfold memA
 all_goals (first | (simp_all [Bool.cond_eq_ite]; done) | (simp_all [Bool.cond_eq_ite]; omega))
theorem countsAs_none (w : World) : Calls Tryd.prog 57 #[opV onZ] w fun e w' => e = .returned (.int .i64 (cA onZ)) ∧ Below w.heap.size w w' := by
 unfold onZ
 go_enter Tryd.func57, Tryd.ntmps57
 go_wp2
 go_ret
 exact ⟨rfl, (Below.refl _ _).alloc (Nat.le_refl _) _⟩
theorem countsAs_reg (r : Int) (w : World) : Calls Tryd.prog 57 #[opV (onReg r)] w fun e w' => e = .returned (.int .i64 (regA r)) ∧ Below w.heap.size w w' := by
 unfold onReg
 go_enter Tryd.func57, Tryd.ntmps57
 go_wp2_with (first | (go_at_call 77; refine (registerAs_any r _).mono ?_; rintro e w' ⟨rfl, rfl⟩))
 go_ret
 exact ⟨rfl, (Below.refl _ _).alloc (Nat.le_refl _) _⟩
theorem countsAs_imm (m : Int) (w : World) : Calls Tryd.prog 57 #[opV (onImm m)] w fun e w' => e = .returned (.int .i64 (numA m)) ∧ Below w.heap.size w w' := by
 unfold onImm
 go_enter Tryd.func57, Tryd.ntmps57
 go_wp2_with (first | (go_at_call 78; refine (numberAs_any m _).mono ?_; rintro e w' ⟨rfl, rfl⟩))
 go_ret
 exact ⟨rfl, (Below.refl _ _).alloc (Nat.le_refl _) _⟩
theorem countsAs_mem (m b x s : Int) (w : World) : Calls Tryd.prog 57 #[opV (onMem m b x s)] w fun e w' => e = .returned (.int .i64 (memA b x s)) ∧ Below w.heap.size w w' := by
 unfold onMem
 have hM := Lib.hid (fun W => memoryAs_any ⟨3, 0, m, b, x, s⟩ W)
 go_enter Tryd.func57, Tryd.ntmps57
 go_wp2_with (with_reducible refine (hM.out _).mono ?_; rintro e w1 ⟨rfl, bb⟩)
 go_ret
 exact ⟨rfl, ((Below.refl _ _).alloc (Nat.le_refl _) _).trans (bb.mono (by simp))⟩
end Go.Proofs.YtcgleggdochbeaaDoor
namespace Go.Proofs.YtcgleggdochbeaaDoor
open Go.RowKit
set_option linter.unusedVariables false
set_option linter.unusedSimpArgs false
theorem bad_0r (r m b x s : Int) (h : (r == 0) = false) (w : World) : Calls Tryd.prog 57 #[opV ⟨0, r, m, b, x, s⟩] w fun e w' => e = .returned (.int .i64 0) ∧ Below w.heap.size w w' := by
 go_enter Tryd.func57, Tryd.ntmps57
 go_wp2
 go_ret
 exact ⟨rfl, (Below.refl _ _).alloc (Nat.le_refl _) _⟩
theorem bad_0m (m b x s : Int) (h : (m == 0) = false) (w : World) : Calls Tryd.prog 57 #[opV ⟨0, 0, m, b, x, s⟩] w fun e w' => e = .returned (.int .i64 0) ∧ Below w.heap.size w w' := by
 go_enter Tryd.func57, Tryd.ntmps57
 go_wp2
 go_ret
 exact ⟨rfl, (Below.refl _ _).alloc (Nat.le_refl _) _⟩
theorem bad_0b (b x s : Int) (h : (b == 0) = false) (w : World) : Calls Tryd.prog 57 #[opV ⟨0, 0, 0, b, x, s⟩] w fun e w' => e = .returned (.int .i64 0) ∧ Below w.heap.size w w' := by
 go_enter Tryd.func57, Tryd.ntmps57
 go_wp2
 go_ret
 exact ⟨rfl, (Below.refl _ _).alloc (Nat.le_refl _) _⟩
theorem bad_0x (x s : Int) (h : (x == 0) = false) (w : World) : Calls Tryd.prog 57 #[opV ⟨0, 0, 0, 0, x, s⟩] w fun e w' => e = .returned (.int .i64 0) ∧ Below w.heap.size w w' := by
 go_enter Tryd.func57, Tryd.ntmps57
 go_wp2
 go_ret
 exact ⟨rfl, (Below.refl _ _).alloc (Nat.le_refl _) _⟩
theorem bad_0s (s : Int) (h : (s == 0) = false) (w : World) : Calls Tryd.prog 57 #[opV ⟨0, 0, 0, 0, 0, s⟩] w fun e w' => e = .returned (.int .i64 0) ∧ Below w.heap.size w w' := by
 go_enter Tryd.func57, Tryd.ntmps57
 go_wp2
 go_ret
 exact ⟨rfl, (Below.refl _ _).alloc (Nat.le_refl _) _⟩
theorem bad_1m (r m b x s : Int) (h : (m == 0) = false) (w : World) : Calls Tryd.prog 57 #[opV ⟨1, r, m, b, x, s⟩] w fun e w' => e = .returned (.int .i64 0) ∧ Below w.heap.size w w' := by
 go_enter Tryd.func57, Tryd.ntmps57
 go_wp2
 go_ret
 exact ⟨rfl, (Below.refl _ _).alloc (Nat.le_refl _) _⟩
theorem bad_1b (r b x s : Int) (h : (b == 0) = false) (w : World) : Calls Tryd.prog 57 #[opV ⟨1, r, 0, b, x, s⟩] w fun e w' => e = .returned (.int .i64 0) ∧ Below w.heap.size w w' := by
 go_enter Tryd.func57, Tryd.ntmps57
 go_wp2
 go_ret
 exact ⟨rfl, (Below.refl _ _).alloc (Nat.le_refl _) _⟩
theorem bad_1x (r x s : Int) (h : (x == 0) = false) (w : World) : Calls Tryd.prog 57 #[opV ⟨1, r, 0, 0, x, s⟩] w fun e w' => e = .returned (.int .i64 0) ∧ Below w.heap.size w w' := by
 go_enter Tryd.func57, Tryd.ntmps57
 go_wp2
 go_ret
 exact ⟨rfl, (Below.refl _ _).alloc (Nat.le_refl _) _⟩
theorem bad_1s (r s : Int) (h : (s == 0) = false) (w : World) : Calls Tryd.prog 57 #[opV ⟨1, r, 0, 0, 0, s⟩] w fun e w' => e = .returned (.int .i64 0) ∧ Below w.heap.size w w' := by
 go_enter Tryd.func57, Tryd.ntmps57
 go_wp2
 go_ret
 exact ⟨rfl, (Below.refl _ _).alloc (Nat.le_refl _) _⟩
theorem bad_2r (r m b x s : Int) (h : (r == 0) = false) (w : World) : Calls Tryd.prog 57 #[opV ⟨2, r, m, b, x, s⟩] w fun e w' => e = .returned (.int .i64 0) ∧ Below w.heap.size w w' := by
 go_enter Tryd.func57, Tryd.ntmps57
 go_wp2
 go_ret
 exact ⟨rfl, (Below.refl _ _).alloc (Nat.le_refl _) _⟩
theorem bad_2b (m b x s : Int) (h : (b == 0) = false) (w : World) : Calls Tryd.prog 57 #[opV ⟨2, 0, m, b, x, s⟩] w fun e w' => e = .returned (.int .i64 0) ∧ Below w.heap.size w w' := by
 go_enter Tryd.func57, Tryd.ntmps57
 go_wp2
 go_ret
 exact ⟨rfl, (Below.refl _ _).alloc (Nat.le_refl _) _⟩
theorem bad_2x (m x s : Int) (h : (x == 0) = false) (w : World) : Calls Tryd.prog 57 #[opV ⟨2, 0, m, 0, x, s⟩] w fun e w' => e = .returned (.int .i64 0) ∧ Below w.heap.size w w' := by
 go_enter Tryd.func57, Tryd.ntmps57
 go_wp2
 go_ret
 exact ⟨rfl, (Below.refl _ _).alloc (Nat.le_refl _) _⟩
theorem bad_2s (m s : Int) (h : (s == 0) = false) (w : World) : Calls Tryd.prog 57 #[opV ⟨2, 0, m, 0, 0, s⟩] w fun e w' => e = .returned (.int .i64 0) ∧ Below w.heap.size w w' := by
 go_enter Tryd.func57, Tryd.ntmps57
 go_wp2
 go_ret
 exact ⟨rfl, (Below.refl _ _).alloc (Nat.le_refl _) _⟩
theorem bad_3r (r m b x s : Int) (h : (r == 0) = false) (w : World) : Calls Tryd.prog 57 #[opV ⟨3, r, m, b, x, s⟩] w fun e w' => e = .returned (.int .i64 0) ∧ Below w.heap.size w w' := by
 go_enter Tryd.func57, Tryd.ntmps57
 go_wp2
 go_ret
 exact ⟨rfl, (Below.refl _ _).alloc (Nat.le_refl _) _⟩
theorem bad_k (k r m b x s : Int) (h0 : (k == 0) = false) (h1 : (k == 1) = false) (h2 : (k == 2) = false) (h3 : (k == 3) = false) (w : World) : Calls Tryd.prog 57 #[opV ⟨k, r, m, b, x, s⟩] w fun e w' => e = .returned (.int .i64 0) ∧ Below w.heap.size w w' := by
 go_enter Tryd.func57, Tryd.ntmps57
 go_wp2
 go_ret
 exact ⟨rfl, (Below.refl _ _).alloc (Nat.le_refl _) _⟩
theorem countsAs_any (o : On) (w : World) : Calls Tryd.prog 57 #[opV o] w fun e w' => e = .returned (.int .i64 (cA o)) ∧ Below w.heap.size w w' := by
 obtain ⟨k, r, m, b, x, s⟩ := o
 have bne : ∀ {u : Int}, ¬u = 0 → (u == 0) = false := fun h => by rw [beq_eq_false_iff_ne]; exact h
 by_cases hk : k = 0
 ·subst hk
  rcases Decidable.em (¬r = 0) with hr | hr
  ·refine (bad_0r r m b x s (bne hr) w).mono fun e w' q => ⟨q.1.trans (congrArg (fun z => Ending.returned (.int .i64 z)) ?_), q.2⟩
   simp [cA, bne hr]
  replace hr := Decidable.not_not.1 hr
  subst hr
  rcases Decidable.em (¬m = 0) with hm | hm
  ·refine (bad_0m m b x s (bne hm) w).mono fun e w' q => ⟨q.1.trans (congrArg (fun z => Ending.returned (.int .i64 z)) ?_), q.2⟩
   simp [cA, bne hm]
  replace hm := Decidable.not_not.1 hm
  subst hm
  rcases Decidable.em (¬b = 0) with hb | hb
  ·refine (bad_0b b x s (bne hb) w).mono fun e w' q => ⟨q.1.trans (congrArg (fun z => Ending.returned (.int .i64 z)) ?_), q.2⟩
   simp [cA, bne hb]
  replace hb := Decidable.not_not.1 hb
  subst hb
  rcases Decidable.em (¬x = 0) with hx | hx
  ·refine (bad_0x x s (bne hx) w).mono fun e w' q => ⟨q.1.trans (congrArg (fun z => Ending.returned (.int .i64 z)) ?_), q.2⟩
   simp [cA, bne hx]
  replace hx := Decidable.not_not.1 hx
  subst hx
  rcases Decidable.em (¬s = 0) with hs | hs
  ·refine (bad_0s s (bne hs) w).mono fun e w' q => ⟨q.1.trans (congrArg (fun z => Ending.returned (.int .i64 z)) ?_), q.2⟩
   simp [cA, bne hs]
  replace hs := Decidable.not_not.1 hs
  subst hs
  exact countsAs_none w
 by_cases hk : k = 1
 ·subst hk
  rcases Decidable.em (¬m = 0) with hm | hm
  ·refine (bad_1m r m b x s (bne hm) w).mono fun e w' q => ⟨q.1.trans (congrArg (fun z => Ending.returned (.int .i64 z)) ?_), q.2⟩
   simp [cA, bne hm]
  replace hm := Decidable.not_not.1 hm
  subst hm
  rcases Decidable.em (¬b = 0) with hb | hb
  ·refine (bad_1b r b x s (bne hb) w).mono fun e w' q => ⟨q.1.trans (congrArg (fun z => Ending.returned (.int .i64 z)) ?_), q.2⟩
   simp [cA, bne hb]
  replace hb := Decidable.not_not.1 hb
  subst hb
  rcases Decidable.em (¬x = 0) with hx | hx
  ·refine (bad_1x r x s (bne hx) w).mono fun e w' q => ⟨q.1.trans (congrArg (fun z => Ending.returned (.int .i64 z)) ?_), q.2⟩
   simp [cA, bne hx]
  replace hx := Decidable.not_not.1 hx
  subst hx
  rcases Decidable.em (¬s = 0) with hs | hs
  ·refine (bad_1s r s (bne hs) w).mono fun e w' q => ⟨q.1.trans (congrArg (fun z => Ending.returned (.int .i64 z)) ?_), q.2⟩
   simp [cA, bne hs]
  replace hs := Decidable.not_not.1 hs
  subst hs
  refine (countsAs_reg r w).mono fun e w' q => ⟨q.1.trans (by rfl), q.2⟩
 by_cases hk : k = 2
 ·subst hk
  rcases Decidable.em (¬r = 0) with hr | hr
  ·refine (bad_2r r m b x s (bne hr) w).mono fun e w' q => ⟨q.1.trans (congrArg (fun z => Ending.returned (.int .i64 z)) ?_), q.2⟩
   simp [cA, bne hr]
  replace hr := Decidable.not_not.1 hr
  subst hr
  rcases Decidable.em (¬b = 0) with hb | hb
  ·refine (bad_2b m b x s (bne hb) w).mono fun e w' q => ⟨q.1.trans (congrArg (fun z => Ending.returned (.int .i64 z)) ?_), q.2⟩
   simp [cA, bne hb]
  replace hb := Decidable.not_not.1 hb
  subst hb
  rcases Decidable.em (¬x = 0) with hx | hx
  ·refine (bad_2x m x s (bne hx) w).mono fun e w' q => ⟨q.1.trans (congrArg (fun z => Ending.returned (.int .i64 z)) ?_), q.2⟩
   simp [cA, bne hx]
  replace hx := Decidable.not_not.1 hx
  subst hx
  rcases Decidable.em (¬s = 0) with hs | hs
  ·refine (bad_2s m s (bne hs) w).mono fun e w' q => ⟨q.1.trans (congrArg (fun z => Ending.returned (.int .i64 z)) ?_), q.2⟩
   simp [cA, bne hs]
  replace hs := Decidable.not_not.1 hs
  subst hs
  refine (countsAs_imm m w).mono fun e w' q => ⟨q.1.trans (by rfl), q.2⟩
 by_cases hk : k = 3
 ·subst hk
  rcases Decidable.em (¬r = 0) with hr | hr
  ·refine (bad_3r r m b x s (bne hr) w).mono fun e w' q => ⟨q.1.trans (congrArg (fun z => Ending.returned (.int .i64 z)) ?_), q.2⟩
   simp [cA, bne hr]
  replace hr := Decidable.not_not.1 hr
  subst hr
  refine (countsAs_mem m b x s w).mono fun e w' q => ⟨q.1.trans (by rfl), q.2⟩
 have k0 : (k == 0) = false := by rw [beq_eq_false_iff_ne]; assumption
 have k1 : (k == 1) = false := by rw [beq_eq_false_iff_ne]; assumption
 have k2 : (k == 2) = false := by rw [beq_eq_false_iff_ne]; assumption
 have k3 : (k == 3) = false := by rw [beq_eq_false_iff_ne]; assumption
 refine (bad_k k r m b x s k0 k1 k2 k3 w).mono fun e w' q => ⟨q.1.trans (congrArg (fun z => Ending.returned (.int .i64 z)) ?_), q.2⟩
 simp [cA, k0, k1, k2, k3]
end Go.Proofs.YtcgleggdochbeaaDoor
namespace Go.Proofs.YtcgleggdochbeaaDoor
open Go.RowKit
set_option linter.unusedVariables false
set_option linter.unusedSimpArgs false
set_option linter.unusedSectionVars false
theorem knows_any (k : Nat) (c : Int) (w : World) : Calls Tryd.prog 26 #[.agg (rowA k), .int .i64 c] w fun e w' => e = .returned (.bool (knowsB k c)) ∧ Below w.heap.size w w' := by
 unfold knowsB
 go_enter Tryd.func26, Tryd.ntmps26
 go_wp2
 all_goals go_ret
 all_goals refine ⟨ret_bool ?_, (Below.refl _ _).alloc (Nat.le_refl _) _⟩
 all_goals (first | (simp_all; done) | (rw [Bool.eq_iff_iff]; simp [*]; done) | (rw [Bool.eq_iff_iff]; simp [*]; omega))
theorem takes_any (k : Nat) (a b : On) (w : World) : Calls Tryd.prog 27 #[.agg (rowA k), opV a, opV b] w fun e w' => e = .returned (.bool (takesB k (cA a) (cA b))) ∧ Below w.heap.size w w' := by
 have kb : Below w.heap.size w (((w.alloc (.cells (rowA k) 60)).alloc (.cells (op6 a) 24)).alloc (.cells (op6 b) 24)) := (((Below.refl _ _).alloc (Nat.le_refl _) _).alloc (by simp) _).alloc (by simp; omega) _
 obtain ⟨a1, a2, a3⟩ := alloc3 w (.cells (rowA k) 60) (.cells (op6 a) 24) (.cells (op6 b) 24)
 have kR : Blk _ w.heap.size 60 (rowA k) := ⟨a1⟩
 have kA : Blk _ (w.heap.size + 1) 24 (op6 a) := ⟨a2⟩
 have kB : Blk _ (w.heap.size + 1 + 1) 24 (op6 b) := ⟨a3⟩
 have qA := Lib.hid (fun W => countsAs_any a W)
 have qB := Lib.hid (fun W => countsAs_any b W)
 clear a1 a2 a3
 unfold takesB
 generalize cA a = ca at *
 generalize cA b = cb at *
 go_enter Tryd.func27, Tryd.ntmps27
 go_wp2_with fail
 generalize hN : w.heap.size = N at *
 have hSB := kb.size
 rw [hN] at hSB
 generalize (((w.alloc (.cells (rowA k) 60)).alloc (.cells (op6 a) 24)).alloc (.cells (op6 b) 24)) = w1 at kb kR kA kB hSB ⊢
 have hS0 : Blk w1.drew N 60 (rowA k) ∧ Blk w1.drew (N + 1) 24 (op6 a) ∧ Blk w1.drew (N + 1 + 1) 24 (op6 b) := ⟨kR.drew, kA.drew, kB.drew⟩
 replace kb := kb.drew
 replace hSB : N ≤ w1.drew.heap.size := hSB
 clear kR kA kB
 refine wp_region_held_drew (S := fun W => Blk W N 60 (rowA k) ∧ Blk W (N + 1) 24 (op6 a) ∧ Blk W (N + 1 + 1) 24 (op6 b)) (by kernel_rfl) hS0 (fun hH0 => ?_)
 refine tk 0 (opV a) ?_ hH0 ?_
 ·intro W hS
  exact run_load_row (by rfl) (by rfl) 24 _ (0, 0) _ hS.2.1.h Tryd.underlying24 rfl (by kernel_rfl)
 simp only [pS]
 refine tk 2 (opV b) ?_ hH0 ?_
 ·intro W hS
  exact run_load_row (by rfl) (by rfl) 24 _ (0, 0) _ hS.2.2.h Tryd.underlying24 rfl (by kernel_rfl)
 simp only [pS]
 refine rd 1 (fun K hK => ?_)
 go_simp
 with_reducible refine (qA.out _).mono ?_
 rintro e w2 ⟨rfl, bb⟩
 have hH1 := And.intro (hH0.1.below bb hH0.1.lt) (And.intro (hH0.2.1.below bb hH0.2.1.lt) (hH0.2.2.below bb hH0.2.2.lt))
 replace kb := kb.trans (bb.mono hSB)
 replace hSB := Nat.le_trans hSB bb.size
 clear bb
 refine hK.out _ _ hH1 (fun _ => ?_)
 clear hK K
 try simp only [pS]
 refine rd 3 (fun K hK => ?_)
 go_simp
 with_reducible refine (qB.out _).mono ?_
 rintro e w3 ⟨rfl, bb⟩
 have hH2 := And.intro (hH1.1.below bb hH1.1.lt) (And.intro (hH1.2.1.below bb hH1.2.1.lt) (hH1.2.2.below bb hH1.2.2.lt))
 replace kb := kb.trans (bb.mono hSB)
 replace hSB := Nat.le_trans hSB bb.size
 clear bb
 refine hK.out _ _ hH2 (fun _ => ?_)
 clear hK K
 try simp only [pS]
 refine tk 4 ?_ ?_ hH2 ?_
 rotate_left
 ·intro W hS
  go_simp
  try rfl
 simp only [pT]
 refine tk 5 ?_ ?_ hH2 ?_
 rotate_left
 ·intro W hS
  go_simp
  try rfl
 simp only [pT]
 refine wpAnyH_done (by kernel_rfl) ?_ _
 obtain ⟨kR, -, -⟩ := hH2
 have c0 := kR.cell (i := 0) (v := .int .i64 (rA k)) rfl
 have c1 := kR.cell (i := 1) (v := .int .i64 (rB k)) rfl
 go_wp2
 all_goals go_ret
 all_goals subst hN
 all_goals refine ⟨ret_bool ?_, kb⟩
 all_goals clear qA qB hS0 hH0 hH1 kb hSB c0 c1 kR
 all_goals simp_all
end Go.Proofs.YtcgleggdochbeaaDoor
