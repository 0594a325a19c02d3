import Derived.Test.YtcdoidnfdkodoaaGreatDoorS14
import Derived.Test.YtcdoidnfdkodoaaGreatDoorS19
import Derived.Test.YtcdoidnfdkodoaaGreatDoorS16
import Derived.Deep.RegionHeld
import Derived.BigFrame
import Derived.Test.YtcdoidnfdkodoaaGreatDoorS00
namespace Go.Proofs.YtcdoidnfdkodoaaGreatDoor
open Go.RowKit
set_option linter.unusedVariables false
set_option linter.unusedSimpArgs false
theorem isRegister_any (r : Int) (w : World) : Calls Tryz.prog 194 #[.int .i64 r] w fun e w' => e = .returned (.bool (isRegB r)) ∧ w = w' := by
  go_enter Tryz.func194, Tryz.ntmps194
  go_wp2
  all_goals go_ret
  all_goals refine ⟨ret_bool ?_, rfl⟩
  all_goals unfold isRegB
  all_goals (first | (simp_all [Bool.cond_eq_ite]; done) | (simp_all [Bool.cond_eq_ite]; omega))
theorem isScale_any (s : Int) (w : World) : Calls Tryz.prog 225 #[.int .u32 s] w fun e w' => e = .returned (.bool (isScaleB s)) ∧ w = w' := by
  go_enter Tryz.func225, Tryz.ntmps225
  go_wp2
  all_goals go_ret
  all_goals refine ⟨ret_bool ?_, rfl⟩
  all_goals unfold isScaleB
  all_goals (first | (simp_all [Bool.cond_eq_ite]; done) | (simp_all [Bool.cond_eq_ite]; omega))
theorem isIndex_any (x s : Int) (w : World) : Calls Tryz.prog 195 #[.int .i64 x, .int .u32 s] w fun e w' => e = .returned (.bool (isIndexB x s)) ∧ w = w' := by
  go_enter Tryz.func195, Tryz.ntmps195
  go_wp2_with (first | (go_at_call 194; refine (isRegister_any x _).mono ?_; rintro e w' ⟨rfl, rfl⟩) | (go_at_call 225; refine (isScale_any s _).mono ?_; rintro e w' ⟨rfl, rfl⟩))
  all_goals go_ret
  all_goals refine ⟨ret_bool ?_, rfl⟩
  all_goals unfold isIndexB
  all_goals (first | (simp_all [Bool.cond_eq_ite]; done) | (simp_all [Bool.cond_eq_ite]; omega))
theorem registerAs_any (r : Int) (w : World) : Calls Tryz.prog 150 #[.int .i64 r] w fun e w' => e = .returned (.int .i64 (regA r)) ∧ w = w' := by
  go_enter Tryz.func150, Tryz.ntmps150
  go_wp2_with (first | (go_at_call 194; refine (isRegister_any r _).mono ?_; rintro e w' ⟨rfl, rfl⟩))
  all_goals go_ret
  all_goals refine ⟨ret_int ?_, rfl⟩
  all_goals unfold regA
  all_goals (first | (simp_all [Bool.cond_eq_ite]; done) | (simp_all [Bool.cond_eq_ite]; omega))
theorem numberAs_any (n : Int) (w : World) : Calls Tryz.prog 151 #[.int .u32 n] w fun e w' => e = .returned (.int .i64 (numA n)) ∧ w = w' := by
  go_enter Tryz.func151, Tryz.ntmps151
  go_wp2
  all_goals go_ret
  all_goals refine ⟨ret_int ?_, rfl⟩
  all_goals unfold numA
  all_goals (first | (simp_all [Bool.cond_eq_ite]; done) | (simp_all [Bool.cond_eq_ite]; omega))
end Go.Proofs.YtcdoidnfdkodoaaGreatDoor
namespace Go.Proofs.YtcdoidnfdkodoaaGreatDoor
open Go.RowKit
set_option linter.unusedVariables false
set_option linter.unusedSimpArgs false
theorem memoryAs_any (o : On) (w : World) : Calls Tryz.prog 152 #[opV o] w fun e w' => e = .returned (.int .i64 (memA o.b o.x o.s)) ∧ Below w.heap.size w w' := by
  go_enter Tryz.func152, Tryz.ntmps152
  go_wp2_with (first | (go_at_call 194; refine (isRegister_any o.b _).mono ?_; rintro e w' ⟨rfl, rfl⟩) | (go_at_call 195; refine (isIndex_any o.x o.s _).mono ?_; rintro e w' ⟨rfl, rfl⟩))
  all_goals go_ret
  all_goals refine ⟨ret_int ?_, (Below.refl _ _).alloc (Nat.le_refl _) _⟩
  all_goals unfold memA
  all_goals (first | (simp_all [Bool.cond_eq_ite]; done) | (simp_all [Bool.cond_eq_ite]; omega))
theorem countsAs_none (w : World) : Calls Tryz.prog 117 #[opV onZ] w fun e w' => e = .returned (.int .i64 (cA onZ)) ∧ Below w.heap.size w w' := by
  unfold onZ
  go_enter Tryz.func117, Tryz.ntmps117
  go_wp2
  go_ret
  exact ⟨rfl, (Below.refl _ _).alloc (Nat.le_refl _) _⟩
theorem countsAs_reg (r : Int) (w : World) : Calls Tryz.prog 117 #[opV (onReg r)] w fun e w' => e = .returned (.int .i64 (regA r)) ∧ Below w.heap.size w w' := by
  unfold onReg
  go_enter Tryz.func117, Tryz.ntmps117
  go_wp2_with (first | (go_at_call 150; refine (registerAs_any r _).mono ?_; rintro e w' ⟨rfl, rfl⟩))
  go_ret
  exact ⟨rfl, (Below.refl _ _).alloc (Nat.le_refl _) _⟩
theorem countsAs_imm (m : Int) (w : World) : Calls Tryz.prog 117 #[opV (onImm m)] w fun e w' => e = .returned (.int .i64 (numA m)) ∧ Below w.heap.size w w' := by
  unfold onImm
  go_enter Tryz.func117, Tryz.ntmps117
  go_wp2_with (first | (go_at_call 151; refine (numberAs_any m _).mono ?_; rintro e w' ⟨rfl, rfl⟩))
  go_ret
  exact ⟨rfl, (Below.refl _ _).alloc (Nat.le_refl _) _⟩
theorem countsAs_mem (m b x s : Int) (w : World) : Calls Tryz.prog 117 #[opV (onMem m b x s)] w fun e w' => e = .returned (.int .i64 (memA b x s)) ∧ Below w.heap.size w w' := by
  unfold onMem
  have hM := Lib.hid (fun W => memoryAs_any ⟨3, 0, m, b, x, s⟩ W)
  go_enter Tryz.func117, Tryz.ntmps117
  go_wp2_with (with_reducible refine (hM.out _).mono ?_; rintro e w1 ⟨rfl, bb⟩)
  go_ret
  exact ⟨rfl, ((Below.refl _ _).alloc (Nat.le_refl _) _).trans (bb.mono (by simp))⟩
end Go.Proofs.YtcdoidnfdkodoaaGreatDoor
namespace Go.Proofs.YtcdoidnfdkodoaaGreatDoor
open Go.RowKit
set_option linter.unusedVariables false
set_option linter.unusedSimpArgs false
theorem bad_0r (r m b x s : Int) (h : (r == 0) = false) (w : World) : Calls Tryz.prog 117 #[opV ⟨0, r, m, b, x, s⟩] w fun e w' => e = .returned (.int .i64 0) ∧ Below w.heap.size w w' := by
  go_enter Tryz.func117, Tryz.ntmps117
  go_wp2
  go_ret
  exact ⟨rfl, (Below.refl _ _).alloc (Nat.le_refl _) _⟩
theorem bad_0m (m b x s : Int) (h : (m == 0) = false) (w : World) : Calls Tryz.prog 117 #[opV ⟨0, 0, m, b, x, s⟩] w fun e w' => e = .returned (.int .i64 0) ∧ Below w.heap.size w w' := by
  go_enter Tryz.func117, Tryz.ntmps117
  go_wp2
  go_ret
  exact ⟨rfl, (Below.refl _ _).alloc (Nat.le_refl _) _⟩
theorem bad_0b (b x s : Int) (h : (b == 0) = false) (w : World) : Calls Tryz.prog 117 #[opV ⟨0, 0, 0, b, x, s⟩] w fun e w' => e = .returned (.int .i64 0) ∧ Below w.heap.size w w' := by
  go_enter Tryz.func117, Tryz.ntmps117
  go_wp2
  go_ret
  exact ⟨rfl, (Below.refl _ _).alloc (Nat.le_refl _) _⟩
theorem bad_0x (x s : Int) (h : (x == 0) = false) (w : World) : Calls Tryz.prog 117 #[opV ⟨0, 0, 0, 0, x, s⟩] w fun e w' => e = .returned (.int .i64 0) ∧ Below w.heap.size w w' := by
  go_enter Tryz.func117, Tryz.ntmps117
  go_wp2
  go_ret
  exact ⟨rfl, (Below.refl _ _).alloc (Nat.le_refl _) _⟩
theorem bad_0s (s : Int) (h : (s == 0) = false) (w : World) : Calls Tryz.prog 117 #[opV ⟨0, 0, 0, 0, 0, s⟩] w fun e w' => e = .returned (.int .i64 0) ∧ Below w.heap.size w w' := by
  go_enter Tryz.func117, Tryz.ntmps117
  go_wp2
  go_ret
  exact ⟨rfl, (Below.refl _ _).alloc (Nat.le_refl _) _⟩
theorem bad_1m (r m b x s : Int) (h : (m == 0) = false) (w : World) : Calls Tryz.prog 117 #[opV ⟨1, r, m, b, x, s⟩] w fun e w' => e = .returned (.int .i64 0) ∧ Below w.heap.size w w' := by
  go_enter Tryz.func117, Tryz.ntmps117
  go_wp2
  go_ret
  exact ⟨rfl, (Below.refl _ _).alloc (Nat.le_refl _) _⟩
theorem bad_1b (r b x s : Int) (h : (b == 0) = false) (w : World) : Calls Tryz.prog 117 #[opV ⟨1, r, 0, b, x, s⟩] w fun e w' => e = .returned (.int .i64 0) ∧ Below w.heap.size w w' := by
  go_enter Tryz.func117, Tryz.ntmps117
  go_wp2
  go_ret
  exact ⟨rfl, (Below.refl _ _).alloc (Nat.le_refl _) _⟩
theorem bad_1x (r x s : Int) (h : (x == 0) = false) (w : World) : Calls Tryz.prog 117 #[opV ⟨1, r, 0, 0, x, s⟩] w fun e w' => e = .returned (.int .i64 0) ∧ Below w.heap.size w w' := by
  go_enter Tryz.func117, Tryz.ntmps117
  go_wp2
  go_ret
  exact ⟨rfl, (Below.refl _ _).alloc (Nat.le_refl _) _⟩
theorem bad_1s (r s : Int) (h : (s == 0) = false) (w : World) : Calls Tryz.prog 117 #[opV ⟨1, r, 0, 0, 0, s⟩] w fun e w' => e = .returned (.int .i64 0) ∧ Below w.heap.size w w' := by
  go_enter Tryz.func117, Tryz.ntmps117
  go_wp2
  go_ret
  exact ⟨rfl, (Below.refl _ _).alloc (Nat.le_refl _) _⟩
theorem bad_2r (r m b x s : Int) (h : (r == 0) = false) (w : World) : Calls Tryz.prog 117 #[opV ⟨2, r, m, b, x, s⟩] w fun e w' => e = .returned (.int .i64 0) ∧ Below w.heap.size w w' := by
  go_enter Tryz.func117, Tryz.ntmps117
  go_wp2
  go_ret
  exact ⟨rfl, (Below.refl _ _).alloc (Nat.le_refl _) _⟩
theorem bad_2b (m b x s : Int) (h : (b == 0) = false) (w : World) : Calls Tryz.prog 117 #[opV ⟨2, 0, m, b, x, s⟩] w fun e w' => e = .returned (.int .i64 0) ∧ Below w.heap.size w w' := by
  go_enter Tryz.func117, Tryz.ntmps117
  go_wp2
  go_ret
  exact ⟨rfl, (Below.refl _ _).alloc (Nat.le_refl _) _⟩
theorem bad_2x (m x s : Int) (h : (x == 0) = false) (w : World) : Calls Tryz.prog 117 #[opV ⟨2, 0, m, 0, x, s⟩] w fun e w' => e = .returned (.int .i64 0) ∧ Below w.heap.size w w' := by
  go_enter Tryz.func117, Tryz.ntmps117
  go_wp2
  go_ret
  exact ⟨rfl, (Below.refl _ _).alloc (Nat.le_refl _) _⟩
theorem bad_2s (m s : Int) (h : (s == 0) = false) (w : World) : Calls Tryz.prog 117 #[opV ⟨2, 0, m, 0, 0, s⟩] w fun e w' => e = .returned (.int .i64 0) ∧ Below w.heap.size w w' := by
  go_enter Tryz.func117, Tryz.ntmps117
  go_wp2
  go_ret
  exact ⟨rfl, (Below.refl _ _).alloc (Nat.le_refl _) _⟩
theorem bad_3r (r m b x s : Int) (h : (r == 0) = false) (w : World) : Calls Tryz.prog 117 #[opV ⟨3, r, m, b, x, s⟩] w fun e w' => e = .returned (.int .i64 0) ∧ Below w.heap.size w w' := by
  go_enter Tryz.func117, Tryz.ntmps117
  go_wp2
  go_ret
  exact ⟨rfl, (Below.refl _ _).alloc (Nat.le_refl _) _⟩
theorem bad_k (k r m b x s : Int) (h0 : (k == 0) = false) (h1 : (k == 1) = false) (h2 : (k == 2) = false) (h3 : (k == 3) = false) (w : World) : Calls Tryz.prog 117 #[opV ⟨k, r, m, b, x, s⟩] w fun e w' => e = .returned (.int .i64 0) ∧ Below w.heap.size w w' := by
  go_enter Tryz.func117, Tryz.ntmps117
  go_wp2
  go_ret
  exact ⟨rfl, (Below.refl _ _).alloc (Nat.le_refl _) _⟩
theorem countsAs_any (o : On) (w : World) : Calls Tryz.prog 117 #[opV o] w fun e w' => e = .returned (.int .i64 (cA o)) ∧ Below w.heap.size w w' := by
  obtain ⟨k, r, m, b, x, s⟩ := o
  have bne : ∀ {u : Int}, ¬u = 0 → (u == 0) = false := fun h => by rw [beq_eq_false_iff_ne]; exact h
  by_cases hk : k = 0
  · subst hk
    rcases Decidable.em (¬r = 0) with hr | hr
    · refine (bad_0r r m b x s (bne hr) w).mono fun e w' q => ⟨q.1.trans (congrArg (fun z => Ending.returned (.int .i64 z)) ?_), q.2⟩
      simp [cA, bne hr]
    replace hr := Decidable.not_not.1 hr
    subst hr
    rcases Decidable.em (¬m = 0) with hm | hm
    · refine (bad_0m m b x s (bne hm) w).mono fun e w' q => ⟨q.1.trans (congrArg (fun z => Ending.returned (.int .i64 z)) ?_), q.2⟩
      simp [cA, bne hm]
    replace hm := Decidable.not_not.1 hm
    subst hm
    rcases Decidable.em (¬b = 0) with hb | hb
    · refine (bad_0b b x s (bne hb) w).mono fun e w' q => ⟨q.1.trans (congrArg (fun z => Ending.returned (.int .i64 z)) ?_), q.2⟩
      simp [cA, bne hb]
    replace hb := Decidable.not_not.1 hb
    subst hb
    rcases Decidable.em (¬x = 0) with hx | hx
    · refine (bad_0x x s (bne hx) w).mono fun e w' q => ⟨q.1.trans (congrArg (fun z => Ending.returned (.int .i64 z)) ?_), q.2⟩
      simp [cA, bne hx]
    replace hx := Decidable.not_not.1 hx
    subst hx
    rcases Decidable.em (¬s = 0) with hs | hs
    · refine (bad_0s s (bne hs) w).mono fun e w' q => ⟨q.1.trans (congrArg (fun z => Ending.returned (.int .i64 z)) ?_), q.2⟩
      simp [cA, bne hs]
    replace hs := Decidable.not_not.1 hs
    subst hs
    exact countsAs_none w
  by_cases hk : k = 1
  · subst hk
    rcases Decidable.em (¬m = 0) with hm | hm
    · refine (bad_1m r m b x s (bne hm) w).mono fun e w' q => ⟨q.1.trans (congrArg (fun z => Ending.returned (.int .i64 z)) ?_), q.2⟩
      simp [cA, bne hm]
    replace hm := Decidable.not_not.1 hm
    subst hm
    rcases Decidable.em (¬b = 0) with hb | hb
    · refine (bad_1b r b x s (bne hb) w).mono fun e w' q => ⟨q.1.trans (congrArg (fun z => Ending.returned (.int .i64 z)) ?_), q.2⟩
      simp [cA, bne hb]
    replace hb := Decidable.not_not.1 hb
    subst hb
    rcases Decidable.em (¬x = 0) with hx | hx
    · refine (bad_1x r x s (bne hx) w).mono fun e w' q => ⟨q.1.trans (congrArg (fun z => Ending.returned (.int .i64 z)) ?_), q.2⟩
      simp [cA, bne hx]
    replace hx := Decidable.not_not.1 hx
    subst hx
    rcases Decidable.em (¬s = 0) with hs | hs
    · refine (bad_1s r s (bne hs) w).mono fun e w' q => ⟨q.1.trans (congrArg (fun z => Ending.returned (.int .i64 z)) ?_), q.2⟩
      simp [cA, bne hs]
    replace hs := Decidable.not_not.1 hs
    subst hs
    refine (countsAs_reg r w).mono fun e w' q => ⟨q.1.trans (by rfl), q.2⟩
  by_cases hk : k = 2
  · subst hk
    rcases Decidable.em (¬r = 0) with hr | hr
    · refine (bad_2r r m b x s (bne hr) w).mono fun e w' q => ⟨q.1.trans (congrArg (fun z => Ending.returned (.int .i64 z)) ?_), q.2⟩
      simp [cA, bne hr]
    replace hr := Decidable.not_not.1 hr
    subst hr
    rcases Decidable.em (¬b = 0) with hb | hb
    · refine (bad_2b m b x s (bne hb) w).mono fun e w' q => ⟨q.1.trans (congrArg (fun z => Ending.returned (.int .i64 z)) ?_), q.2⟩
      simp [cA, bne hb]
    replace hb := Decidable.not_not.1 hb
    subst hb
    rcases Decidable.em (¬x = 0) with hx | hx
    · refine (bad_2x m x s (bne hx) w).mono fun e w' q => ⟨q.1.trans (congrArg (fun z => Ending.returned (.int .i64 z)) ?_), q.2⟩
      simp [cA, bne hx]
    replace hx := Decidable.not_not.1 hx
    subst hx
    rcases Decidable.em (¬s = 0) with hs | hs
    · refine (bad_2s m s (bne hs) w).mono fun e w' q => ⟨q.1.trans (congrArg (fun z => Ending.returned (.int .i64 z)) ?_), q.2⟩
      simp [cA, bne hs]
    replace hs := Decidable.not_not.1 hs
    subst hs
    refine (countsAs_imm m w).mono fun e w' q => ⟨q.1.trans (by rfl), q.2⟩
  by_cases hk : k = 3
  · subst hk
    rcases Decidable.em (¬r = 0) with hr | hr
    · refine (bad_3r r m b x s (bne hr) w).mono fun e w' q => ⟨q.1.trans (congrArg (fun z => Ending.returned (.int .i64 z)) ?_), q.2⟩
      simp [cA, bne hr]
    replace hr := Decidable.not_not.1 hr
    subst hr
    refine (countsAs_mem m b x s w).mono fun e w' q => ⟨q.1.trans (by rfl), q.2⟩
  have k0 : (k == 0) = false := by rw [beq_eq_false_iff_ne]; assumption
  have k1 : (k == 1) = false := by rw [beq_eq_false_iff_ne]; assumption
  have k2 : (k == 2) = false := by rw [beq_eq_false_iff_ne]; assumption
  have k3 : (k == 3) = false := by rw [beq_eq_false_iff_ne]; assumption
  refine (bad_k k r m b x s k0 k1 k2 k3 w).mono fun e w' q => ⟨q.1.trans (congrArg (fun z => Ending.returned (.int .i64 z)) ?_), q.2⟩
  simp [cA, k0, k1, k2, k3]
end Go.Proofs.YtcdoidnfdkodoaaGreatDoor
namespace Go.Proofs.YtcdoidnfdkodoaaGreatDoor
open Go.RowKit
set_option linter.unusedVariables false
set_option linter.unusedSimpArgs false
set_option linter.unusedSectionVars false
theorem knows_any (k : Nat) (c : Int) (w : World) : Calls Tryz.prog 73 #[.agg (rowA k), .int .i64 c] w fun e w' => e = .returned (.bool (knowsB k c)) ∧ Below w.heap.size w w' := by
  unfold knowsB
  go_enter Tryz.func73, Tryz.ntmps73
  go_wp2
  all_goals go_ret
  all_goals refine ⟨ret_bool ?_, (Below.refl _ _).alloc (Nat.le_refl _) _⟩
  all_goals (first | (simp_all; done) | (rw [Bool.eq_iff_iff]; simp [*]; done) | (rw [Bool.eq_iff_iff]; simp [*]; omega))
theorem takes_any (k : Nat) (a b : On) (w : World) : Calls Tryz.prog 74 #[.agg (rowA k), opV a, opV b] w fun e w' => e = .returned (.bool (takesB k (cA a) (cA b))) ∧ Below w.heap.size w w' := by
  have kb : Below w.heap.size w (((w.alloc (.cells (rowA k) 116)).alloc (.cells (op6 a) 31)).alloc (.cells (op6 b) 31)) := (((Below.refl _ _).alloc (Nat.le_refl _) _).alloc (by simp) _).alloc (by simp; omega) _
  obtain ⟨a1, a2, a3⟩ := alloc3 w (.cells (rowA k) 116) (.cells (op6 a) 31) (.cells (op6 b) 31)
  have kR : Blk _ w.heap.size 116 (rowA k) := ⟨a1⟩
  have kA : Blk _ (w.heap.size + 1) 31 (op6 a) := ⟨a2⟩
  have kB : Blk _ (w.heap.size + 1 + 1) 31 (op6 b) := ⟨a3⟩
  have qA := Lib.hid (fun W => countsAs_any a W)
  have qB := Lib.hid (fun W => countsAs_any b W)
  clear a1 a2 a3
  unfold takesB
  generalize cA a = ca at *
  generalize cA b = cb at *
  go_enter Tryz.func74, Tryz.ntmps74
  go_wp2_with fail
  generalize hN : w.heap.size = N at *
  have hSB := kb.size
  rw [hN] at hSB
  generalize (((w.alloc (.cells (rowA k) 116)).alloc (.cells (op6 a) 31)).alloc (.cells (op6 b) 31)) = w1 at kb kR kA kB hSB ⊢
  have hS0 : Blk w1.drew N 116 (rowA k) ∧ Blk w1.drew (N + 1) 31 (op6 a) ∧ Blk w1.drew (N + 1 + 1) 31 (op6 b) := ⟨kR.drew, kA.drew, kB.drew⟩
  replace kb := kb.drew
  replace hSB : N ≤ w1.drew.heap.size := hSB
  clear kR kA kB
  refine wp_region_held_drew (S := fun W => Blk W N 116 (rowA k) ∧ Blk W (N + 1) 31 (op6 a) ∧ Blk W (N + 1 + 1) 31 (op6 b)) (by kernel_rfl) hS0 (fun hH0 => ?_)
  refine wpAnyH_take (i := 0) (v := opV a) rfl (by kernel_rfl) (by kernel_rfl) (by kernel_rfl) (fun _ _ _ h => h) (Or.inl ⟨by kernel_rfl, ?_⟩) hH0 ?_
  · intro W hS
    exact run_load_row (by rfl) (by rfl) 31 _ (0, 0) _ hS.2.1.h Tryz.underlying31 rfl (by kernel_rfl)
  simp only [Act.put, List.setIfInBounds_toArray, List.set_cons_zero, List.set_cons_succ]
  refine wpAnyH_take (i := 2) (v := opV b) rfl (by kernel_rfl) (by kernel_rfl) (by kernel_rfl) (fun _ _ _ h => h) (Or.inl ⟨by kernel_rfl, ?_⟩) hH0 ?_
  · intro W hS
    exact run_load_row (by rfl) (by rfl) 31 _ (0, 0) _ hS.2.2.h Tryz.underlying31 rfl (by kernel_rfl)
  simp only [Act.put, List.setIfInBounds_toArray, List.set_cons_zero, List.set_cons_succ]
  refine wpAnyH_ready (rs := [1]) (by kernel_rfl) (by simp) ?_
  refine AllReadyH.cons rfl (fun K hK => ?_) AllReadyH.nil
  go_simp
  with_reducible refine (qA.out _).mono ?_
  rintro e w2 ⟨rfl, bb⟩
  have hH1 := And.intro (hH0.1.below bb hH0.1.lt) (And.intro (hH0.2.1.below bb hH0.2.1.lt) (hH0.2.2.below bb hH0.2.2.lt))
  replace kb := kb.trans (bb.mono hSB)
  replace hSB := Nat.le_trans hSB bb.size
  clear bb
  refine hK.out _ _ hH1 (fun _ => ?_)
  clear hK K
  try simp only [Act.put, List.setIfInBounds_toArray, List.set_cons_zero, List.set_cons_succ]
  refine wpAnyH_ready (rs := [3]) (by kernel_rfl) (by simp) ?_
  refine AllReadyH.cons rfl (fun K hK => ?_) AllReadyH.nil
  go_simp
  with_reducible refine (qB.out _).mono ?_
  rintro e w3 ⟨rfl, bb⟩
  have hH2 := And.intro (hH1.1.below bb hH1.1.lt) (And.intro (hH1.2.1.below bb hH1.2.1.lt) (hH1.2.2.below bb hH1.2.2.lt))
  replace kb := kb.trans (bb.mono hSB)
  replace hSB := Nat.le_trans hSB bb.size
  clear bb
  refine hK.out _ _ hH2 (fun _ => ?_)
  clear hK K
  try simp only [Act.put, List.setIfInBounds_toArray, List.set_cons_zero, List.set_cons_succ]
  refine wpAnyH_take (i := 4) (v := ?_) rfl (by kernel_rfl) (by kernel_rfl) (by kernel_rfl) (fun _ _ _ h => h) (Or.inl ⟨by kernel_rfl, ?_⟩) hH2 ?_
  rotate_left
  · intro W hS
    go_simp
    try rfl
  simp only [Act.put, List.setIfInBounds_toArray, List.set_cons_zero, List.set_cons_succ, List.getElem_toArray, List.getElem_cons_succ, List.getElem_cons_zero]
  refine wpAnyH_take (i := 5) (v := ?_) rfl (by kernel_rfl) (by kernel_rfl) (by kernel_rfl) (fun _ _ _ h => h) (Or.inl ⟨by kernel_rfl, ?_⟩) hH2 ?_
  rotate_left
  · intro W hS
    go_simp
    try rfl
  simp only [Act.put, List.setIfInBounds_toArray, List.set_cons_zero, List.set_cons_succ, List.getElem_toArray, List.getElem_cons_succ, List.getElem_cons_zero]
  refine wpAnyH_done (by kernel_rfl) ?_ _
  obtain ⟨kR, -, -⟩ := hH2
  have c0 := kR.cell (i := 0) (v := .int .i64 (rA k)) rfl
  have c1 := kR.cell (i := 1) (v := .int .i64 (rB k)) rfl
  go_wp2
  all_goals go_ret
  all_goals subst hN
  all_goals refine ⟨ret_bool ?_, kb⟩
  all_goals clear qA qB hS0 hH0 hH1 kb hSB c0 c1 kR
  all_goals simp_all
end Go.Proofs.YtcdoidnfdkodoaaGreatDoor
namespace Go.Proofs.YtcdoidnfdkodoaaGreatDoor
open Go.RowKit
set_option linter.unusedVariables false
set_option linter.unusedSimpArgs false
set_option linter.unusedSectionVars false
theorem ix_rows (b k : Nat) (h : k < 21) (W : World) : (Instr.indexAt 117 (.pointer (some ⟨b, 0, none⟩)) (.int .i64 (k : Int))).run Tryz.prog W = .ok (.pointer (some ⟨b, k * 6, none⟩)) W := by
  have s1 : ∀ W, (sizeOf 116).run Tryz.prog W = .ok 6 W := fun W => by kernel_rfl
  have hj : (k : Int) < 21 := by omega
  simp [Instr.indexAt, run_underlying Tryz.underlying117, s1, go_sem, hj, h, Instr.sureAddr]
theorem Tabs.rangeRow {W : World} (h : Tabs W) (k : Nat) (hk : k < 21) : W.rangeAt 0 (k * 6) (rowA k).toList := by
  intro j v hj
  have hj6 : j < 6 := by
    have := (List.getElem?_eq_some_iff.1 hj).1
    simpa using this
  rw [h.row k hk j hj6]
  simpa using hj
theorem szRow (k : Nat) : (Tryz.prog.info? 116).map (·.size) = some (rowA k).size := by kernel_rfl
theorem szIn (i : In) : (Tryz.prog.info? 33).map (·.size) = some (in16 i).size := by kernel_rfl
theorem szOp (o : On) : (Tryz.prog.info? 31).map (·.size) = some (op6 o).size := by kernel_rfl
abbrev row0 : Array Value := #[.int .i64 0, .int .i64 0, .bool false, .bool false, .bool false, .int .i64 0]
theorem one_row (k : Nat) : (rowA k).all (·.oneCell') = true := by simp [rowA, Value.oneCell']
theorem store_row_as {ops : Array Oper} {rest : List Oper} {o : Oper} {a : Act} {w0 : World} {Q : Exit → Act → World → Prop} (hgd : o.guard = none) (x y : Operand) (ho : o.op = .store 116 x y)
    (k : Nat) (hx : a.eval x = .pointer (some ⟨w0.heap.size, 0, none⟩)) (hy : a.eval y = .agg (rowA k))
    (h : ∀ W, Blk W w0.heap.size 116 (rowA k) → Below w0.heap.size w0 W → RowKit.Hid (wpList Tryz.prog ops Q rest (a.put o.dst undef) W)) :
    wpList Tryz.prog ops Q (o :: rest) a (w0.alloc (.cells row0 116)) := by
  refine wpList_store_row hgd 116 x y ho w0.heap.size (rowA k) hx hy 116 row0 (alloc_new _ _) (szRow k) rfl (one_row k) ?_
  have kR := (Blk.new w0 116 row0).row (rowA k)
  exact h _ kR (below_rowNew ((Below.refl _ _).alloc (Nat.le_refl _) _) (Nat.le_refl _) _)
theorem load_rows {ops : Array Oper} {rest : List Oper} {o : Oper} {a : Act} {w : World} {Q : Exit → Act → World → Prop} (hgd : o.guard = none) (x : Operand) (ho : o.op = .load 116 x)
    (k : Nat) (hx : a.eval x = .pointer (some ⟨0, k * 6, none⟩)) (hR : w.rangeAt 0 (k * 6) (rowA k).toList)
    (h : wpList Tryz.prog ops Q rest (a.put o.dst (.agg (rowA k))) w) : wpList Tryz.prog ops Q (o :: rest) a w :=
  wpList_load_mid hgd 116 x ho 0 (k * 6) hx (rowA k).toList _ hR Tryz.underlying116 rfl (by kernel_rfl) (by simpa using h)
set_option maxHeartbeats 2000000 in
theorem Is_any (i : In) (w : World) (tabs : Tabs w) : Calls Tryz.prog 39 #[inV i] w fun e w' => e = .returned (.bool (isB i)) ∧ Below w.heap.size w w' := by
  have kb := (Below.refl w.heap.size w).alloc (Nat.le_refl _) (.cells (in16 i) 33)
  have kI := Blk.new w 33 (in16 i)
  have tabs2 := tabs.below kb
  have hrow := Lib.hid (fun W => rowOf_any i.op W)
  have hk := rowN_lt i.op
  have hR := Lib.hid (tabs2.rangeRow _ hk)
  unfold isB
  have hKn := Lib.hid (fun W => knows_any (rowN i.op) i.c W)
  have hTa := Lib.hid (fun W => takes_any (rowN i.op) i.A i.B W)
  generalize takesB (rowN i.op) (cA i.A) (cA i.B) = tk at *
  generalize knowsB (rowN i.op) i.c = kn at *
  have hix := ix_rows 0 _ hk
  generalize rowN i.op = k at *
  clear tabs hk tabs2
  go_enter Tryz.func39, Tryz.ntmps39
  go_wp2_with fail
  have hSB := kb.size
  generalize w.alloc (.cells (in16 i) 33) = w0 at *
  generalize hN : w.heap.size = N at *
  refine (hrow.out _).mono ?_
  rintro e w1 ⟨rfl, rfl⟩
  go_wp2_with (first | (with_reducible refine load_rows rfl _ rfl k rfl hR.out ?_) | ((with_reducible refine store_row_as rfl _ _ rfl k rfl rfl ?_); intro W kR bb))
  replace kb := kb.trans (bb.mono hSB)
  replace kI := kI.below bb kI.lt
  have hS1 := kb.size
  rw [hN] at hS1
  have d0 := kI.cell (i := 0) (v := .int .i64 i.op) rfl
  have d1 := kI.cell (i := 1) (v := .int .i64 i.c) rfl
  have d2 := kI.cell (i := 2) (v := .int .i64 i.A.k) rfl
  have d3 := kI.cell (i := 3) (v := .int .i64 i.A.r) rfl
  have d4 := kI.cell (i := 4) (v := .int .u32 i.A.m) rfl
  have d5 := kI.cell (i := 5) (v := .int .i64 i.A.b) rfl
  have d6 := kI.cell (i := 6) (v := .int .i64 i.A.x) rfl
  have d7 := kI.cell (i := 7) (v := .int .u32 i.A.s) rfl
  have d8 := kI.cell (i := 8) (v := .int .i64 i.B.k) rfl
  have d9 := kI.cell (i := 9) (v := .int .i64 i.B.r) rfl
  have d10 := kI.cell (i := 10) (v := .int .u32 i.B.m) rfl
  have d11 := kI.cell (i := 11) (v := .int .i64 i.B.b) rfl
  have d12 := kI.cell (i := 12) (v := .int .i64 i.B.x) rfl
  have d13 := kI.cell (i := 13) (v := .int .u32 i.B.s) rfl
  have d14 := kI.cell (i := 14) (v := .bool i.rep) rfl
  have d15 := kI.cell (i := 15) (v := .int .i64 i.len) rfl
  have r0 := kR.cell (i := 0) (v := .int .i64 (rA k)) rfl
  have r1 := kR.cell (i := 1) (v := .int .i64 (rB k)) rfl
  have r2 := kR.cell (i := 2) (v := .bool (rC k)) rfl
  have r3 := kR.cell (i := 3) (v := .bool (rR k)) rfl
  have r4 := kR.cell (i := 4) (v := .bool (rE k)) rfl
  have r5 := kR.cell (i := 5) (v := .int .i64 (rT k)) rfl
  replace kI := Lib.hid kI
  replace kR := Lib.hid kR
  clear bb hR hix hrow
  generalize w0.heap.size = M at *
  simp only [rowA] at hKn hTa kR
  generalize hq : rR k = q at *
  unfold RowKit.Hid
  cases q
  all_goals go_wp2_with (first | ((with_reducible refine (hKn.out _).mono ?_); rintro e w1 ⟨rfl, bb⟩; replace kb := kb.trans (bb.mono hS1); replace hS1 := Nat.le_trans hS1 bb.size; have kI1 := kI.out.below bb kI.out.lt; have kR1 := kR.out.below bb kR.out.lt; have e2 := kI1.cell (i := 2) (v := .int .i64 i.A.k) rfl; have e3 := kI1.cell (i := 3) (v := .int .i64 i.A.r) rfl; have e4 := kI1.cell (i := 4) (v := .int .u32 i.A.m) rfl; have e5 := kI1.cell (i := 5) (v := .int .i64 i.A.b) rfl; have e6 := kI1.cell (i := 6) (v := .int .i64 i.A.x) rfl; have e7 := kI1.cell (i := 7) (v := .int .u32 i.A.s) rfl; have e8 := kI1.cell (i := 8) (v := .int .i64 i.B.k) rfl; have e9 := kI1.cell (i := 9) (v := .int .i64 i.B.r) rfl; have e10 := kI1.cell (i := 10) (v := .int .u32 i.B.m) rfl; have e11 := kI1.cell (i := 11) (v := .int .i64 i.B.b) rfl; have e12 := kI1.cell (i := 12) (v := .int .i64 i.B.x) rfl; have e13 := kI1.cell (i := 13) (v := .int .u32 i.B.s) rfl; have s0 := kR1.cell (i := 0) (v := .int .i64 (rA k)) rfl; have s1 := kR1.cell (i := 1) (v := .int .i64 (rB k)) rfl; have s2 := kR1.cell (i := 2) (v := .bool (rC k)) rfl; have s3 := kR1.cell (i := 3) (v := .bool _) rfl; have s4 := kR1.cell (i := 4) (v := .bool (rE k)) rfl; have s5 := kR1.cell (i := 5) (v := .int .i64 (rT k)) rfl; clear kI1 kR1 bb) | ((with_reducible refine (hTa.out _).mono ?_); rintro e w2 ⟨rfl, bb⟩; replace kb := kb.trans (bb.mono hS1); clear bb))
  all_goals go_ret
  all_goals refine ⟨ret_bool ?_, hN ▸ kb⟩
  all_goals clear hKn hTa kR kI
  all_goals (first | (simp [*]; done) | (simp [*]; intros; omega))
end Go.Proofs.YtcdoidnfdkodoaaGreatDoor
namespace Go.Proofs.YtcdoidnfdkodoaaGreatDoor
open Go.RowKit
set_option linter.unusedVariables false
set_option linter.unusedSimpArgs false
abbrev z16 : Array Value := #[.int .i64 0, .int .i64 0, .int .i64 0, .int .i64 0, .int .u32 0, .int .i64 0, .int .i64 0, .int .u32 0, .int .i64 0, .int .i64 0, .int .u32 0, .int .i64 0, .int .i64 0, .int .u32 0, .bool false, .int .i64 0]
abbrev z6 : Array Value := #[.int .i64 0, .int .i64 0, .int .u32 0, .int .i64 0, .int .i64 0, .int .u32 0]
theorem store_in_as {ops : Array Oper} {rest : List Oper} {o : Oper} {a : Act} {w0 : World} {Q : Exit → Act → World → Prop} (hgd : o.guard = none) (x y : Operand) (ho : o.op = .store 33 x y)
    (cs : Array Value) (hz : cs.size = 16) (h1 : cs.all (·.oneCell') = true) (hx : a.eval x = .pointer (some ⟨w0.heap.size, 0, none⟩)) (hy : a.eval y = .agg cs)
    (h : ∀ W, Blk W w0.heap.size 33 cs → Below w0.heap.size w0 W → wpList Tryz.prog ops Q rest (a.put o.dst undef) W) :
    wpList Tryz.prog ops Q (o :: rest) a (w0.alloc (.cells z16 33)) := by
  refine wpList_store_row hgd 33 x y ho w0.heap.size cs hx hy 33 z16 (alloc_new _ _) ((szIn ⟨0, 0, onZ, onZ, false, 0⟩).trans (congrArg some hz.symm)) hz.symm h1 ?_
  exact h _ ((Blk.new w0 33 z16).row cs) (below_rowNew ((Below.refl _ _).alloc (Nat.le_refl _) _) (Nat.le_refl _) _)
theorem store_op_as {ops : Array Oper} {rest : List Oper} {o : Oper} {a : Act} {w0 : World} {Q : Exit → Act → World → Prop} (hgd : o.guard = none) (x y : Operand) (ho : o.op = .store 31 x y)
    (cs : Array Value) (hz : cs.size = 6) (h1 : cs.all (·.oneCell') = true) (hx : a.eval x = .pointer (some ⟨w0.heap.size, 0, none⟩)) (hy : a.eval y = .agg cs)
    (h : ∀ W, Blk W w0.heap.size 31 cs → Below w0.heap.size w0 W → wpList Tryz.prog ops Q rest (a.put o.dst undef) W) :
    wpList Tryz.prog ops Q (o :: rest) a (w0.alloc (.cells z6 31)) := by
  refine wpList_store_row hgd 31 x y ho w0.heap.size cs hx hy 31 z6 (alloc_new _ _) ((szOp onZ).trans (congrArg some hz.symm)) hz.symm h1 ?_
  exact h _ ((Blk.new w0 31 z6).row cs) (below_rowNew ((Below.refl _ _).alloc (Nat.le_refl _) _) (Nat.le_refl _) _)
end Go.Proofs.YtcdoidnfdkodoaaGreatDoor
