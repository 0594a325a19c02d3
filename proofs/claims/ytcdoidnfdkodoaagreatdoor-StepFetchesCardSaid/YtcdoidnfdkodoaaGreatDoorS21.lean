import Derived.Test.YtcdoidnfdkodoaaGreatDoorS20
namespace Go.Proofs.YtcdoidnfdkodoaaGreatDoor
open Go.RowKit
set_option linter.unusedVariables false
set_option linter.unusedSimpArgs false
theorem bad_0r (r m b x s : Int) (h : (r == 0) = false) (w : World) : Calls Tryz.prog 117 #[opV ⟨0, r, m, b, x, s⟩] w fun e w' => e = .returned (.int .i64 0) ∧ Below w.heap.size w w' := by
  go_enter Tryz.func117, Tryz.ntmps117
  go_wp2
  go_ret
  exact ⟨rfl, (Below.refl _ _).alloc (Nat.le_refl _) _⟩
theorem bad_0m (m b x s : Int) (h : (m == 0) = false) (w : World) : Calls Tryz.prog 117 #[opV ⟨0, 0, m, b, x, s⟩] w fun e w' => e = .returned (.int .i64 0) ∧ Below w.heap.size w w' := by
  go_enter Tryz.func117, Tryz.ntmps117
  go_wp2
  go_ret
  exact ⟨rfl, (Below.refl _ _).alloc (Nat.le_refl _) _⟩
theorem bad_0b (b x s : Int) (h : (b == 0) = false) (w : World) : Calls Tryz.prog 117 #[opV ⟨0, 0, 0, b, x, s⟩] w fun e w' => e = .returned (.int .i64 0) ∧ Below w.heap.size w w' := by
  go_enter Tryz.func117, Tryz.ntmps117
  go_wp2
  go_ret
  exact ⟨rfl, (Below.refl _ _).alloc (Nat.le_refl _) _⟩
theorem bad_0x (x s : Int) (h : (x == 0) = false) (w : World) : Calls Tryz.prog 117 #[opV ⟨0, 0, 0, 0, x, s⟩] w fun e w' => e = .returned (.int .i64 0) ∧ Below w.heap.size w w' := by
  go_enter Tryz.func117, Tryz.ntmps117
  go_wp2
  go_ret
  exact ⟨rfl, (Below.refl _ _).alloc (Nat.le_refl _) _⟩
theorem bad_0s (s : Int) (h : (s == 0) = false) (w : World) : Calls Tryz.prog 117 #[opV ⟨0, 0, 0, 0, 0, s⟩] w fun e w' => e = .returned (.int .i64 0) ∧ Below w.heap.size w w' := by
  go_enter Tryz.func117, Tryz.ntmps117
  go_wp2
  go_ret
  exact ⟨rfl, (Below.refl _ _).alloc (Nat.le_refl _) _⟩
theorem bad_1m (r m b x s : Int) (h : (m == 0) = false) (w : World) : Calls Tryz.prog 117 #[opV ⟨1, r, m, b, x, s⟩] w fun e w' => e = .returned (.int .i64 0) ∧ Below w.heap.size w w' := by
  go_enter Tryz.func117, Tryz.ntmps117
  go_wp2
  go_ret
  exact ⟨rfl, (Below.refl _ _).alloc (Nat.le_refl _) _⟩
theorem bad_1b (r b x s : Int) (h : (b == 0) = false) (w : World) : Calls Tryz.prog 117 #[opV ⟨1, r, 0, b, x, s⟩] w fun e w' => e = .returned (.int .i64 0) ∧ Below w.heap.size w w' := by
  go_enter Tryz.func117, Tryz.ntmps117
  go_wp2
  go_ret
  exact ⟨rfl, (Below.refl _ _).alloc (Nat.le_refl _) _⟩
theorem bad_1x (r x s : Int) (h : (x == 0) = false) (w : World) : Calls Tryz.prog 117 #[opV ⟨1, r, 0, 0, x, s⟩] w fun e w' => e = .returned (.int .i64 0) ∧ Below w.heap.size w w' := by
  go_enter Tryz.func117, Tryz.ntmps117
  go_wp2
  go_ret
  exact ⟨rfl, (Below.refl _ _).alloc (Nat.le_refl _) _⟩
theorem bad_1s (r s : Int) (h : (s == 0) = false) (w : World) : Calls Tryz.prog 117 #[opV ⟨1, r, 0, 0, 0, s⟩] w fun e w' => e = .returned (.int .i64 0) ∧ Below w.heap.size w w' := by
  go_enter Tryz.func117, Tryz.ntmps117
  go_wp2
  go_ret
  exact ⟨rfl, (Below.refl _ _).alloc (Nat.le_refl _) _⟩
theorem bad_2r (r m b x s : Int) (h : (r == 0) = false) (w : World) : Calls Tryz.prog 117 #[opV ⟨2, r, m, b, x, s⟩] w fun e w' => e = .returned (.int .i64 0) ∧ Below w.heap.size w w' := by
  go_enter Tryz.func117, Tryz.ntmps117
  go_wp2
  go_ret
  exact ⟨rfl, (Below.refl _ _).alloc (Nat.le_refl _) _⟩
theorem bad_2b (m b x s : Int) (h : (b == 0) = false) (w : World) : Calls Tryz.prog 117 #[opV ⟨2, 0, m, b, x, s⟩] w fun e w' => e = .returned (.int .i64 0) ∧ Below w.heap.size w w' := by
  go_enter Tryz.func117, Tryz.ntmps117
  go_wp2
  go_ret
  exact ⟨rfl, (Below.refl _ _).alloc (Nat.le_refl _) _⟩
theorem bad_2x (m x s : Int) (h : (x == 0) = false) (w : World) : Calls Tryz.prog 117 #[opV ⟨2, 0, m, 0, x, s⟩] w fun e w' => e = .returned (.int .i64 0) ∧ Below w.heap.size w w' := by
  go_enter Tryz.func117, Tryz.ntmps117
  go_wp2
  go_ret
  exact ⟨rfl, (Below.refl _ _).alloc (Nat.le_refl _) _⟩
theorem bad_2s (m s : Int) (h : (s == 0) = false) (w : World) : Calls Tryz.prog 117 #[opV ⟨2, 0, m, 0, 0, s⟩] w fun e w' => e = .returned (.int .i64 0) ∧ Below w.heap.size w w' := by
  go_enter Tryz.func117, Tryz.ntmps117
  go_wp2
  go_ret
  exact ⟨rfl, (Below.refl _ _).alloc (Nat.le_refl _) _⟩
theorem bad_3r (r m b x s : Int) (h : (r == 0) = false) (w : World) : Calls Tryz.prog 117 #[opV ⟨3, r, m, b, x, s⟩] w fun e w' => e = .returned (.int .i64 0) ∧ Below w.heap.size w w' := by
  go_enter Tryz.func117, Tryz.ntmps117
  go_wp2
  go_ret
  exact ⟨rfl, (Below.refl _ _).alloc (Nat.le_refl _) _⟩
theorem bad_k (k r m b x s : Int) (h0 : (k == 0) = false) (h1 : (k == 1) = false) (h2 : (k == 2) = false) (h3 : (k == 3) = false) (w : World) : Calls Tryz.prog 117 #[opV ⟨k, r, m, b, x, s⟩] w fun e w' => e = .returned (.int .i64 0) ∧ Below w.heap.size w w' := by
  go_enter Tryz.func117, Tryz.ntmps117
  go_wp2
  go_ret
  exact ⟨rfl, (Below.refl _ _).alloc (Nat.le_refl _) _⟩
theorem countsAs_any (o : On) (w : World) : Calls Tryz.prog 117 #[opV o] w fun e w' => e = .returned (.int .i64 (cA o)) ∧ Below w.heap.size w w' := by
  obtain ⟨k, r, m, b, x, s⟩ := o
  have bne : ∀ {u : Int}, ¬u = 0 → (u == 0) = false := fun h => by rw [beq_eq_false_iff_ne]; exact h
  by_cases hk : k = 0
  · subst hk
    rcases Decidable.em (¬r = 0) with hr | hr
    · refine (bad_0r r m b x s (bne hr) w).mono fun e w' q => ⟨q.1.trans (congrArg (fun z => Ending.returned (.int .i64 z)) ?_), q.2⟩
      simp [cA, bne hr]
    replace hr := Decidable.not_not.1 hr
    subst hr
    rcases Decidable.em (¬m = 0) with hm | hm
    · refine (bad_0m m b x s (bne hm) w).mono fun e w' q => ⟨q.1.trans (congrArg (fun z => Ending.returned (.int .i64 z)) ?_), q.2⟩
      simp [cA, bne hm]
    replace hm := Decidable.not_not.1 hm
    subst hm
    rcases Decidable.em (¬b = 0) with hb | hb
    · refine (bad_0b b x s (bne hb) w).mono fun e w' q => ⟨q.1.trans (congrArg (fun z => Ending.returned (.int .i64 z)) ?_), q.2⟩
      simp [cA, bne hb]
    replace hb := Decidable.not_not.1 hb
    subst hb
    rcases Decidable.em (¬x = 0) with hx | hx
    · refine (bad_0x x s (bne hx) w).mono fun e w' q => ⟨q.1.trans (congrArg (fun z => Ending.returned (.int .i64 z)) ?_), q.2⟩
      simp [cA, bne hx]
    replace hx := Decidable.not_not.1 hx
    subst hx
    rcases Decidable.em (¬s = 0) with hs | hs
    · refine (bad_0s s (bne hs) w).mono fun e w' q => ⟨q.1.trans (congrArg (fun z => Ending.returned (.int .i64 z)) ?_), q.2⟩
      simp [cA, bne hs]
    replace hs := Decidable.not_not.1 hs
    subst hs
    exact countsAs_none w
  by_cases hk : k = 1
  · subst hk
    rcases Decidable.em (¬m = 0) with hm | hm
    · refine (bad_1m r m b x s (bne hm) w).mono fun e w' q => ⟨q.1.trans (congrArg (fun z => Ending.returned (.int .i64 z)) ?_), q.2⟩
      simp [cA, bne hm]
    replace hm := Decidable.not_not.1 hm
    subst hm
    rcases Decidable.em (¬b = 0) with hb | hb
    · refine (bad_1b r b x s (bne hb) w).mono fun e w' q => ⟨q.1.trans (congrArg (fun z => Ending.returned (.int .i64 z)) ?_), q.2⟩
      simp [cA, bne hb]
    replace hb := Decidable.not_not.1 hb
    subst hb
    rcases Decidable.em (¬x = 0) with hx | hx
    · refine (bad_1x r x s (bne hx) w).mono fun e w' q => ⟨q.1.trans (congrArg (fun z => Ending.returned (.int .i64 z)) ?_), q.2⟩
      simp [cA, bne hx]
    replace hx := Decidable.not_not.1 hx
    subst hx
    rcases Decidable.em (¬s = 0) with hs | hs
    · refine (bad_1s r s (bne hs) w).mono fun e w' q => ⟨q.1.trans (congrArg (fun z => Ending.returned (.int .i64 z)) ?_), q.2⟩
      simp [cA, bne hs]
    replace hs := Decidable.not_not.1 hs
    subst hs
    refine (countsAs_reg r w).mono fun e w' q => ⟨q.1.trans (by rfl), q.2⟩
  by_cases hk : k = 2
  · subst hk
    rcases Decidable.em (¬r = 0) with hr | hr
    · refine (bad_2r r m b x s (bne hr) w).mono fun e w' q => ⟨q.1.trans (congrArg (fun z => Ending.returned (.int .i64 z)) ?_), q.2⟩
      simp [cA, bne hr]
    replace hr := Decidable.not_not.1 hr
    subst hr
    rcases Decidable.em (¬b = 0) with hb | hb
    · refine (bad_2b m b x s (bne hb) w).mono fun e w' q => ⟨q.1.trans (congrArg (fun z => Ending.returned (.int .i64 z)) ?_), q.2⟩
      simp [cA, bne hb]
    replace hb := Decidable.not_not.1 hb
    subst hb
    rcases Decidable.em (¬x = 0) with hx | hx
    · refine (bad_2x m x s (bne hx) w).mono fun e w' q => ⟨q.1.trans (congrArg (fun z => Ending.returned (.int .i64 z)) ?_), q.2⟩
      simp [cA, bne hx]
    replace hx := Decidable.not_not.1 hx
    subst hx
    rcases Decidable.em (¬s = 0) with hs | hs
    · refine (bad_2s m s (bne hs) w).mono fun e w' q => ⟨q.1.trans (congrArg (fun z => Ending.returned (.int .i64 z)) ?_), q.2⟩
      simp [cA, bne hs]
    replace hs := Decidable.not_not.1 hs
    subst hs
    refine (countsAs_imm m w).mono fun e w' q => ⟨q.1.trans (by rfl), q.2⟩
  by_cases hk : k = 3
  · subst hk
    rcases Decidable.em (¬r = 0) with hr | hr
    · refine (bad_3r r m b x s (bne hr) w).mono fun e w' q => ⟨q.1.trans (congrArg (fun z => Ending.returned (.int .i64 z)) ?_), q.2⟩
      simp [cA, bne hr]
    replace hr := Decidable.not_not.1 hr
    subst hr
    refine (countsAs_mem m b x s w).mono fun e w' q => ⟨q.1.trans (by rfl), q.2⟩
  have k0 : (k == 0) = false := by rw [beq_eq_false_iff_ne]; assumption
  have k1 : (k == 1) = false := by rw [beq_eq_false_iff_ne]; assumption
  have k2 : (k == 2) = false := by rw [beq_eq_false_iff_ne]; assumption
  have k3 : (k == 3) = false := by rw [beq_eq_false_iff_ne]; assumption
  refine (bad_k k r m b x s k0 k1 k2 k3 w).mono fun e w' q => ⟨q.1.trans (congrArg (fun z => Ending.returned (.int .i64 z)) ?_), q.2⟩
  simp [cA, k0, k1, k2, k3]
end Go.Proofs.YtcdoidnfdkodoaaGreatDoor
