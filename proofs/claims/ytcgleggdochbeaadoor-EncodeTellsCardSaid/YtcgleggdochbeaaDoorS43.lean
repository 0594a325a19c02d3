import Derived.Test.YtcgleggdochbeaaDoorS42
import Derived.Test.YtcgleggdochbeaaDoorS04
namespace Go.Proofs.YtcgleggdochbeaaDoor
open Go.RowKit
set_option linter.unusedVariables false
set_option linter.unusedSimpArgs false
set_option linter.unusedSectionVars false
theorem eq_ops (o p : On) (W : World) : (Op.equalIn 10000 24 (opV o) (opV p)).run Tryd.prog W = .ok (o.k == p.k && o.r == p.r && o.m == p.m && o.b == p.b && o.x == p.x && o.s == p.s) W := by
 go_simp
 (repeat' split) <;> simp_all
theorem on_ext {o p : On} (h : (o.k == p.k && o.r == p.r && o.m == p.m && o.b == p.b && o.x == p.x && o.s == p.s) = true) : o = p := by
 obtain ⟨k, r, m, b, x, s⟩ := o
 obtain ⟨k', r', m', b', x', s'⟩ := p
 simp at h
 obtain ⟨⟨⟨⟨⟨rfl, rfl⟩, rfl⟩, rfl⟩, rfl⟩, rfl⟩ := h
 rfl
theorem eq_no {o p : On} (h : ¬ o = p) (W : World) : (Op.equalIn 10000 24 (opV o) (opV p)).run Tryd.prog W = .ok false W := by
 rw [eq_ops]
 cases hh : (o.k == p.k && o.r == p.r && o.m == p.m && o.b == p.b && o.x == p.x && o.s == p.s)
 ·rfl
 ·exact absurd (on_ext hh) h
theorem none_no {o : On} (h : ¬ o = onZ) : TellsB 73 o false := by
 intro w
 have heq : ∀ W, (Op.equalIn 10000 24 (opV o) (.agg z6)).run Tryd.prog W = .ok false W := fun W => eq_no h W
 clear h
 obtain ⟨k, r, m, b, x, s⟩ := o
 go_enter Tryd.func73, Tryd.ntmps73
 go_wp2
 go_ret
 exact ⟨rfl, (Below.refl _ _).alloc (Nat.le_refl _) _⟩
theorem isImm_no {o : On} (h : ¬ o = onImm o.m) : TellsB 70 o false := by
 intro w
 have heq : ∀ W, (Op.equalIn 10000 24 (opV o) (.agg #[.int .i64 2, .int .i64 0, .int .u32 o.m, .int .i64 0, .int .i64 0, .int .u32 0])).run Tryd.prog W = .ok false W := fun W => eq_no h W
 clear h
 obtain ⟨k, r, m, b, x, s⟩ := o
 go_enter Tryd.func70, Tryd.ntmps70
 go_wp2
 go_ret
 exact ⟨rfl, (Below.refl _ _).alloc (Nat.le_refl _) _⟩
theorem isReg_no {o : On} (h : ¬ (o = onReg o.r ∧ 0 ≤ o.r ∧ o.r < 8)) : TellsB 69 o false := by
 intro w
 obtain ⟨k, r, m, b, x, s⟩ := o
 by_cases hk : k = 1
 ·subst hk
  by_cases h0 : 0 ≤ r
  ·by_cases h8 : r < 8
   ·have heq : ∀ W, (Op.equalIn 10000 24 (opV ⟨1, r, m, b, x, s⟩) (.agg #[.int .i64 1, .int .i64 r, .int .u32 0, .int .i64 0, .int .i64 0, .int .u32 0])).run Tryd.prog W = .ok false W := fun W => eq_no (fun e => h ⟨e, h0, h8⟩) W
    have q0 : ((0 : Int) ≤ r) = True := eq_true h0
    have q8 : (r < 8) = True := eq_true h8
    clear h h0 h8
    go_enter Tryd.func69, Tryd.ntmps69
    go_wp2
    go_ret
    exact ⟨rfl, (Below.refl _ _).alloc (Nat.le_refl _) _⟩
   ·have q0 : ((0 : Int) ≤ r) = True := eq_true h0
    have q8 : (r < 8) = False := eq_false h8
    clear h h0 h8
    go_enter Tryd.func69, Tryd.ntmps69
    go_wp2
    go_ret
    exact ⟨rfl, (Below.refl _ _).alloc (Nat.le_refl _) _⟩
  ·have q0 : ((0 : Int) ≤ r) = False := eq_false h0
   clear h h0
   go_enter Tryd.func69, Tryd.ntmps69
   go_wp2
   go_ret
   exact ⟨rfl, (Below.refl _ _).alloc (Nat.le_refl _) _⟩
 ·have q : (k == 1) = false := by simp [hk]
  clear h hk
  go_enter Tryd.func69, Tryd.ntmps69
  go_wp2
  go_ret
  exact ⟨rfl, (Below.refl _ _).alloc (Nat.le_refl _) _⟩
theorem isMem_no1 {k r m b x : Int} (hne : ¬ (k = 3 ∧ r = 0 ∧ -1 ≤ b ∧ b < 8 ∧ -1 ≤ x ∧ x < 8 ∧ ¬ x = 4 ∧ ((1 : Int) = 1 ∨ (0 ≤ x ∧ ((1 : Int) = 2 ∨ (1 : Int) = 4 ∨ (1 : Int) = 8))))) : TellsB 71 ⟨k, r, m, b, x, 1⟩ false := by
 intro w
 have hsc : (1 : Int) = 1 ∨ (0 ≤ x ∧ ((1 : Int) = 2 ∨ (1 : Int) = 4 ∨ (1 : Int) = 8)) := .inl rfl
 by_cases c0 : k = 3
 ·subst c0
  by_cases c1 : r = 0
  ·subst c1
   by_cases c2 : -1 ≤ b
   ·have q2 : ((-1 : Int) ≤ b) = True := eq_true c2
    by_cases c3 : b < 8
    ·have q3 : (b < 8) = True := eq_true c3
     by_cases c4 : -1 ≤ x
     ·have q4 : ((-1 : Int) ≤ x) = True := eq_true c4
      by_cases c5 : x < 8
      ·have q5 : (x < 8) = True := eq_true c5
       by_cases c6 : ¬ x = 4
       ·have q6 : (x != 4) = true := by simp [c6]
        exact absurd ⟨rfl, rfl, c2, c3, c4, c5, c6, hsc⟩ hne
       ·have e4 : x = 4 := by omega
        subst e4
        clear hne
        go_enter Tryd.func71, Tryd.ntmps71
        go_wp2
        go_ret
        exact ⟨rfl, (Below.refl _ _).alloc (Nat.le_refl _) _⟩
      ·have q5 : (x < 8) = False := eq_false c5
       clear hne
       go_enter Tryd.func71, Tryd.ntmps71
       go_wp2
       go_ret
       exact ⟨rfl, (Below.refl _ _).alloc (Nat.le_refl _) _⟩
     ·have q4 : ((-1 : Int) ≤ x) = False := eq_false c4
      clear hne
      go_enter Tryd.func71, Tryd.ntmps71
      go_wp2
      go_ret
      exact ⟨rfl, (Below.refl _ _).alloc (Nat.le_refl _) _⟩
    ·have q3 : (b < 8) = False := eq_false c3
     clear hne
     go_enter Tryd.func71, Tryd.ntmps71
     go_wp2
     go_ret
     exact ⟨rfl, (Below.refl _ _).alloc (Nat.le_refl _) _⟩
   ·have q2 : ((-1 : Int) ≤ b) = False := eq_false c2
    clear hne
    go_enter Tryd.func71, Tryd.ntmps71
    go_wp2
    go_ret
    exact ⟨rfl, (Below.refl _ _).alloc (Nat.le_refl _) _⟩
  ·have q1 : (r == 0) = false := by simp [c1]
   clear c1
   clear hne
   go_enter Tryd.func71, Tryd.ntmps71
   go_wp2
   go_ret
   exact ⟨rfl, (Below.refl _ _).alloc (Nat.le_refl _) _⟩
 ·have q0 : (k == 3) = false := by simp [c0]
  clear c0
  clear hne
  go_enter Tryd.func71, Tryd.ntmps71
  go_wp2
  go_ret
  exact ⟨rfl, (Below.refl _ _).alloc (Nat.le_refl _) _⟩
theorem isMem_no2 {k r m b x : Int} (x0 : 0 ≤ x) (hne : ¬ (k = 3 ∧ r = 0 ∧ -1 ≤ b ∧ b < 8 ∧ -1 ≤ x ∧ x < 8 ∧ ¬ x = 4 ∧ ((2 : Int) = 1 ∨ (0 ≤ x ∧ ((2 : Int) = 2 ∨ (2 : Int) = 4 ∨ (2 : Int) = 8))))) : TellsB 71 ⟨k, r, m, b, x, 2⟩ false := by
 intro w
 have hsc : (2 : Int) = 1 ∨ (0 ≤ x ∧ ((2 : Int) = 2 ∨ (2 : Int) = 4 ∨ (2 : Int) = 8)) := .inr ⟨x0, by decide⟩
 have qx : ((0 : Int) ≤ x) = True := eq_true x0
 by_cases c0 : k = 3
 ·subst c0
  by_cases c1 : r = 0
  ·subst c1
   by_cases c2 : -1 ≤ b
   ·have q2 : ((-1 : Int) ≤ b) = True := eq_true c2
    by_cases c3 : b < 8
    ·have q3 : (b < 8) = True := eq_true c3
     have c4 : -1 ≤ x := by omega
     have q4 : ((-1 : Int) ≤ x) = True := eq_true c4
     by_cases c5 : x < 8
     ·have q5 : (x < 8) = True := eq_true c5
      by_cases c6 : ¬ x = 4
      ·have q6 : (x != 4) = true := by simp [c6]
       exact absurd ⟨rfl, rfl, c2, c3, c4, c5, c6, hsc⟩ hne
      ·have e4 : x = 4 := by omega
       subst e4
       clear hne
       go_enter Tryd.func71, Tryd.ntmps71
       go_wp2
       go_ret
       exact ⟨rfl, (Below.refl _ _).alloc (Nat.le_refl _) _⟩
     ·have q5 : (x < 8) = False := eq_false c5
      clear hne
      go_enter Tryd.func71, Tryd.ntmps71
      go_wp2
      go_ret
      exact ⟨rfl, (Below.refl _ _).alloc (Nat.le_refl _) _⟩
    ·have q3 : (b < 8) = False := eq_false c3
     clear hne
     go_enter Tryd.func71, Tryd.ntmps71
     go_wp2
     go_ret
     exact ⟨rfl, (Below.refl _ _).alloc (Nat.le_refl _) _⟩
   ·have q2 : ((-1 : Int) ≤ b) = False := eq_false c2
    clear hne
    go_enter Tryd.func71, Tryd.ntmps71
    go_wp2
    go_ret
    exact ⟨rfl, (Below.refl _ _).alloc (Nat.le_refl _) _⟩
  ·have q1 : (r == 0) = false := by simp [c1]
   clear c1
   clear hne
   go_enter Tryd.func71, Tryd.ntmps71
   go_wp2
   go_ret
   exact ⟨rfl, (Below.refl _ _).alloc (Nat.le_refl _) _⟩
 ·have q0 : (k == 3) = false := by simp [c0]
  clear c0
  clear hne
  go_enter Tryd.func71, Tryd.ntmps71
  go_wp2
  go_ret
  exact ⟨rfl, (Below.refl _ _).alloc (Nat.le_refl _) _⟩
theorem isMem_no4 {k r m b x : Int} (x0 : 0 ≤ x) (hne : ¬ (k = 3 ∧ r = 0 ∧ -1 ≤ b ∧ b < 8 ∧ -1 ≤ x ∧ x < 8 ∧ ¬ x = 4 ∧ ((4 : Int) = 1 ∨ (0 ≤ x ∧ ((4 : Int) = 2 ∨ (4 : Int) = 4 ∨ (4 : Int) = 8))))) : TellsB 71 ⟨k, r, m, b, x, 4⟩ false := by
 intro w
 have hsc : (4 : Int) = 1 ∨ (0 ≤ x ∧ ((4 : Int) = 2 ∨ (4 : Int) = 4 ∨ (4 : Int) = 8)) := .inr ⟨x0, by decide⟩
 have qx : ((0 : Int) ≤ x) = True := eq_true x0
 by_cases c0 : k = 3
 ·subst c0
  by_cases c1 : r = 0
  ·subst c1
   by_cases c2 : -1 ≤ b
   ·have q2 : ((-1 : Int) ≤ b) = True := eq_true c2
    by_cases c3 : b < 8
    ·have q3 : (b < 8) = True := eq_true c3
     have c4 : -1 ≤ x := by omega
     have q4 : ((-1 : Int) ≤ x) = True := eq_true c4
     by_cases c5 : x < 8
     ·have q5 : (x < 8) = True := eq_true c5
      by_cases c6 : ¬ x = 4
      ·have q6 : (x != 4) = true := by simp [c6]
       exact absurd ⟨rfl, rfl, c2, c3, c4, c5, c6, hsc⟩ hne
      ·have e4 : x = 4 := by omega
       subst e4
       clear hne
       go_enter Tryd.func71, Tryd.ntmps71
       go_wp2
       go_ret
       exact ⟨rfl, (Below.refl _ _).alloc (Nat.le_refl _) _⟩
     ·have q5 : (x < 8) = False := eq_false c5
      clear hne
      go_enter Tryd.func71, Tryd.ntmps71
      go_wp2
      go_ret
      exact ⟨rfl, (Below.refl _ _).alloc (Nat.le_refl _) _⟩
    ·have q3 : (b < 8) = False := eq_false c3
     clear hne
     go_enter Tryd.func71, Tryd.ntmps71
     go_wp2
     go_ret
     exact ⟨rfl, (Below.refl _ _).alloc (Nat.le_refl _) _⟩
   ·have q2 : ((-1 : Int) ≤ b) = False := eq_false c2
    clear hne
    go_enter Tryd.func71, Tryd.ntmps71
    go_wp2
    go_ret
    exact ⟨rfl, (Below.refl _ _).alloc (Nat.le_refl _) _⟩
  ·have q1 : (r == 0) = false := by simp [c1]
   clear c1
   clear hne
   go_enter Tryd.func71, Tryd.ntmps71
   go_wp2
   go_ret
   exact ⟨rfl, (Below.refl _ _).alloc (Nat.le_refl _) _⟩
 ·have q0 : (k == 3) = false := by simp [c0]
  clear c0
  clear hne
  go_enter Tryd.func71, Tryd.ntmps71
  go_wp2
  go_ret
  exact ⟨rfl, (Below.refl _ _).alloc (Nat.le_refl _) _⟩
theorem isMem_no8 {k r m b x : Int} (x0 : 0 ≤ x) (hne : ¬ (k = 3 ∧ r = 0 ∧ -1 ≤ b ∧ b < 8 ∧ -1 ≤ x ∧ x < 8 ∧ ¬ x = 4 ∧ ((8 : Int) = 1 ∨ (0 ≤ x ∧ ((8 : Int) = 2 ∨ (8 : Int) = 4 ∨ (8 : Int) = 8))))) : TellsB 71 ⟨k, r, m, b, x, 8⟩ false := by
 intro w
 have hsc : (8 : Int) = 1 ∨ (0 ≤ x ∧ ((8 : Int) = 2 ∨ (8 : Int) = 4 ∨ (8 : Int) = 8)) := .inr ⟨x0, by decide⟩
 have qx : ((0 : Int) ≤ x) = True := eq_true x0
 by_cases c0 : k = 3
 ·subst c0
  by_cases c1 : r = 0
  ·subst c1
   by_cases c2 : -1 ≤ b
   ·have q2 : ((-1 : Int) ≤ b) = True := eq_true c2
    by_cases c3 : b < 8
    ·have q3 : (b < 8) = True := eq_true c3
     have c4 : -1 ≤ x := by omega
     have q4 : ((-1 : Int) ≤ x) = True := eq_true c4
     by_cases c5 : x < 8
     ·have q5 : (x < 8) = True := eq_true c5
      by_cases c6 : ¬ x = 4
      ·have q6 : (x != 4) = true := by simp [c6]
       exact absurd ⟨rfl, rfl, c2, c3, c4, c5, c6, hsc⟩ hne
      ·have e4 : x = 4 := by omega
       subst e4
       clear hne
       go_enter Tryd.func71, Tryd.ntmps71
       go_wp2
       go_ret
       exact ⟨rfl, (Below.refl _ _).alloc (Nat.le_refl _) _⟩
     ·have q5 : (x < 8) = False := eq_false c5
      clear hne
      go_enter Tryd.func71, Tryd.ntmps71
      go_wp2
      go_ret
      exact ⟨rfl, (Below.refl _ _).alloc (Nat.le_refl _) _⟩
    ·have q3 : (b < 8) = False := eq_false c3
     clear hne
     go_enter Tryd.func71, Tryd.ntmps71
     go_wp2
     go_ret
     exact ⟨rfl, (Below.refl _ _).alloc (Nat.le_refl _) _⟩
   ·have q2 : ((-1 : Int) ≤ b) = False := eq_false c2
    clear hne
    go_enter Tryd.func71, Tryd.ntmps71
    go_wp2
    go_ret
    exact ⟨rfl, (Below.refl _ _).alloc (Nat.le_refl _) _⟩
  ·have q1 : (r == 0) = false := by simp [c1]
   clear c1
   clear hne
   go_enter Tryd.func71, Tryd.ntmps71
   go_wp2
   go_ret
   exact ⟨rfl, (Below.refl _ _).alloc (Nat.le_refl _) _⟩
 ·have q0 : (k == 3) = false := by simp [c0]
  clear c0
  clear hne
  go_enter Tryd.func71, Tryd.ntmps71
  go_wp2
  go_ret
  exact ⟨rfl, (Below.refl _ _).alloc (Nat.le_refl _) _⟩
theorem isMem_nox {k r m b x s : Int} (x0 : ¬ 0 ≤ x) (s1 : ¬ s = 1) (hne : ¬ (k = 3 ∧ r = 0 ∧ -1 ≤ b ∧ b < 8 ∧ -1 ≤ x ∧ x < 8 ∧ ¬ x = 4 ∧ ((s : Int) = 1 ∨ (0 ≤ x ∧ ((s : Int) = 2 ∨ (s : Int) = 4 ∨ (s : Int) = 8))))) : TellsB 71 ⟨k, r, m, b, x, s⟩ false := by
 intro w
 have p1 : (s == 1) = false := by simp [s1]
 clear s1
 have qx : ((0 : Int) ≤ x) = False := eq_false x0
 by_cases c0 : k = 3
 ·subst c0
  by_cases c1 : r = 0
  ·subst c1
   by_cases c2 : -1 ≤ b
   ·have q2 : ((-1 : Int) ≤ b) = True := eq_true c2
    by_cases c3 : b < 8
    ·have q3 : (b < 8) = True := eq_true c3
     by_cases c4 : -1 ≤ x
     ·have q4 : ((-1 : Int) ≤ x) = True := eq_true c4
      have c5 : x < 8 := by omega
      have q5 : (x < 8) = True := eq_true c5
      have c6 : ¬ x = 4 := by omega
      have q6 : (x != 4) = true := by simp [c6]
      clear hne
      go_enter Tryd.func71, Tryd.ntmps71
      go_wp2
      go_ret
      exact ⟨rfl, (Below.refl _ _).alloc (Nat.le_refl _) _⟩
     ·have q4 : ((-1 : Int) ≤ x) = False := eq_false c4
      clear hne
      go_enter Tryd.func71, Tryd.ntmps71
      go_wp2
      go_ret
      exact ⟨rfl, (Below.refl _ _).alloc (Nat.le_refl _) _⟩
    ·have q3 : (b < 8) = False := eq_false c3
     clear hne
     go_enter Tryd.func71, Tryd.ntmps71
     go_wp2
     go_ret
     exact ⟨rfl, (Below.refl _ _).alloc (Nat.le_refl _) _⟩
   ·have q2 : ((-1 : Int) ≤ b) = False := eq_false c2
    clear hne
    go_enter Tryd.func71, Tryd.ntmps71
    go_wp2
    go_ret
    exact ⟨rfl, (Below.refl _ _).alloc (Nat.le_refl _) _⟩
  ·have q1 : (r == 0) = false := by simp [c1]
   clear c1
   clear hne
   go_enter Tryd.func71, Tryd.ntmps71
   go_wp2
   go_ret
   exact ⟨rfl, (Below.refl _ _).alloc (Nat.le_refl _) _⟩
 ·have q0 : (k == 3) = false := by simp [c0]
  clear c0
  clear hne
  go_enter Tryd.func71, Tryd.ntmps71
  go_wp2
  go_ret
  exact ⟨rfl, (Below.refl _ _).alloc (Nat.le_refl _) _⟩
theorem isMem_nos {k r m b x s : Int} (x0 : 0 ≤ x) (s1 : ¬ s = 1) (s2 : ¬ s = 2) (s4 : ¬ s = 4) (s8 : ¬ s = 8) (hne : ¬ (k = 3 ∧ r = 0 ∧ -1 ≤ b ∧ b < 8 ∧ -1 ≤ x ∧ x < 8 ∧ ¬ x = 4 ∧ ((s : Int) = 1 ∨ (0 ≤ x ∧ ((s : Int) = 2 ∨ (s : Int) = 4 ∨ (s : Int) = 8))))) : TellsB 71 ⟨k, r, m, b, x, s⟩ false := by
 intro w
 have p1 : (s == 1) = false := by simp [s1]
 have p2 : (s == 2) = false := by simp [s2]
 have p4 : (s == 4) = false := by simp [s4]
 have p8 : (s == 8) = false := by simp [s8]
 clear s1 s2 s4 s8
 have qx : ((0 : Int) ≤ x) = True := eq_true x0
 by_cases c0 : k = 3
 ·subst c0
  by_cases c1 : r = 0
  ·subst c1
   by_cases c2 : -1 ≤ b
   ·have q2 : ((-1 : Int) ≤ b) = True := eq_true c2
    by_cases c3 : b < 8
    ·have q3 : (b < 8) = True := eq_true c3
     have c4 : -1 ≤ x := by omega
     have q4 : ((-1 : Int) ≤ x) = True := eq_true c4
     by_cases c5 : x < 8
     ·have q5 : (x < 8) = True := eq_true c5
      by_cases c6 : ¬ x = 4
      ·have q6 : (x != 4) = true := by simp [c6]
       clear hne
       go_enter Tryd.func71, Tryd.ntmps71
       go_wp2
       go_ret
       exact ⟨rfl, (Below.refl _ _).alloc (Nat.le_refl _) _⟩
      ·have e4 : x = 4 := by omega
       subst e4
       clear hne
       go_enter Tryd.func71, Tryd.ntmps71
       go_wp2
       go_ret
       exact ⟨rfl, (Below.refl _ _).alloc (Nat.le_refl _) _⟩
     ·have q5 : (x < 8) = False := eq_false c5
      clear hne
      go_enter Tryd.func71, Tryd.ntmps71
      go_wp2
      go_ret
      exact ⟨rfl, (Below.refl _ _).alloc (Nat.le_refl _) _⟩
    ·have q3 : (b < 8) = False := eq_false c3
     clear hne
     go_enter Tryd.func71, Tryd.ntmps71
     go_wp2
     go_ret
     exact ⟨rfl, (Below.refl _ _).alloc (Nat.le_refl _) _⟩
   ·have q2 : ((-1 : Int) ≤ b) = False := eq_false c2
    clear hne
    go_enter Tryd.func71, Tryd.ntmps71
    go_wp2
    go_ret
    exact ⟨rfl, (Below.refl _ _).alloc (Nat.le_refl _) _⟩
  ·have q1 : (r == 0) = false := by simp [c1]
   clear c1
   clear hne
   go_enter Tryd.func71, Tryd.ntmps71
   go_wp2
   go_ret
   exact ⟨rfl, (Below.refl _ _).alloc (Nat.le_refl _) _⟩
 ·have q0 : (k == 3) = false := by simp [c0]
  clear c0
  clear hne
  go_enter Tryd.func71, Tryd.ntmps71
  go_wp2
  go_ret
  exact ⟨rfl, (Below.refl _ _).alloc (Nat.le_refl _) _⟩
theorem isMem_no {o : On} (h : ¬ (o.k = 3 ∧ o.r = 0 ∧ -1 ≤ o.b ∧ o.b < 8 ∧ -1 ≤ o.x ∧ o.x < 8 ∧ ¬ o.x = 4 ∧ (o.s = 1 ∨ (0 ≤ o.x ∧ (o.s = 2 ∨ o.s = 4 ∨ o.s = 8))))) : TellsB 71 o false := by
 obtain ⟨k, r, m, b, x, s⟩ := o
 dsimp only at h
 by_cases s1 : s = 1
 ·subst s1; exact isMem_no1 h
 by_cases x0 : 0 ≤ x
 ·by_cases s2 : s = 2
  ·subst s2; exact isMem_no2 x0 h
  by_cases s4 : s = 4
  ·subst s4; exact isMem_no4 x0 h
  by_cases s8 : s = 8
  ·subst s8; exact isMem_no8 x0 h
  exact isMem_nos x0 s1 s2 s4 s8 h
 ·exact isMem_nox x0 s1 h
theorem kinds (o : On) : (o = onZ ∧ cA o = 1) ∨ (o = onReg o.r ∧ 0 ≤ o.r ∧ o.r < 8 ∧ cA o = if o.r = 1 then 6 else 2) ∨ (o = onImm o.m ∧ cA o = if o.m = 128 then 112 else if o.m < 256 then 48 else 16)
  ∨ (o = onMem o.m o.b o.x o.s ∧ MemOk o.b o.x o.s ∧ cA o = 8) ∨ (¬ o = onZ ∧ ¬ (o = onReg o.r ∧ 0 ≤ o.r ∧ o.r < 8) ∧ ¬ o = onImm o.m ∧ ¬ (o = onMem o.m o.b o.x o.s ∧ MemOk o.b o.x o.s) ∧ cA o = 0) := by
 by_cases h1 : o = onZ
 ·exact .inl ⟨h1, by rw [h1]; rfl⟩
 by_cases h2 : o = onReg o.r ∧ 0 ≤ o.r ∧ o.r < 8
 ·exact .inr (.inl ⟨h2.1, h2.2.1, h2.2.2, by rw [h2.1]; exact cA_reg ⟨h2.2.1, h2.2.2⟩⟩)
 by_cases h3 : o = onImm o.m
 ·exact .inr (.inr (.inl ⟨h3, by rw [h3]; exact cA_imm _⟩))
 by_cases h4 : o = onMem o.m o.b o.x o.s ∧ MemOk o.b o.x o.s
 ·exact .inr (.inr (.inr (.inl ⟨h4.1, h4.2, by rw [h4.1]; exact cA_mem8 (mem_ok h4.2.1 h4.2.2)⟩)))
 refine .inr (.inr (.inr (.inr ⟨h1, h2, h3, h4, ?_⟩)))
 obtain ⟨k, r, m, b, x, s⟩ := o
 unfold cA
 dsimp only
 by_cases k0 : k = 0
 ·subst k0
  have : (r == 0 && m == 0 && b == 0 && x == 0 && s == 0) = false := by
   cases hh : (r == 0 && m == 0 && b == 0 && x == 0 && s == 0)
   ·rfl
   ·simp at hh; obtain ⟨⟨⟨⟨rfl, rfl⟩, rfl⟩, rfl⟩, rfl⟩ := hh; exact absurd rfl h1
  simp only [beq_self_eq_true, cond_true, this, cond_false]
 rw [show (k == 0) = false by simp [k0]]
 by_cases k1 : k = 1
 ·subst k1
  cases hh : (m == 0 && b == 0 && x == 0 && s == 0)
  ·rfl
  ·simp at hh
   obtain ⟨⟨⟨rfl, rfl⟩, rfl⟩, rfl⟩ := hh
   have hr : isRegB r = false := by
    unfold isRegB
    cases hq : (decide (0 ≤ r) && decide (r < 8))
    ·rfl
    ·simp at hq; exact absurd ⟨rfl, hq.1, hq.2⟩ h2
   have hr1 : (r == 1) = false := by
    cases hq : (r == 1)
    ·rfl
    ·have : r = 1 := by simpa using hq
     subst this; cases hr
   simp only [cond_false, cond_true, beq_self_eq_true, regA, hr, hr1]
 rw [show (k == 1) = false by simp [k1]]
 by_cases k2 : k = 2
 ·subst k2
  cases hh : (r == 0 && b == 0 && x == 0 && s == 0)
  ·rfl
  ·simp at hh
   obtain ⟨⟨⟨rfl, rfl⟩, rfl⟩, rfl⟩ := hh
   exact absurd rfl h3
 rw [show (k == 2) = false by simp [k2]]
 by_cases k3 : k = 3
 ·subst k3
  by_cases r0 : r = 0
  ·subst r0
   have hm : memA b x s = 0 := by
    have : memA b x s = 8 ∨ memA b x s = 0 := by unfold memA; cases ((b == -1 || isRegB b) && isIndexB x s) <;> simp
    rcases this with h | h
    ·exact absurd ⟨rfl, mem_of8 h⟩ h4
    ·exact h
   simpa using hm
  ·rw [show (r == 0) = false by simp [r0]]; rfl
 ·rw [show (k == 3) = false by simp [k3]]; rfl
end Go.Proofs.YtcgleggdochbeaaDoor
