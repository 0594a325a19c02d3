import Derived.Test.YtcgleggdochbeaaDoorS44
import Derived.Test.YtcgleggdochbeaaDoorS45
namespace Go.Proofs.YtcgleggdochbeaaDoor
open Go.RowKit
set_option linter.unusedVariables false
set_option linter.unusedSimpArgs false
set_option linter.unusedSectionVars false
def gB (a : Int) : Bool := a == 2 || a == 6
def iB (a : Int) : Bool := a == 16 || a == 48 || a == 112
def mB (a : Int) : Bool := a == 8
def yB (a : Int) : Bool := a == 48 || a == 112
def rmB (a : Int) : Bool := gB a || mB a
def nB (a : Int) : Bool := a == 1
def L8 : List Int := [0, 1, 2, 6, 8, 16, 48, 112]
section
variable {o : On}
theorem t_none (o : On) : TellsB 73 o (nB (cA o)) := by
 by_cases h : o = onZ
 ·rw [h]; exact none_z
 ·have : nB (cA o) = false := by
   rcases kinds o with ⟨h1, -⟩ | ⟨-, -, -, e⟩ | ⟨-, e⟩ | ⟨-, -, e⟩ | ⟨-, -, -, -, e⟩
   ·exact absurd h1 h
   ·rw [e]; split <;> rfl
   ·rw [e]; split <;> (try split) <;> rfl
   ·rw [e]; rfl
   ·rw [e]; rfl
  rw [this]; exact none_no h
theorem t_reg (o : On) : TellsB 69 o (gB (cA o)) := by
 by_cases h : o = onReg o.r ∧ 0 ≤ o.r ∧ o.r < 8
 ·have : gB (cA o) = true := by rw [h.1, cA_reg h.2]; split <;> rfl
  rw [this, h.1]; exact isReg_reg h.2
 ·have : gB (cA o) = false := by
   rcases kinds o with ⟨-, e⟩ | ⟨h1, h2, h3, e⟩ | ⟨-, e⟩ | ⟨-, -, e⟩ | ⟨-, -, -, -, e⟩
   ·rw [e]; rfl
   ·exact absurd ⟨h1, h2, h3⟩ h
   ·rw [e]; split <;> (try split) <;> rfl
   ·rw [e]; rfl
   ·rw [e]; rfl
  rw [this]; exact isReg_no h
theorem t_imm (o : On) : TellsB 70 o (iB (cA o)) := by
 by_cases h : o = onImm o.m
 ·have : iB (cA o) = true := by rw [h, cA_imm]; split <;> (try split) <;> rfl
  rw [this, h]; exact isImm_imm _
 ·have : iB (cA o) = false := by
   rcases kinds o with ⟨-, e⟩ | ⟨-, -, -, e⟩ | ⟨h1, -⟩ | ⟨-, -, e⟩ | ⟨-, -, -, -, e⟩
   ·rw [e]; rfl
   ·rw [e]; split <;> rfl
   ·exact absurd h1 h
   ·rw [e]; rfl
   ·rw [e]; rfl
  rw [this]; exact isImm_no h
theorem t_mem (o : On) : TellsB 71 o (mB (cA o)) := by
 by_cases h : o = onMem o.m o.b o.x o.s ∧ MemOk o.b o.x o.s
 ·have : mB (cA o) = true := by rw [h.1, cA_mem8 (mem_ok h.2.1 h.2.2)]; rfl
  rw [this, h.1]; exact isMem_mem _ h.2
 ·have : mB (cA o) = false := by
   rcases kinds o with ⟨-, e⟩ | ⟨-, -, -, e⟩ | ⟨-, e⟩ | ⟨h1, h2, -⟩ | ⟨-, -, -, -, e⟩
   ·rw [e]; rfl
   ·rw [e]; split <;> rfl
   ·rw [e]; split <;> (try split) <;> rfl
   ·exact absurd ⟨h1, h2⟩ h
   ·rw [e]; rfl
  rw [this]
  refine isMem_no (fun g => h ?_)
  obtain ⟨k, r, m, b, x, s⟩ := o
  obtain ⟨g1, g2, g3, g4, g5, g6, g7, g8⟩ := g
  dsimp only at g1 g2 g3 g4 g5 g6 g7 g8
  subst g1 g2
  refine ⟨rfl, ⟨g3, g4⟩, ?_⟩
  dsimp only
  omega
theorem t_rm (o : On) : TellsB 68 o (rmB (cA o)) := by
 have h1 := t_reg o
 have h2 := t_mem o
 unfold rmB
 cases h : gB (cA o)
 ·rw [h] at h1; exact rm_other h1 h2
 ·rw [h] at h1; exact rm_reg h1
theorem byte_big {m : Int} (h : ¬ m < 256) : TellsB 72 (onImm m) false := by
 intro w
 have g1 := Lib.hid (isImm_imm m)
 have g2 : (m < 256) = False := eq_false h
 clear h
 have b0 := (Below.refl w.heap.size w).alloc (Nat.le_refl _) (.cells (op6 (onImm m)) 24)
 have kO := Blk.new w 24 (op6 (onImm m))
 go_enter Tryd.func72, Tryd.ntmps72
 go_wp2_with (first | ((with_reducible refine (g1.out _).mono ?_); rintro e w1 ⟨rfl, b1⟩; replace b0 := b0.trans (b1.mono b0.size); replace kO := kO.below b1 kO.lt; have c2 := kO.cell (i := 2) (v := .int .u32 m) rfl; have f2 := kO.fr 2))
 go_ret
 exact ⟨rfl, b0⟩
theorem t_byte (o : On) : TellsB 72 o (yB (cA o)) := by
 by_cases h : o = onImm o.m
 ·by_cases h2 : o.m < 256
  ·have : yB (cA o) = true := by rw [h, cA_imm]; split <;> (try rw [if_pos h2]) <;> rfl
   rw [this, h]; exact byte_imm h2
  ·have : yB (cA o) = false := by rw [h, cA_imm, if_neg (by omega), if_neg h2]; rfl
   rw [this, h]; exact byte_big h2
 ·have h1 := t_imm o
  have : iB (cA o) = false ∧ yB (cA o) = false := by
   rcases kinds o with ⟨-, e⟩ | ⟨-, -, -, e⟩ | ⟨h1, -⟩ | ⟨-, -, e⟩ | ⟨-, -, -, -, e⟩
   ·rw [e]; exact ⟨rfl, rfl⟩
   ·rw [e]; split <;> exact ⟨rfl, rfl⟩
   ·exact absurd h1 h
   ·rw [e]; exact ⟨rfl, rfl⟩
   ·rw [e]; exact ⟨rfl, rfl⟩
  rw [this.1] at h1
  rw [this.2]; exact byteI_no h1
theorem reg6 (h : gB (cA o) = true) : (o.r == 1) = (cA o == 6) := by
 rcases kinds o with ⟨-, e⟩ | ⟨-, -, -, e⟩ | ⟨-, e⟩ | ⟨-, -, e⟩ | ⟨-, -, -, -, e⟩
 ·rw [e] at h; cases h
 ·rw [e]
  by_cases h1 : o.r = 1
  ·rw [if_pos h1, h1]; rfl
  ·rw [if_neg h1]; simp [h1]
 ·rw [e] at h; (repeat' split at h) <;> cases h
 ·rw [e] at h; cases h
 ·rw [e] at h; cases h
theorem imm112 (h : iB (cA o) = true) : (o.m == 128) = (cA o == 112) := by
 rcases kinds o with ⟨-, e⟩ | ⟨-, -, -, e⟩ | ⟨-, e⟩ | ⟨-, -, e⟩ | ⟨-, -, -, -, e⟩
 ·rw [e] at h; cases h
 ·rw [e] at h; split at h <;> cases h
 ·rw [e]
  by_cases h1 : o.m = 128
  ·rw [if_pos h1, h1]; rfl
  ·rw [if_neg h1]; split <;> simp [h1]
 ·rw [e] at h; cases h
 ·rw [e] at h; cases h
end
theorem way {op : Int} {P : Int → Int → Bool} {v : Int → Int → Bool} (h : (L8.all fun a => L8.all fun b => !P a b || takesB (rowN op) a b == v a b) = true) (A B : On) (hp : P (cA A) (cA B) = true) : takesB (rowN op) (cA A) (cA B) = v (cA A) (cA B) := by
 have := List.all_eq_true.1 (List.all_eq_true.1 h _ (cA_mem A)) _ (cA_mem B)
 rw [hp] at this
 simpa using this
section
variable {A B : On}
theorem opg_3 : OpdB 3 A B (takesB (rowN 3) (cA A) (cA B)) := by
 cases p0 : rmB (cA A)
 ·rw [way (op := 3) (P := fun a b => (rmB a == false)) (v := fun a b => false) (by kernel_rfl) A B (by simp [p0])]
  exact opd_eight_x (by decide) (by have := t_rm A; rw [p0] at this; exact this)
 ·cases p1 : gB (cA B)
  ·cases p2 : iB (cA B)
   ·cases p3 : gB (cA A)
    ·rw [way (op := 3) (P := fun a b => (rmB a == true) && (gB b == false) && (iB b == false) && (gB a == false)) (v := fun a b => false) (by kernel_rfl) A B (by simp [p0, p1, p2, p3])]
     exact opd_eight_y (by decide) (by have := t_rm A; rw [p0] at this; exact this) (by have := t_reg B; rw [p1] at this; exact this) (by have := t_imm B; rw [p2] at this; exact this) (by have := t_reg A; rw [p3] at this; exact this)
    ·cases p4 : mB (cA B)
     ·rw [way (op := 3) (P := fun a b => (rmB a == true) && (gB b == false) && (iB b == false) && (gB a == true) && (mB b == false)) (v := fun a b => false) (by kernel_rfl) A B (by simp [p0, p1, p2, p3, p4])]
      exact opd_eight_w (by decide) (by have := t_rm A; rw [p0] at this; exact this) (by have := t_reg B; rw [p1] at this; exact this) (by have := t_imm B; rw [p2] at this; exact this) (by have := t_reg A; rw [p3] at this; exact this) (by have := t_mem B; rw [p4] at this; exact this)
     ·rw [way (op := 3) (P := fun a b => (rmB a == true) && (gB b == false) && (iB b == false) && (gB a == true) && (mB b == true)) (v := fun a b => true) (by kernel_rfl) A B (by simp [p0, p1, p2, p3, p4])]
      exact opd_eight_m (by decide) (by have := t_rm A; rw [p0] at this; exact this) (by have := t_reg B; rw [p1] at this; exact this) (by have := t_imm B; rw [p2] at this; exact this) (by have := t_reg A; rw [p3] at this; exact this) (by have := t_mem B; rw [p4] at this; exact this)
   ·rw [way (op := 3) (P := fun a b => (rmB a == true) && (gB b == false) && (iB b == true)) (v := fun a b => true) (by kernel_rfl) A B (by simp [p0, p1, p2])]
    exact opd_eight_i (by decide) (by have := t_rm A; rw [p0] at this; exact this) (by have := t_reg B; rw [p1] at this; exact this) (by have := t_imm B; rw [p2] at this; exact this)
  ·rw [way (op := 3) (P := fun a b => (rmB a == true) && (gB b == true)) (v := fun a b => true) (by kernel_rfl) A B (by simp [p0, p1])]
   exact opd_eight_r (by decide) (by have := t_rm A; rw [p0] at this; exact this) (by have := t_reg B; rw [p1] at this; exact this)
theorem opg_4 : OpdB 4 A B (takesB (rowN 4) (cA A) (cA B)) := by
 cases p0 : rmB (cA A)
 ·rw [way (op := 4) (P := fun a b => (rmB a == false)) (v := fun a b => false) (by kernel_rfl) A B (by simp [p0])]
  exact opd_eight_x (by decide) (by have := t_rm A; rw [p0] at this; exact this)
 ·cases p1 : gB (cA B)
  ·cases p2 : iB (cA B)
   ·cases p3 : gB (cA A)
    ·rw [way (op := 4) (P := fun a b => (rmB a == true) && (gB b == false) && (iB b == false) && (gB a == false)) (v := fun a b => false) (by kernel_rfl) A B (by simp [p0, p1, p2, p3])]
     exact opd_eight_y (by decide) (by have := t_rm A; rw [p0] at this; exact this) (by have := t_reg B; rw [p1] at this; exact this) (by have := t_imm B; rw [p2] at this; exact this) (by have := t_reg A; rw [p3] at this; exact this)
    ·cases p4 : mB (cA B)
     ·rw [way (op := 4) (P := fun a b => (rmB a == true) && (gB b == false) && (iB b == false) && (gB a == true) && (mB b == false)) (v := fun a b => false) (by kernel_rfl) A B (by simp [p0, p1, p2, p3, p4])]
      exact opd_eight_w (by decide) (by have := t_rm A; rw [p0] at this; exact this) (by have := t_reg B; rw [p1] at this; exact this) (by have := t_imm B; rw [p2] at this; exact this) (by have := t_reg A; rw [p3] at this; exact this) (by have := t_mem B; rw [p4] at this; exact this)
     ·rw [way (op := 4) (P := fun a b => (rmB a == true) && (gB b == false) && (iB b == false) && (gB a == true) && (mB b == true)) (v := fun a b => true) (by kernel_rfl) A B (by simp [p0, p1, p2, p3, p4])]
      exact opd_eight_m (by decide) (by have := t_rm A; rw [p0] at this; exact this) (by have := t_reg B; rw [p1] at this; exact this) (by have := t_imm B; rw [p2] at this; exact this) (by have := t_reg A; rw [p3] at this; exact this) (by have := t_mem B; rw [p4] at this; exact this)
   ·rw [way (op := 4) (P := fun a b => (rmB a == true) && (gB b == false) && (iB b == true)) (v := fun a b => true) (by kernel_rfl) A B (by simp [p0, p1, p2])]
    exact opd_eight_i (by decide) (by have := t_rm A; rw [p0] at this; exact this) (by have := t_reg B; rw [p1] at this; exact this) (by have := t_imm B; rw [p2] at this; exact this)
  ·rw [way (op := 4) (P := fun a b => (rmB a == true) && (gB b == true)) (v := fun a b => true) (by kernel_rfl) A B (by simp [p0, p1])]
   exact opd_eight_r (by decide) (by have := t_rm A; rw [p0] at this; exact this) (by have := t_reg B; rw [p1] at this; exact this)
theorem opg_5 : OpdB 5 A B (takesB (rowN 5) (cA A) (cA B)) := by
 cases p0 : rmB (cA A)
 ·rw [way (op := 5) (P := fun a b => (rmB a == false)) (v := fun a b => false) (by kernel_rfl) A B (by simp [p0])]
  exact opd_eight_x (by decide) (by have := t_rm A; rw [p0] at this; exact this)
 ·cases p1 : gB (cA B)
  ·cases p2 : iB (cA B)
   ·cases p3 : gB (cA A)
    ·rw [way (op := 5) (P := fun a b => (rmB a == true) && (gB b == false) && (iB b == false) && (gB a == false)) (v := fun a b => false) (by kernel_rfl) A B (by simp [p0, p1, p2, p3])]
     exact opd_eight_y (by decide) (by have := t_rm A; rw [p0] at this; exact this) (by have := t_reg B; rw [p1] at this; exact this) (by have := t_imm B; rw [p2] at this; exact this) (by have := t_reg A; rw [p3] at this; exact this)
    ·cases p4 : mB (cA B)
     ·rw [way (op := 5) (P := fun a b => (rmB a == true) && (gB b == false) && (iB b == false) && (gB a == true) && (mB b == false)) (v := fun a b => false) (by kernel_rfl) A B (by simp [p0, p1, p2, p3, p4])]
      exact opd_eight_w (by decide) (by have := t_rm A; rw [p0] at this; exact this) (by have := t_reg B; rw [p1] at this; exact this) (by have := t_imm B; rw [p2] at this; exact this) (by have := t_reg A; rw [p3] at this; exact this) (by have := t_mem B; rw [p4] at this; exact this)
     ·rw [way (op := 5) (P := fun a b => (rmB a == true) && (gB b == false) && (iB b == false) && (gB a == true) && (mB b == true)) (v := fun a b => true) (by kernel_rfl) A B (by simp [p0, p1, p2, p3, p4])]
      exact opd_eight_m (by decide) (by have := t_rm A; rw [p0] at this; exact this) (by have := t_reg B; rw [p1] at this; exact this) (by have := t_imm B; rw [p2] at this; exact this) (by have := t_reg A; rw [p3] at this; exact this) (by have := t_mem B; rw [p4] at this; exact this)
   ·rw [way (op := 5) (P := fun a b => (rmB a == true) && (gB b == false) && (iB b == true)) (v := fun a b => true) (by kernel_rfl) A B (by simp [p0, p1, p2])]
    exact opd_eight_i (by decide) (by have := t_rm A; rw [p0] at this; exact this) (by have := t_reg B; rw [p1] at this; exact this) (by have := t_imm B; rw [p2] at this; exact this)
  ·rw [way (op := 5) (P := fun a b => (rmB a == true) && (gB b == true)) (v := fun a b => true) (by kernel_rfl) A B (by simp [p0, p1])]
   exact opd_eight_r (by decide) (by have := t_rm A; rw [p0] at this; exact this) (by have := t_reg B; rw [p1] at this; exact this)
theorem opg_6 : OpdB 6 A B (takesB (rowN 6) (cA A) (cA B)) := by
 cases p0 : rmB (cA A)
 ·rw [way (op := 6) (P := fun a b => (rmB a == false)) (v := fun a b => false) (by kernel_rfl) A B (by simp [p0])]
  exact opd_eight_x (by decide) (by have := t_rm A; rw [p0] at this; exact this)
 ·cases p1 : gB (cA B)
  ·cases p2 : iB (cA B)
   ·cases p3 : gB (cA A)
    ·rw [way (op := 6) (P := fun a b => (rmB a == true) && (gB b == false) && (iB b == false) && (gB a == false)) (v := fun a b => false) (by kernel_rfl) A B (by simp [p0, p1, p2, p3])]
     exact opd_eight_y (by decide) (by have := t_rm A; rw [p0] at this; exact this) (by have := t_reg B; rw [p1] at this; exact this) (by have := t_imm B; rw [p2] at this; exact this) (by have := t_reg A; rw [p3] at this; exact this)
    ·cases p4 : mB (cA B)
     ·rw [way (op := 6) (P := fun a b => (rmB a == true) && (gB b == false) && (iB b == false) && (gB a == true) && (mB b == false)) (v := fun a b => false) (by kernel_rfl) A B (by simp [p0, p1, p2, p3, p4])]
      exact opd_eight_w (by decide) (by have := t_rm A; rw [p0] at this; exact this) (by have := t_reg B; rw [p1] at this; exact this) (by have := t_imm B; rw [p2] at this; exact this) (by have := t_reg A; rw [p3] at this; exact this) (by have := t_mem B; rw [p4] at this; exact this)
     ·rw [way (op := 6) (P := fun a b => (rmB a == true) && (gB b == false) && (iB b == false) && (gB a == true) && (mB b == true)) (v := fun a b => true) (by kernel_rfl) A B (by simp [p0, p1, p2, p3, p4])]
      exact opd_eight_m (by decide) (by have := t_rm A; rw [p0] at this; exact this) (by have := t_reg B; rw [p1] at this; exact this) (by have := t_imm B; rw [p2] at this; exact this) (by have := t_reg A; rw [p3] at this; exact this) (by have := t_mem B; rw [p4] at this; exact this)
   ·rw [way (op := 6) (P := fun a b => (rmB a == true) && (gB b == false) && (iB b == true)) (v := fun a b => true) (by kernel_rfl) A B (by simp [p0, p1, p2])]
    exact opd_eight_i (by decide) (by have := t_rm A; rw [p0] at this; exact this) (by have := t_reg B; rw [p1] at this; exact this) (by have := t_imm B; rw [p2] at this; exact this)
  ·rw [way (op := 6) (P := fun a b => (rmB a == true) && (gB b == true)) (v := fun a b => true) (by kernel_rfl) A B (by simp [p0, p1])]
   exact opd_eight_r (by decide) (by have := t_rm A; rw [p0] at this; exact this) (by have := t_reg B; rw [p1] at this; exact this)
theorem opg_7 : OpdB 7 A B (takesB (rowN 7) (cA A) (cA B)) := by
 cases p0 : rmB (cA A)
 ·rw [way (op := 7) (P := fun a b => (rmB a == false)) (v := fun a b => false) (by kernel_rfl) A B (by simp [p0])]
  exact opd_eight_x (by decide) (by have := t_rm A; rw [p0] at this; exact this)
 ·cases p1 : gB (cA B)
  ·cases p2 : iB (cA B)
   ·cases p3 : gB (cA A)
    ·rw [way (op := 7) (P := fun a b => (rmB a == true) && (gB b == false) && (iB b == false) && (gB a == false)) (v := fun a b => false) (by kernel_rfl) A B (by simp [p0, p1, p2, p3])]
     exact opd_eight_y (by decide) (by have := t_rm A; rw [p0] at this; exact this) (by have := t_reg B; rw [p1] at this; exact this) (by have := t_imm B; rw [p2] at this; exact this) (by have := t_reg A; rw [p3] at this; exact this)
    ·cases p4 : mB (cA B)
     ·rw [way (op := 7) (P := fun a b => (rmB a == true) && (gB b == false) && (iB b == false) && (gB a == true) && (mB b == false)) (v := fun a b => false) (by kernel_rfl) A B (by simp [p0, p1, p2, p3, p4])]
      exact opd_eight_w (by decide) (by have := t_rm A; rw [p0] at this; exact this) (by have := t_reg B; rw [p1] at this; exact this) (by have := t_imm B; rw [p2] at this; exact this) (by have := t_reg A; rw [p3] at this; exact this) (by have := t_mem B; rw [p4] at this; exact this)
     ·rw [way (op := 7) (P := fun a b => (rmB a == true) && (gB b == false) && (iB b == false) && (gB a == true) && (mB b == true)) (v := fun a b => true) (by kernel_rfl) A B (by simp [p0, p1, p2, p3, p4])]
      exact opd_eight_m (by decide) (by have := t_rm A; rw [p0] at this; exact this) (by have := t_reg B; rw [p1] at this; exact this) (by have := t_imm B; rw [p2] at this; exact this) (by have := t_reg A; rw [p3] at this; exact this) (by have := t_mem B; rw [p4] at this; exact this)
   ·rw [way (op := 7) (P := fun a b => (rmB a == true) && (gB b == false) && (iB b == true)) (v := fun a b => true) (by kernel_rfl) A B (by simp [p0, p1, p2])]
    exact opd_eight_i (by decide) (by have := t_rm A; rw [p0] at this; exact this) (by have := t_reg B; rw [p1] at this; exact this) (by have := t_imm B; rw [p2] at this; exact this)
  ·rw [way (op := 7) (P := fun a b => (rmB a == true) && (gB b == true)) (v := fun a b => true) (by kernel_rfl) A B (by simp [p0, p1])]
   exact opd_eight_r (by decide) (by have := t_rm A; rw [p0] at this; exact this) (by have := t_reg B; rw [p1] at this; exact this)
theorem opg_8 : OpdB 8 A B (takesB (rowN 8) (cA A) (cA B)) := by
 cases p0 : rmB (cA A)
 ·rw [way (op := 8) (P := fun a b => (rmB a == false)) (v := fun a b => false) (by kernel_rfl) A B (by simp [p0])]
  exact opd_eight_x (by decide) (by have := t_rm A; rw [p0] at this; exact this)
 ·cases p1 : gB (cA B)
  ·cases p2 : iB (cA B)
   ·cases p3 : gB (cA A)
    ·rw [way (op := 8) (P := fun a b => (rmB a == true) && (gB b == false) && (iB b == false) && (gB a == false)) (v := fun a b => false) (by kernel_rfl) A B (by simp [p0, p1, p2, p3])]
     exact opd_eight_y (by decide) (by have := t_rm A; rw [p0] at this; exact this) (by have := t_reg B; rw [p1] at this; exact this) (by have := t_imm B; rw [p2] at this; exact this) (by have := t_reg A; rw [p3] at this; exact this)
    ·cases p4 : mB (cA B)
     ·rw [way (op := 8) (P := fun a b => (rmB a == true) && (gB b == false) && (iB b == false) && (gB a == true) && (mB b == false)) (v := fun a b => false) (by kernel_rfl) A B (by simp [p0, p1, p2, p3, p4])]
      exact opd_eight_w (by decide) (by have := t_rm A; rw [p0] at this; exact this) (by have := t_reg B; rw [p1] at this; exact this) (by have := t_imm B; rw [p2] at this; exact this) (by have := t_reg A; rw [p3] at this; exact this) (by have := t_mem B; rw [p4] at this; exact this)
     ·rw [way (op := 8) (P := fun a b => (rmB a == true) && (gB b == false) && (iB b == false) && (gB a == true) && (mB b == true)) (v := fun a b => true) (by kernel_rfl) A B (by simp [p0, p1, p2, p3, p4])]
      exact opd_eight_m (by decide) (by have := t_rm A; rw [p0] at this; exact this) (by have := t_reg B; rw [p1] at this; exact this) (by have := t_imm B; rw [p2] at this; exact this) (by have := t_reg A; rw [p3] at this; exact this) (by have := t_mem B; rw [p4] at this; exact this)
   ·rw [way (op := 8) (P := fun a b => (rmB a == true) && (gB b == false) && (iB b == true)) (v := fun a b => true) (by kernel_rfl) A B (by simp [p0, p1, p2])]
    exact opd_eight_i (by decide) (by have := t_rm A; rw [p0] at this; exact this) (by have := t_reg B; rw [p1] at this; exact this) (by have := t_imm B; rw [p2] at this; exact this)
  ·rw [way (op := 8) (P := fun a b => (rmB a == true) && (gB b == true)) (v := fun a b => true) (by kernel_rfl) A B (by simp [p0, p1])]
   exact opd_eight_r (by decide) (by have := t_rm A; rw [p0] at this; exact this) (by have := t_reg B; rw [p1] at this; exact this)
theorem opg_9 : OpdB 9 A B (takesB (rowN 9) (cA A) (cA B)) := by
 cases p0 : rmB (cA A)
 ·rw [way (op := 9) (P := fun a b => (rmB a == false)) (v := fun a b => false) (by kernel_rfl) A B (by simp [p0])]
  exact opd_eight_x (by decide) (by have := t_rm A; rw [p0] at this; exact this)
 ·cases p1 : gB (cA B)
  ·cases p2 : iB (cA B)
   ·cases p3 : gB (cA A)
    ·rw [way (op := 9) (P := fun a b => (rmB a == true) && (gB b == false) && (iB b == false) && (gB a == false)) (v := fun a b => false) (by kernel_rfl) A B (by simp [p0, p1, p2, p3])]
     exact opd_eight_y (by decide) (by have := t_rm A; rw [p0] at this; exact this) (by have := t_reg B; rw [p1] at this; exact this) (by have := t_imm B; rw [p2] at this; exact this) (by have := t_reg A; rw [p3] at this; exact this)
    ·cases p4 : mB (cA B)
     ·rw [way (op := 9) (P := fun a b => (rmB a == true) && (gB b == false) && (iB b == false) && (gB a == true) && (mB b == false)) (v := fun a b => false) (by kernel_rfl) A B (by simp [p0, p1, p2, p3, p4])]
      exact opd_eight_w (by decide) (by have := t_rm A; rw [p0] at this; exact this) (by have := t_reg B; rw [p1] at this; exact this) (by have := t_imm B; rw [p2] at this; exact this) (by have := t_reg A; rw [p3] at this; exact this) (by have := t_mem B; rw [p4] at this; exact this)
     ·rw [way (op := 9) (P := fun a b => (rmB a == true) && (gB b == false) && (iB b == false) && (gB a == true) && (mB b == true)) (v := fun a b => true) (by kernel_rfl) A B (by simp [p0, p1, p2, p3, p4])]
      exact opd_eight_m (by decide) (by have := t_rm A; rw [p0] at this; exact this) (by have := t_reg B; rw [p1] at this; exact this) (by have := t_imm B; rw [p2] at this; exact this) (by have := t_reg A; rw [p3] at this; exact this) (by have := t_mem B; rw [p4] at this; exact this)
   ·rw [way (op := 9) (P := fun a b => (rmB a == true) && (gB b == false) && (iB b == true)) (v := fun a b => true) (by kernel_rfl) A B (by simp [p0, p1, p2])]
    exact opd_eight_i (by decide) (by have := t_rm A; rw [p0] at this; exact this) (by have := t_reg B; rw [p1] at this; exact this) (by have := t_imm B; rw [p2] at this; exact this)
  ·rw [way (op := 9) (P := fun a b => (rmB a == true) && (gB b == true)) (v := fun a b => true) (by kernel_rfl) A B (by simp [p0, p1])]
   exact opd_eight_r (by decide) (by have := t_rm A; rw [p0] at this; exact this) (by have := t_reg B; rw [p1] at this; exact this)
theorem opg_10 : OpdB 10 A B (takesB (rowN 10) (cA A) (cA B)) := by
 cases p0 : rmB (cA A)
 ·rw [way (op := 10) (P := fun a b => (rmB a == false)) (v := fun a b => false) (by kernel_rfl) A B (by simp [p0])]
  exact opd_eight_x (by decide) (by have := t_rm A; rw [p0] at this; exact this)
 ·cases p1 : gB (cA B)
  ·cases p2 : iB (cA B)
   ·cases p3 : gB (cA A)
    ·rw [way (op := 10) (P := fun a b => (rmB a == true) && (gB b == false) && (iB b == false) && (gB a == false)) (v := fun a b => false) (by kernel_rfl) A B (by simp [p0, p1, p2, p3])]
     exact opd_eight_y (by decide) (by have := t_rm A; rw [p0] at this; exact this) (by have := t_reg B; rw [p1] at this; exact this) (by have := t_imm B; rw [p2] at this; exact this) (by have := t_reg A; rw [p3] at this; exact this)
    ·cases p4 : mB (cA B)
     ·rw [way (op := 10) (P := fun a b => (rmB a == true) && (gB b == false) && (iB b == false) && (gB a == true) && (mB b == false)) (v := fun a b => false) (by kernel_rfl) A B (by simp [p0, p1, p2, p3, p4])]
      exact opd_eight_w (by decide) (by have := t_rm A; rw [p0] at this; exact this) (by have := t_reg B; rw [p1] at this; exact this) (by have := t_imm B; rw [p2] at this; exact this) (by have := t_reg A; rw [p3] at this; exact this) (by have := t_mem B; rw [p4] at this; exact this)
     ·rw [way (op := 10) (P := fun a b => (rmB a == true) && (gB b == false) && (iB b == false) && (gB a == true) && (mB b == true)) (v := fun a b => true) (by kernel_rfl) A B (by simp [p0, p1, p2, p3, p4])]
      exact opd_eight_m (by decide) (by have := t_rm A; rw [p0] at this; exact this) (by have := t_reg B; rw [p1] at this; exact this) (by have := t_imm B; rw [p2] at this; exact this) (by have := t_reg A; rw [p3] at this; exact this) (by have := t_mem B; rw [p4] at this; exact this)
   ·rw [way (op := 10) (P := fun a b => (rmB a == true) && (gB b == false) && (iB b == true)) (v := fun a b => true) (by kernel_rfl) A B (by simp [p0, p1, p2])]
    exact opd_eight_i (by decide) (by have := t_rm A; rw [p0] at this; exact this) (by have := t_reg B; rw [p1] at this; exact this) (by have := t_imm B; rw [p2] at this; exact this)
  ·rw [way (op := 10) (P := fun a b => (rmB a == true) && (gB b == true)) (v := fun a b => true) (by kernel_rfl) A B (by simp [p0, p1])]
   exact opd_eight_r (by decide) (by have := t_rm A; rw [p0] at this; exact this) (by have := t_reg B; rw [p1] at this; exact this)
theorem opg_1 : OpdB 1 A B (takesB (rowN 1) (cA A) (cA B)) := by
 cases p0 : rmB (cA A)
 ·rw [way (op := 1) (P := fun a b => (rmB a == false)) (v := fun a b => false) (by kernel_rfl) A B (by simp [p0])]
  exact opd_mov_x (by have := t_rm A; rw [p0] at this; exact this)
 ·cases p1 : gB (cA B)
  ·cases p2 : iB (cA B)
   ·cases p3 : gB (cA A)
    ·rw [way (op := 1) (P := fun a b => (rmB a == true) && (gB b == false) && (iB b == false) && (gB a == false)) (v := fun a b => false) (by kernel_rfl) A B (by simp [p0, p1, p2, p3])]
     exact opd_mov_y (by have := t_rm A; rw [p0] at this; exact this) (by have := t_reg B; rw [p1] at this; exact this) (by have := t_imm B; rw [p2] at this; exact this) (by have := t_reg A; rw [p3] at this; exact this)
    ·cases p4 : mB (cA B)
     ·rw [way (op := 1) (P := fun a b => (rmB a == true) && (gB b == false) && (iB b == false) && (gB a == true) && (mB b == false)) (v := fun a b => false) (by kernel_rfl) A B (by simp [p0, p1, p2, p3, p4])]
      exact opd_mov_w (by have := t_rm A; rw [p0] at this; exact this) (by have := t_reg B; rw [p1] at this; exact this) (by have := t_imm B; rw [p2] at this; exact this) (by have := t_reg A; rw [p3] at this; exact this) (by have := t_mem B; rw [p4] at this; exact this)
     ·rw [way (op := 1) (P := fun a b => (rmB a == true) && (gB b == false) && (iB b == false) && (gB a == true) && (mB b == true)) (v := fun a b => true) (by kernel_rfl) A B (by simp [p0, p1, p2, p3, p4])]
      exact opd_mov_m (by have := t_rm A; rw [p0] at this; exact this) (by have := t_reg B; rw [p1] at this; exact this) (by have := t_imm B; rw [p2] at this; exact this) (by have := t_reg A; rw [p3] at this; exact this) (by have := t_mem B; rw [p4] at this; exact this)
   ·rw [way (op := 1) (P := fun a b => (rmB a == true) && (gB b == false) && (iB b == true)) (v := fun a b => true) (by kernel_rfl) A B (by simp [p0, p1, p2])]
    exact opd_mov_i (by have := t_rm A; rw [p0] at this; exact this) (by have := t_reg B; rw [p1] at this; exact this) (by have := t_imm B; rw [p2] at this; exact this)
  ·rw [way (op := 1) (P := fun a b => (rmB a == true) && (gB b == true)) (v := fun a b => true) (by kernel_rfl) A B (by simp [p0, p1])]
   exact opd_mov_r (by have := t_rm A; rw [p0] at this; exact this) (by have := t_reg B; rw [p1] at this; exact this)
theorem opg_2 : OpdB 2 A B (takesB (rowN 2) (cA A) (cA B)) := by
 cases p0 : rmB (cA A)
 ·rw [way (op := 2) (P := fun a b => (rmB a == false)) (v := fun a b => false) (by kernel_rfl) A B (by simp [p0])]
  exact opd_movb_x (by have := t_rm A; rw [p0] at this; exact this)
 ·cases p1 : gB (cA B)
  ·cases p2 : yB (cA B)
   ·cases p3 : gB (cA A)
    ·rw [way (op := 2) (P := fun a b => (rmB a == true) && (gB b == false) && (yB b == false) && (gB a == false)) (v := fun a b => false) (by kernel_rfl) A B (by simp [p0, p1, p2, p3])]
     exact opd_movb_y (by have := t_rm A; rw [p0] at this; exact this) (by have := t_reg B; rw [p1] at this; exact this) (by have := t_byte B; rw [p2] at this; exact this) (by have := t_reg A; rw [p3] at this; exact this)
    ·cases p4 : mB (cA B)
     ·rw [way (op := 2) (P := fun a b => (rmB a == true) && (gB b == false) && (yB b == false) && (gB a == true) && (mB b == false)) (v := fun a b => false) (by kernel_rfl) A B (by simp [p0, p1, p2, p3, p4])]
      exact opd_movb_w (by have := t_rm A; rw [p0] at this; exact this) (by have := t_reg B; rw [p1] at this; exact this) (by have := t_byte B; rw [p2] at this; exact this) (by have := t_reg A; rw [p3] at this; exact this) (by have := t_mem B; rw [p4] at this; exact this)
     ·rw [way (op := 2) (P := fun a b => (rmB a == true) && (gB b == false) && (yB b == false) && (gB a == true) && (mB b == true)) (v := fun a b => true) (by kernel_rfl) A B (by simp [p0, p1, p2, p3, p4])]
      exact opd_movb_m (by have := t_rm A; rw [p0] at this; exact this) (by have := t_reg B; rw [p1] at this; exact this) (by have := t_byte B; rw [p2] at this; exact this) (by have := t_reg A; rw [p3] at this; exact this) (by have := t_mem B; rw [p4] at this; exact this)
   ·rw [way (op := 2) (P := fun a b => (rmB a == true) && (gB b == false) && (yB b == true)) (v := fun a b => true) (by kernel_rfl) A B (by simp [p0, p1, p2])]
    exact opd_movb_i (by have := t_rm A; rw [p0] at this; exact this) (by have := t_reg B; rw [p1] at this; exact this) (by have := t_byte B; rw [p2] at this; exact this)
  ·rw [way (op := 2) (P := fun a b => (rmB a == true) && (gB b == true)) (v := fun a b => true) (by kernel_rfl) A B (by simp [p0, p1])]
   exact opd_movb_r (by have := t_rm A; rw [p0] at this; exact this) (by have := t_reg B; rw [p1] at this; exact this)
theorem opg_11 : OpdB 11 A B (takesB (rowN 11) (cA A) (cA B)) := by
 cases p0 : rmB (cA A)
 ·rw [way (op := 11) (P := fun a b => (rmB a == false)) (v := fun a b => false) (by kernel_rfl) A B (by simp [p0])]
  exact opd_test_x (by have := t_rm A; rw [p0] at this; exact this)
 ·cases p1 : gB (cA B)
  ·cases p2 : iB (cA B)
   ·rw [way (op := 11) (P := fun a b => (rmB a == true) && (gB b == false) && (iB b == false)) (v := fun a b => false) (by kernel_rfl) A B (by simp [p0, p1, p2])]
    exact opd_test_y (by have := t_rm A; rw [p0] at this; exact this) (by have := t_reg B; rw [p1] at this; exact this) (by have := t_imm B; rw [p2] at this; exact this)
   ·rw [way (op := 11) (P := fun a b => (rmB a == true) && (gB b == false) && (iB b == true)) (v := fun a b => true) (by kernel_rfl) A B (by simp [p0, p1, p2])]
    exact opd_test_i (by have := t_rm A; rw [p0] at this; exact this) (by have := t_reg B; rw [p1] at this; exact this) (by have := t_imm B; rw [p2] at this; exact this)
  ·rw [way (op := 11) (P := fun a b => (rmB a == true) && (gB b == true)) (v := fun a b => true) (by kernel_rfl) A B (by simp [p0, p1])]
   exact opd_test_r (by have := t_rm A; rw [p0] at this; exact this) (by have := t_reg B; rw [p1] at this; exact this)
theorem opg_12 : OpdB 12 A B (takesB (rowN 12) (cA A) (cA B)) := by
 cases p0 : rmB (cA A)
 ·rw [way (op := 12) (P := fun a b => (rmB a == false)) (v := fun a b => false) (by kernel_rfl) A B (by simp [p0])]
  exact opd_one12_x (by have := t_rm A; rw [p0] at this; exact this)
 ·cases p1 : nB (cA B)
  ·rw [way (op := 12) (P := fun a b => (rmB a == true) && (nB b == false)) (v := fun a b => false) (by kernel_rfl) A B (by simp [p0, p1])]
   exact opd_one12_y (by have := t_rm A; rw [p0] at this; exact this) (by have := t_none B; rw [p1] at this; exact this)
  ·rw [way (op := 12) (P := fun a b => (rmB a == true) && (nB b == true)) (v := fun a b => true) (by kernel_rfl) A B (by simp [p0, p1])]
   exact opd_one12 (by have := t_rm A; rw [p0] at this; exact this) (by have := t_none B; rw [p1] at this; exact this)
theorem opg_13 : OpdB 13 A B (takesB (rowN 13) (cA A) (cA B)) := by
 cases p0 : rmB (cA A)
 ·rw [way (op := 13) (P := fun a b => (rmB a == false)) (v := fun a b => false) (by kernel_rfl) A B (by simp [p0])]
  exact opd_one13_x (by have := t_rm A; rw [p0] at this; exact this)
 ·cases p1 : nB (cA B)
  ·rw [way (op := 13) (P := fun a b => (rmB a == true) && (nB b == false)) (v := fun a b => false) (by kernel_rfl) A B (by simp [p0, p1])]
   exact opd_one13_y (by have := t_rm A; rw [p0] at this; exact this) (by have := t_none B; rw [p1] at this; exact this)
  ·rw [way (op := 13) (P := fun a b => (rmB a == true) && (nB b == true)) (v := fun a b => true) (by kernel_rfl) A B (by simp [p0, p1])]
   exact opd_one13 (by have := t_rm A; rw [p0] at this; exact this) (by have := t_none B; rw [p1] at this; exact this)
theorem opg_14 : OpdB 14 A B (takesB (rowN 14) (cA A) (cA B)) := by
 cases p0 : rmB (cA A)
 ·rw [way (op := 14) (P := fun a b => (rmB a == false)) (v := fun a b => false) (by kernel_rfl) A B (by simp [p0])]
  exact opd_one14_x (by have := t_rm A; rw [p0] at this; exact this)
 ·cases p1 : nB (cA B)
  ·rw [way (op := 14) (P := fun a b => (rmB a == true) && (nB b == false)) (v := fun a b => false) (by kernel_rfl) A B (by simp [p0, p1])]
   exact opd_one14_y (by have := t_rm A; rw [p0] at this; exact this) (by have := t_none B; rw [p1] at this; exact this)
  ·rw [way (op := 14) (P := fun a b => (rmB a == true) && (nB b == true)) (v := fun a b => true) (by kernel_rfl) A B (by simp [p0, p1])]
   exact opd_one14 (by have := t_rm A; rw [p0] at this; exact this) (by have := t_none B; rw [p1] at this; exact this)
theorem opg_15 : OpdB 15 A B (takesB (rowN 15) (cA A) (cA B)) := by
 cases p0 : rmB (cA A)
 ·rw [way (op := 15) (P := fun a b => (rmB a == false)) (v := fun a b => false) (by kernel_rfl) A B (by simp [p0])]
  exact opd_one15_x (by have := t_rm A; rw [p0] at this; exact this)
 ·cases p1 : nB (cA B)
  ·rw [way (op := 15) (P := fun a b => (rmB a == true) && (nB b == false)) (v := fun a b => false) (by kernel_rfl) A B (by simp [p0, p1])]
   exact opd_one15_y (by have := t_rm A; rw [p0] at this; exact this) (by have := t_none B; rw [p1] at this; exact this)
  ·rw [way (op := 15) (P := fun a b => (rmB a == true) && (nB b == true)) (v := fun a b => true) (by kernel_rfl) A B (by simp [p0, p1])]
   exact opd_one15 (by have := t_rm A; rw [p0] at this; exact this) (by have := t_none B; rw [p1] at this; exact this)
theorem opg_16 : OpdB 16 A B (takesB (rowN 16) (cA A) (cA B)) := by
 cases p0 : rmB (cA A)
 ·rw [way (op := 16) (P := fun a b => (rmB a == false)) (v := fun a b => false) (by kernel_rfl) A B (by simp [p0])]
  exact opd_one16_x (by have := t_rm A; rw [p0] at this; exact this)
 ·cases p1 : nB (cA B)
  ·rw [way (op := 16) (P := fun a b => (rmB a == true) && (nB b == false)) (v := fun a b => false) (by kernel_rfl) A B (by simp [p0, p1])]
   exact opd_one16_y (by have := t_rm A; rw [p0] at this; exact this) (by have := t_none B; rw [p1] at this; exact this)
  ·rw [way (op := 16) (P := fun a b => (rmB a == true) && (nB b == true)) (v := fun a b => true) (by kernel_rfl) A B (by simp [p0, p1])]
   exact opd_one16 (by have := t_rm A; rw [p0] at this; exact this) (by have := t_none B; rw [p1] at this; exact this)
theorem opg_17 : OpdB 17 A B (takesB (rowN 17) (cA A) (cA B)) := by
 cases p0 : rmB (cA A)
 ·rw [way (op := 17) (P := fun a b => (rmB a == false)) (v := fun a b => false) (by kernel_rfl) A B (by simp [p0])]
  exact opd_one17_x (by have := t_rm A; rw [p0] at this; exact this)
 ·cases p1 : nB (cA B)
  ·rw [way (op := 17) (P := fun a b => (rmB a == true) && (nB b == false)) (v := fun a b => false) (by kernel_rfl) A B (by simp [p0, p1])]
   exact opd_one17_y (by have := t_rm A; rw [p0] at this; exact this) (by have := t_none B; rw [p1] at this; exact this)
  ·rw [way (op := 17) (P := fun a b => (rmB a == true) && (nB b == true)) (v := fun a b => true) (by kernel_rfl) A B (by simp [p0, p1])]
   exact opd_one17 (by have := t_rm A; rw [p0] at this; exact this) (by have := t_none B; rw [p1] at this; exact this)
theorem opg_18 : OpdB 18 A B (takesB (rowN 18) (cA A) (cA B)) := by
 cases p0 : gB (cA A)
 ·rw [way (op := 18) (P := fun a b => (gB a == false)) (v := fun a b => false) (by kernel_rfl) A B (by simp [p0])]
  exact opd_two18_x (by have := t_reg A; rw [p0] at this; exact this)
 ·cases p1 : rmB (cA B)
  ·rw [way (op := 18) (P := fun a b => (gB a == true) && (rmB b == false)) (v := fun a b => false) (by kernel_rfl) A B (by simp [p0, p1])]
   exact opd_two18_y (by have := t_reg A; rw [p0] at this; exact this) (by have := t_rm B; rw [p1] at this; exact this)
  ·rw [way (op := 18) (P := fun a b => (gB a == true) && (rmB b == true)) (v := fun a b => true) (by kernel_rfl) A B (by simp [p0, p1])]
   exact opd_two18 (by have := t_reg A; rw [p0] at this; exact this) (by have := t_rm B; rw [p1] at this; exact this)
theorem opg_19 : OpdB 19 A B (takesB (rowN 19) (cA A) (cA B)) := by
 cases p0 : rmB (cA A)
 ·rw [way (op := 19) (P := fun a b => (rmB a == false)) (v := fun a b => false) (by kernel_rfl) A B (by simp [p0])]
  exact opd_one19_x (by have := t_rm A; rw [p0] at this; exact this)
 ·cases p1 : nB (cA B)
  ·rw [way (op := 19) (P := fun a b => (rmB a == true) && (nB b == false)) (v := fun a b => false) (by kernel_rfl) A B (by simp [p0, p1])]
   exact opd_one19_y (by have := t_rm A; rw [p0] at this; exact this) (by have := t_none B; rw [p1] at this; exact this)
  ·rw [way (op := 19) (P := fun a b => (rmB a == true) && (nB b == true)) (v := fun a b => true) (by kernel_rfl) A B (by simp [p0, p1])]
   exact opd_one19 (by have := t_rm A; rw [p0] at this; exact this) (by have := t_none B; rw [p1] at this; exact this)
theorem opg_20 : OpdB 20 A B (takesB (rowN 20) (cA A) (cA B)) := by
 cases p0 : rmB (cA A)
 ·rw [way (op := 20) (P := fun a b => (rmB a == false)) (v := fun a b => false) (by kernel_rfl) A B (by simp [p0])]
  exact opd_one20_x (by have := t_rm A; rw [p0] at this; exact this)
 ·cases p1 : nB (cA B)
  ·rw [way (op := 20) (P := fun a b => (rmB a == true) && (nB b == false)) (v := fun a b => false) (by kernel_rfl) A B (by simp [p0, p1])]
   exact opd_one20_y (by have := t_rm A; rw [p0] at this; exact this) (by have := t_none B; rw [p1] at this; exact this)
  ·rw [way (op := 20) (P := fun a b => (rmB a == true) && (nB b == true)) (v := fun a b => true) (by kernel_rfl) A B (by simp [p0, p1])]
   exact opd_one20 (by have := t_rm A; rw [p0] at this; exact this) (by have := t_none B; rw [p1] at this; exact this)
theorem opg_21 : OpdB 21 A B (takesB (rowN 21) (cA A) (cA B)) := by
 cases p0 : rmB (cA A)
 ·rw [way (op := 21) (P := fun a b => (rmB a == false)) (v := fun a b => false) (by kernel_rfl) A B (by simp [p0])]
  exact opd_sh21_x (by have := t_rm A; rw [p0] at this; exact this)
 ·cases p1 : yB (cA B)
  ·cases p2 : gB (cA B)
   ·rw [way (op := 21) (P := fun a b => (rmB a == true) && (yB b == false) && (gB b == false)) (v := fun a b => false) (by kernel_rfl) A B (by simp [p0, p1, p2])]
    exact opd_sh21_y (by have := t_rm A; rw [p0] at this; exact this) (by have := t_byte B; rw [p1] at this; exact this) (by have := t_reg B; rw [p2] at this; exact this)
   ·rw [way (op := 21) (P := fun a b => (rmB a == true) && (yB b == false) && (gB b == true)) (v := fun a b => (b == 6)) (by kernel_rfl) A B (by simp [p0, p1, p2])]
    exact opd_sh21_r (reg6 p2) (by have := t_rm A; rw [p0] at this; exact this) (by have := t_byte B; rw [p1] at this; exact this) (by have := t_reg B; rw [p2] at this; exact this)
  ·rw [way (op := 21) (P := fun a b => (rmB a == true) && (yB b == true)) (v := fun a b => true) (by kernel_rfl) A B (by simp [p0, p1])]
   exact opd_sh21_i (by have := t_rm A; rw [p0] at this; exact this) (by have := t_byte B; rw [p1] at this; exact this)
theorem opg_22 : OpdB 22 A B (takesB (rowN 22) (cA A) (cA B)) := by
 cases p0 : rmB (cA A)
 ·rw [way (op := 22) (P := fun a b => (rmB a == false)) (v := fun a b => false) (by kernel_rfl) A B (by simp [p0])]
  exact opd_sh22_x (by have := t_rm A; rw [p0] at this; exact this)
 ·cases p1 : yB (cA B)
  ·cases p2 : gB (cA B)
   ·rw [way (op := 22) (P := fun a b => (rmB a == true) && (yB b == false) && (gB b == false)) (v := fun a b => false) (by kernel_rfl) A B (by simp [p0, p1, p2])]
    exact opd_sh22_y (by have := t_rm A; rw [p0] at this; exact this) (by have := t_byte B; rw [p1] at this; exact this) (by have := t_reg B; rw [p2] at this; exact this)
   ·rw [way (op := 22) (P := fun a b => (rmB a == true) && (yB b == false) && (gB b == true)) (v := fun a b => (b == 6)) (by kernel_rfl) A B (by simp [p0, p1, p2])]
    exact opd_sh22_r (reg6 p2) (by have := t_rm A; rw [p0] at this; exact this) (by have := t_byte B; rw [p1] at this; exact this) (by have := t_reg B; rw [p2] at this; exact this)
  ·rw [way (op := 22) (P := fun a b => (rmB a == true) && (yB b == true)) (v := fun a b => true) (by kernel_rfl) A B (by simp [p0, p1])]
   exact opd_sh22_i (by have := t_rm A; rw [p0] at this; exact this) (by have := t_byte B; rw [p1] at this; exact this)
theorem opg_23 : OpdB 23 A B (takesB (rowN 23) (cA A) (cA B)) := by
 cases p0 : rmB (cA A)
 ·rw [way (op := 23) (P := fun a b => (rmB a == false)) (v := fun a b => false) (by kernel_rfl) A B (by simp [p0])]
  exact opd_sh23_x (by have := t_rm A; rw [p0] at this; exact this)
 ·cases p1 : yB (cA B)
  ·cases p2 : gB (cA B)
   ·rw [way (op := 23) (P := fun a b => (rmB a == true) && (yB b == false) && (gB b == false)) (v := fun a b => false) (by kernel_rfl) A B (by simp [p0, p1, p2])]
    exact opd_sh23_y (by have := t_rm A; rw [p0] at this; exact this) (by have := t_byte B; rw [p1] at this; exact this) (by have := t_reg B; rw [p2] at this; exact this)
   ·rw [way (op := 23) (P := fun a b => (rmB a == true) && (yB b == false) && (gB b == true)) (v := fun a b => (b == 6)) (by kernel_rfl) A B (by simp [p0, p1, p2])]
    exact opd_sh23_r (reg6 p2) (by have := t_rm A; rw [p0] at this; exact this) (by have := t_byte B; rw [p1] at this; exact this) (by have := t_reg B; rw [p2] at this; exact this)
  ·rw [way (op := 23) (P := fun a b => (rmB a == true) && (yB b == true)) (v := fun a b => true) (by kernel_rfl) A B (by simp [p0, p1])]
   exact opd_sh23_i (by have := t_rm A; rw [p0] at this; exact this) (by have := t_byte B; rw [p1] at this; exact this)
theorem opg_24 : OpdB 24 A B (takesB (rowN 24) (cA A) (cA B)) := by
 cases p0 : rmB (cA A)
 ·rw [way (op := 24) (P := fun a b => (rmB a == false)) (v := fun a b => false) (by kernel_rfl) A B (by simp [p0])]
  exact opd_sh24_x (by have := t_rm A; rw [p0] at this; exact this)
 ·cases p1 : yB (cA B)
  ·cases p2 : gB (cA B)
   ·rw [way (op := 24) (P := fun a b => (rmB a == true) && (yB b == false) && (gB b == false)) (v := fun a b => false) (by kernel_rfl) A B (by simp [p0, p1, p2])]
    exact opd_sh24_y (by have := t_rm A; rw [p0] at this; exact this) (by have := t_byte B; rw [p1] at this; exact this) (by have := t_reg B; rw [p2] at this; exact this)
   ·rw [way (op := 24) (P := fun a b => (rmB a == true) && (yB b == false) && (gB b == true)) (v := fun a b => (b == 6)) (by kernel_rfl) A B (by simp [p0, p1, p2])]
    exact opd_sh24_r (reg6 p2) (by have := t_rm A; rw [p0] at this; exact this) (by have := t_byte B; rw [p1] at this; exact this) (by have := t_reg B; rw [p2] at this; exact this)
  ·rw [way (op := 24) (P := fun a b => (rmB a == true) && (yB b == true)) (v := fun a b => true) (by kernel_rfl) A B (by simp [p0, p1])]
   exact opd_sh24_i (by have := t_rm A; rw [p0] at this; exact this) (by have := t_byte B; rw [p1] at this; exact this)
theorem opg_25 : OpdB 25 A B (takesB (rowN 25) (cA A) (cA B)) := by
 cases p0 : rmB (cA A)
 ·rw [way (op := 25) (P := fun a b => (rmB a == false)) (v := fun a b => false) (by kernel_rfl) A B (by simp [p0])]
  exact opd_sh25_x (by have := t_rm A; rw [p0] at this; exact this)
 ·cases p1 : yB (cA B)
  ·cases p2 : gB (cA B)
   ·rw [way (op := 25) (P := fun a b => (rmB a == true) && (yB b == false) && (gB b == false)) (v := fun a b => false) (by kernel_rfl) A B (by simp [p0, p1, p2])]
    exact opd_sh25_y (by have := t_rm A; rw [p0] at this; exact this) (by have := t_byte B; rw [p1] at this; exact this) (by have := t_reg B; rw [p2] at this; exact this)
   ·rw [way (op := 25) (P := fun a b => (rmB a == true) && (yB b == false) && (gB b == true)) (v := fun a b => (b == 6)) (by kernel_rfl) A B (by simp [p0, p1, p2])]
    exact opd_sh25_r (reg6 p2) (by have := t_rm A; rw [p0] at this; exact this) (by have := t_byte B; rw [p1] at this; exact this) (by have := t_reg B; rw [p2] at this; exact this)
  ·rw [way (op := 25) (P := fun a b => (rmB a == true) && (yB b == true)) (v := fun a b => true) (by kernel_rfl) A B (by simp [p0, p1])]
   exact opd_sh25_i (by have := t_rm A; rw [p0] at this; exact this) (by have := t_byte B; rw [p1] at this; exact this)
theorem opg_26 : OpdB 26 A B (takesB (rowN 26) (cA A) (cA B)) := by
 cases p0 : gB (cA A)
 ·rw [way (op := 26) (P := fun a b => (gB a == false)) (v := fun a b => false) (by kernel_rfl) A B (by simp [p0])]
  exact opd_lea_x (by have := t_reg A; rw [p0] at this; exact this)
 ·cases p1 : mB (cA B)
  ·rw [way (op := 26) (P := fun a b => (gB a == true) && (mB b == false)) (v := fun a b => false) (by kernel_rfl) A B (by simp [p0, p1])]
   exact opd_lea_y (by have := t_reg A; rw [p0] at this; exact this) (by have := t_mem B; rw [p1] at this; exact this)
  ·rw [way (op := 26) (P := fun a b => (gB a == true) && (mB b == true)) (v := fun a b => true) (by kernel_rfl) A B (by simp [p0, p1])]
   exact opd_lea (by have := t_reg A; rw [p0] at this; exact this) (by have := t_mem B; rw [p1] at this; exact this)
theorem opg_27 : OpdB 27 A B (takesB (rowN 27) (cA A) (cA B)) := by
 cases p0 : rmB (cA A)
 ·rw [way (op := 27) (P := fun a b => (rmB a == false)) (v := fun a b => false) (by kernel_rfl) A B (by simp [p0])]
  exact opd_xchg_x (by have := t_rm A; rw [p0] at this; exact this)
 ·cases p1 : gB (cA B)
  ·rw [way (op := 27) (P := fun a b => (rmB a == true) && (gB b == false)) (v := fun a b => false) (by kernel_rfl) A B (by simp [p0, p1])]
   exact opd_xchg_y (by have := t_rm A; rw [p0] at this; exact this) (by have := t_reg B; rw [p1] at this; exact this)
  ·rw [way (op := 27) (P := fun a b => (rmB a == true) && (gB b == true)) (v := fun a b => true) (by kernel_rfl) A B (by simp [p0, p1])]
   exact opd_xchg (by have := t_rm A; rw [p0] at this; exact this) (by have := t_reg B; rw [p1] at this; exact this)
theorem opg_28 : OpdB 28 A B (takesB (rowN 28) (cA A) (cA B)) := by
 cases p0 : rmB (cA A)
 ·cases p1 : iB (cA A)
  ·rw [way (op := 28) (P := fun a b => (rmB a == false) && (iB a == false)) (v := fun a b => false) (by kernel_rfl) A B (by simp [p0, p1])]
   exact opd_imm28_x (by have := t_rm A; rw [p0] at this; exact this) (by have := t_imm A; rw [p1] at this; exact this)
  ·cases p2 : nB (cA B)
   ·rw [way (op := 28) (P := fun a b => (rmB a == false) && (iB a == true) && (nB b == false)) (v := fun a b => false) (by kernel_rfl) A B (by simp [p0, p1, p2])]
    exact opd_imm28_w (by have := t_rm A; rw [p0] at this; exact this) (by have := t_imm A; rw [p1] at this; exact this) (by have := t_none B; rw [p2] at this; exact this)
   ·rw [way (op := 28) (P := fun a b => (rmB a == false) && (iB a == true) && (nB b == true)) (v := fun a b => true) (by kernel_rfl) A B (by simp [p0, p1, p2])]
    exact opd_imm28 (by have := t_rm A; rw [p0] at this; exact this) (by have := t_imm A; rw [p1] at this; exact this) (by have := t_none B; rw [p2] at this; exact this)
 ·cases p1 : nB (cA B)
  ·rw [way (op := 28) (P := fun a b => (rmB a == true) && (nB b == false)) (v := fun a b => false) (by kernel_rfl) A B (by simp [p0, p1])]
   exact opd_imm28_y (by have := t_rm A; rw [p0] at this; exact this) (by have := t_none B; rw [p1] at this; exact this)
  ·rw [way (op := 28) (P := fun a b => (rmB a == true) && (nB b == true)) (v := fun a b => true) (by kernel_rfl) A B (by simp [p0, p1])]
   exact opd_one28 (by have := t_rm A; rw [p0] at this; exact this) (by have := t_none B; rw [p1] at this; exact this)
theorem opg_29 : OpdB 29 A B (takesB (rowN 29) (cA A) (cA B)) := by
 cases p0 : gB (cA A)
 ·rw [way (op := 29) (P := fun a b => (gB a == false)) (v := fun a b => false) (by kernel_rfl) A B (by simp [p0])]
  exact opd_pop_x (by have := t_reg A; rw [p0] at this; exact this)
 ·cases p1 : nB (cA B)
  ·rw [way (op := 29) (P := fun a b => (gB a == true) && (nB b == false)) (v := fun a b => false) (by kernel_rfl) A B (by simp [p0, p1])]
   exact opd_pop_y (by have := t_reg A; rw [p0] at this; exact this) (by have := t_none B; rw [p1] at this; exact this)
  ·rw [way (op := 29) (P := fun a b => (gB a == true) && (nB b == true)) (v := fun a b => true) (by kernel_rfl) A B (by simp [p0, p1])]
   exact opd_pop (by have := t_reg A; rw [p0] at this; exact this) (by have := t_none B; rw [p1] at this; exact this)
theorem opg_30 : OpdB 30 A B (takesB (rowN 30) (cA A) (cA B)) := by
 cases p0 : rmB (cA A)
 ·cases p1 : iB (cA A)
  ·rw [way (op := 30) (P := fun a b => (rmB a == false) && (iB a == false)) (v := fun a b => false) (by kernel_rfl) A B (by simp [p0, p1])]
   exact opd_imm30_x (by have := t_rm A; rw [p0] at this; exact this) (by have := t_imm A; rw [p1] at this; exact this)
  ·cases p2 : nB (cA B)
   ·rw [way (op := 30) (P := fun a b => (rmB a == false) && (iB a == true) && (nB b == false)) (v := fun a b => false) (by kernel_rfl) A B (by simp [p0, p1, p2])]
    exact opd_imm30_w (by have := t_rm A; rw [p0] at this; exact this) (by have := t_imm A; rw [p1] at this; exact this) (by have := t_none B; rw [p2] at this; exact this)
   ·rw [way (op := 30) (P := fun a b => (rmB a == false) && (iB a == true) && (nB b == true)) (v := fun a b => true) (by kernel_rfl) A B (by simp [p0, p1, p2])]
    exact opd_imm30 (by have := t_rm A; rw [p0] at this; exact this) (by have := t_imm A; rw [p1] at this; exact this) (by have := t_none B; rw [p2] at this; exact this)
 ·cases p1 : nB (cA B)
  ·rw [way (op := 30) (P := fun a b => (rmB a == true) && (nB b == false)) (v := fun a b => false) (by kernel_rfl) A B (by simp [p0, p1])]
   exact opd_imm30_y (by have := t_rm A; rw [p0] at this; exact this) (by have := t_none B; rw [p1] at this; exact this)
  ·rw [way (op := 30) (P := fun a b => (rmB a == true) && (nB b == true)) (v := fun a b => true) (by kernel_rfl) A B (by simp [p0, p1])]
   exact opd_one30 (by have := t_rm A; rw [p0] at this; exact this) (by have := t_none B; rw [p1] at this; exact this)
theorem opg_31 : OpdB 31 A B (takesB (rowN 31) (cA A) (cA B)) := by
 cases p0 : nB (cA A)
 ·rw [way (op := 31) (P := fun a b => (nB a == false)) (v := fun a b => false) (by kernel_rfl) A B (by simp [p0])]
  exact opd_z31_x (by have := t_none A; rw [p0] at this; exact this)
 ·cases p1 : nB (cA B)
  ·rw [way (op := 31) (P := fun a b => (nB a == true) && (nB b == false)) (v := fun a b => false) (by kernel_rfl) A B (by simp [p0, p1])]
   exact opd_z31_y (by have := t_none A; rw [p0] at this; exact this) (by have := t_none B; rw [p1] at this; exact this)
  ·rw [way (op := 31) (P := fun a b => (nB a == true) && (nB b == true)) (v := fun a b => true) (by kernel_rfl) A B (by simp [p0, p1])]
   exact opd_z31 (by have := t_none A; rw [p0] at this; exact this) (by have := t_none B; rw [p1] at this; exact this)
theorem opg_32 : OpdB 32 A B (takesB (rowN 32) (cA A) (cA B)) := by
 cases p0 : rmB (cA A)
 ·cases p1 : iB (cA A)
  ·rw [way (op := 32) (P := fun a b => (rmB a == false) && (iB a == false)) (v := fun a b => false) (by kernel_rfl) A B (by simp [p0, p1])]
   exact opd_imm32_x (by have := t_rm A; rw [p0] at this; exact this) (by have := t_imm A; rw [p1] at this; exact this)
  ·cases p2 : nB (cA B)
   ·rw [way (op := 32) (P := fun a b => (rmB a == false) && (iB a == true) && (nB b == false)) (v := fun a b => false) (by kernel_rfl) A B (by simp [p0, p1, p2])]
    exact opd_imm32_w (by have := t_rm A; rw [p0] at this; exact this) (by have := t_imm A; rw [p1] at this; exact this) (by have := t_none B; rw [p2] at this; exact this)
   ·rw [way (op := 32) (P := fun a b => (rmB a == false) && (iB a == true) && (nB b == true)) (v := fun a b => true) (by kernel_rfl) A B (by simp [p0, p1, p2])]
    exact opd_imm32 (by have := t_rm A; rw [p0] at this; exact this) (by have := t_imm A; rw [p1] at this; exact this) (by have := t_none B; rw [p2] at this; exact this)
 ·cases p1 : nB (cA B)
  ·rw [way (op := 32) (P := fun a b => (rmB a == true) && (nB b == false)) (v := fun a b => false) (by kernel_rfl) A B (by simp [p0, p1])]
   exact opd_imm32_y (by have := t_rm A; rw [p0] at this; exact this) (by have := t_none B; rw [p1] at this; exact this)
  ·rw [way (op := 32) (P := fun a b => (rmB a == true) && (nB b == true)) (v := fun a b => true) (by kernel_rfl) A B (by simp [p0, p1])]
   exact opd_one32 (by have := t_rm A; rw [p0] at this; exact this) (by have := t_none B; rw [p1] at this; exact this)
theorem opg_33 : OpdB 33 A B (takesB (rowN 33) (cA A) (cA B)) := by
 cases p0 : iB (cA A)
 ·rw [way (op := 33) (P := fun a b => (iB a == false)) (v := fun a b => false) (by kernel_rfl) A B (by simp [p0])]
  exact opd_jcc_x (by have := t_imm A; rw [p0] at this; exact this)
 ·cases p1 : nB (cA B)
  ·rw [way (op := 33) (P := fun a b => (iB a == true) && (nB b == false)) (v := fun a b => false) (by kernel_rfl) A B (by simp [p0, p1])]
   exact opd_jcc_y (by have := t_imm A; rw [p0] at this; exact this) (by have := t_none B; rw [p1] at this; exact this)
  ·rw [way (op := 33) (P := fun a b => (iB a == true) && (nB b == true)) (v := fun a b => true) (by kernel_rfl) A B (by simp [p0, p1])]
   exact opd_jcc (by have := t_imm A; rw [p0] at this; exact this) (by have := t_none B; rw [p1] at this; exact this)
theorem opg_34 : OpdB 34 A B (takesB (rowN 34) (cA A) (cA B)) := by
 cases p0 : rmB (cA A)
 ·rw [way (op := 34) (P := fun a b => (rmB a == false)) (v := fun a b => false) (by kernel_rfl) A B (by simp [p0])]
  exact opd_one34_x (by have := t_rm A; rw [p0] at this; exact this)
 ·cases p1 : nB (cA B)
  ·rw [way (op := 34) (P := fun a b => (rmB a == true) && (nB b == false)) (v := fun a b => false) (by kernel_rfl) A B (by simp [p0, p1])]
   exact opd_one34_y (by have := t_rm A; rw [p0] at this; exact this) (by have := t_none B; rw [p1] at this; exact this)
  ·rw [way (op := 34) (P := fun a b => (rmB a == true) && (nB b == true)) (v := fun a b => true) (by kernel_rfl) A B (by simp [p0, p1])]
   exact opd_one34 (by have := t_rm A; rw [p0] at this; exact this) (by have := t_none B; rw [p1] at this; exact this)
theorem opg_35 : OpdB 35 A B (takesB (rowN 35) (cA A) (cA B)) := by
 cases p0 : gB (cA A)
 ·rw [way (op := 35) (P := fun a b => (gB a == false)) (v := fun a b => false) (by kernel_rfl) A B (by simp [p0])]
  exact opd_two35_x (by have := t_reg A; rw [p0] at this; exact this)
 ·cases p1 : rmB (cA B)
  ·rw [way (op := 35) (P := fun a b => (gB a == true) && (rmB b == false)) (v := fun a b => false) (by kernel_rfl) A B (by simp [p0, p1])]
   exact opd_two35_y (by have := t_reg A; rw [p0] at this; exact this) (by have := t_rm B; rw [p1] at this; exact this)
  ·rw [way (op := 35) (P := fun a b => (gB a == true) && (rmB b == true)) (v := fun a b => true) (by kernel_rfl) A B (by simp [p0, p1])]
   exact opd_two35 (by have := t_reg A; rw [p0] at this; exact this) (by have := t_rm B; rw [p1] at this; exact this)
theorem opg_36 : OpdB 36 A B (takesB (rowN 36) (cA A) (cA B)) := by
 cases p0 : gB (cA A)
 ·rw [way (op := 36) (P := fun a b => (gB a == false)) (v := fun a b => false) (by kernel_rfl) A B (by simp [p0])]
  exact opd_two36_x (by have := t_reg A; rw [p0] at this; exact this)
 ·cases p1 : rmB (cA B)
  ·rw [way (op := 36) (P := fun a b => (gB a == true) && (rmB b == false)) (v := fun a b => false) (by kernel_rfl) A B (by simp [p0, p1])]
   exact opd_two36_y (by have := t_reg A; rw [p0] at this; exact this) (by have := t_rm B; rw [p1] at this; exact this)
  ·rw [way (op := 36) (P := fun a b => (gB a == true) && (rmB b == true)) (v := fun a b => true) (by kernel_rfl) A B (by simp [p0, p1])]
   exact opd_two36 (by have := t_reg A; rw [p0] at this; exact this) (by have := t_rm B; rw [p1] at this; exact this)
theorem opg_37 : OpdB 37 A B (takesB (rowN 37) (cA A) (cA B)) := by
 cases p0 : gB (cA A)
 ·rw [way (op := 37) (P := fun a b => (gB a == false)) (v := fun a b => false) (by kernel_rfl) A B (by simp [p0])]
  exact opd_two37_x (by have := t_reg A; rw [p0] at this; exact this)
 ·cases p1 : rmB (cA B)
  ·rw [way (op := 37) (P := fun a b => (gB a == true) && (rmB b == false)) (v := fun a b => false) (by kernel_rfl) A B (by simp [p0, p1])]
   exact opd_two37_y (by have := t_reg A; rw [p0] at this; exact this) (by have := t_rm B; rw [p1] at this; exact this)
  ·rw [way (op := 37) (P := fun a b => (gB a == true) && (rmB b == true)) (v := fun a b => true) (by kernel_rfl) A B (by simp [p0, p1])]
   exact opd_two37 (by have := t_reg A; rw [p0] at this; exact this) (by have := t_rm B; rw [p1] at this; exact this)
theorem opg_38 : OpdB 38 A B (takesB (rowN 38) (cA A) (cA B)) := by
 cases p0 : nB (cA A)
 ·rw [way (op := 38) (P := fun a b => (nB a == false)) (v := fun a b => false) (by kernel_rfl) A B (by simp [p0])]
  exact opd_z38_x (by have := t_none A; rw [p0] at this; exact this)
 ·cases p1 : nB (cA B)
  ·rw [way (op := 38) (P := fun a b => (nB a == true) && (nB b == false)) (v := fun a b => false) (by kernel_rfl) A B (by simp [p0, p1])]
   exact opd_z38_y (by have := t_none A; rw [p0] at this; exact this) (by have := t_none B; rw [p1] at this; exact this)
  ·rw [way (op := 38) (P := fun a b => (nB a == true) && (nB b == true)) (v := fun a b => true) (by kernel_rfl) A B (by simp [p0, p1])]
   exact opd_z38 (by have := t_none A; rw [p0] at this; exact this) (by have := t_none B; rw [p1] at this; exact this)
theorem opg_39 : OpdB 39 A B (takesB (rowN 39) (cA A) (cA B)) := by
 cases p0 : nB (cA A)
 ·rw [way (op := 39) (P := fun a b => (nB a == false)) (v := fun a b => false) (by kernel_rfl) A B (by simp [p0])]
  exact opd_z39_x (by have := t_none A; rw [p0] at this; exact this)
 ·cases p1 : nB (cA B)
  ·rw [way (op := 39) (P := fun a b => (nB a == true) && (nB b == false)) (v := fun a b => false) (by kernel_rfl) A B (by simp [p0, p1])]
   exact opd_z39_y (by have := t_none A; rw [p0] at this; exact this) (by have := t_none B; rw [p1] at this; exact this)
  ·rw [way (op := 39) (P := fun a b => (nB a == true) && (nB b == true)) (v := fun a b => true) (by kernel_rfl) A B (by simp [p0, p1])]
   exact opd_z39 (by have := t_none A; rw [p0] at this; exact this) (by have := t_none B; rw [p1] at this; exact this)
theorem opg_40 : OpdB 40 A B (takesB (rowN 40) (cA A) (cA B)) := by
 cases p0 : nB (cA A)
 ·rw [way (op := 40) (P := fun a b => (nB a == false)) (v := fun a b => false) (by kernel_rfl) A B (by simp [p0])]
  exact opd_z40_x (by have := t_none A; rw [p0] at this; exact this)
 ·cases p1 : nB (cA B)
  ·rw [way (op := 40) (P := fun a b => (nB a == true) && (nB b == false)) (v := fun a b => false) (by kernel_rfl) A B (by simp [p0, p1])]
   exact opd_z40_y (by have := t_none A; rw [p0] at this; exact this) (by have := t_none B; rw [p1] at this; exact this)
  ·rw [way (op := 40) (P := fun a b => (nB a == true) && (nB b == true)) (v := fun a b => true) (by kernel_rfl) A B (by simp [p0, p1])]
   exact opd_z40 (by have := t_none A; rw [p0] at this; exact this) (by have := t_none B; rw [p1] at this; exact this)
theorem opg_41 : OpdB 41 A B (takesB (rowN 41) (cA A) (cA B)) := by
 cases p0 : nB (cA A)
 ·rw [way (op := 41) (P := fun a b => (nB a == false)) (v := fun a b => false) (by kernel_rfl) A B (by simp [p0])]
  exact opd_z41_x (by have := t_none A; rw [p0] at this; exact this)
 ·cases p1 : nB (cA B)
  ·rw [way (op := 41) (P := fun a b => (nB a == true) && (nB b == false)) (v := fun a b => false) (by kernel_rfl) A B (by simp [p0, p1])]
   exact opd_z41_y (by have := t_none A; rw [p0] at this; exact this) (by have := t_none B; rw [p1] at this; exact this)
  ·rw [way (op := 41) (P := fun a b => (nB a == true) && (nB b == true)) (v := fun a b => true) (by kernel_rfl) A B (by simp [p0, p1])]
   exact opd_z41 (by have := t_none A; rw [p0] at this; exact this) (by have := t_none B; rw [p1] at this; exact this)
theorem opg_42 : OpdB 42 A B (takesB (rowN 42) (cA A) (cA B)) := by
 cases p0 : nB (cA A)
 ·rw [way (op := 42) (P := fun a b => (nB a == false)) (v := fun a b => false) (by kernel_rfl) A B (by simp [p0])]
  exact opd_z42_x (by have := t_none A; rw [p0] at this; exact this)
 ·cases p1 : nB (cA B)
  ·rw [way (op := 42) (P := fun a b => (nB a == true) && (nB b == false)) (v := fun a b => false) (by kernel_rfl) A B (by simp [p0, p1])]
   exact opd_z42_y (by have := t_none A; rw [p0] at this; exact this) (by have := t_none B; rw [p1] at this; exact this)
  ·rw [way (op := 42) (P := fun a b => (nB a == true) && (nB b == true)) (v := fun a b => true) (by kernel_rfl) A B (by simp [p0, p1])]
   exact opd_z42 (by have := t_none A; rw [p0] at this; exact this) (by have := t_none B; rw [p1] at this; exact this)
theorem opg_43 : OpdB 43 A B (takesB (rowN 43) (cA A) (cA B)) := by
 cases p0 : iB (cA A)
 ·rw [way (op := 43) (P := fun a b => (iB a == false)) (v := fun a b => false) (by kernel_rfl) A B (by simp [p0])]
  exact opd_int_x (by have := t_imm A; rw [p0] at this; exact this)
 ·cases p1 : nB (cA B)
  ·rw [way (op := 43) (P := fun a b => (iB a == true) && (nB b == false)) (v := fun a b => false) (by kernel_rfl) A B (by simp [p0, p1])]
   exact opd_int_y rfl (by have := t_imm A; rw [p0] at this; exact this) (by have := t_none B; rw [p1] at this; exact this)
  ·rw [way (op := 43) (P := fun a b => (iB a == true) && (nB b == true)) (v := fun a b => (a == 112)) (by kernel_rfl) A B (by simp [p0, p1])]
   exact opd_int (imm112 p0) (by have := t_imm A; rw [p0] at this; exact this) (by have := t_none B; rw [p1] at this; exact this)
theorem opg_44 : OpdB 44 A B (takesB (rowN 44) (cA A) (cA B)) := by
 cases p0 : nB (cA A)
 ·rw [way (op := 44) (P := fun a b => (nB a == false)) (v := fun a b => false) (by kernel_rfl) A B (by simp [p0])]
  exact opd_z44_x (by have := t_none A; rw [p0] at this; exact this)
 ·cases p1 : nB (cA B)
  ·rw [way (op := 44) (P := fun a b => (nB a == true) && (nB b == false)) (v := fun a b => false) (by kernel_rfl) A B (by simp [p0, p1])]
   exact opd_z44_y (by have := t_none A; rw [p0] at this; exact this) (by have := t_none B; rw [p1] at this; exact this)
  ·rw [way (op := 44) (P := fun a b => (nB a == true) && (nB b == true)) (v := fun a b => true) (by kernel_rfl) A B (by simp [p0, p1])]
   exact opd_z44 (by have := t_none A; rw [p0] at this; exact this) (by have := t_none B; rw [p1] at this; exact this)
theorem opg_45 : OpdB 45 A B (takesB (rowN 45) (cA A) (cA B)) := by
 cases p0 : mB (cA A)
 ·rw [way (op := 45) (P := fun a b => (mB a == false)) (v := fun a b => false) (by kernel_rfl) A B (by simp [p0])]
  exact opd_mem45_x (by have := t_mem A; rw [p0] at this; exact this)
 ·cases p1 : nB (cA B)
  ·rw [way (op := 45) (P := fun a b => (mB a == true) && (nB b == false)) (v := fun a b => false) (by kernel_rfl) A B (by simp [p0, p1])]
   exact opd_mem45_y (by have := t_mem A; rw [p0] at this; exact this) (by have := t_none B; rw [p1] at this; exact this)
  ·rw [way (op := 45) (P := fun a b => (mB a == true) && (nB b == true)) (v := fun a b => true) (by kernel_rfl) A B (by simp [p0, p1])]
   exact opd_mem45 (by have := t_mem A; rw [p0] at this; exact this) (by have := t_none B; rw [p1] at this; exact this)
theorem opg_46 : OpdB 46 A B (takesB (rowN 46) (cA A) (cA B)) := by
 cases p0 : mB (cA A)
 ·rw [way (op := 46) (P := fun a b => (mB a == false)) (v := fun a b => false) (by kernel_rfl) A B (by simp [p0])]
  exact opd_mem46_x (by have := t_mem A; rw [p0] at this; exact this)
 ·cases p1 : nB (cA B)
  ·rw [way (op := 46) (P := fun a b => (mB a == true) && (nB b == false)) (v := fun a b => false) (by kernel_rfl) A B (by simp [p0, p1])]
   exact opd_mem46_y (by have := t_mem A; rw [p0] at this; exact this) (by have := t_none B; rw [p1] at this; exact this)
  ·rw [way (op := 46) (P := fun a b => (mB a == true) && (nB b == true)) (v := fun a b => true) (by kernel_rfl) A B (by simp [p0, p1])]
   exact opd_mem46 (by have := t_mem A; rw [p0] at this; exact this) (by have := t_none B; rw [p1] at this; exact this)
theorem opg_47 : OpdB 47 A B (takesB (rowN 47) (cA A) (cA B)) := by
 cases p0 : mB (cA A)
 ·rw [way (op := 47) (P := fun a b => (mB a == false)) (v := fun a b => false) (by kernel_rfl) A B (by simp [p0])]
  exact opd_mem47_x (by have := t_mem A; rw [p0] at this; exact this)
 ·cases p1 : nB (cA B)
  ·rw [way (op := 47) (P := fun a b => (mB a == true) && (nB b == false)) (v := fun a b => false) (by kernel_rfl) A B (by simp [p0, p1])]
   exact opd_mem47_y (by have := t_mem A; rw [p0] at this; exact this) (by have := t_none B; rw [p1] at this; exact this)
  ·rw [way (op := 47) (P := fun a b => (mB a == true) && (nB b == true)) (v := fun a b => true) (by kernel_rfl) A B (by simp [p0, p1])]
   exact opd_mem47 (by have := t_mem A; rw [p0] at this; exact this) (by have := t_none B; rw [p1] at this; exact this)
theorem opg_48 : OpdB 48 A B (takesB (rowN 48) (cA A) (cA B)) := by
 cases p0 : mB (cA A)
 ·rw [way (op := 48) (P := fun a b => (mB a == false)) (v := fun a b => false) (by kernel_rfl) A B (by simp [p0])]
  exact opd_mem48_x (by have := t_mem A; rw [p0] at this; exact this)
 ·cases p1 : nB (cA B)
  ·rw [way (op := 48) (P := fun a b => (mB a == true) && (nB b == false)) (v := fun a b => false) (by kernel_rfl) A B (by simp [p0, p1])]
   exact opd_mem48_y (by have := t_mem A; rw [p0] at this; exact this) (by have := t_none B; rw [p1] at this; exact this)
  ·rw [way (op := 48) (P := fun a b => (mB a == true) && (nB b == true)) (v := fun a b => true) (by kernel_rfl) A B (by simp [p0, p1])]
   exact opd_mem48 (by have := t_mem A; rw [p0] at this; exact this) (by have := t_none B; rw [p1] at this; exact this)
theorem opg_49 : OpdB 49 A B (takesB (rowN 49) (cA A) (cA B)) := by
 cases p0 : mB (cA A)
 ·rw [way (op := 49) (P := fun a b => (mB a == false)) (v := fun a b => false) (by kernel_rfl) A B (by simp [p0])]
  exact opd_mem49_x (by have := t_mem A; rw [p0] at this; exact this)
 ·cases p1 : nB (cA B)
  ·rw [way (op := 49) (P := fun a b => (mB a == true) && (nB b == false)) (v := fun a b => false) (by kernel_rfl) A B (by simp [p0, p1])]
   exact opd_mem49_y (by have := t_mem A; rw [p0] at this; exact this) (by have := t_none B; rw [p1] at this; exact this)
  ·rw [way (op := 49) (P := fun a b => (mB a == true) && (nB b == true)) (v := fun a b => true) (by kernel_rfl) A B (by simp [p0, p1])]
   exact opd_mem49 (by have := t_mem A; rw [p0] at this; exact this) (by have := t_none B; rw [p1] at this; exact this)
theorem opg_50 : OpdB 50 A B (takesB (rowN 50) (cA A) (cA B)) := by
 cases p0 : mB (cA A)
 ·rw [way (op := 50) (P := fun a b => (mB a == false)) (v := fun a b => false) (by kernel_rfl) A B (by simp [p0])]
  exact opd_mem50_x (by have := t_mem A; rw [p0] at this; exact this)
 ·cases p1 : nB (cA B)
  ·rw [way (op := 50) (P := fun a b => (mB a == true) && (nB b == false)) (v := fun a b => false) (by kernel_rfl) A B (by simp [p0, p1])]
   exact opd_mem50_y (by have := t_mem A; rw [p0] at this; exact this) (by have := t_none B; rw [p1] at this; exact this)
  ·rw [way (op := 50) (P := fun a b => (mB a == true) && (nB b == true)) (v := fun a b => true) (by kernel_rfl) A B (by simp [p0, p1])]
   exact opd_mem50 (by have := t_mem A; rw [p0] at this; exact this) (by have := t_none B; rw [p1] at this; exact this)
theorem opg_51 : OpdB 51 A B (takesB (rowN 51) (cA A) (cA B)) := by
 cases p0 : nB (cA A)
 ·rw [way (op := 51) (P := fun a b => (nB a == false)) (v := fun a b => false) (by kernel_rfl) A B (by simp [p0])]
  exact opd_z51_x (by have := t_none A; rw [p0] at this; exact this)
 ·cases p1 : nB (cA B)
  ·rw [way (op := 51) (P := fun a b => (nB a == true) && (nB b == false)) (v := fun a b => false) (by kernel_rfl) A B (by simp [p0, p1])]
   exact opd_z51_y (by have := t_none A; rw [p0] at this; exact this) (by have := t_none B; rw [p1] at this; exact this)
  ·rw [way (op := 51) (P := fun a b => (nB a == true) && (nB b == true)) (v := fun a b => true) (by kernel_rfl) A B (by simp [p0, p1])]
   exact opd_z51 (by have := t_none A; rw [p0] at this; exact this) (by have := t_none B; rw [p1] at this; exact this)
theorem opg_52 : OpdB 52 A B (takesB (rowN 52) (cA A) (cA B)) := by
 cases p0 : nB (cA A)
 ·rw [way (op := 52) (P := fun a b => (nB a == false)) (v := fun a b => false) (by kernel_rfl) A B (by simp [p0])]
  exact opd_z52_x (by have := t_none A; rw [p0] at this; exact this)
 ·cases p1 : nB (cA B)
  ·rw [way (op := 52) (P := fun a b => (nB a == true) && (nB b == false)) (v := fun a b => false) (by kernel_rfl) A B (by simp [p0, p1])]
   exact opd_z52_y (by have := t_none A; rw [p0] at this; exact this) (by have := t_none B; rw [p1] at this; exact this)
  ·rw [way (op := 52) (P := fun a b => (nB a == true) && (nB b == true)) (v := fun a b => true) (by kernel_rfl) A B (by simp [p0, p1])]
   exact opd_z52 (by have := t_none A; rw [p0] at this; exact this) (by have := t_none B; rw [p1] at this; exact this)
theorem opg_53 : OpdB 53 A B (takesB (rowN 53) (cA A) (cA B)) := by
 cases p0 : mB (cA A)
 ·rw [way (op := 53) (P := fun a b => (mB a == false)) (v := fun a b => false) (by kernel_rfl) A B (by simp [p0])]
  exact opd_mem53_x (by have := t_mem A; rw [p0] at this; exact this)
 ·cases p1 : nB (cA B)
  ·rw [way (op := 53) (P := fun a b => (mB a == true) && (nB b == false)) (v := fun a b => false) (by kernel_rfl) A B (by simp [p0, p1])]
   exact opd_mem53_y (by have := t_mem A; rw [p0] at this; exact this) (by have := t_none B; rw [p1] at this; exact this)
  ·rw [way (op := 53) (P := fun a b => (mB a == true) && (nB b == true)) (v := fun a b => true) (by kernel_rfl) A B (by simp [p0, p1])]
   exact opd_mem53 (by have := t_mem A; rw [p0] at this; exact this) (by have := t_none B; rw [p1] at this; exact this)
theorem takes0 (a b : Int) : takesB 0 a b = false := by
 have h : bits .and .i64 a 0 = 0 := by simp [bits]; rfl
 unfold takesB
 rw [show rA 0 = 0 from rfl, h]
 rfl
theorem opd_any (op : Int) : OpdB op A B (takesB (rowN op) (cA A) (cA B)) := by
 by_cases h1 : op < 1
 ·rw [show rowN op = 0 by by_cases h0 : op = 0; (subst h0; rfl); exact rowN_out (by omega), takes0]; exact opd_low h1
 by_cases h2 : 53 < op
 ·rw [rowN_out (by omega), takes0]; exact opd_high h2
 rcases (by omega : op = 1 ∨ op = 2 ∨ op = 3 ∨ op = 4 ∨ op = 5 ∨ op = 6 ∨ op = 7 ∨ op = 8 ∨ op = 9 ∨ op = 10 ∨ op = 11 ∨ op = 12 ∨ op = 13 ∨ op = 14 ∨ op = 15 ∨ op = 16 ∨ op = 17 ∨ op = 18 ∨ op = 19 ∨ op = 20 ∨ op = 21 ∨ op = 22 ∨ op = 23 ∨ op = 24 ∨ op = 25 ∨ op = 26 ∨ op = 27 ∨ op = 28 ∨ op = 29 ∨ op = 30 ∨ op = 31 ∨ op = 32 ∨ op = 33 ∨ op = 34 ∨ op = 35 ∨ op = 36 ∨ op = 37 ∨ op = 38 ∨ op = 39 ∨ op = 40 ∨ op = 41 ∨ op = 42 ∨ op = 43 ∨ op = 44 ∨ op = 45 ∨ op = 46 ∨ op = 47 ∨ op = 48 ∨ op = 49 ∨ op = 50 ∨ op = 51 ∨ op = 52 ∨ op = 53) with rfl | rfl | rfl | rfl | rfl | rfl | rfl | rfl | rfl | rfl | rfl | rfl | rfl | rfl | rfl | rfl | rfl | rfl | rfl | rfl | rfl | rfl | rfl | rfl | rfl | rfl | rfl | rfl | rfl | rfl | rfl | rfl | rfl | rfl | rfl | rfl | rfl | rfl | rfl | rfl | rfl | rfl | rfl | rfl | rfl | rfl | rfl | rfl | rfl | rfl | rfl | rfl | rfl
 ·exact opg_1
 ·exact opg_2
 ·exact opg_3
 ·exact opg_4
 ·exact opg_5
 ·exact opg_6
 ·exact opg_7
 ·exact opg_8
 ·exact opg_9
 ·exact opg_10
 ·exact opg_11
 ·exact opg_12
 ·exact opg_13
 ·exact opg_14
 ·exact opg_15
 ·exact opg_16
 ·exact opg_17
 ·exact opg_18
 ·exact opg_19
 ·exact opg_20
 ·exact opg_21
 ·exact opg_22
 ·exact opg_23
 ·exact opg_24
 ·exact opg_25
 ·exact opg_26
 ·exact opg_27
 ·exact opg_28
 ·exact opg_29
 ·exact opg_30
 ·exact opg_31
 ·exact opg_32
 ·exact opg_33
 ·exact opg_34
 ·exact opg_35
 ·exact opg_36
 ·exact opg_37
 ·exact opg_38
 ·exact opg_39
 ·exact opg_40
 ·exact opg_41
 ·exact opg_42
 ·exact opg_43
 ·exact opg_44
 ·exact opg_45
 ·exact opg_46
 ·exact opg_47
 ·exact opg_48
 ·exact opg_49
 ·exact opg_50
 ·exact opg_51
 ·exact opg_52
 ·exact opg_53
end
end Go.Proofs.YtcgleggdochbeaaDoor
