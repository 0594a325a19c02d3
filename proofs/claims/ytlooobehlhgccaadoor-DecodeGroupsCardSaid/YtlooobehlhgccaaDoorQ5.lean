/- The eight operations in their forms. -/
import Derived.Test.YtlooobehlhgccaaDoorQ3
namespace Go.Proofs.YtlooobehlhgccaaDoor
open Go.RowKit
set_option linter.unusedVariables false
set_option linter.unusedSimpArgs false

theorem rows_g1 : ∀ k : Nat, k < 8 → rowsOf (8 * (k : Int) + 1) = [⟨65479, 1, 54, 6, 5⟩] := of_decide_eq_true (by kernel_rfl)
theorem rows_g3 : ∀ k : Nat, k < 8 → rowsOf (8 * (k : Int) + 3) = [⟨65479, 3, 54, 5, 6⟩] := of_decide_eq_true (by kernel_rfl)
theorem rows_g5 : ∀ k : Nat, k < 8 → rowsOf (8 * (k : Int) + 5) = [⟨65479, 5, 54, 1, 9⟩] := of_decide_eq_true (by kernel_rfl)
theorem rows_81 : rowsOf 129 = [⟨65535, 129, 54, 6, 9⟩] := by kernel_rfl
theorem rows_83 : rowsOf 131 = [⟨65535, 131, 54, 6, 8⟩] := by kernel_rfl
theorem grp0 : ∀ k : Nat, k < 8 → grp 0 k = 3 + k := of_decide_eq_true (by kernel_rfl)
/-- The eight take all but two places. -/
theorem ok_eight : ∀ k : Nat, k < 8 → okB (3 + (k : Int)) [2, 6, 8] [2, 6] = true ∧ okB (3 + (k : Int)) [2, 6] [2, 6, 8] = true ∧ okB (3 + (k : Int)) [2, 6, 8] [16, 48, 112] = true ∧ rR (rowN (3 + (k : Int))) = false := of_decide_eq_true (by kernel_rfl)
theorem op_eight (c m : Int) (k : Nat) (hk : k < 8) {g cc a b : Int} (h : (if g = 65479 then c else m) / 8 % 8 = k) : opM c m ⟨g, cc, 54, a, b⟩ = 3 + k := by
  unfold opM
  dsimp only
  rw [if_neg (by decide), h, Int.toNat_natCast]
  exact grp0 k hk
section
variable {zs : List Int} {p : Nat}
theorem dec_g1 (k : Nat) (hk : k < 8) (h : openM zs = some (8 * (k : Int) + 1, p)) (hp2 : p ≤ 2) (hp : p + 1 ≤ zs.length) {o : On} {q : Nat} (ho : placeM zs (p + 1) (zs.getD p 0) = some (o, q)) :
    decM zs = .ok ⟨3 + k, 0, o, onReg (zs.getD p 0 / 8 % 8), false, q⟩ := by
  have hR := placeM_RM ho
  rw [dec_mod h (rows_g1 k hk) (.inl rfl) hp, rest_okp (op := 3 + k) (show ¬ (65479 : Int) = 65520 by decide) (by simp; omega) (op_eight _ _ k hk (by rw [if_pos rfl]; omega)) (by omega) (by omega) ((oper6 _ _ _ _).trans ho) (oper5 _ _ _ _)]
  dsimp only
  exact isOr_ok (isB_sets (ok_eight k hk).1 (mem_RM hR.1) (mem_reg (by omega)) (by simp) (by simp [knowsB]) (by omega))
theorem dec_g3 (k : Nat) (hk : k < 8) (h : openM zs = some (8 * (k : Int) + 3, p)) (hp2 : p ≤ 2) (hp : p + 1 ≤ zs.length) {o : On} {q : Nat} (ho : placeM zs (p + 1) (zs.getD p 0) = some (o, q)) :
    decM zs = .ok ⟨3 + k, 0, onReg (zs.getD p 0 / 8 % 8), o, false, q⟩ := by
  have hR := placeM_RM ho
  rw [dec_mod h (rows_g3 k hk) (.inr rfl) hp, rest_okp (op := 3 + k) (show ¬ (65479 : Int) = 65520 by decide) (by simp; omega) (op_eight _ _ k hk (by rw [if_pos rfl]; omega)) (by omega) (by omega) (oper5 _ _ _ _) ((oper6 _ _ _ _).trans ho)]
  dsimp only
  exact isOr_ok (isB_sets (ok_eight k hk).2.1 (mem_reg (by omega)) (mem_RM hR.1) (by simp) (by simp [knowsB]) (by omega))
theorem dec_g5 (k : Nat) (hk : k < 8) (h : openM zs = some (8 * (k : Int) + 5, p)) (hp2 : p ≤ 2) (hp : p + 4 ≤ zs.length) :
    decM zs = .ok ⟨3 + k, 0, onReg 0, onImm (le4 zs p), false, (p + 4 : Nat)⟩ := by
  rw [dec_pln h (rows_g5 k hk) (by decide), rest_okp (op := 3 + k) (show ¬ (65479 : Int) = 65520 by decide) (by simp; omega) (op_eight _ _ k hk (by rw [if_pos rfl]; omega)) (by omega) (by omega) (oper1 _ _ _ _) ((oper9 _ _ _ _).trans (if_pos hp))]
  dsimp only
  exact isOr_ok (isB_sets (ok_eight k hk).2.2.1 (by decide) (mem_imm _) (by simp) (by simp [knowsB]) (by omega))
theorem dec_g83 (k : Nat) (hk : k < 8) (h : openM zs = some (131, p)) (hp2 : p ≤ 2) (hp : p + 1 ≤ zs.length) (hn : zs.getD p 0 / 8 % 8 = k) {o : On} {q : Nat} (ho : placeM zs (p + 1) (zs.getD p 0) = some (o, q)) (hq : q + 1 ≤ zs.length) :
    decM zs = .ok ⟨3 + k, 0, o, onImm (sx (zs.getD q 0)), false, (q + 1 : Nat)⟩ := by
  have hR := placeM_RM ho
  rw [dec_mod h rows_83 (.inl rfl) hp, rest_okp (op := 3 + k) (show ¬ (65535 : Int) = 65520 by decide) (by decide) (op_eight _ _ k hk (by rw [if_neg (by decide)]; exact hn)) (by omega) (by omega) ((oper6 _ _ _ _).trans ho) ((oper8 _ _ _ _).trans (if_pos hq))]
  dsimp only
  exact isOr_ok (isB_sets (ok_eight k hk).2.2.1 (mem_RM hR.1) (mem_imm _) (by simp) (by simp [knowsB]) (by omega))
theorem dec_g81 (k : Nat) (hk : k < 8) (h : openM zs = some (129, p)) (hp2 : p ≤ 2) (hp : p + 1 ≤ zs.length) (hn : zs.getD p 0 / 8 % 8 = k) {o : On} {q : Nat} (ho : placeM zs (p + 1) (zs.getD p 0) = some (o, q)) (hq : q + 4 ≤ zs.length) :
    decM zs = .ok ⟨3 + k, 0, o, onImm (le4 zs q), false, (q + 4 : Nat)⟩ := by
  have hR := placeM_RM ho
  rw [dec_mod h rows_81 (.inl rfl) hp, rest_okp (op := 3 + k) (show ¬ (65535 : Int) = 65520 by decide) (by decide) (op_eight _ _ k hk (by rw [if_neg (by decide)]; exact hn)) (by omega) (by omega) ((oper6 _ _ _ _).trans ho) ((oper9 _ _ _ _).trans (if_pos hq))]
  dsimp only
  exact isOr_ok (isB_sets (ok_eight k hk).2.2.1 (mem_RM hR.1) (mem_imm _) (by simp) (by simp [knowsB]) (by omega))
end
theorem open_low {z : Int} {t : List Int} (h : ¬ (z = 15 ∨ z = 217 ∨ z = 243)) : openM (z :: t) = some (z, 1) := open_one h
theorem place_regx {zs : List Int} {p : Nat} {m x : Int} (h : m / 64 % 4 = 3) (hx : m % 8 = x) : placeM zs p m = some (onReg x, p) := by unfold placeM; rw [if_pos h, hx]
section
variable (k : Nat) (hk : k < 8) (x y v : Int) (hx : 0 ≤ x ∧ x < 8) (hy : 0 ≤ y ∧ y < 8)
include hk hx hy
theorem grp_one : decM [8 * (k : Int) + 1, 192 + 8 * y + x] = .ok ⟨3 + k, 0, onReg x, onReg y, false, 2⟩ := by
  have := dec_g1 (zs := [8 * (k : Int) + 1, 192 + 8 * y + x]) k hk (open_low (by omega)) (by decide) (by simp) (o := onReg x) (q := 2) (place_regx (show (192 + 8 * y + x) / 64 % 4 = 3 by omega) (show (192 + 8 * y + x) % 8 = x by omega))
  rw [show ([8 * (k : Int) + 1, 192 + 8 * y + x].getD 1 0) / 8 % 8 = y from (show (192 + 8 * y + x) / 8 % 8 = y by omega)] at this
  exact this
theorem grp_three : decM [8 * (k : Int) + 3, 192 + 8 * y + x] = .ok ⟨3 + k, 0, onReg y, onReg x, false, 2⟩ := by
  have := dec_g3 (zs := [8 * (k : Int) + 3, 192 + 8 * y + x]) k hk (open_low (by omega)) (by decide) (by simp) (o := onReg x) (q := 2) (place_regx (show (192 + 8 * y + x) / 64 % 4 = 3 by omega) (show (192 + 8 * y + x) % 8 = x by omega))
  rw [show ([8 * (k : Int) + 3, 192 + 8 * y + x].getD 1 0) / 8 % 8 = y from (show (192 + 8 * y + x) / 8 % 8 = y by omega)] at this
  exact this
omit hx hy in
theorem grp_five (hv : 0 ≤ v ∧ v ≤ 4294967295) : decM ((8 * (k : Int) + 5) :: wB v) = .ok ⟨3 + k, 0, onReg 0, onImm v, false, 5⟩ := by
  have := dec_g5 (zs := (8 * (k : Int) + 5) :: wB v) k hk (open_low (by omega)) (by decide) (by simp [wB])
  rw [le4_w1 _ _ hv] at this
  exact this
omit hy in
theorem grp_imm (z : Int) : decM [131, 192 + 8 * (k : Int) + x, z] = .ok ⟨3 + k, 0, onReg x, onImm (sx z), false, 3⟩ := by
  have := dec_g83 (zs := [131, 192 + 8 * (k : Int) + x, z]) k hk (open_low (by decide)) (by decide) (by simp) (show (192 + 8 * (k : Int) + x) / 8 % 8 = k by omega) (o := onReg x) (q := 2) (place_regx (show (192 + 8 * (k : Int) + x) / 64 % 4 = 3 by omega) (show (192 + 8 * (k : Int) + x) % 8 = x by omega)) (by simp)
  exact this
end
end Go.Proofs.YtlooobehlhgccaaDoor
