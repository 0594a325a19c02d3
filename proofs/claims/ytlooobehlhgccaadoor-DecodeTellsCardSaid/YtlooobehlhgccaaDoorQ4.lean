/- What is none, what isn't in here. -/
import Derived.Test.YtlooobehlhgccaaDoorQ3
namespace Go.Proofs.YtlooobehlhgccaaDoor
open Go.RowKit
set_option linter.unusedVariables false
set_option linter.unusedSimpArgs false

def otherL : List Int := [244, 102, 240, 14, 39, 96, 142, 200, 228, 250, 216, 143]
theorem rows_other : ∀ k : Nat, k < 12 → rowsOf (otherL.getD k 0) = [] := of_decide_eq_true (by kernel_rfl)
theorem dec_other (k : Nat) (hk : k < 12) (t : List Int) : decM (otherL.getD k 0 :: t) = .error 12 := by
  refine dec_none (c := otherL.getD k 0) (p := 1) (open_one ?_) (rows_other k hk)
  have : ∀ k : Nat, k < 12 → ¬ (otherL.getD k 0 = 15 ∨ otherL.getD k 0 = 217 ∨ otherL.getD k 0 = 243) := of_decide_eq_true (by kernel_rfl)
  exact this k hk
theorem rows_ud : rowsOf 3851 = [⟨65535, 3851, -1, 0, 0⟩] := by kernel_rfl
theorem dec_ud (t : List Int) : decM (15 :: 11 :: t) = .error 90 := by
  rw [dec_pln (c := 3851) (p := 2) (open_two (.inl rfl)) rows_ud (by decide), rest_bad (by decide)]
theorem rows_lea : rowsOf 141 = [⟨65535, 141, 26, 5, 6⟩, ⟨65535, 141, -1, 0, 0⟩] := by kernel_rfl
/-- What LEA comes to: a place, or none. -/
theorem dec_lea (m : Int) (t : List Int) : decM (141 :: m :: t) = match placeM (141 :: m :: t) 2 m with | none => .error 10 | some (o, q) => if o.k = 3 then .ok ⟨26, 0, onReg (m / 8 % 8), o, false, q⟩ else .error 90 := by
  rw [dec_two (c := 141) (p := 1) (open_one (by decide)) rows_lea]
  have hb : byM (141 :: m :: t) 141 1 ⟨65535, 141, -1, 0, 0⟩ = .error 90 := by
    unfold byM
    rw [if_neg (by decide), rest_bad (by decide)]
  rw [hb]
  unfold byM
  rw [if_pos (by decide), if_pos (by simp)]
  rw [show (141 :: m :: t : List Int).getD 1 0 = m from rfl]
  have hr : 0 ≤ m / 8 % 8 ∧ m / 8 % 8 < 8 := by omega
  cases hp : placeM (141 :: m :: t) 2 m with
  | none => rw [rest_shortB (op := 26) rfl (by decide) (by decide) (oper5 _ _ _ _) ((oper6 _ _ _ _).trans hp)]
  | some x =>
    obtain ⟨o, q⟩ := x
    have hR := placeM_RM hp
    rw [rest_okp (op := 26) (by decide) (by decide) rfl (by decide) (by decide) (oper5 _ _ _ _) ((oper6 _ _ _ _).trans hp)]
    dsimp only
    by_cases h3 : o.k = 3
    · rw [if_pos h3, if_pos (isB_sets (SA := [2, 6]) (SB := [8]) (by kernel_rfl) (mem_reg hr) (mem_mem hR.1 h3) rfl rfl (by omega))]
    · rw [if_neg h3, isB_no (SA := [2, 6]) (SB := [2, 6]) (by kernel_rfl) (mem_reg hr) (mem_nomem hR.1 h3)]
      rfl
theorem place_direct (zs : List Int) (p : Nat) {m : Int} (h : m / 64 % 4 = 3) : placeM zs p m = some (onReg (m % 8), p) := by unfold placeM; rw [if_pos h]
theorem dec_lea_no (x : Int) (hx : 0 ≤ x ∧ x < 64) (t : List Int) : decM (141 :: (192 + x) :: t) = .error 90 := by
  rw [dec_lea, place_direct _ _ (by omega)]
  rfl
theorem rows_ff : rowsOf 255 = [⟨65535, 255, 58, 6, 0⟩] := by kernel_rfl
theorem rows_c7 : rowsOf 199 = [⟨65535, 199, 59, 6, 9⟩] := by kernel_rfl
theorem dec_ff7 (x : Int) (hx : 0 ≤ x ∧ x < 8) (t : List Int) : decM (255 :: (248 + x) :: t) = .error 90 := by
  rw [dec_mod (c := 255) (p := 1) (open_one (by decide)) rows_ff (.inl rfl) (by simp), rest_bad ?_]
  rw [show (255 :: (248 + x) :: t : List Int).getD 1 0 = 248 + x from rfl]
  unfold opM
  rw [if_neg (by decide), if_neg (by decide), show (248 + x) / 8 % 8 = 7 by omega]
  rfl
theorem dec_c71 (x : Int) (hx : 0 ≤ x ∧ x < 8) (t : List Int) : decM (199 :: (200 + x) :: t) = .error 90 := by
  rw [dec_mod (c := 199) (p := 1) (open_one (by decide)) rows_c7 (.inl rfl) (by simp), rest_bad ?_]
  rw [show (199 :: (200 + x) :: t : List Int).getD 1 0 = 200 + x from rfl]
  unfold opM
  rw [if_neg (by decide), if_neg (by decide), show (200 + x) / 8 % 8 = 1 by omega]
  rfl
end Go.Proofs.YtlooobehlhgccaaDoor
