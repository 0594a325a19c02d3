/- Each of the document's ways is a row's (no program). -/
import Derived.Test.YtbfkgakkkibejaaDoorW4
namespace Go.Proofs.YtbfkgakkkibejaaDoor
open Go.RowKit
set_option linter.unusedVariables false
set_option linter.unusedSimpArgs false
set_option linter.unusedSectionVars false

/-- What an operand can be. -/
theorem formsW {o : On} (hm : 0 ≤ o.m ∧ o.m ≤ 4294967295) : (∃ r, 0 ≤ r ∧ r < 8 ∧ o = onReg r) ∨ (∃ m, 0 ≤ m ∧ m ≤ 4294967295 ∧ o = onImm m) ∨ (RMb o ∧ o.k = 3) ∨ o = onZ ∨ cA o = 0 := by
  obtain ⟨k, r, m, b, x, s⟩ := o
  by_cases h0 : cA ⟨k, r, m, b, x, s⟩ = 0
  · exact .inr (.inr (.inr (.inr h0)))
  unfold cA at h0
  dsimp only at h0
  by_cases k0 : k = 0
  · subst k0
    cases hh : (r == 0 && m == 0 && b == 0 && x == 0 && s == 0)
    · simp [hh] at h0
    · simp at hh
      obtain ⟨⟨⟨⟨rfl, rfl⟩, rfl⟩, rfl⟩, rfl⟩ := hh
      exact .inr (.inr (.inr (.inl rfl)))
  rw [show (k == 0) = false by simp [k0]] at h0
  by_cases k1 : k = 1
  · subst k1
    cases hh : (m == 0 && b == 0 && x == 0 && s == 0)
    · simp [hh] at h0
    · simp at hh
      obtain ⟨⟨⟨rfl, rfl⟩, rfl⟩, rfl⟩ := hh
      refine .inl ⟨r, ?_, ?_, rfl⟩
      all_goals
        simp [regA, isRegB] at h0
        cases h1 : (r == 1)
        · rw [h1] at h0
          cases h2 : (decide (0 ≤ r) && decide (r < 8))
          · rw [h2] at h0; simp at h0
          · simp at h2; omega
        · have : r = 1 := by simpa using h1
          omega
  rw [show (k == 1) = false by simp [k1]] at h0
  by_cases k2 : k = 2
  · subst k2
    cases hh : (r == 0 && b == 0 && x == 0 && s == 0)
    · simp [hh] at h0
    · simp at hh
      obtain ⟨⟨⟨rfl, rfl⟩, rfl⟩, rfl⟩ := hh
      exact .inr (.inl ⟨m, hm.1, hm.2, rfl⟩)
  rw [show (k == 2) = false by simp [k2]] at h0
  by_cases k3 : k = 3
  · subst k3
    by_cases r0 : r = 0
    · subst r0
      have h8 : memA b x s = 8 := by
        have : memA b x s = 8 ∨ memA b x s = 0 := by unfold memA; cases ((b == -1 || isRegB b) && isIndexB x s) <;> simp
        rcases this with h | h
        · exact h
        · rw [h] at h0; simp at h0
      exact .inr (.inr (.inl ⟨⟨.inr ⟨m, b, x, s, rfl, h8⟩, hm⟩, rfl⟩))
    · rw [show (r == 0) = false by simp [r0]] at h0; simp at h0
  · rw [show (k == 3) = false by simp [k3]] at h0; simp at h0
def l8 : List Int := [0, 1, 2, 6, 8, 16, 48, 112]
theorem not_taken {op c : Int} {A B : On} {rep : Bool} {l : Int} {SA SB : List Int} {P : Prop} (hi : isB ⟨op, c, A, B, rep, l⟩ = true) (h : noB op SA SB = true) (hA : cA A ∈ SA) (hB : cA B ∈ SB) : P := by
  rw [isB_no h hA hB] at hi; cases hi
theorem reg_RMb {r : Int} (h : 0 ≤ r ∧ r < 8) : RMb (onReg r) := ⟨.inl ⟨r, h.1, h.2, rfl⟩, by simp [onReg], by simp [onReg]⟩
theorem isR0_mem {o : On} (h : o.k = 3) : ¬ isR0 o = true := by unfold isR0; rw [h]; simp
theorem isR0_reg {r : Int} (h : ¬ r = 0) : ¬ isR0 (onReg r) = true := by unfold isR0 onReg; simp [h]
theorem kR (r : Int) : (onReg r).k = 1 := rfl
theorem kI (m : Int) : (onImm m).k = 2 := rfl
theorem nR2 (r : Int) : ¬ (onReg r).k = 2 := by simp [onReg]
theorem nI1 (m : Int) : ¬ (onImm m).k = 1 := by simp [onImm]
def ByWay (k : In) (w : List Int) : Prop := ∃ r c n t, ByRow k r c n t ∧ w = wayR r c t k.A k.B
theorem isB_parts {op c : Int} {A B : On} {rep : Bool} {l : Int} (h : isB ⟨op, c, A, B, rep, l⟩ = true) : (rR (rowN op) || !rep) = true ∧ knowsB (rowN op) c = true := by
  unfold isB at h
  simp only [Bool.and_eq_true] at h
  exact ⟨h.1.1.2, h.1.2⟩
theorem knows_no {k : Nat} (hk : rC k = false) {c : Int} (h : knowsB k c = true) : c = 0 := by unfold knowsB at h; rw [hk] at h; simpa using h
theorem knows_hi16 {k : Nat} (hk : rC k = true) {c : Int} (h : knowsB k c = true) : 0 ≤ c ∧ c ≤ 15 := by unfold knowsB at h; rw [hk] at h; simp at h; omega
theorem bw_1 {c : Int} {A B : On} {rep : Bool} {l : Int} (hi : isB ⟨1, c, A, B, rep, l⟩ = true) (hAm : 0 ≤ A.m ∧ A.m ≤ 4294967295) (hBm : 0 ≤ B.m ∧ B.m ≤ 4294967295) {w : List Int} (hw : w ∈ waysL ⟨1, c, A, B, rep, l⟩) : ByWay ⟨1, c, A, B, rep, l⟩ w := by
  obtain ⟨h1, h2⟩ := isB_parts hi
  obtain rfl : rep = false := by cases rep; rfl; exact absurd (show false = true from h1) (by decide)
  obtain rfl := knows_no (show rC (rowN 1) = false from rfl) h2
  rw [wl_1] at hw
  clear h1 h2
  rcases formsW hAm with ⟨rA, hA1, hA2, rfl⟩ | ⟨mA, mA1, mA2, rfl⟩ | ⟨hA, kA⟩ | rfl | hA
  · have hA : 0 ≤ rA ∧ rA < 8 := ⟨hA1, hA2⟩
    rcases formsW hBm with ⟨rB, hB1, hB2, rfl⟩ | ⟨mB, mB1, mB2, rfl⟩ | ⟨hB, kB⟩ | rfl | hB
    · have hB : 0 ≤ rB ∧ rB < 8 := ⟨hB1, hB2⟩
      rw [if_neg (nR2 _)] at hw
      rcases List.mem_append.1 hw with hw | hw
      · rw [if_pos (kR _)] at hw
        obtain ⟨t, ht, rfl⟩ := List.mem_map.1 hw
        refine ⟨(⟨65535, 137, 1, 6, 5⟩ : Rw), 137, rB, t, ⟨(of_decide_eq_true (by kernel_rfl)), (.inl (by omega)), hB, (if_pos (by decide)), (show ¬ (1 : Int) = 0 ∧ ¬ (1 : Int) = -1 by decide), (if_neg (by decide)).symm, (show (false : Bool) = ((137 : Int) / 256 == 243) by decide), Eq.mpr (if_pos rfl) ⟨reg_RMb hA, ht⟩, Eq.mpr (if_neg (by decide)) rfl, (fun h => absurd h (by decide))⟩, ?way⟩
        case way => simp [wayR, opB, codeB, onReg, onImm, onZ]
      · rw [if_pos (kR _)] at hw
        obtain ⟨t, ht, rfl⟩ := List.mem_map.1 hw
        refine ⟨(⟨65535, 139, 1, 5, 6⟩ : Rw), 139, rA, t, ⟨(of_decide_eq_true (by kernel_rfl)), (.inl (by omega)), hA, (if_pos (by decide)), (show ¬ (1 : Int) = 0 ∧ ¬ (1 : Int) = -1 by decide), (if_neg (by decide)).symm, (show (false : Bool) = ((139 : Int) / 256 == 243) by decide), Eq.mpr (if_neg (by decide)) rfl, Eq.mpr (if_pos rfl) ⟨reg_RMb hB, ht⟩, (fun h => absurd h (by decide))⟩, ?way⟩
        case way => simp [wayR, opB, codeB, onReg, onImm, onZ]
    · rw [if_pos (kI _)] at hw
      rcases List.mem_append.1 hw with hw | hw
      · rw [if_pos (kR _)] at hw
        obtain rfl := List.mem_singleton.1 hw
        refine ⟨(⟨65528, 184, 1, 4, 9⟩ : Rw), (184 + rA), 0, [], ⟨?row, (.inl (by omega)), (by decide), (if_pos (by decide)), (show ¬ (1 : Int) = 0 ∧ ¬ (1 : Int) = -1 by decide), (if_neg (by decide)).symm, (show (false : Bool) = ((184 + rA) / 256 == 243) by rw [show (184 + rA) / 256 = 0 by omega]; rfl), Eq.mpr (if_neg (by decide)) (show onReg rA = onReg ((184 + rA) % 8) from congrArg onReg (by omega)), Eq.mpr (if_neg (by decide)) ⟨rfl, mB1, mB2⟩, (fun _ => ⟨rfl, rfl⟩)⟩, ?way⟩
        case row => obtain ⟨j, hj⟩ := Int.eq_ofNat_of_zero_le (show 0 ≤ ((184 + rA)) - 184 by omega); rw [show (184 + rA) = 184 + (j : Int) by omega]; exact (of_decide_eq_true (by kernel_rfl) : ∀ j : Nat, j < 8 → (⟨65528, 184, 1, 4, 9⟩ : Rw) ∈ rowsOf (184 + (j : Int))) j (by omega)
        case way => simp [wayR, opB, onReg, onImm, onZ, code1 (show (184 + rA) < 256 by omega)]
      · obtain ⟨u, hu, rfl⟩ := List.mem_map.1 hw
        obtain ⟨t, ht, rfl⟩ := List.mem_map.1 hu
        refine ⟨(⟨65535, 199, 59, 6, 9⟩ : Rw), 199, 0, t, ⟨(of_decide_eq_true (by kernel_rfl)), (.inl (by omega)), (by decide), (by kernel_rfl), (show ¬ (1 : Int) = 0 ∧ ¬ (1 : Int) = -1 by decide), (if_neg (by decide)).symm, (show (false : Bool) = ((199 : Int) / 256 == 243) by decide), Eq.mpr (if_pos rfl) ⟨reg_RMb hA, ht⟩, Eq.mpr (if_neg (by decide)) ⟨rfl, mB1, mB2⟩, (fun h => absurd h (by decide))⟩, ?way⟩
        case way => simp [wayR, opB, codeB, onReg, onImm, onZ]
    · rw [if_neg (show ¬ B.k = 2 by rw [kB]; decide)] at hw
      rcases List.mem_append.1 hw with hw | hw
      · rw [if_neg (show ¬ B.k = 1 by rw [kB]; decide)] at hw
        cases hw
      · rw [if_pos (kR _)] at hw
        obtain ⟨t, ht, rfl⟩ := List.mem_map.1 hw
        refine ⟨(⟨65535, 139, 1, 5, 6⟩ : Rw), 139, rA, t, ⟨(of_decide_eq_true (by kernel_rfl)), (.inl (by omega)), hA, (if_pos (by decide)), (show ¬ (1 : Int) = 0 ∧ ¬ (1 : Int) = -1 by decide), (if_neg (by decide)).symm, (show (false : Bool) = ((139 : Int) / 256 == 243) by decide), Eq.mpr (if_neg (by decide)) rfl, Eq.mpr (if_pos rfl) ⟨hB, ht⟩, (fun h => absurd h (by decide))⟩, ?way⟩
        case way => simp [wayR, opB, codeB, onReg, onImm, onZ]
    · exact not_taken hi (SA := [2, 6]) (SB := [1]) (by kernel_rfl) (mem_reg ⟨hA1, hA2⟩) mem_z
    · exact not_taken hi (SA := [2, 6]) (SB := [0]) (by kernel_rfl) (mem_reg ⟨hA1, hA2⟩) (by rw [hB]; decide)
  · exact not_taken hi (SA := [16, 48, 112]) (SB := l8) (by kernel_rfl) (mem_imm _) (cA_mem _)
  · rcases formsW hBm with ⟨rB, hB1, hB2, rfl⟩ | ⟨mB, mB1, mB2, rfl⟩ | ⟨hB, kB⟩ | rfl | hB
    · have hB : 0 ≤ rB ∧ rB < 8 := ⟨hB1, hB2⟩
      rw [if_neg (nR2 _)] at hw
      rcases List.mem_append.1 hw with hw | hw
      · rw [if_pos (kR _)] at hw
        obtain ⟨t, ht, rfl⟩ := List.mem_map.1 hw
        refine ⟨(⟨65535, 137, 1, 6, 5⟩ : Rw), 137, rB, t, ⟨(of_decide_eq_true (by kernel_rfl)), (.inl (by omega)), hB, (if_pos (by decide)), (show ¬ (1 : Int) = 0 ∧ ¬ (1 : Int) = -1 by decide), (if_neg (by decide)).symm, (show (false : Bool) = ((137 : Int) / 256 == 243) by decide), Eq.mpr (if_pos rfl) ⟨hA, ht⟩, Eq.mpr (if_neg (by decide)) rfl, (fun h => absurd h (by decide))⟩, ?way⟩
        case way => simp [wayR, opB, codeB, onReg, onImm, onZ]
      · rw [if_neg (show ¬ A.k = 1 by rw [kA]; decide)] at hw
        cases hw
    · rw [if_pos (kI _)] at hw
      rcases List.mem_append.1 hw with hw | hw
      · rw [if_neg (show ¬ A.k = 1 by rw [kA]; decide)] at hw
        cases hw
      · obtain ⟨u, hu, rfl⟩ := List.mem_map.1 hw
        obtain ⟨t, ht, rfl⟩ := List.mem_map.1 hu
        refine ⟨(⟨65535, 199, 59, 6, 9⟩ : Rw), 199, 0, t, ⟨(of_decide_eq_true (by kernel_rfl)), (.inl (by omega)), (by decide), (by kernel_rfl), (show ¬ (1 : Int) = 0 ∧ ¬ (1 : Int) = -1 by decide), (if_neg (by decide)).symm, (show (false : Bool) = ((199 : Int) / 256 == 243) by decide), Eq.mpr (if_pos rfl) ⟨hA, ht⟩, Eq.mpr (if_neg (by decide)) ⟨rfl, mB1, mB2⟩, (fun h => absurd h (by decide))⟩, ?way⟩
        case way => simp [wayR, opB, codeB, onReg, onImm, onZ]
    · exact not_taken hi (SA := [8]) (SB := [8]) (by kernel_rfl) (mem_mem hA.1 kA) (mem_mem hB.1 kB)
    · exact not_taken hi (SA := [8]) (SB := [1]) (by kernel_rfl) (mem_mem hA.1 kA) mem_z
    · exact not_taken hi (SA := [8]) (SB := [0]) (by kernel_rfl) (mem_mem hA.1 kA) (by rw [hB]; decide)
  · exact not_taken hi (SA := [1]) (SB := l8) (by kernel_rfl) mem_z (cA_mem _)
  · exact not_taken hi (SA := [0]) (SB := l8) (by kernel_rfl) (by rw [hA]; decide) (cA_mem _)
theorem bw_2 {c : Int} {A B : On} {rep : Bool} {l : Int} (hi : isB ⟨2, c, A, B, rep, l⟩ = true) (hAm : 0 ≤ A.m ∧ A.m ≤ 4294967295) (hBm : 0 ≤ B.m ∧ B.m ≤ 4294967295) {w : List Int} (hw : w ∈ waysL ⟨2, c, A, B, rep, l⟩) : ByWay ⟨2, c, A, B, rep, l⟩ w := by
  obtain ⟨h1, h2⟩ := isB_parts hi
  obtain rfl : rep = false := by cases rep; rfl; exact absurd (show false = true from h1) (by decide)
  obtain rfl := knows_no (show rC (rowN 2) = false from rfl) h2
  rw [wl_2] at hw
  clear h1 h2
  rcases formsW hAm with ⟨rA, hA1, hA2, rfl⟩ | ⟨mA, mA1, mA2, rfl⟩ | ⟨hA, kA⟩ | rfl | hA
  · have hA : 0 ≤ rA ∧ rA < 8 := ⟨hA1, hA2⟩
    rcases formsW hBm with ⟨rB, hB1, hB2, rfl⟩ | ⟨mB, mB1, mB2, rfl⟩ | ⟨hB, kB⟩ | rfl | hB
    · have hB : 0 ≤ rB ∧ rB < 8 := ⟨hB1, hB2⟩
      rw [if_neg (nR2 _)] at hw
      rcases List.mem_append.1 hw with hw | hw
      · rw [if_pos (kR _)] at hw
        obtain ⟨t, ht, rfl⟩ := List.mem_map.1 hw
        refine ⟨(⟨65535, 136, 2, 6, 5⟩ : Rw), 136, rB, t, ⟨(of_decide_eq_true (by kernel_rfl)), (.inl (by omega)), hB, (if_pos (by decide)), (show ¬ (2 : Int) = 0 ∧ ¬ (2 : Int) = -1 by decide), (if_neg (by decide)).symm, (show (false : Bool) = ((136 : Int) / 256 == 243) by decide), Eq.mpr (if_pos rfl) ⟨reg_RMb hA, ht⟩, Eq.mpr (if_neg (by decide)) rfl, (fun h => absurd h (by decide))⟩, ?way⟩
        case way => simp [wayR, opB, codeB, onReg, onImm, onZ]
      · rw [if_pos (kR _)] at hw
        obtain ⟨t, ht, rfl⟩ := List.mem_map.1 hw
        refine ⟨(⟨65535, 138, 2, 5, 6⟩ : Rw), 138, rA, t, ⟨(of_decide_eq_true (by kernel_rfl)), (.inl (by omega)), hA, (if_pos (by decide)), (show ¬ (2 : Int) = 0 ∧ ¬ (2 : Int) = -1 by decide), (if_neg (by decide)).symm, (show (false : Bool) = ((138 : Int) / 256 == 243) by decide), Eq.mpr (if_neg (by decide)) rfl, Eq.mpr (if_pos rfl) ⟨reg_RMb hB, ht⟩, (fun h => absurd h (by decide))⟩, ?way⟩
        case way => simp [wayR, opB, codeB, onReg, onImm, onZ]
    · by_cases hb8 : ¬ mB < 256
      · exact not_taken hi (SA := [2, 6]) (SB := [16]) (by kernel_rfl) (mem_reg ⟨hA1, hA2⟩) (by rw [cA_imm, if_neg (by omega), if_neg hb8]; decide)
      have hmm : mB % 256 = mB := by omega
      rw [if_pos (kI _)] at hw
      rcases List.mem_append.1 hw with hw | hw
      · rw [if_pos (kR _)] at hw
        obtain rfl := List.mem_singleton.1 hw
        refine ⟨(⟨65528, 176, 2, 4, 7⟩ : Rw), (176 + rA), 0, [], ⟨?row, (.inl (by omega)), (by decide), (if_pos (by decide)), (show ¬ (2 : Int) = 0 ∧ ¬ (2 : Int) = -1 by decide), (if_neg (by decide)).symm, (show (false : Bool) = ((176 + rA) / 256 == 243) by rw [show (176 + rA) / 256 = 0 by omega]; rfl), Eq.mpr (if_neg (by decide)) (show onReg rA = onReg ((176 + rA) % 8) from congrArg onReg (by omega)), Eq.mpr (if_neg (by decide)) ⟨rfl, by show 0 ≤ mB; omega, by show mB ≤ 255; omega⟩, (fun _ => ⟨rfl, rfl⟩)⟩, ?way⟩
        case row => obtain ⟨j, hj⟩ := Int.eq_ofNat_of_zero_le (show 0 ≤ ((176 + rA)) - 176 by omega); rw [show (176 + rA) = 176 + (j : Int) by omega]; exact (of_decide_eq_true (by kernel_rfl) : ∀ j : Nat, j < 8 → (⟨65528, 176, 2, 4, 7⟩ : Rw) ∈ rowsOf (176 + (j : Int))) j (by omega)
        case way => simp [wayR, opB, onReg, onImm, onZ, code1 (show (176 + rA) < 256 by omega), hmm]
      · obtain ⟨u, hu, rfl⟩ := List.mem_map.1 hw
        obtain ⟨t, ht, rfl⟩ := List.mem_map.1 hu
        refine ⟨(⟨65535, 198, 60, 6, 7⟩ : Rw), 198, 0, t, ⟨(of_decide_eq_true (by kernel_rfl)), (.inl (by omega)), (by decide), (by kernel_rfl), (show ¬ (2 : Int) = 0 ∧ ¬ (2 : Int) = -1 by decide), (if_neg (by decide)).symm, (show (false : Bool) = ((198 : Int) / 256 == 243) by decide), Eq.mpr (if_pos rfl) ⟨reg_RMb hA, ht⟩, Eq.mpr (if_neg (by decide)) ⟨rfl, by show 0 ≤ mB; omega, by show mB ≤ 255; omega⟩, (fun h => absurd h (by decide))⟩, ?way⟩
        case way => simp [wayR, opB, codeB, onReg, onImm, onZ, hmm]
    · rw [if_neg (show ¬ B.k = 2 by rw [kB]; decide)] at hw
      rcases List.mem_append.1 hw with hw | hw
      · rw [if_neg (show ¬ B.k = 1 by rw [kB]; decide)] at hw
        cases hw
      · rw [if_pos (kR _)] at hw
        obtain ⟨t, ht, rfl⟩ := List.mem_map.1 hw
        refine ⟨(⟨65535, 138, 2, 5, 6⟩ : Rw), 138, rA, t, ⟨(of_decide_eq_true (by kernel_rfl)), (.inl (by omega)), hA, (if_pos (by decide)), (show ¬ (2 : Int) = 0 ∧ ¬ (2 : Int) = -1 by decide), (if_neg (by decide)).symm, (show (false : Bool) = ((138 : Int) / 256 == 243) by decide), Eq.mpr (if_neg (by decide)) rfl, Eq.mpr (if_pos rfl) ⟨hB, ht⟩, (fun h => absurd h (by decide))⟩, ?way⟩
        case way => simp [wayR, opB, codeB, onReg, onImm, onZ]
    · exact not_taken hi (SA := [2, 6]) (SB := [1]) (by kernel_rfl) (mem_reg ⟨hA1, hA2⟩) mem_z
    · exact not_taken hi (SA := [2, 6]) (SB := [0]) (by kernel_rfl) (mem_reg ⟨hA1, hA2⟩) (by rw [hB]; decide)
  · exact not_taken hi (SA := [16, 48, 112]) (SB := l8) (by kernel_rfl) (mem_imm _) (cA_mem _)
  · rcases formsW hBm with ⟨rB, hB1, hB2, rfl⟩ | ⟨mB, mB1, mB2, rfl⟩ | ⟨hB, kB⟩ | rfl | hB
    · have hB : 0 ≤ rB ∧ rB < 8 := ⟨hB1, hB2⟩
      rw [if_neg (nR2 _)] at hw
      rcases List.mem_append.1 hw with hw | hw
      · rw [if_pos (kR _)] at hw
        obtain ⟨t, ht, rfl⟩ := List.mem_map.1 hw
        refine ⟨(⟨65535, 136, 2, 6, 5⟩ : Rw), 136, rB, t, ⟨(of_decide_eq_true (by kernel_rfl)), (.inl (by omega)), hB, (if_pos (by decide)), (show ¬ (2 : Int) = 0 ∧ ¬ (2 : Int) = -1 by decide), (if_neg (by decide)).symm, (show (false : Bool) = ((136 : Int) / 256 == 243) by decide), Eq.mpr (if_pos rfl) ⟨hA, ht⟩, Eq.mpr (if_neg (by decide)) rfl, (fun h => absurd h (by decide))⟩, ?way⟩
        case way => simp [wayR, opB, codeB, onReg, onImm, onZ]
      · rw [if_neg (show ¬ A.k = 1 by rw [kA]; decide)] at hw
        cases hw
    · by_cases hb8 : ¬ mB < 256
      · exact not_taken hi (SA := [8]) (SB := [16]) (by kernel_rfl) (mem_mem hA.1 kA) (by rw [cA_imm, if_neg (by omega), if_neg hb8]; decide)
      have hmm : mB % 256 = mB := by omega
      rw [if_pos (kI _)] at hw
      rcases List.mem_append.1 hw with hw | hw
      · rw [if_neg (show ¬ A.k = 1 by rw [kA]; decide)] at hw
        cases hw
      · obtain ⟨u, hu, rfl⟩ := List.mem_map.1 hw
        obtain ⟨t, ht, rfl⟩ := List.mem_map.1 hu
        refine ⟨(⟨65535, 198, 60, 6, 7⟩ : Rw), 198, 0, t, ⟨(of_decide_eq_true (by kernel_rfl)), (.inl (by omega)), (by decide), (by kernel_rfl), (show ¬ (2 : Int) = 0 ∧ ¬ (2 : Int) = -1 by decide), (if_neg (by decide)).symm, (show (false : Bool) = ((198 : Int) / 256 == 243) by decide), Eq.mpr (if_pos rfl) ⟨hA, ht⟩, Eq.mpr (if_neg (by decide)) ⟨rfl, by show 0 ≤ mB; omega, by show mB ≤ 255; omega⟩, (fun h => absurd h (by decide))⟩, ?way⟩
        case way => simp [wayR, opB, codeB, onReg, onImm, onZ, hmm]
    · exact not_taken hi (SA := [8]) (SB := [8]) (by kernel_rfl) (mem_mem hA.1 kA) (mem_mem hB.1 kB)
    · exact not_taken hi (SA := [8]) (SB := [1]) (by kernel_rfl) (mem_mem hA.1 kA) mem_z
    · exact not_taken hi (SA := [8]) (SB := [0]) (by kernel_rfl) (mem_mem hA.1 kA) (by rw [hB]; decide)
  · exact not_taken hi (SA := [1]) (SB := l8) (by kernel_rfl) mem_z (cA_mem _)
  · exact not_taken hi (SA := [0]) (SB := l8) (by kernel_rfl) (by rw [hA]; decide) (cA_mem _)
theorem bw_3 {c : Int} {A B : On} {rep : Bool} {l : Int} (hi : isB ⟨3, c, A, B, rep, l⟩ = true) (hAm : 0 ≤ A.m ∧ A.m ≤ 4294967295) (hBm : 0 ≤ B.m ∧ B.m ≤ 4294967295) {w : List Int} (hw : w ∈ waysL ⟨3, c, A, B, rep, l⟩) : ByWay ⟨3, c, A, B, rep, l⟩ w := by
  obtain ⟨h1, h2⟩ := isB_parts hi
  obtain rfl : rep = false := by cases rep; rfl; exact absurd (show false = true from h1) (by decide)
  obtain rfl := knows_no (show rC (rowN 3) = false from rfl) h2
  rw [wl_3] at hw
  clear h1 h2
  rcases formsW hAm with ⟨rA, hA1, hA2, rfl⟩ | ⟨mA, mA1, mA2, rfl⟩ | ⟨hA, kA⟩ | rfl | hA
  · have hA : 0 ≤ rA ∧ rA < 8 := ⟨hA1, hA2⟩
    rcases formsW hBm with ⟨rB, hB1, hB2, rfl⟩ | ⟨mB, mB1, mB2, rfl⟩ | ⟨hB, kB⟩ | rfl | hB
    · have hB : 0 ≤ rB ∧ rB < 8 := ⟨hB1, hB2⟩
      rw [if_neg (nR2 _)] at hw
      rcases List.mem_append.1 hw with hw | hw
      · rw [if_pos (kR _)] at hw
        obtain ⟨t, ht, rfl⟩ := List.mem_map.1 hw
        refine ⟨(⟨65479, 1, 54, 6, 5⟩ : Rw), 1, rB, t, ⟨(of_decide_eq_true (by kernel_rfl)), (.inl (by omega)), hB, (by kernel_rfl), (show ¬ (3 : Int) = 0 ∧ ¬ (3 : Int) = -1 by decide), (if_neg (by decide)).symm, (show (false : Bool) = ((1 : Int) / 256 == 243) by decide), Eq.mpr (if_pos rfl) ⟨reg_RMb hA, ht⟩, Eq.mpr (if_neg (by decide)) rfl, (fun h => absurd h (by decide))⟩, ?way⟩
        case way => simp [wayR, opB, codeB, onReg, onImm, onZ]
      · rw [if_pos (kR _)] at hw
        obtain ⟨t, ht, rfl⟩ := List.mem_map.1 hw
        refine ⟨(⟨65479, 3, 54, 5, 6⟩ : Rw), 3, rA, t, ⟨(of_decide_eq_true (by kernel_rfl)), (.inl (by omega)), hA, (by kernel_rfl), (show ¬ (3 : Int) = 0 ∧ ¬ (3 : Int) = -1 by decide), (if_neg (by decide)).symm, (show (false : Bool) = ((3 : Int) / 256 == 243) by decide), Eq.mpr (if_neg (by decide)) rfl, Eq.mpr (if_pos rfl) ⟨reg_RMb hB, ht⟩, (fun h => absurd h (by decide))⟩, ?way⟩
        case way => simp [wayR, opB, codeB, onReg, onImm, onZ]
    · rw [if_pos (kI _)] at hw
      rcases List.mem_append.1 hw with hw | hw
      · rcases List.mem_append.1 hw with hw | hw
        · by_cases hq : rA = 0
          · subst hq
            rw [if_pos (show isR0 (onReg 0) = true from rfl)] at hw
            obtain rfl := List.mem_singleton.1 hw
            refine ⟨(⟨65479, 5, 54, 1, 9⟩ : Rw), 5, 0, [], ⟨(of_decide_eq_true (by kernel_rfl)), (.inl (by omega)), (by decide), (by kernel_rfl), (show ¬ (3 : Int) = 0 ∧ ¬ (3 : Int) = -1 by decide), (if_neg (by decide)).symm, (show (false : Bool) = ((5 : Int) / 256 == 243) by decide), Eq.mpr (if_neg (by decide)) rfl, Eq.mpr (if_neg (by decide)) ⟨rfl, mB1, mB2⟩, (fun _ => ⟨rfl, rfl⟩)⟩, ?way⟩
            case way => simp [wayR, opB, codeB, onReg, onImm, onZ]
          · rw [if_neg (isR0_reg hq)] at hw
            cases hw
        · by_cases hq : fitI (onImm mB).m = true
          · rw [if_pos hq] at hw
            obtain ⟨u, hu, rfl⟩ := List.mem_map.1 hw
            obtain ⟨t, ht, rfl⟩ := List.mem_map.1 hu
            refine ⟨(⟨65535, 131, 54, 6, 8⟩ : Rw), 131, 0, t, ⟨(of_decide_eq_true (by kernel_rfl)), (.inl (by omega)), (by decide), (by kernel_rfl), (show ¬ (3 : Int) = 0 ∧ ¬ (3 : Int) = -1 by decide), (if_neg (by decide)).symm, (show (false : Bool) = ((131 : Int) / 256 == 243) by decide), Eq.mpr (if_pos rfl) ⟨reg_RMb hA, ht⟩, Eq.mpr (if_neg (by decide)) ⟨rfl, hq, mB1, mB2⟩, (fun h => absurd h (by decide))⟩, ?way⟩
            case way => simp [wayR, opB, codeB, onReg, onImm, onZ]
          · rw [if_neg hq] at hw
            cases hw
      · obtain ⟨u, hu, rfl⟩ := List.mem_map.1 hw
        obtain ⟨t, ht, rfl⟩ := List.mem_map.1 hu
        refine ⟨(⟨65535, 129, 54, 6, 9⟩ : Rw), 129, 0, t, ⟨(of_decide_eq_true (by kernel_rfl)), (.inl (by omega)), (by decide), (by kernel_rfl), (show ¬ (3 : Int) = 0 ∧ ¬ (3 : Int) = -1 by decide), (if_neg (by decide)).symm, (show (false : Bool) = ((129 : Int) / 256 == 243) by decide), Eq.mpr (if_pos rfl) ⟨reg_RMb hA, ht⟩, Eq.mpr (if_neg (by decide)) ⟨rfl, mB1, mB2⟩, (fun h => absurd h (by decide))⟩, ?way⟩
        case way => simp [wayR, opB, codeB, onReg, onImm, onZ]
    · rw [if_neg (show ¬ B.k = 2 by rw [kB]; decide)] at hw
      rcases List.mem_append.1 hw with hw | hw
      · rw [if_neg (show ¬ B.k = 1 by rw [kB]; decide)] at hw
        cases hw
      · rw [if_pos (kR _)] at hw
        obtain ⟨t, ht, rfl⟩ := List.mem_map.1 hw
        refine ⟨(⟨65479, 3, 54, 5, 6⟩ : Rw), 3, rA, t, ⟨(of_decide_eq_true (by kernel_rfl)), (.inl (by omega)), hA, (by kernel_rfl), (show ¬ (3 : Int) = 0 ∧ ¬ (3 : Int) = -1 by decide), (if_neg (by decide)).symm, (show (false : Bool) = ((3 : Int) / 256 == 243) by decide), Eq.mpr (if_neg (by decide)) rfl, Eq.mpr (if_pos rfl) ⟨hB, ht⟩, (fun h => absurd h (by decide))⟩, ?way⟩
        case way => simp [wayR, opB, codeB, onReg, onImm, onZ]
    · exact not_taken hi (SA := [2, 6]) (SB := [1]) (by kernel_rfl) (mem_reg ⟨hA1, hA2⟩) mem_z
    · exact not_taken hi (SA := [2, 6]) (SB := [0]) (by kernel_rfl) (mem_reg ⟨hA1, hA2⟩) (by rw [hB]; decide)
  · exact not_taken hi (SA := [16, 48, 112]) (SB := l8) (by kernel_rfl) (mem_imm _) (cA_mem _)
  · rcases formsW hBm with ⟨rB, hB1, hB2, rfl⟩ | ⟨mB, mB1, mB2, rfl⟩ | ⟨hB, kB⟩ | rfl | hB
    · have hB : 0 ≤ rB ∧ rB < 8 := ⟨hB1, hB2⟩
      rw [if_neg (nR2 _)] at hw
      rcases List.mem_append.1 hw with hw | hw
      · rw [if_pos (kR _)] at hw
        obtain ⟨t, ht, rfl⟩ := List.mem_map.1 hw
        refine ⟨(⟨65479, 1, 54, 6, 5⟩ : Rw), 1, rB, t, ⟨(of_decide_eq_true (by kernel_rfl)), (.inl (by omega)), hB, (by kernel_rfl), (show ¬ (3 : Int) = 0 ∧ ¬ (3 : Int) = -1 by decide), (if_neg (by decide)).symm, (show (false : Bool) = ((1 : Int) / 256 == 243) by decide), Eq.mpr (if_pos rfl) ⟨hA, ht⟩, Eq.mpr (if_neg (by decide)) rfl, (fun h => absurd h (by decide))⟩, ?way⟩
        case way => simp [wayR, opB, codeB, onReg, onImm, onZ]
      · rw [if_neg (show ¬ A.k = 1 by rw [kA]; decide)] at hw
        cases hw
    · rw [if_pos (kI _)] at hw
      rcases List.mem_append.1 hw with hw | hw
      · rcases List.mem_append.1 hw with hw | hw
        · rw [if_neg (isR0_mem kA)] at hw
          cases hw
        · by_cases hq : fitI (onImm mB).m = true
          · rw [if_pos hq] at hw
            obtain ⟨u, hu, rfl⟩ := List.mem_map.1 hw
            obtain ⟨t, ht, rfl⟩ := List.mem_map.1 hu
            refine ⟨(⟨65535, 131, 54, 6, 8⟩ : Rw), 131, 0, t, ⟨(of_decide_eq_true (by kernel_rfl)), (.inl (by omega)), (by decide), (by kernel_rfl), (show ¬ (3 : Int) = 0 ∧ ¬ (3 : Int) = -1 by decide), (if_neg (by decide)).symm, (show (false : Bool) = ((131 : Int) / 256 == 243) by decide), Eq.mpr (if_pos rfl) ⟨hA, ht⟩, Eq.mpr (if_neg (by decide)) ⟨rfl, hq, mB1, mB2⟩, (fun h => absurd h (by decide))⟩, ?way⟩
            case way => simp [wayR, opB, codeB, onReg, onImm, onZ]
          · rw [if_neg hq] at hw
            cases hw
      · obtain ⟨u, hu, rfl⟩ := List.mem_map.1 hw
        obtain ⟨t, ht, rfl⟩ := List.mem_map.1 hu
        refine ⟨(⟨65535, 129, 54, 6, 9⟩ : Rw), 129, 0, t, ⟨(of_decide_eq_true (by kernel_rfl)), (.inl (by omega)), (by decide), (by kernel_rfl), (show ¬ (3 : Int) = 0 ∧ ¬ (3 : Int) = -1 by decide), (if_neg (by decide)).symm, (show (false : Bool) = ((129 : Int) / 256 == 243) by decide), Eq.mpr (if_pos rfl) ⟨hA, ht⟩, Eq.mpr (if_neg (by decide)) ⟨rfl, mB1, mB2⟩, (fun h => absurd h (by decide))⟩, ?way⟩
        case way => simp [wayR, opB, codeB, onReg, onImm, onZ]
    · exact not_taken hi (SA := [8]) (SB := [8]) (by kernel_rfl) (mem_mem hA.1 kA) (mem_mem hB.1 kB)
    · exact not_taken hi (SA := [8]) (SB := [1]) (by kernel_rfl) (mem_mem hA.1 kA) mem_z
    · exact not_taken hi (SA := [8]) (SB := [0]) (by kernel_rfl) (mem_mem hA.1 kA) (by rw [hB]; decide)
  · exact not_taken hi (SA := [1]) (SB := l8) (by kernel_rfl) mem_z (cA_mem _)
  · exact not_taken hi (SA := [0]) (SB := l8) (by kernel_rfl) (by rw [hA]; decide) (cA_mem _)
theorem bw_4 {c : Int} {A B : On} {rep : Bool} {l : Int} (hi : isB ⟨4, c, A, B, rep, l⟩ = true) (hAm : 0 ≤ A.m ∧ A.m ≤ 4294967295) (hBm : 0 ≤ B.m ∧ B.m ≤ 4294967295) {w : List Int} (hw : w ∈ waysL ⟨4, c, A, B, rep, l⟩) : ByWay ⟨4, c, A, B, rep, l⟩ w := by
  obtain ⟨h1, h2⟩ := isB_parts hi
  obtain rfl : rep = false := by cases rep; rfl; exact absurd (show false = true from h1) (by decide)
  obtain rfl := knows_no (show rC (rowN 4) = false from rfl) h2
  rw [wl_4] at hw
  clear h1 h2
  rcases formsW hAm with ⟨rA, hA1, hA2, rfl⟩ | ⟨mA, mA1, mA2, rfl⟩ | ⟨hA, kA⟩ | rfl | hA
  · have hA : 0 ≤ rA ∧ rA < 8 := ⟨hA1, hA2⟩
    rcases formsW hBm with ⟨rB, hB1, hB2, rfl⟩ | ⟨mB, mB1, mB2, rfl⟩ | ⟨hB, kB⟩ | rfl | hB
    · have hB : 0 ≤ rB ∧ rB < 8 := ⟨hB1, hB2⟩
      rw [if_neg (nR2 _)] at hw
      rcases List.mem_append.1 hw with hw | hw
      · rw [if_pos (kR _)] at hw
        obtain ⟨t, ht, rfl⟩ := List.mem_map.1 hw
        refine ⟨(⟨65479, 1, 54, 6, 5⟩ : Rw), 9, rB, t, ⟨(of_decide_eq_true (by kernel_rfl)), (.inl (by omega)), hB, (by kernel_rfl), (show ¬ (4 : Int) = 0 ∧ ¬ (4 : Int) = -1 by decide), (if_neg (by decide)).symm, (show (false : Bool) = ((9 : Int) / 256 == 243) by decide), Eq.mpr (if_pos rfl) ⟨reg_RMb hA, ht⟩, Eq.mpr (if_neg (by decide)) rfl, (fun h => absurd h (by decide))⟩, ?way⟩
        case way => simp [wayR, opB, codeB, onReg, onImm, onZ]
      · rw [if_pos (kR _)] at hw
        obtain ⟨t, ht, rfl⟩ := List.mem_map.1 hw
        refine ⟨(⟨65479, 3, 54, 5, 6⟩ : Rw), 11, rA, t, ⟨(of_decide_eq_true (by kernel_rfl)), (.inl (by omega)), hA, (by kernel_rfl), (show ¬ (4 : Int) = 0 ∧ ¬ (4 : Int) = -1 by decide), (if_neg (by decide)).symm, (show (false : Bool) = ((11 : Int) / 256 == 243) by decide), Eq.mpr (if_neg (by decide)) rfl, Eq.mpr (if_pos rfl) ⟨reg_RMb hB, ht⟩, (fun h => absurd h (by decide))⟩, ?way⟩
        case way => simp [wayR, opB, codeB, onReg, onImm, onZ]
    · rw [if_pos (kI _)] at hw
      rcases List.mem_append.1 hw with hw | hw
      · rcases List.mem_append.1 hw with hw | hw
        · by_cases hq : rA = 0
          · subst hq
            rw [if_pos (show isR0 (onReg 0) = true from rfl)] at hw
            obtain rfl := List.mem_singleton.1 hw
            refine ⟨(⟨65479, 5, 54, 1, 9⟩ : Rw), 13, 0, [], ⟨(of_decide_eq_true (by kernel_rfl)), (.inl (by omega)), (by decide), (by kernel_rfl), (show ¬ (4 : Int) = 0 ∧ ¬ (4 : Int) = -1 by decide), (if_neg (by decide)).symm, (show (false : Bool) = ((13 : Int) / 256 == 243) by decide), Eq.mpr (if_neg (by decide)) rfl, Eq.mpr (if_neg (by decide)) ⟨rfl, mB1, mB2⟩, (fun _ => ⟨rfl, rfl⟩)⟩, ?way⟩
            case way => simp [wayR, opB, codeB, onReg, onImm, onZ]
          · rw [if_neg (isR0_reg hq)] at hw
            cases hw
        · by_cases hq : fitI (onImm mB).m = true
          · rw [if_pos hq] at hw
            obtain ⟨u, hu, rfl⟩ := List.mem_map.1 hw
            obtain ⟨t, ht, rfl⟩ := List.mem_map.1 hu
            refine ⟨(⟨65535, 131, 54, 6, 8⟩ : Rw), 131, 1, t, ⟨(of_decide_eq_true (by kernel_rfl)), (.inl (by omega)), (by decide), (by kernel_rfl), (show ¬ (4 : Int) = 0 ∧ ¬ (4 : Int) = -1 by decide), (if_neg (by decide)).symm, (show (false : Bool) = ((131 : Int) / 256 == 243) by decide), Eq.mpr (if_pos rfl) ⟨reg_RMb hA, ht⟩, Eq.mpr (if_neg (by decide)) ⟨rfl, hq, mB1, mB2⟩, (fun h => absurd h (by decide))⟩, ?way⟩
            case way => simp [wayR, opB, codeB, onReg, onImm, onZ]
          · rw [if_neg hq] at hw
            cases hw
      · obtain ⟨u, hu, rfl⟩ := List.mem_map.1 hw
        obtain ⟨t, ht, rfl⟩ := List.mem_map.1 hu
        refine ⟨(⟨65535, 129, 54, 6, 9⟩ : Rw), 129, 1, t, ⟨(of_decide_eq_true (by kernel_rfl)), (.inl (by omega)), (by decide), (by kernel_rfl), (show ¬ (4 : Int) = 0 ∧ ¬ (4 : Int) = -1 by decide), (if_neg (by decide)).symm, (show (false : Bool) = ((129 : Int) / 256 == 243) by decide), Eq.mpr (if_pos rfl) ⟨reg_RMb hA, ht⟩, Eq.mpr (if_neg (by decide)) ⟨rfl, mB1, mB2⟩, (fun h => absurd h (by decide))⟩, ?way⟩
        case way => simp [wayR, opB, codeB, onReg, onImm, onZ]
    · rw [if_neg (show ¬ B.k = 2 by rw [kB]; decide)] at hw
      rcases List.mem_append.1 hw with hw | hw
      · rw [if_neg (show ¬ B.k = 1 by rw [kB]; decide)] at hw
        cases hw
      · rw [if_pos (kR _)] at hw
        obtain ⟨t, ht, rfl⟩ := List.mem_map.1 hw
        refine ⟨(⟨65479, 3, 54, 5, 6⟩ : Rw), 11, rA, t, ⟨(of_decide_eq_true (by kernel_rfl)), (.inl (by omega)), hA, (by kernel_rfl), (show ¬ (4 : Int) = 0 ∧ ¬ (4 : Int) = -1 by decide), (if_neg (by decide)).symm, (show (false : Bool) = ((11 : Int) / 256 == 243) by decide), Eq.mpr (if_neg (by decide)) rfl, Eq.mpr (if_pos rfl) ⟨hB, ht⟩, (fun h => absurd h (by decide))⟩, ?way⟩
        case way => simp [wayR, opB, codeB, onReg, onImm, onZ]
    · exact not_taken hi (SA := [2, 6]) (SB := [1]) (by kernel_rfl) (mem_reg ⟨hA1, hA2⟩) mem_z
    · exact not_taken hi (SA := [2, 6]) (SB := [0]) (by kernel_rfl) (mem_reg ⟨hA1, hA2⟩) (by rw [hB]; decide)
  · exact not_taken hi (SA := [16, 48, 112]) (SB := l8) (by kernel_rfl) (mem_imm _) (cA_mem _)
  · rcases formsW hBm with ⟨rB, hB1, hB2, rfl⟩ | ⟨mB, mB1, mB2, rfl⟩ | ⟨hB, kB⟩ | rfl | hB
    · have hB : 0 ≤ rB ∧ rB < 8 := ⟨hB1, hB2⟩
      rw [if_neg (nR2 _)] at hw
      rcases List.mem_append.1 hw with hw | hw
      · rw [if_pos (kR _)] at hw
        obtain ⟨t, ht, rfl⟩ := List.mem_map.1 hw
        refine ⟨(⟨65479, 1, 54, 6, 5⟩ : Rw), 9, rB, t, ⟨(of_decide_eq_true (by kernel_rfl)), (.inl (by omega)), hB, (by kernel_rfl), (show ¬ (4 : Int) = 0 ∧ ¬ (4 : Int) = -1 by decide), (if_neg (by decide)).symm, (show (false : Bool) = ((9 : Int) / 256 == 243) by decide), Eq.mpr (if_pos rfl) ⟨hA, ht⟩, Eq.mpr (if_neg (by decide)) rfl, (fun h => absurd h (by decide))⟩, ?way⟩
        case way => simp [wayR, opB, codeB, onReg, onImm, onZ]
      · rw [if_neg (show ¬ A.k = 1 by rw [kA]; decide)] at hw
        cases hw
    · rw [if_pos (kI _)] at hw
      rcases List.mem_append.1 hw with hw | hw
      · rcases List.mem_append.1 hw with hw | hw
        · rw [if_neg (isR0_mem kA)] at hw
          cases hw
        · by_cases hq : fitI (onImm mB).m = true
          · rw [if_pos hq] at hw
            obtain ⟨u, hu, rfl⟩ := List.mem_map.1 hw
            obtain ⟨t, ht, rfl⟩ := List.mem_map.1 hu
            refine ⟨(⟨65535, 131, 54, 6, 8⟩ : Rw), 131, 1, t, ⟨(of_decide_eq_true (by kernel_rfl)), (.inl (by omega)), (by decide), (by kernel_rfl), (show ¬ (4 : Int) = 0 ∧ ¬ (4 : Int) = -1 by decide), (if_neg (by decide)).symm, (show (false : Bool) = ((131 : Int) / 256 == 243) by decide), Eq.mpr (if_pos rfl) ⟨hA, ht⟩, Eq.mpr (if_neg (by decide)) ⟨rfl, hq, mB1, mB2⟩, (fun h => absurd h (by decide))⟩, ?way⟩
            case way => simp [wayR, opB, codeB, onReg, onImm, onZ]
          · rw [if_neg hq] at hw
            cases hw
      · obtain ⟨u, hu, rfl⟩ := List.mem_map.1 hw
        obtain ⟨t, ht, rfl⟩ := List.mem_map.1 hu
        refine ⟨(⟨65535, 129, 54, 6, 9⟩ : Rw), 129, 1, t, ⟨(of_decide_eq_true (by kernel_rfl)), (.inl (by omega)), (by decide), (by kernel_rfl), (show ¬ (4 : Int) = 0 ∧ ¬ (4 : Int) = -1 by decide), (if_neg (by decide)).symm, (show (false : Bool) = ((129 : Int) / 256 == 243) by decide), Eq.mpr (if_pos rfl) ⟨hA, ht⟩, Eq.mpr (if_neg (by decide)) ⟨rfl, mB1, mB2⟩, (fun h => absurd h (by decide))⟩, ?way⟩
        case way => simp [wayR, opB, codeB, onReg, onImm, onZ]
    · exact not_taken hi (SA := [8]) (SB := [8]) (by kernel_rfl) (mem_mem hA.1 kA) (mem_mem hB.1 kB)
    · exact not_taken hi (SA := [8]) (SB := [1]) (by kernel_rfl) (mem_mem hA.1 kA) mem_z
    · exact not_taken hi (SA := [8]) (SB := [0]) (by kernel_rfl) (mem_mem hA.1 kA) (by rw [hB]; decide)
  · exact not_taken hi (SA := [1]) (SB := l8) (by kernel_rfl) mem_z (cA_mem _)
  · exact not_taken hi (SA := [0]) (SB := l8) (by kernel_rfl) (by rw [hA]; decide) (cA_mem _)
theorem bw_5 {c : Int} {A B : On} {rep : Bool} {l : Int} (hi : isB ⟨5, c, A, B, rep, l⟩ = true) (hAm : 0 ≤ A.m ∧ A.m ≤ 4294967295) (hBm : 0 ≤ B.m ∧ B.m ≤ 4294967295) {w : List Int} (hw : w ∈ waysL ⟨5, c, A, B, rep, l⟩) : ByWay ⟨5, c, A, B, rep, l⟩ w := by
  obtain ⟨h1, h2⟩ := isB_parts hi
  obtain rfl : rep = false := by cases rep; rfl; exact absurd (show false = true from h1) (by decide)
  obtain rfl := knows_no (show rC (rowN 5) = false from rfl) h2
  rw [wl_5] at hw
  clear h1 h2
  rcases formsW hAm with ⟨rA, hA1, hA2, rfl⟩ | ⟨mA, mA1, mA2, rfl⟩ | ⟨hA, kA⟩ | rfl | hA
  · have hA : 0 ≤ rA ∧ rA < 8 := ⟨hA1, hA2⟩
    rcases formsW hBm with ⟨rB, hB1, hB2, rfl⟩ | ⟨mB, mB1, mB2, rfl⟩ | ⟨hB, kB⟩ | rfl | hB
    · have hB : 0 ≤ rB ∧ rB < 8 := ⟨hB1, hB2⟩
      rw [if_neg (nR2 _)] at hw
      rcases List.mem_append.1 hw with hw | hw
      · rw [if_pos (kR _)] at hw
        obtain ⟨t, ht, rfl⟩ := List.mem_map.1 hw
        refine ⟨(⟨65479, 1, 54, 6, 5⟩ : Rw), 17, rB, t, ⟨(of_decide_eq_true (by kernel_rfl)), (.inl (by omega)), hB, (by kernel_rfl), (show ¬ (5 : Int) = 0 ∧ ¬ (5 : Int) = -1 by decide), (if_neg (by decide)).symm, (show (false : Bool) = ((17 : Int) / 256 == 243) by decide), Eq.mpr (if_pos rfl) ⟨reg_RMb hA, ht⟩, Eq.mpr (if_neg (by decide)) rfl, (fun h => absurd h (by decide))⟩, ?way⟩
        case way => simp [wayR, opB, codeB, onReg, onImm, onZ]
      · rw [if_pos (kR _)] at hw
        obtain ⟨t, ht, rfl⟩ := List.mem_map.1 hw
        refine ⟨(⟨65479, 3, 54, 5, 6⟩ : Rw), 19, rA, t, ⟨(of_decide_eq_true (by kernel_rfl)), (.inl (by omega)), hA, (by kernel_rfl), (show ¬ (5 : Int) = 0 ∧ ¬ (5 : Int) = -1 by decide), (if_neg (by decide)).symm, (show (false : Bool) = ((19 : Int) / 256 == 243) by decide), Eq.mpr (if_neg (by decide)) rfl, Eq.mpr (if_pos rfl) ⟨reg_RMb hB, ht⟩, (fun h => absurd h (by decide))⟩, ?way⟩
        case way => simp [wayR, opB, codeB, onReg, onImm, onZ]
    · rw [if_pos (kI _)] at hw
      rcases List.mem_append.1 hw with hw | hw
      · rcases List.mem_append.1 hw with hw | hw
        · by_cases hq : rA = 0
          · subst hq
            rw [if_pos (show isR0 (onReg 0) = true from rfl)] at hw
            obtain rfl := List.mem_singleton.1 hw
            refine ⟨(⟨65479, 5, 54, 1, 9⟩ : Rw), 21, 0, [], ⟨(of_decide_eq_true (by kernel_rfl)), (.inl (by omega)), (by decide), (by kernel_rfl), (show ¬ (5 : Int) = 0 ∧ ¬ (5 : Int) = -1 by decide), (if_neg (by decide)).symm, (show (false : Bool) = ((21 : Int) / 256 == 243) by decide), Eq.mpr (if_neg (by decide)) rfl, Eq.mpr (if_neg (by decide)) ⟨rfl, mB1, mB2⟩, (fun _ => ⟨rfl, rfl⟩)⟩, ?way⟩
            case way => simp [wayR, opB, codeB, onReg, onImm, onZ]
          · rw [if_neg (isR0_reg hq)] at hw
            cases hw
        · by_cases hq : fitI (onImm mB).m = true
          · rw [if_pos hq] at hw
            obtain ⟨u, hu, rfl⟩ := List.mem_map.1 hw
            obtain ⟨t, ht, rfl⟩ := List.mem_map.1 hu
            refine ⟨(⟨65535, 131, 54, 6, 8⟩ : Rw), 131, 2, t, ⟨(of_decide_eq_true (by kernel_rfl)), (.inl (by omega)), (by decide), (by kernel_rfl), (show ¬ (5 : Int) = 0 ∧ ¬ (5 : Int) = -1 by decide), (if_neg (by decide)).symm, (show (false : Bool) = ((131 : Int) / 256 == 243) by decide), Eq.mpr (if_pos rfl) ⟨reg_RMb hA, ht⟩, Eq.mpr (if_neg (by decide)) ⟨rfl, hq, mB1, mB2⟩, (fun h => absurd h (by decide))⟩, ?way⟩
            case way => simp [wayR, opB, codeB, onReg, onImm, onZ]
          · rw [if_neg hq] at hw
            cases hw
      · obtain ⟨u, hu, rfl⟩ := List.mem_map.1 hw
        obtain ⟨t, ht, rfl⟩ := List.mem_map.1 hu
        refine ⟨(⟨65535, 129, 54, 6, 9⟩ : Rw), 129, 2, t, ⟨(of_decide_eq_true (by kernel_rfl)), (.inl (by omega)), (by decide), (by kernel_rfl), (show ¬ (5 : Int) = 0 ∧ ¬ (5 : Int) = -1 by decide), (if_neg (by decide)).symm, (show (false : Bool) = ((129 : Int) / 256 == 243) by decide), Eq.mpr (if_pos rfl) ⟨reg_RMb hA, ht⟩, Eq.mpr (if_neg (by decide)) ⟨rfl, mB1, mB2⟩, (fun h => absurd h (by decide))⟩, ?way⟩
        case way => simp [wayR, opB, codeB, onReg, onImm, onZ]
    · rw [if_neg (show ¬ B.k = 2 by rw [kB]; decide)] at hw
      rcases List.mem_append.1 hw with hw | hw
      · rw [if_neg (show ¬ B.k = 1 by rw [kB]; decide)] at hw
        cases hw
      · rw [if_pos (kR _)] at hw
        obtain ⟨t, ht, rfl⟩ := List.mem_map.1 hw
        refine ⟨(⟨65479, 3, 54, 5, 6⟩ : Rw), 19, rA, t, ⟨(of_decide_eq_true (by kernel_rfl)), (.inl (by omega)), hA, (by kernel_rfl), (show ¬ (5 : Int) = 0 ∧ ¬ (5 : Int) = -1 by decide), (if_neg (by decide)).symm, (show (false : Bool) = ((19 : Int) / 256 == 243) by decide), Eq.mpr (if_neg (by decide)) rfl, Eq.mpr (if_pos rfl) ⟨hB, ht⟩, (fun h => absurd h (by decide))⟩, ?way⟩
        case way => simp [wayR, opB, codeB, onReg, onImm, onZ]
    · exact not_taken hi (SA := [2, 6]) (SB := [1]) (by kernel_rfl) (mem_reg ⟨hA1, hA2⟩) mem_z
    · exact not_taken hi (SA := [2, 6]) (SB := [0]) (by kernel_rfl) (mem_reg ⟨hA1, hA2⟩) (by rw [hB]; decide)
  · exact not_taken hi (SA := [16, 48, 112]) (SB := l8) (by kernel_rfl) (mem_imm _) (cA_mem _)
  · rcases formsW hBm with ⟨rB, hB1, hB2, rfl⟩ | ⟨mB, mB1, mB2, rfl⟩ | ⟨hB, kB⟩ | rfl | hB
    · have hB : 0 ≤ rB ∧ rB < 8 := ⟨hB1, hB2⟩
      rw [if_neg (nR2 _)] at hw
      rcases List.mem_append.1 hw with hw | hw
      · rw [if_pos (kR _)] at hw
        obtain ⟨t, ht, rfl⟩ := List.mem_map.1 hw
        refine ⟨(⟨65479, 1, 54, 6, 5⟩ : Rw), 17, rB, t, ⟨(of_decide_eq_true (by kernel_rfl)), (.inl (by omega)), hB, (by kernel_rfl), (show ¬ (5 : Int) = 0 ∧ ¬ (5 : Int) = -1 by decide), (if_neg (by decide)).symm, (show (false : Bool) = ((17 : Int) / 256 == 243) by decide), Eq.mpr (if_pos rfl) ⟨hA, ht⟩, Eq.mpr (if_neg (by decide)) rfl, (fun h => absurd h (by decide))⟩, ?way⟩
        case way => simp [wayR, opB, codeB, onReg, onImm, onZ]
      · rw [if_neg (show ¬ A.k = 1 by rw [kA]; decide)] at hw
        cases hw
    · rw [if_pos (kI _)] at hw
      rcases List.mem_append.1 hw with hw | hw
      · rcases List.mem_append.1 hw with hw | hw
        · rw [if_neg (isR0_mem kA)] at hw
          cases hw
        · by_cases hq : fitI (onImm mB).m = true
          · rw [if_pos hq] at hw
            obtain ⟨u, hu, rfl⟩ := List.mem_map.1 hw
            obtain ⟨t, ht, rfl⟩ := List.mem_map.1 hu
            refine ⟨(⟨65535, 131, 54, 6, 8⟩ : Rw), 131, 2, t, ⟨(of_decide_eq_true (by kernel_rfl)), (.inl (by omega)), (by decide), (by kernel_rfl), (show ¬ (5 : Int) = 0 ∧ ¬ (5 : Int) = -1 by decide), (if_neg (by decide)).symm, (show (false : Bool) = ((131 : Int) / 256 == 243) by decide), Eq.mpr (if_pos rfl) ⟨hA, ht⟩, Eq.mpr (if_neg (by decide)) ⟨rfl, hq, mB1, mB2⟩, (fun h => absurd h (by decide))⟩, ?way⟩
            case way => simp [wayR, opB, codeB, onReg, onImm, onZ]
          · rw [if_neg hq] at hw
            cases hw
      · obtain ⟨u, hu, rfl⟩ := List.mem_map.1 hw
        obtain ⟨t, ht, rfl⟩ := List.mem_map.1 hu
        refine ⟨(⟨65535, 129, 54, 6, 9⟩ : Rw), 129, 2, t, ⟨(of_decide_eq_true (by kernel_rfl)), (.inl (by omega)), (by decide), (by kernel_rfl), (show ¬ (5 : Int) = 0 ∧ ¬ (5 : Int) = -1 by decide), (if_neg (by decide)).symm, (show (false : Bool) = ((129 : Int) / 256 == 243) by decide), Eq.mpr (if_pos rfl) ⟨hA, ht⟩, Eq.mpr (if_neg (by decide)) ⟨rfl, mB1, mB2⟩, (fun h => absurd h (by decide))⟩, ?way⟩
        case way => simp [wayR, opB, codeB, onReg, onImm, onZ]
    · exact not_taken hi (SA := [8]) (SB := [8]) (by kernel_rfl) (mem_mem hA.1 kA) (mem_mem hB.1 kB)
    · exact not_taken hi (SA := [8]) (SB := [1]) (by kernel_rfl) (mem_mem hA.1 kA) mem_z
    · exact not_taken hi (SA := [8]) (SB := [0]) (by kernel_rfl) (mem_mem hA.1 kA) (by rw [hB]; decide)
  · exact not_taken hi (SA := [1]) (SB := l8) (by kernel_rfl) mem_z (cA_mem _)
  · exact not_taken hi (SA := [0]) (SB := l8) (by kernel_rfl) (by rw [hA]; decide) (cA_mem _)
theorem bw_6 {c : Int} {A B : On} {rep : Bool} {l : Int} (hi : isB ⟨6, c, A, B, rep, l⟩ = true) (hAm : 0 ≤ A.m ∧ A.m ≤ 4294967295) (hBm : 0 ≤ B.m ∧ B.m ≤ 4294967295) {w : List Int} (hw : w ∈ waysL ⟨6, c, A, B, rep, l⟩) : ByWay ⟨6, c, A, B, rep, l⟩ w := by
  obtain ⟨h1, h2⟩ := isB_parts hi
  obtain rfl : rep = false := by cases rep; rfl; exact absurd (show false = true from h1) (by decide)
  obtain rfl := knows_no (show rC (rowN 6) = false from rfl) h2
  rw [wl_6] at hw
  clear h1 h2
  rcases formsW hAm with ⟨rA, hA1, hA2, rfl⟩ | ⟨mA, mA1, mA2, rfl⟩ | ⟨hA, kA⟩ | rfl | hA
  · have hA : 0 ≤ rA ∧ rA < 8 := ⟨hA1, hA2⟩
    rcases formsW hBm with ⟨rB, hB1, hB2, rfl⟩ | ⟨mB, mB1, mB2, rfl⟩ | ⟨hB, kB⟩ | rfl | hB
    · have hB : 0 ≤ rB ∧ rB < 8 := ⟨hB1, hB2⟩
      rw [if_neg (nR2 _)] at hw
      rcases List.mem_append.1 hw with hw | hw
      · rw [if_pos (kR _)] at hw
        obtain ⟨t, ht, rfl⟩ := List.mem_map.1 hw
        refine ⟨(⟨65479, 1, 54, 6, 5⟩ : Rw), 25, rB, t, ⟨(of_decide_eq_true (by kernel_rfl)), (.inl (by omega)), hB, (by kernel_rfl), (show ¬ (6 : Int) = 0 ∧ ¬ (6 : Int) = -1 by decide), (if_neg (by decide)).symm, (show (false : Bool) = ((25 : Int) / 256 == 243) by decide), Eq.mpr (if_pos rfl) ⟨reg_RMb hA, ht⟩, Eq.mpr (if_neg (by decide)) rfl, (fun h => absurd h (by decide))⟩, ?way⟩
        case way => simp [wayR, opB, codeB, onReg, onImm, onZ]
      · rw [if_pos (kR _)] at hw
        obtain ⟨t, ht, rfl⟩ := List.mem_map.1 hw
        refine ⟨(⟨65479, 3, 54, 5, 6⟩ : Rw), 27, rA, t, ⟨(of_decide_eq_true (by kernel_rfl)), (.inl (by omega)), hA, (by kernel_rfl), (show ¬ (6 : Int) = 0 ∧ ¬ (6 : Int) = -1 by decide), (if_neg (by decide)).symm, (show (false : Bool) = ((27 : Int) / 256 == 243) by decide), Eq.mpr (if_neg (by decide)) rfl, Eq.mpr (if_pos rfl) ⟨reg_RMb hB, ht⟩, (fun h => absurd h (by decide))⟩, ?way⟩
        case way => simp [wayR, opB, codeB, onReg, onImm, onZ]
    · rw [if_pos (kI _)] at hw
      rcases List.mem_append.1 hw with hw | hw
      · rcases List.mem_append.1 hw with hw | hw
        · by_cases hq : rA = 0
          · subst hq
            rw [if_pos (show isR0 (onReg 0) = true from rfl)] at hw
            obtain rfl := List.mem_singleton.1 hw
            refine ⟨(⟨65479, 5, 54, 1, 9⟩ : Rw), 29, 0, [], ⟨(of_decide_eq_true (by kernel_rfl)), (.inl (by omega)), (by decide), (by kernel_rfl), (show ¬ (6 : Int) = 0 ∧ ¬ (6 : Int) = -1 by decide), (if_neg (by decide)).symm, (show (false : Bool) = ((29 : Int) / 256 == 243) by decide), Eq.mpr (if_neg (by decide)) rfl, Eq.mpr (if_neg (by decide)) ⟨rfl, mB1, mB2⟩, (fun _ => ⟨rfl, rfl⟩)⟩, ?way⟩
            case way => simp [wayR, opB, codeB, onReg, onImm, onZ]
          · rw [if_neg (isR0_reg hq)] at hw
            cases hw
        · by_cases hq : fitI (onImm mB).m = true
          · rw [if_pos hq] at hw
            obtain ⟨u, hu, rfl⟩ := List.mem_map.1 hw
            obtain ⟨t, ht, rfl⟩ := List.mem_map.1 hu
            refine ⟨(⟨65535, 131, 54, 6, 8⟩ : Rw), 131, 3, t, ⟨(of_decide_eq_true (by kernel_rfl)), (.inl (by omega)), (by decide), (by kernel_rfl), (show ¬ (6 : Int) = 0 ∧ ¬ (6 : Int) = -1 by decide), (if_neg (by decide)).symm, (show (false : Bool) = ((131 : Int) / 256 == 243) by decide), Eq.mpr (if_pos rfl) ⟨reg_RMb hA, ht⟩, Eq.mpr (if_neg (by decide)) ⟨rfl, hq, mB1, mB2⟩, (fun h => absurd h (by decide))⟩, ?way⟩
            case way => simp [wayR, opB, codeB, onReg, onImm, onZ]
          · rw [if_neg hq] at hw
            cases hw
      · obtain ⟨u, hu, rfl⟩ := List.mem_map.1 hw
        obtain ⟨t, ht, rfl⟩ := List.mem_map.1 hu
        refine ⟨(⟨65535, 129, 54, 6, 9⟩ : Rw), 129, 3, t, ⟨(of_decide_eq_true (by kernel_rfl)), (.inl (by omega)), (by decide), (by kernel_rfl), (show ¬ (6 : Int) = 0 ∧ ¬ (6 : Int) = -1 by decide), (if_neg (by decide)).symm, (show (false : Bool) = ((129 : Int) / 256 == 243) by decide), Eq.mpr (if_pos rfl) ⟨reg_RMb hA, ht⟩, Eq.mpr (if_neg (by decide)) ⟨rfl, mB1, mB2⟩, (fun h => absurd h (by decide))⟩, ?way⟩
        case way => simp [wayR, opB, codeB, onReg, onImm, onZ]
    · rw [if_neg (show ¬ B.k = 2 by rw [kB]; decide)] at hw
      rcases List.mem_append.1 hw with hw | hw
      · rw [if_neg (show ¬ B.k = 1 by rw [kB]; decide)] at hw
        cases hw
      · rw [if_pos (kR _)] at hw
        obtain ⟨t, ht, rfl⟩ := List.mem_map.1 hw
        refine ⟨(⟨65479, 3, 54, 5, 6⟩ : Rw), 27, rA, t, ⟨(of_decide_eq_true (by kernel_rfl)), (.inl (by omega)), hA, (by kernel_rfl), (show ¬ (6 : Int) = 0 ∧ ¬ (6 : Int) = -1 by decide), (if_neg (by decide)).symm, (show (false : Bool) = ((27 : Int) / 256 == 243) by decide), Eq.mpr (if_neg (by decide)) rfl, Eq.mpr (if_pos rfl) ⟨hB, ht⟩, (fun h => absurd h (by decide))⟩, ?way⟩
        case way => simp [wayR, opB, codeB, onReg, onImm, onZ]
    · exact not_taken hi (SA := [2, 6]) (SB := [1]) (by kernel_rfl) (mem_reg ⟨hA1, hA2⟩) mem_z
    · exact not_taken hi (SA := [2, 6]) (SB := [0]) (by kernel_rfl) (mem_reg ⟨hA1, hA2⟩) (by rw [hB]; decide)
  · exact not_taken hi (SA := [16, 48, 112]) (SB := l8) (by kernel_rfl) (mem_imm _) (cA_mem _)
  · rcases formsW hBm with ⟨rB, hB1, hB2, rfl⟩ | ⟨mB, mB1, mB2, rfl⟩ | ⟨hB, kB⟩ | rfl | hB
    · have hB : 0 ≤ rB ∧ rB < 8 := ⟨hB1, hB2⟩
      rw [if_neg (nR2 _)] at hw
      rcases List.mem_append.1 hw with hw | hw
      · rw [if_pos (kR _)] at hw
        obtain ⟨t, ht, rfl⟩ := List.mem_map.1 hw
        refine ⟨(⟨65479, 1, 54, 6, 5⟩ : Rw), 25, rB, t, ⟨(of_decide_eq_true (by kernel_rfl)), (.inl (by omega)), hB, (by kernel_rfl), (show ¬ (6 : Int) = 0 ∧ ¬ (6 : Int) = -1 by decide), (if_neg (by decide)).symm, (show (false : Bool) = ((25 : Int) / 256 == 243) by decide), Eq.mpr (if_pos rfl) ⟨hA, ht⟩, Eq.mpr (if_neg (by decide)) rfl, (fun h => absurd h (by decide))⟩, ?way⟩
        case way => simp [wayR, opB, codeB, onReg, onImm, onZ]
      · rw [if_neg (show ¬ A.k = 1 by rw [kA]; decide)] at hw
        cases hw
    · rw [if_pos (kI _)] at hw
      rcases List.mem_append.1 hw with hw | hw
      · rcases List.mem_append.1 hw with hw | hw
        · rw [if_neg (isR0_mem kA)] at hw
          cases hw
        · by_cases hq : fitI (onImm mB).m = true
          · rw [if_pos hq] at hw
            obtain ⟨u, hu, rfl⟩ := List.mem_map.1 hw
            obtain ⟨t, ht, rfl⟩ := List.mem_map.1 hu
            refine ⟨(⟨65535, 131, 54, 6, 8⟩ : Rw), 131, 3, t, ⟨(of_decide_eq_true (by kernel_rfl)), (.inl (by omega)), (by decide), (by kernel_rfl), (show ¬ (6 : Int) = 0 ∧ ¬ (6 : Int) = -1 by decide), (if_neg (by decide)).symm, (show (false : Bool) = ((131 : Int) / 256 == 243) by decide), Eq.mpr (if_pos rfl) ⟨hA, ht⟩, Eq.mpr (if_neg (by decide)) ⟨rfl, hq, mB1, mB2⟩, (fun h => absurd h (by decide))⟩, ?way⟩
            case way => simp [wayR, opB, codeB, onReg, onImm, onZ]
          · rw [if_neg hq] at hw
            cases hw
      · obtain ⟨u, hu, rfl⟩ := List.mem_map.1 hw
        obtain ⟨t, ht, rfl⟩ := List.mem_map.1 hu
        refine ⟨(⟨65535, 129, 54, 6, 9⟩ : Rw), 129, 3, t, ⟨(of_decide_eq_true (by kernel_rfl)), (.inl (by omega)), (by decide), (by kernel_rfl), (show ¬ (6 : Int) = 0 ∧ ¬ (6 : Int) = -1 by decide), (if_neg (by decide)).symm, (show (false : Bool) = ((129 : Int) / 256 == 243) by decide), Eq.mpr (if_pos rfl) ⟨hA, ht⟩, Eq.mpr (if_neg (by decide)) ⟨rfl, mB1, mB2⟩, (fun h => absurd h (by decide))⟩, ?way⟩
        case way => simp [wayR, opB, codeB, onReg, onImm, onZ]
    · exact not_taken hi (SA := [8]) (SB := [8]) (by kernel_rfl) (mem_mem hA.1 kA) (mem_mem hB.1 kB)
    · exact not_taken hi (SA := [8]) (SB := [1]) (by kernel_rfl) (mem_mem hA.1 kA) mem_z
    · exact not_taken hi (SA := [8]) (SB := [0]) (by kernel_rfl) (mem_mem hA.1 kA) (by rw [hB]; decide)
  · exact not_taken hi (SA := [1]) (SB := l8) (by kernel_rfl) mem_z (cA_mem _)
  · exact not_taken hi (SA := [0]) (SB := l8) (by kernel_rfl) (by rw [hA]; decide) (cA_mem _)
theorem bw_7 {c : Int} {A B : On} {rep : Bool} {l : Int} (hi : isB ⟨7, c, A, B, rep, l⟩ = true) (hAm : 0 ≤ A.m ∧ A.m ≤ 4294967295) (hBm : 0 ≤ B.m ∧ B.m ≤ 4294967295) {w : List Int} (hw : w ∈ waysL ⟨7, c, A, B, rep, l⟩) : ByWay ⟨7, c, A, B, rep, l⟩ w := by
  obtain ⟨h1, h2⟩ := isB_parts hi
  obtain rfl : rep = false := by cases rep; rfl; exact absurd (show false = true from h1) (by decide)
  obtain rfl := knows_no (show rC (rowN 7) = false from rfl) h2
  rw [wl_7] at hw
  clear h1 h2
  rcases formsW hAm with ⟨rA, hA1, hA2, rfl⟩ | ⟨mA, mA1, mA2, rfl⟩ | ⟨hA, kA⟩ | rfl | hA
  · have hA : 0 ≤ rA ∧ rA < 8 := ⟨hA1, hA2⟩
    rcases formsW hBm with ⟨rB, hB1, hB2, rfl⟩ | ⟨mB, mB1, mB2, rfl⟩ | ⟨hB, kB⟩ | rfl | hB
    · have hB : 0 ≤ rB ∧ rB < 8 := ⟨hB1, hB2⟩
      rw [if_neg (nR2 _)] at hw
      rcases List.mem_append.1 hw with hw | hw
      · rw [if_pos (kR _)] at hw
        obtain ⟨t, ht, rfl⟩ := List.mem_map.1 hw
        refine ⟨(⟨65479, 1, 54, 6, 5⟩ : Rw), 33, rB, t, ⟨(of_decide_eq_true (by kernel_rfl)), (.inl (by omega)), hB, (by kernel_rfl), (show ¬ (7 : Int) = 0 ∧ ¬ (7 : Int) = -1 by decide), (if_neg (by decide)).symm, (show (false : Bool) = ((33 : Int) / 256 == 243) by decide), Eq.mpr (if_pos rfl) ⟨reg_RMb hA, ht⟩, Eq.mpr (if_neg (by decide)) rfl, (fun h => absurd h (by decide))⟩, ?way⟩
        case way => simp [wayR, opB, codeB, onReg, onImm, onZ]
      · rw [if_pos (kR _)] at hw
        obtain ⟨t, ht, rfl⟩ := List.mem_map.1 hw
        refine ⟨(⟨65479, 3, 54, 5, 6⟩ : Rw), 35, rA, t, ⟨(of_decide_eq_true (by kernel_rfl)), (.inl (by omega)), hA, (by kernel_rfl), (show ¬ (7 : Int) = 0 ∧ ¬ (7 : Int) = -1 by decide), (if_neg (by decide)).symm, (show (false : Bool) = ((35 : Int) / 256 == 243) by decide), Eq.mpr (if_neg (by decide)) rfl, Eq.mpr (if_pos rfl) ⟨reg_RMb hB, ht⟩, (fun h => absurd h (by decide))⟩, ?way⟩
        case way => simp [wayR, opB, codeB, onReg, onImm, onZ]
    · rw [if_pos (kI _)] at hw
      rcases List.mem_append.1 hw with hw | hw
      · rcases List.mem_append.1 hw with hw | hw
        · by_cases hq : rA = 0
          · subst hq
            rw [if_pos (show isR0 (onReg 0) = true from rfl)] at hw
            obtain rfl := List.mem_singleton.1 hw
            refine ⟨(⟨65479, 5, 54, 1, 9⟩ : Rw), 37, 0, [], ⟨(of_decide_eq_true (by kernel_rfl)), (.inl (by omega)), (by decide), (by kernel_rfl), (show ¬ (7 : Int) = 0 ∧ ¬ (7 : Int) = -1 by decide), (if_neg (by decide)).symm, (show (false : Bool) = ((37 : Int) / 256 == 243) by decide), Eq.mpr (if_neg (by decide)) rfl, Eq.mpr (if_neg (by decide)) ⟨rfl, mB1, mB2⟩, (fun _ => ⟨rfl, rfl⟩)⟩, ?way⟩
            case way => simp [wayR, opB, codeB, onReg, onImm, onZ]
          · rw [if_neg (isR0_reg hq)] at hw
            cases hw
        · by_cases hq : fitI (onImm mB).m = true
          · rw [if_pos hq] at hw
            obtain ⟨u, hu, rfl⟩ := List.mem_map.1 hw
            obtain ⟨t, ht, rfl⟩ := List.mem_map.1 hu
            refine ⟨(⟨65535, 131, 54, 6, 8⟩ : Rw), 131, 4, t, ⟨(of_decide_eq_true (by kernel_rfl)), (.inl (by omega)), (by decide), (by kernel_rfl), (show ¬ (7 : Int) = 0 ∧ ¬ (7 : Int) = -1 by decide), (if_neg (by decide)).symm, (show (false : Bool) = ((131 : Int) / 256 == 243) by decide), Eq.mpr (if_pos rfl) ⟨reg_RMb hA, ht⟩, Eq.mpr (if_neg (by decide)) ⟨rfl, hq, mB1, mB2⟩, (fun h => absurd h (by decide))⟩, ?way⟩
            case way => simp [wayR, opB, codeB, onReg, onImm, onZ]
          · rw [if_neg hq] at hw
            cases hw
      · obtain ⟨u, hu, rfl⟩ := List.mem_map.1 hw
        obtain ⟨t, ht, rfl⟩ := List.mem_map.1 hu
        refine ⟨(⟨65535, 129, 54, 6, 9⟩ : Rw), 129, 4, t, ⟨(of_decide_eq_true (by kernel_rfl)), (.inl (by omega)), (by decide), (by kernel_rfl), (show ¬ (7 : Int) = 0 ∧ ¬ (7 : Int) = -1 by decide), (if_neg (by decide)).symm, (show (false : Bool) = ((129 : Int) / 256 == 243) by decide), Eq.mpr (if_pos rfl) ⟨reg_RMb hA, ht⟩, Eq.mpr (if_neg (by decide)) ⟨rfl, mB1, mB2⟩, (fun h => absurd h (by decide))⟩, ?way⟩
        case way => simp [wayR, opB, codeB, onReg, onImm, onZ]
    · rw [if_neg (show ¬ B.k = 2 by rw [kB]; decide)] at hw
      rcases List.mem_append.1 hw with hw | hw
      · rw [if_neg (show ¬ B.k = 1 by rw [kB]; decide)] at hw
        cases hw
      · rw [if_pos (kR _)] at hw
        obtain ⟨t, ht, rfl⟩ := List.mem_map.1 hw
        refine ⟨(⟨65479, 3, 54, 5, 6⟩ : Rw), 35, rA, t, ⟨(of_decide_eq_true (by kernel_rfl)), (.inl (by omega)), hA, (by kernel_rfl), (show ¬ (7 : Int) = 0 ∧ ¬ (7 : Int) = -1 by decide), (if_neg (by decide)).symm, (show (false : Bool) = ((35 : Int) / 256 == 243) by decide), Eq.mpr (if_neg (by decide)) rfl, Eq.mpr (if_pos rfl) ⟨hB, ht⟩, (fun h => absurd h (by decide))⟩, ?way⟩
        case way => simp [wayR, opB, codeB, onReg, onImm, onZ]
    · exact not_taken hi (SA := [2, 6]) (SB := [1]) (by kernel_rfl) (mem_reg ⟨hA1, hA2⟩) mem_z
    · exact not_taken hi (SA := [2, 6]) (SB := [0]) (by kernel_rfl) (mem_reg ⟨hA1, hA2⟩) (by rw [hB]; decide)
  · exact not_taken hi (SA := [16, 48, 112]) (SB := l8) (by kernel_rfl) (mem_imm _) (cA_mem _)
  · rcases formsW hBm with ⟨rB, hB1, hB2, rfl⟩ | ⟨mB, mB1, mB2, rfl⟩ | ⟨hB, kB⟩ | rfl | hB
    · have hB : 0 ≤ rB ∧ rB < 8 := ⟨hB1, hB2⟩
      rw [if_neg (nR2 _)] at hw
      rcases List.mem_append.1 hw with hw | hw
      · rw [if_pos (kR _)] at hw
        obtain ⟨t, ht, rfl⟩ := List.mem_map.1 hw
        refine ⟨(⟨65479, 1, 54, 6, 5⟩ : Rw), 33, rB, t, ⟨(of_decide_eq_true (by kernel_rfl)), (.inl (by omega)), hB, (by kernel_rfl), (show ¬ (7 : Int) = 0 ∧ ¬ (7 : Int) = -1 by decide), (if_neg (by decide)).symm, (show (false : Bool) = ((33 : Int) / 256 == 243) by decide), Eq.mpr (if_pos rfl) ⟨hA, ht⟩, Eq.mpr (if_neg (by decide)) rfl, (fun h => absurd h (by decide))⟩, ?way⟩
        case way => simp [wayR, opB, codeB, onReg, onImm, onZ]
      · rw [if_neg (show ¬ A.k = 1 by rw [kA]; decide)] at hw
        cases hw
    · rw [if_pos (kI _)] at hw
      rcases List.mem_append.1 hw with hw | hw
      · rcases List.mem_append.1 hw with hw | hw
        · rw [if_neg (isR0_mem kA)] at hw
          cases hw
        · by_cases hq : fitI (onImm mB).m = true
          · rw [if_pos hq] at hw
            obtain ⟨u, hu, rfl⟩ := List.mem_map.1 hw
            obtain ⟨t, ht, rfl⟩ := List.mem_map.1 hu
            refine ⟨(⟨65535, 131, 54, 6, 8⟩ : Rw), 131, 4, t, ⟨(of_decide_eq_true (by kernel_rfl)), (.inl (by omega)), (by decide), (by kernel_rfl), (show ¬ (7 : Int) = 0 ∧ ¬ (7 : Int) = -1 by decide), (if_neg (by decide)).symm, (show (false : Bool) = ((131 : Int) / 256 == 243) by decide), Eq.mpr (if_pos rfl) ⟨hA, ht⟩, Eq.mpr (if_neg (by decide)) ⟨rfl, hq, mB1, mB2⟩, (fun h => absurd h (by decide))⟩, ?way⟩
            case way => simp [wayR, opB, codeB, onReg, onImm, onZ]
          · rw [if_neg hq] at hw
            cases hw
      · obtain ⟨u, hu, rfl⟩ := List.mem_map.1 hw
        obtain ⟨t, ht, rfl⟩ := List.mem_map.1 hu
        refine ⟨(⟨65535, 129, 54, 6, 9⟩ : Rw), 129, 4, t, ⟨(of_decide_eq_true (by kernel_rfl)), (.inl (by omega)), (by decide), (by kernel_rfl), (show ¬ (7 : Int) = 0 ∧ ¬ (7 : Int) = -1 by decide), (if_neg (by decide)).symm, (show (false : Bool) = ((129 : Int) / 256 == 243) by decide), Eq.mpr (if_pos rfl) ⟨hA, ht⟩, Eq.mpr (if_neg (by decide)) ⟨rfl, mB1, mB2⟩, (fun h => absurd h (by decide))⟩, ?way⟩
        case way => simp [wayR, opB, codeB, onReg, onImm, onZ]
    · exact not_taken hi (SA := [8]) (SB := [8]) (by kernel_rfl) (mem_mem hA.1 kA) (mem_mem hB.1 kB)
    · exact not_taken hi (SA := [8]) (SB := [1]) (by kernel_rfl) (mem_mem hA.1 kA) mem_z
    · exact not_taken hi (SA := [8]) (SB := [0]) (by kernel_rfl) (mem_mem hA.1 kA) (by rw [hB]; decide)
  · exact not_taken hi (SA := [1]) (SB := l8) (by kernel_rfl) mem_z (cA_mem _)
  · exact not_taken hi (SA := [0]) (SB := l8) (by kernel_rfl) (by rw [hA]; decide) (cA_mem _)
theorem bw_8 {c : Int} {A B : On} {rep : Bool} {l : Int} (hi : isB ⟨8, c, A, B, rep, l⟩ = true) (hAm : 0 ≤ A.m ∧ A.m ≤ 4294967295) (hBm : 0 ≤ B.m ∧ B.m ≤ 4294967295) {w : List Int} (hw : w ∈ waysL ⟨8, c, A, B, rep, l⟩) : ByWay ⟨8, c, A, B, rep, l⟩ w := by
  obtain ⟨h1, h2⟩ := isB_parts hi
  obtain rfl : rep = false := by cases rep; rfl; exact absurd (show false = true from h1) (by decide)
  obtain rfl := knows_no (show rC (rowN 8) = false from rfl) h2
  rw [wl_8] at hw
  clear h1 h2
  rcases formsW hAm with ⟨rA, hA1, hA2, rfl⟩ | ⟨mA, mA1, mA2, rfl⟩ | ⟨hA, kA⟩ | rfl | hA
  · have hA : 0 ≤ rA ∧ rA < 8 := ⟨hA1, hA2⟩
    rcases formsW hBm with ⟨rB, hB1, hB2, rfl⟩ | ⟨mB, mB1, mB2, rfl⟩ | ⟨hB, kB⟩ | rfl | hB
    · have hB : 0 ≤ rB ∧ rB < 8 := ⟨hB1, hB2⟩
      rw [if_neg (nR2 _)] at hw
      rcases List.mem_append.1 hw with hw | hw
      · rw [if_pos (kR _)] at hw
        obtain ⟨t, ht, rfl⟩ := List.mem_map.1 hw
        refine ⟨(⟨65479, 1, 54, 6, 5⟩ : Rw), 41, rB, t, ⟨(of_decide_eq_true (by kernel_rfl)), (.inl (by omega)), hB, (by kernel_rfl), (show ¬ (8 : Int) = 0 ∧ ¬ (8 : Int) = -1 by decide), (if_neg (by decide)).symm, (show (false : Bool) = ((41 : Int) / 256 == 243) by decide), Eq.mpr (if_pos rfl) ⟨reg_RMb hA, ht⟩, Eq.mpr (if_neg (by decide)) rfl, (fun h => absurd h (by decide))⟩, ?way⟩
        case way => simp [wayR, opB, codeB, onReg, onImm, onZ]
      · rw [if_pos (kR _)] at hw
        obtain ⟨t, ht, rfl⟩ := List.mem_map.1 hw
        refine ⟨(⟨65479, 3, 54, 5, 6⟩ : Rw), 43, rA, t, ⟨(of_decide_eq_true (by kernel_rfl)), (.inl (by omega)), hA, (by kernel_rfl), (show ¬ (8 : Int) = 0 ∧ ¬ (8 : Int) = -1 by decide), (if_neg (by decide)).symm, (show (false : Bool) = ((43 : Int) / 256 == 243) by decide), Eq.mpr (if_neg (by decide)) rfl, Eq.mpr (if_pos rfl) ⟨reg_RMb hB, ht⟩, (fun h => absurd h (by decide))⟩, ?way⟩
        case way => simp [wayR, opB, codeB, onReg, onImm, onZ]
    · rw [if_pos (kI _)] at hw
      rcases List.mem_append.1 hw with hw | hw
      · rcases List.mem_append.1 hw with hw | hw
        · by_cases hq : rA = 0
          · subst hq
            rw [if_pos (show isR0 (onReg 0) = true from rfl)] at hw
            obtain rfl := List.mem_singleton.1 hw
            refine ⟨(⟨65479, 5, 54, 1, 9⟩ : Rw), 45, 0, [], ⟨(of_decide_eq_true (by kernel_rfl)), (.inl (by omega)), (by decide), (by kernel_rfl), (show ¬ (8 : Int) = 0 ∧ ¬ (8 : Int) = -1 by decide), (if_neg (by decide)).symm, (show (false : Bool) = ((45 : Int) / 256 == 243) by decide), Eq.mpr (if_neg (by decide)) rfl, Eq.mpr (if_neg (by decide)) ⟨rfl, mB1, mB2⟩, (fun _ => ⟨rfl, rfl⟩)⟩, ?way⟩
            case way => simp [wayR, opB, codeB, onReg, onImm, onZ]
          · rw [if_neg (isR0_reg hq)] at hw
            cases hw
        · by_cases hq : fitI (onImm mB).m = true
          · rw [if_pos hq] at hw
            obtain ⟨u, hu, rfl⟩ := List.mem_map.1 hw
            obtain ⟨t, ht, rfl⟩ := List.mem_map.1 hu
            refine ⟨(⟨65535, 131, 54, 6, 8⟩ : Rw), 131, 5, t, ⟨(of_decide_eq_true (by kernel_rfl)), (.inl (by omega)), (by decide), (by kernel_rfl), (show ¬ (8 : Int) = 0 ∧ ¬ (8 : Int) = -1 by decide), (if_neg (by decide)).symm, (show (false : Bool) = ((131 : Int) / 256 == 243) by decide), Eq.mpr (if_pos rfl) ⟨reg_RMb hA, ht⟩, Eq.mpr (if_neg (by decide)) ⟨rfl, hq, mB1, mB2⟩, (fun h => absurd h (by decide))⟩, ?way⟩
            case way => simp [wayR, opB, codeB, onReg, onImm, onZ]
          · rw [if_neg hq] at hw
            cases hw
      · obtain ⟨u, hu, rfl⟩ := List.mem_map.1 hw
        obtain ⟨t, ht, rfl⟩ := List.mem_map.1 hu
        refine ⟨(⟨65535, 129, 54, 6, 9⟩ : Rw), 129, 5, t, ⟨(of_decide_eq_true (by kernel_rfl)), (.inl (by omega)), (by decide), (by kernel_rfl), (show ¬ (8 : Int) = 0 ∧ ¬ (8 : Int) = -1 by decide), (if_neg (by decide)).symm, (show (false : Bool) = ((129 : Int) / 256 == 243) by decide), Eq.mpr (if_pos rfl) ⟨reg_RMb hA, ht⟩, Eq.mpr (if_neg (by decide)) ⟨rfl, mB1, mB2⟩, (fun h => absurd h (by decide))⟩, ?way⟩
        case way => simp [wayR, opB, codeB, onReg, onImm, onZ]
    · rw [if_neg (show ¬ B.k = 2 by rw [kB]; decide)] at hw
      rcases List.mem_append.1 hw with hw | hw
      · rw [if_neg (show ¬ B.k = 1 by rw [kB]; decide)] at hw
        cases hw
      · rw [if_pos (kR _)] at hw
        obtain ⟨t, ht, rfl⟩ := List.mem_map.1 hw
        refine ⟨(⟨65479, 3, 54, 5, 6⟩ : Rw), 43, rA, t, ⟨(of_decide_eq_true (by kernel_rfl)), (.inl (by omega)), hA, (by kernel_rfl), (show ¬ (8 : Int) = 0 ∧ ¬ (8 : Int) = -1 by decide), (if_neg (by decide)).symm, (show (false : Bool) = ((43 : Int) / 256 == 243) by decide), Eq.mpr (if_neg (by decide)) rfl, Eq.mpr (if_pos rfl) ⟨hB, ht⟩, (fun h => absurd h (by decide))⟩, ?way⟩
        case way => simp [wayR, opB, codeB, onReg, onImm, onZ]
    · exact not_taken hi (SA := [2, 6]) (SB := [1]) (by kernel_rfl) (mem_reg ⟨hA1, hA2⟩) mem_z
    · exact not_taken hi (SA := [2, 6]) (SB := [0]) (by kernel_rfl) (mem_reg ⟨hA1, hA2⟩) (by rw [hB]; decide)
  · exact not_taken hi (SA := [16, 48, 112]) (SB := l8) (by kernel_rfl) (mem_imm _) (cA_mem _)
  · rcases formsW hBm with ⟨rB, hB1, hB2, rfl⟩ | ⟨mB, mB1, mB2, rfl⟩ | ⟨hB, kB⟩ | rfl | hB
    · have hB : 0 ≤ rB ∧ rB < 8 := ⟨hB1, hB2⟩
      rw [if_neg (nR2 _)] at hw
      rcases List.mem_append.1 hw with hw | hw
      · rw [if_pos (kR _)] at hw
        obtain ⟨t, ht, rfl⟩ := List.mem_map.1 hw
        refine ⟨(⟨65479, 1, 54, 6, 5⟩ : Rw), 41, rB, t, ⟨(of_decide_eq_true (by kernel_rfl)), (.inl (by omega)), hB, (by kernel_rfl), (show ¬ (8 : Int) = 0 ∧ ¬ (8 : Int) = -1 by decide), (if_neg (by decide)).symm, (show (false : Bool) = ((41 : Int) / 256 == 243) by decide), Eq.mpr (if_pos rfl) ⟨hA, ht⟩, Eq.mpr (if_neg (by decide)) rfl, (fun h => absurd h (by decide))⟩, ?way⟩
        case way => simp [wayR, opB, codeB, onReg, onImm, onZ]
      · rw [if_neg (show ¬ A.k = 1 by rw [kA]; decide)] at hw
        cases hw
    · rw [if_pos (kI _)] at hw
      rcases List.mem_append.1 hw with hw | hw
      · rcases List.mem_append.1 hw with hw | hw
        · rw [if_neg (isR0_mem kA)] at hw
          cases hw
        · by_cases hq : fitI (onImm mB).m = true
          · rw [if_pos hq] at hw
            obtain ⟨u, hu, rfl⟩ := List.mem_map.1 hw
            obtain ⟨t, ht, rfl⟩ := List.mem_map.1 hu
            refine ⟨(⟨65535, 131, 54, 6, 8⟩ : Rw), 131, 5, t, ⟨(of_decide_eq_true (by kernel_rfl)), (.inl (by omega)), (by decide), (by kernel_rfl), (show ¬ (8 : Int) = 0 ∧ ¬ (8 : Int) = -1 by decide), (if_neg (by decide)).symm, (show (false : Bool) = ((131 : Int) / 256 == 243) by decide), Eq.mpr (if_pos rfl) ⟨hA, ht⟩, Eq.mpr (if_neg (by decide)) ⟨rfl, hq, mB1, mB2⟩, (fun h => absurd h (by decide))⟩, ?way⟩
            case way => simp [wayR, opB, codeB, onReg, onImm, onZ]
          · rw [if_neg hq] at hw
            cases hw
      · obtain ⟨u, hu, rfl⟩ := List.mem_map.1 hw
        obtain ⟨t, ht, rfl⟩ := List.mem_map.1 hu
        refine ⟨(⟨65535, 129, 54, 6, 9⟩ : Rw), 129, 5, t, ⟨(of_decide_eq_true (by kernel_rfl)), (.inl (by omega)), (by decide), (by kernel_rfl), (show ¬ (8 : Int) = 0 ∧ ¬ (8 : Int) = -1 by decide), (if_neg (by decide)).symm, (show (false : Bool) = ((129 : Int) / 256 == 243) by decide), Eq.mpr (if_pos rfl) ⟨hA, ht⟩, Eq.mpr (if_neg (by decide)) ⟨rfl, mB1, mB2⟩, (fun h => absurd h (by decide))⟩, ?way⟩
        case way => simp [wayR, opB, codeB, onReg, onImm, onZ]
    · exact not_taken hi (SA := [8]) (SB := [8]) (by kernel_rfl) (mem_mem hA.1 kA) (mem_mem hB.1 kB)
    · exact not_taken hi (SA := [8]) (SB := [1]) (by kernel_rfl) (mem_mem hA.1 kA) mem_z
    · exact not_taken hi (SA := [8]) (SB := [0]) (by kernel_rfl) (mem_mem hA.1 kA) (by rw [hB]; decide)
  · exact not_taken hi (SA := [1]) (SB := l8) (by kernel_rfl) mem_z (cA_mem _)
  · exact not_taken hi (SA := [0]) (SB := l8) (by kernel_rfl) (by rw [hA]; decide) (cA_mem _)
theorem bw_9 {c : Int} {A B : On} {rep : Bool} {l : Int} (hi : isB ⟨9, c, A, B, rep, l⟩ = true) (hAm : 0 ≤ A.m ∧ A.m ≤ 4294967295) (hBm : 0 ≤ B.m ∧ B.m ≤ 4294967295) {w : List Int} (hw : w ∈ waysL ⟨9, c, A, B, rep, l⟩) : ByWay ⟨9, c, A, B, rep, l⟩ w := by
  obtain ⟨h1, h2⟩ := isB_parts hi
  obtain rfl : rep = false := by cases rep; rfl; exact absurd (show false = true from h1) (by decide)
  obtain rfl := knows_no (show rC (rowN 9) = false from rfl) h2
  rw [wl_9] at hw
  clear h1 h2
  rcases formsW hAm with ⟨rA, hA1, hA2, rfl⟩ | ⟨mA, mA1, mA2, rfl⟩ | ⟨hA, kA⟩ | rfl | hA
  · have hA : 0 ≤ rA ∧ rA < 8 := ⟨hA1, hA2⟩
    rcases formsW hBm with ⟨rB, hB1, hB2, rfl⟩ | ⟨mB, mB1, mB2, rfl⟩ | ⟨hB, kB⟩ | rfl | hB
    · have hB : 0 ≤ rB ∧ rB < 8 := ⟨hB1, hB2⟩
      rw [if_neg (nR2 _)] at hw
      rcases List.mem_append.1 hw with hw | hw
      · rw [if_pos (kR _)] at hw
        obtain ⟨t, ht, rfl⟩ := List.mem_map.1 hw
        refine ⟨(⟨65479, 1, 54, 6, 5⟩ : Rw), 49, rB, t, ⟨(of_decide_eq_true (by kernel_rfl)), (.inl (by omega)), hB, (by kernel_rfl), (show ¬ (9 : Int) = 0 ∧ ¬ (9 : Int) = -1 by decide), (if_neg (by decide)).symm, (show (false : Bool) = ((49 : Int) / 256 == 243) by decide), Eq.mpr (if_pos rfl) ⟨reg_RMb hA, ht⟩, Eq.mpr (if_neg (by decide)) rfl, (fun h => absurd h (by decide))⟩, ?way⟩
        case way => simp [wayR, opB, codeB, onReg, onImm, onZ]
      · rw [if_pos (kR _)] at hw
        obtain ⟨t, ht, rfl⟩ := List.mem_map.1 hw
        refine ⟨(⟨65479, 3, 54, 5, 6⟩ : Rw), 51, rA, t, ⟨(of_decide_eq_true (by kernel_rfl)), (.inl (by omega)), hA, (by kernel_rfl), (show ¬ (9 : Int) = 0 ∧ ¬ (9 : Int) = -1 by decide), (if_neg (by decide)).symm, (show (false : Bool) = ((51 : Int) / 256 == 243) by decide), Eq.mpr (if_neg (by decide)) rfl, Eq.mpr (if_pos rfl) ⟨reg_RMb hB, ht⟩, (fun h => absurd h (by decide))⟩, ?way⟩
        case way => simp [wayR, opB, codeB, onReg, onImm, onZ]
    · rw [if_pos (kI _)] at hw
      rcases List.mem_append.1 hw with hw | hw
      · rcases List.mem_append.1 hw with hw | hw
        · by_cases hq : rA = 0
          · subst hq
            rw [if_pos (show isR0 (onReg 0) = true from rfl)] at hw
            obtain rfl := List.mem_singleton.1 hw
            refine ⟨(⟨65479, 5, 54, 1, 9⟩ : Rw), 53, 0, [], ⟨(of_decide_eq_true (by kernel_rfl)), (.inl (by omega)), (by decide), (by kernel_rfl), (show ¬ (9 : Int) = 0 ∧ ¬ (9 : Int) = -1 by decide), (if_neg (by decide)).symm, (show (false : Bool) = ((53 : Int) / 256 == 243) by decide), Eq.mpr (if_neg (by decide)) rfl, Eq.mpr (if_neg (by decide)) ⟨rfl, mB1, mB2⟩, (fun _ => ⟨rfl, rfl⟩)⟩, ?way⟩
            case way => simp [wayR, opB, codeB, onReg, onImm, onZ]
          · rw [if_neg (isR0_reg hq)] at hw
            cases hw
        · by_cases hq : fitI (onImm mB).m = true
          · rw [if_pos hq] at hw
            obtain ⟨u, hu, rfl⟩ := List.mem_map.1 hw
            obtain ⟨t, ht, rfl⟩ := List.mem_map.1 hu
            refine ⟨(⟨65535, 131, 54, 6, 8⟩ : Rw), 131, 6, t, ⟨(of_decide_eq_true (by kernel_rfl)), (.inl (by omega)), (by decide), (by kernel_rfl), (show ¬ (9 : Int) = 0 ∧ ¬ (9 : Int) = -1 by decide), (if_neg (by decide)).symm, (show (false : Bool) = ((131 : Int) / 256 == 243) by decide), Eq.mpr (if_pos rfl) ⟨reg_RMb hA, ht⟩, Eq.mpr (if_neg (by decide)) ⟨rfl, hq, mB1, mB2⟩, (fun h => absurd h (by decide))⟩, ?way⟩
            case way => simp [wayR, opB, codeB, onReg, onImm, onZ]
          · rw [if_neg hq] at hw
            cases hw
      · obtain ⟨u, hu, rfl⟩ := List.mem_map.1 hw
        obtain ⟨t, ht, rfl⟩ := List.mem_map.1 hu
        refine ⟨(⟨65535, 129, 54, 6, 9⟩ : Rw), 129, 6, t, ⟨(of_decide_eq_true (by kernel_rfl)), (.inl (by omega)), (by decide), (by kernel_rfl), (show ¬ (9 : Int) = 0 ∧ ¬ (9 : Int) = -1 by decide), (if_neg (by decide)).symm, (show (false : Bool) = ((129 : Int) / 256 == 243) by decide), Eq.mpr (if_pos rfl) ⟨reg_RMb hA, ht⟩, Eq.mpr (if_neg (by decide)) ⟨rfl, mB1, mB2⟩, (fun h => absurd h (by decide))⟩, ?way⟩
        case way => simp [wayR, opB, codeB, onReg, onImm, onZ]
    · rw [if_neg (show ¬ B.k = 2 by rw [kB]; decide)] at hw
      rcases List.mem_append.1 hw with hw | hw
      · rw [if_neg (show ¬ B.k = 1 by rw [kB]; decide)] at hw
        cases hw
      · rw [if_pos (kR _)] at hw
        obtain ⟨t, ht, rfl⟩ := List.mem_map.1 hw
        refine ⟨(⟨65479, 3, 54, 5, 6⟩ : Rw), 51, rA, t, ⟨(of_decide_eq_true (by kernel_rfl)), (.inl (by omega)), hA, (by kernel_rfl), (show ¬ (9 : Int) = 0 ∧ ¬ (9 : Int) = -1 by decide), (if_neg (by decide)).symm, (show (false : Bool) = ((51 : Int) / 256 == 243) by decide), Eq.mpr (if_neg (by decide)) rfl, Eq.mpr (if_pos rfl) ⟨hB, ht⟩, (fun h => absurd h (by decide))⟩, ?way⟩
        case way => simp [wayR, opB, codeB, onReg, onImm, onZ]
    · exact not_taken hi (SA := [2, 6]) (SB := [1]) (by kernel_rfl) (mem_reg ⟨hA1, hA2⟩) mem_z
    · exact not_taken hi (SA := [2, 6]) (SB := [0]) (by kernel_rfl) (mem_reg ⟨hA1, hA2⟩) (by rw [hB]; decide)
  · exact not_taken hi (SA := [16, 48, 112]) (SB := l8) (by kernel_rfl) (mem_imm _) (cA_mem _)
  · rcases formsW hBm with ⟨rB, hB1, hB2, rfl⟩ | ⟨mB, mB1, mB2, rfl⟩ | ⟨hB, kB⟩ | rfl | hB
    · have hB : 0 ≤ rB ∧ rB < 8 := ⟨hB1, hB2⟩
      rw [if_neg (nR2 _)] at hw
      rcases List.mem_append.1 hw with hw | hw
      · rw [if_pos (kR _)] at hw
        obtain ⟨t, ht, rfl⟩ := List.mem_map.1 hw
        refine ⟨(⟨65479, 1, 54, 6, 5⟩ : Rw), 49, rB, t, ⟨(of_decide_eq_true (by kernel_rfl)), (.inl (by omega)), hB, (by kernel_rfl), (show ¬ (9 : Int) = 0 ∧ ¬ (9 : Int) = -1 by decide), (if_neg (by decide)).symm, (show (false : Bool) = ((49 : Int) / 256 == 243) by decide), Eq.mpr (if_pos rfl) ⟨hA, ht⟩, Eq.mpr (if_neg (by decide)) rfl, (fun h => absurd h (by decide))⟩, ?way⟩
        case way => simp [wayR, opB, codeB, onReg, onImm, onZ]
      · rw [if_neg (show ¬ A.k = 1 by rw [kA]; decide)] at hw
        cases hw
    · rw [if_pos (kI _)] at hw
      rcases List.mem_append.1 hw with hw | hw
      · rcases List.mem_append.1 hw with hw | hw
        · rw [if_neg (isR0_mem kA)] at hw
          cases hw
        · by_cases hq : fitI (onImm mB).m = true
          · rw [if_pos hq] at hw
            obtain ⟨u, hu, rfl⟩ := List.mem_map.1 hw
            obtain ⟨t, ht, rfl⟩ := List.mem_map.1 hu
            refine ⟨(⟨65535, 131, 54, 6, 8⟩ : Rw), 131, 6, t, ⟨(of_decide_eq_true (by kernel_rfl)), (.inl (by omega)), (by decide), (by kernel_rfl), (show ¬ (9 : Int) = 0 ∧ ¬ (9 : Int) = -1 by decide), (if_neg (by decide)).symm, (show (false : Bool) = ((131 : Int) / 256 == 243) by decide), Eq.mpr (if_pos rfl) ⟨hA, ht⟩, Eq.mpr (if_neg (by decide)) ⟨rfl, hq, mB1, mB2⟩, (fun h => absurd h (by decide))⟩, ?way⟩
            case way => simp [wayR, opB, codeB, onReg, onImm, onZ]
          · rw [if_neg hq] at hw
            cases hw
      · obtain ⟨u, hu, rfl⟩ := List.mem_map.1 hw
        obtain ⟨t, ht, rfl⟩ := List.mem_map.1 hu
        refine ⟨(⟨65535, 129, 54, 6, 9⟩ : Rw), 129, 6, t, ⟨(of_decide_eq_true (by kernel_rfl)), (.inl (by omega)), (by decide), (by kernel_rfl), (show ¬ (9 : Int) = 0 ∧ ¬ (9 : Int) = -1 by decide), (if_neg (by decide)).symm, (show (false : Bool) = ((129 : Int) / 256 == 243) by decide), Eq.mpr (if_pos rfl) ⟨hA, ht⟩, Eq.mpr (if_neg (by decide)) ⟨rfl, mB1, mB2⟩, (fun h => absurd h (by decide))⟩, ?way⟩
        case way => simp [wayR, opB, codeB, onReg, onImm, onZ]
    · exact not_taken hi (SA := [8]) (SB := [8]) (by kernel_rfl) (mem_mem hA.1 kA) (mem_mem hB.1 kB)
    · exact not_taken hi (SA := [8]) (SB := [1]) (by kernel_rfl) (mem_mem hA.1 kA) mem_z
    · exact not_taken hi (SA := [8]) (SB := [0]) (by kernel_rfl) (mem_mem hA.1 kA) (by rw [hB]; decide)
  · exact not_taken hi (SA := [1]) (SB := l8) (by kernel_rfl) mem_z (cA_mem _)
  · exact not_taken hi (SA := [0]) (SB := l8) (by kernel_rfl) (by rw [hA]; decide) (cA_mem _)
theorem bw_10 {c : Int} {A B : On} {rep : Bool} {l : Int} (hi : isB ⟨10, c, A, B, rep, l⟩ = true) (hAm : 0 ≤ A.m ∧ A.m ≤ 4294967295) (hBm : 0 ≤ B.m ∧ B.m ≤ 4294967295) {w : List Int} (hw : w ∈ waysL ⟨10, c, A, B, rep, l⟩) : ByWay ⟨10, c, A, B, rep, l⟩ w := by
  obtain ⟨h1, h2⟩ := isB_parts hi
  obtain rfl : rep = false := by cases rep; rfl; exact absurd (show false = true from h1) (by decide)
  obtain rfl := knows_no (show rC (rowN 10) = false from rfl) h2
  rw [wl_10] at hw
  clear h1 h2
  rcases formsW hAm with ⟨rA, hA1, hA2, rfl⟩ | ⟨mA, mA1, mA2, rfl⟩ | ⟨hA, kA⟩ | rfl | hA
  · have hA : 0 ≤ rA ∧ rA < 8 := ⟨hA1, hA2⟩
    rcases formsW hBm with ⟨rB, hB1, hB2, rfl⟩ | ⟨mB, mB1, mB2, rfl⟩ | ⟨hB, kB⟩ | rfl | hB
    · have hB : 0 ≤ rB ∧ rB < 8 := ⟨hB1, hB2⟩
      rw [if_neg (nR2 _)] at hw
      rcases List.mem_append.1 hw with hw | hw
      · rw [if_pos (kR _)] at hw
        obtain ⟨t, ht, rfl⟩ := List.mem_map.1 hw
        refine ⟨(⟨65479, 1, 54, 6, 5⟩ : Rw), 57, rB, t, ⟨(of_decide_eq_true (by kernel_rfl)), (.inl (by omega)), hB, (by kernel_rfl), (show ¬ (10 : Int) = 0 ∧ ¬ (10 : Int) = -1 by decide), (if_neg (by decide)).symm, (show (false : Bool) = ((57 : Int) / 256 == 243) by decide), Eq.mpr (if_pos rfl) ⟨reg_RMb hA, ht⟩, Eq.mpr (if_neg (by decide)) rfl, (fun h => absurd h (by decide))⟩, ?way⟩
        case way => simp [wayR, opB, codeB, onReg, onImm, onZ]
      · rw [if_pos (kR _)] at hw
        obtain ⟨t, ht, rfl⟩ := List.mem_map.1 hw
        refine ⟨(⟨65479, 3, 54, 5, 6⟩ : Rw), 59, rA, t, ⟨(of_decide_eq_true (by kernel_rfl)), (.inl (by omega)), hA, (by kernel_rfl), (show ¬ (10 : Int) = 0 ∧ ¬ (10 : Int) = -1 by decide), (if_neg (by decide)).symm, (show (false : Bool) = ((59 : Int) / 256 == 243) by decide), Eq.mpr (if_neg (by decide)) rfl, Eq.mpr (if_pos rfl) ⟨reg_RMb hB, ht⟩, (fun h => absurd h (by decide))⟩, ?way⟩
        case way => simp [wayR, opB, codeB, onReg, onImm, onZ]
    · rw [if_pos (kI _)] at hw
      rcases List.mem_append.1 hw with hw | hw
      · rcases List.mem_append.1 hw with hw | hw
        · by_cases hq : rA = 0
          · subst hq
            rw [if_pos (show isR0 (onReg 0) = true from rfl)] at hw
            obtain rfl := List.mem_singleton.1 hw
            refine ⟨(⟨65479, 5, 54, 1, 9⟩ : Rw), 61, 0, [], ⟨(of_decide_eq_true (by kernel_rfl)), (.inl (by omega)), (by decide), (by kernel_rfl), (show ¬ (10 : Int) = 0 ∧ ¬ (10 : Int) = -1 by decide), (if_neg (by decide)).symm, (show (false : Bool) = ((61 : Int) / 256 == 243) by decide), Eq.mpr (if_neg (by decide)) rfl, Eq.mpr (if_neg (by decide)) ⟨rfl, mB1, mB2⟩, (fun _ => ⟨rfl, rfl⟩)⟩, ?way⟩
            case way => simp [wayR, opB, codeB, onReg, onImm, onZ]
          · rw [if_neg (isR0_reg hq)] at hw
            cases hw
        · by_cases hq : fitI (onImm mB).m = true
          · rw [if_pos hq] at hw
            obtain ⟨u, hu, rfl⟩ := List.mem_map.1 hw
            obtain ⟨t, ht, rfl⟩ := List.mem_map.1 hu
            refine ⟨(⟨65535, 131, 54, 6, 8⟩ : Rw), 131, 7, t, ⟨(of_decide_eq_true (by kernel_rfl)), (.inl (by omega)), (by decide), (by kernel_rfl), (show ¬ (10 : Int) = 0 ∧ ¬ (10 : Int) = -1 by decide), (if_neg (by decide)).symm, (show (false : Bool) = ((131 : Int) / 256 == 243) by decide), Eq.mpr (if_pos rfl) ⟨reg_RMb hA, ht⟩, Eq.mpr (if_neg (by decide)) ⟨rfl, hq, mB1, mB2⟩, (fun h => absurd h (by decide))⟩, ?way⟩
            case way => simp [wayR, opB, codeB, onReg, onImm, onZ]
          · rw [if_neg hq] at hw
            cases hw
      · obtain ⟨u, hu, rfl⟩ := List.mem_map.1 hw
        obtain ⟨t, ht, rfl⟩ := List.mem_map.1 hu
        refine ⟨(⟨65535, 129, 54, 6, 9⟩ : Rw), 129, 7, t, ⟨(of_decide_eq_true (by kernel_rfl)), (.inl (by omega)), (by decide), (by kernel_rfl), (show ¬ (10 : Int) = 0 ∧ ¬ (10 : Int) = -1 by decide), (if_neg (by decide)).symm, (show (false : Bool) = ((129 : Int) / 256 == 243) by decide), Eq.mpr (if_pos rfl) ⟨reg_RMb hA, ht⟩, Eq.mpr (if_neg (by decide)) ⟨rfl, mB1, mB2⟩, (fun h => absurd h (by decide))⟩, ?way⟩
        case way => simp [wayR, opB, codeB, onReg, onImm, onZ]
    · rw [if_neg (show ¬ B.k = 2 by rw [kB]; decide)] at hw
      rcases List.mem_append.1 hw with hw | hw
      · rw [if_neg (show ¬ B.k = 1 by rw [kB]; decide)] at hw
        cases hw
      · rw [if_pos (kR _)] at hw
        obtain ⟨t, ht, rfl⟩ := List.mem_map.1 hw
        refine ⟨(⟨65479, 3, 54, 5, 6⟩ : Rw), 59, rA, t, ⟨(of_decide_eq_true (by kernel_rfl)), (.inl (by omega)), hA, (by kernel_rfl), (show ¬ (10 : Int) = 0 ∧ ¬ (10 : Int) = -1 by decide), (if_neg (by decide)).symm, (show (false : Bool) = ((59 : Int) / 256 == 243) by decide), Eq.mpr (if_neg (by decide)) rfl, Eq.mpr (if_pos rfl) ⟨hB, ht⟩, (fun h => absurd h (by decide))⟩, ?way⟩
        case way => simp [wayR, opB, codeB, onReg, onImm, onZ]
    · exact not_taken hi (SA := [2, 6]) (SB := [1]) (by kernel_rfl) (mem_reg ⟨hA1, hA2⟩) mem_z
    · exact not_taken hi (SA := [2, 6]) (SB := [0]) (by kernel_rfl) (mem_reg ⟨hA1, hA2⟩) (by rw [hB]; decide)
  · exact not_taken hi (SA := [16, 48, 112]) (SB := l8) (by kernel_rfl) (mem_imm _) (cA_mem _)
  · rcases formsW hBm with ⟨rB, hB1, hB2, rfl⟩ | ⟨mB, mB1, mB2, rfl⟩ | ⟨hB, kB⟩ | rfl | hB
    · have hB : 0 ≤ rB ∧ rB < 8 := ⟨hB1, hB2⟩
      rw [if_neg (nR2 _)] at hw
      rcases List.mem_append.1 hw with hw | hw
      · rw [if_pos (kR _)] at hw
        obtain ⟨t, ht, rfl⟩ := List.mem_map.1 hw
        refine ⟨(⟨65479, 1, 54, 6, 5⟩ : Rw), 57, rB, t, ⟨(of_decide_eq_true (by kernel_rfl)), (.inl (by omega)), hB, (by kernel_rfl), (show ¬ (10 : Int) = 0 ∧ ¬ (10 : Int) = -1 by decide), (if_neg (by decide)).symm, (show (false : Bool) = ((57 : Int) / 256 == 243) by decide), Eq.mpr (if_pos rfl) ⟨hA, ht⟩, Eq.mpr (if_neg (by decide)) rfl, (fun h => absurd h (by decide))⟩, ?way⟩
        case way => simp [wayR, opB, codeB, onReg, onImm, onZ]
      · rw [if_neg (show ¬ A.k = 1 by rw [kA]; decide)] at hw
        cases hw
    · rw [if_pos (kI _)] at hw
      rcases List.mem_append.1 hw with hw | hw
      · rcases List.mem_append.1 hw with hw | hw
        · rw [if_neg (isR0_mem kA)] at hw
          cases hw
        · by_cases hq : fitI (onImm mB).m = true
          · rw [if_pos hq] at hw
            obtain ⟨u, hu, rfl⟩ := List.mem_map.1 hw
            obtain ⟨t, ht, rfl⟩ := List.mem_map.1 hu
            refine ⟨(⟨65535, 131, 54, 6, 8⟩ : Rw), 131, 7, t, ⟨(of_decide_eq_true (by kernel_rfl)), (.inl (by omega)), (by decide), (by kernel_rfl), (show ¬ (10 : Int) = 0 ∧ ¬ (10 : Int) = -1 by decide), (if_neg (by decide)).symm, (show (false : Bool) = ((131 : Int) / 256 == 243) by decide), Eq.mpr (if_pos rfl) ⟨hA, ht⟩, Eq.mpr (if_neg (by decide)) ⟨rfl, hq, mB1, mB2⟩, (fun h => absurd h (by decide))⟩, ?way⟩
            case way => simp [wayR, opB, codeB, onReg, onImm, onZ]
          · rw [if_neg hq] at hw
            cases hw
      · obtain ⟨u, hu, rfl⟩ := List.mem_map.1 hw
        obtain ⟨t, ht, rfl⟩ := List.mem_map.1 hu
        refine ⟨(⟨65535, 129, 54, 6, 9⟩ : Rw), 129, 7, t, ⟨(of_decide_eq_true (by kernel_rfl)), (.inl (by omega)), (by decide), (by kernel_rfl), (show ¬ (10 : Int) = 0 ∧ ¬ (10 : Int) = -1 by decide), (if_neg (by decide)).symm, (show (false : Bool) = ((129 : Int) / 256 == 243) by decide), Eq.mpr (if_pos rfl) ⟨hA, ht⟩, Eq.mpr (if_neg (by decide)) ⟨rfl, mB1, mB2⟩, (fun h => absurd h (by decide))⟩, ?way⟩
        case way => simp [wayR, opB, codeB, onReg, onImm, onZ]
    · exact not_taken hi (SA := [8]) (SB := [8]) (by kernel_rfl) (mem_mem hA.1 kA) (mem_mem hB.1 kB)
    · exact not_taken hi (SA := [8]) (SB := [1]) (by kernel_rfl) (mem_mem hA.1 kA) mem_z
    · exact not_taken hi (SA := [8]) (SB := [0]) (by kernel_rfl) (mem_mem hA.1 kA) (by rw [hB]; decide)
  · exact not_taken hi (SA := [1]) (SB := l8) (by kernel_rfl) mem_z (cA_mem _)
  · exact not_taken hi (SA := [0]) (SB := l8) (by kernel_rfl) (by rw [hA]; decide) (cA_mem _)
theorem bw_11 {c : Int} {A B : On} {rep : Bool} {l : Int} (hi : isB ⟨11, c, A, B, rep, l⟩ = true) (hAm : 0 ≤ A.m ∧ A.m ≤ 4294967295) (hBm : 0 ≤ B.m ∧ B.m ≤ 4294967295) {w : List Int} (hw : w ∈ waysL ⟨11, c, A, B, rep, l⟩) : ByWay ⟨11, c, A, B, rep, l⟩ w := by
  obtain ⟨h1, h2⟩ := isB_parts hi
  obtain rfl : rep = false := by cases rep; rfl; exact absurd (show false = true from h1) (by decide)
  obtain rfl := knows_no (show rC (rowN 11) = false from rfl) h2
  rw [wl_11] at hw
  clear h1 h2
  rcases formsW hAm with ⟨rA, hA1, hA2, rfl⟩ | ⟨mA, mA1, mA2, rfl⟩ | ⟨hA, kA⟩ | rfl | hA
  · have hA : 0 ≤ rA ∧ rA < 8 := ⟨hA1, hA2⟩
    rcases formsW hBm with ⟨rB, hB1, hB2, rfl⟩ | ⟨mB, mB1, mB2, rfl⟩ | ⟨hB, kB⟩ | rfl | hB
    · have hB : 0 ≤ rB ∧ rB < 8 := ⟨hB1, hB2⟩
      rw [if_pos (kR _)] at hw
      obtain ⟨t, ht, rfl⟩ := List.mem_map.1 hw
      refine ⟨(⟨65535, 133, 11, 6, 5⟩ : Rw), 133, rB, t, ⟨(of_decide_eq_true (by kernel_rfl)), (.inl (by omega)), hB, (if_pos (by decide)), (show ¬ (11 : Int) = 0 ∧ ¬ (11 : Int) = -1 by decide), (if_neg (by decide)).symm, (show (false : Bool) = ((133 : Int) / 256 == 243) by decide), Eq.mpr (if_pos rfl) ⟨reg_RMb hA, ht⟩, Eq.mpr (if_neg (by decide)) rfl, (fun h => absurd h (by decide))⟩, ?way⟩
      case way => simp [wayR, opB, codeB, onReg, onImm, onZ]
    · rw [if_neg (nI1 _)] at hw
      rcases List.mem_append.1 hw with hw | hw
      · by_cases hq : rA = 0
        · subst hq
          rw [if_pos (show isR0 (onReg 0) = true from rfl)] at hw
          obtain rfl := List.mem_singleton.1 hw
          refine ⟨(⟨65535, 169, 11, 1, 9⟩ : Rw), 169, 0, [], ⟨(of_decide_eq_true (by kernel_rfl)), (.inl (by omega)), (by decide), (if_pos (by decide)), (show ¬ (11 : Int) = 0 ∧ ¬ (11 : Int) = -1 by decide), (if_neg (by decide)).symm, (show (false : Bool) = ((169 : Int) / 256 == 243) by decide), Eq.mpr (if_neg (by decide)) rfl, Eq.mpr (if_neg (by decide)) ⟨rfl, mB1, mB2⟩, (fun _ => ⟨rfl, rfl⟩)⟩, ?way⟩
          case way => simp [wayR, opB, codeB, onReg, onImm, onZ]
        · rw [if_neg (isR0_reg hq)] at hw
          cases hw
      · obtain ⟨u, hu, rfl⟩ := List.mem_map.1 hw
        obtain ⟨t, ht, rfl⟩ := List.mem_map.1 hu
        refine ⟨(⟨65535, 247, 56, 6, 9⟩ : Rw), 247, 0, t, ⟨(of_decide_eq_true (by kernel_rfl)), (.inl (by omega)), (by decide), (by kernel_rfl), (show ¬ (11 : Int) = 0 ∧ ¬ (11 : Int) = -1 by decide), (if_neg (by decide)).symm, (show (false : Bool) = ((247 : Int) / 256 == 243) by decide), Eq.mpr (if_pos rfl) ⟨reg_RMb hA, ht⟩, Eq.mpr (if_neg (by decide)) ⟨rfl, mB1, mB2⟩, (fun h => absurd h (by decide))⟩, ?way⟩
        case way => simp [wayR, opB, codeB, onReg, onImm, onZ]
    · exact not_taken hi (SA := [2, 6]) (SB := [8]) (by kernel_rfl) (mem_reg ⟨hA1, hA2⟩) (mem_mem hB.1 kB)
    · exact not_taken hi (SA := [2, 6]) (SB := [1]) (by kernel_rfl) (mem_reg ⟨hA1, hA2⟩) mem_z
    · exact not_taken hi (SA := [2, 6]) (SB := [0]) (by kernel_rfl) (mem_reg ⟨hA1, hA2⟩) (by rw [hB]; decide)
  · exact not_taken hi (SA := [16, 48, 112]) (SB := l8) (by kernel_rfl) (mem_imm _) (cA_mem _)
  · rcases formsW hBm with ⟨rB, hB1, hB2, rfl⟩ | ⟨mB, mB1, mB2, rfl⟩ | ⟨hB, kB⟩ | rfl | hB
    · have hB : 0 ≤ rB ∧ rB < 8 := ⟨hB1, hB2⟩
      rw [if_pos (kR _)] at hw
      obtain ⟨t, ht, rfl⟩ := List.mem_map.1 hw
      refine ⟨(⟨65535, 133, 11, 6, 5⟩ : Rw), 133, rB, t, ⟨(of_decide_eq_true (by kernel_rfl)), (.inl (by omega)), hB, (if_pos (by decide)), (show ¬ (11 : Int) = 0 ∧ ¬ (11 : Int) = -1 by decide), (if_neg (by decide)).symm, (show (false : Bool) = ((133 : Int) / 256 == 243) by decide), Eq.mpr (if_pos rfl) ⟨hA, ht⟩, Eq.mpr (if_neg (by decide)) rfl, (fun h => absurd h (by decide))⟩, ?way⟩
      case way => simp [wayR, opB, codeB, onReg, onImm, onZ]
    · rw [if_neg (nI1 _)] at hw
      rcases List.mem_append.1 hw with hw | hw
      · rw [if_neg (isR0_mem kA)] at hw
        cases hw
      · obtain ⟨u, hu, rfl⟩ := List.mem_map.1 hw
        obtain ⟨t, ht, rfl⟩ := List.mem_map.1 hu
        refine ⟨(⟨65535, 247, 56, 6, 9⟩ : Rw), 247, 0, t, ⟨(of_decide_eq_true (by kernel_rfl)), (.inl (by omega)), (by decide), (by kernel_rfl), (show ¬ (11 : Int) = 0 ∧ ¬ (11 : Int) = -1 by decide), (if_neg (by decide)).symm, (show (false : Bool) = ((247 : Int) / 256 == 243) by decide), Eq.mpr (if_pos rfl) ⟨hA, ht⟩, Eq.mpr (if_neg (by decide)) ⟨rfl, mB1, mB2⟩, (fun h => absurd h (by decide))⟩, ?way⟩
        case way => simp [wayR, opB, codeB, onReg, onImm, onZ]
    · exact not_taken hi (SA := [8]) (SB := [8]) (by kernel_rfl) (mem_mem hA.1 kA) (mem_mem hB.1 kB)
    · exact not_taken hi (SA := [8]) (SB := [1]) (by kernel_rfl) (mem_mem hA.1 kA) mem_z
    · exact not_taken hi (SA := [8]) (SB := [0]) (by kernel_rfl) (mem_mem hA.1 kA) (by rw [hB]; decide)
  · exact not_taken hi (SA := [1]) (SB := l8) (by kernel_rfl) mem_z (cA_mem _)
  · exact not_taken hi (SA := [0]) (SB := l8) (by kernel_rfl) (by rw [hA]; decide) (cA_mem _)
theorem bw_12 {c : Int} {A B : On} {rep : Bool} {l : Int} (hi : isB ⟨12, c, A, B, rep, l⟩ = true) (hAm : 0 ≤ A.m ∧ A.m ≤ 4294967295) (hBm : 0 ≤ B.m ∧ B.m ≤ 4294967295) {w : List Int} (hw : w ∈ waysL ⟨12, c, A, B, rep, l⟩) : ByWay ⟨12, c, A, B, rep, l⟩ w := by
  obtain ⟨h1, h2⟩ := isB_parts hi
  obtain rfl : rep = false := by cases rep; rfl; exact absurd (show false = true from h1) (by decide)
  obtain rfl := knows_no (show rC (rowN 12) = false from rfl) h2
  rw [wl_12] at hw
  clear h1 h2
  rcases formsW hAm with ⟨rA, hA1, hA2, rfl⟩ | ⟨mA, mA1, mA2, rfl⟩ | ⟨hA, kA⟩ | rfl | hA
  · have hA : 0 ≤ rA ∧ rA < 8 := ⟨hA1, hA2⟩
    rcases formsW hBm with ⟨rB, hB1, hB2, rfl⟩ | ⟨mB, mB1, mB2, rfl⟩ | ⟨hB, kB⟩ | rfl | hB
    · exact not_taken hi (SA := [2, 6]) (SB := [2, 6]) (by kernel_rfl) (mem_reg ⟨hA1, hA2⟩) (mem_reg ⟨hB1, hB2⟩)
    · exact not_taken hi (SA := [2, 6]) (SB := [16, 48, 112]) (by kernel_rfl) (mem_reg ⟨hA1, hA2⟩) (mem_imm _)
    · exact not_taken hi (SA := [2, 6]) (SB := [8]) (by kernel_rfl) (mem_reg ⟨hA1, hA2⟩) (mem_mem hB.1 kB)
    · rcases List.mem_append.1 hw with hw | hw
      · rw [if_pos (kR _)] at hw
        obtain rfl := List.mem_singleton.1 hw
        refine ⟨(⟨65528, 64, 12, 4, 0⟩ : Rw), (64 + rA), 0, [], ⟨?row, (.inl (by omega)), (by decide), (if_pos (by decide)), (show ¬ (12 : Int) = 0 ∧ ¬ (12 : Int) = -1 by decide), (if_neg (by decide)).symm, (show (false : Bool) = ((64 + rA) / 256 == 243) by rw [show (64 + rA) / 256 = 0 by omega]; rfl), Eq.mpr (if_neg (by decide)) (show onReg rA = onReg ((64 + rA) % 8) from congrArg onReg (by omega)), Eq.mpr (if_neg (by decide)) rfl, (fun _ => ⟨rfl, rfl⟩)⟩, ?way⟩
        case row => obtain ⟨j, hj⟩ := Int.eq_ofNat_of_zero_le (show 0 ≤ ((64 + rA)) - 64 by omega); rw [show (64 + rA) = 64 + (j : Int) by omega]; exact (of_decide_eq_true (by kernel_rfl) : ∀ j : Nat, j < 8 → (⟨65528, 64, 12, 4, 0⟩ : Rw) ∈ rowsOf (64 + (j : Int))) j (by omega)
        case way => simp [wayR, opB, onReg, onImm, onZ, code1 (show (64 + rA) < 256 by omega)]
      · obtain ⟨t, ht, rfl⟩ := List.mem_map.1 hw
        refine ⟨(⟨65535, 255, 58, 6, 0⟩ : Rw), 255, 0, t, ⟨(of_decide_eq_true (by kernel_rfl)), (.inl (by omega)), (by decide), (by kernel_rfl), (show ¬ (12 : Int) = 0 ∧ ¬ (12 : Int) = -1 by decide), (if_neg (by decide)).symm, (show (false : Bool) = ((255 : Int) / 256 == 243) by decide), Eq.mpr (if_pos rfl) ⟨reg_RMb hA, ht⟩, Eq.mpr (if_neg (by decide)) rfl, (fun h => absurd h (by decide))⟩, ?way⟩
        case way => simp [wayR, opB, codeB, onReg, onImm, onZ]
    · exact not_taken hi (SA := [2, 6]) (SB := [0]) (by kernel_rfl) (mem_reg ⟨hA1, hA2⟩) (by rw [hB]; decide)
  · exact not_taken hi (SA := [16, 48, 112]) (SB := l8) (by kernel_rfl) (mem_imm _) (cA_mem _)
  · rcases formsW hBm with ⟨rB, hB1, hB2, rfl⟩ | ⟨mB, mB1, mB2, rfl⟩ | ⟨hB, kB⟩ | rfl | hB
    · exact not_taken hi (SA := [8]) (SB := [2, 6]) (by kernel_rfl) (mem_mem hA.1 kA) (mem_reg ⟨hB1, hB2⟩)
    · exact not_taken hi (SA := [8]) (SB := [16, 48, 112]) (by kernel_rfl) (mem_mem hA.1 kA) (mem_imm _)
    · exact not_taken hi (SA := [8]) (SB := [8]) (by kernel_rfl) (mem_mem hA.1 kA) (mem_mem hB.1 kB)
    · rcases List.mem_append.1 hw with hw | hw
      · rw [if_neg (show ¬ A.k = 1 by rw [kA]; decide)] at hw
        cases hw
      · obtain ⟨t, ht, rfl⟩ := List.mem_map.1 hw
        refine ⟨(⟨65535, 255, 58, 6, 0⟩ : Rw), 255, 0, t, ⟨(of_decide_eq_true (by kernel_rfl)), (.inl (by omega)), (by decide), (by kernel_rfl), (show ¬ (12 : Int) = 0 ∧ ¬ (12 : Int) = -1 by decide), (if_neg (by decide)).symm, (show (false : Bool) = ((255 : Int) / 256 == 243) by decide), Eq.mpr (if_pos rfl) ⟨hA, ht⟩, Eq.mpr (if_neg (by decide)) rfl, (fun h => absurd h (by decide))⟩, ?way⟩
        case way => simp [wayR, opB, codeB, onReg, onImm, onZ]
    · exact not_taken hi (SA := [8]) (SB := [0]) (by kernel_rfl) (mem_mem hA.1 kA) (by rw [hB]; decide)
  · exact not_taken hi (SA := [1]) (SB := l8) (by kernel_rfl) mem_z (cA_mem _)
  · exact not_taken hi (SA := [0]) (SB := l8) (by kernel_rfl) (by rw [hA]; decide) (cA_mem _)
theorem bw_13 {c : Int} {A B : On} {rep : Bool} {l : Int} (hi : isB ⟨13, c, A, B, rep, l⟩ = true) (hAm : 0 ≤ A.m ∧ A.m ≤ 4294967295) (hBm : 0 ≤ B.m ∧ B.m ≤ 4294967295) {w : List Int} (hw : w ∈ waysL ⟨13, c, A, B, rep, l⟩) : ByWay ⟨13, c, A, B, rep, l⟩ w := by
  obtain ⟨h1, h2⟩ := isB_parts hi
  obtain rfl : rep = false := by cases rep; rfl; exact absurd (show false = true from h1) (by decide)
  obtain rfl := knows_no (show rC (rowN 13) = false from rfl) h2
  rw [wl_13] at hw
  clear h1 h2
  rcases formsW hAm with ⟨rA, hA1, hA2, rfl⟩ | ⟨mA, mA1, mA2, rfl⟩ | ⟨hA, kA⟩ | rfl | hA
  · have hA : 0 ≤ rA ∧ rA < 8 := ⟨hA1, hA2⟩
    rcases formsW hBm with ⟨rB, hB1, hB2, rfl⟩ | ⟨mB, mB1, mB2, rfl⟩ | ⟨hB, kB⟩ | rfl | hB
    · exact not_taken hi (SA := [2, 6]) (SB := [2, 6]) (by kernel_rfl) (mem_reg ⟨hA1, hA2⟩) (mem_reg ⟨hB1, hB2⟩)
    · exact not_taken hi (SA := [2, 6]) (SB := [16, 48, 112]) (by kernel_rfl) (mem_reg ⟨hA1, hA2⟩) (mem_imm _)
    · exact not_taken hi (SA := [2, 6]) (SB := [8]) (by kernel_rfl) (mem_reg ⟨hA1, hA2⟩) (mem_mem hB.1 kB)
    · rcases List.mem_append.1 hw with hw | hw
      · rw [if_pos (kR _)] at hw
        obtain rfl := List.mem_singleton.1 hw
        refine ⟨(⟨65528, 72, 13, 4, 0⟩ : Rw), (72 + rA), 0, [], ⟨?row, (.inl (by omega)), (by decide), (if_pos (by decide)), (show ¬ (13 : Int) = 0 ∧ ¬ (13 : Int) = -1 by decide), (if_neg (by decide)).symm, (show (false : Bool) = ((72 + rA) / 256 == 243) by rw [show (72 + rA) / 256 = 0 by omega]; rfl), Eq.mpr (if_neg (by decide)) (show onReg rA = onReg ((72 + rA) % 8) from congrArg onReg (by omega)), Eq.mpr (if_neg (by decide)) rfl, (fun _ => ⟨rfl, rfl⟩)⟩, ?way⟩
        case row => obtain ⟨j, hj⟩ := Int.eq_ofNat_of_zero_le (show 0 ≤ ((72 + rA)) - 72 by omega); rw [show (72 + rA) = 72 + (j : Int) by omega]; exact (of_decide_eq_true (by kernel_rfl) : ∀ j : Nat, j < 8 → (⟨65528, 72, 13, 4, 0⟩ : Rw) ∈ rowsOf (72 + (j : Int))) j (by omega)
        case way => simp [wayR, opB, onReg, onImm, onZ, code1 (show (72 + rA) < 256 by omega)]
      · obtain ⟨t, ht, rfl⟩ := List.mem_map.1 hw
        refine ⟨(⟨65535, 255, 58, 6, 0⟩ : Rw), 255, 1, t, ⟨(of_decide_eq_true (by kernel_rfl)), (.inl (by omega)), (by decide), (by kernel_rfl), (show ¬ (13 : Int) = 0 ∧ ¬ (13 : Int) = -1 by decide), (if_neg (by decide)).symm, (show (false : Bool) = ((255 : Int) / 256 == 243) by decide), Eq.mpr (if_pos rfl) ⟨reg_RMb hA, ht⟩, Eq.mpr (if_neg (by decide)) rfl, (fun h => absurd h (by decide))⟩, ?way⟩
        case way => simp [wayR, opB, codeB, onReg, onImm, onZ]
    · exact not_taken hi (SA := [2, 6]) (SB := [0]) (by kernel_rfl) (mem_reg ⟨hA1, hA2⟩) (by rw [hB]; decide)
  · exact not_taken hi (SA := [16, 48, 112]) (SB := l8) (by kernel_rfl) (mem_imm _) (cA_mem _)
  · rcases formsW hBm with ⟨rB, hB1, hB2, rfl⟩ | ⟨mB, mB1, mB2, rfl⟩ | ⟨hB, kB⟩ | rfl | hB
    · exact not_taken hi (SA := [8]) (SB := [2, 6]) (by kernel_rfl) (mem_mem hA.1 kA) (mem_reg ⟨hB1, hB2⟩)
    · exact not_taken hi (SA := [8]) (SB := [16, 48, 112]) (by kernel_rfl) (mem_mem hA.1 kA) (mem_imm _)
    · exact not_taken hi (SA := [8]) (SB := [8]) (by kernel_rfl) (mem_mem hA.1 kA) (mem_mem hB.1 kB)
    · rcases List.mem_append.1 hw with hw | hw
      · rw [if_neg (show ¬ A.k = 1 by rw [kA]; decide)] at hw
        cases hw
      · obtain ⟨t, ht, rfl⟩ := List.mem_map.1 hw
        refine ⟨(⟨65535, 255, 58, 6, 0⟩ : Rw), 255, 1, t, ⟨(of_decide_eq_true (by kernel_rfl)), (.inl (by omega)), (by decide), (by kernel_rfl), (show ¬ (13 : Int) = 0 ∧ ¬ (13 : Int) = -1 by decide), (if_neg (by decide)).symm, (show (false : Bool) = ((255 : Int) / 256 == 243) by decide), Eq.mpr (if_pos rfl) ⟨hA, ht⟩, Eq.mpr (if_neg (by decide)) rfl, (fun h => absurd h (by decide))⟩, ?way⟩
        case way => simp [wayR, opB, codeB, onReg, onImm, onZ]
    · exact not_taken hi (SA := [8]) (SB := [0]) (by kernel_rfl) (mem_mem hA.1 kA) (by rw [hB]; decide)
  · exact not_taken hi (SA := [1]) (SB := l8) (by kernel_rfl) mem_z (cA_mem _)
  · exact not_taken hi (SA := [0]) (SB := l8) (by kernel_rfl) (by rw [hA]; decide) (cA_mem _)
theorem bw_14 {c : Int} {A B : On} {rep : Bool} {l : Int} (hi : isB ⟨14, c, A, B, rep, l⟩ = true) (hAm : 0 ≤ A.m ∧ A.m ≤ 4294967295) (hBm : 0 ≤ B.m ∧ B.m ≤ 4294967295) {w : List Int} (hw : w ∈ waysL ⟨14, c, A, B, rep, l⟩) : ByWay ⟨14, c, A, B, rep, l⟩ w := by
  obtain ⟨h1, h2⟩ := isB_parts hi
  obtain rfl : rep = false := by cases rep; rfl; exact absurd (show false = true from h1) (by decide)
  obtain rfl := knows_no (show rC (rowN 14) = false from rfl) h2
  rw [wl_14] at hw
  clear h1 h2
  rcases formsW hAm with ⟨rA, hA1, hA2, rfl⟩ | ⟨mA, mA1, mA2, rfl⟩ | ⟨hA, kA⟩ | rfl | hA
  · have hA : 0 ≤ rA ∧ rA < 8 := ⟨hA1, hA2⟩
    rcases formsW hBm with ⟨rB, hB1, hB2, rfl⟩ | ⟨mB, mB1, mB2, rfl⟩ | ⟨hB, kB⟩ | rfl | hB
    · exact not_taken hi (SA := [2, 6]) (SB := [2, 6]) (by kernel_rfl) (mem_reg ⟨hA1, hA2⟩) (mem_reg ⟨hB1, hB2⟩)
    · exact not_taken hi (SA := [2, 6]) (SB := [16, 48, 112]) (by kernel_rfl) (mem_reg ⟨hA1, hA2⟩) (mem_imm _)
    · exact not_taken hi (SA := [2, 6]) (SB := [8]) (by kernel_rfl) (mem_reg ⟨hA1, hA2⟩) (mem_mem hB.1 kB)
    · obtain ⟨t, ht, rfl⟩ := List.mem_map.1 hw
      refine ⟨(⟨65535, 247, 57, 6, 0⟩ : Rw), 247, 2, t, ⟨(of_decide_eq_true (by kernel_rfl)), (.inl (by omega)), (by decide), (by kernel_rfl), (show ¬ (14 : Int) = 0 ∧ ¬ (14 : Int) = -1 by decide), (if_neg (by decide)).symm, (show (false : Bool) = ((247 : Int) / 256 == 243) by decide), Eq.mpr (if_pos rfl) ⟨reg_RMb hA, ht⟩, Eq.mpr (if_neg (by decide)) rfl, (fun h => absurd h (by decide))⟩, ?way⟩
      case way => simp [wayR, opB, codeB, onReg, onImm, onZ]
    · exact not_taken hi (SA := [2, 6]) (SB := [0]) (by kernel_rfl) (mem_reg ⟨hA1, hA2⟩) (by rw [hB]; decide)
  · exact not_taken hi (SA := [16, 48, 112]) (SB := l8) (by kernel_rfl) (mem_imm _) (cA_mem _)
  · rcases formsW hBm with ⟨rB, hB1, hB2, rfl⟩ | ⟨mB, mB1, mB2, rfl⟩ | ⟨hB, kB⟩ | rfl | hB
    · exact not_taken hi (SA := [8]) (SB := [2, 6]) (by kernel_rfl) (mem_mem hA.1 kA) (mem_reg ⟨hB1, hB2⟩)
    · exact not_taken hi (SA := [8]) (SB := [16, 48, 112]) (by kernel_rfl) (mem_mem hA.1 kA) (mem_imm _)
    · exact not_taken hi (SA := [8]) (SB := [8]) (by kernel_rfl) (mem_mem hA.1 kA) (mem_mem hB.1 kB)
    · obtain ⟨t, ht, rfl⟩ := List.mem_map.1 hw
      refine ⟨(⟨65535, 247, 57, 6, 0⟩ : Rw), 247, 2, t, ⟨(of_decide_eq_true (by kernel_rfl)), (.inl (by omega)), (by decide), (by kernel_rfl), (show ¬ (14 : Int) = 0 ∧ ¬ (14 : Int) = -1 by decide), (if_neg (by decide)).symm, (show (false : Bool) = ((247 : Int) / 256 == 243) by decide), Eq.mpr (if_pos rfl) ⟨hA, ht⟩, Eq.mpr (if_neg (by decide)) rfl, (fun h => absurd h (by decide))⟩, ?way⟩
      case way => simp [wayR, opB, codeB, onReg, onImm, onZ]
    · exact not_taken hi (SA := [8]) (SB := [0]) (by kernel_rfl) (mem_mem hA.1 kA) (by rw [hB]; decide)
  · exact not_taken hi (SA := [1]) (SB := l8) (by kernel_rfl) mem_z (cA_mem _)
  · exact not_taken hi (SA := [0]) (SB := l8) (by kernel_rfl) (by rw [hA]; decide) (cA_mem _)
theorem bw_15 {c : Int} {A B : On} {rep : Bool} {l : Int} (hi : isB ⟨15, c, A, B, rep, l⟩ = true) (hAm : 0 ≤ A.m ∧ A.m ≤ 4294967295) (hBm : 0 ≤ B.m ∧ B.m ≤ 4294967295) {w : List Int} (hw : w ∈ waysL ⟨15, c, A, B, rep, l⟩) : ByWay ⟨15, c, A, B, rep, l⟩ w := by
  obtain ⟨h1, h2⟩ := isB_parts hi
  obtain rfl : rep = false := by cases rep; rfl; exact absurd (show false = true from h1) (by decide)
  obtain rfl := knows_no (show rC (rowN 15) = false from rfl) h2
  rw [wl_15] at hw
  clear h1 h2
  rcases formsW hAm with ⟨rA, hA1, hA2, rfl⟩ | ⟨mA, mA1, mA2, rfl⟩ | ⟨hA, kA⟩ | rfl | hA
  · have hA : 0 ≤ rA ∧ rA < 8 := ⟨hA1, hA2⟩
    rcases formsW hBm with ⟨rB, hB1, hB2, rfl⟩ | ⟨mB, mB1, mB2, rfl⟩ | ⟨hB, kB⟩ | rfl | hB
    · exact not_taken hi (SA := [2, 6]) (SB := [2, 6]) (by kernel_rfl) (mem_reg ⟨hA1, hA2⟩) (mem_reg ⟨hB1, hB2⟩)
    · exact not_taken hi (SA := [2, 6]) (SB := [16, 48, 112]) (by kernel_rfl) (mem_reg ⟨hA1, hA2⟩) (mem_imm _)
    · exact not_taken hi (SA := [2, 6]) (SB := [8]) (by kernel_rfl) (mem_reg ⟨hA1, hA2⟩) (mem_mem hB.1 kB)
    · obtain ⟨t, ht, rfl⟩ := List.mem_map.1 hw
      refine ⟨(⟨65535, 247, 57, 6, 0⟩ : Rw), 247, 3, t, ⟨(of_decide_eq_true (by kernel_rfl)), (.inl (by omega)), (by decide), (by kernel_rfl), (show ¬ (15 : Int) = 0 ∧ ¬ (15 : Int) = -1 by decide), (if_neg (by decide)).symm, (show (false : Bool) = ((247 : Int) / 256 == 243) by decide), Eq.mpr (if_pos rfl) ⟨reg_RMb hA, ht⟩, Eq.mpr (if_neg (by decide)) rfl, (fun h => absurd h (by decide))⟩, ?way⟩
      case way => simp [wayR, opB, codeB, onReg, onImm, onZ]
    · exact not_taken hi (SA := [2, 6]) (SB := [0]) (by kernel_rfl) (mem_reg ⟨hA1, hA2⟩) (by rw [hB]; decide)
  · exact not_taken hi (SA := [16, 48, 112]) (SB := l8) (by kernel_rfl) (mem_imm _) (cA_mem _)
  · rcases formsW hBm with ⟨rB, hB1, hB2, rfl⟩ | ⟨mB, mB1, mB2, rfl⟩ | ⟨hB, kB⟩ | rfl | hB
    · exact not_taken hi (SA := [8]) (SB := [2, 6]) (by kernel_rfl) (mem_mem hA.1 kA) (mem_reg ⟨hB1, hB2⟩)
    · exact not_taken hi (SA := [8]) (SB := [16, 48, 112]) (by kernel_rfl) (mem_mem hA.1 kA) (mem_imm _)
    · exact not_taken hi (SA := [8]) (SB := [8]) (by kernel_rfl) (mem_mem hA.1 kA) (mem_mem hB.1 kB)
    · obtain ⟨t, ht, rfl⟩ := List.mem_map.1 hw
      refine ⟨(⟨65535, 247, 57, 6, 0⟩ : Rw), 247, 3, t, ⟨(of_decide_eq_true (by kernel_rfl)), (.inl (by omega)), (by decide), (by kernel_rfl), (show ¬ (15 : Int) = 0 ∧ ¬ (15 : Int) = -1 by decide), (if_neg (by decide)).symm, (show (false : Bool) = ((247 : Int) / 256 == 243) by decide), Eq.mpr (if_pos rfl) ⟨hA, ht⟩, Eq.mpr (if_neg (by decide)) rfl, (fun h => absurd h (by decide))⟩, ?way⟩
      case way => simp [wayR, opB, codeB, onReg, onImm, onZ]
    · exact not_taken hi (SA := [8]) (SB := [0]) (by kernel_rfl) (mem_mem hA.1 kA) (by rw [hB]; decide)
  · exact not_taken hi (SA := [1]) (SB := l8) (by kernel_rfl) mem_z (cA_mem _)
  · exact not_taken hi (SA := [0]) (SB := l8) (by kernel_rfl) (by rw [hA]; decide) (cA_mem _)
theorem bw_16 {c : Int} {A B : On} {rep : Bool} {l : Int} (hi : isB ⟨16, c, A, B, rep, l⟩ = true) (hAm : 0 ≤ A.m ∧ A.m ≤ 4294967295) (hBm : 0 ≤ B.m ∧ B.m ≤ 4294967295) {w : List Int} (hw : w ∈ waysL ⟨16, c, A, B, rep, l⟩) : ByWay ⟨16, c, A, B, rep, l⟩ w := by
  obtain ⟨h1, h2⟩ := isB_parts hi
  obtain rfl : rep = false := by cases rep; rfl; exact absurd (show false = true from h1) (by decide)
  obtain rfl := knows_no (show rC (rowN 16) = false from rfl) h2
  rw [wl_16] at hw
  clear h1 h2
  rcases formsW hAm with ⟨rA, hA1, hA2, rfl⟩ | ⟨mA, mA1, mA2, rfl⟩ | ⟨hA, kA⟩ | rfl | hA
  · have hA : 0 ≤ rA ∧ rA < 8 := ⟨hA1, hA2⟩
    rcases formsW hBm with ⟨rB, hB1, hB2, rfl⟩ | ⟨mB, mB1, mB2, rfl⟩ | ⟨hB, kB⟩ | rfl | hB
    · exact not_taken hi (SA := [2, 6]) (SB := [2, 6]) (by kernel_rfl) (mem_reg ⟨hA1, hA2⟩) (mem_reg ⟨hB1, hB2⟩)
    · exact not_taken hi (SA := [2, 6]) (SB := [16, 48, 112]) (by kernel_rfl) (mem_reg ⟨hA1, hA2⟩) (mem_imm _)
    · exact not_taken hi (SA := [2, 6]) (SB := [8]) (by kernel_rfl) (mem_reg ⟨hA1, hA2⟩) (mem_mem hB.1 kB)
    · obtain ⟨t, ht, rfl⟩ := List.mem_map.1 hw
      refine ⟨(⟨65535, 247, 57, 6, 0⟩ : Rw), 247, 4, t, ⟨(of_decide_eq_true (by kernel_rfl)), (.inl (by omega)), (by decide), (by kernel_rfl), (show ¬ (16 : Int) = 0 ∧ ¬ (16 : Int) = -1 by decide), (if_neg (by decide)).symm, (show (false : Bool) = ((247 : Int) / 256 == 243) by decide), Eq.mpr (if_pos rfl) ⟨reg_RMb hA, ht⟩, Eq.mpr (if_neg (by decide)) rfl, (fun h => absurd h (by decide))⟩, ?way⟩
      case way => simp [wayR, opB, codeB, onReg, onImm, onZ]
    · exact not_taken hi (SA := [2, 6]) (SB := [0]) (by kernel_rfl) (mem_reg ⟨hA1, hA2⟩) (by rw [hB]; decide)
  · exact not_taken hi (SA := [16, 48, 112]) (SB := l8) (by kernel_rfl) (mem_imm _) (cA_mem _)
  · rcases formsW hBm with ⟨rB, hB1, hB2, rfl⟩ | ⟨mB, mB1, mB2, rfl⟩ | ⟨hB, kB⟩ | rfl | hB
    · exact not_taken hi (SA := [8]) (SB := [2, 6]) (by kernel_rfl) (mem_mem hA.1 kA) (mem_reg ⟨hB1, hB2⟩)
    · exact not_taken hi (SA := [8]) (SB := [16, 48, 112]) (by kernel_rfl) (mem_mem hA.1 kA) (mem_imm _)
    · exact not_taken hi (SA := [8]) (SB := [8]) (by kernel_rfl) (mem_mem hA.1 kA) (mem_mem hB.1 kB)
    · obtain ⟨t, ht, rfl⟩ := List.mem_map.1 hw
      refine ⟨(⟨65535, 247, 57, 6, 0⟩ : Rw), 247, 4, t, ⟨(of_decide_eq_true (by kernel_rfl)), (.inl (by omega)), (by decide), (by kernel_rfl), (show ¬ (16 : Int) = 0 ∧ ¬ (16 : Int) = -1 by decide), (if_neg (by decide)).symm, (show (false : Bool) = ((247 : Int) / 256 == 243) by decide), Eq.mpr (if_pos rfl) ⟨hA, ht⟩, Eq.mpr (if_neg (by decide)) rfl, (fun h => absurd h (by decide))⟩, ?way⟩
      case way => simp [wayR, opB, codeB, onReg, onImm, onZ]
    · exact not_taken hi (SA := [8]) (SB := [0]) (by kernel_rfl) (mem_mem hA.1 kA) (by rw [hB]; decide)
  · exact not_taken hi (SA := [1]) (SB := l8) (by kernel_rfl) mem_z (cA_mem _)
  · exact not_taken hi (SA := [0]) (SB := l8) (by kernel_rfl) (by rw [hA]; decide) (cA_mem _)
theorem bw_17 {c : Int} {A B : On} {rep : Bool} {l : Int} (hi : isB ⟨17, c, A, B, rep, l⟩ = true) (hAm : 0 ≤ A.m ∧ A.m ≤ 4294967295) (hBm : 0 ≤ B.m ∧ B.m ≤ 4294967295) {w : List Int} (hw : w ∈ waysL ⟨17, c, A, B, rep, l⟩) : ByWay ⟨17, c, A, B, rep, l⟩ w := by
  obtain ⟨h1, h2⟩ := isB_parts hi
  obtain rfl : rep = false := by cases rep; rfl; exact absurd (show false = true from h1) (by decide)
  obtain rfl := knows_no (show rC (rowN 17) = false from rfl) h2
  rw [wl_17] at hw
  clear h1 h2
  rcases formsW hAm with ⟨rA, hA1, hA2, rfl⟩ | ⟨mA, mA1, mA2, rfl⟩ | ⟨hA, kA⟩ | rfl | hA
  · have hA : 0 ≤ rA ∧ rA < 8 := ⟨hA1, hA2⟩
    rcases formsW hBm with ⟨rB, hB1, hB2, rfl⟩ | ⟨mB, mB1, mB2, rfl⟩ | ⟨hB, kB⟩ | rfl | hB
    · exact not_taken hi (SA := [2, 6]) (SB := [2, 6]) (by kernel_rfl) (mem_reg ⟨hA1, hA2⟩) (mem_reg ⟨hB1, hB2⟩)
    · exact not_taken hi (SA := [2, 6]) (SB := [16, 48, 112]) (by kernel_rfl) (mem_reg ⟨hA1, hA2⟩) (mem_imm _)
    · exact not_taken hi (SA := [2, 6]) (SB := [8]) (by kernel_rfl) (mem_reg ⟨hA1, hA2⟩) (mem_mem hB.1 kB)
    · obtain ⟨t, ht, rfl⟩ := List.mem_map.1 hw
      refine ⟨(⟨65535, 247, 57, 6, 0⟩ : Rw), 247, 5, t, ⟨(of_decide_eq_true (by kernel_rfl)), (.inl (by omega)), (by decide), (by kernel_rfl), (show ¬ (17 : Int) = 0 ∧ ¬ (17 : Int) = -1 by decide), (if_neg (by decide)).symm, (show (false : Bool) = ((247 : Int) / 256 == 243) by decide), Eq.mpr (if_pos rfl) ⟨reg_RMb hA, ht⟩, Eq.mpr (if_neg (by decide)) rfl, (fun h => absurd h (by decide))⟩, ?way⟩
      case way => simp [wayR, opB, codeB, onReg, onImm, onZ]
    · exact not_taken hi (SA := [2, 6]) (SB := [0]) (by kernel_rfl) (mem_reg ⟨hA1, hA2⟩) (by rw [hB]; decide)
  · exact not_taken hi (SA := [16, 48, 112]) (SB := l8) (by kernel_rfl) (mem_imm _) (cA_mem _)
  · rcases formsW hBm with ⟨rB, hB1, hB2, rfl⟩ | ⟨mB, mB1, mB2, rfl⟩ | ⟨hB, kB⟩ | rfl | hB
    · exact not_taken hi (SA := [8]) (SB := [2, 6]) (by kernel_rfl) (mem_mem hA.1 kA) (mem_reg ⟨hB1, hB2⟩)
    · exact not_taken hi (SA := [8]) (SB := [16, 48, 112]) (by kernel_rfl) (mem_mem hA.1 kA) (mem_imm _)
    · exact not_taken hi (SA := [8]) (SB := [8]) (by kernel_rfl) (mem_mem hA.1 kA) (mem_mem hB.1 kB)
    · obtain ⟨t, ht, rfl⟩ := List.mem_map.1 hw
      refine ⟨(⟨65535, 247, 57, 6, 0⟩ : Rw), 247, 5, t, ⟨(of_decide_eq_true (by kernel_rfl)), (.inl (by omega)), (by decide), (by kernel_rfl), (show ¬ (17 : Int) = 0 ∧ ¬ (17 : Int) = -1 by decide), (if_neg (by decide)).symm, (show (false : Bool) = ((247 : Int) / 256 == 243) by decide), Eq.mpr (if_pos rfl) ⟨hA, ht⟩, Eq.mpr (if_neg (by decide)) rfl, (fun h => absurd h (by decide))⟩, ?way⟩
      case way => simp [wayR, opB, codeB, onReg, onImm, onZ]
    · exact not_taken hi (SA := [8]) (SB := [0]) (by kernel_rfl) (mem_mem hA.1 kA) (by rw [hB]; decide)
  · exact not_taken hi (SA := [1]) (SB := l8) (by kernel_rfl) mem_z (cA_mem _)
  · exact not_taken hi (SA := [0]) (SB := l8) (by kernel_rfl) (by rw [hA]; decide) (cA_mem _)
theorem bw_18 {c : Int} {A B : On} {rep : Bool} {l : Int} (hi : isB ⟨18, c, A, B, rep, l⟩ = true) (hAm : 0 ≤ A.m ∧ A.m ≤ 4294967295) (hBm : 0 ≤ B.m ∧ B.m ≤ 4294967295) {w : List Int} (hw : w ∈ waysL ⟨18, c, A, B, rep, l⟩) : ByWay ⟨18, c, A, B, rep, l⟩ w := by
  obtain ⟨h1, h2⟩ := isB_parts hi
  obtain rfl : rep = false := by cases rep; rfl; exact absurd (show false = true from h1) (by decide)
  obtain rfl := knows_no (show rC (rowN 18) = false from rfl) h2
  rw [wl_18] at hw
  clear h1 h2
  rcases formsW hAm with ⟨rA, hA1, hA2, rfl⟩ | ⟨mA, mA1, mA2, rfl⟩ | ⟨hA, kA⟩ | rfl | hA
  · have hA : 0 ≤ rA ∧ rA < 8 := ⟨hA1, hA2⟩
    rcases formsW hBm with ⟨rB, hB1, hB2, rfl⟩ | ⟨mB, mB1, mB2, rfl⟩ | ⟨hB, kB⟩ | rfl | hB
    · have hB : 0 ≤ rB ∧ rB < 8 := ⟨hB1, hB2⟩
      obtain ⟨t, ht, rfl⟩ := List.mem_map.1 hw
      refine ⟨(⟨65535, 4015, 18, 5, 6⟩ : Rw), 4015, rA, t, ⟨(of_decide_eq_true (by kernel_rfl)), (.inr (by omega)), hA, (if_pos (by decide)), (show ¬ (18 : Int) = 0 ∧ ¬ (18 : Int) = -1 by decide), (if_neg (by decide)).symm, (show (false : Bool) = ((4015 : Int) / 256 == 243) by decide), Eq.mpr (if_neg (by decide)) rfl, Eq.mpr (if_pos rfl) ⟨reg_RMb hB, ht⟩, (fun h => absurd h (by decide))⟩, ?way⟩
      case way => simp [wayR, opB, codeB, onReg, onImm, onZ]
    · exact not_taken hi (SA := [2, 6]) (SB := [16, 48, 112]) (by kernel_rfl) (mem_reg ⟨hA1, hA2⟩) (mem_imm _)
    · obtain ⟨t, ht, rfl⟩ := List.mem_map.1 hw
      refine ⟨(⟨65535, 4015, 18, 5, 6⟩ : Rw), 4015, rA, t, ⟨(of_decide_eq_true (by kernel_rfl)), (.inr (by omega)), hA, (if_pos (by decide)), (show ¬ (18 : Int) = 0 ∧ ¬ (18 : Int) = -1 by decide), (if_neg (by decide)).symm, (show (false : Bool) = ((4015 : Int) / 256 == 243) by decide), Eq.mpr (if_neg (by decide)) rfl, Eq.mpr (if_pos rfl) ⟨hB, ht⟩, (fun h => absurd h (by decide))⟩, ?way⟩
      case way => simp [wayR, opB, codeB, onReg, onImm, onZ]
    · exact not_taken hi (SA := [2, 6]) (SB := [1]) (by kernel_rfl) (mem_reg ⟨hA1, hA2⟩) mem_z
    · exact not_taken hi (SA := [2, 6]) (SB := [0]) (by kernel_rfl) (mem_reg ⟨hA1, hA2⟩) (by rw [hB]; decide)
  · exact not_taken hi (SA := [16, 48, 112]) (SB := l8) (by kernel_rfl) (mem_imm _) (cA_mem _)
  · exact not_taken hi (SA := [8]) (SB := l8) (by kernel_rfl) (mem_mem hA.1 kA) (cA_mem _)
  · exact not_taken hi (SA := [1]) (SB := l8) (by kernel_rfl) mem_z (cA_mem _)
  · exact not_taken hi (SA := [0]) (SB := l8) (by kernel_rfl) (by rw [hA]; decide) (cA_mem _)
theorem bw_19 {c : Int} {A B : On} {rep : Bool} {l : Int} (hi : isB ⟨19, c, A, B, rep, l⟩ = true) (hAm : 0 ≤ A.m ∧ A.m ≤ 4294967295) (hBm : 0 ≤ B.m ∧ B.m ≤ 4294967295) {w : List Int} (hw : w ∈ waysL ⟨19, c, A, B, rep, l⟩) : ByWay ⟨19, c, A, B, rep, l⟩ w := by
  obtain ⟨h1, h2⟩ := isB_parts hi
  obtain rfl : rep = false := by cases rep; rfl; exact absurd (show false = true from h1) (by decide)
  obtain rfl := knows_no (show rC (rowN 19) = false from rfl) h2
  rw [wl_19] at hw
  clear h1 h2
  rcases formsW hAm with ⟨rA, hA1, hA2, rfl⟩ | ⟨mA, mA1, mA2, rfl⟩ | ⟨hA, kA⟩ | rfl | hA
  · have hA : 0 ≤ rA ∧ rA < 8 := ⟨hA1, hA2⟩
    rcases formsW hBm with ⟨rB, hB1, hB2, rfl⟩ | ⟨mB, mB1, mB2, rfl⟩ | ⟨hB, kB⟩ | rfl | hB
    · exact not_taken hi (SA := [2, 6]) (SB := [2, 6]) (by kernel_rfl) (mem_reg ⟨hA1, hA2⟩) (mem_reg ⟨hB1, hB2⟩)
    · exact not_taken hi (SA := [2, 6]) (SB := [16, 48, 112]) (by kernel_rfl) (mem_reg ⟨hA1, hA2⟩) (mem_imm _)
    · exact not_taken hi (SA := [2, 6]) (SB := [8]) (by kernel_rfl) (mem_reg ⟨hA1, hA2⟩) (mem_mem hB.1 kB)
    · obtain ⟨t, ht, rfl⟩ := List.mem_map.1 hw
      refine ⟨(⟨65535, 247, 57, 6, 0⟩ : Rw), 247, 6, t, ⟨(of_decide_eq_true (by kernel_rfl)), (.inl (by omega)), (by decide), (by kernel_rfl), (show ¬ (19 : Int) = 0 ∧ ¬ (19 : Int) = -1 by decide), (if_neg (by decide)).symm, (show (false : Bool) = ((247 : Int) / 256 == 243) by decide), Eq.mpr (if_pos rfl) ⟨reg_RMb hA, ht⟩, Eq.mpr (if_neg (by decide)) rfl, (fun h => absurd h (by decide))⟩, ?way⟩
      case way => simp [wayR, opB, codeB, onReg, onImm, onZ]
    · exact not_taken hi (SA := [2, 6]) (SB := [0]) (by kernel_rfl) (mem_reg ⟨hA1, hA2⟩) (by rw [hB]; decide)
  · exact not_taken hi (SA := [16, 48, 112]) (SB := l8) (by kernel_rfl) (mem_imm _) (cA_mem _)
  · rcases formsW hBm with ⟨rB, hB1, hB2, rfl⟩ | ⟨mB, mB1, mB2, rfl⟩ | ⟨hB, kB⟩ | rfl | hB
    · exact not_taken hi (SA := [8]) (SB := [2, 6]) (by kernel_rfl) (mem_mem hA.1 kA) (mem_reg ⟨hB1, hB2⟩)
    · exact not_taken hi (SA := [8]) (SB := [16, 48, 112]) (by kernel_rfl) (mem_mem hA.1 kA) (mem_imm _)
    · exact not_taken hi (SA := [8]) (SB := [8]) (by kernel_rfl) (mem_mem hA.1 kA) (mem_mem hB.1 kB)
    · obtain ⟨t, ht, rfl⟩ := List.mem_map.1 hw
      refine ⟨(⟨65535, 247, 57, 6, 0⟩ : Rw), 247, 6, t, ⟨(of_decide_eq_true (by kernel_rfl)), (.inl (by omega)), (by decide), (by kernel_rfl), (show ¬ (19 : Int) = 0 ∧ ¬ (19 : Int) = -1 by decide), (if_neg (by decide)).symm, (show (false : Bool) = ((247 : Int) / 256 == 243) by decide), Eq.mpr (if_pos rfl) ⟨hA, ht⟩, Eq.mpr (if_neg (by decide)) rfl, (fun h => absurd h (by decide))⟩, ?way⟩
      case way => simp [wayR, opB, codeB, onReg, onImm, onZ]
    · exact not_taken hi (SA := [8]) (SB := [0]) (by kernel_rfl) (mem_mem hA.1 kA) (by rw [hB]; decide)
  · exact not_taken hi (SA := [1]) (SB := l8) (by kernel_rfl) mem_z (cA_mem _)
  · exact not_taken hi (SA := [0]) (SB := l8) (by kernel_rfl) (by rw [hA]; decide) (cA_mem _)
theorem bw_20 {c : Int} {A B : On} {rep : Bool} {l : Int} (hi : isB ⟨20, c, A, B, rep, l⟩ = true) (hAm : 0 ≤ A.m ∧ A.m ≤ 4294967295) (hBm : 0 ≤ B.m ∧ B.m ≤ 4294967295) {w : List Int} (hw : w ∈ waysL ⟨20, c, A, B, rep, l⟩) : ByWay ⟨20, c, A, B, rep, l⟩ w := by
  obtain ⟨h1, h2⟩ := isB_parts hi
  obtain rfl : rep = false := by cases rep; rfl; exact absurd (show false = true from h1) (by decide)
  obtain rfl := knows_no (show rC (rowN 20) = false from rfl) h2
  rw [wl_20] at hw
  clear h1 h2
  rcases formsW hAm with ⟨rA, hA1, hA2, rfl⟩ | ⟨mA, mA1, mA2, rfl⟩ | ⟨hA, kA⟩ | rfl | hA
  · have hA : 0 ≤ rA ∧ rA < 8 := ⟨hA1, hA2⟩
    rcases formsW hBm with ⟨rB, hB1, hB2, rfl⟩ | ⟨mB, mB1, mB2, rfl⟩ | ⟨hB, kB⟩ | rfl | hB
    · exact not_taken hi (SA := [2, 6]) (SB := [2, 6]) (by kernel_rfl) (mem_reg ⟨hA1, hA2⟩) (mem_reg ⟨hB1, hB2⟩)
    · exact not_taken hi (SA := [2, 6]) (SB := [16, 48, 112]) (by kernel_rfl) (mem_reg ⟨hA1, hA2⟩) (mem_imm _)
    · exact not_taken hi (SA := [2, 6]) (SB := [8]) (by kernel_rfl) (mem_reg ⟨hA1, hA2⟩) (mem_mem hB.1 kB)
    · obtain ⟨t, ht, rfl⟩ := List.mem_map.1 hw
      refine ⟨(⟨65535, 247, 57, 6, 0⟩ : Rw), 247, 7, t, ⟨(of_decide_eq_true (by kernel_rfl)), (.inl (by omega)), (by decide), (by kernel_rfl), (show ¬ (20 : Int) = 0 ∧ ¬ (20 : Int) = -1 by decide), (if_neg (by decide)).symm, (show (false : Bool) = ((247 : Int) / 256 == 243) by decide), Eq.mpr (if_pos rfl) ⟨reg_RMb hA, ht⟩, Eq.mpr (if_neg (by decide)) rfl, (fun h => absurd h (by decide))⟩, ?way⟩
      case way => simp [wayR, opB, codeB, onReg, onImm, onZ]
    · exact not_taken hi (SA := [2, 6]) (SB := [0]) (by kernel_rfl) (mem_reg ⟨hA1, hA2⟩) (by rw [hB]; decide)
  · exact not_taken hi (SA := [16, 48, 112]) (SB := l8) (by kernel_rfl) (mem_imm _) (cA_mem _)
  · rcases formsW hBm with ⟨rB, hB1, hB2, rfl⟩ | ⟨mB, mB1, mB2, rfl⟩ | ⟨hB, kB⟩ | rfl | hB
    · exact not_taken hi (SA := [8]) (SB := [2, 6]) (by kernel_rfl) (mem_mem hA.1 kA) (mem_reg ⟨hB1, hB2⟩)
    · exact not_taken hi (SA := [8]) (SB := [16, 48, 112]) (by kernel_rfl) (mem_mem hA.1 kA) (mem_imm _)
    · exact not_taken hi (SA := [8]) (SB := [8]) (by kernel_rfl) (mem_mem hA.1 kA) (mem_mem hB.1 kB)
    · obtain ⟨t, ht, rfl⟩ := List.mem_map.1 hw
      refine ⟨(⟨65535, 247, 57, 6, 0⟩ : Rw), 247, 7, t, ⟨(of_decide_eq_true (by kernel_rfl)), (.inl (by omega)), (by decide), (by kernel_rfl), (show ¬ (20 : Int) = 0 ∧ ¬ (20 : Int) = -1 by decide), (if_neg (by decide)).symm, (show (false : Bool) = ((247 : Int) / 256 == 243) by decide), Eq.mpr (if_pos rfl) ⟨hA, ht⟩, Eq.mpr (if_neg (by decide)) rfl, (fun h => absurd h (by decide))⟩, ?way⟩
      case way => simp [wayR, opB, codeB, onReg, onImm, onZ]
    · exact not_taken hi (SA := [8]) (SB := [0]) (by kernel_rfl) (mem_mem hA.1 kA) (by rw [hB]; decide)
  · exact not_taken hi (SA := [1]) (SB := l8) (by kernel_rfl) mem_z (cA_mem _)
  · exact not_taken hi (SA := [0]) (SB := l8) (by kernel_rfl) (by rw [hA]; decide) (cA_mem _)
theorem bw_21 {c : Int} {A B : On} {rep : Bool} {l : Int} (hi : isB ⟨21, c, A, B, rep, l⟩ = true) (hAm : 0 ≤ A.m ∧ A.m ≤ 4294967295) (hBm : 0 ≤ B.m ∧ B.m ≤ 4294967295) {w : List Int} (hw : w ∈ waysL ⟨21, c, A, B, rep, l⟩) : ByWay ⟨21, c, A, B, rep, l⟩ w := by
  obtain ⟨h1, h2⟩ := isB_parts hi
  obtain rfl : rep = false := by cases rep; rfl; exact absurd (show false = true from h1) (by decide)
  obtain rfl := knows_no (show rC (rowN 21) = false from rfl) h2
  rw [wl_21] at hw
  clear h1 h2
  rcases formsW hAm with ⟨rA, hA1, hA2, rfl⟩ | ⟨mA, mA1, mA2, rfl⟩ | ⟨hA, kA⟩ | rfl | hA
  · have hA : 0 ≤ rA ∧ rA < 8 := ⟨hA1, hA2⟩
    rcases formsW hBm with ⟨rB, hB1, hB2, rfl⟩ | ⟨mB, mB1, mB2, rfl⟩ | ⟨hB, kB⟩ | rfl | hB
    · have hB : 0 ≤ rB ∧ rB < 8 := ⟨hB1, hB2⟩
      by_cases hb1 : ¬ rB = 1
      · exact not_taken hi (SA := [2, 6]) (SB := [2]) (by kernel_rfl) (mem_reg ⟨hA1, hA2⟩) (by rw [cA_reg hB, if_neg hb1]; decide)
      obtain rfl : rB = 1 := by omega
      rw [if_pos (kR _)] at hw
      obtain ⟨t, ht, rfl⟩ := List.mem_map.1 hw
      refine ⟨(⟨65535, 211, 55, 6, 2⟩ : Rw), 211, 0, t, ⟨(of_decide_eq_true (by kernel_rfl)), (.inl (by omega)), (by decide), (by kernel_rfl), (show ¬ (21 : Int) = 0 ∧ ¬ (21 : Int) = -1 by decide), (if_neg (by decide)).symm, (show (false : Bool) = ((211 : Int) / 256 == 243) by decide), Eq.mpr (if_pos rfl) ⟨reg_RMb hA, ht⟩, Eq.mpr (if_neg (by decide)) rfl, (fun h => absurd h (by decide))⟩, ?way⟩
      case way => simp [wayR, opB, codeB, onReg, onImm, onZ]
    · by_cases hb8 : ¬ mB < 256
      · exact not_taken hi (SA := [2, 6]) (SB := [16]) (by kernel_rfl) (mem_reg ⟨hA1, hA2⟩) (by rw [cA_imm, if_neg (by omega), if_neg hb8]; decide)
      have hmm : mB % 256 = mB := by omega
      rw [if_neg (nI1 _)] at hw
      rcases List.mem_append.1 hw with hw | hw
      · by_cases hq : mB = 1
        · subst hq
          rw [if_pos (show (onImm 1).m = 1 from rfl)] at hw
          obtain ⟨t, ht, rfl⟩ := List.mem_map.1 hw
          refine ⟨(⟨65535, 209, 55, 6, 3⟩ : Rw), 209, 0, t, ⟨(of_decide_eq_true (by kernel_rfl)), (.inl (by omega)), (by decide), (by kernel_rfl), (show ¬ (21 : Int) = 0 ∧ ¬ (21 : Int) = -1 by decide), (if_neg (by decide)).symm, (show (false : Bool) = ((209 : Int) / 256 == 243) by decide), Eq.mpr (if_pos rfl) ⟨reg_RMb hA, ht⟩, Eq.mpr (if_neg (by decide)) rfl, (fun h => absurd h (by decide))⟩, ?way⟩
          case way => simp [wayR, opB, codeB, onReg, onImm, onZ, hmm]
        · rw [if_neg (show ¬ (onImm mB).m = 1 from hq)] at hw
          cases hw
      · obtain ⟨u, hu, rfl⟩ := List.mem_map.1 hw
        obtain ⟨t, ht, rfl⟩ := List.mem_map.1 hu
        refine ⟨(⟨65535, 193, 55, 6, 7⟩ : Rw), 193, 0, t, ⟨(of_decide_eq_true (by kernel_rfl)), (.inl (by omega)), (by decide), (by kernel_rfl), (show ¬ (21 : Int) = 0 ∧ ¬ (21 : Int) = -1 by decide), (if_neg (by decide)).symm, (show (false : Bool) = ((193 : Int) / 256 == 243) by decide), Eq.mpr (if_pos rfl) ⟨reg_RMb hA, ht⟩, Eq.mpr (if_neg (by decide)) ⟨rfl, by show 0 ≤ mB; omega, by show mB ≤ 255; omega⟩, (fun h => absurd h (by decide))⟩, ?way⟩
        case way => simp [wayR, opB, codeB, onReg, onImm, onZ, hmm]
    · exact not_taken hi (SA := [2, 6]) (SB := [8]) (by kernel_rfl) (mem_reg ⟨hA1, hA2⟩) (mem_mem hB.1 kB)
    · exact not_taken hi (SA := [2, 6]) (SB := [1]) (by kernel_rfl) (mem_reg ⟨hA1, hA2⟩) mem_z
    · exact not_taken hi (SA := [2, 6]) (SB := [0]) (by kernel_rfl) (mem_reg ⟨hA1, hA2⟩) (by rw [hB]; decide)
  · exact not_taken hi (SA := [16, 48, 112]) (SB := l8) (by kernel_rfl) (mem_imm _) (cA_mem _)
  · rcases formsW hBm with ⟨rB, hB1, hB2, rfl⟩ | ⟨mB, mB1, mB2, rfl⟩ | ⟨hB, kB⟩ | rfl | hB
    · have hB : 0 ≤ rB ∧ rB < 8 := ⟨hB1, hB2⟩
      by_cases hb1 : ¬ rB = 1
      · exact not_taken hi (SA := [8]) (SB := [2]) (by kernel_rfl) (mem_mem hA.1 kA) (by rw [cA_reg hB, if_neg hb1]; decide)
      obtain rfl : rB = 1 := by omega
      rw [if_pos (kR _)] at hw
      obtain ⟨t, ht, rfl⟩ := List.mem_map.1 hw
      refine ⟨(⟨65535, 211, 55, 6, 2⟩ : Rw), 211, 0, t, ⟨(of_decide_eq_true (by kernel_rfl)), (.inl (by omega)), (by decide), (by kernel_rfl), (show ¬ (21 : Int) = 0 ∧ ¬ (21 : Int) = -1 by decide), (if_neg (by decide)).symm, (show (false : Bool) = ((211 : Int) / 256 == 243) by decide), Eq.mpr (if_pos rfl) ⟨hA, ht⟩, Eq.mpr (if_neg (by decide)) rfl, (fun h => absurd h (by decide))⟩, ?way⟩
      case way => simp [wayR, opB, codeB, onReg, onImm, onZ]
    · by_cases hb8 : ¬ mB < 256
      · exact not_taken hi (SA := [8]) (SB := [16]) (by kernel_rfl) (mem_mem hA.1 kA) (by rw [cA_imm, if_neg (by omega), if_neg hb8]; decide)
      have hmm : mB % 256 = mB := by omega
      rw [if_neg (nI1 _)] at hw
      rcases List.mem_append.1 hw with hw | hw
      · by_cases hq : mB = 1
        · subst hq
          rw [if_pos (show (onImm 1).m = 1 from rfl)] at hw
          obtain ⟨t, ht, rfl⟩ := List.mem_map.1 hw
          refine ⟨(⟨65535, 209, 55, 6, 3⟩ : Rw), 209, 0, t, ⟨(of_decide_eq_true (by kernel_rfl)), (.inl (by omega)), (by decide), (by kernel_rfl), (show ¬ (21 : Int) = 0 ∧ ¬ (21 : Int) = -1 by decide), (if_neg (by decide)).symm, (show (false : Bool) = ((209 : Int) / 256 == 243) by decide), Eq.mpr (if_pos rfl) ⟨hA, ht⟩, Eq.mpr (if_neg (by decide)) rfl, (fun h => absurd h (by decide))⟩, ?way⟩
          case way => simp [wayR, opB, codeB, onReg, onImm, onZ, hmm]
        · rw [if_neg (show ¬ (onImm mB).m = 1 from hq)] at hw
          cases hw
      · obtain ⟨u, hu, rfl⟩ := List.mem_map.1 hw
        obtain ⟨t, ht, rfl⟩ := List.mem_map.1 hu
        refine ⟨(⟨65535, 193, 55, 6, 7⟩ : Rw), 193, 0, t, ⟨(of_decide_eq_true (by kernel_rfl)), (.inl (by omega)), (by decide), (by kernel_rfl), (show ¬ (21 : Int) = 0 ∧ ¬ (21 : Int) = -1 by decide), (if_neg (by decide)).symm, (show (false : Bool) = ((193 : Int) / 256 == 243) by decide), Eq.mpr (if_pos rfl) ⟨hA, ht⟩, Eq.mpr (if_neg (by decide)) ⟨rfl, by show 0 ≤ mB; omega, by show mB ≤ 255; omega⟩, (fun h => absurd h (by decide))⟩, ?way⟩
        case way => simp [wayR, opB, codeB, onReg, onImm, onZ, hmm]
    · exact not_taken hi (SA := [8]) (SB := [8]) (by kernel_rfl) (mem_mem hA.1 kA) (mem_mem hB.1 kB)
    · exact not_taken hi (SA := [8]) (SB := [1]) (by kernel_rfl) (mem_mem hA.1 kA) mem_z
    · exact not_taken hi (SA := [8]) (SB := [0]) (by kernel_rfl) (mem_mem hA.1 kA) (by rw [hB]; decide)
  · exact not_taken hi (SA := [1]) (SB := l8) (by kernel_rfl) mem_z (cA_mem _)
  · exact not_taken hi (SA := [0]) (SB := l8) (by kernel_rfl) (by rw [hA]; decide) (cA_mem _)
theorem bw_22 {c : Int} {A B : On} {rep : Bool} {l : Int} (hi : isB ⟨22, c, A, B, rep, l⟩ = true) (hAm : 0 ≤ A.m ∧ A.m ≤ 4294967295) (hBm : 0 ≤ B.m ∧ B.m ≤ 4294967295) {w : List Int} (hw : w ∈ waysL ⟨22, c, A, B, rep, l⟩) : ByWay ⟨22, c, A, B, rep, l⟩ w := by
  obtain ⟨h1, h2⟩ := isB_parts hi
  obtain rfl : rep = false := by cases rep; rfl; exact absurd (show false = true from h1) (by decide)
  obtain rfl := knows_no (show rC (rowN 22) = false from rfl) h2
  rw [wl_22] at hw
  clear h1 h2
  rcases formsW hAm with ⟨rA, hA1, hA2, rfl⟩ | ⟨mA, mA1, mA2, rfl⟩ | ⟨hA, kA⟩ | rfl | hA
  · have hA : 0 ≤ rA ∧ rA < 8 := ⟨hA1, hA2⟩
    rcases formsW hBm with ⟨rB, hB1, hB2, rfl⟩ | ⟨mB, mB1, mB2, rfl⟩ | ⟨hB, kB⟩ | rfl | hB
    · have hB : 0 ≤ rB ∧ rB < 8 := ⟨hB1, hB2⟩
      by_cases hb1 : ¬ rB = 1
      · exact not_taken hi (SA := [2, 6]) (SB := [2]) (by kernel_rfl) (mem_reg ⟨hA1, hA2⟩) (by rw [cA_reg hB, if_neg hb1]; decide)
      obtain rfl : rB = 1 := by omega
      rw [if_pos (kR _)] at hw
      obtain ⟨t, ht, rfl⟩ := List.mem_map.1 hw
      refine ⟨(⟨65535, 211, 55, 6, 2⟩ : Rw), 211, 1, t, ⟨(of_decide_eq_true (by kernel_rfl)), (.inl (by omega)), (by decide), (by kernel_rfl), (show ¬ (22 : Int) = 0 ∧ ¬ (22 : Int) = -1 by decide), (if_neg (by decide)).symm, (show (false : Bool) = ((211 : Int) / 256 == 243) by decide), Eq.mpr (if_pos rfl) ⟨reg_RMb hA, ht⟩, Eq.mpr (if_neg (by decide)) rfl, (fun h => absurd h (by decide))⟩, ?way⟩
      case way => simp [wayR, opB, codeB, onReg, onImm, onZ]
    · by_cases hb8 : ¬ mB < 256
      · exact not_taken hi (SA := [2, 6]) (SB := [16]) (by kernel_rfl) (mem_reg ⟨hA1, hA2⟩) (by rw [cA_imm, if_neg (by omega), if_neg hb8]; decide)
      have hmm : mB % 256 = mB := by omega
      rw [if_neg (nI1 _)] at hw
      rcases List.mem_append.1 hw with hw | hw
      · by_cases hq : mB = 1
        · subst hq
          rw [if_pos (show (onImm 1).m = 1 from rfl)] at hw
          obtain ⟨t, ht, rfl⟩ := List.mem_map.1 hw
          refine ⟨(⟨65535, 209, 55, 6, 3⟩ : Rw), 209, 1, t, ⟨(of_decide_eq_true (by kernel_rfl)), (.inl (by omega)), (by decide), (by kernel_rfl), (show ¬ (22 : Int) = 0 ∧ ¬ (22 : Int) = -1 by decide), (if_neg (by decide)).symm, (show (false : Bool) = ((209 : Int) / 256 == 243) by decide), Eq.mpr (if_pos rfl) ⟨reg_RMb hA, ht⟩, Eq.mpr (if_neg (by decide)) rfl, (fun h => absurd h (by decide))⟩, ?way⟩
          case way => simp [wayR, opB, codeB, onReg, onImm, onZ, hmm]
        · rw [if_neg (show ¬ (onImm mB).m = 1 from hq)] at hw
          cases hw
      · obtain ⟨u, hu, rfl⟩ := List.mem_map.1 hw
        obtain ⟨t, ht, rfl⟩ := List.mem_map.1 hu
        refine ⟨(⟨65535, 193, 55, 6, 7⟩ : Rw), 193, 1, t, ⟨(of_decide_eq_true (by kernel_rfl)), (.inl (by omega)), (by decide), (by kernel_rfl), (show ¬ (22 : Int) = 0 ∧ ¬ (22 : Int) = -1 by decide), (if_neg (by decide)).symm, (show (false : Bool) = ((193 : Int) / 256 == 243) by decide), Eq.mpr (if_pos rfl) ⟨reg_RMb hA, ht⟩, Eq.mpr (if_neg (by decide)) ⟨rfl, by show 0 ≤ mB; omega, by show mB ≤ 255; omega⟩, (fun h => absurd h (by decide))⟩, ?way⟩
        case way => simp [wayR, opB, codeB, onReg, onImm, onZ, hmm]
    · exact not_taken hi (SA := [2, 6]) (SB := [8]) (by kernel_rfl) (mem_reg ⟨hA1, hA2⟩) (mem_mem hB.1 kB)
    · exact not_taken hi (SA := [2, 6]) (SB := [1]) (by kernel_rfl) (mem_reg ⟨hA1, hA2⟩) mem_z
    · exact not_taken hi (SA := [2, 6]) (SB := [0]) (by kernel_rfl) (mem_reg ⟨hA1, hA2⟩) (by rw [hB]; decide)
  · exact not_taken hi (SA := [16, 48, 112]) (SB := l8) (by kernel_rfl) (mem_imm _) (cA_mem _)
  · rcases formsW hBm with ⟨rB, hB1, hB2, rfl⟩ | ⟨mB, mB1, mB2, rfl⟩ | ⟨hB, kB⟩ | rfl | hB
    · have hB : 0 ≤ rB ∧ rB < 8 := ⟨hB1, hB2⟩
      by_cases hb1 : ¬ rB = 1
      · exact not_taken hi (SA := [8]) (SB := [2]) (by kernel_rfl) (mem_mem hA.1 kA) (by rw [cA_reg hB, if_neg hb1]; decide)
      obtain rfl : rB = 1 := by omega
      rw [if_pos (kR _)] at hw
      obtain ⟨t, ht, rfl⟩ := List.mem_map.1 hw
      refine ⟨(⟨65535, 211, 55, 6, 2⟩ : Rw), 211, 1, t, ⟨(of_decide_eq_true (by kernel_rfl)), (.inl (by omega)), (by decide), (by kernel_rfl), (show ¬ (22 : Int) = 0 ∧ ¬ (22 : Int) = -1 by decide), (if_neg (by decide)).symm, (show (false : Bool) = ((211 : Int) / 256 == 243) by decide), Eq.mpr (if_pos rfl) ⟨hA, ht⟩, Eq.mpr (if_neg (by decide)) rfl, (fun h => absurd h (by decide))⟩, ?way⟩
      case way => simp [wayR, opB, codeB, onReg, onImm, onZ]
    · by_cases hb8 : ¬ mB < 256
      · exact not_taken hi (SA := [8]) (SB := [16]) (by kernel_rfl) (mem_mem hA.1 kA) (by rw [cA_imm, if_neg (by omega), if_neg hb8]; decide)
      have hmm : mB % 256 = mB := by omega
      rw [if_neg (nI1 _)] at hw
      rcases List.mem_append.1 hw with hw | hw
      · by_cases hq : mB = 1
        · subst hq
          rw [if_pos (show (onImm 1).m = 1 from rfl)] at hw
          obtain ⟨t, ht, rfl⟩ := List.mem_map.1 hw
          refine ⟨(⟨65535, 209, 55, 6, 3⟩ : Rw), 209, 1, t, ⟨(of_decide_eq_true (by kernel_rfl)), (.inl (by omega)), (by decide), (by kernel_rfl), (show ¬ (22 : Int) = 0 ∧ ¬ (22 : Int) = -1 by decide), (if_neg (by decide)).symm, (show (false : Bool) = ((209 : Int) / 256 == 243) by decide), Eq.mpr (if_pos rfl) ⟨hA, ht⟩, Eq.mpr (if_neg (by decide)) rfl, (fun h => absurd h (by decide))⟩, ?way⟩
          case way => simp [wayR, opB, codeB, onReg, onImm, onZ, hmm]
        · rw [if_neg (show ¬ (onImm mB).m = 1 from hq)] at hw
          cases hw
      · obtain ⟨u, hu, rfl⟩ := List.mem_map.1 hw
        obtain ⟨t, ht, rfl⟩ := List.mem_map.1 hu
        refine ⟨(⟨65535, 193, 55, 6, 7⟩ : Rw), 193, 1, t, ⟨(of_decide_eq_true (by kernel_rfl)), (.inl (by omega)), (by decide), (by kernel_rfl), (show ¬ (22 : Int) = 0 ∧ ¬ (22 : Int) = -1 by decide), (if_neg (by decide)).symm, (show (false : Bool) = ((193 : Int) / 256 == 243) by decide), Eq.mpr (if_pos rfl) ⟨hA, ht⟩, Eq.mpr (if_neg (by decide)) ⟨rfl, by show 0 ≤ mB; omega, by show mB ≤ 255; omega⟩, (fun h => absurd h (by decide))⟩, ?way⟩
        case way => simp [wayR, opB, codeB, onReg, onImm, onZ, hmm]
    · exact not_taken hi (SA := [8]) (SB := [8]) (by kernel_rfl) (mem_mem hA.1 kA) (mem_mem hB.1 kB)
    · exact not_taken hi (SA := [8]) (SB := [1]) (by kernel_rfl) (mem_mem hA.1 kA) mem_z
    · exact not_taken hi (SA := [8]) (SB := [0]) (by kernel_rfl) (mem_mem hA.1 kA) (by rw [hB]; decide)
  · exact not_taken hi (SA := [1]) (SB := l8) (by kernel_rfl) mem_z (cA_mem _)
  · exact not_taken hi (SA := [0]) (SB := l8) (by kernel_rfl) (by rw [hA]; decide) (cA_mem _)
theorem bw_23 {c : Int} {A B : On} {rep : Bool} {l : Int} (hi : isB ⟨23, c, A, B, rep, l⟩ = true) (hAm : 0 ≤ A.m ∧ A.m ≤ 4294967295) (hBm : 0 ≤ B.m ∧ B.m ≤ 4294967295) {w : List Int} (hw : w ∈ waysL ⟨23, c, A, B, rep, l⟩) : ByWay ⟨23, c, A, B, rep, l⟩ w := by
  obtain ⟨h1, h2⟩ := isB_parts hi
  obtain rfl : rep = false := by cases rep; rfl; exact absurd (show false = true from h1) (by decide)
  obtain rfl := knows_no (show rC (rowN 23) = false from rfl) h2
  rw [wl_23] at hw
  clear h1 h2
  rcases formsW hAm with ⟨rA, hA1, hA2, rfl⟩ | ⟨mA, mA1, mA2, rfl⟩ | ⟨hA, kA⟩ | rfl | hA
  · have hA : 0 ≤ rA ∧ rA < 8 := ⟨hA1, hA2⟩
    rcases formsW hBm with ⟨rB, hB1, hB2, rfl⟩ | ⟨mB, mB1, mB2, rfl⟩ | ⟨hB, kB⟩ | rfl | hB
    · have hB : 0 ≤ rB ∧ rB < 8 := ⟨hB1, hB2⟩
      by_cases hb1 : ¬ rB = 1
      · exact not_taken hi (SA := [2, 6]) (SB := [2]) (by kernel_rfl) (mem_reg ⟨hA1, hA2⟩) (by rw [cA_reg hB, if_neg hb1]; decide)
      obtain rfl : rB = 1 := by omega
      rw [if_pos (kR _)] at hw
      obtain ⟨t, ht, rfl⟩ := List.mem_map.1 hw
      refine ⟨(⟨65535, 211, 55, 6, 2⟩ : Rw), 211, 4, t, ⟨(of_decide_eq_true (by kernel_rfl)), (.inl (by omega)), (by decide), (by kernel_rfl), (show ¬ (23 : Int) = 0 ∧ ¬ (23 : Int) = -1 by decide), (if_neg (by decide)).symm, (show (false : Bool) = ((211 : Int) / 256 == 243) by decide), Eq.mpr (if_pos rfl) ⟨reg_RMb hA, ht⟩, Eq.mpr (if_neg (by decide)) rfl, (fun h => absurd h (by decide))⟩, ?way⟩
      case way => simp [wayR, opB, codeB, onReg, onImm, onZ]
    · by_cases hb8 : ¬ mB < 256
      · exact not_taken hi (SA := [2, 6]) (SB := [16]) (by kernel_rfl) (mem_reg ⟨hA1, hA2⟩) (by rw [cA_imm, if_neg (by omega), if_neg hb8]; decide)
      have hmm : mB % 256 = mB := by omega
      rw [if_neg (nI1 _)] at hw
      rcases List.mem_append.1 hw with hw | hw
      · by_cases hq : mB = 1
        · subst hq
          rw [if_pos (show (onImm 1).m = 1 from rfl)] at hw
          obtain ⟨t, ht, rfl⟩ := List.mem_map.1 hw
          refine ⟨(⟨65535, 209, 55, 6, 3⟩ : Rw), 209, 4, t, ⟨(of_decide_eq_true (by kernel_rfl)), (.inl (by omega)), (by decide), (by kernel_rfl), (show ¬ (23 : Int) = 0 ∧ ¬ (23 : Int) = -1 by decide), (if_neg (by decide)).symm, (show (false : Bool) = ((209 : Int) / 256 == 243) by decide), Eq.mpr (if_pos rfl) ⟨reg_RMb hA, ht⟩, Eq.mpr (if_neg (by decide)) rfl, (fun h => absurd h (by decide))⟩, ?way⟩
          case way => simp [wayR, opB, codeB, onReg, onImm, onZ, hmm]
        · rw [if_neg (show ¬ (onImm mB).m = 1 from hq)] at hw
          cases hw
      · obtain ⟨u, hu, rfl⟩ := List.mem_map.1 hw
        obtain ⟨t, ht, rfl⟩ := List.mem_map.1 hu
        refine ⟨(⟨65535, 193, 55, 6, 7⟩ : Rw), 193, 4, t, ⟨(of_decide_eq_true (by kernel_rfl)), (.inl (by omega)), (by decide), (by kernel_rfl), (show ¬ (23 : Int) = 0 ∧ ¬ (23 : Int) = -1 by decide), (if_neg (by decide)).symm, (show (false : Bool) = ((193 : Int) / 256 == 243) by decide), Eq.mpr (if_pos rfl) ⟨reg_RMb hA, ht⟩, Eq.mpr (if_neg (by decide)) ⟨rfl, by show 0 ≤ mB; omega, by show mB ≤ 255; omega⟩, (fun h => absurd h (by decide))⟩, ?way⟩
        case way => simp [wayR, opB, codeB, onReg, onImm, onZ, hmm]
    · exact not_taken hi (SA := [2, 6]) (SB := [8]) (by kernel_rfl) (mem_reg ⟨hA1, hA2⟩) (mem_mem hB.1 kB)
    · exact not_taken hi (SA := [2, 6]) (SB := [1]) (by kernel_rfl) (mem_reg ⟨hA1, hA2⟩) mem_z
    · exact not_taken hi (SA := [2, 6]) (SB := [0]) (by kernel_rfl) (mem_reg ⟨hA1, hA2⟩) (by rw [hB]; decide)
  · exact not_taken hi (SA := [16, 48, 112]) (SB := l8) (by kernel_rfl) (mem_imm _) (cA_mem _)
  · rcases formsW hBm with ⟨rB, hB1, hB2, rfl⟩ | ⟨mB, mB1, mB2, rfl⟩ | ⟨hB, kB⟩ | rfl | hB
    · have hB : 0 ≤ rB ∧ rB < 8 := ⟨hB1, hB2⟩
      by_cases hb1 : ¬ rB = 1
      · exact not_taken hi (SA := [8]) (SB := [2]) (by kernel_rfl) (mem_mem hA.1 kA) (by rw [cA_reg hB, if_neg hb1]; decide)
      obtain rfl : rB = 1 := by omega
      rw [if_pos (kR _)] at hw
      obtain ⟨t, ht, rfl⟩ := List.mem_map.1 hw
      refine ⟨(⟨65535, 211, 55, 6, 2⟩ : Rw), 211, 4, t, ⟨(of_decide_eq_true (by kernel_rfl)), (.inl (by omega)), (by decide), (by kernel_rfl), (show ¬ (23 : Int) = 0 ∧ ¬ (23 : Int) = -1 by decide), (if_neg (by decide)).symm, (show (false : Bool) = ((211 : Int) / 256 == 243) by decide), Eq.mpr (if_pos rfl) ⟨hA, ht⟩, Eq.mpr (if_neg (by decide)) rfl, (fun h => absurd h (by decide))⟩, ?way⟩
      case way => simp [wayR, opB, codeB, onReg, onImm, onZ]
    · by_cases hb8 : ¬ mB < 256
      · exact not_taken hi (SA := [8]) (SB := [16]) (by kernel_rfl) (mem_mem hA.1 kA) (by rw [cA_imm, if_neg (by omega), if_neg hb8]; decide)
      have hmm : mB % 256 = mB := by omega
      rw [if_neg (nI1 _)] at hw
      rcases List.mem_append.1 hw with hw | hw
      · by_cases hq : mB = 1
        · subst hq
          rw [if_pos (show (onImm 1).m = 1 from rfl)] at hw
          obtain ⟨t, ht, rfl⟩ := List.mem_map.1 hw
          refine ⟨(⟨65535, 209, 55, 6, 3⟩ : Rw), 209, 4, t, ⟨(of_decide_eq_true (by kernel_rfl)), (.inl (by omega)), (by decide), (by kernel_rfl), (show ¬ (23 : Int) = 0 ∧ ¬ (23 : Int) = -1 by decide), (if_neg (by decide)).symm, (show (false : Bool) = ((209 : Int) / 256 == 243) by decide), Eq.mpr (if_pos rfl) ⟨hA, ht⟩, Eq.mpr (if_neg (by decide)) rfl, (fun h => absurd h (by decide))⟩, ?way⟩
          case way => simp [wayR, opB, codeB, onReg, onImm, onZ, hmm]
        · rw [if_neg (show ¬ (onImm mB).m = 1 from hq)] at hw
          cases hw
      · obtain ⟨u, hu, rfl⟩ := List.mem_map.1 hw
        obtain ⟨t, ht, rfl⟩ := List.mem_map.1 hu
        refine ⟨(⟨65535, 193, 55, 6, 7⟩ : Rw), 193, 4, t, ⟨(of_decide_eq_true (by kernel_rfl)), (.inl (by omega)), (by decide), (by kernel_rfl), (show ¬ (23 : Int) = 0 ∧ ¬ (23 : Int) = -1 by decide), (if_neg (by decide)).symm, (show (false : Bool) = ((193 : Int) / 256 == 243) by decide), Eq.mpr (if_pos rfl) ⟨hA, ht⟩, Eq.mpr (if_neg (by decide)) ⟨rfl, by show 0 ≤ mB; omega, by show mB ≤ 255; omega⟩, (fun h => absurd h (by decide))⟩, ?way⟩
        case way => simp [wayR, opB, codeB, onReg, onImm, onZ, hmm]
    · exact not_taken hi (SA := [8]) (SB := [8]) (by kernel_rfl) (mem_mem hA.1 kA) (mem_mem hB.1 kB)
    · exact not_taken hi (SA := [8]) (SB := [1]) (by kernel_rfl) (mem_mem hA.1 kA) mem_z
    · exact not_taken hi (SA := [8]) (SB := [0]) (by kernel_rfl) (mem_mem hA.1 kA) (by rw [hB]; decide)
  · exact not_taken hi (SA := [1]) (SB := l8) (by kernel_rfl) mem_z (cA_mem _)
  · exact not_taken hi (SA := [0]) (SB := l8) (by kernel_rfl) (by rw [hA]; decide) (cA_mem _)
theorem bw_24 {c : Int} {A B : On} {rep : Bool} {l : Int} (hi : isB ⟨24, c, A, B, rep, l⟩ = true) (hAm : 0 ≤ A.m ∧ A.m ≤ 4294967295) (hBm : 0 ≤ B.m ∧ B.m ≤ 4294967295) {w : List Int} (hw : w ∈ waysL ⟨24, c, A, B, rep, l⟩) : ByWay ⟨24, c, A, B, rep, l⟩ w := by
  obtain ⟨h1, h2⟩ := isB_parts hi
  obtain rfl : rep = false := by cases rep; rfl; exact absurd (show false = true from h1) (by decide)
  obtain rfl := knows_no (show rC (rowN 24) = false from rfl) h2
  rw [wl_24] at hw
  clear h1 h2
  rcases formsW hAm with ⟨rA, hA1, hA2, rfl⟩ | ⟨mA, mA1, mA2, rfl⟩ | ⟨hA, kA⟩ | rfl | hA
  · have hA : 0 ≤ rA ∧ rA < 8 := ⟨hA1, hA2⟩
    rcases formsW hBm with ⟨rB, hB1, hB2, rfl⟩ | ⟨mB, mB1, mB2, rfl⟩ | ⟨hB, kB⟩ | rfl | hB
    · have hB : 0 ≤ rB ∧ rB < 8 := ⟨hB1, hB2⟩
      by_cases hb1 : ¬ rB = 1
      · exact not_taken hi (SA := [2, 6]) (SB := [2]) (by kernel_rfl) (mem_reg ⟨hA1, hA2⟩) (by rw [cA_reg hB, if_neg hb1]; decide)
      obtain rfl : rB = 1 := by omega
      rw [if_pos (kR _)] at hw
      obtain ⟨t, ht, rfl⟩ := List.mem_map.1 hw
      refine ⟨(⟨65535, 211, 55, 6, 2⟩ : Rw), 211, 5, t, ⟨(of_decide_eq_true (by kernel_rfl)), (.inl (by omega)), (by decide), (by kernel_rfl), (show ¬ (24 : Int) = 0 ∧ ¬ (24 : Int) = -1 by decide), (if_neg (by decide)).symm, (show (false : Bool) = ((211 : Int) / 256 == 243) by decide), Eq.mpr (if_pos rfl) ⟨reg_RMb hA, ht⟩, Eq.mpr (if_neg (by decide)) rfl, (fun h => absurd h (by decide))⟩, ?way⟩
      case way => simp [wayR, opB, codeB, onReg, onImm, onZ]
    · by_cases hb8 : ¬ mB < 256
      · exact not_taken hi (SA := [2, 6]) (SB := [16]) (by kernel_rfl) (mem_reg ⟨hA1, hA2⟩) (by rw [cA_imm, if_neg (by omega), if_neg hb8]; decide)
      have hmm : mB % 256 = mB := by omega
      rw [if_neg (nI1 _)] at hw
      rcases List.mem_append.1 hw with hw | hw
      · by_cases hq : mB = 1
        · subst hq
          rw [if_pos (show (onImm 1).m = 1 from rfl)] at hw
          obtain ⟨t, ht, rfl⟩ := List.mem_map.1 hw
          refine ⟨(⟨65535, 209, 55, 6, 3⟩ : Rw), 209, 5, t, ⟨(of_decide_eq_true (by kernel_rfl)), (.inl (by omega)), (by decide), (by kernel_rfl), (show ¬ (24 : Int) = 0 ∧ ¬ (24 : Int) = -1 by decide), (if_neg (by decide)).symm, (show (false : Bool) = ((209 : Int) / 256 == 243) by decide), Eq.mpr (if_pos rfl) ⟨reg_RMb hA, ht⟩, Eq.mpr (if_neg (by decide)) rfl, (fun h => absurd h (by decide))⟩, ?way⟩
          case way => simp [wayR, opB, codeB, onReg, onImm, onZ, hmm]
        · rw [if_neg (show ¬ (onImm mB).m = 1 from hq)] at hw
          cases hw
      · obtain ⟨u, hu, rfl⟩ := List.mem_map.1 hw
        obtain ⟨t, ht, rfl⟩ := List.mem_map.1 hu
        refine ⟨(⟨65535, 193, 55, 6, 7⟩ : Rw), 193, 5, t, ⟨(of_decide_eq_true (by kernel_rfl)), (.inl (by omega)), (by decide), (by kernel_rfl), (show ¬ (24 : Int) = 0 ∧ ¬ (24 : Int) = -1 by decide), (if_neg (by decide)).symm, (show (false : Bool) = ((193 : Int) / 256 == 243) by decide), Eq.mpr (if_pos rfl) ⟨reg_RMb hA, ht⟩, Eq.mpr (if_neg (by decide)) ⟨rfl, by show 0 ≤ mB; omega, by show mB ≤ 255; omega⟩, (fun h => absurd h (by decide))⟩, ?way⟩
        case way => simp [wayR, opB, codeB, onReg, onImm, onZ, hmm]
    · exact not_taken hi (SA := [2, 6]) (SB := [8]) (by kernel_rfl) (mem_reg ⟨hA1, hA2⟩) (mem_mem hB.1 kB)
    · exact not_taken hi (SA := [2, 6]) (SB := [1]) (by kernel_rfl) (mem_reg ⟨hA1, hA2⟩) mem_z
    · exact not_taken hi (SA := [2, 6]) (SB := [0]) (by kernel_rfl) (mem_reg ⟨hA1, hA2⟩) (by rw [hB]; decide)
  · exact not_taken hi (SA := [16, 48, 112]) (SB := l8) (by kernel_rfl) (mem_imm _) (cA_mem _)
  · rcases formsW hBm with ⟨rB, hB1, hB2, rfl⟩ | ⟨mB, mB1, mB2, rfl⟩ | ⟨hB, kB⟩ | rfl | hB
    · have hB : 0 ≤ rB ∧ rB < 8 := ⟨hB1, hB2⟩
      by_cases hb1 : ¬ rB = 1
      · exact not_taken hi (SA := [8]) (SB := [2]) (by kernel_rfl) (mem_mem hA.1 kA) (by rw [cA_reg hB, if_neg hb1]; decide)
      obtain rfl : rB = 1 := by omega
      rw [if_pos (kR _)] at hw
      obtain ⟨t, ht, rfl⟩ := List.mem_map.1 hw
      refine ⟨(⟨65535, 211, 55, 6, 2⟩ : Rw), 211, 5, t, ⟨(of_decide_eq_true (by kernel_rfl)), (.inl (by omega)), (by decide), (by kernel_rfl), (show ¬ (24 : Int) = 0 ∧ ¬ (24 : Int) = -1 by decide), (if_neg (by decide)).symm, (show (false : Bool) = ((211 : Int) / 256 == 243) by decide), Eq.mpr (if_pos rfl) ⟨hA, ht⟩, Eq.mpr (if_neg (by decide)) rfl, (fun h => absurd h (by decide))⟩, ?way⟩
      case way => simp [wayR, opB, codeB, onReg, onImm, onZ]
    · by_cases hb8 : ¬ mB < 256
      · exact not_taken hi (SA := [8]) (SB := [16]) (by kernel_rfl) (mem_mem hA.1 kA) (by rw [cA_imm, if_neg (by omega), if_neg hb8]; decide)
      have hmm : mB % 256 = mB := by omega
      rw [if_neg (nI1 _)] at hw
      rcases List.mem_append.1 hw with hw | hw
      · by_cases hq : mB = 1
        · subst hq
          rw [if_pos (show (onImm 1).m = 1 from rfl)] at hw
          obtain ⟨t, ht, rfl⟩ := List.mem_map.1 hw
          refine ⟨(⟨65535, 209, 55, 6, 3⟩ : Rw), 209, 5, t, ⟨(of_decide_eq_true (by kernel_rfl)), (.inl (by omega)), (by decide), (by kernel_rfl), (show ¬ (24 : Int) = 0 ∧ ¬ (24 : Int) = -1 by decide), (if_neg (by decide)).symm, (show (false : Bool) = ((209 : Int) / 256 == 243) by decide), Eq.mpr (if_pos rfl) ⟨hA, ht⟩, Eq.mpr (if_neg (by decide)) rfl, (fun h => absurd h (by decide))⟩, ?way⟩
          case way => simp [wayR, opB, codeB, onReg, onImm, onZ, hmm]
        · rw [if_neg (show ¬ (onImm mB).m = 1 from hq)] at hw
          cases hw
      · obtain ⟨u, hu, rfl⟩ := List.mem_map.1 hw
        obtain ⟨t, ht, rfl⟩ := List.mem_map.1 hu
        refine ⟨(⟨65535, 193, 55, 6, 7⟩ : Rw), 193, 5, t, ⟨(of_decide_eq_true (by kernel_rfl)), (.inl (by omega)), (by decide), (by kernel_rfl), (show ¬ (24 : Int) = 0 ∧ ¬ (24 : Int) = -1 by decide), (if_neg (by decide)).symm, (show (false : Bool) = ((193 : Int) / 256 == 243) by decide), Eq.mpr (if_pos rfl) ⟨hA, ht⟩, Eq.mpr (if_neg (by decide)) ⟨rfl, by show 0 ≤ mB; omega, by show mB ≤ 255; omega⟩, (fun h => absurd h (by decide))⟩, ?way⟩
        case way => simp [wayR, opB, codeB, onReg, onImm, onZ, hmm]
    · exact not_taken hi (SA := [8]) (SB := [8]) (by kernel_rfl) (mem_mem hA.1 kA) (mem_mem hB.1 kB)
    · exact not_taken hi (SA := [8]) (SB := [1]) (by kernel_rfl) (mem_mem hA.1 kA) mem_z
    · exact not_taken hi (SA := [8]) (SB := [0]) (by kernel_rfl) (mem_mem hA.1 kA) (by rw [hB]; decide)
  · exact not_taken hi (SA := [1]) (SB := l8) (by kernel_rfl) mem_z (cA_mem _)
  · exact not_taken hi (SA := [0]) (SB := l8) (by kernel_rfl) (by rw [hA]; decide) (cA_mem _)
theorem bw_25 {c : Int} {A B : On} {rep : Bool} {l : Int} (hi : isB ⟨25, c, A, B, rep, l⟩ = true) (hAm : 0 ≤ A.m ∧ A.m ≤ 4294967295) (hBm : 0 ≤ B.m ∧ B.m ≤ 4294967295) {w : List Int} (hw : w ∈ waysL ⟨25, c, A, B, rep, l⟩) : ByWay ⟨25, c, A, B, rep, l⟩ w := by
  obtain ⟨h1, h2⟩ := isB_parts hi
  obtain rfl : rep = false := by cases rep; rfl; exact absurd (show false = true from h1) (by decide)
  obtain rfl := knows_no (show rC (rowN 25) = false from rfl) h2
  rw [wl_25] at hw
  clear h1 h2
  rcases formsW hAm with ⟨rA, hA1, hA2, rfl⟩ | ⟨mA, mA1, mA2, rfl⟩ | ⟨hA, kA⟩ | rfl | hA
  · have hA : 0 ≤ rA ∧ rA < 8 := ⟨hA1, hA2⟩
    rcases formsW hBm with ⟨rB, hB1, hB2, rfl⟩ | ⟨mB, mB1, mB2, rfl⟩ | ⟨hB, kB⟩ | rfl | hB
    · have hB : 0 ≤ rB ∧ rB < 8 := ⟨hB1, hB2⟩
      by_cases hb1 : ¬ rB = 1
      · exact not_taken hi (SA := [2, 6]) (SB := [2]) (by kernel_rfl) (mem_reg ⟨hA1, hA2⟩) (by rw [cA_reg hB, if_neg hb1]; decide)
      obtain rfl : rB = 1 := by omega
      rw [if_pos (kR _)] at hw
      obtain ⟨t, ht, rfl⟩ := List.mem_map.1 hw
      refine ⟨(⟨65535, 211, 55, 6, 2⟩ : Rw), 211, 7, t, ⟨(of_decide_eq_true (by kernel_rfl)), (.inl (by omega)), (by decide), (by kernel_rfl), (show ¬ (25 : Int) = 0 ∧ ¬ (25 : Int) = -1 by decide), (if_neg (by decide)).symm, (show (false : Bool) = ((211 : Int) / 256 == 243) by decide), Eq.mpr (if_pos rfl) ⟨reg_RMb hA, ht⟩, Eq.mpr (if_neg (by decide)) rfl, (fun h => absurd h (by decide))⟩, ?way⟩
      case way => simp [wayR, opB, codeB, onReg, onImm, onZ]
    · by_cases hb8 : ¬ mB < 256
      · exact not_taken hi (SA := [2, 6]) (SB := [16]) (by kernel_rfl) (mem_reg ⟨hA1, hA2⟩) (by rw [cA_imm, if_neg (by omega), if_neg hb8]; decide)
      have hmm : mB % 256 = mB := by omega
      rw [if_neg (nI1 _)] at hw
      rcases List.mem_append.1 hw with hw | hw
      · by_cases hq : mB = 1
        · subst hq
          rw [if_pos (show (onImm 1).m = 1 from rfl)] at hw
          obtain ⟨t, ht, rfl⟩ := List.mem_map.1 hw
          refine ⟨(⟨65535, 209, 55, 6, 3⟩ : Rw), 209, 7, t, ⟨(of_decide_eq_true (by kernel_rfl)), (.inl (by omega)), (by decide), (by kernel_rfl), (show ¬ (25 : Int) = 0 ∧ ¬ (25 : Int) = -1 by decide), (if_neg (by decide)).symm, (show (false : Bool) = ((209 : Int) / 256 == 243) by decide), Eq.mpr (if_pos rfl) ⟨reg_RMb hA, ht⟩, Eq.mpr (if_neg (by decide)) rfl, (fun h => absurd h (by decide))⟩, ?way⟩
          case way => simp [wayR, opB, codeB, onReg, onImm, onZ, hmm]
        · rw [if_neg (show ¬ (onImm mB).m = 1 from hq)] at hw
          cases hw
      · obtain ⟨u, hu, rfl⟩ := List.mem_map.1 hw
        obtain ⟨t, ht, rfl⟩ := List.mem_map.1 hu
        refine ⟨(⟨65535, 193, 55, 6, 7⟩ : Rw), 193, 7, t, ⟨(of_decide_eq_true (by kernel_rfl)), (.inl (by omega)), (by decide), (by kernel_rfl), (show ¬ (25 : Int) = 0 ∧ ¬ (25 : Int) = -1 by decide), (if_neg (by decide)).symm, (show (false : Bool) = ((193 : Int) / 256 == 243) by decide), Eq.mpr (if_pos rfl) ⟨reg_RMb hA, ht⟩, Eq.mpr (if_neg (by decide)) ⟨rfl, by show 0 ≤ mB; omega, by show mB ≤ 255; omega⟩, (fun h => absurd h (by decide))⟩, ?way⟩
        case way => simp [wayR, opB, codeB, onReg, onImm, onZ, hmm]
    · exact not_taken hi (SA := [2, 6]) (SB := [8]) (by kernel_rfl) (mem_reg ⟨hA1, hA2⟩) (mem_mem hB.1 kB)
    · exact not_taken hi (SA := [2, 6]) (SB := [1]) (by kernel_rfl) (mem_reg ⟨hA1, hA2⟩) mem_z
    · exact not_taken hi (SA := [2, 6]) (SB := [0]) (by kernel_rfl) (mem_reg ⟨hA1, hA2⟩) (by rw [hB]; decide)
  · exact not_taken hi (SA := [16, 48, 112]) (SB := l8) (by kernel_rfl) (mem_imm _) (cA_mem _)
  · rcases formsW hBm with ⟨rB, hB1, hB2, rfl⟩ | ⟨mB, mB1, mB2, rfl⟩ | ⟨hB, kB⟩ | rfl | hB
    · have hB : 0 ≤ rB ∧ rB < 8 := ⟨hB1, hB2⟩
      by_cases hb1 : ¬ rB = 1
      · exact not_taken hi (SA := [8]) (SB := [2]) (by kernel_rfl) (mem_mem hA.1 kA) (by rw [cA_reg hB, if_neg hb1]; decide)
      obtain rfl : rB = 1 := by omega
      rw [if_pos (kR _)] at hw
      obtain ⟨t, ht, rfl⟩ := List.mem_map.1 hw
      refine ⟨(⟨65535, 211, 55, 6, 2⟩ : Rw), 211, 7, t, ⟨(of_decide_eq_true (by kernel_rfl)), (.inl (by omega)), (by decide), (by kernel_rfl), (show ¬ (25 : Int) = 0 ∧ ¬ (25 : Int) = -1 by decide), (if_neg (by decide)).symm, (show (false : Bool) = ((211 : Int) / 256 == 243) by decide), Eq.mpr (if_pos rfl) ⟨hA, ht⟩, Eq.mpr (if_neg (by decide)) rfl, (fun h => absurd h (by decide))⟩, ?way⟩
      case way => simp [wayR, opB, codeB, onReg, onImm, onZ]
    · by_cases hb8 : ¬ mB < 256
      · exact not_taken hi (SA := [8]) (SB := [16]) (by kernel_rfl) (mem_mem hA.1 kA) (by rw [cA_imm, if_neg (by omega), if_neg hb8]; decide)
      have hmm : mB % 256 = mB := by omega
      rw [if_neg (nI1 _)] at hw
      rcases List.mem_append.1 hw with hw | hw
      · by_cases hq : mB = 1
        · subst hq
          rw [if_pos (show (onImm 1).m = 1 from rfl)] at hw
          obtain ⟨t, ht, rfl⟩ := List.mem_map.1 hw
          refine ⟨(⟨65535, 209, 55, 6, 3⟩ : Rw), 209, 7, t, ⟨(of_decide_eq_true (by kernel_rfl)), (.inl (by omega)), (by decide), (by kernel_rfl), (show ¬ (25 : Int) = 0 ∧ ¬ (25 : Int) = -1 by decide), (if_neg (by decide)).symm, (show (false : Bool) = ((209 : Int) / 256 == 243) by decide), Eq.mpr (if_pos rfl) ⟨hA, ht⟩, Eq.mpr (if_neg (by decide)) rfl, (fun h => absurd h (by decide))⟩, ?way⟩
          case way => simp [wayR, opB, codeB, onReg, onImm, onZ, hmm]
        · rw [if_neg (show ¬ (onImm mB).m = 1 from hq)] at hw
          cases hw
      · obtain ⟨u, hu, rfl⟩ := List.mem_map.1 hw
        obtain ⟨t, ht, rfl⟩ := List.mem_map.1 hu
        refine ⟨(⟨65535, 193, 55, 6, 7⟩ : Rw), 193, 7, t, ⟨(of_decide_eq_true (by kernel_rfl)), (.inl (by omega)), (by decide), (by kernel_rfl), (show ¬ (25 : Int) = 0 ∧ ¬ (25 : Int) = -1 by decide), (if_neg (by decide)).symm, (show (false : Bool) = ((193 : Int) / 256 == 243) by decide), Eq.mpr (if_pos rfl) ⟨hA, ht⟩, Eq.mpr (if_neg (by decide)) ⟨rfl, by show 0 ≤ mB; omega, by show mB ≤ 255; omega⟩, (fun h => absurd h (by decide))⟩, ?way⟩
        case way => simp [wayR, opB, codeB, onReg, onImm, onZ, hmm]
    · exact not_taken hi (SA := [8]) (SB := [8]) (by kernel_rfl) (mem_mem hA.1 kA) (mem_mem hB.1 kB)
    · exact not_taken hi (SA := [8]) (SB := [1]) (by kernel_rfl) (mem_mem hA.1 kA) mem_z
    · exact not_taken hi (SA := [8]) (SB := [0]) (by kernel_rfl) (mem_mem hA.1 kA) (by rw [hB]; decide)
  · exact not_taken hi (SA := [1]) (SB := l8) (by kernel_rfl) mem_z (cA_mem _)
  · exact not_taken hi (SA := [0]) (SB := l8) (by kernel_rfl) (by rw [hA]; decide) (cA_mem _)
theorem bw_26 {c : Int} {A B : On} {rep : Bool} {l : Int} (hi : isB ⟨26, c, A, B, rep, l⟩ = true) (hAm : 0 ≤ A.m ∧ A.m ≤ 4294967295) (hBm : 0 ≤ B.m ∧ B.m ≤ 4294967295) {w : List Int} (hw : w ∈ waysL ⟨26, c, A, B, rep, l⟩) : ByWay ⟨26, c, A, B, rep, l⟩ w := by
  obtain ⟨h1, h2⟩ := isB_parts hi
  obtain rfl : rep = false := by cases rep; rfl; exact absurd (show false = true from h1) (by decide)
  obtain rfl := knows_no (show rC (rowN 26) = false from rfl) h2
  rw [wl_26] at hw
  clear h1 h2
  rcases formsW hAm with ⟨rA, hA1, hA2, rfl⟩ | ⟨mA, mA1, mA2, rfl⟩ | ⟨hA, kA⟩ | rfl | hA
  · have hA : 0 ≤ rA ∧ rA < 8 := ⟨hA1, hA2⟩
    rcases formsW hBm with ⟨rB, hB1, hB2, rfl⟩ | ⟨mB, mB1, mB2, rfl⟩ | ⟨hB, kB⟩ | rfl | hB
    · exact not_taken hi (SA := [2, 6]) (SB := [2, 6]) (by kernel_rfl) (mem_reg ⟨hA1, hA2⟩) (mem_reg ⟨hB1, hB2⟩)
    · exact not_taken hi (SA := [2, 6]) (SB := [16, 48, 112]) (by kernel_rfl) (mem_reg ⟨hA1, hA2⟩) (mem_imm _)
    · obtain ⟨t, ht, rfl⟩ := List.mem_map.1 hw
      refine ⟨(⟨65535, 141, 26, 5, 6⟩ : Rw), 141, rA, t, ⟨(of_decide_eq_true (by kernel_rfl)), (.inl (by omega)), hA, (if_pos (by decide)), (show ¬ (26 : Int) = 0 ∧ ¬ (26 : Int) = -1 by decide), (if_neg (by decide)).symm, (show (false : Bool) = ((141 : Int) / 256 == 243) by decide), Eq.mpr (if_neg (by decide)) rfl, Eq.mpr (if_pos rfl) ⟨hB, ht⟩, (fun h => absurd h (by decide))⟩, ?way⟩
      case way => simp [wayR, opB, codeB, onReg, onImm, onZ]
    · exact not_taken hi (SA := [2, 6]) (SB := [1]) (by kernel_rfl) (mem_reg ⟨hA1, hA2⟩) mem_z
    · exact not_taken hi (SA := [2, 6]) (SB := [0]) (by kernel_rfl) (mem_reg ⟨hA1, hA2⟩) (by rw [hB]; decide)
  · exact not_taken hi (SA := [16, 48, 112]) (SB := l8) (by kernel_rfl) (mem_imm _) (cA_mem _)
  · exact not_taken hi (SA := [8]) (SB := l8) (by kernel_rfl) (mem_mem hA.1 kA) (cA_mem _)
  · exact not_taken hi (SA := [1]) (SB := l8) (by kernel_rfl) mem_z (cA_mem _)
  · exact not_taken hi (SA := [0]) (SB := l8) (by kernel_rfl) (by rw [hA]; decide) (cA_mem _)
theorem bw_27 {c : Int} {A B : On} {rep : Bool} {l : Int} (hi : isB ⟨27, c, A, B, rep, l⟩ = true) (hAm : 0 ≤ A.m ∧ A.m ≤ 4294967295) (hBm : 0 ≤ B.m ∧ B.m ≤ 4294967295) {w : List Int} (hw : w ∈ waysL ⟨27, c, A, B, rep, l⟩) : ByWay ⟨27, c, A, B, rep, l⟩ w := by
  obtain ⟨h1, h2⟩ := isB_parts hi
  obtain rfl : rep = false := by cases rep; rfl; exact absurd (show false = true from h1) (by decide)
  obtain rfl := knows_no (show rC (rowN 27) = false from rfl) h2
  rw [wl_27] at hw
  clear h1 h2
  rcases formsW hAm with ⟨rA, hA1, hA2, rfl⟩ | ⟨mA, mA1, mA2, rfl⟩ | ⟨hA, kA⟩ | rfl | hA
  · have hA : 0 ≤ rA ∧ rA < 8 := ⟨hA1, hA2⟩
    rcases formsW hBm with ⟨rB, hB1, hB2, rfl⟩ | ⟨mB, mB1, mB2, rfl⟩ | ⟨hB, kB⟩ | rfl | hB
    · have hB : 0 ≤ rB ∧ rB < 8 := ⟨hB1, hB2⟩
      obtain ⟨t, ht, rfl⟩ := List.mem_map.1 hw
      refine ⟨(⟨65535, 135, 27, 6, 5⟩ : Rw), 135, rB, t, ⟨(of_decide_eq_true (by kernel_rfl)), (.inl (by omega)), hB, (if_pos (by decide)), (show ¬ (27 : Int) = 0 ∧ ¬ (27 : Int) = -1 by decide), (if_neg (by decide)).symm, (show (false : Bool) = ((135 : Int) / 256 == 243) by decide), Eq.mpr (if_pos rfl) ⟨reg_RMb hA, ht⟩, Eq.mpr (if_neg (by decide)) rfl, (fun h => absurd h (by decide))⟩, ?way⟩
      case way => simp [wayR, opB, codeB, onReg, onImm, onZ]
    · exact not_taken hi (SA := [2, 6]) (SB := [16, 48, 112]) (by kernel_rfl) (mem_reg ⟨hA1, hA2⟩) (mem_imm _)
    · exact not_taken hi (SA := [2, 6]) (SB := [8]) (by kernel_rfl) (mem_reg ⟨hA1, hA2⟩) (mem_mem hB.1 kB)
    · exact not_taken hi (SA := [2, 6]) (SB := [1]) (by kernel_rfl) (mem_reg ⟨hA1, hA2⟩) mem_z
    · exact not_taken hi (SA := [2, 6]) (SB := [0]) (by kernel_rfl) (mem_reg ⟨hA1, hA2⟩) (by rw [hB]; decide)
  · exact not_taken hi (SA := [16, 48, 112]) (SB := l8) (by kernel_rfl) (mem_imm _) (cA_mem _)
  · rcases formsW hBm with ⟨rB, hB1, hB2, rfl⟩ | ⟨mB, mB1, mB2, rfl⟩ | ⟨hB, kB⟩ | rfl | hB
    · have hB : 0 ≤ rB ∧ rB < 8 := ⟨hB1, hB2⟩
      obtain ⟨t, ht, rfl⟩ := List.mem_map.1 hw
      refine ⟨(⟨65535, 135, 27, 6, 5⟩ : Rw), 135, rB, t, ⟨(of_decide_eq_true (by kernel_rfl)), (.inl (by omega)), hB, (if_pos (by decide)), (show ¬ (27 : Int) = 0 ∧ ¬ (27 : Int) = -1 by decide), (if_neg (by decide)).symm, (show (false : Bool) = ((135 : Int) / 256 == 243) by decide), Eq.mpr (if_pos rfl) ⟨hA, ht⟩, Eq.mpr (if_neg (by decide)) rfl, (fun h => absurd h (by decide))⟩, ?way⟩
      case way => simp [wayR, opB, codeB, onReg, onImm, onZ]
    · exact not_taken hi (SA := [8]) (SB := [16, 48, 112]) (by kernel_rfl) (mem_mem hA.1 kA) (mem_imm _)
    · exact not_taken hi (SA := [8]) (SB := [8]) (by kernel_rfl) (mem_mem hA.1 kA) (mem_mem hB.1 kB)
    · exact not_taken hi (SA := [8]) (SB := [1]) (by kernel_rfl) (mem_mem hA.1 kA) mem_z
    · exact not_taken hi (SA := [8]) (SB := [0]) (by kernel_rfl) (mem_mem hA.1 kA) (by rw [hB]; decide)
  · exact not_taken hi (SA := [1]) (SB := l8) (by kernel_rfl) mem_z (cA_mem _)
  · exact not_taken hi (SA := [0]) (SB := l8) (by kernel_rfl) (by rw [hA]; decide) (cA_mem _)
theorem bw_28 {c : Int} {A B : On} {rep : Bool} {l : Int} (hi : isB ⟨28, c, A, B, rep, l⟩ = true) (hAm : 0 ≤ A.m ∧ A.m ≤ 4294967295) (hBm : 0 ≤ B.m ∧ B.m ≤ 4294967295) {w : List Int} (hw : w ∈ waysL ⟨28, c, A, B, rep, l⟩) : ByWay ⟨28, c, A, B, rep, l⟩ w := by
  obtain ⟨h1, h2⟩ := isB_parts hi
  obtain rfl : rep = false := by cases rep; rfl; exact absurd (show false = true from h1) (by decide)
  obtain rfl := knows_no (show rC (rowN 28) = false from rfl) h2
  rw [wl_28] at hw
  clear h1 h2
  rcases formsW hAm with ⟨rA, hA1, hA2, rfl⟩ | ⟨mA, mA1, mA2, rfl⟩ | ⟨hA, kA⟩ | rfl | hA
  · have hA : 0 ≤ rA ∧ rA < 8 := ⟨hA1, hA2⟩
    rcases formsW hBm with ⟨rB, hB1, hB2, rfl⟩ | ⟨mB, mB1, mB2, rfl⟩ | ⟨hB, kB⟩ | rfl | hB
    · exact not_taken hi (SA := [2, 6]) (SB := [2, 6]) (by kernel_rfl) (mem_reg ⟨hA1, hA2⟩) (mem_reg ⟨hB1, hB2⟩)
    · exact not_taken hi (SA := [2, 6]) (SB := [16, 48, 112]) (by kernel_rfl) (mem_reg ⟨hA1, hA2⟩) (mem_imm _)
    · exact not_taken hi (SA := [2, 6]) (SB := [8]) (by kernel_rfl) (mem_reg ⟨hA1, hA2⟩) (mem_mem hB.1 kB)
    · rw [if_neg (nR2 _)] at hw
      rcases List.mem_append.1 hw with hw | hw
      · rw [if_pos (kR _)] at hw
        obtain rfl := List.mem_singleton.1 hw
        refine ⟨(⟨65528, 80, 28, 4, 0⟩ : Rw), (80 + rA), 0, [], ⟨?row, (.inl (by omega)), (by decide), (if_pos (by decide)), (show ¬ (28 : Int) = 0 ∧ ¬ (28 : Int) = -1 by decide), (if_neg (by decide)).symm, (show (false : Bool) = ((80 + rA) / 256 == 243) by rw [show (80 + rA) / 256 = 0 by omega]; rfl), Eq.mpr (if_neg (by decide)) (show onReg rA = onReg ((80 + rA) % 8) from congrArg onReg (by omega)), Eq.mpr (if_neg (by decide)) rfl, (fun _ => ⟨rfl, rfl⟩)⟩, ?way⟩
        case row => obtain ⟨j, hj⟩ := Int.eq_ofNat_of_zero_le (show 0 ≤ ((80 + rA)) - 80 by omega); rw [show (80 + rA) = 80 + (j : Int) by omega]; exact (of_decide_eq_true (by kernel_rfl) : ∀ j : Nat, j < 8 → (⟨65528, 80, 28, 4, 0⟩ : Rw) ∈ rowsOf (80 + (j : Int))) j (by omega)
        case way => simp [wayR, opB, onReg, onImm, onZ, code1 (show (80 + rA) < 256 by omega)]
      · obtain ⟨t, ht, rfl⟩ := List.mem_map.1 hw
        refine ⟨(⟨65535, 255, 58, 6, 0⟩ : Rw), 255, 6, t, ⟨(of_decide_eq_true (by kernel_rfl)), (.inl (by omega)), (by decide), (by kernel_rfl), (show ¬ (28 : Int) = 0 ∧ ¬ (28 : Int) = -1 by decide), (if_neg (by decide)).symm, (show (false : Bool) = ((255 : Int) / 256 == 243) by decide), Eq.mpr (if_pos rfl) ⟨reg_RMb hA, ht⟩, Eq.mpr (if_neg (by decide)) rfl, (fun h => absurd h (by decide))⟩, ?way⟩
        case way => simp [wayR, opB, codeB, onReg, onImm, onZ]
    · exact not_taken hi (SA := [2, 6]) (SB := [0]) (by kernel_rfl) (mem_reg ⟨hA1, hA2⟩) (by rw [hB]; decide)
  · rcases formsW hBm with ⟨rB, hB1, hB2, rfl⟩ | ⟨mB, mB1, mB2, rfl⟩ | ⟨hB, kB⟩ | rfl | hB
    · exact not_taken hi (SA := [16, 48, 112]) (SB := [2, 6]) (by kernel_rfl) (mem_imm _) (mem_reg ⟨hB1, hB2⟩)
    · exact not_taken hi (SA := [16, 48, 112]) (SB := [16, 48, 112]) (by kernel_rfl) (mem_imm _) (mem_imm _)
    · exact not_taken hi (SA := [16, 48, 112]) (SB := [8]) (by kernel_rfl) (mem_imm _) (mem_mem hB.1 kB)
    · rw [if_pos (kI _)] at hw
      rcases List.mem_append.1 hw with hw | hw
      · by_cases hq : fitI (onImm mA).m = true
        · rw [if_pos hq] at hw
          obtain rfl := List.mem_singleton.1 hw
          refine ⟨(⟨65535, 106, 28, 8, 0⟩ : Rw), 106, 0, [], ⟨(of_decide_eq_true (by kernel_rfl)), (.inl (by omega)), (by decide), (if_pos (by decide)), (show ¬ (28 : Int) = 0 ∧ ¬ (28 : Int) = -1 by decide), (if_neg (by decide)).symm, (show (false : Bool) = ((106 : Int) / 256 == 243) by decide), Eq.mpr (if_neg (by decide)) ⟨rfl, hq, mA1, mA2⟩, Eq.mpr (if_neg (by decide)) rfl, (fun _ => ⟨rfl, rfl⟩)⟩, ?way⟩
          case way => simp [wayR, opB, codeB, onReg, onImm, onZ]
        · rw [if_neg hq] at hw
          cases hw
      · obtain rfl := List.mem_singleton.1 hw
        refine ⟨(⟨65535, 104, 28, 9, 0⟩ : Rw), 104, 0, [], ⟨(of_decide_eq_true (by kernel_rfl)), (.inl (by omega)), (by decide), (if_pos (by decide)), (show ¬ (28 : Int) = 0 ∧ ¬ (28 : Int) = -1 by decide), (if_neg (by decide)).symm, (show (false : Bool) = ((104 : Int) / 256 == 243) by decide), Eq.mpr (if_neg (by decide)) ⟨rfl, mA1, mA2⟩, Eq.mpr (if_neg (by decide)) rfl, (fun _ => ⟨rfl, rfl⟩)⟩, ?way⟩
        case way => simp [wayR, opB, codeB, onReg, onImm, onZ]
    · exact not_taken hi (SA := [16, 48, 112]) (SB := [0]) (by kernel_rfl) (mem_imm _) (by rw [hB]; decide)
  · rcases formsW hBm with ⟨rB, hB1, hB2, rfl⟩ | ⟨mB, mB1, mB2, rfl⟩ | ⟨hB, kB⟩ | rfl | hB
    · exact not_taken hi (SA := [8]) (SB := [2, 6]) (by kernel_rfl) (mem_mem hA.1 kA) (mem_reg ⟨hB1, hB2⟩)
    · exact not_taken hi (SA := [8]) (SB := [16, 48, 112]) (by kernel_rfl) (mem_mem hA.1 kA) (mem_imm _)
    · exact not_taken hi (SA := [8]) (SB := [8]) (by kernel_rfl) (mem_mem hA.1 kA) (mem_mem hB.1 kB)
    · rw [if_neg (show ¬ A.k = 2 by rw [kA]; decide)] at hw
      rcases List.mem_append.1 hw with hw | hw
      · rw [if_neg (show ¬ A.k = 1 by rw [kA]; decide)] at hw
        cases hw
      · obtain ⟨t, ht, rfl⟩ := List.mem_map.1 hw
        refine ⟨(⟨65535, 255, 58, 6, 0⟩ : Rw), 255, 6, t, ⟨(of_decide_eq_true (by kernel_rfl)), (.inl (by omega)), (by decide), (by kernel_rfl), (show ¬ (28 : Int) = 0 ∧ ¬ (28 : Int) = -1 by decide), (if_neg (by decide)).symm, (show (false : Bool) = ((255 : Int) / 256 == 243) by decide), Eq.mpr (if_pos rfl) ⟨hA, ht⟩, Eq.mpr (if_neg (by decide)) rfl, (fun h => absurd h (by decide))⟩, ?way⟩
        case way => simp [wayR, opB, codeB, onReg, onImm, onZ]
    · exact not_taken hi (SA := [8]) (SB := [0]) (by kernel_rfl) (mem_mem hA.1 kA) (by rw [hB]; decide)
  · exact not_taken hi (SA := [1]) (SB := l8) (by kernel_rfl) mem_z (cA_mem _)
  · exact not_taken hi (SA := [0]) (SB := l8) (by kernel_rfl) (by rw [hA]; decide) (cA_mem _)
theorem bw_29 {c : Int} {A B : On} {rep : Bool} {l : Int} (hi : isB ⟨29, c, A, B, rep, l⟩ = true) (hAm : 0 ≤ A.m ∧ A.m ≤ 4294967295) (hBm : 0 ≤ B.m ∧ B.m ≤ 4294967295) {w : List Int} (hw : w ∈ waysL ⟨29, c, A, B, rep, l⟩) : ByWay ⟨29, c, A, B, rep, l⟩ w := by
  obtain ⟨h1, h2⟩ := isB_parts hi
  obtain rfl : rep = false := by cases rep; rfl; exact absurd (show false = true from h1) (by decide)
  obtain rfl := knows_no (show rC (rowN 29) = false from rfl) h2
  rw [wl_29] at hw
  clear h1 h2
  rcases formsW hAm with ⟨rA, hA1, hA2, rfl⟩ | ⟨mA, mA1, mA2, rfl⟩ | ⟨hA, kA⟩ | rfl | hA
  · have hA : 0 ≤ rA ∧ rA < 8 := ⟨hA1, hA2⟩
    rcases formsW hBm with ⟨rB, hB1, hB2, rfl⟩ | ⟨mB, mB1, mB2, rfl⟩ | ⟨hB, kB⟩ | rfl | hB
    · exact not_taken hi (SA := [2, 6]) (SB := [2, 6]) (by kernel_rfl) (mem_reg ⟨hA1, hA2⟩) (mem_reg ⟨hB1, hB2⟩)
    · exact not_taken hi (SA := [2, 6]) (SB := [16, 48, 112]) (by kernel_rfl) (mem_reg ⟨hA1, hA2⟩) (mem_imm _)
    · exact not_taken hi (SA := [2, 6]) (SB := [8]) (by kernel_rfl) (mem_reg ⟨hA1, hA2⟩) (mem_mem hB.1 kB)
    · obtain rfl := List.mem_singleton.1 hw
      refine ⟨(⟨65528, 88, 29, 4, 0⟩ : Rw), (88 + rA), 0, [], ⟨?row, (.inl (by omega)), (by decide), (if_pos (by decide)), (show ¬ (29 : Int) = 0 ∧ ¬ (29 : Int) = -1 by decide), (if_neg (by decide)).symm, (show (false : Bool) = ((88 + rA) / 256 == 243) by rw [show (88 + rA) / 256 = 0 by omega]; rfl), Eq.mpr (if_neg (by decide)) (show onReg rA = onReg ((88 + rA) % 8) from congrArg onReg (by omega)), Eq.mpr (if_neg (by decide)) rfl, (fun _ => ⟨rfl, rfl⟩)⟩, ?way⟩
      case row => obtain ⟨j, hj⟩ := Int.eq_ofNat_of_zero_le (show 0 ≤ ((88 + rA)) - 88 by omega); rw [show (88 + rA) = 88 + (j : Int) by omega]; exact (of_decide_eq_true (by kernel_rfl) : ∀ j : Nat, j < 8 → (⟨65528, 88, 29, 4, 0⟩ : Rw) ∈ rowsOf (88 + (j : Int))) j (by omega)
      case way => simp [wayR, opB, onReg, onImm, onZ, code1 (show (88 + rA) < 256 by omega)]
    · exact not_taken hi (SA := [2, 6]) (SB := [0]) (by kernel_rfl) (mem_reg ⟨hA1, hA2⟩) (by rw [hB]; decide)
  · exact not_taken hi (SA := [16, 48, 112]) (SB := l8) (by kernel_rfl) (mem_imm _) (cA_mem _)
  · exact not_taken hi (SA := [8]) (SB := l8) (by kernel_rfl) (mem_mem hA.1 kA) (cA_mem _)
  · exact not_taken hi (SA := [1]) (SB := l8) (by kernel_rfl) mem_z (cA_mem _)
  · exact not_taken hi (SA := [0]) (SB := l8) (by kernel_rfl) (by rw [hA]; decide) (cA_mem _)
theorem bw_30 {c : Int} {A B : On} {rep : Bool} {l : Int} (hi : isB ⟨30, c, A, B, rep, l⟩ = true) (hAm : 0 ≤ A.m ∧ A.m ≤ 4294967295) (hBm : 0 ≤ B.m ∧ B.m ≤ 4294967295) {w : List Int} (hw : w ∈ waysL ⟨30, c, A, B, rep, l⟩) : ByWay ⟨30, c, A, B, rep, l⟩ w := by
  obtain ⟨h1, h2⟩ := isB_parts hi
  obtain rfl : rep = false := by cases rep; rfl; exact absurd (show false = true from h1) (by decide)
  obtain rfl := knows_no (show rC (rowN 30) = false from rfl) h2
  rw [wl_30] at hw
  clear h1 h2
  rcases formsW hAm with ⟨rA, hA1, hA2, rfl⟩ | ⟨mA, mA1, mA2, rfl⟩ | ⟨hA, kA⟩ | rfl | hA
  · have hA : 0 ≤ rA ∧ rA < 8 := ⟨hA1, hA2⟩
    rcases formsW hBm with ⟨rB, hB1, hB2, rfl⟩ | ⟨mB, mB1, mB2, rfl⟩ | ⟨hB, kB⟩ | rfl | hB
    · exact not_taken hi (SA := [2, 6]) (SB := [2, 6]) (by kernel_rfl) (mem_reg ⟨hA1, hA2⟩) (mem_reg ⟨hB1, hB2⟩)
    · exact not_taken hi (SA := [2, 6]) (SB := [16, 48, 112]) (by kernel_rfl) (mem_reg ⟨hA1, hA2⟩) (mem_imm _)
    · exact not_taken hi (SA := [2, 6]) (SB := [8]) (by kernel_rfl) (mem_reg ⟨hA1, hA2⟩) (mem_mem hB.1 kB)
    · rw [if_neg (nR2 _)] at hw
      obtain ⟨t, ht, rfl⟩ := List.mem_map.1 hw
      refine ⟨(⟨65535, 255, 58, 6, 0⟩ : Rw), 255, 2, t, ⟨(of_decide_eq_true (by kernel_rfl)), (.inl (by omega)), (by decide), (by kernel_rfl), (show ¬ (30 : Int) = 0 ∧ ¬ (30 : Int) = -1 by decide), (if_neg (by decide)).symm, (show (false : Bool) = ((255 : Int) / 256 == 243) by decide), Eq.mpr (if_pos rfl) ⟨reg_RMb hA, ht⟩, Eq.mpr (if_neg (by decide)) rfl, (fun h => absurd h (by decide))⟩, ?way⟩
      case way => simp [wayR, opB, codeB, onReg, onImm, onZ]
    · exact not_taken hi (SA := [2, 6]) (SB := [0]) (by kernel_rfl) (mem_reg ⟨hA1, hA2⟩) (by rw [hB]; decide)
  · rcases formsW hBm with ⟨rB, hB1, hB2, rfl⟩ | ⟨mB, mB1, mB2, rfl⟩ | ⟨hB, kB⟩ | rfl | hB
    · exact not_taken hi (SA := [16, 48, 112]) (SB := [2, 6]) (by kernel_rfl) (mem_imm _) (mem_reg ⟨hB1, hB2⟩)
    · exact not_taken hi (SA := [16, 48, 112]) (SB := [16, 48, 112]) (by kernel_rfl) (mem_imm _) (mem_imm _)
    · exact not_taken hi (SA := [16, 48, 112]) (SB := [8]) (by kernel_rfl) (mem_imm _) (mem_mem hB.1 kB)
    · rw [if_pos (kI _)] at hw
      obtain rfl := List.mem_singleton.1 hw
      refine ⟨(⟨65535, 232, 30, 9, 0⟩ : Rw), 232, 0, [], ⟨(of_decide_eq_true (by kernel_rfl)), (.inl (by omega)), (by decide), (if_pos (by decide)), (show ¬ (30 : Int) = 0 ∧ ¬ (30 : Int) = -1 by decide), (if_neg (by decide)).symm, (show (false : Bool) = ((232 : Int) / 256 == 243) by decide), Eq.mpr (if_neg (by decide)) ⟨rfl, mA1, mA2⟩, Eq.mpr (if_neg (by decide)) rfl, (fun _ => ⟨rfl, rfl⟩)⟩, ?way⟩
      case way => simp [wayR, opB, codeB, onReg, onImm, onZ]
    · exact not_taken hi (SA := [16, 48, 112]) (SB := [0]) (by kernel_rfl) (mem_imm _) (by rw [hB]; decide)
  · rcases formsW hBm with ⟨rB, hB1, hB2, rfl⟩ | ⟨mB, mB1, mB2, rfl⟩ | ⟨hB, kB⟩ | rfl | hB
    · exact not_taken hi (SA := [8]) (SB := [2, 6]) (by kernel_rfl) (mem_mem hA.1 kA) (mem_reg ⟨hB1, hB2⟩)
    · exact not_taken hi (SA := [8]) (SB := [16, 48, 112]) (by kernel_rfl) (mem_mem hA.1 kA) (mem_imm _)
    · exact not_taken hi (SA := [8]) (SB := [8]) (by kernel_rfl) (mem_mem hA.1 kA) (mem_mem hB.1 kB)
    · rw [if_neg (show ¬ A.k = 2 by rw [kA]; decide)] at hw
      obtain ⟨t, ht, rfl⟩ := List.mem_map.1 hw
      refine ⟨(⟨65535, 255, 58, 6, 0⟩ : Rw), 255, 2, t, ⟨(of_decide_eq_true (by kernel_rfl)), (.inl (by omega)), (by decide), (by kernel_rfl), (show ¬ (30 : Int) = 0 ∧ ¬ (30 : Int) = -1 by decide), (if_neg (by decide)).symm, (show (false : Bool) = ((255 : Int) / 256 == 243) by decide), Eq.mpr (if_pos rfl) ⟨hA, ht⟩, Eq.mpr (if_neg (by decide)) rfl, (fun h => absurd h (by decide))⟩, ?way⟩
      case way => simp [wayR, opB, codeB, onReg, onImm, onZ]
    · exact not_taken hi (SA := [8]) (SB := [0]) (by kernel_rfl) (mem_mem hA.1 kA) (by rw [hB]; decide)
  · exact not_taken hi (SA := [1]) (SB := l8) (by kernel_rfl) mem_z (cA_mem _)
  · exact not_taken hi (SA := [0]) (SB := l8) (by kernel_rfl) (by rw [hA]; decide) (cA_mem _)
theorem bw_31 {c : Int} {A B : On} {rep : Bool} {l : Int} (hi : isB ⟨31, c, A, B, rep, l⟩ = true) (hAm : 0 ≤ A.m ∧ A.m ≤ 4294967295) (hBm : 0 ≤ B.m ∧ B.m ≤ 4294967295) {w : List Int} (hw : w ∈ waysL ⟨31, c, A, B, rep, l⟩) : ByWay ⟨31, c, A, B, rep, l⟩ w := by
  obtain ⟨h1, h2⟩ := isB_parts hi
  obtain rfl : rep = false := by cases rep; rfl; exact absurd (show false = true from h1) (by decide)
  obtain rfl := knows_no (show rC (rowN 31) = false from rfl) h2
  rw [wl_31] at hw
  clear h1 h2
  rcases formsW hAm with ⟨rA, hA1, hA2, rfl⟩ | ⟨mA, mA1, mA2, rfl⟩ | ⟨hA, kA⟩ | rfl | hA
  · exact not_taken hi (SA := [2, 6]) (SB := l8) (by kernel_rfl) (mem_reg ⟨hA1, hA2⟩) (cA_mem _)
  · exact not_taken hi (SA := [16, 48, 112]) (SB := l8) (by kernel_rfl) (mem_imm _) (cA_mem _)
  · exact not_taken hi (SA := [8]) (SB := l8) (by kernel_rfl) (mem_mem hA.1 kA) (cA_mem _)
  · rcases formsW hBm with ⟨rB, hB1, hB2, rfl⟩ | ⟨mB, mB1, mB2, rfl⟩ | ⟨hB, kB⟩ | rfl | hB
    · exact not_taken hi (SA := [1]) (SB := [2, 6]) (by kernel_rfl) mem_z (mem_reg ⟨hB1, hB2⟩)
    · exact not_taken hi (SA := [1]) (SB := [16, 48, 112]) (by kernel_rfl) mem_z (mem_imm _)
    · exact not_taken hi (SA := [1]) (SB := [8]) (by kernel_rfl) mem_z (mem_mem hB.1 kB)
    · obtain rfl := List.mem_singleton.1 hw
      refine ⟨(⟨65535, 195, 31, 0, 0⟩ : Rw), 195, 0, [], ⟨(of_decide_eq_true (by kernel_rfl)), (.inl (by omega)), (by decide), (if_pos (by decide)), (show ¬ (31 : Int) = 0 ∧ ¬ (31 : Int) = -1 by decide), (if_neg (by decide)).symm, (show (false : Bool) = ((195 : Int) / 256 == 243) by decide), Eq.mpr (if_neg (by decide)) rfl, Eq.mpr (if_neg (by decide)) rfl, (fun _ => ⟨rfl, rfl⟩)⟩, ?way⟩
      case way => simp [wayR, opB, codeB, onReg, onImm, onZ]
    · exact not_taken hi (SA := [1]) (SB := [0]) (by kernel_rfl) mem_z (by rw [hB]; decide)
  · exact not_taken hi (SA := [0]) (SB := l8) (by kernel_rfl) (by rw [hA]; decide) (cA_mem _)
theorem bw_32 {c : Int} {A B : On} {rep : Bool} {l : Int} (hi : isB ⟨32, c, A, B, rep, l⟩ = true) (hAm : 0 ≤ A.m ∧ A.m ≤ 4294967295) (hBm : 0 ≤ B.m ∧ B.m ≤ 4294967295) {w : List Int} (hw : w ∈ waysL ⟨32, c, A, B, rep, l⟩) : ByWay ⟨32, c, A, B, rep, l⟩ w := by
  obtain ⟨h1, h2⟩ := isB_parts hi
  obtain rfl : rep = false := by cases rep; rfl; exact absurd (show false = true from h1) (by decide)
  obtain rfl := knows_no (show rC (rowN 32) = false from rfl) h2
  rw [wl_32] at hw
  clear h1 h2
  rcases formsW hAm with ⟨rA, hA1, hA2, rfl⟩ | ⟨mA, mA1, mA2, rfl⟩ | ⟨hA, kA⟩ | rfl | hA
  · have hA : 0 ≤ rA ∧ rA < 8 := ⟨hA1, hA2⟩
    rcases formsW hBm with ⟨rB, hB1, hB2, rfl⟩ | ⟨mB, mB1, mB2, rfl⟩ | ⟨hB, kB⟩ | rfl | hB
    · exact not_taken hi (SA := [2, 6]) (SB := [2, 6]) (by kernel_rfl) (mem_reg ⟨hA1, hA2⟩) (mem_reg ⟨hB1, hB2⟩)
    · exact not_taken hi (SA := [2, 6]) (SB := [16, 48, 112]) (by kernel_rfl) (mem_reg ⟨hA1, hA2⟩) (mem_imm _)
    · exact not_taken hi (SA := [2, 6]) (SB := [8]) (by kernel_rfl) (mem_reg ⟨hA1, hA2⟩) (mem_mem hB.1 kB)
    · rw [if_neg (nR2 _)] at hw
      obtain ⟨t, ht, rfl⟩ := List.mem_map.1 hw
      refine ⟨(⟨65535, 255, 58, 6, 0⟩ : Rw), 255, 4, t, ⟨(of_decide_eq_true (by kernel_rfl)), (.inl (by omega)), (by decide), (by kernel_rfl), (show ¬ (32 : Int) = 0 ∧ ¬ (32 : Int) = -1 by decide), (if_neg (by decide)).symm, (show (false : Bool) = ((255 : Int) / 256 == 243) by decide), Eq.mpr (if_pos rfl) ⟨reg_RMb hA, ht⟩, Eq.mpr (if_neg (by decide)) rfl, (fun h => absurd h (by decide))⟩, ?way⟩
      case way => simp [wayR, opB, codeB, onReg, onImm, onZ]
    · exact not_taken hi (SA := [2, 6]) (SB := [0]) (by kernel_rfl) (mem_reg ⟨hA1, hA2⟩) (by rw [hB]; decide)
  · rcases formsW hBm with ⟨rB, hB1, hB2, rfl⟩ | ⟨mB, mB1, mB2, rfl⟩ | ⟨hB, kB⟩ | rfl | hB
    · exact not_taken hi (SA := [16, 48, 112]) (SB := [2, 6]) (by kernel_rfl) (mem_imm _) (mem_reg ⟨hB1, hB2⟩)
    · exact not_taken hi (SA := [16, 48, 112]) (SB := [16, 48, 112]) (by kernel_rfl) (mem_imm _) (mem_imm _)
    · exact not_taken hi (SA := [16, 48, 112]) (SB := [8]) (by kernel_rfl) (mem_imm _) (mem_mem hB.1 kB)
    · rw [if_pos (kI _)] at hw
      rcases List.mem_append.1 hw with hw | hw
      · by_cases hq : fitI (onImm mA).m = true
        · rw [if_pos hq] at hw
          obtain rfl := List.mem_singleton.1 hw
          refine ⟨(⟨65535, 235, 32, 8, 0⟩ : Rw), 235, 0, [], ⟨(of_decide_eq_true (by kernel_rfl)), (.inl (by omega)), (by decide), (if_pos (by decide)), (show ¬ (32 : Int) = 0 ∧ ¬ (32 : Int) = -1 by decide), (if_neg (by decide)).symm, (show (false : Bool) = ((235 : Int) / 256 == 243) by decide), Eq.mpr (if_neg (by decide)) ⟨rfl, hq, mA1, mA2⟩, Eq.mpr (if_neg (by decide)) rfl, (fun _ => ⟨rfl, rfl⟩)⟩, ?way⟩
          case way => simp [wayR, opB, codeB, onReg, onImm, onZ]
        · rw [if_neg hq] at hw
          cases hw
      · obtain rfl := List.mem_singleton.1 hw
        refine ⟨(⟨65535, 233, 32, 9, 0⟩ : Rw), 233, 0, [], ⟨(of_decide_eq_true (by kernel_rfl)), (.inl (by omega)), (by decide), (if_pos (by decide)), (show ¬ (32 : Int) = 0 ∧ ¬ (32 : Int) = -1 by decide), (if_neg (by decide)).symm, (show (false : Bool) = ((233 : Int) / 256 == 243) by decide), Eq.mpr (if_neg (by decide)) ⟨rfl, mA1, mA2⟩, Eq.mpr (if_neg (by decide)) rfl, (fun _ => ⟨rfl, rfl⟩)⟩, ?way⟩
        case way => simp [wayR, opB, codeB, onReg, onImm, onZ]
    · exact not_taken hi (SA := [16, 48, 112]) (SB := [0]) (by kernel_rfl) (mem_imm _) (by rw [hB]; decide)
  · rcases formsW hBm with ⟨rB, hB1, hB2, rfl⟩ | ⟨mB, mB1, mB2, rfl⟩ | ⟨hB, kB⟩ | rfl | hB
    · exact not_taken hi (SA := [8]) (SB := [2, 6]) (by kernel_rfl) (mem_mem hA.1 kA) (mem_reg ⟨hB1, hB2⟩)
    · exact not_taken hi (SA := [8]) (SB := [16, 48, 112]) (by kernel_rfl) (mem_mem hA.1 kA) (mem_imm _)
    · exact not_taken hi (SA := [8]) (SB := [8]) (by kernel_rfl) (mem_mem hA.1 kA) (mem_mem hB.1 kB)
    · rw [if_neg (show ¬ A.k = 2 by rw [kA]; decide)] at hw
      obtain ⟨t, ht, rfl⟩ := List.mem_map.1 hw
      refine ⟨(⟨65535, 255, 58, 6, 0⟩ : Rw), 255, 4, t, ⟨(of_decide_eq_true (by kernel_rfl)), (.inl (by omega)), (by decide), (by kernel_rfl), (show ¬ (32 : Int) = 0 ∧ ¬ (32 : Int) = -1 by decide), (if_neg (by decide)).symm, (show (false : Bool) = ((255 : Int) / 256 == 243) by decide), Eq.mpr (if_pos rfl) ⟨hA, ht⟩, Eq.mpr (if_neg (by decide)) rfl, (fun h => absurd h (by decide))⟩, ?way⟩
      case way => simp [wayR, opB, codeB, onReg, onImm, onZ]
    · exact not_taken hi (SA := [8]) (SB := [0]) (by kernel_rfl) (mem_mem hA.1 kA) (by rw [hB]; decide)
  · exact not_taken hi (SA := [1]) (SB := l8) (by kernel_rfl) mem_z (cA_mem _)
  · exact not_taken hi (SA := [0]) (SB := l8) (by kernel_rfl) (by rw [hA]; decide) (cA_mem _)
theorem bw_33 {c : Int} {A B : On} {rep : Bool} {l : Int} (hi : isB ⟨33, c, A, B, rep, l⟩ = true) (hAm : 0 ≤ A.m ∧ A.m ≤ 4294967295) (hBm : 0 ≤ B.m ∧ B.m ≤ 4294967295) {w : List Int} (hw : w ∈ waysL ⟨33, c, A, B, rep, l⟩) : ByWay ⟨33, c, A, B, rep, l⟩ w := by
  obtain ⟨h1, h2⟩ := isB_parts hi
  obtain rfl : rep = false := by cases rep; rfl; exact absurd (show false = true from h1) (by decide)
  have hc := knows_hi16 (show rC (rowN 33) = true from rfl) h2
  rw [wl_33] at hw
  clear h1 h2
  rcases formsW hAm with ⟨rA, hA1, hA2, rfl⟩ | ⟨mA, mA1, mA2, rfl⟩ | ⟨hA, kA⟩ | rfl | hA
  · exact not_taken hi (SA := [2, 6]) (SB := l8) (by kernel_rfl) (mem_reg ⟨hA1, hA2⟩) (cA_mem _)
  · rcases formsW hBm with ⟨rB, hB1, hB2, rfl⟩ | ⟨mB, mB1, mB2, rfl⟩ | ⟨hB, kB⟩ | rfl | hB
    · exact not_taken hi (SA := [16, 48, 112]) (SB := [2, 6]) (by kernel_rfl) (mem_imm _) (mem_reg ⟨hB1, hB2⟩)
    · exact not_taken hi (SA := [16, 48, 112]) (SB := [16, 48, 112]) (by kernel_rfl) (mem_imm _) (mem_imm _)
    · exact not_taken hi (SA := [16, 48, 112]) (SB := [8]) (by kernel_rfl) (mem_imm _) (mem_mem hB.1 kB)
    · rcases List.mem_append.1 hw with hw | hw
      · by_cases hq : fitI (onImm mA).m = true
        · rw [if_pos hq] at hw
          obtain rfl := List.mem_singleton.1 hw
          refine ⟨(⟨65520, 112, 33, 8, 0⟩ : Rw), (112 + c), 0, [], ⟨?row, (.inl (by omega)), (by decide), (if_pos (by decide)), (show ¬ (33 : Int) = 0 ∧ ¬ (33 : Int) = -1 by decide), ((if_pos rfl : (if (65520 : Int) = 65520 then ((112 + c)) % 16 else 0) = ((112 + c)) % 16).trans (show (112 + c) % 16 = c by omega)).symm, (show (false : Bool) = ((112 + c) / 256 == 243) by rw [show (112 + c) / 256 = 0 by omega]; rfl), Eq.mpr (if_neg (by decide)) ⟨rfl, hq, mA1, mA2⟩, Eq.mpr (if_neg (by decide)) rfl, (fun _ => ⟨rfl, rfl⟩)⟩, ?way⟩
          case row => obtain ⟨j, hj⟩ := Int.eq_ofNat_of_zero_le (show 0 ≤ ((112 + c)) - 112 by omega); rw [show (112 + c) = 112 + (j : Int) by omega]; exact (of_decide_eq_true (by kernel_rfl) : ∀ j : Nat, j < 16 → (⟨65520, 112, 33, 8, 0⟩ : Rw) ∈ rowsOf (112 + (j : Int))) j (by omega)
          case way => simp [wayR, opB, onReg, onImm, onZ, code1 (show (112 + c) < 256 by omega)]
        · rw [if_neg hq] at hw
          cases hw
      · obtain rfl := List.mem_singleton.1 hw
        refine ⟨(⟨65520, 3968, 33, 9, 0⟩ : Rw), (3968 + c), 0, [], ⟨?row, (.inr (by omega)), (by decide), (if_pos (by decide)), (show ¬ (33 : Int) = 0 ∧ ¬ (33 : Int) = -1 by decide), ((if_pos rfl : (if (65520 : Int) = 65520 then ((3968 + c)) % 16 else 0) = ((3968 + c)) % 16).trans (show (3968 + c) % 16 = c by omega)).symm, (show (false : Bool) = ((3968 + c) / 256 == 243) by rw [show (3968 + c) / 256 = 15 by omega]; rfl), Eq.mpr (if_neg (by decide)) ⟨rfl, mA1, mA2⟩, Eq.mpr (if_neg (by decide)) rfl, (fun _ => ⟨rfl, rfl⟩)⟩, ?way⟩
        case row => obtain ⟨j, hj⟩ := Int.eq_ofNat_of_zero_le (show 0 ≤ ((3968 + c)) - 3968 by omega); rw [show (3968 + c) = 3968 + (j : Int) by omega]; exact (of_decide_eq_true (by kernel_rfl) : ∀ j : Nat, j < 16 → (⟨65520, 3968, 33, 9, 0⟩ : Rw) ∈ rowsOf (3968 + (j : Int))) j (by omega)
        case way => simp [wayR, opB, onReg, onImm, onZ, code2 (c := (3968 + c)) (d := 15) (e := (128 + c)) (by omega) (by omega) (by omega)]
    · exact not_taken hi (SA := [16, 48, 112]) (SB := [0]) (by kernel_rfl) (mem_imm _) (by rw [hB]; decide)
  · exact not_taken hi (SA := [8]) (SB := l8) (by kernel_rfl) (mem_mem hA.1 kA) (cA_mem _)
  · exact not_taken hi (SA := [1]) (SB := l8) (by kernel_rfl) mem_z (cA_mem _)
  · exact not_taken hi (SA := [0]) (SB := l8) (by kernel_rfl) (by rw [hA]; decide) (cA_mem _)
theorem bw_34 {c : Int} {A B : On} {rep : Bool} {l : Int} (hi : isB ⟨34, c, A, B, rep, l⟩ = true) (hAm : 0 ≤ A.m ∧ A.m ≤ 4294967295) (hBm : 0 ≤ B.m ∧ B.m ≤ 4294967295) {w : List Int} (hw : w ∈ waysL ⟨34, c, A, B, rep, l⟩) : ByWay ⟨34, c, A, B, rep, l⟩ w := by
  obtain ⟨h1, h2⟩ := isB_parts hi
  obtain rfl : rep = false := by cases rep; rfl; exact absurd (show false = true from h1) (by decide)
  have hc := knows_hi16 (show rC (rowN 34) = true from rfl) h2
  rw [wl_34] at hw
  clear h1 h2
  rcases formsW hAm with ⟨rA, hA1, hA2, rfl⟩ | ⟨mA, mA1, mA2, rfl⟩ | ⟨hA, kA⟩ | rfl | hA
  · have hA : 0 ≤ rA ∧ rA < 8 := ⟨hA1, hA2⟩
    rcases formsW hBm with ⟨rB, hB1, hB2, rfl⟩ | ⟨mB, mB1, mB2, rfl⟩ | ⟨hB, kB⟩ | rfl | hB
    · exact not_taken hi (SA := [2, 6]) (SB := [2, 6]) (by kernel_rfl) (mem_reg ⟨hA1, hA2⟩) (mem_reg ⟨hB1, hB2⟩)
    · exact not_taken hi (SA := [2, 6]) (SB := [16, 48, 112]) (by kernel_rfl) (mem_reg ⟨hA1, hA2⟩) (mem_imm _)
    · exact not_taken hi (SA := [2, 6]) (SB := [8]) (by kernel_rfl) (mem_reg ⟨hA1, hA2⟩) (mem_mem hB.1 kB)
    · obtain ⟨t, ht, rfl⟩ := List.mem_map.1 hw
      refine ⟨(⟨65520, 3984, 61, 6, 0⟩ : Rw), (3984 + c), 0, t, ⟨?row, (.inr (by omega)), (by decide), (by kernel_rfl), (show ¬ (34 : Int) = 0 ∧ ¬ (34 : Int) = -1 by decide), ((if_pos rfl : (if (65520 : Int) = 65520 then ((3984 + c)) % 16 else 0) = ((3984 + c)) % 16).trans (show (3984 + c) % 16 = c by omega)).symm, (show (false : Bool) = ((3984 + c) / 256 == 243) by rw [show (3984 + c) / 256 = 15 by omega]; rfl), Eq.mpr (if_pos rfl) ⟨reg_RMb hA, ht⟩, Eq.mpr (if_neg (by decide)) rfl, (fun h => absurd h (by decide))⟩, ?way⟩
      case row => obtain ⟨j, hj⟩ := Int.eq_ofNat_of_zero_le (show 0 ≤ ((3984 + c)) - 3984 by omega); rw [show (3984 + c) = 3984 + (j : Int) by omega]; exact (of_decide_eq_true (by kernel_rfl) : ∀ j : Nat, j < 16 → (⟨65520, 3984, 61, 6, 0⟩ : Rw) ∈ rowsOf (3984 + (j : Int))) j (by omega)
      case way => simp [wayR, opB, onReg, onImm, onZ, code2 (c := (3984 + c)) (d := 15) (e := (144 + c)) (by omega) (by omega) (by omega)]
    · exact not_taken hi (SA := [2, 6]) (SB := [0]) (by kernel_rfl) (mem_reg ⟨hA1, hA2⟩) (by rw [hB]; decide)
  · exact not_taken hi (SA := [16, 48, 112]) (SB := l8) (by kernel_rfl) (mem_imm _) (cA_mem _)
  · rcases formsW hBm with ⟨rB, hB1, hB2, rfl⟩ | ⟨mB, mB1, mB2, rfl⟩ | ⟨hB, kB⟩ | rfl | hB
    · exact not_taken hi (SA := [8]) (SB := [2, 6]) (by kernel_rfl) (mem_mem hA.1 kA) (mem_reg ⟨hB1, hB2⟩)
    · exact not_taken hi (SA := [8]) (SB := [16, 48, 112]) (by kernel_rfl) (mem_mem hA.1 kA) (mem_imm _)
    · exact not_taken hi (SA := [8]) (SB := [8]) (by kernel_rfl) (mem_mem hA.1 kA) (mem_mem hB.1 kB)
    · obtain ⟨t, ht, rfl⟩ := List.mem_map.1 hw
      refine ⟨(⟨65520, 3984, 61, 6, 0⟩ : Rw), (3984 + c), 0, t, ⟨?row, (.inr (by omega)), (by decide), (by kernel_rfl), (show ¬ (34 : Int) = 0 ∧ ¬ (34 : Int) = -1 by decide), ((if_pos rfl : (if (65520 : Int) = 65520 then ((3984 + c)) % 16 else 0) = ((3984 + c)) % 16).trans (show (3984 + c) % 16 = c by omega)).symm, (show (false : Bool) = ((3984 + c) / 256 == 243) by rw [show (3984 + c) / 256 = 15 by omega]; rfl), Eq.mpr (if_pos rfl) ⟨hA, ht⟩, Eq.mpr (if_neg (by decide)) rfl, (fun h => absurd h (by decide))⟩, ?way⟩
      case row => obtain ⟨j, hj⟩ := Int.eq_ofNat_of_zero_le (show 0 ≤ ((3984 + c)) - 3984 by omega); rw [show (3984 + c) = 3984 + (j : Int) by omega]; exact (of_decide_eq_true (by kernel_rfl) : ∀ j : Nat, j < 16 → (⟨65520, 3984, 61, 6, 0⟩ : Rw) ∈ rowsOf (3984 + (j : Int))) j (by omega)
      case way => simp [wayR, opB, onReg, onImm, onZ, code2 (c := (3984 + c)) (d := 15) (e := (144 + c)) (by omega) (by omega) (by omega)]
    · exact not_taken hi (SA := [8]) (SB := [0]) (by kernel_rfl) (mem_mem hA.1 kA) (by rw [hB]; decide)
  · exact not_taken hi (SA := [1]) (SB := l8) (by kernel_rfl) mem_z (cA_mem _)
  · exact not_taken hi (SA := [0]) (SB := l8) (by kernel_rfl) (by rw [hA]; decide) (cA_mem _)
theorem bw_35 {c : Int} {A B : On} {rep : Bool} {l : Int} (hi : isB ⟨35, c, A, B, rep, l⟩ = true) (hAm : 0 ≤ A.m ∧ A.m ≤ 4294967295) (hBm : 0 ≤ B.m ∧ B.m ≤ 4294967295) {w : List Int} (hw : w ∈ waysL ⟨35, c, A, B, rep, l⟩) : ByWay ⟨35, c, A, B, rep, l⟩ w := by
  obtain ⟨h1, h2⟩ := isB_parts hi
  obtain rfl : rep = false := by cases rep; rfl; exact absurd (show false = true from h1) (by decide)
  have hc := knows_hi16 (show rC (rowN 35) = true from rfl) h2
  rw [wl_35] at hw
  clear h1 h2
  rcases formsW hAm with ⟨rA, hA1, hA2, rfl⟩ | ⟨mA, mA1, mA2, rfl⟩ | ⟨hA, kA⟩ | rfl | hA
  · have hA : 0 ≤ rA ∧ rA < 8 := ⟨hA1, hA2⟩
    rcases formsW hBm with ⟨rB, hB1, hB2, rfl⟩ | ⟨mB, mB1, mB2, rfl⟩ | ⟨hB, kB⟩ | rfl | hB
    · have hB : 0 ≤ rB ∧ rB < 8 := ⟨hB1, hB2⟩
      obtain ⟨t, ht, rfl⟩ := List.mem_map.1 hw
      refine ⟨(⟨65520, 3904, 35, 5, 6⟩ : Rw), (3904 + c), rA, t, ⟨?row, (.inr (by omega)), hA, (if_pos (by decide)), (show ¬ (35 : Int) = 0 ∧ ¬ (35 : Int) = -1 by decide), ((if_pos rfl : (if (65520 : Int) = 65520 then ((3904 + c)) % 16 else 0) = ((3904 + c)) % 16).trans (show (3904 + c) % 16 = c by omega)).symm, (show (false : Bool) = ((3904 + c) / 256 == 243) by rw [show (3904 + c) / 256 = 15 by omega]; rfl), Eq.mpr (if_neg (by decide)) rfl, Eq.mpr (if_pos rfl) ⟨reg_RMb hB, ht⟩, (fun h => absurd h (by decide))⟩, ?way⟩
      case row => obtain ⟨j, hj⟩ := Int.eq_ofNat_of_zero_le (show 0 ≤ ((3904 + c)) - 3904 by omega); rw [show (3904 + c) = 3904 + (j : Int) by omega]; exact (of_decide_eq_true (by kernel_rfl) : ∀ j : Nat, j < 16 → (⟨65520, 3904, 35, 5, 6⟩ : Rw) ∈ rowsOf (3904 + (j : Int))) j (by omega)
      case way => simp [wayR, opB, onReg, onImm, onZ, code2 (c := (3904 + c)) (d := 15) (e := (64 + c)) (by omega) (by omega) (by omega)]
    · exact not_taken hi (SA := [2, 6]) (SB := [16, 48, 112]) (by kernel_rfl) (mem_reg ⟨hA1, hA2⟩) (mem_imm _)
    · obtain ⟨t, ht, rfl⟩ := List.mem_map.1 hw
      refine ⟨(⟨65520, 3904, 35, 5, 6⟩ : Rw), (3904 + c), rA, t, ⟨?row, (.inr (by omega)), hA, (if_pos (by decide)), (show ¬ (35 : Int) = 0 ∧ ¬ (35 : Int) = -1 by decide), ((if_pos rfl : (if (65520 : Int) = 65520 then ((3904 + c)) % 16 else 0) = ((3904 + c)) % 16).trans (show (3904 + c) % 16 = c by omega)).symm, (show (false : Bool) = ((3904 + c) / 256 == 243) by rw [show (3904 + c) / 256 = 15 by omega]; rfl), Eq.mpr (if_neg (by decide)) rfl, Eq.mpr (if_pos rfl) ⟨hB, ht⟩, (fun h => absurd h (by decide))⟩, ?way⟩
      case row => obtain ⟨j, hj⟩ := Int.eq_ofNat_of_zero_le (show 0 ≤ ((3904 + c)) - 3904 by omega); rw [show (3904 + c) = 3904 + (j : Int) by omega]; exact (of_decide_eq_true (by kernel_rfl) : ∀ j : Nat, j < 16 → (⟨65520, 3904, 35, 5, 6⟩ : Rw) ∈ rowsOf (3904 + (j : Int))) j (by omega)
      case way => simp [wayR, opB, onReg, onImm, onZ, code2 (c := (3904 + c)) (d := 15) (e := (64 + c)) (by omega) (by omega) (by omega)]
    · exact not_taken hi (SA := [2, 6]) (SB := [1]) (by kernel_rfl) (mem_reg ⟨hA1, hA2⟩) mem_z
    · exact not_taken hi (SA := [2, 6]) (SB := [0]) (by kernel_rfl) (mem_reg ⟨hA1, hA2⟩) (by rw [hB]; decide)
  · exact not_taken hi (SA := [16, 48, 112]) (SB := l8) (by kernel_rfl) (mem_imm _) (cA_mem _)
  · exact not_taken hi (SA := [8]) (SB := l8) (by kernel_rfl) (mem_mem hA.1 kA) (cA_mem _)
  · exact not_taken hi (SA := [1]) (SB := l8) (by kernel_rfl) mem_z (cA_mem _)
  · exact not_taken hi (SA := [0]) (SB := l8) (by kernel_rfl) (by rw [hA]; decide) (cA_mem _)
theorem bw_36 {c : Int} {A B : On} {rep : Bool} {l : Int} (hi : isB ⟨36, c, A, B, rep, l⟩ = true) (hAm : 0 ≤ A.m ∧ A.m ≤ 4294967295) (hBm : 0 ≤ B.m ∧ B.m ≤ 4294967295) {w : List Int} (hw : w ∈ waysL ⟨36, c, A, B, rep, l⟩) : ByWay ⟨36, c, A, B, rep, l⟩ w := by
  obtain ⟨h1, h2⟩ := isB_parts hi
  obtain rfl : rep = false := by cases rep; rfl; exact absurd (show false = true from h1) (by decide)
  obtain rfl := knows_no (show rC (rowN 36) = false from rfl) h2
  rw [wl_36] at hw
  clear h1 h2
  rcases formsW hAm with ⟨rA, hA1, hA2, rfl⟩ | ⟨mA, mA1, mA2, rfl⟩ | ⟨hA, kA⟩ | rfl | hA
  · have hA : 0 ≤ rA ∧ rA < 8 := ⟨hA1, hA2⟩
    rcases formsW hBm with ⟨rB, hB1, hB2, rfl⟩ | ⟨mB, mB1, mB2, rfl⟩ | ⟨hB, kB⟩ | rfl | hB
    · have hB : 0 ≤ rB ∧ rB < 8 := ⟨hB1, hB2⟩
      obtain ⟨t, ht, rfl⟩ := List.mem_map.1 hw
      refine ⟨(⟨65535, 4022, 36, 5, 6⟩ : Rw), 4022, rA, t, ⟨(of_decide_eq_true (by kernel_rfl)), (.inr (by omega)), hA, (if_pos (by decide)), (show ¬ (36 : Int) = 0 ∧ ¬ (36 : Int) = -1 by decide), (if_neg (by decide)).symm, (show (false : Bool) = ((4022 : Int) / 256 == 243) by decide), Eq.mpr (if_neg (by decide)) rfl, Eq.mpr (if_pos rfl) ⟨reg_RMb hB, ht⟩, (fun h => absurd h (by decide))⟩, ?way⟩
      case way => simp [wayR, opB, codeB, onReg, onImm, onZ]
    · exact not_taken hi (SA := [2, 6]) (SB := [16, 48, 112]) (by kernel_rfl) (mem_reg ⟨hA1, hA2⟩) (mem_imm _)
    · obtain ⟨t, ht, rfl⟩ := List.mem_map.1 hw
      refine ⟨(⟨65535, 4022, 36, 5, 6⟩ : Rw), 4022, rA, t, ⟨(of_decide_eq_true (by kernel_rfl)), (.inr (by omega)), hA, (if_pos (by decide)), (show ¬ (36 : Int) = 0 ∧ ¬ (36 : Int) = -1 by decide), (if_neg (by decide)).symm, (show (false : Bool) = ((4022 : Int) / 256 == 243) by decide), Eq.mpr (if_neg (by decide)) rfl, Eq.mpr (if_pos rfl) ⟨hB, ht⟩, (fun h => absurd h (by decide))⟩, ?way⟩
      case way => simp [wayR, opB, codeB, onReg, onImm, onZ]
    · exact not_taken hi (SA := [2, 6]) (SB := [1]) (by kernel_rfl) (mem_reg ⟨hA1, hA2⟩) mem_z
    · exact not_taken hi (SA := [2, 6]) (SB := [0]) (by kernel_rfl) (mem_reg ⟨hA1, hA2⟩) (by rw [hB]; decide)
  · exact not_taken hi (SA := [16, 48, 112]) (SB := l8) (by kernel_rfl) (mem_imm _) (cA_mem _)
  · exact not_taken hi (SA := [8]) (SB := l8) (by kernel_rfl) (mem_mem hA.1 kA) (cA_mem _)
  · exact not_taken hi (SA := [1]) (SB := l8) (by kernel_rfl) mem_z (cA_mem _)
  · exact not_taken hi (SA := [0]) (SB := l8) (by kernel_rfl) (by rw [hA]; decide) (cA_mem _)
theorem bw_37 {c : Int} {A B : On} {rep : Bool} {l : Int} (hi : isB ⟨37, c, A, B, rep, l⟩ = true) (hAm : 0 ≤ A.m ∧ A.m ≤ 4294967295) (hBm : 0 ≤ B.m ∧ B.m ≤ 4294967295) {w : List Int} (hw : w ∈ waysL ⟨37, c, A, B, rep, l⟩) : ByWay ⟨37, c, A, B, rep, l⟩ w := by
  obtain ⟨h1, h2⟩ := isB_parts hi
  obtain rfl : rep = false := by cases rep; rfl; exact absurd (show false = true from h1) (by decide)
  obtain rfl := knows_no (show rC (rowN 37) = false from rfl) h2
  rw [wl_37] at hw
  clear h1 h2
  rcases formsW hAm with ⟨rA, hA1, hA2, rfl⟩ | ⟨mA, mA1, mA2, rfl⟩ | ⟨hA, kA⟩ | rfl | hA
  · have hA : 0 ≤ rA ∧ rA < 8 := ⟨hA1, hA2⟩
    rcases formsW hBm with ⟨rB, hB1, hB2, rfl⟩ | ⟨mB, mB1, mB2, rfl⟩ | ⟨hB, kB⟩ | rfl | hB
    · have hB : 0 ≤ rB ∧ rB < 8 := ⟨hB1, hB2⟩
      obtain ⟨t, ht, rfl⟩ := List.mem_map.1 hw
      refine ⟨(⟨65535, 4030, 37, 5, 6⟩ : Rw), 4030, rA, t, ⟨(of_decide_eq_true (by kernel_rfl)), (.inr (by omega)), hA, (if_pos (by decide)), (show ¬ (37 : Int) = 0 ∧ ¬ (37 : Int) = -1 by decide), (if_neg (by decide)).symm, (show (false : Bool) = ((4030 : Int) / 256 == 243) by decide), Eq.mpr (if_neg (by decide)) rfl, Eq.mpr (if_pos rfl) ⟨reg_RMb hB, ht⟩, (fun h => absurd h (by decide))⟩, ?way⟩
      case way => simp [wayR, opB, codeB, onReg, onImm, onZ]
    · exact not_taken hi (SA := [2, 6]) (SB := [16, 48, 112]) (by kernel_rfl) (mem_reg ⟨hA1, hA2⟩) (mem_imm _)
    · obtain ⟨t, ht, rfl⟩ := List.mem_map.1 hw
      refine ⟨(⟨65535, 4030, 37, 5, 6⟩ : Rw), 4030, rA, t, ⟨(of_decide_eq_true (by kernel_rfl)), (.inr (by omega)), hA, (if_pos (by decide)), (show ¬ (37 : Int) = 0 ∧ ¬ (37 : Int) = -1 by decide), (if_neg (by decide)).symm, (show (false : Bool) = ((4030 : Int) / 256 == 243) by decide), Eq.mpr (if_neg (by decide)) rfl, Eq.mpr (if_pos rfl) ⟨hB, ht⟩, (fun h => absurd h (by decide))⟩, ?way⟩
      case way => simp [wayR, opB, codeB, onReg, onImm, onZ]
    · exact not_taken hi (SA := [2, 6]) (SB := [1]) (by kernel_rfl) (mem_reg ⟨hA1, hA2⟩) mem_z
    · exact not_taken hi (SA := [2, 6]) (SB := [0]) (by kernel_rfl) (mem_reg ⟨hA1, hA2⟩) (by rw [hB]; decide)
  · exact not_taken hi (SA := [16, 48, 112]) (SB := l8) (by kernel_rfl) (mem_imm _) (cA_mem _)
  · exact not_taken hi (SA := [8]) (SB := l8) (by kernel_rfl) (mem_mem hA.1 kA) (cA_mem _)
  · exact not_taken hi (SA := [1]) (SB := l8) (by kernel_rfl) mem_z (cA_mem _)
  · exact not_taken hi (SA := [0]) (SB := l8) (by kernel_rfl) (by rw [hA]; decide) (cA_mem _)
theorem bw_38 {c : Int} {A B : On} {rep : Bool} {l : Int} (hi : isB ⟨38, c, A, B, rep, l⟩ = true) (hAm : 0 ≤ A.m ∧ A.m ≤ 4294967295) (hBm : 0 ≤ B.m ∧ B.m ≤ 4294967295) {w : List Int} (hw : w ∈ waysL ⟨38, c, A, B, rep, l⟩) : ByWay ⟨38, c, A, B, rep, l⟩ w := by
  obtain ⟨h1, h2⟩ := isB_parts hi
  obtain rfl : rep = false := by cases rep; rfl; exact absurd (show false = true from h1) (by decide)
  obtain rfl := knows_no (show rC (rowN 38) = false from rfl) h2
  rw [wl_38] at hw
  clear h1 h2
  rcases formsW hAm with ⟨rA, hA1, hA2, rfl⟩ | ⟨mA, mA1, mA2, rfl⟩ | ⟨hA, kA⟩ | rfl | hA
  · exact not_taken hi (SA := [2, 6]) (SB := l8) (by kernel_rfl) (mem_reg ⟨hA1, hA2⟩) (cA_mem _)
  · exact not_taken hi (SA := [16, 48, 112]) (SB := l8) (by kernel_rfl) (mem_imm _) (cA_mem _)
  · exact not_taken hi (SA := [8]) (SB := l8) (by kernel_rfl) (mem_mem hA.1 kA) (cA_mem _)
  · rcases formsW hBm with ⟨rB, hB1, hB2, rfl⟩ | ⟨mB, mB1, mB2, rfl⟩ | ⟨hB, kB⟩ | rfl | hB
    · exact not_taken hi (SA := [1]) (SB := [2, 6]) (by kernel_rfl) mem_z (mem_reg ⟨hB1, hB2⟩)
    · exact not_taken hi (SA := [1]) (SB := [16, 48, 112]) (by kernel_rfl) mem_z (mem_imm _)
    · exact not_taken hi (SA := [1]) (SB := [8]) (by kernel_rfl) mem_z (mem_mem hB.1 kB)
    · obtain rfl := List.mem_singleton.1 hw
      refine ⟨(⟨65535, 153, 38, 0, 0⟩ : Rw), 153, 0, [], ⟨(of_decide_eq_true (by kernel_rfl)), (.inl (by omega)), (by decide), (if_pos (by decide)), (show ¬ (38 : Int) = 0 ∧ ¬ (38 : Int) = -1 by decide), (if_neg (by decide)).symm, (show (false : Bool) = ((153 : Int) / 256 == 243) by decide), Eq.mpr (if_neg (by decide)) rfl, Eq.mpr (if_neg (by decide)) rfl, (fun _ => ⟨rfl, rfl⟩)⟩, ?way⟩
      case way => simp [wayR, opB, codeB, onReg, onImm, onZ]
    · exact not_taken hi (SA := [1]) (SB := [0]) (by kernel_rfl) mem_z (by rw [hB]; decide)
  · exact not_taken hi (SA := [0]) (SB := l8) (by kernel_rfl) (by rw [hA]; decide) (cA_mem _)
theorem bw_39 {c : Int} {A B : On} {rep : Bool} {l : Int} (hi : isB ⟨39, c, A, B, rep, l⟩ = true) (hAm : 0 ≤ A.m ∧ A.m ≤ 4294967295) (hBm : 0 ≤ B.m ∧ B.m ≤ 4294967295) {w : List Int} (hw : w ∈ waysL ⟨39, c, A, B, rep, l⟩) : ByWay ⟨39, c, A, B, rep, l⟩ w := by
  obtain ⟨h1, h2⟩ := isB_parts hi
  obtain rfl : rep = false := by cases rep; rfl; exact absurd (show false = true from h1) (by decide)
  obtain rfl := knows_no (show rC (rowN 39) = false from rfl) h2
  rw [wl_39] at hw
  clear h1 h2
  rcases formsW hAm with ⟨rA, hA1, hA2, rfl⟩ | ⟨mA, mA1, mA2, rfl⟩ | ⟨hA, kA⟩ | rfl | hA
  · exact not_taken hi (SA := [2, 6]) (SB := l8) (by kernel_rfl) (mem_reg ⟨hA1, hA2⟩) (cA_mem _)
  · exact not_taken hi (SA := [16, 48, 112]) (SB := l8) (by kernel_rfl) (mem_imm _) (cA_mem _)
  · exact not_taken hi (SA := [8]) (SB := l8) (by kernel_rfl) (mem_mem hA.1 kA) (cA_mem _)
  · rcases formsW hBm with ⟨rB, hB1, hB2, rfl⟩ | ⟨mB, mB1, mB2, rfl⟩ | ⟨hB, kB⟩ | rfl | hB
    · exact not_taken hi (SA := [1]) (SB := [2, 6]) (by kernel_rfl) mem_z (mem_reg ⟨hB1, hB2⟩)
    · exact not_taken hi (SA := [1]) (SB := [16, 48, 112]) (by kernel_rfl) mem_z (mem_imm _)
    · exact not_taken hi (SA := [1]) (SB := [8]) (by kernel_rfl) mem_z (mem_mem hB.1 kB)
    · obtain rfl := List.mem_singleton.1 hw
      refine ⟨(⟨65535, 252, 39, 0, 0⟩ : Rw), 252, 0, [], ⟨(of_decide_eq_true (by kernel_rfl)), (.inl (by omega)), (by decide), (if_pos (by decide)), (show ¬ (39 : Int) = 0 ∧ ¬ (39 : Int) = -1 by decide), (if_neg (by decide)).symm, (show (false : Bool) = ((252 : Int) / 256 == 243) by decide), Eq.mpr (if_neg (by decide)) rfl, Eq.mpr (if_neg (by decide)) rfl, (fun _ => ⟨rfl, rfl⟩)⟩, ?way⟩
      case way => simp [wayR, opB, codeB, onReg, onImm, onZ]
    · exact not_taken hi (SA := [1]) (SB := [0]) (by kernel_rfl) mem_z (by rw [hB]; decide)
  · exact not_taken hi (SA := [0]) (SB := l8) (by kernel_rfl) (by rw [hA]; decide) (cA_mem _)
theorem bw_40 {c : Int} {A B : On} {rep : Bool} {l : Int} (hi : isB ⟨40, c, A, B, rep, l⟩ = true) (hAm : 0 ≤ A.m ∧ A.m ≤ 4294967295) (hBm : 0 ≤ B.m ∧ B.m ≤ 4294967295) {w : List Int} (hw : w ∈ waysL ⟨40, c, A, B, rep, l⟩) : ByWay ⟨40, c, A, B, rep, l⟩ w := by
  obtain ⟨h1, h2⟩ := isB_parts hi
  obtain rfl : rep = false := by cases rep; rfl; exact absurd (show false = true from h1) (by decide)
  obtain rfl := knows_no (show rC (rowN 40) = false from rfl) h2
  rw [wl_40] at hw
  clear h1 h2
  rcases formsW hAm with ⟨rA, hA1, hA2, rfl⟩ | ⟨mA, mA1, mA2, rfl⟩ | ⟨hA, kA⟩ | rfl | hA
  · exact not_taken hi (SA := [2, 6]) (SB := l8) (by kernel_rfl) (mem_reg ⟨hA1, hA2⟩) (cA_mem _)
  · exact not_taken hi (SA := [16, 48, 112]) (SB := l8) (by kernel_rfl) (mem_imm _) (cA_mem _)
  · exact not_taken hi (SA := [8]) (SB := l8) (by kernel_rfl) (mem_mem hA.1 kA) (cA_mem _)
  · rcases formsW hBm with ⟨rB, hB1, hB2, rfl⟩ | ⟨mB, mB1, mB2, rfl⟩ | ⟨hB, kB⟩ | rfl | hB
    · exact not_taken hi (SA := [1]) (SB := [2, 6]) (by kernel_rfl) mem_z (mem_reg ⟨hB1, hB2⟩)
    · exact not_taken hi (SA := [1]) (SB := [16, 48, 112]) (by kernel_rfl) mem_z (mem_imm _)
    · exact not_taken hi (SA := [1]) (SB := [8]) (by kernel_rfl) mem_z (mem_mem hB.1 kB)
    · obtain rfl := List.mem_singleton.1 hw
      refine ⟨(⟨65535, 253, 40, 0, 0⟩ : Rw), 253, 0, [], ⟨(of_decide_eq_true (by kernel_rfl)), (.inl (by omega)), (by decide), (if_pos (by decide)), (show ¬ (40 : Int) = 0 ∧ ¬ (40 : Int) = -1 by decide), (if_neg (by decide)).symm, (show (false : Bool) = ((253 : Int) / 256 == 243) by decide), Eq.mpr (if_neg (by decide)) rfl, Eq.mpr (if_neg (by decide)) rfl, (fun _ => ⟨rfl, rfl⟩)⟩, ?way⟩
      case way => simp [wayR, opB, codeB, onReg, onImm, onZ]
    · exact not_taken hi (SA := [1]) (SB := [0]) (by kernel_rfl) mem_z (by rw [hB]; decide)
  · exact not_taken hi (SA := [0]) (SB := l8) (by kernel_rfl) (by rw [hA]; decide) (cA_mem _)
theorem bw_41 {c : Int} {A B : On} {rep : Bool} {l : Int} (hi : isB ⟨41, c, A, B, rep, l⟩ = true) (hAm : 0 ≤ A.m ∧ A.m ≤ 4294967295) (hBm : 0 ≤ B.m ∧ B.m ≤ 4294967295) {w : List Int} (hw : w ∈ waysL ⟨41, c, A, B, rep, l⟩) : ByWay ⟨41, c, A, B, rep, l⟩ w := by
  obtain ⟨h1, h2⟩ := isB_parts hi
  obtain rfl := knows_no (show rC (rowN 41) = false from rfl) h2
  rw [wl_41] at hw
  clear h1 h2
  rcases formsW hAm with ⟨rA, hA1, hA2, rfl⟩ | ⟨mA, mA1, mA2, rfl⟩ | ⟨hA, kA⟩ | rfl | hA
  · exact not_taken hi (SA := [2, 6]) (SB := l8) (by kernel_rfl) (mem_reg ⟨hA1, hA2⟩) (cA_mem _)
  · exact not_taken hi (SA := [16, 48, 112]) (SB := l8) (by kernel_rfl) (mem_imm _) (cA_mem _)
  · exact not_taken hi (SA := [8]) (SB := l8) (by kernel_rfl) (mem_mem hA.1 kA) (cA_mem _)
  · rcases formsW hBm with ⟨rB, hB1, hB2, rfl⟩ | ⟨mB, mB1, mB2, rfl⟩ | ⟨hB, kB⟩ | rfl | hB
    · exact not_taken hi (SA := [1]) (SB := [2, 6]) (by kernel_rfl) mem_z (mem_reg ⟨hB1, hB2⟩)
    · exact not_taken hi (SA := [1]) (SB := [16, 48, 112]) (by kernel_rfl) mem_z (mem_imm _)
    · exact not_taken hi (SA := [1]) (SB := [8]) (by kernel_rfl) mem_z (mem_mem hB.1 kB)
    · cases rep
      · rw [if_neg Bool.false_ne_true] at hw
        obtain rfl := List.mem_singleton.1 hw
        refine ⟨(⟨65535, 165, 41, 0, 0⟩ : Rw), 165, 0, [], ⟨(of_decide_eq_true (by kernel_rfl)), (.inl (by omega)), (by decide), (if_pos (by decide)), (show ¬ (41 : Int) = 0 ∧ ¬ (41 : Int) = -1 by decide), (if_neg (by decide)).symm, (show (false : Bool) = ((165 : Int) / 256 == 243) by decide), Eq.mpr (if_neg (by decide)) rfl, Eq.mpr (if_neg (by decide)) rfl, (fun _ => ⟨rfl, rfl⟩)⟩, ?way⟩
        case way => simp [wayR, opB, codeB, onReg, onImm, onZ]
      · rw [if_pos rfl] at hw
        obtain rfl := List.mem_singleton.1 hw
        refine ⟨(⟨65535, 62373, 41, 0, 0⟩ : Rw), 62373, 0, [], ⟨(of_decide_eq_true (by kernel_rfl)), (.inr (by omega)), (by decide), (if_pos (by decide)), (show ¬ (41 : Int) = 0 ∧ ¬ (41 : Int) = -1 by decide), (if_neg (by decide)).symm, (show (true : Bool) = ((62373 : Int) / 256 == 243) by decide), Eq.mpr (if_neg (by decide)) rfl, Eq.mpr (if_neg (by decide)) rfl, (fun _ => ⟨rfl, rfl⟩)⟩, ?way⟩
        case way => simp [wayR, opB, codeB, onReg, onImm, onZ]
    · exact not_taken hi (SA := [1]) (SB := [0]) (by kernel_rfl) mem_z (by rw [hB]; decide)
  · exact not_taken hi (SA := [0]) (SB := l8) (by kernel_rfl) (by rw [hA]; decide) (cA_mem _)
theorem bw_42 {c : Int} {A B : On} {rep : Bool} {l : Int} (hi : isB ⟨42, c, A, B, rep, l⟩ = true) (hAm : 0 ≤ A.m ∧ A.m ≤ 4294967295) (hBm : 0 ≤ B.m ∧ B.m ≤ 4294967295) {w : List Int} (hw : w ∈ waysL ⟨42, c, A, B, rep, l⟩) : ByWay ⟨42, c, A, B, rep, l⟩ w := by
  obtain ⟨h1, h2⟩ := isB_parts hi
  obtain rfl := knows_no (show rC (rowN 42) = false from rfl) h2
  rw [wl_42] at hw
  clear h1 h2
  rcases formsW hAm with ⟨rA, hA1, hA2, rfl⟩ | ⟨mA, mA1, mA2, rfl⟩ | ⟨hA, kA⟩ | rfl | hA
  · exact not_taken hi (SA := [2, 6]) (SB := l8) (by kernel_rfl) (mem_reg ⟨hA1, hA2⟩) (cA_mem _)
  · exact not_taken hi (SA := [16, 48, 112]) (SB := l8) (by kernel_rfl) (mem_imm _) (cA_mem _)
  · exact not_taken hi (SA := [8]) (SB := l8) (by kernel_rfl) (mem_mem hA.1 kA) (cA_mem _)
  · rcases formsW hBm with ⟨rB, hB1, hB2, rfl⟩ | ⟨mB, mB1, mB2, rfl⟩ | ⟨hB, kB⟩ | rfl | hB
    · exact not_taken hi (SA := [1]) (SB := [2, 6]) (by kernel_rfl) mem_z (mem_reg ⟨hB1, hB2⟩)
    · exact not_taken hi (SA := [1]) (SB := [16, 48, 112]) (by kernel_rfl) mem_z (mem_imm _)
    · exact not_taken hi (SA := [1]) (SB := [8]) (by kernel_rfl) mem_z (mem_mem hB.1 kB)
    · cases rep
      · rw [if_neg Bool.false_ne_true] at hw
        obtain rfl := List.mem_singleton.1 hw
        refine ⟨(⟨65535, 171, 42, 0, 0⟩ : Rw), 171, 0, [], ⟨(of_decide_eq_true (by kernel_rfl)), (.inl (by omega)), (by decide), (if_pos (by decide)), (show ¬ (42 : Int) = 0 ∧ ¬ (42 : Int) = -1 by decide), (if_neg (by decide)).symm, (show (false : Bool) = ((171 : Int) / 256 == 243) by decide), Eq.mpr (if_neg (by decide)) rfl, Eq.mpr (if_neg (by decide)) rfl, (fun _ => ⟨rfl, rfl⟩)⟩, ?way⟩
        case way => simp [wayR, opB, codeB, onReg, onImm, onZ]
      · rw [if_pos rfl] at hw
        obtain rfl := List.mem_singleton.1 hw
        refine ⟨(⟨65535, 62379, 42, 0, 0⟩ : Rw), 62379, 0, [], ⟨(of_decide_eq_true (by kernel_rfl)), (.inr (by omega)), (by decide), (if_pos (by decide)), (show ¬ (42 : Int) = 0 ∧ ¬ (42 : Int) = -1 by decide), (if_neg (by decide)).symm, (show (true : Bool) = ((62379 : Int) / 256 == 243) by decide), Eq.mpr (if_neg (by decide)) rfl, Eq.mpr (if_neg (by decide)) rfl, (fun _ => ⟨rfl, rfl⟩)⟩, ?way⟩
        case way => simp [wayR, opB, codeB, onReg, onImm, onZ]
    · exact not_taken hi (SA := [1]) (SB := [0]) (by kernel_rfl) mem_z (by rw [hB]; decide)
  · exact not_taken hi (SA := [0]) (SB := l8) (by kernel_rfl) (by rw [hA]; decide) (cA_mem _)
theorem bw_43 {c : Int} {A B : On} {rep : Bool} {l : Int} (hi : isB ⟨43, c, A, B, rep, l⟩ = true) (hAm : 0 ≤ A.m ∧ A.m ≤ 4294967295) (hBm : 0 ≤ B.m ∧ B.m ≤ 4294967295) {w : List Int} (hw : w ∈ waysL ⟨43, c, A, B, rep, l⟩) : ByWay ⟨43, c, A, B, rep, l⟩ w := by
  obtain ⟨h1, h2⟩ := isB_parts hi
  obtain rfl : rep = false := by cases rep; rfl; exact absurd (show false = true from h1) (by decide)
  obtain rfl := knows_no (show rC (rowN 43) = false from rfl) h2
  rw [wl_43] at hw
  clear h1 h2
  rcases formsW hAm with ⟨rA, hA1, hA2, rfl⟩ | ⟨mA, mA1, mA2, rfl⟩ | ⟨hA, kA⟩ | rfl | hA
  · exact not_taken hi (SA := [2, 6]) (SB := l8) (by kernel_rfl) (mem_reg ⟨hA1, hA2⟩) (cA_mem _)
  · rcases formsW hBm with ⟨rB, hB1, hB2, rfl⟩ | ⟨mB, mB1, mB2, rfl⟩ | ⟨hB, kB⟩ | rfl | hB
    · exact not_taken hi (SA := [16, 48, 112]) (SB := [2, 6]) (by kernel_rfl) (mem_imm _) (mem_reg ⟨hB1, hB2⟩)
    · exact not_taken hi (SA := [16, 48, 112]) (SB := [16, 48, 112]) (by kernel_rfl) (mem_imm _) (mem_imm _)
    · exact not_taken hi (SA := [16, 48, 112]) (SB := [8]) (by kernel_rfl) (mem_imm _) (mem_mem hB.1 kB)
    · by_cases hb1 : ¬ mA = 128
      · exact not_taken hi (SA := [48, 16]) (SB := [1]) (by kernel_rfl) (by rw [cA_imm, if_neg hb1]; split <;> decide) mem_z
      obtain rfl : mA = 128 := by omega
      obtain rfl := List.mem_singleton.1 hw
      refine ⟨(⟨65535, 205, 43, 7, 0⟩ : Rw), 205, 0, [], ⟨(of_decide_eq_true (by kernel_rfl)), (.inl (by omega)), (by decide), (if_pos (by decide)), (show ¬ (43 : Int) = 0 ∧ ¬ (43 : Int) = -1 by decide), (if_neg (by decide)).symm, (show (false : Bool) = ((205 : Int) / 256 == 243) by decide), Eq.mpr (if_neg (by decide)) ⟨rfl, (show (0 : Int) ≤ 128 by decide), (show (128 : Int) ≤ 255 by decide)⟩, Eq.mpr (if_neg (by decide)) rfl, (fun _ => ⟨rfl, rfl⟩)⟩, ?way⟩
      case way => simp [wayR, opB, codeB, onReg, onImm, onZ]
    · exact not_taken hi (SA := [16, 48, 112]) (SB := [0]) (by kernel_rfl) (mem_imm _) (by rw [hB]; decide)
  · exact not_taken hi (SA := [8]) (SB := l8) (by kernel_rfl) (mem_mem hA.1 kA) (cA_mem _)
  · exact not_taken hi (SA := [1]) (SB := l8) (by kernel_rfl) mem_z (cA_mem _)
  · exact not_taken hi (SA := [0]) (SB := l8) (by kernel_rfl) (by rw [hA]; decide) (cA_mem _)
theorem bw_44 {c : Int} {A B : On} {rep : Bool} {l : Int} (hi : isB ⟨44, c, A, B, rep, l⟩ = true) (hAm : 0 ≤ A.m ∧ A.m ≤ 4294967295) (hBm : 0 ≤ B.m ∧ B.m ≤ 4294967295) {w : List Int} (hw : w ∈ waysL ⟨44, c, A, B, rep, l⟩) : ByWay ⟨44, c, A, B, rep, l⟩ w := by
  obtain ⟨h1, h2⟩ := isB_parts hi
  obtain rfl : rep = false := by cases rep; rfl; exact absurd (show false = true from h1) (by decide)
  obtain rfl := knows_no (show rC (rowN 44) = false from rfl) h2
  rw [wl_44] at hw
  clear h1 h2
  rcases formsW hAm with ⟨rA, hA1, hA2, rfl⟩ | ⟨mA, mA1, mA2, rfl⟩ | ⟨hA, kA⟩ | rfl | hA
  · exact not_taken hi (SA := [2, 6]) (SB := l8) (by kernel_rfl) (mem_reg ⟨hA1, hA2⟩) (cA_mem _)
  · exact not_taken hi (SA := [16, 48, 112]) (SB := l8) (by kernel_rfl) (mem_imm _) (cA_mem _)
  · exact not_taken hi (SA := [8]) (SB := l8) (by kernel_rfl) (mem_mem hA.1 kA) (cA_mem _)
  · rcases formsW hBm with ⟨rB, hB1, hB2, rfl⟩ | ⟨mB, mB1, mB2, rfl⟩ | ⟨hB, kB⟩ | rfl | hB
    · exact not_taken hi (SA := [1]) (SB := [2, 6]) (by kernel_rfl) mem_z (mem_reg ⟨hB1, hB2⟩)
    · exact not_taken hi (SA := [1]) (SB := [16, 48, 112]) (by kernel_rfl) mem_z (mem_imm _)
    · exact not_taken hi (SA := [1]) (SB := [8]) (by kernel_rfl) mem_z (mem_mem hB.1 kB)
    · obtain rfl := List.mem_singleton.1 hw
      refine ⟨(⟨65535, 144, 44, 0, 0⟩ : Rw), 144, 0, [], ⟨(of_decide_eq_true (by kernel_rfl)), (.inl (by omega)), (by decide), (if_pos (by decide)), (show ¬ (44 : Int) = 0 ∧ ¬ (44 : Int) = -1 by decide), (if_neg (by decide)).symm, (show (false : Bool) = ((144 : Int) / 256 == 243) by decide), Eq.mpr (if_neg (by decide)) rfl, Eq.mpr (if_neg (by decide)) rfl, (fun _ => ⟨rfl, rfl⟩)⟩, ?way⟩
      case way => simp [wayR, opB, codeB, onReg, onImm, onZ]
    · exact not_taken hi (SA := [1]) (SB := [0]) (by kernel_rfl) mem_z (by rw [hB]; decide)
  · exact not_taken hi (SA := [0]) (SB := l8) (by kernel_rfl) (by rw [hA]; decide) (cA_mem _)
theorem bw_45 {c : Int} {A B : On} {rep : Bool} {l : Int} (hi : isB ⟨45, c, A, B, rep, l⟩ = true) (hAm : 0 ≤ A.m ∧ A.m ≤ 4294967295) (hBm : 0 ≤ B.m ∧ B.m ≤ 4294967295) {w : List Int} (hw : w ∈ waysL ⟨45, c, A, B, rep, l⟩) : ByWay ⟨45, c, A, B, rep, l⟩ w := by
  obtain ⟨h1, h2⟩ := isB_parts hi
  obtain rfl : rep = false := by cases rep; rfl; exact absurd (show false = true from h1) (by decide)
  obtain rfl := knows_no (show rC (rowN 45) = false from rfl) h2
  rw [wl_45] at hw
  clear h1 h2
  rcases formsW hAm with ⟨rA, hA1, hA2, rfl⟩ | ⟨mA, mA1, mA2, rfl⟩ | ⟨hA, kA⟩ | rfl | hA
  · exact not_taken hi (SA := [2, 6]) (SB := l8) (by kernel_rfl) (mem_reg ⟨hA1, hA2⟩) (cA_mem _)
  · exact not_taken hi (SA := [16, 48, 112]) (SB := l8) (by kernel_rfl) (mem_imm _) (cA_mem _)
  · rcases formsW hBm with ⟨rB, hB1, hB2, rfl⟩ | ⟨mB, mB1, mB2, rfl⟩ | ⟨hB, kB⟩ | rfl | hB
    · exact not_taken hi (SA := [8]) (SB := [2, 6]) (by kernel_rfl) (mem_mem hA.1 kA) (mem_reg ⟨hB1, hB2⟩)
    · exact not_taken hi (SA := [8]) (SB := [16, 48, 112]) (by kernel_rfl) (mem_mem hA.1 kA) (mem_imm _)
    · exact not_taken hi (SA := [8]) (SB := [8]) (by kernel_rfl) (mem_mem hA.1 kA) (mem_mem hB.1 kB)
    · obtain ⟨t, ht, rfl⟩ := List.mem_map.1 hw
      refine ⟨(⟨65535, 221, 63, 6, 0⟩ : Rw), 221, 0, t, ⟨(of_decide_eq_true (by kernel_rfl)), (.inl (by omega)), (by decide), (by kernel_rfl), (show ¬ (45 : Int) = 0 ∧ ¬ (45 : Int) = -1 by decide), (if_neg (by decide)).symm, (show (false : Bool) = ((221 : Int) / 256 == 243) by decide), Eq.mpr (if_pos rfl) ⟨hA, ht⟩, Eq.mpr (if_neg (by decide)) rfl, (fun h => absurd h (by decide))⟩, ?way⟩
      case way => simp [wayR, opB, codeB, onReg, onImm, onZ]
    · exact not_taken hi (SA := [8]) (SB := [0]) (by kernel_rfl) (mem_mem hA.1 kA) (by rw [hB]; decide)
  · exact not_taken hi (SA := [1]) (SB := l8) (by kernel_rfl) mem_z (cA_mem _)
  · exact not_taken hi (SA := [0]) (SB := l8) (by kernel_rfl) (by rw [hA]; decide) (cA_mem _)
theorem bw_46 {c : Int} {A B : On} {rep : Bool} {l : Int} (hi : isB ⟨46, c, A, B, rep, l⟩ = true) (hAm : 0 ≤ A.m ∧ A.m ≤ 4294967295) (hBm : 0 ≤ B.m ∧ B.m ≤ 4294967295) {w : List Int} (hw : w ∈ waysL ⟨46, c, A, B, rep, l⟩) : ByWay ⟨46, c, A, B, rep, l⟩ w := by
  obtain ⟨h1, h2⟩ := isB_parts hi
  obtain rfl : rep = false := by cases rep; rfl; exact absurd (show false = true from h1) (by decide)
  obtain rfl := knows_no (show rC (rowN 46) = false from rfl) h2
  rw [wl_46] at hw
  clear h1 h2
  rcases formsW hAm with ⟨rA, hA1, hA2, rfl⟩ | ⟨mA, mA1, mA2, rfl⟩ | ⟨hA, kA⟩ | rfl | hA
  · exact not_taken hi (SA := [2, 6]) (SB := l8) (by kernel_rfl) (mem_reg ⟨hA1, hA2⟩) (cA_mem _)
  · exact not_taken hi (SA := [16, 48, 112]) (SB := l8) (by kernel_rfl) (mem_imm _) (cA_mem _)
  · rcases formsW hBm with ⟨rB, hB1, hB2, rfl⟩ | ⟨mB, mB1, mB2, rfl⟩ | ⟨hB, kB⟩ | rfl | hB
    · exact not_taken hi (SA := [8]) (SB := [2, 6]) (by kernel_rfl) (mem_mem hA.1 kA) (mem_reg ⟨hB1, hB2⟩)
    · exact not_taken hi (SA := [8]) (SB := [16, 48, 112]) (by kernel_rfl) (mem_mem hA.1 kA) (mem_imm _)
    · exact not_taken hi (SA := [8]) (SB := [8]) (by kernel_rfl) (mem_mem hA.1 kA) (mem_mem hB.1 kB)
    · obtain ⟨t, ht, rfl⟩ := List.mem_map.1 hw
      refine ⟨(⟨65535, 221, 63, 6, 0⟩ : Rw), 221, 3, t, ⟨(of_decide_eq_true (by kernel_rfl)), (.inl (by omega)), (by decide), (by kernel_rfl), (show ¬ (46 : Int) = 0 ∧ ¬ (46 : Int) = -1 by decide), (if_neg (by decide)).symm, (show (false : Bool) = ((221 : Int) / 256 == 243) by decide), Eq.mpr (if_pos rfl) ⟨hA, ht⟩, Eq.mpr (if_neg (by decide)) rfl, (fun h => absurd h (by decide))⟩, ?way⟩
      case way => simp [wayR, opB, codeB, onReg, onImm, onZ]
    · exact not_taken hi (SA := [8]) (SB := [0]) (by kernel_rfl) (mem_mem hA.1 kA) (by rw [hB]; decide)
  · exact not_taken hi (SA := [1]) (SB := l8) (by kernel_rfl) mem_z (cA_mem _)
  · exact not_taken hi (SA := [0]) (SB := l8) (by kernel_rfl) (by rw [hA]; decide) (cA_mem _)
theorem bw_47 {c : Int} {A B : On} {rep : Bool} {l : Int} (hi : isB ⟨47, c, A, B, rep, l⟩ = true) (hAm : 0 ≤ A.m ∧ A.m ≤ 4294967295) (hBm : 0 ≤ B.m ∧ B.m ≤ 4294967295) {w : List Int} (hw : w ∈ waysL ⟨47, c, A, B, rep, l⟩) : ByWay ⟨47, c, A, B, rep, l⟩ w := by
  obtain ⟨h1, h2⟩ := isB_parts hi
  obtain rfl : rep = false := by cases rep; rfl; exact absurd (show false = true from h1) (by decide)
  obtain rfl := knows_no (show rC (rowN 47) = false from rfl) h2
  rw [wl_47] at hw
  clear h1 h2
  rcases formsW hAm with ⟨rA, hA1, hA2, rfl⟩ | ⟨mA, mA1, mA2, rfl⟩ | ⟨hA, kA⟩ | rfl | hA
  · exact not_taken hi (SA := [2, 6]) (SB := l8) (by kernel_rfl) (mem_reg ⟨hA1, hA2⟩) (cA_mem _)
  · exact not_taken hi (SA := [16, 48, 112]) (SB := l8) (by kernel_rfl) (mem_imm _) (cA_mem _)
  · rcases formsW hBm with ⟨rB, hB1, hB2, rfl⟩ | ⟨mB, mB1, mB2, rfl⟩ | ⟨hB, kB⟩ | rfl | hB
    · exact not_taken hi (SA := [8]) (SB := [2, 6]) (by kernel_rfl) (mem_mem hA.1 kA) (mem_reg ⟨hB1, hB2⟩)
    · exact not_taken hi (SA := [8]) (SB := [16, 48, 112]) (by kernel_rfl) (mem_mem hA.1 kA) (mem_imm _)
    · exact not_taken hi (SA := [8]) (SB := [8]) (by kernel_rfl) (mem_mem hA.1 kA) (mem_mem hB.1 kB)
    · obtain ⟨t, ht, rfl⟩ := List.mem_map.1 hw
      refine ⟨(⟨65535, 220, 62, 6, 0⟩ : Rw), 220, 0, t, ⟨(of_decide_eq_true (by kernel_rfl)), (.inl (by omega)), (by decide), (by kernel_rfl), (show ¬ (47 : Int) = 0 ∧ ¬ (47 : Int) = -1 by decide), (if_neg (by decide)).symm, (show (false : Bool) = ((220 : Int) / 256 == 243) by decide), Eq.mpr (if_pos rfl) ⟨hA, ht⟩, Eq.mpr (if_neg (by decide)) rfl, (fun h => absurd h (by decide))⟩, ?way⟩
      case way => simp [wayR, opB, codeB, onReg, onImm, onZ]
    · exact not_taken hi (SA := [8]) (SB := [0]) (by kernel_rfl) (mem_mem hA.1 kA) (by rw [hB]; decide)
  · exact not_taken hi (SA := [1]) (SB := l8) (by kernel_rfl) mem_z (cA_mem _)
  · exact not_taken hi (SA := [0]) (SB := l8) (by kernel_rfl) (by rw [hA]; decide) (cA_mem _)
theorem bw_48 {c : Int} {A B : On} {rep : Bool} {l : Int} (hi : isB ⟨48, c, A, B, rep, l⟩ = true) (hAm : 0 ≤ A.m ∧ A.m ≤ 4294967295) (hBm : 0 ≤ B.m ∧ B.m ≤ 4294967295) {w : List Int} (hw : w ∈ waysL ⟨48, c, A, B, rep, l⟩) : ByWay ⟨48, c, A, B, rep, l⟩ w := by
  obtain ⟨h1, h2⟩ := isB_parts hi
  obtain rfl : rep = false := by cases rep; rfl; exact absurd (show false = true from h1) (by decide)
  obtain rfl := knows_no (show rC (rowN 48) = false from rfl) h2
  rw [wl_48] at hw
  clear h1 h2
  rcases formsW hAm with ⟨rA, hA1, hA2, rfl⟩ | ⟨mA, mA1, mA2, rfl⟩ | ⟨hA, kA⟩ | rfl | hA
  · exact not_taken hi (SA := [2, 6]) (SB := l8) (by kernel_rfl) (mem_reg ⟨hA1, hA2⟩) (cA_mem _)
  · exact not_taken hi (SA := [16, 48, 112]) (SB := l8) (by kernel_rfl) (mem_imm _) (cA_mem _)
  · rcases formsW hBm with ⟨rB, hB1, hB2, rfl⟩ | ⟨mB, mB1, mB2, rfl⟩ | ⟨hB, kB⟩ | rfl | hB
    · exact not_taken hi (SA := [8]) (SB := [2, 6]) (by kernel_rfl) (mem_mem hA.1 kA) (mem_reg ⟨hB1, hB2⟩)
    · exact not_taken hi (SA := [8]) (SB := [16, 48, 112]) (by kernel_rfl) (mem_mem hA.1 kA) (mem_imm _)
    · exact not_taken hi (SA := [8]) (SB := [8]) (by kernel_rfl) (mem_mem hA.1 kA) (mem_mem hB.1 kB)
    · obtain ⟨t, ht, rfl⟩ := List.mem_map.1 hw
      refine ⟨(⟨65535, 220, 62, 6, 0⟩ : Rw), 220, 1, t, ⟨(of_decide_eq_true (by kernel_rfl)), (.inl (by omega)), (by decide), (by kernel_rfl), (show ¬ (48 : Int) = 0 ∧ ¬ (48 : Int) = -1 by decide), (if_neg (by decide)).symm, (show (false : Bool) = ((220 : Int) / 256 == 243) by decide), Eq.mpr (if_pos rfl) ⟨hA, ht⟩, Eq.mpr (if_neg (by decide)) rfl, (fun h => absurd h (by decide))⟩, ?way⟩
      case way => simp [wayR, opB, codeB, onReg, onImm, onZ]
    · exact not_taken hi (SA := [8]) (SB := [0]) (by kernel_rfl) (mem_mem hA.1 kA) (by rw [hB]; decide)
  · exact not_taken hi (SA := [1]) (SB := l8) (by kernel_rfl) mem_z (cA_mem _)
  · exact not_taken hi (SA := [0]) (SB := l8) (by kernel_rfl) (by rw [hA]; decide) (cA_mem _)
theorem bw_49 {c : Int} {A B : On} {rep : Bool} {l : Int} (hi : isB ⟨49, c, A, B, rep, l⟩ = true) (hAm : 0 ≤ A.m ∧ A.m ≤ 4294967295) (hBm : 0 ≤ B.m ∧ B.m ≤ 4294967295) {w : List Int} (hw : w ∈ waysL ⟨49, c, A, B, rep, l⟩) : ByWay ⟨49, c, A, B, rep, l⟩ w := by
  obtain ⟨h1, h2⟩ := isB_parts hi
  obtain rfl : rep = false := by cases rep; rfl; exact absurd (show false = true from h1) (by decide)
  obtain rfl := knows_no (show rC (rowN 49) = false from rfl) h2
  rw [wl_49] at hw
  clear h1 h2
  rcases formsW hAm with ⟨rA, hA1, hA2, rfl⟩ | ⟨mA, mA1, mA2, rfl⟩ | ⟨hA, kA⟩ | rfl | hA
  · exact not_taken hi (SA := [2, 6]) (SB := l8) (by kernel_rfl) (mem_reg ⟨hA1, hA2⟩) (cA_mem _)
  · exact not_taken hi (SA := [16, 48, 112]) (SB := l8) (by kernel_rfl) (mem_imm _) (cA_mem _)
  · rcases formsW hBm with ⟨rB, hB1, hB2, rfl⟩ | ⟨mB, mB1, mB2, rfl⟩ | ⟨hB, kB⟩ | rfl | hB
    · exact not_taken hi (SA := [8]) (SB := [2, 6]) (by kernel_rfl) (mem_mem hA.1 kA) (mem_reg ⟨hB1, hB2⟩)
    · exact not_taken hi (SA := [8]) (SB := [16, 48, 112]) (by kernel_rfl) (mem_mem hA.1 kA) (mem_imm _)
    · exact not_taken hi (SA := [8]) (SB := [8]) (by kernel_rfl) (mem_mem hA.1 kA) (mem_mem hB.1 kB)
    · obtain ⟨t, ht, rfl⟩ := List.mem_map.1 hw
      refine ⟨(⟨65535, 220, 62, 6, 0⟩ : Rw), 220, 4, t, ⟨(of_decide_eq_true (by kernel_rfl)), (.inl (by omega)), (by decide), (by kernel_rfl), (show ¬ (49 : Int) = 0 ∧ ¬ (49 : Int) = -1 by decide), (if_neg (by decide)).symm, (show (false : Bool) = ((220 : Int) / 256 == 243) by decide), Eq.mpr (if_pos rfl) ⟨hA, ht⟩, Eq.mpr (if_neg (by decide)) rfl, (fun h => absurd h (by decide))⟩, ?way⟩
      case way => simp [wayR, opB, codeB, onReg, onImm, onZ]
    · exact not_taken hi (SA := [8]) (SB := [0]) (by kernel_rfl) (mem_mem hA.1 kA) (by rw [hB]; decide)
  · exact not_taken hi (SA := [1]) (SB := l8) (by kernel_rfl) mem_z (cA_mem _)
  · exact not_taken hi (SA := [0]) (SB := l8) (by kernel_rfl) (by rw [hA]; decide) (cA_mem _)
theorem bw_50 {c : Int} {A B : On} {rep : Bool} {l : Int} (hi : isB ⟨50, c, A, B, rep, l⟩ = true) (hAm : 0 ≤ A.m ∧ A.m ≤ 4294967295) (hBm : 0 ≤ B.m ∧ B.m ≤ 4294967295) {w : List Int} (hw : w ∈ waysL ⟨50, c, A, B, rep, l⟩) : ByWay ⟨50, c, A, B, rep, l⟩ w := by
  obtain ⟨h1, h2⟩ := isB_parts hi
  obtain rfl : rep = false := by cases rep; rfl; exact absurd (show false = true from h1) (by decide)
  obtain rfl := knows_no (show rC (rowN 50) = false from rfl) h2
  rw [wl_50] at hw
  clear h1 h2
  rcases formsW hAm with ⟨rA, hA1, hA2, rfl⟩ | ⟨mA, mA1, mA2, rfl⟩ | ⟨hA, kA⟩ | rfl | hA
  · exact not_taken hi (SA := [2, 6]) (SB := l8) (by kernel_rfl) (mem_reg ⟨hA1, hA2⟩) (cA_mem _)
  · exact not_taken hi (SA := [16, 48, 112]) (SB := l8) (by kernel_rfl) (mem_imm _) (cA_mem _)
  · rcases formsW hBm with ⟨rB, hB1, hB2, rfl⟩ | ⟨mB, mB1, mB2, rfl⟩ | ⟨hB, kB⟩ | rfl | hB
    · exact not_taken hi (SA := [8]) (SB := [2, 6]) (by kernel_rfl) (mem_mem hA.1 kA) (mem_reg ⟨hB1, hB2⟩)
    · exact not_taken hi (SA := [8]) (SB := [16, 48, 112]) (by kernel_rfl) (mem_mem hA.1 kA) (mem_imm _)
    · exact not_taken hi (SA := [8]) (SB := [8]) (by kernel_rfl) (mem_mem hA.1 kA) (mem_mem hB.1 kB)
    · obtain ⟨t, ht, rfl⟩ := List.mem_map.1 hw
      refine ⟨(⟨65535, 220, 62, 6, 0⟩ : Rw), 220, 6, t, ⟨(of_decide_eq_true (by kernel_rfl)), (.inl (by omega)), (by decide), (by kernel_rfl), (show ¬ (50 : Int) = 0 ∧ ¬ (50 : Int) = -1 by decide), (if_neg (by decide)).symm, (show (false : Bool) = ((220 : Int) / 256 == 243) by decide), Eq.mpr (if_pos rfl) ⟨hA, ht⟩, Eq.mpr (if_neg (by decide)) rfl, (fun h => absurd h (by decide))⟩, ?way⟩
      case way => simp [wayR, opB, codeB, onReg, onImm, onZ]
    · exact not_taken hi (SA := [8]) (SB := [0]) (by kernel_rfl) (mem_mem hA.1 kA) (by rw [hB]; decide)
  · exact not_taken hi (SA := [1]) (SB := l8) (by kernel_rfl) mem_z (cA_mem _)
  · exact not_taken hi (SA := [0]) (SB := l8) (by kernel_rfl) (by rw [hA]; decide) (cA_mem _)
theorem bw_51 {c : Int} {A B : On} {rep : Bool} {l : Int} (hi : isB ⟨51, c, A, B, rep, l⟩ = true) (hAm : 0 ≤ A.m ∧ A.m ≤ 4294967295) (hBm : 0 ≤ B.m ∧ B.m ≤ 4294967295) {w : List Int} (hw : w ∈ waysL ⟨51, c, A, B, rep, l⟩) : ByWay ⟨51, c, A, B, rep, l⟩ w := by
  obtain ⟨h1, h2⟩ := isB_parts hi
  obtain rfl : rep = false := by cases rep; rfl; exact absurd (show false = true from h1) (by decide)
  obtain rfl := knows_no (show rC (rowN 51) = false from rfl) h2
  rw [wl_51] at hw
  clear h1 h2
  rcases formsW hAm with ⟨rA, hA1, hA2, rfl⟩ | ⟨mA, mA1, mA2, rfl⟩ | ⟨hA, kA⟩ | rfl | hA
  · exact not_taken hi (SA := [2, 6]) (SB := l8) (by kernel_rfl) (mem_reg ⟨hA1, hA2⟩) (cA_mem _)
  · exact not_taken hi (SA := [16, 48, 112]) (SB := l8) (by kernel_rfl) (mem_imm _) (cA_mem _)
  · exact not_taken hi (SA := [8]) (SB := l8) (by kernel_rfl) (mem_mem hA.1 kA) (cA_mem _)
  · rcases formsW hBm with ⟨rB, hB1, hB2, rfl⟩ | ⟨mB, mB1, mB2, rfl⟩ | ⟨hB, kB⟩ | rfl | hB
    · exact not_taken hi (SA := [1]) (SB := [2, 6]) (by kernel_rfl) mem_z (mem_reg ⟨hB1, hB2⟩)
    · exact not_taken hi (SA := [1]) (SB := [16, 48, 112]) (by kernel_rfl) mem_z (mem_imm _)
    · exact not_taken hi (SA := [1]) (SB := [8]) (by kernel_rfl) mem_z (mem_mem hB.1 kB)
    · obtain rfl := List.mem_singleton.1 hw
      refine ⟨(⟨65535, 55776, 51, 0, 0⟩ : Rw), 55776, 0, [], ⟨(of_decide_eq_true (by kernel_rfl)), (.inr (by omega)), (by decide), (if_pos (by decide)), (show ¬ (51 : Int) = 0 ∧ ¬ (51 : Int) = -1 by decide), (if_neg (by decide)).symm, (show (false : Bool) = ((55776 : Int) / 256 == 243) by decide), Eq.mpr (if_neg (by decide)) rfl, Eq.mpr (if_neg (by decide)) rfl, (fun _ => ⟨rfl, rfl⟩)⟩, ?way⟩
      case way => simp [wayR, opB, codeB, onReg, onImm, onZ]
    · exact not_taken hi (SA := [1]) (SB := [0]) (by kernel_rfl) mem_z (by rw [hB]; decide)
  · exact not_taken hi (SA := [0]) (SB := l8) (by kernel_rfl) (by rw [hA]; decide) (cA_mem _)
theorem bw_52 {c : Int} {A B : On} {rep : Bool} {l : Int} (hi : isB ⟨52, c, A, B, rep, l⟩ = true) (hAm : 0 ≤ A.m ∧ A.m ≤ 4294967295) (hBm : 0 ≤ B.m ∧ B.m ≤ 4294967295) {w : List Int} (hw : w ∈ waysL ⟨52, c, A, B, rep, l⟩) : ByWay ⟨52, c, A, B, rep, l⟩ w := by
  obtain ⟨h1, h2⟩ := isB_parts hi
  obtain rfl : rep = false := by cases rep; rfl; exact absurd (show false = true from h1) (by decide)
  obtain rfl := knows_no (show rC (rowN 52) = false from rfl) h2
  rw [wl_52] at hw
  clear h1 h2
  rcases formsW hAm with ⟨rA, hA1, hA2, rfl⟩ | ⟨mA, mA1, mA2, rfl⟩ | ⟨hA, kA⟩ | rfl | hA
  · exact not_taken hi (SA := [2, 6]) (SB := l8) (by kernel_rfl) (mem_reg ⟨hA1, hA2⟩) (cA_mem _)
  · exact not_taken hi (SA := [16, 48, 112]) (SB := l8) (by kernel_rfl) (mem_imm _) (cA_mem _)
  · exact not_taken hi (SA := [8]) (SB := l8) (by kernel_rfl) (mem_mem hA.1 kA) (cA_mem _)
  · rcases formsW hBm with ⟨rB, hB1, hB2, rfl⟩ | ⟨mB, mB1, mB2, rfl⟩ | ⟨hB, kB⟩ | rfl | hB
    · exact not_taken hi (SA := [1]) (SB := [2, 6]) (by kernel_rfl) mem_z (mem_reg ⟨hB1, hB2⟩)
    · exact not_taken hi (SA := [1]) (SB := [16, 48, 112]) (by kernel_rfl) mem_z (mem_imm _)
    · exact not_taken hi (SA := [1]) (SB := [8]) (by kernel_rfl) mem_z (mem_mem hB.1 kB)
    · obtain rfl := List.mem_singleton.1 hw
      refine ⟨(⟨65535, 55777, 52, 0, 0⟩ : Rw), 55777, 0, [], ⟨(of_decide_eq_true (by kernel_rfl)), (.inr (by omega)), (by decide), (if_pos (by decide)), (show ¬ (52 : Int) = 0 ∧ ¬ (52 : Int) = -1 by decide), (if_neg (by decide)).symm, (show (false : Bool) = ((55777 : Int) / 256 == 243) by decide), Eq.mpr (if_neg (by decide)) rfl, Eq.mpr (if_neg (by decide)) rfl, (fun _ => ⟨rfl, rfl⟩)⟩, ?way⟩
      case way => simp [wayR, opB, codeB, onReg, onImm, onZ]
    · exact not_taken hi (SA := [1]) (SB := [0]) (by kernel_rfl) mem_z (by rw [hB]; decide)
  · exact not_taken hi (SA := [0]) (SB := l8) (by kernel_rfl) (by rw [hA]; decide) (cA_mem _)
theorem bw_53 {c : Int} {A B : On} {rep : Bool} {l : Int} (hi : isB ⟨53, c, A, B, rep, l⟩ = true) (hAm : 0 ≤ A.m ∧ A.m ≤ 4294967295) (hBm : 0 ≤ B.m ∧ B.m ≤ 4294967295) {w : List Int} (hw : w ∈ waysL ⟨53, c, A, B, rep, l⟩) : ByWay ⟨53, c, A, B, rep, l⟩ w := by
  obtain ⟨h1, h2⟩ := isB_parts hi
  obtain rfl : rep = false := by cases rep; rfl; exact absurd (show false = true from h1) (by decide)
  obtain rfl := knows_no (show rC (rowN 53) = false from rfl) h2
  rw [wl_53] at hw
  clear h1 h2
  rcases formsW hAm with ⟨rA, hA1, hA2, rfl⟩ | ⟨mA, mA1, mA2, rfl⟩ | ⟨hA, kA⟩ | rfl | hA
  · exact not_taken hi (SA := [2, 6]) (SB := l8) (by kernel_rfl) (mem_reg ⟨hA1, hA2⟩) (cA_mem _)
  · exact not_taken hi (SA := [16, 48, 112]) (SB := l8) (by kernel_rfl) (mem_imm _) (cA_mem _)
  · rcases formsW hBm with ⟨rB, hB1, hB2, rfl⟩ | ⟨mB, mB1, mB2, rfl⟩ | ⟨hB, kB⟩ | rfl | hB
    · exact not_taken hi (SA := [8]) (SB := [2, 6]) (by kernel_rfl) (mem_mem hA.1 kA) (mem_reg ⟨hB1, hB2⟩)
    · exact not_taken hi (SA := [8]) (SB := [16, 48, 112]) (by kernel_rfl) (mem_mem hA.1 kA) (mem_imm _)
    · exact not_taken hi (SA := [8]) (SB := [8]) (by kernel_rfl) (mem_mem hA.1 kA) (mem_mem hB.1 kB)
    · obtain ⟨t, ht, rfl⟩ := List.mem_map.1 hw
      refine ⟨(⟨65535, 220, 62, 6, 0⟩ : Rw), 220, 2, t, ⟨(of_decide_eq_true (by kernel_rfl)), (.inl (by omega)), (by decide), (by kernel_rfl), (show ¬ (53 : Int) = 0 ∧ ¬ (53 : Int) = -1 by decide), (if_neg (by decide)).symm, (show (false : Bool) = ((220 : Int) / 256 == 243) by decide), Eq.mpr (if_pos rfl) ⟨hA, ht⟩, Eq.mpr (if_neg (by decide)) rfl, (fun h => absurd h (by decide))⟩, ?way⟩
      case way => simp [wayR, opB, codeB, onReg, onImm, onZ]
    · exact not_taken hi (SA := [8]) (SB := [0]) (by kernel_rfl) (mem_mem hA.1 kA) (by rw [hB]; decide)
  · exact not_taken hi (SA := [1]) (SB := l8) (by kernel_rfl) mem_z (cA_mem _)
  · exact not_taken hi (SA := [0]) (SB := l8) (by kernel_rfl) (by rw [hA]; decide) (cA_mem _)
end Go.Proofs.YtbfkgakkkibejaaDoor
