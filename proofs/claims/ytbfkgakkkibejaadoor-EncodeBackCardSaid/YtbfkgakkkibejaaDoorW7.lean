/- The least way to write an instruction (no program). -/
import Derived.Test.YtbfkgakkkibejaaDoorW6
namespace Go.Proofs.YtbfkgakkkibejaaDoor
open Go.RowKit
set_option linter.unusedVariables false
set_option linter.unusedSimpArgs false
set_option linter.unusedSectionVars false

/-- Byte by byte earlier. -/
def lexLt : List Int → List Int → Bool
  | _, [] => false
  | [], _ :: _ => true
  | x :: xs, y :: ys => decide (x < y) || (x == y && lexLt xs ys)
def ltW (u v : List Int) : Bool := decide (u.length < v.length) || (u.length == v.length && lexLt u v)
def betterW (best : Option (List Int)) (w : List Int) : Option (List Int) := match best with | none => some w | some b => if ltW w b then some w else some b
/-- The shortest, of several as short the first. -/
def bestW (l : List (List Int)) : Option (List Int) := l.foldl betterW none
theorem lex_total : ∀ u v : List Int, u.length = v.length → lexLt u v = !lexLe v u
  | [], [], _ => rfl
  | [], _ :: _, h => by simp at h
  | _ :: _, [], h => by simp at h
  | x :: xs, y :: ys, h => by
    have ih := lex_total xs ys (by simpa using h)
    unfold lexLt lexLe
    rw [ih]
    by_cases h1 : x < y
    · rw [decide_eq_true h1, decide_eq_false (show ¬ y < x by omega), show (y == x) = false by simp; omega]; simp
    · by_cases h2 : y < x
      · rw [decide_eq_false h1, decide_eq_true h2, show (x == y) = false by simp; omega]; simp
      · have : x = y := by omega
        subst this
        simp
theorem lexLe_trans : ∀ u v w : List Int, lexLe u v = true → lexLe v w = true → lexLe u w = true
  | [], _, _, _, _ => by unfold lexLe; rfl
  | _ :: _, [], _, h, _ => by unfold lexLe at h; cases h
  | _ :: _, _ :: _, [], _, h => by unfold lexLe at h; cases h
  | x :: xs, y :: ys, z :: zs, h1, h2 => by
    have ih := lexLe_trans xs ys zs
    unfold lexLe at h1 h2 ⊢
    simp only [Bool.or_eq_true, decide_eq_true_eq, Bool.and_eq_true, beq_iff_eq] at h1 h2 ⊢
    rcases h1 with h1 | ⟨rfl, h1⟩
    · rcases h2 with h2 | ⟨rfl, h2⟩
      · exact .inl (by omega)
      · exact .inl h1
    · rcases h2 with h2 | ⟨rfl, h2⟩
      · exact .inl h2
      · exact .inr ⟨rfl, ih h1 h2⟩
theorem lexLe_anti : ∀ u v : List Int, lexLe u v = true → lexLe v u = true → u = v
  | [], [], _, _ => rfl
  | [], _ :: _, _, h => by unfold lexLe at h; cases h
  | _ :: _, [], h, _ => by unfold lexLe at h; cases h
  | x :: xs, y :: ys, h1, h2 => by
    have ih := lexLe_anti xs ys
    unfold lexLe at h1 h2
    simp only [Bool.or_eq_true, decide_eq_true_eq, Bool.and_eq_true, beq_iff_eq] at h1 h2
    rcases h1 with h1 | ⟨rfl, h1⟩
    · rcases h2 with h2 | ⟨rfl, h2⟩ <;> omega
    · rcases h2 with h2 | ⟨-, h2⟩
      · omega
      · rw [ih h1 h2]
/-- No longer, and, if as long, no later. -/
def leW (u v : List Int) : Prop := u.length < v.length ∨ (u.length = v.length ∧ lexLe u v = true)
theorem ltW_not {u v : List Int} (h : ltW v u = false) : leW u v := by
  unfold ltW at h
  simp only [Bool.or_eq_false_iff, decide_eq_false_iff_not] at h
  by_cases e : u.length = v.length
  · refine .inr ⟨e, ?_⟩
    have h2 := h.2
    rw [show (v.length == u.length) = true by simp [e], Bool.true_and, lex_total v u e.symm] at h2
    simpa using h2
  · exact .inl (by omega)
theorem leW_refl (u : List Int) : leW u u := .inr ⟨rfl, lexLe_refl u⟩
theorem leW_trans {u v w : List Int} (h1 : leW u v) (h2 : leW v w) : leW u w := by
  rcases h1 with h1 | ⟨e1, h1⟩
  · rcases h2 with h2 | ⟨e2, h2⟩
    · exact .inl (by omega)
    · exact .inl (by omega)
  · rcases h2 with h2 | ⟨e2, h2⟩
    · exact .inl (by omega)
    · exact .inr ⟨e1.trans e2, lexLe_trans _ _ _ h1 h2⟩
theorem leW_anti {u v : List Int} (h1 : leW u v) (h2 : leW v u) : u = v := by
  rcases h1 with h1 | ⟨e1, h1⟩
  · rcases h2 with h2 | ⟨e2, h2⟩ <;> omega
  · rcases h2 with h2 | ⟨e2, h2⟩
    · omega
    · exact lexLe_anti _ _ h1 h2
theorem ltW_leW {u v : List Int} (h : ltW u v = true) : leW u v := by
  unfold ltW at h
  simp only [Bool.or_eq_true, decide_eq_true_eq, Bool.and_eq_true, beq_iff_eq] at h
  rcases h with h | ⟨e, h⟩
  · exact .inl h
  · refine .inr ⟨e, ?_⟩
    rw [lex_total u v e] at h
    have hx : lexLe v u = false := by simpa using h
    have := lex_total v u e.symm
    cases hy : lexLe u v
    · rw [hy] at this
      have h3 : lexLt v u = true := this
      exfalso
      have t : ∀ a b : List Int, a.length = b.length → lexLe a b = false → lexLe b a = true := by
        intro a
        induction a with
        | nil => intro b _ h; unfold lexLe at h; cases h
        | cons p ps ih =>
          intro b hb h
          cases b with
          | nil => simp at hb
          | cons q qs =>
            unfold lexLe at h ⊢
            simp only [Bool.or_eq_false_iff, decide_eq_false_iff_not, Bool.and_eq_false_iff] at h
            by_cases e : p = q
            · subst e
              have h2 : lexLe ps qs = false := by rcases h.2 with g | g; simp at g; exact g
              rw [ih qs (by simpa using hb) h2]; simp
            · rw [decide_eq_true (show q < p by omega)]; rfl
      rw [t u v e hy] at hx; cases hx
    · rfl
theorem fold_best : ∀ (l : List (List Int)) (b : List Int), ∃ m, l.foldl betterW (some b) = some m ∧ (m = b ∨ m ∈ l) ∧ leW m b ∧ ∀ w ∈ l, leW m w
  | [], b => ⟨b, rfl, .inl rfl, leW_refl b, by simp⟩
  | w :: ws, b => by
    show ∃ m, ws.foldl betterW (if ltW w b = true then some w else some b) = some m ∧ _
    cases h : ltW w b
    · rw [if_neg Bool.false_ne_true]
      obtain ⟨m, h1, h2, h3, h4⟩ := fold_best ws b
      refine ⟨m, h1, h2.imp id (List.mem_cons_of_mem _), h3, fun v hv => ?_⟩
      rcases List.mem_cons.1 hv with rfl | hv
      · exact leW_trans h3 (ltW_not h)
      · exact h4 v hv
    · rw [if_pos rfl]
      obtain ⟨m, h1, h2, h3, h4⟩ := fold_best ws w
      refine ⟨m, h1, .inr (h2.elim (fun e => by rw [e]; exact List.mem_cons_self) (List.mem_cons_of_mem _)), leW_trans h3 (ltW_leW h), fun v hv => ?_⟩
      rcases List.mem_cons.1 hv with rfl | hv
      · exact h3
      · exact h4 v hv
/-- The best is one of them, and none is better. -/
theorem best_of {l : List (List Int)} (h : ∃ w, w ∈ l) : ∃ m, bestW l = some m ∧ m ∈ l ∧ ∀ w ∈ l, leW m w := by
  cases l with
  | nil => obtain ⟨w, hw⟩ := h; cases hw
  | cons x xs =>
    obtain ⟨m, h1, h2, h3, h4⟩ := fold_best xs x
    refine ⟨m, h1, h2.elim (fun e => by rw [e]; exact List.mem_cons_self) (List.mem_cons_of_mem _), fun w hw => ?_⟩
    rcases List.mem_cons.1 hw with rfl | hw
    · exact h3
    · exact h4 w hw
theorem mod_ex {o : On} (h : RMb o) (n : Int) : ∃ t, t ∈ modT o n := by
  rcases h.1 with ⟨r, h1, h2, rfl⟩ | ⟨m, b, x, s, rfl, h8⟩
  · exact ⟨_, by unfold modT; rw [if_pos (show (onReg r).k = 1 from rfl)]; exact List.mem_singleton.2 rfl⟩
  · by_cases hb : b < 0
    · exact ⟨_, way_mem (md := 0) (sib := true) (by simp [onMem]) (.inl rfl) (way_some (by omega) (by omega) (by simp))⟩
    · exact ⟨_, way_mem (md := 2) (sib := true) (by simp [onMem]) (.inr (.inr rfl)) (way_some (by omega) (by omega) (by simp))⟩
theorem ex_1 {c : Int} {A B : On} {rep : Bool} {l : Int} (hi : isB ⟨1, c, A, B, rep, l⟩ = true) (hAm : 0 ≤ A.m ∧ A.m ≤ 4294967295) (hBm : 0 ≤ B.m ∧ B.m ≤ 4294967295) : ∃ w, w ∈ waysL ⟨1, c, A, B, rep, l⟩ := by
  rw [wl_1]
  rcases formsW hAm with ⟨rA, hA1, hA2, rfl⟩ | ⟨mA, mA1, mA2, rfl⟩ | ⟨hA, kA⟩ | rfl | hA
  · have hA : 0 ≤ rA ∧ rA < 8 := ⟨hA1, hA2⟩
    rcases formsW hBm with ⟨rB, hB1, hB2, rfl⟩ | ⟨mB, mB1, mB2, rfl⟩ | ⟨hB, kB⟩ | rfl | hB
    · have mXA := fun n => Classical.choose_spec (mod_ex (reg_RMb ⟨hA1, hA2⟩) n)
      have mXB := fun n => Classical.choose_spec (mod_ex (reg_RMb ⟨hB1, hB2⟩) n)
      exact ⟨_, by rw [if_neg (nR2 _)]; exact List.mem_append_right _ (by rw [if_pos (kR _)]; exact in_mW (mXB _) rfl)⟩
    · have mXA := fun n => Classical.choose_spec (mod_ex (reg_RMb ⟨hA1, hA2⟩) n)
      exact ⟨_, by rw [if_pos (kI _)]; exact List.mem_append_right _ (in_b4 (in_mW (mXA _) rfl) rfl)⟩
    · have mXA := fun n => Classical.choose_spec (mod_ex (reg_RMb ⟨hA1, hA2⟩) n)
      have mXB := fun n => Classical.choose_spec (mod_ex (hB) n)
      exact ⟨_, by rw [if_neg (show ¬ B.k = 2 by rw [kB]; decide)]; exact List.mem_append_right _ (by rw [if_pos (kR _)]; exact in_mW (mXB _) rfl)⟩
    · exact not_taken hi (SA := [2, 6]) (SB := [1]) (by kernel_rfl) (mem_reg ⟨hA1, hA2⟩) mem_z
    · exact not_taken hi (SA := [2, 6]) (SB := [0]) (by kernel_rfl) (mem_reg ⟨hA1, hA2⟩) (by rw [hB]; decide)
  · exact not_taken hi (SA := [16, 48, 112]) (SB := l8) (by kernel_rfl) (mem_imm _) (cA_mem _)
  · rcases formsW hBm with ⟨rB, hB1, hB2, rfl⟩ | ⟨mB, mB1, mB2, rfl⟩ | ⟨hB, kB⟩ | rfl | hB
    · have mXA := fun n => Classical.choose_spec (mod_ex (hA) n)
      have mXB := fun n => Classical.choose_spec (mod_ex (reg_RMb ⟨hB1, hB2⟩) n)
      exact ⟨_, by rw [if_neg (nR2 _)]; exact List.mem_append_left _ (by rw [if_pos (kR _)]; exact in_mW (mXA _) rfl)⟩
    · have mXA := fun n => Classical.choose_spec (mod_ex (hA) n)
      exact ⟨_, by rw [if_pos (kI _)]; exact List.mem_append_right _ (in_b4 (in_mW (mXA _) rfl) rfl)⟩
    · exact not_taken hi (SA := [8]) (SB := [8]) (by kernel_rfl) (mem_mem hA.1 kA) (mem_mem hB.1 kB)
    · exact not_taken hi (SA := [8]) (SB := [1]) (by kernel_rfl) (mem_mem hA.1 kA) mem_z
    · exact not_taken hi (SA := [8]) (SB := [0]) (by kernel_rfl) (mem_mem hA.1 kA) (by rw [hB]; decide)
  · exact not_taken hi (SA := [1]) (SB := l8) (by kernel_rfl) mem_z (cA_mem _)
  · exact not_taken hi (SA := [0]) (SB := l8) (by kernel_rfl) (by rw [hA]; decide) (cA_mem _)
theorem ex_2 {c : Int} {A B : On} {rep : Bool} {l : Int} (hi : isB ⟨2, c, A, B, rep, l⟩ = true) (hAm : 0 ≤ A.m ∧ A.m ≤ 4294967295) (hBm : 0 ≤ B.m ∧ B.m ≤ 4294967295) : ∃ w, w ∈ waysL ⟨2, c, A, B, rep, l⟩ := by
  rw [wl_2]
  rcases formsW hAm with ⟨rA, hA1, hA2, rfl⟩ | ⟨mA, mA1, mA2, rfl⟩ | ⟨hA, kA⟩ | rfl | hA
  · have hA : 0 ≤ rA ∧ rA < 8 := ⟨hA1, hA2⟩
    rcases formsW hBm with ⟨rB, hB1, hB2, rfl⟩ | ⟨mB, mB1, mB2, rfl⟩ | ⟨hB, kB⟩ | rfl | hB
    · have mXA := fun n => Classical.choose_spec (mod_ex (reg_RMb ⟨hA1, hA2⟩) n)
      have mXB := fun n => Classical.choose_spec (mod_ex (reg_RMb ⟨hB1, hB2⟩) n)
      exact ⟨_, by rw [if_neg (nR2 _)]; exact List.mem_append_right _ (by rw [if_pos (kR _)]; exact in_mW (mXB _) rfl)⟩
    · have mXA := fun n => Classical.choose_spec (mod_ex (reg_RMb ⟨hA1, hA2⟩) n)
      exact ⟨_, by rw [if_pos (kI _)]; exact List.mem_append_right _ (in_b1 (in_mW (mXA _) rfl) rfl)⟩
    · have mXA := fun n => Classical.choose_spec (mod_ex (reg_RMb ⟨hA1, hA2⟩) n)
      have mXB := fun n => Classical.choose_spec (mod_ex (hB) n)
      exact ⟨_, by rw [if_neg (show ¬ B.k = 2 by rw [kB]; decide)]; exact List.mem_append_right _ (by rw [if_pos (kR _)]; exact in_mW (mXB _) rfl)⟩
    · exact not_taken hi (SA := [2, 6]) (SB := [1]) (by kernel_rfl) (mem_reg ⟨hA1, hA2⟩) mem_z
    · exact not_taken hi (SA := [2, 6]) (SB := [0]) (by kernel_rfl) (mem_reg ⟨hA1, hA2⟩) (by rw [hB]; decide)
  · exact not_taken hi (SA := [16, 48, 112]) (SB := l8) (by kernel_rfl) (mem_imm _) (cA_mem _)
  · rcases formsW hBm with ⟨rB, hB1, hB2, rfl⟩ | ⟨mB, mB1, mB2, rfl⟩ | ⟨hB, kB⟩ | rfl | hB
    · have mXA := fun n => Classical.choose_spec (mod_ex (hA) n)
      have mXB := fun n => Classical.choose_spec (mod_ex (reg_RMb ⟨hB1, hB2⟩) n)
      exact ⟨_, by rw [if_neg (nR2 _)]; exact List.mem_append_left _ (by rw [if_pos (kR _)]; exact in_mW (mXA _) rfl)⟩
    · have mXA := fun n => Classical.choose_spec (mod_ex (hA) n)
      exact ⟨_, by rw [if_pos (kI _)]; exact List.mem_append_right _ (in_b1 (in_mW (mXA _) rfl) rfl)⟩
    · exact not_taken hi (SA := [8]) (SB := [8]) (by kernel_rfl) (mem_mem hA.1 kA) (mem_mem hB.1 kB)
    · exact not_taken hi (SA := [8]) (SB := [1]) (by kernel_rfl) (mem_mem hA.1 kA) mem_z
    · exact not_taken hi (SA := [8]) (SB := [0]) (by kernel_rfl) (mem_mem hA.1 kA) (by rw [hB]; decide)
  · exact not_taken hi (SA := [1]) (SB := l8) (by kernel_rfl) mem_z (cA_mem _)
  · exact not_taken hi (SA := [0]) (SB := l8) (by kernel_rfl) (by rw [hA]; decide) (cA_mem _)
theorem ex_3 {c : Int} {A B : On} {rep : Bool} {l : Int} (hi : isB ⟨3, c, A, B, rep, l⟩ = true) (hAm : 0 ≤ A.m ∧ A.m ≤ 4294967295) (hBm : 0 ≤ B.m ∧ B.m ≤ 4294967295) : ∃ w, w ∈ waysL ⟨3, c, A, B, rep, l⟩ := by
  rw [wl_3]
  rcases formsW hAm with ⟨rA, hA1, hA2, rfl⟩ | ⟨mA, mA1, mA2, rfl⟩ | ⟨hA, kA⟩ | rfl | hA
  · have hA : 0 ≤ rA ∧ rA < 8 := ⟨hA1, hA2⟩
    rcases formsW hBm with ⟨rB, hB1, hB2, rfl⟩ | ⟨mB, mB1, mB2, rfl⟩ | ⟨hB, kB⟩ | rfl | hB
    · have mXA := fun n => Classical.choose_spec (mod_ex (reg_RMb ⟨hA1, hA2⟩) n)
      have mXB := fun n => Classical.choose_spec (mod_ex (reg_RMb ⟨hB1, hB2⟩) n)
      exact ⟨_, by rw [if_neg (nR2 _)]; exact List.mem_append_right _ (by rw [if_pos (kR _)]; exact in_mW (mXB _) rfl)⟩
    · have mXA := fun n => Classical.choose_spec (mod_ex (reg_RMb ⟨hA1, hA2⟩) n)
      exact ⟨_, by rw [if_pos (kI _)]; exact List.mem_append_right _ (in_b4 (in_mW (mXA _) rfl) rfl)⟩
    · have mXA := fun n => Classical.choose_spec (mod_ex (reg_RMb ⟨hA1, hA2⟩) n)
      have mXB := fun n => Classical.choose_spec (mod_ex (hB) n)
      exact ⟨_, by rw [if_neg (show ¬ B.k = 2 by rw [kB]; decide)]; exact List.mem_append_right _ (by rw [if_pos (kR _)]; exact in_mW (mXB _) rfl)⟩
    · exact not_taken hi (SA := [2, 6]) (SB := [1]) (by kernel_rfl) (mem_reg ⟨hA1, hA2⟩) mem_z
    · exact not_taken hi (SA := [2, 6]) (SB := [0]) (by kernel_rfl) (mem_reg ⟨hA1, hA2⟩) (by rw [hB]; decide)
  · exact not_taken hi (SA := [16, 48, 112]) (SB := l8) (by kernel_rfl) (mem_imm _) (cA_mem _)
  · rcases formsW hBm with ⟨rB, hB1, hB2, rfl⟩ | ⟨mB, mB1, mB2, rfl⟩ | ⟨hB, kB⟩ | rfl | hB
    · have mXA := fun n => Classical.choose_spec (mod_ex (hA) n)
      have mXB := fun n => Classical.choose_spec (mod_ex (reg_RMb ⟨hB1, hB2⟩) n)
      exact ⟨_, by rw [if_neg (nR2 _)]; exact List.mem_append_left _ (by rw [if_pos (kR _)]; exact in_mW (mXA _) rfl)⟩
    · have mXA := fun n => Classical.choose_spec (mod_ex (hA) n)
      exact ⟨_, by rw [if_pos (kI _)]; exact List.mem_append_right _ (in_b4 (in_mW (mXA _) rfl) rfl)⟩
    · exact not_taken hi (SA := [8]) (SB := [8]) (by kernel_rfl) (mem_mem hA.1 kA) (mem_mem hB.1 kB)
    · exact not_taken hi (SA := [8]) (SB := [1]) (by kernel_rfl) (mem_mem hA.1 kA) mem_z
    · exact not_taken hi (SA := [8]) (SB := [0]) (by kernel_rfl) (mem_mem hA.1 kA) (by rw [hB]; decide)
  · exact not_taken hi (SA := [1]) (SB := l8) (by kernel_rfl) mem_z (cA_mem _)
  · exact not_taken hi (SA := [0]) (SB := l8) (by kernel_rfl) (by rw [hA]; decide) (cA_mem _)
theorem ex_4 {c : Int} {A B : On} {rep : Bool} {l : Int} (hi : isB ⟨4, c, A, B, rep, l⟩ = true) (hAm : 0 ≤ A.m ∧ A.m ≤ 4294967295) (hBm : 0 ≤ B.m ∧ B.m ≤ 4294967295) : ∃ w, w ∈ waysL ⟨4, c, A, B, rep, l⟩ := by
  rw [wl_4]
  rcases formsW hAm with ⟨rA, hA1, hA2, rfl⟩ | ⟨mA, mA1, mA2, rfl⟩ | ⟨hA, kA⟩ | rfl | hA
  · have hA : 0 ≤ rA ∧ rA < 8 := ⟨hA1, hA2⟩
    rcases formsW hBm with ⟨rB, hB1, hB2, rfl⟩ | ⟨mB, mB1, mB2, rfl⟩ | ⟨hB, kB⟩ | rfl | hB
    · have mXA := fun n => Classical.choose_spec (mod_ex (reg_RMb ⟨hA1, hA2⟩) n)
      have mXB := fun n => Classical.choose_spec (mod_ex (reg_RMb ⟨hB1, hB2⟩) n)
      exact ⟨_, by rw [if_neg (nR2 _)]; exact List.mem_append_right _ (by rw [if_pos (kR _)]; exact in_mW (mXB _) rfl)⟩
    · have mXA := fun n => Classical.choose_spec (mod_ex (reg_RMb ⟨hA1, hA2⟩) n)
      exact ⟨_, by rw [if_pos (kI _)]; exact List.mem_append_right _ (in_b4 (in_mW (mXA _) rfl) rfl)⟩
    · have mXA := fun n => Classical.choose_spec (mod_ex (reg_RMb ⟨hA1, hA2⟩) n)
      have mXB := fun n => Classical.choose_spec (mod_ex (hB) n)
      exact ⟨_, by rw [if_neg (show ¬ B.k = 2 by rw [kB]; decide)]; exact List.mem_append_right _ (by rw [if_pos (kR _)]; exact in_mW (mXB _) rfl)⟩
    · exact not_taken hi (SA := [2, 6]) (SB := [1]) (by kernel_rfl) (mem_reg ⟨hA1, hA2⟩) mem_z
    · exact not_taken hi (SA := [2, 6]) (SB := [0]) (by kernel_rfl) (mem_reg ⟨hA1, hA2⟩) (by rw [hB]; decide)
  · exact not_taken hi (SA := [16, 48, 112]) (SB := l8) (by kernel_rfl) (mem_imm _) (cA_mem _)
  · rcases formsW hBm with ⟨rB, hB1, hB2, rfl⟩ | ⟨mB, mB1, mB2, rfl⟩ | ⟨hB, kB⟩ | rfl | hB
    · have mXA := fun n => Classical.choose_spec (mod_ex (hA) n)
      have mXB := fun n => Classical.choose_spec (mod_ex (reg_RMb ⟨hB1, hB2⟩) n)
      exact ⟨_, by rw [if_neg (nR2 _)]; exact List.mem_append_left _ (by rw [if_pos (kR _)]; exact in_mW (mXA _) rfl)⟩
    · have mXA := fun n => Classical.choose_spec (mod_ex (hA) n)
      exact ⟨_, by rw [if_pos (kI _)]; exact List.mem_append_right _ (in_b4 (in_mW (mXA _) rfl) rfl)⟩
    · exact not_taken hi (SA := [8]) (SB := [8]) (by kernel_rfl) (mem_mem hA.1 kA) (mem_mem hB.1 kB)
    · exact not_taken hi (SA := [8]) (SB := [1]) (by kernel_rfl) (mem_mem hA.1 kA) mem_z
    · exact not_taken hi (SA := [8]) (SB := [0]) (by kernel_rfl) (mem_mem hA.1 kA) (by rw [hB]; decide)
  · exact not_taken hi (SA := [1]) (SB := l8) (by kernel_rfl) mem_z (cA_mem _)
  · exact not_taken hi (SA := [0]) (SB := l8) (by kernel_rfl) (by rw [hA]; decide) (cA_mem _)
theorem ex_5 {c : Int} {A B : On} {rep : Bool} {l : Int} (hi : isB ⟨5, c, A, B, rep, l⟩ = true) (hAm : 0 ≤ A.m ∧ A.m ≤ 4294967295) (hBm : 0 ≤ B.m ∧ B.m ≤ 4294967295) : ∃ w, w ∈ waysL ⟨5, c, A, B, rep, l⟩ := by
  rw [wl_5]
  rcases formsW hAm with ⟨rA, hA1, hA2, rfl⟩ | ⟨mA, mA1, mA2, rfl⟩ | ⟨hA, kA⟩ | rfl | hA
  · have hA : 0 ≤ rA ∧ rA < 8 := ⟨hA1, hA2⟩
    rcases formsW hBm with ⟨rB, hB1, hB2, rfl⟩ | ⟨mB, mB1, mB2, rfl⟩ | ⟨hB, kB⟩ | rfl | hB
    · have mXA := fun n => Classical.choose_spec (mod_ex (reg_RMb ⟨hA1, hA2⟩) n)
      have mXB := fun n => Classical.choose_spec (mod_ex (reg_RMb ⟨hB1, hB2⟩) n)
      exact ⟨_, by rw [if_neg (nR2 _)]; exact List.mem_append_right _ (by rw [if_pos (kR _)]; exact in_mW (mXB _) rfl)⟩
    · have mXA := fun n => Classical.choose_spec (mod_ex (reg_RMb ⟨hA1, hA2⟩) n)
      exact ⟨_, by rw [if_pos (kI _)]; exact List.mem_append_right _ (in_b4 (in_mW (mXA _) rfl) rfl)⟩
    · have mXA := fun n => Classical.choose_spec (mod_ex (reg_RMb ⟨hA1, hA2⟩) n)
      have mXB := fun n => Classical.choose_spec (mod_ex (hB) n)
      exact ⟨_, by rw [if_neg (show ¬ B.k = 2 by rw [kB]; decide)]; exact List.mem_append_right _ (by rw [if_pos (kR _)]; exact in_mW (mXB _) rfl)⟩
    · exact not_taken hi (SA := [2, 6]) (SB := [1]) (by kernel_rfl) (mem_reg ⟨hA1, hA2⟩) mem_z
    · exact not_taken hi (SA := [2, 6]) (SB := [0]) (by kernel_rfl) (mem_reg ⟨hA1, hA2⟩) (by rw [hB]; decide)
  · exact not_taken hi (SA := [16, 48, 112]) (SB := l8) (by kernel_rfl) (mem_imm _) (cA_mem _)
  · rcases formsW hBm with ⟨rB, hB1, hB2, rfl⟩ | ⟨mB, mB1, mB2, rfl⟩ | ⟨hB, kB⟩ | rfl | hB
    · have mXA := fun n => Classical.choose_spec (mod_ex (hA) n)
      have mXB := fun n => Classical.choose_spec (mod_ex (reg_RMb ⟨hB1, hB2⟩) n)
      exact ⟨_, by rw [if_neg (nR2 _)]; exact List.mem_append_left _ (by rw [if_pos (kR _)]; exact in_mW (mXA _) rfl)⟩
    · have mXA := fun n => Classical.choose_spec (mod_ex (hA) n)
      exact ⟨_, by rw [if_pos (kI _)]; exact List.mem_append_right _ (in_b4 (in_mW (mXA _) rfl) rfl)⟩
    · exact not_taken hi (SA := [8]) (SB := [8]) (by kernel_rfl) (mem_mem hA.1 kA) (mem_mem hB.1 kB)
    · exact not_taken hi (SA := [8]) (SB := [1]) (by kernel_rfl) (mem_mem hA.1 kA) mem_z
    · exact not_taken hi (SA := [8]) (SB := [0]) (by kernel_rfl) (mem_mem hA.1 kA) (by rw [hB]; decide)
  · exact not_taken hi (SA := [1]) (SB := l8) (by kernel_rfl) mem_z (cA_mem _)
  · exact not_taken hi (SA := [0]) (SB := l8) (by kernel_rfl) (by rw [hA]; decide) (cA_mem _)
theorem ex_6 {c : Int} {A B : On} {rep : Bool} {l : Int} (hi : isB ⟨6, c, A, B, rep, l⟩ = true) (hAm : 0 ≤ A.m ∧ A.m ≤ 4294967295) (hBm : 0 ≤ B.m ∧ B.m ≤ 4294967295) : ∃ w, w ∈ waysL ⟨6, c, A, B, rep, l⟩ := by
  rw [wl_6]
  rcases formsW hAm with ⟨rA, hA1, hA2, rfl⟩ | ⟨mA, mA1, mA2, rfl⟩ | ⟨hA, kA⟩ | rfl | hA
  · have hA : 0 ≤ rA ∧ rA < 8 := ⟨hA1, hA2⟩
    rcases formsW hBm with ⟨rB, hB1, hB2, rfl⟩ | ⟨mB, mB1, mB2, rfl⟩ | ⟨hB, kB⟩ | rfl | hB
    · have mXA := fun n => Classical.choose_spec (mod_ex (reg_RMb ⟨hA1, hA2⟩) n)
      have mXB := fun n => Classical.choose_spec (mod_ex (reg_RMb ⟨hB1, hB2⟩) n)
      exact ⟨_, by rw [if_neg (nR2 _)]; exact List.mem_append_right _ (by rw [if_pos (kR _)]; exact in_mW (mXB _) rfl)⟩
    · have mXA := fun n => Classical.choose_spec (mod_ex (reg_RMb ⟨hA1, hA2⟩) n)
      exact ⟨_, by rw [if_pos (kI _)]; exact List.mem_append_right _ (in_b4 (in_mW (mXA _) rfl) rfl)⟩
    · have mXA := fun n => Classical.choose_spec (mod_ex (reg_RMb ⟨hA1, hA2⟩) n)
      have mXB := fun n => Classical.choose_spec (mod_ex (hB) n)
      exact ⟨_, by rw [if_neg (show ¬ B.k = 2 by rw [kB]; decide)]; exact List.mem_append_right _ (by rw [if_pos (kR _)]; exact in_mW (mXB _) rfl)⟩
    · exact not_taken hi (SA := [2, 6]) (SB := [1]) (by kernel_rfl) (mem_reg ⟨hA1, hA2⟩) mem_z
    · exact not_taken hi (SA := [2, 6]) (SB := [0]) (by kernel_rfl) (mem_reg ⟨hA1, hA2⟩) (by rw [hB]; decide)
  · exact not_taken hi (SA := [16, 48, 112]) (SB := l8) (by kernel_rfl) (mem_imm _) (cA_mem _)
  · rcases formsW hBm with ⟨rB, hB1, hB2, rfl⟩ | ⟨mB, mB1, mB2, rfl⟩ | ⟨hB, kB⟩ | rfl | hB
    · have mXA := fun n => Classical.choose_spec (mod_ex (hA) n)
      have mXB := fun n => Classical.choose_spec (mod_ex (reg_RMb ⟨hB1, hB2⟩) n)
      exact ⟨_, by rw [if_neg (nR2 _)]; exact List.mem_append_left _ (by rw [if_pos (kR _)]; exact in_mW (mXA _) rfl)⟩
    · have mXA := fun n => Classical.choose_spec (mod_ex (hA) n)
      exact ⟨_, by rw [if_pos (kI _)]; exact List.mem_append_right _ (in_b4 (in_mW (mXA _) rfl) rfl)⟩
    · exact not_taken hi (SA := [8]) (SB := [8]) (by kernel_rfl) (mem_mem hA.1 kA) (mem_mem hB.1 kB)
    · exact not_taken hi (SA := [8]) (SB := [1]) (by kernel_rfl) (mem_mem hA.1 kA) mem_z
    · exact not_taken hi (SA := [8]) (SB := [0]) (by kernel_rfl) (mem_mem hA.1 kA) (by rw [hB]; decide)
  · exact not_taken hi (SA := [1]) (SB := l8) (by kernel_rfl) mem_z (cA_mem _)
  · exact not_taken hi (SA := [0]) (SB := l8) (by kernel_rfl) (by rw [hA]; decide) (cA_mem _)
theorem ex_7 {c : Int} {A B : On} {rep : Bool} {l : Int} (hi : isB ⟨7, c, A, B, rep, l⟩ = true) (hAm : 0 ≤ A.m ∧ A.m ≤ 4294967295) (hBm : 0 ≤ B.m ∧ B.m ≤ 4294967295) : ∃ w, w ∈ waysL ⟨7, c, A, B, rep, l⟩ := by
  rw [wl_7]
  rcases formsW hAm with ⟨rA, hA1, hA2, rfl⟩ | ⟨mA, mA1, mA2, rfl⟩ | ⟨hA, kA⟩ | rfl | hA
  · have hA : 0 ≤ rA ∧ rA < 8 := ⟨hA1, hA2⟩
    rcases formsW hBm with ⟨rB, hB1, hB2, rfl⟩ | ⟨mB, mB1, mB2, rfl⟩ | ⟨hB, kB⟩ | rfl | hB
    · have mXA := fun n => Classical.choose_spec (mod_ex (reg_RMb ⟨hA1, hA2⟩) n)
      have mXB := fun n => Classical.choose_spec (mod_ex (reg_RMb ⟨hB1, hB2⟩) n)
      exact ⟨_, by rw [if_neg (nR2 _)]; exact List.mem_append_right _ (by rw [if_pos (kR _)]; exact in_mW (mXB _) rfl)⟩
    · have mXA := fun n => Classical.choose_spec (mod_ex (reg_RMb ⟨hA1, hA2⟩) n)
      exact ⟨_, by rw [if_pos (kI _)]; exact List.mem_append_right _ (in_b4 (in_mW (mXA _) rfl) rfl)⟩
    · have mXA := fun n => Classical.choose_spec (mod_ex (reg_RMb ⟨hA1, hA2⟩) n)
      have mXB := fun n => Classical.choose_spec (mod_ex (hB) n)
      exact ⟨_, by rw [if_neg (show ¬ B.k = 2 by rw [kB]; decide)]; exact List.mem_append_right _ (by rw [if_pos (kR _)]; exact in_mW (mXB _) rfl)⟩
    · exact not_taken hi (SA := [2, 6]) (SB := [1]) (by kernel_rfl) (mem_reg ⟨hA1, hA2⟩) mem_z
    · exact not_taken hi (SA := [2, 6]) (SB := [0]) (by kernel_rfl) (mem_reg ⟨hA1, hA2⟩) (by rw [hB]; decide)
  · exact not_taken hi (SA := [16, 48, 112]) (SB := l8) (by kernel_rfl) (mem_imm _) (cA_mem _)
  · rcases formsW hBm with ⟨rB, hB1, hB2, rfl⟩ | ⟨mB, mB1, mB2, rfl⟩ | ⟨hB, kB⟩ | rfl | hB
    · have mXA := fun n => Classical.choose_spec (mod_ex (hA) n)
      have mXB := fun n => Classical.choose_spec (mod_ex (reg_RMb ⟨hB1, hB2⟩) n)
      exact ⟨_, by rw [if_neg (nR2 _)]; exact List.mem_append_left _ (by rw [if_pos (kR _)]; exact in_mW (mXA _) rfl)⟩
    · have mXA := fun n => Classical.choose_spec (mod_ex (hA) n)
      exact ⟨_, by rw [if_pos (kI _)]; exact List.mem_append_right _ (in_b4 (in_mW (mXA _) rfl) rfl)⟩
    · exact not_taken hi (SA := [8]) (SB := [8]) (by kernel_rfl) (mem_mem hA.1 kA) (mem_mem hB.1 kB)
    · exact not_taken hi (SA := [8]) (SB := [1]) (by kernel_rfl) (mem_mem hA.1 kA) mem_z
    · exact not_taken hi (SA := [8]) (SB := [0]) (by kernel_rfl) (mem_mem hA.1 kA) (by rw [hB]; decide)
  · exact not_taken hi (SA := [1]) (SB := l8) (by kernel_rfl) mem_z (cA_mem _)
  · exact not_taken hi (SA := [0]) (SB := l8) (by kernel_rfl) (by rw [hA]; decide) (cA_mem _)
theorem ex_8 {c : Int} {A B : On} {rep : Bool} {l : Int} (hi : isB ⟨8, c, A, B, rep, l⟩ = true) (hAm : 0 ≤ A.m ∧ A.m ≤ 4294967295) (hBm : 0 ≤ B.m ∧ B.m ≤ 4294967295) : ∃ w, w ∈ waysL ⟨8, c, A, B, rep, l⟩ := by
  rw [wl_8]
  rcases formsW hAm with ⟨rA, hA1, hA2, rfl⟩ | ⟨mA, mA1, mA2, rfl⟩ | ⟨hA, kA⟩ | rfl | hA
  · have hA : 0 ≤ rA ∧ rA < 8 := ⟨hA1, hA2⟩
    rcases formsW hBm with ⟨rB, hB1, hB2, rfl⟩ | ⟨mB, mB1, mB2, rfl⟩ | ⟨hB, kB⟩ | rfl | hB
    · have mXA := fun n => Classical.choose_spec (mod_ex (reg_RMb ⟨hA1, hA2⟩) n)
      have mXB := fun n => Classical.choose_spec (mod_ex (reg_RMb ⟨hB1, hB2⟩) n)
      exact ⟨_, by rw [if_neg (nR2 _)]; exact List.mem_append_right _ (by rw [if_pos (kR _)]; exact in_mW (mXB _) rfl)⟩
    · have mXA := fun n => Classical.choose_spec (mod_ex (reg_RMb ⟨hA1, hA2⟩) n)
      exact ⟨_, by rw [if_pos (kI _)]; exact List.mem_append_right _ (in_b4 (in_mW (mXA _) rfl) rfl)⟩
    · have mXA := fun n => Classical.choose_spec (mod_ex (reg_RMb ⟨hA1, hA2⟩) n)
      have mXB := fun n => Classical.choose_spec (mod_ex (hB) n)
      exact ⟨_, by rw [if_neg (show ¬ B.k = 2 by rw [kB]; decide)]; exact List.mem_append_right _ (by rw [if_pos (kR _)]; exact in_mW (mXB _) rfl)⟩
    · exact not_taken hi (SA := [2, 6]) (SB := [1]) (by kernel_rfl) (mem_reg ⟨hA1, hA2⟩) mem_z
    · exact not_taken hi (SA := [2, 6]) (SB := [0]) (by kernel_rfl) (mem_reg ⟨hA1, hA2⟩) (by rw [hB]; decide)
  · exact not_taken hi (SA := [16, 48, 112]) (SB := l8) (by kernel_rfl) (mem_imm _) (cA_mem _)
  · rcases formsW hBm with ⟨rB, hB1, hB2, rfl⟩ | ⟨mB, mB1, mB2, rfl⟩ | ⟨hB, kB⟩ | rfl | hB
    · have mXA := fun n => Classical.choose_spec (mod_ex (hA) n)
      have mXB := fun n => Classical.choose_spec (mod_ex (reg_RMb ⟨hB1, hB2⟩) n)
      exact ⟨_, by rw [if_neg (nR2 _)]; exact List.mem_append_left _ (by rw [if_pos (kR _)]; exact in_mW (mXA _) rfl)⟩
    · have mXA := fun n => Classical.choose_spec (mod_ex (hA) n)
      exact ⟨_, by rw [if_pos (kI _)]; exact List.mem_append_right _ (in_b4 (in_mW (mXA _) rfl) rfl)⟩
    · exact not_taken hi (SA := [8]) (SB := [8]) (by kernel_rfl) (mem_mem hA.1 kA) (mem_mem hB.1 kB)
    · exact not_taken hi (SA := [8]) (SB := [1]) (by kernel_rfl) (mem_mem hA.1 kA) mem_z
    · exact not_taken hi (SA := [8]) (SB := [0]) (by kernel_rfl) (mem_mem hA.1 kA) (by rw [hB]; decide)
  · exact not_taken hi (SA := [1]) (SB := l8) (by kernel_rfl) mem_z (cA_mem _)
  · exact not_taken hi (SA := [0]) (SB := l8) (by kernel_rfl) (by rw [hA]; decide) (cA_mem _)
theorem ex_9 {c : Int} {A B : On} {rep : Bool} {l : Int} (hi : isB ⟨9, c, A, B, rep, l⟩ = true) (hAm : 0 ≤ A.m ∧ A.m ≤ 4294967295) (hBm : 0 ≤ B.m ∧ B.m ≤ 4294967295) : ∃ w, w ∈ waysL ⟨9, c, A, B, rep, l⟩ := by
  rw [wl_9]
  rcases formsW hAm with ⟨rA, hA1, hA2, rfl⟩ | ⟨mA, mA1, mA2, rfl⟩ | ⟨hA, kA⟩ | rfl | hA
  · have hA : 0 ≤ rA ∧ rA < 8 := ⟨hA1, hA2⟩
    rcases formsW hBm with ⟨rB, hB1, hB2, rfl⟩ | ⟨mB, mB1, mB2, rfl⟩ | ⟨hB, kB⟩ | rfl | hB
    · have mXA := fun n => Classical.choose_spec (mod_ex (reg_RMb ⟨hA1, hA2⟩) n)
      have mXB := fun n => Classical.choose_spec (mod_ex (reg_RMb ⟨hB1, hB2⟩) n)
      exact ⟨_, by rw [if_neg (nR2 _)]; exact List.mem_append_right _ (by rw [if_pos (kR _)]; exact in_mW (mXB _) rfl)⟩
    · have mXA := fun n => Classical.choose_spec (mod_ex (reg_RMb ⟨hA1, hA2⟩) n)
      exact ⟨_, by rw [if_pos (kI _)]; exact List.mem_append_right _ (in_b4 (in_mW (mXA _) rfl) rfl)⟩
    · have mXA := fun n => Classical.choose_spec (mod_ex (reg_RMb ⟨hA1, hA2⟩) n)
      have mXB := fun n => Classical.choose_spec (mod_ex (hB) n)
      exact ⟨_, by rw [if_neg (show ¬ B.k = 2 by rw [kB]; decide)]; exact List.mem_append_right _ (by rw [if_pos (kR _)]; exact in_mW (mXB _) rfl)⟩
    · exact not_taken hi (SA := [2, 6]) (SB := [1]) (by kernel_rfl) (mem_reg ⟨hA1, hA2⟩) mem_z
    · exact not_taken hi (SA := [2, 6]) (SB := [0]) (by kernel_rfl) (mem_reg ⟨hA1, hA2⟩) (by rw [hB]; decide)
  · exact not_taken hi (SA := [16, 48, 112]) (SB := l8) (by kernel_rfl) (mem_imm _) (cA_mem _)
  · rcases formsW hBm with ⟨rB, hB1, hB2, rfl⟩ | ⟨mB, mB1, mB2, rfl⟩ | ⟨hB, kB⟩ | rfl | hB
    · have mXA := fun n => Classical.choose_spec (mod_ex (hA) n)
      have mXB := fun n => Classical.choose_spec (mod_ex (reg_RMb ⟨hB1, hB2⟩) n)
      exact ⟨_, by rw [if_neg (nR2 _)]; exact List.mem_append_left _ (by rw [if_pos (kR _)]; exact in_mW (mXA _) rfl)⟩
    · have mXA := fun n => Classical.choose_spec (mod_ex (hA) n)
      exact ⟨_, by rw [if_pos (kI _)]; exact List.mem_append_right _ (in_b4 (in_mW (mXA _) rfl) rfl)⟩
    · exact not_taken hi (SA := [8]) (SB := [8]) (by kernel_rfl) (mem_mem hA.1 kA) (mem_mem hB.1 kB)
    · exact not_taken hi (SA := [8]) (SB := [1]) (by kernel_rfl) (mem_mem hA.1 kA) mem_z
    · exact not_taken hi (SA := [8]) (SB := [0]) (by kernel_rfl) (mem_mem hA.1 kA) (by rw [hB]; decide)
  · exact not_taken hi (SA := [1]) (SB := l8) (by kernel_rfl) mem_z (cA_mem _)
  · exact not_taken hi (SA := [0]) (SB := l8) (by kernel_rfl) (by rw [hA]; decide) (cA_mem _)
theorem ex_10 {c : Int} {A B : On} {rep : Bool} {l : Int} (hi : isB ⟨10, c, A, B, rep, l⟩ = true) (hAm : 0 ≤ A.m ∧ A.m ≤ 4294967295) (hBm : 0 ≤ B.m ∧ B.m ≤ 4294967295) : ∃ w, w ∈ waysL ⟨10, c, A, B, rep, l⟩ := by
  rw [wl_10]
  rcases formsW hAm with ⟨rA, hA1, hA2, rfl⟩ | ⟨mA, mA1, mA2, rfl⟩ | ⟨hA, kA⟩ | rfl | hA
  · have hA : 0 ≤ rA ∧ rA < 8 := ⟨hA1, hA2⟩
    rcases formsW hBm with ⟨rB, hB1, hB2, rfl⟩ | ⟨mB, mB1, mB2, rfl⟩ | ⟨hB, kB⟩ | rfl | hB
    · have mXA := fun n => Classical.choose_spec (mod_ex (reg_RMb ⟨hA1, hA2⟩) n)
      have mXB := fun n => Classical.choose_spec (mod_ex (reg_RMb ⟨hB1, hB2⟩) n)
      exact ⟨_, by rw [if_neg (nR2 _)]; exact List.mem_append_right _ (by rw [if_pos (kR _)]; exact in_mW (mXB _) rfl)⟩
    · have mXA := fun n => Classical.choose_spec (mod_ex (reg_RMb ⟨hA1, hA2⟩) n)
      exact ⟨_, by rw [if_pos (kI _)]; exact List.mem_append_right _ (in_b4 (in_mW (mXA _) rfl) rfl)⟩
    · have mXA := fun n => Classical.choose_spec (mod_ex (reg_RMb ⟨hA1, hA2⟩) n)
      have mXB := fun n => Classical.choose_spec (mod_ex (hB) n)
      exact ⟨_, by rw [if_neg (show ¬ B.k = 2 by rw [kB]; decide)]; exact List.mem_append_right _ (by rw [if_pos (kR _)]; exact in_mW (mXB _) rfl)⟩
    · exact not_taken hi (SA := [2, 6]) (SB := [1]) (by kernel_rfl) (mem_reg ⟨hA1, hA2⟩) mem_z
    · exact not_taken hi (SA := [2, 6]) (SB := [0]) (by kernel_rfl) (mem_reg ⟨hA1, hA2⟩) (by rw [hB]; decide)
  · exact not_taken hi (SA := [16, 48, 112]) (SB := l8) (by kernel_rfl) (mem_imm _) (cA_mem _)
  · rcases formsW hBm with ⟨rB, hB1, hB2, rfl⟩ | ⟨mB, mB1, mB2, rfl⟩ | ⟨hB, kB⟩ | rfl | hB
    · have mXA := fun n => Classical.choose_spec (mod_ex (hA) n)
      have mXB := fun n => Classical.choose_spec (mod_ex (reg_RMb ⟨hB1, hB2⟩) n)
      exact ⟨_, by rw [if_neg (nR2 _)]; exact List.mem_append_left _ (by rw [if_pos (kR _)]; exact in_mW (mXA _) rfl)⟩
    · have mXA := fun n => Classical.choose_spec (mod_ex (hA) n)
      exact ⟨_, by rw [if_pos (kI _)]; exact List.mem_append_right _ (in_b4 (in_mW (mXA _) rfl) rfl)⟩
    · exact not_taken hi (SA := [8]) (SB := [8]) (by kernel_rfl) (mem_mem hA.1 kA) (mem_mem hB.1 kB)
    · exact not_taken hi (SA := [8]) (SB := [1]) (by kernel_rfl) (mem_mem hA.1 kA) mem_z
    · exact not_taken hi (SA := [8]) (SB := [0]) (by kernel_rfl) (mem_mem hA.1 kA) (by rw [hB]; decide)
  · exact not_taken hi (SA := [1]) (SB := l8) (by kernel_rfl) mem_z (cA_mem _)
  · exact not_taken hi (SA := [0]) (SB := l8) (by kernel_rfl) (by rw [hA]; decide) (cA_mem _)
theorem ex_11 {c : Int} {A B : On} {rep : Bool} {l : Int} (hi : isB ⟨11, c, A, B, rep, l⟩ = true) (hAm : 0 ≤ A.m ∧ A.m ≤ 4294967295) (hBm : 0 ≤ B.m ∧ B.m ≤ 4294967295) : ∃ w, w ∈ waysL ⟨11, c, A, B, rep, l⟩ := by
  rw [wl_11]
  rcases formsW hAm with ⟨rA, hA1, hA2, rfl⟩ | ⟨mA, mA1, mA2, rfl⟩ | ⟨hA, kA⟩ | rfl | hA
  · have hA : 0 ≤ rA ∧ rA < 8 := ⟨hA1, hA2⟩
    rcases formsW hBm with ⟨rB, hB1, hB2, rfl⟩ | ⟨mB, mB1, mB2, rfl⟩ | ⟨hB, kB⟩ | rfl | hB
    · have mXA := fun n => Classical.choose_spec (mod_ex (reg_RMb ⟨hA1, hA2⟩) n)
      have mXB := fun n => Classical.choose_spec (mod_ex (reg_RMb ⟨hB1, hB2⟩) n)
      exact ⟨_, by rw [if_pos (kR _)]; exact in_mW (mXA _) rfl⟩
    · have mXA := fun n => Classical.choose_spec (mod_ex (reg_RMb ⟨hA1, hA2⟩) n)
      exact ⟨_, by rw [if_neg (nI1 _)]; exact List.mem_append_right _ (in_b4 (in_mW (mXA _) rfl) rfl)⟩
    · exact not_taken hi (SA := [2, 6]) (SB := [8]) (by kernel_rfl) (mem_reg ⟨hA1, hA2⟩) (mem_mem hB.1 kB)
    · exact not_taken hi (SA := [2, 6]) (SB := [1]) (by kernel_rfl) (mem_reg ⟨hA1, hA2⟩) mem_z
    · exact not_taken hi (SA := [2, 6]) (SB := [0]) (by kernel_rfl) (mem_reg ⟨hA1, hA2⟩) (by rw [hB]; decide)
  · exact not_taken hi (SA := [16, 48, 112]) (SB := l8) (by kernel_rfl) (mem_imm _) (cA_mem _)
  · rcases formsW hBm with ⟨rB, hB1, hB2, rfl⟩ | ⟨mB, mB1, mB2, rfl⟩ | ⟨hB, kB⟩ | rfl | hB
    · have mXA := fun n => Classical.choose_spec (mod_ex (hA) n)
      have mXB := fun n => Classical.choose_spec (mod_ex (reg_RMb ⟨hB1, hB2⟩) n)
      exact ⟨_, by rw [if_pos (kR _)]; exact in_mW (mXA _) rfl⟩
    · have mXA := fun n => Classical.choose_spec (mod_ex (hA) n)
      exact ⟨_, by rw [if_neg (nI1 _)]; exact List.mem_append_right _ (in_b4 (in_mW (mXA _) rfl) rfl)⟩
    · exact not_taken hi (SA := [8]) (SB := [8]) (by kernel_rfl) (mem_mem hA.1 kA) (mem_mem hB.1 kB)
    · exact not_taken hi (SA := [8]) (SB := [1]) (by kernel_rfl) (mem_mem hA.1 kA) mem_z
    · exact not_taken hi (SA := [8]) (SB := [0]) (by kernel_rfl) (mem_mem hA.1 kA) (by rw [hB]; decide)
  · exact not_taken hi (SA := [1]) (SB := l8) (by kernel_rfl) mem_z (cA_mem _)
  · exact not_taken hi (SA := [0]) (SB := l8) (by kernel_rfl) (by rw [hA]; decide) (cA_mem _)
theorem ex_12 {c : Int} {A B : On} {rep : Bool} {l : Int} (hi : isB ⟨12, c, A, B, rep, l⟩ = true) (hAm : 0 ≤ A.m ∧ A.m ≤ 4294967295) (hBm : 0 ≤ B.m ∧ B.m ≤ 4294967295) : ∃ w, w ∈ waysL ⟨12, c, A, B, rep, l⟩ := by
  rw [wl_12]
  rcases formsW hAm with ⟨rA, hA1, hA2, rfl⟩ | ⟨mA, mA1, mA2, rfl⟩ | ⟨hA, kA⟩ | rfl | hA
  · have hA : 0 ≤ rA ∧ rA < 8 := ⟨hA1, hA2⟩
    rcases formsW hBm with ⟨rB, hB1, hB2, rfl⟩ | ⟨mB, mB1, mB2, rfl⟩ | ⟨hB, kB⟩ | rfl | hB
    · exact not_taken hi (SA := [2, 6]) (SB := [2, 6]) (by kernel_rfl) (mem_reg ⟨hA1, hA2⟩) (mem_reg ⟨hB1, hB2⟩)
    · exact not_taken hi (SA := [2, 6]) (SB := [16, 48, 112]) (by kernel_rfl) (mem_reg ⟨hA1, hA2⟩) (mem_imm _)
    · exact not_taken hi (SA := [2, 6]) (SB := [8]) (by kernel_rfl) (mem_reg ⟨hA1, hA2⟩) (mem_mem hB.1 kB)
    · have mXA := fun n => Classical.choose_spec (mod_ex (reg_RMb ⟨hA1, hA2⟩) n)
      exact ⟨_, List.mem_append_right _ (in_mW (mXA _) rfl)⟩
    · exact not_taken hi (SA := [2, 6]) (SB := [0]) (by kernel_rfl) (mem_reg ⟨hA1, hA2⟩) (by rw [hB]; decide)
  · exact not_taken hi (SA := [16, 48, 112]) (SB := l8) (by kernel_rfl) (mem_imm _) (cA_mem _)
  · rcases formsW hBm with ⟨rB, hB1, hB2, rfl⟩ | ⟨mB, mB1, mB2, rfl⟩ | ⟨hB, kB⟩ | rfl | hB
    · exact not_taken hi (SA := [8]) (SB := [2, 6]) (by kernel_rfl) (mem_mem hA.1 kA) (mem_reg ⟨hB1, hB2⟩)
    · exact not_taken hi (SA := [8]) (SB := [16, 48, 112]) (by kernel_rfl) (mem_mem hA.1 kA) (mem_imm _)
    · exact not_taken hi (SA := [8]) (SB := [8]) (by kernel_rfl) (mem_mem hA.1 kA) (mem_mem hB.1 kB)
    · have mXA := fun n => Classical.choose_spec (mod_ex (hA) n)
      exact ⟨_, List.mem_append_right _ (in_mW (mXA _) rfl)⟩
    · exact not_taken hi (SA := [8]) (SB := [0]) (by kernel_rfl) (mem_mem hA.1 kA) (by rw [hB]; decide)
  · exact not_taken hi (SA := [1]) (SB := l8) (by kernel_rfl) mem_z (cA_mem _)
  · exact not_taken hi (SA := [0]) (SB := l8) (by kernel_rfl) (by rw [hA]; decide) (cA_mem _)
theorem ex_13 {c : Int} {A B : On} {rep : Bool} {l : Int} (hi : isB ⟨13, c, A, B, rep, l⟩ = true) (hAm : 0 ≤ A.m ∧ A.m ≤ 4294967295) (hBm : 0 ≤ B.m ∧ B.m ≤ 4294967295) : ∃ w, w ∈ waysL ⟨13, c, A, B, rep, l⟩ := by
  rw [wl_13]
  rcases formsW hAm with ⟨rA, hA1, hA2, rfl⟩ | ⟨mA, mA1, mA2, rfl⟩ | ⟨hA, kA⟩ | rfl | hA
  · have hA : 0 ≤ rA ∧ rA < 8 := ⟨hA1, hA2⟩
    rcases formsW hBm with ⟨rB, hB1, hB2, rfl⟩ | ⟨mB, mB1, mB2, rfl⟩ | ⟨hB, kB⟩ | rfl | hB
    · exact not_taken hi (SA := [2, 6]) (SB := [2, 6]) (by kernel_rfl) (mem_reg ⟨hA1, hA2⟩) (mem_reg ⟨hB1, hB2⟩)
    · exact not_taken hi (SA := [2, 6]) (SB := [16, 48, 112]) (by kernel_rfl) (mem_reg ⟨hA1, hA2⟩) (mem_imm _)
    · exact not_taken hi (SA := [2, 6]) (SB := [8]) (by kernel_rfl) (mem_reg ⟨hA1, hA2⟩) (mem_mem hB.1 kB)
    · have mXA := fun n => Classical.choose_spec (mod_ex (reg_RMb ⟨hA1, hA2⟩) n)
      exact ⟨_, List.mem_append_right _ (in_mW (mXA _) rfl)⟩
    · exact not_taken hi (SA := [2, 6]) (SB := [0]) (by kernel_rfl) (mem_reg ⟨hA1, hA2⟩) (by rw [hB]; decide)
  · exact not_taken hi (SA := [16, 48, 112]) (SB := l8) (by kernel_rfl) (mem_imm _) (cA_mem _)
  · rcases formsW hBm with ⟨rB, hB1, hB2, rfl⟩ | ⟨mB, mB1, mB2, rfl⟩ | ⟨hB, kB⟩ | rfl | hB
    · exact not_taken hi (SA := [8]) (SB := [2, 6]) (by kernel_rfl) (mem_mem hA.1 kA) (mem_reg ⟨hB1, hB2⟩)
    · exact not_taken hi (SA := [8]) (SB := [16, 48, 112]) (by kernel_rfl) (mem_mem hA.1 kA) (mem_imm _)
    · exact not_taken hi (SA := [8]) (SB := [8]) (by kernel_rfl) (mem_mem hA.1 kA) (mem_mem hB.1 kB)
    · have mXA := fun n => Classical.choose_spec (mod_ex (hA) n)
      exact ⟨_, List.mem_append_right _ (in_mW (mXA _) rfl)⟩
    · exact not_taken hi (SA := [8]) (SB := [0]) (by kernel_rfl) (mem_mem hA.1 kA) (by rw [hB]; decide)
  · exact not_taken hi (SA := [1]) (SB := l8) (by kernel_rfl) mem_z (cA_mem _)
  · exact not_taken hi (SA := [0]) (SB := l8) (by kernel_rfl) (by rw [hA]; decide) (cA_mem _)
theorem ex_14 {c : Int} {A B : On} {rep : Bool} {l : Int} (hi : isB ⟨14, c, A, B, rep, l⟩ = true) (hAm : 0 ≤ A.m ∧ A.m ≤ 4294967295) (hBm : 0 ≤ B.m ∧ B.m ≤ 4294967295) : ∃ w, w ∈ waysL ⟨14, c, A, B, rep, l⟩ := by
  rw [wl_14]
  rcases formsW hAm with ⟨rA, hA1, hA2, rfl⟩ | ⟨mA, mA1, mA2, rfl⟩ | ⟨hA, kA⟩ | rfl | hA
  · have hA : 0 ≤ rA ∧ rA < 8 := ⟨hA1, hA2⟩
    rcases formsW hBm with ⟨rB, hB1, hB2, rfl⟩ | ⟨mB, mB1, mB2, rfl⟩ | ⟨hB, kB⟩ | rfl | hB
    · exact not_taken hi (SA := [2, 6]) (SB := [2, 6]) (by kernel_rfl) (mem_reg ⟨hA1, hA2⟩) (mem_reg ⟨hB1, hB2⟩)
    · exact not_taken hi (SA := [2, 6]) (SB := [16, 48, 112]) (by kernel_rfl) (mem_reg ⟨hA1, hA2⟩) (mem_imm _)
    · exact not_taken hi (SA := [2, 6]) (SB := [8]) (by kernel_rfl) (mem_reg ⟨hA1, hA2⟩) (mem_mem hB.1 kB)
    · have mXA := fun n => Classical.choose_spec (mod_ex (reg_RMb ⟨hA1, hA2⟩) n)
      exact ⟨_, in_mW (mXA _) rfl⟩
    · exact not_taken hi (SA := [2, 6]) (SB := [0]) (by kernel_rfl) (mem_reg ⟨hA1, hA2⟩) (by rw [hB]; decide)
  · exact not_taken hi (SA := [16, 48, 112]) (SB := l8) (by kernel_rfl) (mem_imm _) (cA_mem _)
  · rcases formsW hBm with ⟨rB, hB1, hB2, rfl⟩ | ⟨mB, mB1, mB2, rfl⟩ | ⟨hB, kB⟩ | rfl | hB
    · exact not_taken hi (SA := [8]) (SB := [2, 6]) (by kernel_rfl) (mem_mem hA.1 kA) (mem_reg ⟨hB1, hB2⟩)
    · exact not_taken hi (SA := [8]) (SB := [16, 48, 112]) (by kernel_rfl) (mem_mem hA.1 kA) (mem_imm _)
    · exact not_taken hi (SA := [8]) (SB := [8]) (by kernel_rfl) (mem_mem hA.1 kA) (mem_mem hB.1 kB)
    · have mXA := fun n => Classical.choose_spec (mod_ex (hA) n)
      exact ⟨_, in_mW (mXA _) rfl⟩
    · exact not_taken hi (SA := [8]) (SB := [0]) (by kernel_rfl) (mem_mem hA.1 kA) (by rw [hB]; decide)
  · exact not_taken hi (SA := [1]) (SB := l8) (by kernel_rfl) mem_z (cA_mem _)
  · exact not_taken hi (SA := [0]) (SB := l8) (by kernel_rfl) (by rw [hA]; decide) (cA_mem _)
theorem ex_15 {c : Int} {A B : On} {rep : Bool} {l : Int} (hi : isB ⟨15, c, A, B, rep, l⟩ = true) (hAm : 0 ≤ A.m ∧ A.m ≤ 4294967295) (hBm : 0 ≤ B.m ∧ B.m ≤ 4294967295) : ∃ w, w ∈ waysL ⟨15, c, A, B, rep, l⟩ := by
  rw [wl_15]
  rcases formsW hAm with ⟨rA, hA1, hA2, rfl⟩ | ⟨mA, mA1, mA2, rfl⟩ | ⟨hA, kA⟩ | rfl | hA
  · have hA : 0 ≤ rA ∧ rA < 8 := ⟨hA1, hA2⟩
    rcases formsW hBm with ⟨rB, hB1, hB2, rfl⟩ | ⟨mB, mB1, mB2, rfl⟩ | ⟨hB, kB⟩ | rfl | hB
    · exact not_taken hi (SA := [2, 6]) (SB := [2, 6]) (by kernel_rfl) (mem_reg ⟨hA1, hA2⟩) (mem_reg ⟨hB1, hB2⟩)
    · exact not_taken hi (SA := [2, 6]) (SB := [16, 48, 112]) (by kernel_rfl) (mem_reg ⟨hA1, hA2⟩) (mem_imm _)
    · exact not_taken hi (SA := [2, 6]) (SB := [8]) (by kernel_rfl) (mem_reg ⟨hA1, hA2⟩) (mem_mem hB.1 kB)
    · have mXA := fun n => Classical.choose_spec (mod_ex (reg_RMb ⟨hA1, hA2⟩) n)
      exact ⟨_, in_mW (mXA _) rfl⟩
    · exact not_taken hi (SA := [2, 6]) (SB := [0]) (by kernel_rfl) (mem_reg ⟨hA1, hA2⟩) (by rw [hB]; decide)
  · exact not_taken hi (SA := [16, 48, 112]) (SB := l8) (by kernel_rfl) (mem_imm _) (cA_mem _)
  · rcases formsW hBm with ⟨rB, hB1, hB2, rfl⟩ | ⟨mB, mB1, mB2, rfl⟩ | ⟨hB, kB⟩ | rfl | hB
    · exact not_taken hi (SA := [8]) (SB := [2, 6]) (by kernel_rfl) (mem_mem hA.1 kA) (mem_reg ⟨hB1, hB2⟩)
    · exact not_taken hi (SA := [8]) (SB := [16, 48, 112]) (by kernel_rfl) (mem_mem hA.1 kA) (mem_imm _)
    · exact not_taken hi (SA := [8]) (SB := [8]) (by kernel_rfl) (mem_mem hA.1 kA) (mem_mem hB.1 kB)
    · have mXA := fun n => Classical.choose_spec (mod_ex (hA) n)
      exact ⟨_, in_mW (mXA _) rfl⟩
    · exact not_taken hi (SA := [8]) (SB := [0]) (by kernel_rfl) (mem_mem hA.1 kA) (by rw [hB]; decide)
  · exact not_taken hi (SA := [1]) (SB := l8) (by kernel_rfl) mem_z (cA_mem _)
  · exact not_taken hi (SA := [0]) (SB := l8) (by kernel_rfl) (by rw [hA]; decide) (cA_mem _)
theorem ex_16 {c : Int} {A B : On} {rep : Bool} {l : Int} (hi : isB ⟨16, c, A, B, rep, l⟩ = true) (hAm : 0 ≤ A.m ∧ A.m ≤ 4294967295) (hBm : 0 ≤ B.m ∧ B.m ≤ 4294967295) : ∃ w, w ∈ waysL ⟨16, c, A, B, rep, l⟩ := by
  rw [wl_16]
  rcases formsW hAm with ⟨rA, hA1, hA2, rfl⟩ | ⟨mA, mA1, mA2, rfl⟩ | ⟨hA, kA⟩ | rfl | hA
  · have hA : 0 ≤ rA ∧ rA < 8 := ⟨hA1, hA2⟩
    rcases formsW hBm with ⟨rB, hB1, hB2, rfl⟩ | ⟨mB, mB1, mB2, rfl⟩ | ⟨hB, kB⟩ | rfl | hB
    · exact not_taken hi (SA := [2, 6]) (SB := [2, 6]) (by kernel_rfl) (mem_reg ⟨hA1, hA2⟩) (mem_reg ⟨hB1, hB2⟩)
    · exact not_taken hi (SA := [2, 6]) (SB := [16, 48, 112]) (by kernel_rfl) (mem_reg ⟨hA1, hA2⟩) (mem_imm _)
    · exact not_taken hi (SA := [2, 6]) (SB := [8]) (by kernel_rfl) (mem_reg ⟨hA1, hA2⟩) (mem_mem hB.1 kB)
    · have mXA := fun n => Classical.choose_spec (mod_ex (reg_RMb ⟨hA1, hA2⟩) n)
      exact ⟨_, in_mW (mXA _) rfl⟩
    · exact not_taken hi (SA := [2, 6]) (SB := [0]) (by kernel_rfl) (mem_reg ⟨hA1, hA2⟩) (by rw [hB]; decide)
  · exact not_taken hi (SA := [16, 48, 112]) (SB := l8) (by kernel_rfl) (mem_imm _) (cA_mem _)
  · rcases formsW hBm with ⟨rB, hB1, hB2, rfl⟩ | ⟨mB, mB1, mB2, rfl⟩ | ⟨hB, kB⟩ | rfl | hB
    · exact not_taken hi (SA := [8]) (SB := [2, 6]) (by kernel_rfl) (mem_mem hA.1 kA) (mem_reg ⟨hB1, hB2⟩)
    · exact not_taken hi (SA := [8]) (SB := [16, 48, 112]) (by kernel_rfl) (mem_mem hA.1 kA) (mem_imm _)
    · exact not_taken hi (SA := [8]) (SB := [8]) (by kernel_rfl) (mem_mem hA.1 kA) (mem_mem hB.1 kB)
    · have mXA := fun n => Classical.choose_spec (mod_ex (hA) n)
      exact ⟨_, in_mW (mXA _) rfl⟩
    · exact not_taken hi (SA := [8]) (SB := [0]) (by kernel_rfl) (mem_mem hA.1 kA) (by rw [hB]; decide)
  · exact not_taken hi (SA := [1]) (SB := l8) (by kernel_rfl) mem_z (cA_mem _)
  · exact not_taken hi (SA := [0]) (SB := l8) (by kernel_rfl) (by rw [hA]; decide) (cA_mem _)
theorem ex_17 {c : Int} {A B : On} {rep : Bool} {l : Int} (hi : isB ⟨17, c, A, B, rep, l⟩ = true) (hAm : 0 ≤ A.m ∧ A.m ≤ 4294967295) (hBm : 0 ≤ B.m ∧ B.m ≤ 4294967295) : ∃ w, w ∈ waysL ⟨17, c, A, B, rep, l⟩ := by
  rw [wl_17]
  rcases formsW hAm with ⟨rA, hA1, hA2, rfl⟩ | ⟨mA, mA1, mA2, rfl⟩ | ⟨hA, kA⟩ | rfl | hA
  · have hA : 0 ≤ rA ∧ rA < 8 := ⟨hA1, hA2⟩
    rcases formsW hBm with ⟨rB, hB1, hB2, rfl⟩ | ⟨mB, mB1, mB2, rfl⟩ | ⟨hB, kB⟩ | rfl | hB
    · exact not_taken hi (SA := [2, 6]) (SB := [2, 6]) (by kernel_rfl) (mem_reg ⟨hA1, hA2⟩) (mem_reg ⟨hB1, hB2⟩)
    · exact not_taken hi (SA := [2, 6]) (SB := [16, 48, 112]) (by kernel_rfl) (mem_reg ⟨hA1, hA2⟩) (mem_imm _)
    · exact not_taken hi (SA := [2, 6]) (SB := [8]) (by kernel_rfl) (mem_reg ⟨hA1, hA2⟩) (mem_mem hB.1 kB)
    · have mXA := fun n => Classical.choose_spec (mod_ex (reg_RMb ⟨hA1, hA2⟩) n)
      exact ⟨_, in_mW (mXA _) rfl⟩
    · exact not_taken hi (SA := [2, 6]) (SB := [0]) (by kernel_rfl) (mem_reg ⟨hA1, hA2⟩) (by rw [hB]; decide)
  · exact not_taken hi (SA := [16, 48, 112]) (SB := l8) (by kernel_rfl) (mem_imm _) (cA_mem _)
  · rcases formsW hBm with ⟨rB, hB1, hB2, rfl⟩ | ⟨mB, mB1, mB2, rfl⟩ | ⟨hB, kB⟩ | rfl | hB
    · exact not_taken hi (SA := [8]) (SB := [2, 6]) (by kernel_rfl) (mem_mem hA.1 kA) (mem_reg ⟨hB1, hB2⟩)
    · exact not_taken hi (SA := [8]) (SB := [16, 48, 112]) (by kernel_rfl) (mem_mem hA.1 kA) (mem_imm _)
    · exact not_taken hi (SA := [8]) (SB := [8]) (by kernel_rfl) (mem_mem hA.1 kA) (mem_mem hB.1 kB)
    · have mXA := fun n => Classical.choose_spec (mod_ex (hA) n)
      exact ⟨_, in_mW (mXA _) rfl⟩
    · exact not_taken hi (SA := [8]) (SB := [0]) (by kernel_rfl) (mem_mem hA.1 kA) (by rw [hB]; decide)
  · exact not_taken hi (SA := [1]) (SB := l8) (by kernel_rfl) mem_z (cA_mem _)
  · exact not_taken hi (SA := [0]) (SB := l8) (by kernel_rfl) (by rw [hA]; decide) (cA_mem _)
theorem ex_18 {c : Int} {A B : On} {rep : Bool} {l : Int} (hi : isB ⟨18, c, A, B, rep, l⟩ = true) (hAm : 0 ≤ A.m ∧ A.m ≤ 4294967295) (hBm : 0 ≤ B.m ∧ B.m ≤ 4294967295) : ∃ w, w ∈ waysL ⟨18, c, A, B, rep, l⟩ := by
  rw [wl_18]
  rcases formsW hAm with ⟨rA, hA1, hA2, rfl⟩ | ⟨mA, mA1, mA2, rfl⟩ | ⟨hA, kA⟩ | rfl | hA
  · have hA : 0 ≤ rA ∧ rA < 8 := ⟨hA1, hA2⟩
    rcases formsW hBm with ⟨rB, hB1, hB2, rfl⟩ | ⟨mB, mB1, mB2, rfl⟩ | ⟨hB, kB⟩ | rfl | hB
    · have mXA := fun n => Classical.choose_spec (mod_ex (reg_RMb ⟨hA1, hA2⟩) n)
      have mXB := fun n => Classical.choose_spec (mod_ex (reg_RMb ⟨hB1, hB2⟩) n)
      exact ⟨_, in_mW (mXB _) rfl⟩
    · exact not_taken hi (SA := [2, 6]) (SB := [16, 48, 112]) (by kernel_rfl) (mem_reg ⟨hA1, hA2⟩) (mem_imm _)
    · have mXA := fun n => Classical.choose_spec (mod_ex (reg_RMb ⟨hA1, hA2⟩) n)
      have mXB := fun n => Classical.choose_spec (mod_ex (hB) n)
      exact ⟨_, in_mW (mXB _) rfl⟩
    · exact not_taken hi (SA := [2, 6]) (SB := [1]) (by kernel_rfl) (mem_reg ⟨hA1, hA2⟩) mem_z
    · exact not_taken hi (SA := [2, 6]) (SB := [0]) (by kernel_rfl) (mem_reg ⟨hA1, hA2⟩) (by rw [hB]; decide)
  · exact not_taken hi (SA := [16, 48, 112]) (SB := l8) (by kernel_rfl) (mem_imm _) (cA_mem _)
  · exact not_taken hi (SA := [8]) (SB := l8) (by kernel_rfl) (mem_mem hA.1 kA) (cA_mem _)
  · exact not_taken hi (SA := [1]) (SB := l8) (by kernel_rfl) mem_z (cA_mem _)
  · exact not_taken hi (SA := [0]) (SB := l8) (by kernel_rfl) (by rw [hA]; decide) (cA_mem _)
theorem ex_19 {c : Int} {A B : On} {rep : Bool} {l : Int} (hi : isB ⟨19, c, A, B, rep, l⟩ = true) (hAm : 0 ≤ A.m ∧ A.m ≤ 4294967295) (hBm : 0 ≤ B.m ∧ B.m ≤ 4294967295) : ∃ w, w ∈ waysL ⟨19, c, A, B, rep, l⟩ := by
  rw [wl_19]
  rcases formsW hAm with ⟨rA, hA1, hA2, rfl⟩ | ⟨mA, mA1, mA2, rfl⟩ | ⟨hA, kA⟩ | rfl | hA
  · have hA : 0 ≤ rA ∧ rA < 8 := ⟨hA1, hA2⟩
    rcases formsW hBm with ⟨rB, hB1, hB2, rfl⟩ | ⟨mB, mB1, mB2, rfl⟩ | ⟨hB, kB⟩ | rfl | hB
    · exact not_taken hi (SA := [2, 6]) (SB := [2, 6]) (by kernel_rfl) (mem_reg ⟨hA1, hA2⟩) (mem_reg ⟨hB1, hB2⟩)
    · exact not_taken hi (SA := [2, 6]) (SB := [16, 48, 112]) (by kernel_rfl) (mem_reg ⟨hA1, hA2⟩) (mem_imm _)
    · exact not_taken hi (SA := [2, 6]) (SB := [8]) (by kernel_rfl) (mem_reg ⟨hA1, hA2⟩) (mem_mem hB.1 kB)
    · have mXA := fun n => Classical.choose_spec (mod_ex (reg_RMb ⟨hA1, hA2⟩) n)
      exact ⟨_, in_mW (mXA _) rfl⟩
    · exact not_taken hi (SA := [2, 6]) (SB := [0]) (by kernel_rfl) (mem_reg ⟨hA1, hA2⟩) (by rw [hB]; decide)
  · exact not_taken hi (SA := [16, 48, 112]) (SB := l8) (by kernel_rfl) (mem_imm _) (cA_mem _)
  · rcases formsW hBm with ⟨rB, hB1, hB2, rfl⟩ | ⟨mB, mB1, mB2, rfl⟩ | ⟨hB, kB⟩ | rfl | hB
    · exact not_taken hi (SA := [8]) (SB := [2, 6]) (by kernel_rfl) (mem_mem hA.1 kA) (mem_reg ⟨hB1, hB2⟩)
    · exact not_taken hi (SA := [8]) (SB := [16, 48, 112]) (by kernel_rfl) (mem_mem hA.1 kA) (mem_imm _)
    · exact not_taken hi (SA := [8]) (SB := [8]) (by kernel_rfl) (mem_mem hA.1 kA) (mem_mem hB.1 kB)
    · have mXA := fun n => Classical.choose_spec (mod_ex (hA) n)
      exact ⟨_, in_mW (mXA _) rfl⟩
    · exact not_taken hi (SA := [8]) (SB := [0]) (by kernel_rfl) (mem_mem hA.1 kA) (by rw [hB]; decide)
  · exact not_taken hi (SA := [1]) (SB := l8) (by kernel_rfl) mem_z (cA_mem _)
  · exact not_taken hi (SA := [0]) (SB := l8) (by kernel_rfl) (by rw [hA]; decide) (cA_mem _)
theorem ex_20 {c : Int} {A B : On} {rep : Bool} {l : Int} (hi : isB ⟨20, c, A, B, rep, l⟩ = true) (hAm : 0 ≤ A.m ∧ A.m ≤ 4294967295) (hBm : 0 ≤ B.m ∧ B.m ≤ 4294967295) : ∃ w, w ∈ waysL ⟨20, c, A, B, rep, l⟩ := by
  rw [wl_20]
  rcases formsW hAm with ⟨rA, hA1, hA2, rfl⟩ | ⟨mA, mA1, mA2, rfl⟩ | ⟨hA, kA⟩ | rfl | hA
  · have hA : 0 ≤ rA ∧ rA < 8 := ⟨hA1, hA2⟩
    rcases formsW hBm with ⟨rB, hB1, hB2, rfl⟩ | ⟨mB, mB1, mB2, rfl⟩ | ⟨hB, kB⟩ | rfl | hB
    · exact not_taken hi (SA := [2, 6]) (SB := [2, 6]) (by kernel_rfl) (mem_reg ⟨hA1, hA2⟩) (mem_reg ⟨hB1, hB2⟩)
    · exact not_taken hi (SA := [2, 6]) (SB := [16, 48, 112]) (by kernel_rfl) (mem_reg ⟨hA1, hA2⟩) (mem_imm _)
    · exact not_taken hi (SA := [2, 6]) (SB := [8]) (by kernel_rfl) (mem_reg ⟨hA1, hA2⟩) (mem_mem hB.1 kB)
    · have mXA := fun n => Classical.choose_spec (mod_ex (reg_RMb ⟨hA1, hA2⟩) n)
      exact ⟨_, in_mW (mXA _) rfl⟩
    · exact not_taken hi (SA := [2, 6]) (SB := [0]) (by kernel_rfl) (mem_reg ⟨hA1, hA2⟩) (by rw [hB]; decide)
  · exact not_taken hi (SA := [16, 48, 112]) (SB := l8) (by kernel_rfl) (mem_imm _) (cA_mem _)
  · rcases formsW hBm with ⟨rB, hB1, hB2, rfl⟩ | ⟨mB, mB1, mB2, rfl⟩ | ⟨hB, kB⟩ | rfl | hB
    · exact not_taken hi (SA := [8]) (SB := [2, 6]) (by kernel_rfl) (mem_mem hA.1 kA) (mem_reg ⟨hB1, hB2⟩)
    · exact not_taken hi (SA := [8]) (SB := [16, 48, 112]) (by kernel_rfl) (mem_mem hA.1 kA) (mem_imm _)
    · exact not_taken hi (SA := [8]) (SB := [8]) (by kernel_rfl) (mem_mem hA.1 kA) (mem_mem hB.1 kB)
    · have mXA := fun n => Classical.choose_spec (mod_ex (hA) n)
      exact ⟨_, in_mW (mXA _) rfl⟩
    · exact not_taken hi (SA := [8]) (SB := [0]) (by kernel_rfl) (mem_mem hA.1 kA) (by rw [hB]; decide)
  · exact not_taken hi (SA := [1]) (SB := l8) (by kernel_rfl) mem_z (cA_mem _)
  · exact not_taken hi (SA := [0]) (SB := l8) (by kernel_rfl) (by rw [hA]; decide) (cA_mem _)
theorem ex_21 {c : Int} {A B : On} {rep : Bool} {l : Int} (hi : isB ⟨21, c, A, B, rep, l⟩ = true) (hAm : 0 ≤ A.m ∧ A.m ≤ 4294967295) (hBm : 0 ≤ B.m ∧ B.m ≤ 4294967295) : ∃ w, w ∈ waysL ⟨21, c, A, B, rep, l⟩ := by
  rw [wl_21]
  rcases formsW hAm with ⟨rA, hA1, hA2, rfl⟩ | ⟨mA, mA1, mA2, rfl⟩ | ⟨hA, kA⟩ | rfl | hA
  · have hA : 0 ≤ rA ∧ rA < 8 := ⟨hA1, hA2⟩
    rcases formsW hBm with ⟨rB, hB1, hB2, rfl⟩ | ⟨mB, mB1, mB2, rfl⟩ | ⟨hB, kB⟩ | rfl | hB
    · have mXA := fun n => Classical.choose_spec (mod_ex (reg_RMb ⟨hA1, hA2⟩) n)
      have mXB := fun n => Classical.choose_spec (mod_ex (reg_RMb ⟨hB1, hB2⟩) n)
      exact ⟨_, by rw [if_pos (kR _)]; exact in_mW (mXA _) rfl⟩
    · have mXA := fun n => Classical.choose_spec (mod_ex (reg_RMb ⟨hA1, hA2⟩) n)
      exact ⟨_, by rw [if_neg (nI1 _)]; exact List.mem_append_right _ (in_b1 (in_mW (mXA _) rfl) rfl)⟩
    · exact not_taken hi (SA := [2, 6]) (SB := [8]) (by kernel_rfl) (mem_reg ⟨hA1, hA2⟩) (mem_mem hB.1 kB)
    · exact not_taken hi (SA := [2, 6]) (SB := [1]) (by kernel_rfl) (mem_reg ⟨hA1, hA2⟩) mem_z
    · exact not_taken hi (SA := [2, 6]) (SB := [0]) (by kernel_rfl) (mem_reg ⟨hA1, hA2⟩) (by rw [hB]; decide)
  · exact not_taken hi (SA := [16, 48, 112]) (SB := l8) (by kernel_rfl) (mem_imm _) (cA_mem _)
  · rcases formsW hBm with ⟨rB, hB1, hB2, rfl⟩ | ⟨mB, mB1, mB2, rfl⟩ | ⟨hB, kB⟩ | rfl | hB
    · have mXA := fun n => Classical.choose_spec (mod_ex (hA) n)
      have mXB := fun n => Classical.choose_spec (mod_ex (reg_RMb ⟨hB1, hB2⟩) n)
      exact ⟨_, by rw [if_pos (kR _)]; exact in_mW (mXA _) rfl⟩
    · have mXA := fun n => Classical.choose_spec (mod_ex (hA) n)
      exact ⟨_, by rw [if_neg (nI1 _)]; exact List.mem_append_right _ (in_b1 (in_mW (mXA _) rfl) rfl)⟩
    · exact not_taken hi (SA := [8]) (SB := [8]) (by kernel_rfl) (mem_mem hA.1 kA) (mem_mem hB.1 kB)
    · exact not_taken hi (SA := [8]) (SB := [1]) (by kernel_rfl) (mem_mem hA.1 kA) mem_z
    · exact not_taken hi (SA := [8]) (SB := [0]) (by kernel_rfl) (mem_mem hA.1 kA) (by rw [hB]; decide)
  · exact not_taken hi (SA := [1]) (SB := l8) (by kernel_rfl) mem_z (cA_mem _)
  · exact not_taken hi (SA := [0]) (SB := l8) (by kernel_rfl) (by rw [hA]; decide) (cA_mem _)
theorem ex_22 {c : Int} {A B : On} {rep : Bool} {l : Int} (hi : isB ⟨22, c, A, B, rep, l⟩ = true) (hAm : 0 ≤ A.m ∧ A.m ≤ 4294967295) (hBm : 0 ≤ B.m ∧ B.m ≤ 4294967295) : ∃ w, w ∈ waysL ⟨22, c, A, B, rep, l⟩ := by
  rw [wl_22]
  rcases formsW hAm with ⟨rA, hA1, hA2, rfl⟩ | ⟨mA, mA1, mA2, rfl⟩ | ⟨hA, kA⟩ | rfl | hA
  · have hA : 0 ≤ rA ∧ rA < 8 := ⟨hA1, hA2⟩
    rcases formsW hBm with ⟨rB, hB1, hB2, rfl⟩ | ⟨mB, mB1, mB2, rfl⟩ | ⟨hB, kB⟩ | rfl | hB
    · have mXA := fun n => Classical.choose_spec (mod_ex (reg_RMb ⟨hA1, hA2⟩) n)
      have mXB := fun n => Classical.choose_spec (mod_ex (reg_RMb ⟨hB1, hB2⟩) n)
      exact ⟨_, by rw [if_pos (kR _)]; exact in_mW (mXA _) rfl⟩
    · have mXA := fun n => Classical.choose_spec (mod_ex (reg_RMb ⟨hA1, hA2⟩) n)
      exact ⟨_, by rw [if_neg (nI1 _)]; exact List.mem_append_right _ (in_b1 (in_mW (mXA _) rfl) rfl)⟩
    · exact not_taken hi (SA := [2, 6]) (SB := [8]) (by kernel_rfl) (mem_reg ⟨hA1, hA2⟩) (mem_mem hB.1 kB)
    · exact not_taken hi (SA := [2, 6]) (SB := [1]) (by kernel_rfl) (mem_reg ⟨hA1, hA2⟩) mem_z
    · exact not_taken hi (SA := [2, 6]) (SB := [0]) (by kernel_rfl) (mem_reg ⟨hA1, hA2⟩) (by rw [hB]; decide)
  · exact not_taken hi (SA := [16, 48, 112]) (SB := l8) (by kernel_rfl) (mem_imm _) (cA_mem _)
  · rcases formsW hBm with ⟨rB, hB1, hB2, rfl⟩ | ⟨mB, mB1, mB2, rfl⟩ | ⟨hB, kB⟩ | rfl | hB
    · have mXA := fun n => Classical.choose_spec (mod_ex (hA) n)
      have mXB := fun n => Classical.choose_spec (mod_ex (reg_RMb ⟨hB1, hB2⟩) n)
      exact ⟨_, by rw [if_pos (kR _)]; exact in_mW (mXA _) rfl⟩
    · have mXA := fun n => Classical.choose_spec (mod_ex (hA) n)
      exact ⟨_, by rw [if_neg (nI1 _)]; exact List.mem_append_right _ (in_b1 (in_mW (mXA _) rfl) rfl)⟩
    · exact not_taken hi (SA := [8]) (SB := [8]) (by kernel_rfl) (mem_mem hA.1 kA) (mem_mem hB.1 kB)
    · exact not_taken hi (SA := [8]) (SB := [1]) (by kernel_rfl) (mem_mem hA.1 kA) mem_z
    · exact not_taken hi (SA := [8]) (SB := [0]) (by kernel_rfl) (mem_mem hA.1 kA) (by rw [hB]; decide)
  · exact not_taken hi (SA := [1]) (SB := l8) (by kernel_rfl) mem_z (cA_mem _)
  · exact not_taken hi (SA := [0]) (SB := l8) (by kernel_rfl) (by rw [hA]; decide) (cA_mem _)
theorem ex_23 {c : Int} {A B : On} {rep : Bool} {l : Int} (hi : isB ⟨23, c, A, B, rep, l⟩ = true) (hAm : 0 ≤ A.m ∧ A.m ≤ 4294967295) (hBm : 0 ≤ B.m ∧ B.m ≤ 4294967295) : ∃ w, w ∈ waysL ⟨23, c, A, B, rep, l⟩ := by
  rw [wl_23]
  rcases formsW hAm with ⟨rA, hA1, hA2, rfl⟩ | ⟨mA, mA1, mA2, rfl⟩ | ⟨hA, kA⟩ | rfl | hA
  · have hA : 0 ≤ rA ∧ rA < 8 := ⟨hA1, hA2⟩
    rcases formsW hBm with ⟨rB, hB1, hB2, rfl⟩ | ⟨mB, mB1, mB2, rfl⟩ | ⟨hB, kB⟩ | rfl | hB
    · have mXA := fun n => Classical.choose_spec (mod_ex (reg_RMb ⟨hA1, hA2⟩) n)
      have mXB := fun n => Classical.choose_spec (mod_ex (reg_RMb ⟨hB1, hB2⟩) n)
      exact ⟨_, by rw [if_pos (kR _)]; exact in_mW (mXA _) rfl⟩
    · have mXA := fun n => Classical.choose_spec (mod_ex (reg_RMb ⟨hA1, hA2⟩) n)
      exact ⟨_, by rw [if_neg (nI1 _)]; exact List.mem_append_right _ (in_b1 (in_mW (mXA _) rfl) rfl)⟩
    · exact not_taken hi (SA := [2, 6]) (SB := [8]) (by kernel_rfl) (mem_reg ⟨hA1, hA2⟩) (mem_mem hB.1 kB)
    · exact not_taken hi (SA := [2, 6]) (SB := [1]) (by kernel_rfl) (mem_reg ⟨hA1, hA2⟩) mem_z
    · exact not_taken hi (SA := [2, 6]) (SB := [0]) (by kernel_rfl) (mem_reg ⟨hA1, hA2⟩) (by rw [hB]; decide)
  · exact not_taken hi (SA := [16, 48, 112]) (SB := l8) (by kernel_rfl) (mem_imm _) (cA_mem _)
  · rcases formsW hBm with ⟨rB, hB1, hB2, rfl⟩ | ⟨mB, mB1, mB2, rfl⟩ | ⟨hB, kB⟩ | rfl | hB
    · have mXA := fun n => Classical.choose_spec (mod_ex (hA) n)
      have mXB := fun n => Classical.choose_spec (mod_ex (reg_RMb ⟨hB1, hB2⟩) n)
      exact ⟨_, by rw [if_pos (kR _)]; exact in_mW (mXA _) rfl⟩
    · have mXA := fun n => Classical.choose_spec (mod_ex (hA) n)
      exact ⟨_, by rw [if_neg (nI1 _)]; exact List.mem_append_right _ (in_b1 (in_mW (mXA _) rfl) rfl)⟩
    · exact not_taken hi (SA := [8]) (SB := [8]) (by kernel_rfl) (mem_mem hA.1 kA) (mem_mem hB.1 kB)
    · exact not_taken hi (SA := [8]) (SB := [1]) (by kernel_rfl) (mem_mem hA.1 kA) mem_z
    · exact not_taken hi (SA := [8]) (SB := [0]) (by kernel_rfl) (mem_mem hA.1 kA) (by rw [hB]; decide)
  · exact not_taken hi (SA := [1]) (SB := l8) (by kernel_rfl) mem_z (cA_mem _)
  · exact not_taken hi (SA := [0]) (SB := l8) (by kernel_rfl) (by rw [hA]; decide) (cA_mem _)
theorem ex_24 {c : Int} {A B : On} {rep : Bool} {l : Int} (hi : isB ⟨24, c, A, B, rep, l⟩ = true) (hAm : 0 ≤ A.m ∧ A.m ≤ 4294967295) (hBm : 0 ≤ B.m ∧ B.m ≤ 4294967295) : ∃ w, w ∈ waysL ⟨24, c, A, B, rep, l⟩ := by
  rw [wl_24]
  rcases formsW hAm with ⟨rA, hA1, hA2, rfl⟩ | ⟨mA, mA1, mA2, rfl⟩ | ⟨hA, kA⟩ | rfl | hA
  · have hA : 0 ≤ rA ∧ rA < 8 := ⟨hA1, hA2⟩
    rcases formsW hBm with ⟨rB, hB1, hB2, rfl⟩ | ⟨mB, mB1, mB2, rfl⟩ | ⟨hB, kB⟩ | rfl | hB
    · have mXA := fun n => Classical.choose_spec (mod_ex (reg_RMb ⟨hA1, hA2⟩) n)
      have mXB := fun n => Classical.choose_spec (mod_ex (reg_RMb ⟨hB1, hB2⟩) n)
      exact ⟨_, by rw [if_pos (kR _)]; exact in_mW (mXA _) rfl⟩
    · have mXA := fun n => Classical.choose_spec (mod_ex (reg_RMb ⟨hA1, hA2⟩) n)
      exact ⟨_, by rw [if_neg (nI1 _)]; exact List.mem_append_right _ (in_b1 (in_mW (mXA _) rfl) rfl)⟩
    · exact not_taken hi (SA := [2, 6]) (SB := [8]) (by kernel_rfl) (mem_reg ⟨hA1, hA2⟩) (mem_mem hB.1 kB)
    · exact not_taken hi (SA := [2, 6]) (SB := [1]) (by kernel_rfl) (mem_reg ⟨hA1, hA2⟩) mem_z
    · exact not_taken hi (SA := [2, 6]) (SB := [0]) (by kernel_rfl) (mem_reg ⟨hA1, hA2⟩) (by rw [hB]; decide)
  · exact not_taken hi (SA := [16, 48, 112]) (SB := l8) (by kernel_rfl) (mem_imm _) (cA_mem _)
  · rcases formsW hBm with ⟨rB, hB1, hB2, rfl⟩ | ⟨mB, mB1, mB2, rfl⟩ | ⟨hB, kB⟩ | rfl | hB
    · have mXA := fun n => Classical.choose_spec (mod_ex (hA) n)
      have mXB := fun n => Classical.choose_spec (mod_ex (reg_RMb ⟨hB1, hB2⟩) n)
      exact ⟨_, by rw [if_pos (kR _)]; exact in_mW (mXA _) rfl⟩
    · have mXA := fun n => Classical.choose_spec (mod_ex (hA) n)
      exact ⟨_, by rw [if_neg (nI1 _)]; exact List.mem_append_right _ (in_b1 (in_mW (mXA _) rfl) rfl)⟩
    · exact not_taken hi (SA := [8]) (SB := [8]) (by kernel_rfl) (mem_mem hA.1 kA) (mem_mem hB.1 kB)
    · exact not_taken hi (SA := [8]) (SB := [1]) (by kernel_rfl) (mem_mem hA.1 kA) mem_z
    · exact not_taken hi (SA := [8]) (SB := [0]) (by kernel_rfl) (mem_mem hA.1 kA) (by rw [hB]; decide)
  · exact not_taken hi (SA := [1]) (SB := l8) (by kernel_rfl) mem_z (cA_mem _)
  · exact not_taken hi (SA := [0]) (SB := l8) (by kernel_rfl) (by rw [hA]; decide) (cA_mem _)
theorem ex_25 {c : Int} {A B : On} {rep : Bool} {l : Int} (hi : isB ⟨25, c, A, B, rep, l⟩ = true) (hAm : 0 ≤ A.m ∧ A.m ≤ 4294967295) (hBm : 0 ≤ B.m ∧ B.m ≤ 4294967295) : ∃ w, w ∈ waysL ⟨25, c, A, B, rep, l⟩ := by
  rw [wl_25]
  rcases formsW hAm with ⟨rA, hA1, hA2, rfl⟩ | ⟨mA, mA1, mA2, rfl⟩ | ⟨hA, kA⟩ | rfl | hA
  · have hA : 0 ≤ rA ∧ rA < 8 := ⟨hA1, hA2⟩
    rcases formsW hBm with ⟨rB, hB1, hB2, rfl⟩ | ⟨mB, mB1, mB2, rfl⟩ | ⟨hB, kB⟩ | rfl | hB
    · have mXA := fun n => Classical.choose_spec (mod_ex (reg_RMb ⟨hA1, hA2⟩) n)
      have mXB := fun n => Classical.choose_spec (mod_ex (reg_RMb ⟨hB1, hB2⟩) n)
      exact ⟨_, by rw [if_pos (kR _)]; exact in_mW (mXA _) rfl⟩
    · have mXA := fun n => Classical.choose_spec (mod_ex (reg_RMb ⟨hA1, hA2⟩) n)
      exact ⟨_, by rw [if_neg (nI1 _)]; exact List.mem_append_right _ (in_b1 (in_mW (mXA _) rfl) rfl)⟩
    · exact not_taken hi (SA := [2, 6]) (SB := [8]) (by kernel_rfl) (mem_reg ⟨hA1, hA2⟩) (mem_mem hB.1 kB)
    · exact not_taken hi (SA := [2, 6]) (SB := [1]) (by kernel_rfl) (mem_reg ⟨hA1, hA2⟩) mem_z
    · exact not_taken hi (SA := [2, 6]) (SB := [0]) (by kernel_rfl) (mem_reg ⟨hA1, hA2⟩) (by rw [hB]; decide)
  · exact not_taken hi (SA := [16, 48, 112]) (SB := l8) (by kernel_rfl) (mem_imm _) (cA_mem _)
  · rcases formsW hBm with ⟨rB, hB1, hB2, rfl⟩ | ⟨mB, mB1, mB2, rfl⟩ | ⟨hB, kB⟩ | rfl | hB
    · have mXA := fun n => Classical.choose_spec (mod_ex (hA) n)
      have mXB := fun n => Classical.choose_spec (mod_ex (reg_RMb ⟨hB1, hB2⟩) n)
      exact ⟨_, by rw [if_pos (kR _)]; exact in_mW (mXA _) rfl⟩
    · have mXA := fun n => Classical.choose_spec (mod_ex (hA) n)
      exact ⟨_, by rw [if_neg (nI1 _)]; exact List.mem_append_right _ (in_b1 (in_mW (mXA _) rfl) rfl)⟩
    · exact not_taken hi (SA := [8]) (SB := [8]) (by kernel_rfl) (mem_mem hA.1 kA) (mem_mem hB.1 kB)
    · exact not_taken hi (SA := [8]) (SB := [1]) (by kernel_rfl) (mem_mem hA.1 kA) mem_z
    · exact not_taken hi (SA := [8]) (SB := [0]) (by kernel_rfl) (mem_mem hA.1 kA) (by rw [hB]; decide)
  · exact not_taken hi (SA := [1]) (SB := l8) (by kernel_rfl) mem_z (cA_mem _)
  · exact not_taken hi (SA := [0]) (SB := l8) (by kernel_rfl) (by rw [hA]; decide) (cA_mem _)
theorem ex_26 {c : Int} {A B : On} {rep : Bool} {l : Int} (hi : isB ⟨26, c, A, B, rep, l⟩ = true) (hAm : 0 ≤ A.m ∧ A.m ≤ 4294967295) (hBm : 0 ≤ B.m ∧ B.m ≤ 4294967295) : ∃ w, w ∈ waysL ⟨26, c, A, B, rep, l⟩ := by
  rw [wl_26]
  rcases formsW hAm with ⟨rA, hA1, hA2, rfl⟩ | ⟨mA, mA1, mA2, rfl⟩ | ⟨hA, kA⟩ | rfl | hA
  · have hA : 0 ≤ rA ∧ rA < 8 := ⟨hA1, hA2⟩
    rcases formsW hBm with ⟨rB, hB1, hB2, rfl⟩ | ⟨mB, mB1, mB2, rfl⟩ | ⟨hB, kB⟩ | rfl | hB
    · exact not_taken hi (SA := [2, 6]) (SB := [2, 6]) (by kernel_rfl) (mem_reg ⟨hA1, hA2⟩) (mem_reg ⟨hB1, hB2⟩)
    · exact not_taken hi (SA := [2, 6]) (SB := [16, 48, 112]) (by kernel_rfl) (mem_reg ⟨hA1, hA2⟩) (mem_imm _)
    · have mXA := fun n => Classical.choose_spec (mod_ex (reg_RMb ⟨hA1, hA2⟩) n)
      have mXB := fun n => Classical.choose_spec (mod_ex (hB) n)
      exact ⟨_, in_mW (mXB _) rfl⟩
    · exact not_taken hi (SA := [2, 6]) (SB := [1]) (by kernel_rfl) (mem_reg ⟨hA1, hA2⟩) mem_z
    · exact not_taken hi (SA := [2, 6]) (SB := [0]) (by kernel_rfl) (mem_reg ⟨hA1, hA2⟩) (by rw [hB]; decide)
  · exact not_taken hi (SA := [16, 48, 112]) (SB := l8) (by kernel_rfl) (mem_imm _) (cA_mem _)
  · exact not_taken hi (SA := [8]) (SB := l8) (by kernel_rfl) (mem_mem hA.1 kA) (cA_mem _)
  · exact not_taken hi (SA := [1]) (SB := l8) (by kernel_rfl) mem_z (cA_mem _)
  · exact not_taken hi (SA := [0]) (SB := l8) (by kernel_rfl) (by rw [hA]; decide) (cA_mem _)
theorem ex_27 {c : Int} {A B : On} {rep : Bool} {l : Int} (hi : isB ⟨27, c, A, B, rep, l⟩ = true) (hAm : 0 ≤ A.m ∧ A.m ≤ 4294967295) (hBm : 0 ≤ B.m ∧ B.m ≤ 4294967295) : ∃ w, w ∈ waysL ⟨27, c, A, B, rep, l⟩ := by
  rw [wl_27]
  rcases formsW hAm with ⟨rA, hA1, hA2, rfl⟩ | ⟨mA, mA1, mA2, rfl⟩ | ⟨hA, kA⟩ | rfl | hA
  · have hA : 0 ≤ rA ∧ rA < 8 := ⟨hA1, hA2⟩
    rcases formsW hBm with ⟨rB, hB1, hB2, rfl⟩ | ⟨mB, mB1, mB2, rfl⟩ | ⟨hB, kB⟩ | rfl | hB
    · have mXA := fun n => Classical.choose_spec (mod_ex (reg_RMb ⟨hA1, hA2⟩) n)
      have mXB := fun n => Classical.choose_spec (mod_ex (reg_RMb ⟨hB1, hB2⟩) n)
      exact ⟨_, in_mW (mXA _) rfl⟩
    · exact not_taken hi (SA := [2, 6]) (SB := [16, 48, 112]) (by kernel_rfl) (mem_reg ⟨hA1, hA2⟩) (mem_imm _)
    · exact not_taken hi (SA := [2, 6]) (SB := [8]) (by kernel_rfl) (mem_reg ⟨hA1, hA2⟩) (mem_mem hB.1 kB)
    · exact not_taken hi (SA := [2, 6]) (SB := [1]) (by kernel_rfl) (mem_reg ⟨hA1, hA2⟩) mem_z
    · exact not_taken hi (SA := [2, 6]) (SB := [0]) (by kernel_rfl) (mem_reg ⟨hA1, hA2⟩) (by rw [hB]; decide)
  · exact not_taken hi (SA := [16, 48, 112]) (SB := l8) (by kernel_rfl) (mem_imm _) (cA_mem _)
  · rcases formsW hBm with ⟨rB, hB1, hB2, rfl⟩ | ⟨mB, mB1, mB2, rfl⟩ | ⟨hB, kB⟩ | rfl | hB
    · have mXA := fun n => Classical.choose_spec (mod_ex (hA) n)
      have mXB := fun n => Classical.choose_spec (mod_ex (reg_RMb ⟨hB1, hB2⟩) n)
      exact ⟨_, in_mW (mXA _) rfl⟩
    · exact not_taken hi (SA := [8]) (SB := [16, 48, 112]) (by kernel_rfl) (mem_mem hA.1 kA) (mem_imm _)
    · exact not_taken hi (SA := [8]) (SB := [8]) (by kernel_rfl) (mem_mem hA.1 kA) (mem_mem hB.1 kB)
    · exact not_taken hi (SA := [8]) (SB := [1]) (by kernel_rfl) (mem_mem hA.1 kA) mem_z
    · exact not_taken hi (SA := [8]) (SB := [0]) (by kernel_rfl) (mem_mem hA.1 kA) (by rw [hB]; decide)
  · exact not_taken hi (SA := [1]) (SB := l8) (by kernel_rfl) mem_z (cA_mem _)
  · exact not_taken hi (SA := [0]) (SB := l8) (by kernel_rfl) (by rw [hA]; decide) (cA_mem _)
theorem ex_28 {c : Int} {A B : On} {rep : Bool} {l : Int} (hi : isB ⟨28, c, A, B, rep, l⟩ = true) (hAm : 0 ≤ A.m ∧ A.m ≤ 4294967295) (hBm : 0 ≤ B.m ∧ B.m ≤ 4294967295) : ∃ w, w ∈ waysL ⟨28, c, A, B, rep, l⟩ := by
  rw [wl_28]
  rcases formsW hAm with ⟨rA, hA1, hA2, rfl⟩ | ⟨mA, mA1, mA2, rfl⟩ | ⟨hA, kA⟩ | rfl | hA
  · have hA : 0 ≤ rA ∧ rA < 8 := ⟨hA1, hA2⟩
    rcases formsW hBm with ⟨rB, hB1, hB2, rfl⟩ | ⟨mB, mB1, mB2, rfl⟩ | ⟨hB, kB⟩ | rfl | hB
    · exact not_taken hi (SA := [2, 6]) (SB := [2, 6]) (by kernel_rfl) (mem_reg ⟨hA1, hA2⟩) (mem_reg ⟨hB1, hB2⟩)
    · exact not_taken hi (SA := [2, 6]) (SB := [16, 48, 112]) (by kernel_rfl) (mem_reg ⟨hA1, hA2⟩) (mem_imm _)
    · exact not_taken hi (SA := [2, 6]) (SB := [8]) (by kernel_rfl) (mem_reg ⟨hA1, hA2⟩) (mem_mem hB.1 kB)
    · have mXA := fun n => Classical.choose_spec (mod_ex (reg_RMb ⟨hA1, hA2⟩) n)
      exact ⟨_, by rw [if_neg (nR2 _)]; exact List.mem_append_right _ (in_mW (mXA _) rfl)⟩
    · exact not_taken hi (SA := [2, 6]) (SB := [0]) (by kernel_rfl) (mem_reg ⟨hA1, hA2⟩) (by rw [hB]; decide)
  · rcases formsW hBm with ⟨rB, hB1, hB2, rfl⟩ | ⟨mB, mB1, mB2, rfl⟩ | ⟨hB, kB⟩ | rfl | hB
    · exact not_taken hi (SA := [16, 48, 112]) (SB := [2, 6]) (by kernel_rfl) (mem_imm _) (mem_reg ⟨hB1, hB2⟩)
    · exact not_taken hi (SA := [16, 48, 112]) (SB := [16, 48, 112]) (by kernel_rfl) (mem_imm _) (mem_imm _)
    · exact not_taken hi (SA := [16, 48, 112]) (SB := [8]) (by kernel_rfl) (mem_imm _) (mem_mem hB.1 kB)
    · exact ⟨_, by rw [if_pos (kI _)]; exact List.mem_append_right _ (List.mem_singleton.2 rfl)⟩
    · exact not_taken hi (SA := [16, 48, 112]) (SB := [0]) (by kernel_rfl) (mem_imm _) (by rw [hB]; decide)
  · rcases formsW hBm with ⟨rB, hB1, hB2, rfl⟩ | ⟨mB, mB1, mB2, rfl⟩ | ⟨hB, kB⟩ | rfl | hB
    · exact not_taken hi (SA := [8]) (SB := [2, 6]) (by kernel_rfl) (mem_mem hA.1 kA) (mem_reg ⟨hB1, hB2⟩)
    · exact not_taken hi (SA := [8]) (SB := [16, 48, 112]) (by kernel_rfl) (mem_mem hA.1 kA) (mem_imm _)
    · exact not_taken hi (SA := [8]) (SB := [8]) (by kernel_rfl) (mem_mem hA.1 kA) (mem_mem hB.1 kB)
    · have mXA := fun n => Classical.choose_spec (mod_ex (hA) n)
      exact ⟨_, by rw [if_neg (show ¬ A.k = 2 by rw [kA]; decide)]; exact List.mem_append_right _ (in_mW (mXA _) rfl)⟩
    · exact not_taken hi (SA := [8]) (SB := [0]) (by kernel_rfl) (mem_mem hA.1 kA) (by rw [hB]; decide)
  · exact not_taken hi (SA := [1]) (SB := l8) (by kernel_rfl) mem_z (cA_mem _)
  · exact not_taken hi (SA := [0]) (SB := l8) (by kernel_rfl) (by rw [hA]; decide) (cA_mem _)
theorem ex_29 {c : Int} {A B : On} {rep : Bool} {l : Int} (hi : isB ⟨29, c, A, B, rep, l⟩ = true) (hAm : 0 ≤ A.m ∧ A.m ≤ 4294967295) (hBm : 0 ≤ B.m ∧ B.m ≤ 4294967295) : ∃ w, w ∈ waysL ⟨29, c, A, B, rep, l⟩ := by
  rw [wl_29]
  rcases formsW hAm with ⟨rA, hA1, hA2, rfl⟩ | ⟨mA, mA1, mA2, rfl⟩ | ⟨hA, kA⟩ | rfl | hA
  · have hA : 0 ≤ rA ∧ rA < 8 := ⟨hA1, hA2⟩
    rcases formsW hBm with ⟨rB, hB1, hB2, rfl⟩ | ⟨mB, mB1, mB2, rfl⟩ | ⟨hB, kB⟩ | rfl | hB
    · exact not_taken hi (SA := [2, 6]) (SB := [2, 6]) (by kernel_rfl) (mem_reg ⟨hA1, hA2⟩) (mem_reg ⟨hB1, hB2⟩)
    · exact not_taken hi (SA := [2, 6]) (SB := [16, 48, 112]) (by kernel_rfl) (mem_reg ⟨hA1, hA2⟩) (mem_imm _)
    · exact not_taken hi (SA := [2, 6]) (SB := [8]) (by kernel_rfl) (mem_reg ⟨hA1, hA2⟩) (mem_mem hB.1 kB)
    · have mXA := fun n => Classical.choose_spec (mod_ex (reg_RMb ⟨hA1, hA2⟩) n)
      exact ⟨_, List.mem_singleton.2 rfl⟩
    · exact not_taken hi (SA := [2, 6]) (SB := [0]) (by kernel_rfl) (mem_reg ⟨hA1, hA2⟩) (by rw [hB]; decide)
  · exact not_taken hi (SA := [16, 48, 112]) (SB := l8) (by kernel_rfl) (mem_imm _) (cA_mem _)
  · exact not_taken hi (SA := [8]) (SB := l8) (by kernel_rfl) (mem_mem hA.1 kA) (cA_mem _)
  · exact not_taken hi (SA := [1]) (SB := l8) (by kernel_rfl) mem_z (cA_mem _)
  · exact not_taken hi (SA := [0]) (SB := l8) (by kernel_rfl) (by rw [hA]; decide) (cA_mem _)
theorem ex_30 {c : Int} {A B : On} {rep : Bool} {l : Int} (hi : isB ⟨30, c, A, B, rep, l⟩ = true) (hAm : 0 ≤ A.m ∧ A.m ≤ 4294967295) (hBm : 0 ≤ B.m ∧ B.m ≤ 4294967295) : ∃ w, w ∈ waysL ⟨30, c, A, B, rep, l⟩ := by
  rw [wl_30]
  rcases formsW hAm with ⟨rA, hA1, hA2, rfl⟩ | ⟨mA, mA1, mA2, rfl⟩ | ⟨hA, kA⟩ | rfl | hA
  · have hA : 0 ≤ rA ∧ rA < 8 := ⟨hA1, hA2⟩
    rcases formsW hBm with ⟨rB, hB1, hB2, rfl⟩ | ⟨mB, mB1, mB2, rfl⟩ | ⟨hB, kB⟩ | rfl | hB
    · exact not_taken hi (SA := [2, 6]) (SB := [2, 6]) (by kernel_rfl) (mem_reg ⟨hA1, hA2⟩) (mem_reg ⟨hB1, hB2⟩)
    · exact not_taken hi (SA := [2, 6]) (SB := [16, 48, 112]) (by kernel_rfl) (mem_reg ⟨hA1, hA2⟩) (mem_imm _)
    · exact not_taken hi (SA := [2, 6]) (SB := [8]) (by kernel_rfl) (mem_reg ⟨hA1, hA2⟩) (mem_mem hB.1 kB)
    · have mXA := fun n => Classical.choose_spec (mod_ex (reg_RMb ⟨hA1, hA2⟩) n)
      exact ⟨_, by rw [if_neg (nR2 _)]; exact in_mW (mXA _) rfl⟩
    · exact not_taken hi (SA := [2, 6]) (SB := [0]) (by kernel_rfl) (mem_reg ⟨hA1, hA2⟩) (by rw [hB]; decide)
  · rcases formsW hBm with ⟨rB, hB1, hB2, rfl⟩ | ⟨mB, mB1, mB2, rfl⟩ | ⟨hB, kB⟩ | rfl | hB
    · exact not_taken hi (SA := [16, 48, 112]) (SB := [2, 6]) (by kernel_rfl) (mem_imm _) (mem_reg ⟨hB1, hB2⟩)
    · exact not_taken hi (SA := [16, 48, 112]) (SB := [16, 48, 112]) (by kernel_rfl) (mem_imm _) (mem_imm _)
    · exact not_taken hi (SA := [16, 48, 112]) (SB := [8]) (by kernel_rfl) (mem_imm _) (mem_mem hB.1 kB)
    · exact ⟨_, by rw [if_pos (kI _)]; exact List.mem_singleton.2 rfl⟩
    · exact not_taken hi (SA := [16, 48, 112]) (SB := [0]) (by kernel_rfl) (mem_imm _) (by rw [hB]; decide)
  · rcases formsW hBm with ⟨rB, hB1, hB2, rfl⟩ | ⟨mB, mB1, mB2, rfl⟩ | ⟨hB, kB⟩ | rfl | hB
    · exact not_taken hi (SA := [8]) (SB := [2, 6]) (by kernel_rfl) (mem_mem hA.1 kA) (mem_reg ⟨hB1, hB2⟩)
    · exact not_taken hi (SA := [8]) (SB := [16, 48, 112]) (by kernel_rfl) (mem_mem hA.1 kA) (mem_imm _)
    · exact not_taken hi (SA := [8]) (SB := [8]) (by kernel_rfl) (mem_mem hA.1 kA) (mem_mem hB.1 kB)
    · have mXA := fun n => Classical.choose_spec (mod_ex (hA) n)
      exact ⟨_, by rw [if_neg (show ¬ A.k = 2 by rw [kA]; decide)]; exact in_mW (mXA _) rfl⟩
    · exact not_taken hi (SA := [8]) (SB := [0]) (by kernel_rfl) (mem_mem hA.1 kA) (by rw [hB]; decide)
  · exact not_taken hi (SA := [1]) (SB := l8) (by kernel_rfl) mem_z (cA_mem _)
  · exact not_taken hi (SA := [0]) (SB := l8) (by kernel_rfl) (by rw [hA]; decide) (cA_mem _)
theorem ex_31 {c : Int} {A B : On} {rep : Bool} {l : Int} (hi : isB ⟨31, c, A, B, rep, l⟩ = true) (hAm : 0 ≤ A.m ∧ A.m ≤ 4294967295) (hBm : 0 ≤ B.m ∧ B.m ≤ 4294967295) : ∃ w, w ∈ waysL ⟨31, c, A, B, rep, l⟩ := by
  rw [wl_31]
  rcases formsW hAm with ⟨rA, hA1, hA2, rfl⟩ | ⟨mA, mA1, mA2, rfl⟩ | ⟨hA, kA⟩ | rfl | hA
  · exact not_taken hi (SA := [2, 6]) (SB := l8) (by kernel_rfl) (mem_reg ⟨hA1, hA2⟩) (cA_mem _)
  · exact not_taken hi (SA := [16, 48, 112]) (SB := l8) (by kernel_rfl) (mem_imm _) (cA_mem _)
  · exact not_taken hi (SA := [8]) (SB := l8) (by kernel_rfl) (mem_mem hA.1 kA) (cA_mem _)
  · rcases formsW hBm with ⟨rB, hB1, hB2, rfl⟩ | ⟨mB, mB1, mB2, rfl⟩ | ⟨hB, kB⟩ | rfl | hB
    · exact not_taken hi (SA := [1]) (SB := [2, 6]) (by kernel_rfl) mem_z (mem_reg ⟨hB1, hB2⟩)
    · exact not_taken hi (SA := [1]) (SB := [16, 48, 112]) (by kernel_rfl) mem_z (mem_imm _)
    · exact not_taken hi (SA := [1]) (SB := [8]) (by kernel_rfl) mem_z (mem_mem hB.1 kB)
    · exact ⟨_, List.mem_singleton.2 rfl⟩
    · exact not_taken hi (SA := [1]) (SB := [0]) (by kernel_rfl) mem_z (by rw [hB]; decide)
  · exact not_taken hi (SA := [0]) (SB := l8) (by kernel_rfl) (by rw [hA]; decide) (cA_mem _)
theorem ex_32 {c : Int} {A B : On} {rep : Bool} {l : Int} (hi : isB ⟨32, c, A, B, rep, l⟩ = true) (hAm : 0 ≤ A.m ∧ A.m ≤ 4294967295) (hBm : 0 ≤ B.m ∧ B.m ≤ 4294967295) : ∃ w, w ∈ waysL ⟨32, c, A, B, rep, l⟩ := by
  rw [wl_32]
  rcases formsW hAm with ⟨rA, hA1, hA2, rfl⟩ | ⟨mA, mA1, mA2, rfl⟩ | ⟨hA, kA⟩ | rfl | hA
  · have hA : 0 ≤ rA ∧ rA < 8 := ⟨hA1, hA2⟩
    rcases formsW hBm with ⟨rB, hB1, hB2, rfl⟩ | ⟨mB, mB1, mB2, rfl⟩ | ⟨hB, kB⟩ | rfl | hB
    · exact not_taken hi (SA := [2, 6]) (SB := [2, 6]) (by kernel_rfl) (mem_reg ⟨hA1, hA2⟩) (mem_reg ⟨hB1, hB2⟩)
    · exact not_taken hi (SA := [2, 6]) (SB := [16, 48, 112]) (by kernel_rfl) (mem_reg ⟨hA1, hA2⟩) (mem_imm _)
    · exact not_taken hi (SA := [2, 6]) (SB := [8]) (by kernel_rfl) (mem_reg ⟨hA1, hA2⟩) (mem_mem hB.1 kB)
    · have mXA := fun n => Classical.choose_spec (mod_ex (reg_RMb ⟨hA1, hA2⟩) n)
      exact ⟨_, by rw [if_neg (nR2 _)]; exact in_mW (mXA _) rfl⟩
    · exact not_taken hi (SA := [2, 6]) (SB := [0]) (by kernel_rfl) (mem_reg ⟨hA1, hA2⟩) (by rw [hB]; decide)
  · rcases formsW hBm with ⟨rB, hB1, hB2, rfl⟩ | ⟨mB, mB1, mB2, rfl⟩ | ⟨hB, kB⟩ | rfl | hB
    · exact not_taken hi (SA := [16, 48, 112]) (SB := [2, 6]) (by kernel_rfl) (mem_imm _) (mem_reg ⟨hB1, hB2⟩)
    · exact not_taken hi (SA := [16, 48, 112]) (SB := [16, 48, 112]) (by kernel_rfl) (mem_imm _) (mem_imm _)
    · exact not_taken hi (SA := [16, 48, 112]) (SB := [8]) (by kernel_rfl) (mem_imm _) (mem_mem hB.1 kB)
    · exact ⟨_, by rw [if_pos (kI _)]; exact List.mem_append_right _ (List.mem_singleton.2 rfl)⟩
    · exact not_taken hi (SA := [16, 48, 112]) (SB := [0]) (by kernel_rfl) (mem_imm _) (by rw [hB]; decide)
  · rcases formsW hBm with ⟨rB, hB1, hB2, rfl⟩ | ⟨mB, mB1, mB2, rfl⟩ | ⟨hB, kB⟩ | rfl | hB
    · exact not_taken hi (SA := [8]) (SB := [2, 6]) (by kernel_rfl) (mem_mem hA.1 kA) (mem_reg ⟨hB1, hB2⟩)
    · exact not_taken hi (SA := [8]) (SB := [16, 48, 112]) (by kernel_rfl) (mem_mem hA.1 kA) (mem_imm _)
    · exact not_taken hi (SA := [8]) (SB := [8]) (by kernel_rfl) (mem_mem hA.1 kA) (mem_mem hB.1 kB)
    · have mXA := fun n => Classical.choose_spec (mod_ex (hA) n)
      exact ⟨_, by rw [if_neg (show ¬ A.k = 2 by rw [kA]; decide)]; exact in_mW (mXA _) rfl⟩
    · exact not_taken hi (SA := [8]) (SB := [0]) (by kernel_rfl) (mem_mem hA.1 kA) (by rw [hB]; decide)
  · exact not_taken hi (SA := [1]) (SB := l8) (by kernel_rfl) mem_z (cA_mem _)
  · exact not_taken hi (SA := [0]) (SB := l8) (by kernel_rfl) (by rw [hA]; decide) (cA_mem _)
theorem ex_33 {c : Int} {A B : On} {rep : Bool} {l : Int} (hi : isB ⟨33, c, A, B, rep, l⟩ = true) (hAm : 0 ≤ A.m ∧ A.m ≤ 4294967295) (hBm : 0 ≤ B.m ∧ B.m ≤ 4294967295) : ∃ w, w ∈ waysL ⟨33, c, A, B, rep, l⟩ := by
  rw [wl_33]
  rcases formsW hAm with ⟨rA, hA1, hA2, rfl⟩ | ⟨mA, mA1, mA2, rfl⟩ | ⟨hA, kA⟩ | rfl | hA
  · exact not_taken hi (SA := [2, 6]) (SB := l8) (by kernel_rfl) (mem_reg ⟨hA1, hA2⟩) (cA_mem _)
  · rcases formsW hBm with ⟨rB, hB1, hB2, rfl⟩ | ⟨mB, mB1, mB2, rfl⟩ | ⟨hB, kB⟩ | rfl | hB
    · exact not_taken hi (SA := [16, 48, 112]) (SB := [2, 6]) (by kernel_rfl) (mem_imm _) (mem_reg ⟨hB1, hB2⟩)
    · exact not_taken hi (SA := [16, 48, 112]) (SB := [16, 48, 112]) (by kernel_rfl) (mem_imm _) (mem_imm _)
    · exact not_taken hi (SA := [16, 48, 112]) (SB := [8]) (by kernel_rfl) (mem_imm _) (mem_mem hB.1 kB)
    · exact ⟨_, List.mem_append_right _ (List.mem_singleton.2 rfl)⟩
    · exact not_taken hi (SA := [16, 48, 112]) (SB := [0]) (by kernel_rfl) (mem_imm _) (by rw [hB]; decide)
  · exact not_taken hi (SA := [8]) (SB := l8) (by kernel_rfl) (mem_mem hA.1 kA) (cA_mem _)
  · exact not_taken hi (SA := [1]) (SB := l8) (by kernel_rfl) mem_z (cA_mem _)
  · exact not_taken hi (SA := [0]) (SB := l8) (by kernel_rfl) (by rw [hA]; decide) (cA_mem _)
theorem ex_34 {c : Int} {A B : On} {rep : Bool} {l : Int} (hi : isB ⟨34, c, A, B, rep, l⟩ = true) (hAm : 0 ≤ A.m ∧ A.m ≤ 4294967295) (hBm : 0 ≤ B.m ∧ B.m ≤ 4294967295) : ∃ w, w ∈ waysL ⟨34, c, A, B, rep, l⟩ := by
  rw [wl_34]
  rcases formsW hAm with ⟨rA, hA1, hA2, rfl⟩ | ⟨mA, mA1, mA2, rfl⟩ | ⟨hA, kA⟩ | rfl | hA
  · have hA : 0 ≤ rA ∧ rA < 8 := ⟨hA1, hA2⟩
    rcases formsW hBm with ⟨rB, hB1, hB2, rfl⟩ | ⟨mB, mB1, mB2, rfl⟩ | ⟨hB, kB⟩ | rfl | hB
    · exact not_taken hi (SA := [2, 6]) (SB := [2, 6]) (by kernel_rfl) (mem_reg ⟨hA1, hA2⟩) (mem_reg ⟨hB1, hB2⟩)
    · exact not_taken hi (SA := [2, 6]) (SB := [16, 48, 112]) (by kernel_rfl) (mem_reg ⟨hA1, hA2⟩) (mem_imm _)
    · exact not_taken hi (SA := [2, 6]) (SB := [8]) (by kernel_rfl) (mem_reg ⟨hA1, hA2⟩) (mem_mem hB.1 kB)
    · have mXA := fun n => Classical.choose_spec (mod_ex (reg_RMb ⟨hA1, hA2⟩) n)
      exact ⟨_, in_mW (mXA _) rfl⟩
    · exact not_taken hi (SA := [2, 6]) (SB := [0]) (by kernel_rfl) (mem_reg ⟨hA1, hA2⟩) (by rw [hB]; decide)
  · exact not_taken hi (SA := [16, 48, 112]) (SB := l8) (by kernel_rfl) (mem_imm _) (cA_mem _)
  · rcases formsW hBm with ⟨rB, hB1, hB2, rfl⟩ | ⟨mB, mB1, mB2, rfl⟩ | ⟨hB, kB⟩ | rfl | hB
    · exact not_taken hi (SA := [8]) (SB := [2, 6]) (by kernel_rfl) (mem_mem hA.1 kA) (mem_reg ⟨hB1, hB2⟩)
    · exact not_taken hi (SA := [8]) (SB := [16, 48, 112]) (by kernel_rfl) (mem_mem hA.1 kA) (mem_imm _)
    · exact not_taken hi (SA := [8]) (SB := [8]) (by kernel_rfl) (mem_mem hA.1 kA) (mem_mem hB.1 kB)
    · have mXA := fun n => Classical.choose_spec (mod_ex (hA) n)
      exact ⟨_, in_mW (mXA _) rfl⟩
    · exact not_taken hi (SA := [8]) (SB := [0]) (by kernel_rfl) (mem_mem hA.1 kA) (by rw [hB]; decide)
  · exact not_taken hi (SA := [1]) (SB := l8) (by kernel_rfl) mem_z (cA_mem _)
  · exact not_taken hi (SA := [0]) (SB := l8) (by kernel_rfl) (by rw [hA]; decide) (cA_mem _)
theorem ex_35 {c : Int} {A B : On} {rep : Bool} {l : Int} (hi : isB ⟨35, c, A, B, rep, l⟩ = true) (hAm : 0 ≤ A.m ∧ A.m ≤ 4294967295) (hBm : 0 ≤ B.m ∧ B.m ≤ 4294967295) : ∃ w, w ∈ waysL ⟨35, c, A, B, rep, l⟩ := by
  rw [wl_35]
  rcases formsW hAm with ⟨rA, hA1, hA2, rfl⟩ | ⟨mA, mA1, mA2, rfl⟩ | ⟨hA, kA⟩ | rfl | hA
  · have hA : 0 ≤ rA ∧ rA < 8 := ⟨hA1, hA2⟩
    rcases formsW hBm with ⟨rB, hB1, hB2, rfl⟩ | ⟨mB, mB1, mB2, rfl⟩ | ⟨hB, kB⟩ | rfl | hB
    · have mXA := fun n => Classical.choose_spec (mod_ex (reg_RMb ⟨hA1, hA2⟩) n)
      have mXB := fun n => Classical.choose_spec (mod_ex (reg_RMb ⟨hB1, hB2⟩) n)
      exact ⟨_, in_mW (mXB _) rfl⟩
    · exact not_taken hi (SA := [2, 6]) (SB := [16, 48, 112]) (by kernel_rfl) (mem_reg ⟨hA1, hA2⟩) (mem_imm _)
    · have mXA := fun n => Classical.choose_spec (mod_ex (reg_RMb ⟨hA1, hA2⟩) n)
      have mXB := fun n => Classical.choose_spec (mod_ex (hB) n)
      exact ⟨_, in_mW (mXB _) rfl⟩
    · exact not_taken hi (SA := [2, 6]) (SB := [1]) (by kernel_rfl) (mem_reg ⟨hA1, hA2⟩) mem_z
    · exact not_taken hi (SA := [2, 6]) (SB := [0]) (by kernel_rfl) (mem_reg ⟨hA1, hA2⟩) (by rw [hB]; decide)
  · exact not_taken hi (SA := [16, 48, 112]) (SB := l8) (by kernel_rfl) (mem_imm _) (cA_mem _)
  · exact not_taken hi (SA := [8]) (SB := l8) (by kernel_rfl) (mem_mem hA.1 kA) (cA_mem _)
  · exact not_taken hi (SA := [1]) (SB := l8) (by kernel_rfl) mem_z (cA_mem _)
  · exact not_taken hi (SA := [0]) (SB := l8) (by kernel_rfl) (by rw [hA]; decide) (cA_mem _)
theorem ex_36 {c : Int} {A B : On} {rep : Bool} {l : Int} (hi : isB ⟨36, c, A, B, rep, l⟩ = true) (hAm : 0 ≤ A.m ∧ A.m ≤ 4294967295) (hBm : 0 ≤ B.m ∧ B.m ≤ 4294967295) : ∃ w, w ∈ waysL ⟨36, c, A, B, rep, l⟩ := by
  rw [wl_36]
  rcases formsW hAm with ⟨rA, hA1, hA2, rfl⟩ | ⟨mA, mA1, mA2, rfl⟩ | ⟨hA, kA⟩ | rfl | hA
  · have hA : 0 ≤ rA ∧ rA < 8 := ⟨hA1, hA2⟩
    rcases formsW hBm with ⟨rB, hB1, hB2, rfl⟩ | ⟨mB, mB1, mB2, rfl⟩ | ⟨hB, kB⟩ | rfl | hB
    · have mXA := fun n => Classical.choose_spec (mod_ex (reg_RMb ⟨hA1, hA2⟩) n)
      have mXB := fun n => Classical.choose_spec (mod_ex (reg_RMb ⟨hB1, hB2⟩) n)
      exact ⟨_, in_mW (mXB _) rfl⟩
    · exact not_taken hi (SA := [2, 6]) (SB := [16, 48, 112]) (by kernel_rfl) (mem_reg ⟨hA1, hA2⟩) (mem_imm _)
    · have mXA := fun n => Classical.choose_spec (mod_ex (reg_RMb ⟨hA1, hA2⟩) n)
      have mXB := fun n => Classical.choose_spec (mod_ex (hB) n)
      exact ⟨_, in_mW (mXB _) rfl⟩
    · exact not_taken hi (SA := [2, 6]) (SB := [1]) (by kernel_rfl) (mem_reg ⟨hA1, hA2⟩) mem_z
    · exact not_taken hi (SA := [2, 6]) (SB := [0]) (by kernel_rfl) (mem_reg ⟨hA1, hA2⟩) (by rw [hB]; decide)
  · exact not_taken hi (SA := [16, 48, 112]) (SB := l8) (by kernel_rfl) (mem_imm _) (cA_mem _)
  · exact not_taken hi (SA := [8]) (SB := l8) (by kernel_rfl) (mem_mem hA.1 kA) (cA_mem _)
  · exact not_taken hi (SA := [1]) (SB := l8) (by kernel_rfl) mem_z (cA_mem _)
  · exact not_taken hi (SA := [0]) (SB := l8) (by kernel_rfl) (by rw [hA]; decide) (cA_mem _)
theorem ex_37 {c : Int} {A B : On} {rep : Bool} {l : Int} (hi : isB ⟨37, c, A, B, rep, l⟩ = true) (hAm : 0 ≤ A.m ∧ A.m ≤ 4294967295) (hBm : 0 ≤ B.m ∧ B.m ≤ 4294967295) : ∃ w, w ∈ waysL ⟨37, c, A, B, rep, l⟩ := by
  rw [wl_37]
  rcases formsW hAm with ⟨rA, hA1, hA2, rfl⟩ | ⟨mA, mA1, mA2, rfl⟩ | ⟨hA, kA⟩ | rfl | hA
  · have hA : 0 ≤ rA ∧ rA < 8 := ⟨hA1, hA2⟩
    rcases formsW hBm with ⟨rB, hB1, hB2, rfl⟩ | ⟨mB, mB1, mB2, rfl⟩ | ⟨hB, kB⟩ | rfl | hB
    · have mXA := fun n => Classical.choose_spec (mod_ex (reg_RMb ⟨hA1, hA2⟩) n)
      have mXB := fun n => Classical.choose_spec (mod_ex (reg_RMb ⟨hB1, hB2⟩) n)
      exact ⟨_, in_mW (mXB _) rfl⟩
    · exact not_taken hi (SA := [2, 6]) (SB := [16, 48, 112]) (by kernel_rfl) (mem_reg ⟨hA1, hA2⟩) (mem_imm _)
    · have mXA := fun n => Classical.choose_spec (mod_ex (reg_RMb ⟨hA1, hA2⟩) n)
      have mXB := fun n => Classical.choose_spec (mod_ex (hB) n)
      exact ⟨_, in_mW (mXB _) rfl⟩
    · exact not_taken hi (SA := [2, 6]) (SB := [1]) (by kernel_rfl) (mem_reg ⟨hA1, hA2⟩) mem_z
    · exact not_taken hi (SA := [2, 6]) (SB := [0]) (by kernel_rfl) (mem_reg ⟨hA1, hA2⟩) (by rw [hB]; decide)
  · exact not_taken hi (SA := [16, 48, 112]) (SB := l8) (by kernel_rfl) (mem_imm _) (cA_mem _)
  · exact not_taken hi (SA := [8]) (SB := l8) (by kernel_rfl) (mem_mem hA.1 kA) (cA_mem _)
  · exact not_taken hi (SA := [1]) (SB := l8) (by kernel_rfl) mem_z (cA_mem _)
  · exact not_taken hi (SA := [0]) (SB := l8) (by kernel_rfl) (by rw [hA]; decide) (cA_mem _)
theorem ex_38 {c : Int} {A B : On} {rep : Bool} {l : Int} (hi : isB ⟨38, c, A, B, rep, l⟩ = true) (hAm : 0 ≤ A.m ∧ A.m ≤ 4294967295) (hBm : 0 ≤ B.m ∧ B.m ≤ 4294967295) : ∃ w, w ∈ waysL ⟨38, c, A, B, rep, l⟩ := by
  rw [wl_38]
  rcases formsW hAm with ⟨rA, hA1, hA2, rfl⟩ | ⟨mA, mA1, mA2, rfl⟩ | ⟨hA, kA⟩ | rfl | hA
  · exact not_taken hi (SA := [2, 6]) (SB := l8) (by kernel_rfl) (mem_reg ⟨hA1, hA2⟩) (cA_mem _)
  · exact not_taken hi (SA := [16, 48, 112]) (SB := l8) (by kernel_rfl) (mem_imm _) (cA_mem _)
  · exact not_taken hi (SA := [8]) (SB := l8) (by kernel_rfl) (mem_mem hA.1 kA) (cA_mem _)
  · rcases formsW hBm with ⟨rB, hB1, hB2, rfl⟩ | ⟨mB, mB1, mB2, rfl⟩ | ⟨hB, kB⟩ | rfl | hB
    · exact not_taken hi (SA := [1]) (SB := [2, 6]) (by kernel_rfl) mem_z (mem_reg ⟨hB1, hB2⟩)
    · exact not_taken hi (SA := [1]) (SB := [16, 48, 112]) (by kernel_rfl) mem_z (mem_imm _)
    · exact not_taken hi (SA := [1]) (SB := [8]) (by kernel_rfl) mem_z (mem_mem hB.1 kB)
    · exact ⟨_, List.mem_singleton.2 rfl⟩
    · exact not_taken hi (SA := [1]) (SB := [0]) (by kernel_rfl) mem_z (by rw [hB]; decide)
  · exact not_taken hi (SA := [0]) (SB := l8) (by kernel_rfl) (by rw [hA]; decide) (cA_mem _)
theorem ex_39 {c : Int} {A B : On} {rep : Bool} {l : Int} (hi : isB ⟨39, c, A, B, rep, l⟩ = true) (hAm : 0 ≤ A.m ∧ A.m ≤ 4294967295) (hBm : 0 ≤ B.m ∧ B.m ≤ 4294967295) : ∃ w, w ∈ waysL ⟨39, c, A, B, rep, l⟩ := by
  rw [wl_39]
  rcases formsW hAm with ⟨rA, hA1, hA2, rfl⟩ | ⟨mA, mA1, mA2, rfl⟩ | ⟨hA, kA⟩ | rfl | hA
  · exact not_taken hi (SA := [2, 6]) (SB := l8) (by kernel_rfl) (mem_reg ⟨hA1, hA2⟩) (cA_mem _)
  · exact not_taken hi (SA := [16, 48, 112]) (SB := l8) (by kernel_rfl) (mem_imm _) (cA_mem _)
  · exact not_taken hi (SA := [8]) (SB := l8) (by kernel_rfl) (mem_mem hA.1 kA) (cA_mem _)
  · rcases formsW hBm with ⟨rB, hB1, hB2, rfl⟩ | ⟨mB, mB1, mB2, rfl⟩ | ⟨hB, kB⟩ | rfl | hB
    · exact not_taken hi (SA := [1]) (SB := [2, 6]) (by kernel_rfl) mem_z (mem_reg ⟨hB1, hB2⟩)
    · exact not_taken hi (SA := [1]) (SB := [16, 48, 112]) (by kernel_rfl) mem_z (mem_imm _)
    · exact not_taken hi (SA := [1]) (SB := [8]) (by kernel_rfl) mem_z (mem_mem hB.1 kB)
    · exact ⟨_, List.mem_singleton.2 rfl⟩
    · exact not_taken hi (SA := [1]) (SB := [0]) (by kernel_rfl) mem_z (by rw [hB]; decide)
  · exact not_taken hi (SA := [0]) (SB := l8) (by kernel_rfl) (by rw [hA]; decide) (cA_mem _)
theorem ex_40 {c : Int} {A B : On} {rep : Bool} {l : Int} (hi : isB ⟨40, c, A, B, rep, l⟩ = true) (hAm : 0 ≤ A.m ∧ A.m ≤ 4294967295) (hBm : 0 ≤ B.m ∧ B.m ≤ 4294967295) : ∃ w, w ∈ waysL ⟨40, c, A, B, rep, l⟩ := by
  rw [wl_40]
  rcases formsW hAm with ⟨rA, hA1, hA2, rfl⟩ | ⟨mA, mA1, mA2, rfl⟩ | ⟨hA, kA⟩ | rfl | hA
  · exact not_taken hi (SA := [2, 6]) (SB := l8) (by kernel_rfl) (mem_reg ⟨hA1, hA2⟩) (cA_mem _)
  · exact not_taken hi (SA := [16, 48, 112]) (SB := l8) (by kernel_rfl) (mem_imm _) (cA_mem _)
  · exact not_taken hi (SA := [8]) (SB := l8) (by kernel_rfl) (mem_mem hA.1 kA) (cA_mem _)
  · rcases formsW hBm with ⟨rB, hB1, hB2, rfl⟩ | ⟨mB, mB1, mB2, rfl⟩ | ⟨hB, kB⟩ | rfl | hB
    · exact not_taken hi (SA := [1]) (SB := [2, 6]) (by kernel_rfl) mem_z (mem_reg ⟨hB1, hB2⟩)
    · exact not_taken hi (SA := [1]) (SB := [16, 48, 112]) (by kernel_rfl) mem_z (mem_imm _)
    · exact not_taken hi (SA := [1]) (SB := [8]) (by kernel_rfl) mem_z (mem_mem hB.1 kB)
    · exact ⟨_, List.mem_singleton.2 rfl⟩
    · exact not_taken hi (SA := [1]) (SB := [0]) (by kernel_rfl) mem_z (by rw [hB]; decide)
  · exact not_taken hi (SA := [0]) (SB := l8) (by kernel_rfl) (by rw [hA]; decide) (cA_mem _)
theorem ex_41 {c : Int} {A B : On} {rep : Bool} {l : Int} (hi : isB ⟨41, c, A, B, rep, l⟩ = true) (hAm : 0 ≤ A.m ∧ A.m ≤ 4294967295) (hBm : 0 ≤ B.m ∧ B.m ≤ 4294967295) : ∃ w, w ∈ waysL ⟨41, c, A, B, rep, l⟩ := by
  rw [wl_41]
  rcases formsW hAm with ⟨rA, hA1, hA2, rfl⟩ | ⟨mA, mA1, mA2, rfl⟩ | ⟨hA, kA⟩ | rfl | hA
  · exact not_taken hi (SA := [2, 6]) (SB := l8) (by kernel_rfl) (mem_reg ⟨hA1, hA2⟩) (cA_mem _)
  · exact not_taken hi (SA := [16, 48, 112]) (SB := l8) (by kernel_rfl) (mem_imm _) (cA_mem _)
  · exact not_taken hi (SA := [8]) (SB := l8) (by kernel_rfl) (mem_mem hA.1 kA) (cA_mem _)
  · rcases formsW hBm with ⟨rB, hB1, hB2, rfl⟩ | ⟨mB, mB1, mB2, rfl⟩ | ⟨hB, kB⟩ | rfl | hB
    · exact not_taken hi (SA := [1]) (SB := [2, 6]) (by kernel_rfl) mem_z (mem_reg ⟨hB1, hB2⟩)
    · exact not_taken hi (SA := [1]) (SB := [16, 48, 112]) (by kernel_rfl) mem_z (mem_imm _)
    · exact not_taken hi (SA := [1]) (SB := [8]) (by kernel_rfl) mem_z (mem_mem hB.1 kB)
    · cases rep
      · exact ⟨_, List.mem_singleton.2 rfl⟩
      · exact ⟨_, List.mem_singleton.2 rfl⟩
    · exact not_taken hi (SA := [1]) (SB := [0]) (by kernel_rfl) mem_z (by rw [hB]; decide)
  · exact not_taken hi (SA := [0]) (SB := l8) (by kernel_rfl) (by rw [hA]; decide) (cA_mem _)
theorem ex_42 {c : Int} {A B : On} {rep : Bool} {l : Int} (hi : isB ⟨42, c, A, B, rep, l⟩ = true) (hAm : 0 ≤ A.m ∧ A.m ≤ 4294967295) (hBm : 0 ≤ B.m ∧ B.m ≤ 4294967295) : ∃ w, w ∈ waysL ⟨42, c, A, B, rep, l⟩ := by
  rw [wl_42]
  rcases formsW hAm with ⟨rA, hA1, hA2, rfl⟩ | ⟨mA, mA1, mA2, rfl⟩ | ⟨hA, kA⟩ | rfl | hA
  · exact not_taken hi (SA := [2, 6]) (SB := l8) (by kernel_rfl) (mem_reg ⟨hA1, hA2⟩) (cA_mem _)
  · exact not_taken hi (SA := [16, 48, 112]) (SB := l8) (by kernel_rfl) (mem_imm _) (cA_mem _)
  · exact not_taken hi (SA := [8]) (SB := l8) (by kernel_rfl) (mem_mem hA.1 kA) (cA_mem _)
  · rcases formsW hBm with ⟨rB, hB1, hB2, rfl⟩ | ⟨mB, mB1, mB2, rfl⟩ | ⟨hB, kB⟩ | rfl | hB
    · exact not_taken hi (SA := [1]) (SB := [2, 6]) (by kernel_rfl) mem_z (mem_reg ⟨hB1, hB2⟩)
    · exact not_taken hi (SA := [1]) (SB := [16, 48, 112]) (by kernel_rfl) mem_z (mem_imm _)
    · exact not_taken hi (SA := [1]) (SB := [8]) (by kernel_rfl) mem_z (mem_mem hB.1 kB)
    · cases rep
      · exact ⟨_, List.mem_singleton.2 rfl⟩
      · exact ⟨_, List.mem_singleton.2 rfl⟩
    · exact not_taken hi (SA := [1]) (SB := [0]) (by kernel_rfl) mem_z (by rw [hB]; decide)
  · exact not_taken hi (SA := [0]) (SB := l8) (by kernel_rfl) (by rw [hA]; decide) (cA_mem _)
theorem ex_43 {c : Int} {A B : On} {rep : Bool} {l : Int} (hi : isB ⟨43, c, A, B, rep, l⟩ = true) (hAm : 0 ≤ A.m ∧ A.m ≤ 4294967295) (hBm : 0 ≤ B.m ∧ B.m ≤ 4294967295) : ∃ w, w ∈ waysL ⟨43, c, A, B, rep, l⟩ := by
  rw [wl_43]
  rcases formsW hAm with ⟨rA, hA1, hA2, rfl⟩ | ⟨mA, mA1, mA2, rfl⟩ | ⟨hA, kA⟩ | rfl | hA
  · exact not_taken hi (SA := [2, 6]) (SB := l8) (by kernel_rfl) (mem_reg ⟨hA1, hA2⟩) (cA_mem _)
  · rcases formsW hBm with ⟨rB, hB1, hB2, rfl⟩ | ⟨mB, mB1, mB2, rfl⟩ | ⟨hB, kB⟩ | rfl | hB
    · exact not_taken hi (SA := [16, 48, 112]) (SB := [2, 6]) (by kernel_rfl) (mem_imm _) (mem_reg ⟨hB1, hB2⟩)
    · exact not_taken hi (SA := [16, 48, 112]) (SB := [16, 48, 112]) (by kernel_rfl) (mem_imm _) (mem_imm _)
    · exact not_taken hi (SA := [16, 48, 112]) (SB := [8]) (by kernel_rfl) (mem_imm _) (mem_mem hB.1 kB)
    · exact ⟨_, List.mem_singleton.2 rfl⟩
    · exact not_taken hi (SA := [16, 48, 112]) (SB := [0]) (by kernel_rfl) (mem_imm _) (by rw [hB]; decide)
  · exact not_taken hi (SA := [8]) (SB := l8) (by kernel_rfl) (mem_mem hA.1 kA) (cA_mem _)
  · exact not_taken hi (SA := [1]) (SB := l8) (by kernel_rfl) mem_z (cA_mem _)
  · exact not_taken hi (SA := [0]) (SB := l8) (by kernel_rfl) (by rw [hA]; decide) (cA_mem _)
theorem ex_44 {c : Int} {A B : On} {rep : Bool} {l : Int} (hi : isB ⟨44, c, A, B, rep, l⟩ = true) (hAm : 0 ≤ A.m ∧ A.m ≤ 4294967295) (hBm : 0 ≤ B.m ∧ B.m ≤ 4294967295) : ∃ w, w ∈ waysL ⟨44, c, A, B, rep, l⟩ := by
  rw [wl_44]
  rcases formsW hAm with ⟨rA, hA1, hA2, rfl⟩ | ⟨mA, mA1, mA2, rfl⟩ | ⟨hA, kA⟩ | rfl | hA
  · exact not_taken hi (SA := [2, 6]) (SB := l8) (by kernel_rfl) (mem_reg ⟨hA1, hA2⟩) (cA_mem _)
  · exact not_taken hi (SA := [16, 48, 112]) (SB := l8) (by kernel_rfl) (mem_imm _) (cA_mem _)
  · exact not_taken hi (SA := [8]) (SB := l8) (by kernel_rfl) (mem_mem hA.1 kA) (cA_mem _)
  · rcases formsW hBm with ⟨rB, hB1, hB2, rfl⟩ | ⟨mB, mB1, mB2, rfl⟩ | ⟨hB, kB⟩ | rfl | hB
    · exact not_taken hi (SA := [1]) (SB := [2, 6]) (by kernel_rfl) mem_z (mem_reg ⟨hB1, hB2⟩)
    · exact not_taken hi (SA := [1]) (SB := [16, 48, 112]) (by kernel_rfl) mem_z (mem_imm _)
    · exact not_taken hi (SA := [1]) (SB := [8]) (by kernel_rfl) mem_z (mem_mem hB.1 kB)
    · exact ⟨_, List.mem_singleton.2 rfl⟩
    · exact not_taken hi (SA := [1]) (SB := [0]) (by kernel_rfl) mem_z (by rw [hB]; decide)
  · exact not_taken hi (SA := [0]) (SB := l8) (by kernel_rfl) (by rw [hA]; decide) (cA_mem _)
theorem ex_45 {c : Int} {A B : On} {rep : Bool} {l : Int} (hi : isB ⟨45, c, A, B, rep, l⟩ = true) (hAm : 0 ≤ A.m ∧ A.m ≤ 4294967295) (hBm : 0 ≤ B.m ∧ B.m ≤ 4294967295) : ∃ w, w ∈ waysL ⟨45, c, A, B, rep, l⟩ := by
  rw [wl_45]
  rcases formsW hAm with ⟨rA, hA1, hA2, rfl⟩ | ⟨mA, mA1, mA2, rfl⟩ | ⟨hA, kA⟩ | rfl | hA
  · exact not_taken hi (SA := [2, 6]) (SB := l8) (by kernel_rfl) (mem_reg ⟨hA1, hA2⟩) (cA_mem _)
  · exact not_taken hi (SA := [16, 48, 112]) (SB := l8) (by kernel_rfl) (mem_imm _) (cA_mem _)
  · rcases formsW hBm with ⟨rB, hB1, hB2, rfl⟩ | ⟨mB, mB1, mB2, rfl⟩ | ⟨hB, kB⟩ | rfl | hB
    · exact not_taken hi (SA := [8]) (SB := [2, 6]) (by kernel_rfl) (mem_mem hA.1 kA) (mem_reg ⟨hB1, hB2⟩)
    · exact not_taken hi (SA := [8]) (SB := [16, 48, 112]) (by kernel_rfl) (mem_mem hA.1 kA) (mem_imm _)
    · exact not_taken hi (SA := [8]) (SB := [8]) (by kernel_rfl) (mem_mem hA.1 kA) (mem_mem hB.1 kB)
    · have mXA := fun n => Classical.choose_spec (mod_ex (hA) n)
      exact ⟨_, in_mW (mXA _) rfl⟩
    · exact not_taken hi (SA := [8]) (SB := [0]) (by kernel_rfl) (mem_mem hA.1 kA) (by rw [hB]; decide)
  · exact not_taken hi (SA := [1]) (SB := l8) (by kernel_rfl) mem_z (cA_mem _)
  · exact not_taken hi (SA := [0]) (SB := l8) (by kernel_rfl) (by rw [hA]; decide) (cA_mem _)
theorem ex_46 {c : Int} {A B : On} {rep : Bool} {l : Int} (hi : isB ⟨46, c, A, B, rep, l⟩ = true) (hAm : 0 ≤ A.m ∧ A.m ≤ 4294967295) (hBm : 0 ≤ B.m ∧ B.m ≤ 4294967295) : ∃ w, w ∈ waysL ⟨46, c, A, B, rep, l⟩ := by
  rw [wl_46]
  rcases formsW hAm with ⟨rA, hA1, hA2, rfl⟩ | ⟨mA, mA1, mA2, rfl⟩ | ⟨hA, kA⟩ | rfl | hA
  · exact not_taken hi (SA := [2, 6]) (SB := l8) (by kernel_rfl) (mem_reg ⟨hA1, hA2⟩) (cA_mem _)
  · exact not_taken hi (SA := [16, 48, 112]) (SB := l8) (by kernel_rfl) (mem_imm _) (cA_mem _)
  · rcases formsW hBm with ⟨rB, hB1, hB2, rfl⟩ | ⟨mB, mB1, mB2, rfl⟩ | ⟨hB, kB⟩ | rfl | hB
    · exact not_taken hi (SA := [8]) (SB := [2, 6]) (by kernel_rfl) (mem_mem hA.1 kA) (mem_reg ⟨hB1, hB2⟩)
    · exact not_taken hi (SA := [8]) (SB := [16, 48, 112]) (by kernel_rfl) (mem_mem hA.1 kA) (mem_imm _)
    · exact not_taken hi (SA := [8]) (SB := [8]) (by kernel_rfl) (mem_mem hA.1 kA) (mem_mem hB.1 kB)
    · have mXA := fun n => Classical.choose_spec (mod_ex (hA) n)
      exact ⟨_, in_mW (mXA _) rfl⟩
    · exact not_taken hi (SA := [8]) (SB := [0]) (by kernel_rfl) (mem_mem hA.1 kA) (by rw [hB]; decide)
  · exact not_taken hi (SA := [1]) (SB := l8) (by kernel_rfl) mem_z (cA_mem _)
  · exact not_taken hi (SA := [0]) (SB := l8) (by kernel_rfl) (by rw [hA]; decide) (cA_mem _)
theorem ex_47 {c : Int} {A B : On} {rep : Bool} {l : Int} (hi : isB ⟨47, c, A, B, rep, l⟩ = true) (hAm : 0 ≤ A.m ∧ A.m ≤ 4294967295) (hBm : 0 ≤ B.m ∧ B.m ≤ 4294967295) : ∃ w, w ∈ waysL ⟨47, c, A, B, rep, l⟩ := by
  rw [wl_47]
  rcases formsW hAm with ⟨rA, hA1, hA2, rfl⟩ | ⟨mA, mA1, mA2, rfl⟩ | ⟨hA, kA⟩ | rfl | hA
  · exact not_taken hi (SA := [2, 6]) (SB := l8) (by kernel_rfl) (mem_reg ⟨hA1, hA2⟩) (cA_mem _)
  · exact not_taken hi (SA := [16, 48, 112]) (SB := l8) (by kernel_rfl) (mem_imm _) (cA_mem _)
  · rcases formsW hBm with ⟨rB, hB1, hB2, rfl⟩ | ⟨mB, mB1, mB2, rfl⟩ | ⟨hB, kB⟩ | rfl | hB
    · exact not_taken hi (SA := [8]) (SB := [2, 6]) (by kernel_rfl) (mem_mem hA.1 kA) (mem_reg ⟨hB1, hB2⟩)
    · exact not_taken hi (SA := [8]) (SB := [16, 48, 112]) (by kernel_rfl) (mem_mem hA.1 kA) (mem_imm _)
    · exact not_taken hi (SA := [8]) (SB := [8]) (by kernel_rfl) (mem_mem hA.1 kA) (mem_mem hB.1 kB)
    · have mXA := fun n => Classical.choose_spec (mod_ex (hA) n)
      exact ⟨_, in_mW (mXA _) rfl⟩
    · exact not_taken hi (SA := [8]) (SB := [0]) (by kernel_rfl) (mem_mem hA.1 kA) (by rw [hB]; decide)
  · exact not_taken hi (SA := [1]) (SB := l8) (by kernel_rfl) mem_z (cA_mem _)
  · exact not_taken hi (SA := [0]) (SB := l8) (by kernel_rfl) (by rw [hA]; decide) (cA_mem _)
theorem ex_48 {c : Int} {A B : On} {rep : Bool} {l : Int} (hi : isB ⟨48, c, A, B, rep, l⟩ = true) (hAm : 0 ≤ A.m ∧ A.m ≤ 4294967295) (hBm : 0 ≤ B.m ∧ B.m ≤ 4294967295) : ∃ w, w ∈ waysL ⟨48, c, A, B, rep, l⟩ := by
  rw [wl_48]
  rcases formsW hAm with ⟨rA, hA1, hA2, rfl⟩ | ⟨mA, mA1, mA2, rfl⟩ | ⟨hA, kA⟩ | rfl | hA
  · exact not_taken hi (SA := [2, 6]) (SB := l8) (by kernel_rfl) (mem_reg ⟨hA1, hA2⟩) (cA_mem _)
  · exact not_taken hi (SA := [16, 48, 112]) (SB := l8) (by kernel_rfl) (mem_imm _) (cA_mem _)
  · rcases formsW hBm with ⟨rB, hB1, hB2, rfl⟩ | ⟨mB, mB1, mB2, rfl⟩ | ⟨hB, kB⟩ | rfl | hB
    · exact not_taken hi (SA := [8]) (SB := [2, 6]) (by kernel_rfl) (mem_mem hA.1 kA) (mem_reg ⟨hB1, hB2⟩)
    · exact not_taken hi (SA := [8]) (SB := [16, 48, 112]) (by kernel_rfl) (mem_mem hA.1 kA) (mem_imm _)
    · exact not_taken hi (SA := [8]) (SB := [8]) (by kernel_rfl) (mem_mem hA.1 kA) (mem_mem hB.1 kB)
    · have mXA := fun n => Classical.choose_spec (mod_ex (hA) n)
      exact ⟨_, in_mW (mXA _) rfl⟩
    · exact not_taken hi (SA := [8]) (SB := [0]) (by kernel_rfl) (mem_mem hA.1 kA) (by rw [hB]; decide)
  · exact not_taken hi (SA := [1]) (SB := l8) (by kernel_rfl) mem_z (cA_mem _)
  · exact not_taken hi (SA := [0]) (SB := l8) (by kernel_rfl) (by rw [hA]; decide) (cA_mem _)
theorem ex_49 {c : Int} {A B : On} {rep : Bool} {l : Int} (hi : isB ⟨49, c, A, B, rep, l⟩ = true) (hAm : 0 ≤ A.m ∧ A.m ≤ 4294967295) (hBm : 0 ≤ B.m ∧ B.m ≤ 4294967295) : ∃ w, w ∈ waysL ⟨49, c, A, B, rep, l⟩ := by
  rw [wl_49]
  rcases formsW hAm with ⟨rA, hA1, hA2, rfl⟩ | ⟨mA, mA1, mA2, rfl⟩ | ⟨hA, kA⟩ | rfl | hA
  · exact not_taken hi (SA := [2, 6]) (SB := l8) (by kernel_rfl) (mem_reg ⟨hA1, hA2⟩) (cA_mem _)
  · exact not_taken hi (SA := [16, 48, 112]) (SB := l8) (by kernel_rfl) (mem_imm _) (cA_mem _)
  · rcases formsW hBm with ⟨rB, hB1, hB2, rfl⟩ | ⟨mB, mB1, mB2, rfl⟩ | ⟨hB, kB⟩ | rfl | hB
    · exact not_taken hi (SA := [8]) (SB := [2, 6]) (by kernel_rfl) (mem_mem hA.1 kA) (mem_reg ⟨hB1, hB2⟩)
    · exact not_taken hi (SA := [8]) (SB := [16, 48, 112]) (by kernel_rfl) (mem_mem hA.1 kA) (mem_imm _)
    · exact not_taken hi (SA := [8]) (SB := [8]) (by kernel_rfl) (mem_mem hA.1 kA) (mem_mem hB.1 kB)
    · have mXA := fun n => Classical.choose_spec (mod_ex (hA) n)
      exact ⟨_, in_mW (mXA _) rfl⟩
    · exact not_taken hi (SA := [8]) (SB := [0]) (by kernel_rfl) (mem_mem hA.1 kA) (by rw [hB]; decide)
  · exact not_taken hi (SA := [1]) (SB := l8) (by kernel_rfl) mem_z (cA_mem _)
  · exact not_taken hi (SA := [0]) (SB := l8) (by kernel_rfl) (by rw [hA]; decide) (cA_mem _)
theorem ex_50 {c : Int} {A B : On} {rep : Bool} {l : Int} (hi : isB ⟨50, c, A, B, rep, l⟩ = true) (hAm : 0 ≤ A.m ∧ A.m ≤ 4294967295) (hBm : 0 ≤ B.m ∧ B.m ≤ 4294967295) : ∃ w, w ∈ waysL ⟨50, c, A, B, rep, l⟩ := by
  rw [wl_50]
  rcases formsW hAm with ⟨rA, hA1, hA2, rfl⟩ | ⟨mA, mA1, mA2, rfl⟩ | ⟨hA, kA⟩ | rfl | hA
  · exact not_taken hi (SA := [2, 6]) (SB := l8) (by kernel_rfl) (mem_reg ⟨hA1, hA2⟩) (cA_mem _)
  · exact not_taken hi (SA := [16, 48, 112]) (SB := l8) (by kernel_rfl) (mem_imm _) (cA_mem _)
  · rcases formsW hBm with ⟨rB, hB1, hB2, rfl⟩ | ⟨mB, mB1, mB2, rfl⟩ | ⟨hB, kB⟩ | rfl | hB
    · exact not_taken hi (SA := [8]) (SB := [2, 6]) (by kernel_rfl) (mem_mem hA.1 kA) (mem_reg ⟨hB1, hB2⟩)
    · exact not_taken hi (SA := [8]) (SB := [16, 48, 112]) (by kernel_rfl) (mem_mem hA.1 kA) (mem_imm _)
    · exact not_taken hi (SA := [8]) (SB := [8]) (by kernel_rfl) (mem_mem hA.1 kA) (mem_mem hB.1 kB)
    · have mXA := fun n => Classical.choose_spec (mod_ex (hA) n)
      exact ⟨_, in_mW (mXA _) rfl⟩
    · exact not_taken hi (SA := [8]) (SB := [0]) (by kernel_rfl) (mem_mem hA.1 kA) (by rw [hB]; decide)
  · exact not_taken hi (SA := [1]) (SB := l8) (by kernel_rfl) mem_z (cA_mem _)
  · exact not_taken hi (SA := [0]) (SB := l8) (by kernel_rfl) (by rw [hA]; decide) (cA_mem _)
theorem ex_51 {c : Int} {A B : On} {rep : Bool} {l : Int} (hi : isB ⟨51, c, A, B, rep, l⟩ = true) (hAm : 0 ≤ A.m ∧ A.m ≤ 4294967295) (hBm : 0 ≤ B.m ∧ B.m ≤ 4294967295) : ∃ w, w ∈ waysL ⟨51, c, A, B, rep, l⟩ := by
  rw [wl_51]
  rcases formsW hAm with ⟨rA, hA1, hA2, rfl⟩ | ⟨mA, mA1, mA2, rfl⟩ | ⟨hA, kA⟩ | rfl | hA
  · exact not_taken hi (SA := [2, 6]) (SB := l8) (by kernel_rfl) (mem_reg ⟨hA1, hA2⟩) (cA_mem _)
  · exact not_taken hi (SA := [16, 48, 112]) (SB := l8) (by kernel_rfl) (mem_imm _) (cA_mem _)
  · exact not_taken hi (SA := [8]) (SB := l8) (by kernel_rfl) (mem_mem hA.1 kA) (cA_mem _)
  · rcases formsW hBm with ⟨rB, hB1, hB2, rfl⟩ | ⟨mB, mB1, mB2, rfl⟩ | ⟨hB, kB⟩ | rfl | hB
    · exact not_taken hi (SA := [1]) (SB := [2, 6]) (by kernel_rfl) mem_z (mem_reg ⟨hB1, hB2⟩)
    · exact not_taken hi (SA := [1]) (SB := [16, 48, 112]) (by kernel_rfl) mem_z (mem_imm _)
    · exact not_taken hi (SA := [1]) (SB := [8]) (by kernel_rfl) mem_z (mem_mem hB.1 kB)
    · exact ⟨_, List.mem_singleton.2 rfl⟩
    · exact not_taken hi (SA := [1]) (SB := [0]) (by kernel_rfl) mem_z (by rw [hB]; decide)
  · exact not_taken hi (SA := [0]) (SB := l8) (by kernel_rfl) (by rw [hA]; decide) (cA_mem _)
theorem ex_52 {c : Int} {A B : On} {rep : Bool} {l : Int} (hi : isB ⟨52, c, A, B, rep, l⟩ = true) (hAm : 0 ≤ A.m ∧ A.m ≤ 4294967295) (hBm : 0 ≤ B.m ∧ B.m ≤ 4294967295) : ∃ w, w ∈ waysL ⟨52, c, A, B, rep, l⟩ := by
  rw [wl_52]
  rcases formsW hAm with ⟨rA, hA1, hA2, rfl⟩ | ⟨mA, mA1, mA2, rfl⟩ | ⟨hA, kA⟩ | rfl | hA
  · exact not_taken hi (SA := [2, 6]) (SB := l8) (by kernel_rfl) (mem_reg ⟨hA1, hA2⟩) (cA_mem _)
  · exact not_taken hi (SA := [16, 48, 112]) (SB := l8) (by kernel_rfl) (mem_imm _) (cA_mem _)
  · exact not_taken hi (SA := [8]) (SB := l8) (by kernel_rfl) (mem_mem hA.1 kA) (cA_mem _)
  · rcases formsW hBm with ⟨rB, hB1, hB2, rfl⟩ | ⟨mB, mB1, mB2, rfl⟩ | ⟨hB, kB⟩ | rfl | hB
    · exact not_taken hi (SA := [1]) (SB := [2, 6]) (by kernel_rfl) mem_z (mem_reg ⟨hB1, hB2⟩)
    · exact not_taken hi (SA := [1]) (SB := [16, 48, 112]) (by kernel_rfl) mem_z (mem_imm _)
    · exact not_taken hi (SA := [1]) (SB := [8]) (by kernel_rfl) mem_z (mem_mem hB.1 kB)
    · exact ⟨_, List.mem_singleton.2 rfl⟩
    · exact not_taken hi (SA := [1]) (SB := [0]) (by kernel_rfl) mem_z (by rw [hB]; decide)
  · exact not_taken hi (SA := [0]) (SB := l8) (by kernel_rfl) (by rw [hA]; decide) (cA_mem _)
theorem ex_53 {c : Int} {A B : On} {rep : Bool} {l : Int} (hi : isB ⟨53, c, A, B, rep, l⟩ = true) (hAm : 0 ≤ A.m ∧ A.m ≤ 4294967295) (hBm : 0 ≤ B.m ∧ B.m ≤ 4294967295) : ∃ w, w ∈ waysL ⟨53, c, A, B, rep, l⟩ := by
  rw [wl_53]
  rcases formsW hAm with ⟨rA, hA1, hA2, rfl⟩ | ⟨mA, mA1, mA2, rfl⟩ | ⟨hA, kA⟩ | rfl | hA
  · exact not_taken hi (SA := [2, 6]) (SB := l8) (by kernel_rfl) (mem_reg ⟨hA1, hA2⟩) (cA_mem _)
  · exact not_taken hi (SA := [16, 48, 112]) (SB := l8) (by kernel_rfl) (mem_imm _) (cA_mem _)
  · rcases formsW hBm with ⟨rB, hB1, hB2, rfl⟩ | ⟨mB, mB1, mB2, rfl⟩ | ⟨hB, kB⟩ | rfl | hB
    · exact not_taken hi (SA := [8]) (SB := [2, 6]) (by kernel_rfl) (mem_mem hA.1 kA) (mem_reg ⟨hB1, hB2⟩)
    · exact not_taken hi (SA := [8]) (SB := [16, 48, 112]) (by kernel_rfl) (mem_mem hA.1 kA) (mem_imm _)
    · exact not_taken hi (SA := [8]) (SB := [8]) (by kernel_rfl) (mem_mem hA.1 kA) (mem_mem hB.1 kB)
    · have mXA := fun n => Classical.choose_spec (mod_ex (hA) n)
      exact ⟨_, in_mW (mXA _) rfl⟩
    · exact not_taken hi (SA := [8]) (SB := [0]) (by kernel_rfl) (mem_mem hA.1 kA) (by rw [hB]; decide)
  · exact not_taken hi (SA := [1]) (SB := l8) (by kernel_rfl) mem_z (cA_mem _)
  · exact not_taken hi (SA := [0]) (SB := l8) (by kernel_rfl) (by rw [hA]; decide) (cA_mem _)
theorem ways_ex {k : In} (hi : isB k = true) (hA : 0 ≤ k.A.m ∧ k.A.m ≤ 4294967295) (hB : 0 ≤ k.B.m ∧ k.B.m ≤ 4294967295) : ∃ w, w ∈ waysL k := by
  obtain ⟨op, c, A, B, rep, l⟩ := k
  have h := taken_in hi
  rcases (by omega : op = 1 ∨ op = 2 ∨ op = 3 ∨ op = 4 ∨ op = 5 ∨ op = 6 ∨ op = 7 ∨ op = 8 ∨ op = 9 ∨ op = 10 ∨ op = 11 ∨ op = 12 ∨ op = 13 ∨ op = 14 ∨ op = 15 ∨ op = 16 ∨ op = 17 ∨ op = 18 ∨ op = 19 ∨ op = 20 ∨ op = 21 ∨ op = 22 ∨ op = 23 ∨ op = 24 ∨ op = 25 ∨ op = 26 ∨ op = 27 ∨ op = 28 ∨ op = 29 ∨ op = 30 ∨ op = 31 ∨ op = 32 ∨ op = 33 ∨ op = 34 ∨ op = 35 ∨ op = 36 ∨ op = 37 ∨ op = 38 ∨ op = 39 ∨ op = 40 ∨ op = 41 ∨ op = 42 ∨ op = 43 ∨ op = 44 ∨ op = 45 ∨ op = 46 ∨ op = 47 ∨ op = 48 ∨ op = 49 ∨ op = 50 ∨ op = 51 ∨ op = 52 ∨ op = 53) with rfl | rfl | rfl | rfl | rfl | rfl | rfl | rfl | rfl | rfl | rfl | rfl | rfl | rfl | rfl | rfl | rfl | rfl | rfl | rfl | rfl | rfl | rfl | rfl | rfl | rfl | rfl | rfl | rfl | rfl | rfl | rfl | rfl | rfl | rfl | rfl | rfl | rfl | rfl | rfl | rfl | rfl | rfl | rfl | rfl | rfl | rfl | rfl | rfl | rfl | rfl | rfl | rfl
  · exact ex_1 hi hA hB
  · exact ex_2 hi hA hB
  · exact ex_3 hi hA hB
  · exact ex_4 hi hA hB
  · exact ex_5 hi hA hB
  · exact ex_6 hi hA hB
  · exact ex_7 hi hA hB
  · exact ex_8 hi hA hB
  · exact ex_9 hi hA hB
  · exact ex_10 hi hA hB
  · exact ex_11 hi hA hB
  · exact ex_12 hi hA hB
  · exact ex_13 hi hA hB
  · exact ex_14 hi hA hB
  · exact ex_15 hi hA hB
  · exact ex_16 hi hA hB
  · exact ex_17 hi hA hB
  · exact ex_18 hi hA hB
  · exact ex_19 hi hA hB
  · exact ex_20 hi hA hB
  · exact ex_21 hi hA hB
  · exact ex_22 hi hA hB
  · exact ex_23 hi hA hB
  · exact ex_24 hi hA hB
  · exact ex_25 hi hA hB
  · exact ex_26 hi hA hB
  · exact ex_27 hi hA hB
  · exact ex_28 hi hA hB
  · exact ex_29 hi hA hB
  · exact ex_30 hi hA hB
  · exact ex_31 hi hA hB
  · exact ex_32 hi hA hB
  · exact ex_33 hi hA hB
  · exact ex_34 hi hA hB
  · exact ex_35 hi hA hB
  · exact ex_36 hi hA hB
  · exact ex_37 hi hA hB
  · exact ex_38 hi hA hB
  · exact ex_39 hi hA hB
  · exact ex_40 hi hA hB
  · exact ex_41 hi hA hB
  · exact ex_42 hi hA hB
  · exact ex_43 hi hA hB
  · exact ex_44 hi hA hB
  · exact ex_45 hi hA hB
  · exact ex_46 hi hA hB
  · exact ex_47 hi hA hB
  · exact ex_48 hi hA hB
  · exact ex_49 hi hA hB
  · exact ex_50 hi hA hB
  · exact ex_51 hi hA hB
  · exact ex_52 hi hA hB
  · exact ex_53 hi hA hB
/-- The bytes of an instruction. -/
def encM (k : In) : List Int := (bestW (waysL k)).getD []
theorem enc_best {k : In} (hi : isB k = true) (hA : 0 ≤ k.A.m ∧ k.A.m ≤ 4294967295) (hB : 0 ≤ k.B.m ∧ k.B.m ≤ 4294967295) : bestW (waysL k) = some (encM k) ∧ encM k ∈ waysL k ∧ ∀ w ∈ waysL k, leW (encM k) w := by
  obtain ⟨m, h1, h2, h3⟩ := best_of (ways_ex hi hA hB)
  have : encM k = m := by unfold encM; rw [h1]; rfl
  rw [this]
  exact ⟨h1, h2, h3⟩
/-- What is written is read as the same. -/
theorem enc_read {k : In} (hi : isB k = true) (hA : 0 ≤ k.A.m ∧ k.A.m ≤ 4294967295) (hB : 0 ≤ k.B.m ∧ k.B.m ≤ 4294967295) (suf : List Int) :
    decM (encM k ++ suf) = .ok ⟨k.op, k.c, k.A, k.B, k.rep, (encM k).length⟩ ∧ 1 ≤ (encM k).length ∧ (encM k).length ≤ 12 := ways_read hi hA hB (enc_best hi hA hB).2.1 suf
/-- No bytes that are read as it are shorter, or as short and earlier. -/
theorem enc_least {zs : List Int} (hz : ∀ z ∈ zs, 0 ≤ z ∧ z ≤ 255) {k : In} (h : decM zs = .ok k) (hA : 0 ≤ k.A.m ∧ k.A.m ≤ 4294967295) (hB : 0 ≤ k.B.m ∧ k.B.m ≤ 4294967295) : leW (encM k) (zs.take k.len.toNat) := by
  have hd := dec_len h
  obtain ⟨w, hw, h1, h2⟩ := ways_least hz h
  have hb := (enc_best hd.1 hA hB).2.2 w hw
  refine leW_trans hb (.inr ⟨?_, h2⟩)
  rw [List.length_take]
  omega
end Go.Proofs.YtbfkgakkkibejaaDoor
