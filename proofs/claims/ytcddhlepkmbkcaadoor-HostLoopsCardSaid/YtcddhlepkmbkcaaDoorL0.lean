/- A loop that counts down, no program in sight. -/
import Derived.Test.YtcddhlepkmbkcaaDoorG1
namespace Go.Proofs.YtcddhlepkmbkcaaDoor
open Go.RowKit
set_option linter.unusedVariables false
set_option linter.unusedSimpArgs false
set_option linter.unusedSectionVars false

def lp0 (K : Int) : St := setS newS 1 K
def lp1 (K : Int) : St := storeS (lp0 K) 1024 4 3211539
def lp2 (K : Int) : St := storeS (lp1 K) 1028 4 4293951635
def lp3 (K : Int) : St := storeS (lp2 K) 1032 4 4261453027
def lp4 (K : Int) : St := storeS (lp3 K) 1036 4 115
theorem lp_enc : encL 19 2 2 0 3 = 3211539 ∧ encL 19 1 1 0 (-1) = 4293951635 ∧ encL 6 0 1 0 (-8) = 4261453027 ∧ encL 46 0 0 0 0 = 115 := by decide
theorem lp_m0 (K : Int) : wordM (lp4 K).m 1024 4 = 3211539 := by
  unfold lp4 lp3 lp2 lp1 storeS
  rw [load_other (by omega), load_other (by omega), load_other (by omega)]
  exact load_store (by decide)
theorem lp_m1 (K : Int) : wordM (lp4 K).m 1028 4 = 4293951635 := by
  unfold lp4 lp3 lp2 storeS
  rw [load_other (by omega), load_other (by omega)]
  exact load_store (by decide)
theorem lp_m2 (K : Int) : wordM (lp4 K).m 1032 4 = 4261453027 := by
  unfold lp4 lp3 storeS
  rw [load_other (by omega)]
  exact load_store (by decide)
theorem lp_m3 (K : Int) : wordM (lp4 K).m 1036 4 = 115 := load_store (by decide)
def gS (K u v p : Int) : St := { lp4 K with x := setX (setX (lp4 K).x 1 u) 2 v, pc := p }
theorem setX_same (x : Int → Int) (i u v : Int) : setX (setX x i u) i v = setX x i v := by
  funext j; unfold setX; by_cases h : j = i ∧ 0 < i ∧ i < 32 <;> simp [h]
theorem setX_swap (x : Int → Int) (i k u v : Int) (h : i ≠ k) : setX (setX x i u) k v = setX (setX x k v) i u := by
  funext j; unfold setX
  by_cases h1 : j = i ∧ 0 < i ∧ i < 32
  · have h2 : ¬ (j = k ∧ 0 < k ∧ k < 32) := by omega
    rw [if_neg h2, if_pos h1, if_pos h1]
  · by_cases h2 : j = k ∧ 0 < k ∧ k < 32
    · rw [if_pos h2, if_neg h1, if_pos h2]
    · rw [if_neg h2, if_neg h1, if_neg h2, if_neg h1]
theorem g_1 (K u v p : Int) : (gS K u v p).x 1 = u := by simp [gS, setX]
theorem g_2 (K u v p : Int) : (gS K u v p).x 2 = v := by simp [gS, setX]
theorem g_0 (K u v p : Int) : (gS K u v p).x 0 = 0 := by simp [gS, setX, lp4, lp3, lp2, lp1, lp0, storeS, setS, newS]
theorem g_add {K u v : Int} (hv : 0 ≤ v) (h : v + 3 ≤ 4294967295) : stepL (gS K u v 1024) = (0, gS K u (v + 3) 1028) := by
  rw [step_word (s := gS K u v 1024) (op := 19) (d := 2) (a := 2) (b := 0) (i := 3) (by rfl) ((lp_m0 K).trans lp_enc.1.symm) (by decide), doL_alu _ _ _ _ _ _ (by decide), g_2, g_0]
  have e : aluL 19 v ((0 + 3) % 4294967296) = v + 3 := by show (v + 3) % 4294967296 = v + 3; omega
  rw [e]
  show (0, _) = (0, _)
  congr 1
  unfold gS
  simp only [setX_same]
  rfl
theorem g_dec {K u v : Int} (hu : 1 ≤ u) (h : u ≤ 4294967295) : stepL (gS K u v 1028) = (0, gS K (u - 1) v 1032) := by
  rw [step_word (s := gS K u v 1028) (op := 19) (d := 1) (a := 1) (b := 0) (i := -1) (by rfl) ((lp_m1 K).trans lp_enc.2.1.symm) (by decide), doL_alu _ _ _ _ _ _ (by decide), g_1, g_0]
  have e : aluL 19 u ((0 + -1) % 4294967296) = u - 1 := by show (u + 4294967295) % 4294967296 = u - 1; omega
  rw [e]
  show (0, _) = (0, _)
  congr 1
  unfold gS
  simp only [setX_swap _ 2 1 v (u - 1) (by decide), setX_same]
  rfl
theorem g_back {K u v : Int} (hu : ¬ u = 0) : stepL (gS K u v 1032) = (0, gS K u v 1024) := by
  rw [step_word (s := gS K u v 1032) (op := 6) (d := 0) (a := 1) (b := 0) (i := -8) (by rfl) ((lp_m2 K).trans lp_enc.2.2.1.symm) (by decide), doL_br _ _ _ _ _ _ (by decide), g_1, g_0]
  rw [if_pos (show takenL 6 u 0 = true by show (u != 0) = true; simpa using hu), show (gS K u v 1032).pc = 1032 from rfl, if_pos (by decide)]
  rfl
theorem g_on {K v : Int} : stepL (gS K 0 v 1032) = (0, gS K 0 v 1036) := by
  rw [step_word (s := gS K 0 v 1032) (op := 6) (d := 0) (a := 1) (b := 0) (i := -8) (by rfl) ((lp_m2 K).trans lp_enc.2.2.1.symm) (by decide), doL_br _ _ _ _ _ _ (by decide), g_1, g_0]
  rw [if_neg (show ¬ takenL 6 0 0 = true by decide)]
  rfl
theorem g_call {K u v : Int} : stepL (gS K u v 1036) = (1, gS K u v 1040) := by
  rw [step_word (s := gS K u v 1036) (op := 46) (d := 0) (a := 0) (b := 0) (i := 0) (by rfl) ((lp_m3 K).trans lp_enc.2.2.2.symm) (by decide), doL_46]
  rfl
/-- The state behind so many steps. -/
def stF (K F : Nat) : St := gS K ((K : Int) - ((F + 1) / 3 : Nat)) ((3 * ((F + 2) / 3) : Nat)) (if F = 3 * K then 1036 else 1024 + 4 * ((F % 3 : Nat) : Int))
theorem stF_0 {K : Nat} (hK : 0 < K) : stF K 0 = lp4 K := by
  unfold stF
  rw [if_neg (by omega)]
  show ({ lp4 K with x := setX (setX (lp4 K).x 1 ((K : Int) - 0)) 2 0, pc := 1024 + 4 * 0 } : St) = lp4 K
  have h1 : (lp4 (K : Int)).x = setX newS.x 1 K := rfl
  have h2 : (lp4 (K : Int)).pc = 1024 := rfl
  have h3 : setX (setX (lp4 (K : Int)).x 1 ((K : Int) - 0)) 2 0 = (lp4 (K : Int)).x := by
    rw [h1, setX_same]
    funext j
    unfold setX
    by_cases h : j = 2
    · subst h; simp [newS]
    · simp [h]
  rw [h3]
  rfl
theorem stF_step {K F : Nat} (hK : K ≤ 50) (hF : F < 3 * K) : stepL (stF K F) = (0, stF K (F + 1)) := by
  unfold stF
  rw [if_neg (show ¬ F = 3 * K by omega)]
  obtain ⟨j, hj⟩ : ∃ j, F = 3 * j ∨ F = 3 * j + 1 ∨ F = 3 * j + 2 := ⟨F / 3, by omega⟩
  rcases hj with rfl | rfl | rfl
  · rw [if_neg (by omega), show 3 * j % 3 = 0 by omega, show (3 * j + 1) % 3 = 1 by omega, show (3 * j + 1) / 3 = j by omega, show (3 * j + 2) / 3 = j by omega, show (3 * j + 1 + 2) / 3 = j + 1 by omega,
      show (1024 : Int) + 4 * ((0 : Nat) : Int) = 1024 from rfl, g_add (by omega) (by omega), show (1024 : Int) + 4 * ((1 : Nat) : Int) = 1028 from rfl, show ((3 * j : Nat) : Int) + 3 = ((3 * (j + 1) : Nat) : Int) by omega]
  · rw [if_neg (by omega), show (3 * j + 1) % 3 = 1 by omega, show (3 * j + 1 + 1) % 3 = 2 by omega, show (3 * j + 1 + 1) / 3 = j by omega, show (3 * j + 1 + 2) / 3 = j + 1 by omega, show (3 * j + 1 + 1 + 2) / 3 = j + 1 by omega,
      show (1024 : Int) + 4 * ((1 : Nat) : Int) = 1028 from rfl, g_dec (by omega) (by omega), show (1024 : Int) + 4 * ((2 : Nat) : Int) = 1032 from rfl, show (K : Int) - (j : Int) - 1 = (K : Int) - ((j + 1 : Nat) : Int) by omega]
  · rw [show (3 * j + 2) % 3 = 2 by omega, show (3 * j + 2 + 1) % 3 = 0 by omega, show (3 * j + 2 + 1) / 3 = j + 1 by omega, show (3 * j + 2 + 2) / 3 = j + 1 by omega, show (3 * j + 2 + 1 + 2) / 3 = j + 1 by omega,
      show (1024 : Int) + 4 * ((2 : Nat) : Int) = 1032 from rfl, show (1024 : Int) + 4 * ((0 : Nat) : Int) = 1024 from rfl]
    by_cases hl : 3 * j + 2 + 1 = 3 * K
    · rw [if_pos hl, show (K : Int) - ((j + 1 : Nat) : Int) = 0 by omega]
      exact g_on
    · rw [if_neg hl]
      exact g_back (by omega)
theorem runL_to {K : Nat} (hK : K ≤ 50) : ∀ (n F c : Nat), F + n ≤ 3 * K → runL n c (stF K F) = (0, c + n, stF K (F + n))
  | 0, F, c, h => rfl
  | n + 1, F, c, h => by
    have hs := stF_step (F := F) hK (by omega)
    rw [runL_go (by rw [hs]), hs]
    simp only []
    rw [runL_to hK n (F + 1) (c + 1) (by omega), show c + 1 + n = c + (n + 1) by omega, show F + 1 + n = F + (n + 1) by omega]
theorem runL_add (n m c : Nat) (s s' : St) (c' : Nat) (h : runL n c s = (0, c', s')) (hc : c' = c + n) : runL (n + m) c s = runL m c' s' := by
  induction n generalizing c s with
  | zero => simp [runL] at h; obtain ⟨rfl, rfl⟩ := h; rw [Nat.zero_add]
  | succ n ih =>
    by_cases hz : (stepL s).1 = 0
    · rw [runL_go hz] at h
      rw [show n + 1 + m = (n + m) + 1 by omega, runL_go hz]
      exact ih _ _ h (by omega)
    · rw [runL_stop hz] at h
      simp at h
      exact absurd h.1 hz
theorem runL_end {K : Nat} (hK : K ≤ 50) (F n : Nat) (hF : F ≤ 3 * K) (hn : 3 * K - F < n) : runL n 0 (stF K F) = (1, 3 * K - F + 1, gS K 0 (3 * K : Nat) 1040) := by
  have h := runL_to hK (3 * K - F) F 0 (by omega)
  obtain ⟨m, rfl⟩ : ∃ m, n = (3 * K - F) + (m + 1) := ⟨n - (3 * K - F) - 1, by omega⟩
  rw [runL_add _ _ _ _ _ _ h rfl, show F + (3 * K - F) = 3 * K by omega]
  have he : stF K (3 * K) = gS K 0 (3 * K : Nat) 1036 := by
    unfold stF
    rw [if_pos rfl, show (3 * K + 1) / 3 = K by omega, show (3 * K + 2) / 3 = K by omega, Int.sub_self]
  rw [he, runL_stop (by rw [g_call]; exact Int.one_ne_zero), g_call]
  simp
end Go.Proofs.YtcddhlepkmbkcaaDoor
