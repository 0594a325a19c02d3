/-
  UNLIKE WORDS HAVE UNLIKE TEXTS.
-/
import Derived.Test.YtoeohfbicnolhaaDoorM1
import Derived.Test.YtoeohfbicnolhaaDoorR4
namespace Go.Proofs.YtoeohfbicnolhaaDoor
open Go.RowKit
set_option linter.unusedVariables false
set_option linter.unusedSimpArgs false

theorem split_at {c : UInt8} : ∀ {A A' B B' : List UInt8}, c ∉ A → c ∉ A' → A ++ c :: B = A' ++ c :: B' → A = A' ∧ B = B'
  | [], [], B, B', _, _, h => by simpa using h
  | [], x :: A', B, B', _, h2, h => by
    simp only [List.nil_append, List.cons_append, List.cons.injEq] at h
    exact absurd h.1 (fun e => h2 (by simp [e]))
  | x :: A, [], B, B', h1, _, h => by
    simp only [List.nil_append, List.cons_append, List.cons.injEq] at h
    exact absurd h.1 (fun e => h1 (by simp [e]))
  | x :: A, y :: A', B, B', h1, h2, h => by
    simp only [List.cons_append, List.cons.injEq] at h
    obtain ⟨e1, e2⟩ := split_at (fun m => h1 (List.mem_cons_of_mem _ m)) (fun m => h2 (List.mem_cons_of_mem _ m)) h.2
    exact ⟨by rw [h.1, e1], e2⟩
theorem digit_inj {a b : Nat} (ha : a < 10) (hb : b < 10) (h : UInt8.ofNat (48 + a) = UInt8.ofNat (48 + b)) : a = b := by
  have hh : ∀ a b : Fin 10, UInt8.ofNat (48 + a.val) = UInt8.ofNat (48 + b.val) → a = b := by decide +kernel
  have := hh ⟨a, ha⟩ ⟨b, hb⟩ h
  simpa using this
theorem digit_rng {a : Nat} (ha : a < 10) : ∀ c : UInt8, c = UInt8.ofNat (48 + a) → c ≠ 45 ∧ c ≠ 44 ∧ c ≠ 40 ∧ c ≠ 41 := by
  have hh : ∀ a : Fin 10, UInt8.ofNat (48 + a.val) ≠ 45 ∧ UInt8.ofNat (48 + a.val) ≠ 44 ∧ UInt8.ofNat (48 + a.val) ≠ 40 ∧ UInt8.ofNat (48 + a.val) ≠ 41 := by decide +kernel
  rintro c rfl
  exact hh ⟨a, ha⟩
theorem dec_step {u : Nat} (h : ¬ u < 10) : Lib.decDigits u = Lib.decDigits (u / 10) ++ [UInt8.ofNat (48 + u % 10)] := by rw [Lib.decDigits, dif_neg h]
theorem dec_chars (u : Nat) : ∀ c ∈ Lib.decDigits u, c ≠ 45 ∧ c ≠ 44 ∧ c ≠ 40 ∧ c ≠ 41 := by
  induction u using Nat.strongRecOn with
  | _ u ih =>
    intro c hc
    by_cases h : u < 10
    · rw [Lib.decDigits_one h] at hc
      exact digit_rng h c (by simpa using hc)
    · rw [dec_step h] at hc
      rcases List.mem_append.1 hc with hc | hc
      · exact ih (u / 10) (by omega) c hc
      · exact digit_rng (a := u % 10) (by omega) c (by simpa using hc)
theorem dec_pos (u : Nat) : 1 ≤ (Lib.decDigits u).length := by rw [Lib.decDigits_length]; exact Lib.nDigits_pos u
theorem dec_inj : ∀ (u v : Nat), Lib.decDigits u = Lib.decDigits v → u = v := by
  intro u
  induction u using Nat.strongRecOn with
  | _ u ih =>
    intro v h
    by_cases h1 : u < 10
    · by_cases h2 : v < 10
      · rw [Lib.decDigits_one h1, Lib.decDigits_one h2] at h
        exact digit_inj h1 h2 (by simpa using h)
      · rw [Lib.decDigits_one h1, dec_step h2] at h
        have hl := congrArg List.length h
        have hp := dec_pos (v / 10)
        rw [List.length_append] at hl
        simp only [List.length_cons, List.length_nil] at hl
        omega
    · by_cases h2 : v < 10
      · rw [Lib.decDigits_one h2, dec_step h1] at h
        have hl := congrArg List.length h
        have hp := dec_pos (u / 10)
        rw [List.length_append] at hl
        simp only [List.length_cons, List.length_nil] at hl
        omega
      · rw [dec_step h1, dec_step h2] at h
        obtain ⟨e1, e2⟩ := List.append_inj' h rfl
        have a := ih (u / 10) (by omega) _ e1
        have b := digit_inj (a := u % 10) (b := v % 10) (by omega) (by omega) (by simpa using e2)
        omega
theorem itoa_chars (n : Int) : ∀ c ∈ Lib.itoa n, c ≠ 44 ∧ c ≠ 40 ∧ c ≠ 41 := by
  intro c hc
  unfold Lib.itoa at hc
  split at hc
  · rcases List.mem_cons.1 hc with rfl | hc
    · decide
    · exact (dec_chars _ c hc).2
  · exact (dec_chars _ c hc).2
theorem itoa_inj {n m : Int} (h : Lib.itoa n = Lib.itoa m) : n = m := by
  unfold Lib.itoa at h
  split at h <;> split at h
  · have := dec_inj _ _ (List.cons.inj h).2
    omega
  · exfalso
    have : (45 : UInt8) ∈ Lib.decDigits m.toNat := by rw [← h]; simp
    exact (dec_chars _ _ this).1 rfl
  · exfalso
    have : (45 : UInt8) ∈ Lib.decDigits n.toNat := by rw [h]; simp
    exact (dec_chars _ _ this).1 rfl
  · have := dec_inj _ _ h
    omega
theorem r44 (n : Int) : (44 : UInt8) ∉ 120 :: Lib.itoa n := fun h => by
  rcases List.mem_cons.1 h with h | h
  · cases h
  · exact (itoa_chars n _ h).1 rfl
theorem i40 (n : Int) : (40 : UInt8) ∉ Lib.itoa n := fun h => (itoa_chars n _ h).2.1 rfl
theorem r41 (n : Int) : (41 : UInt8) ∉ 120 :: Lib.itoa n := fun h => by
  rcases List.mem_cons.1 h with h | h
  · cases h
  · exact (itoa_chars n _ h).2.2 rfl
theorem reg_inj {n m : Int} (h : (120 : UInt8) :: Lib.itoa n = 120 :: Lib.itoa m) : n = m := itoa_inj (List.cons.inj h).2
theorem name_blank {k : Nat} (hk : k < 48) : (32 : UInt8) ∉ nameL k := by
  have h : ∀ j : Fin 48, (32 : UInt8) ∉ nameL j := by decide +kernel
  exact h ⟨k, hk⟩
theorem name_inj {k j : Nat} (hk : k < 48) (hj : j < 48) (h : nameL k = nameL j) : k = j := by
  have hh : ∀ a b : Fin 48, nameL a = nameL b → a = b := by decide +kernel
  have := hh ⟨k, hk⟩ ⟨j, hj⟩ h
  simpa using this
/-- The operands of a form tell its numbers. -/
theorem ops_inj (f : Nat) (h1 : 1 ≤ f) (h9 : f ≤ 9) {d s t i d' s' t' i' : Int} (h : okF f d s t i = true) (h' : okF f d' s' t' i' = true)
    (e : (operL f).flatMap (pieceT d s t i) = (operL f).flatMap (pieceT d' s' t' i')) : d = d' ∧ s = s' ∧ t = t' ∧ i = i' := by
  obtain ⟨a1, a2, a3, a4, a5, -⟩ := okF_regs h
  obtain ⟨b1, b2, b3, b4, b5, -⟩ := okF_regs h'
  have hc : f = 1 ∨ f = 2 ∨ f = 3 ∨ f = 4 ∨ f = 5 ∨ f = 6 ∨ f = 7 ∨ f = 8 ∨ f = 9 := by omega
  rcases hc with rfl | rfl | rfl | rfl | rfl | rfl | rfl | rfl | rfl
  · have e : (120 :: Lib.itoa d) ++ 44 :: (Lib.itoa i ++ []) = (120 :: Lib.itoa d') ++ 44 :: (Lib.itoa i' ++ []) := e
    obtain ⟨e1, e2⟩ := split_at (r44 _) (r44 _) e
    simp only [List.append_nil] at e2
    exact ⟨reg_inj e1, by rw [reg_false a2, reg_false b2], by rw [reg_false a3, reg_false b3], itoa_inj e2⟩
  · have e : (120 :: Lib.itoa d) ++ 44 :: (Lib.itoa i ++ []) = (120 :: Lib.itoa d') ++ 44 :: (Lib.itoa i' ++ []) := e
    obtain ⟨e1, e2⟩ := split_at (r44 _) (r44 _) e
    simp only [List.append_nil] at e2
    exact ⟨reg_inj e1, by rw [reg_false a2, reg_false b2], by rw [reg_false a3, reg_false b3], itoa_inj e2⟩
  · have e : (120 :: Lib.itoa d) ++ 44 :: ((120 :: Lib.itoa s) ++ 44 :: (Lib.itoa i ++ [])) = (120 :: Lib.itoa d') ++ 44 :: ((120 :: Lib.itoa s') ++ 44 :: (Lib.itoa i' ++ [])) := e
    obtain ⟨e1, e2⟩ := split_at (r44 _) (r44 _) e
    obtain ⟨e2, e3⟩ := split_at (r44 _) (r44 _) e2
    simp only [List.append_nil] at e3
    exact ⟨reg_inj e1, reg_inj e2, by rw [reg_false a3, reg_false b3], itoa_inj e3⟩
  · have e : (120 :: Lib.itoa d) ++ 44 :: (Lib.itoa i ++ 40 :: ((120 :: Lib.itoa s) ++ 41 :: [])) = (120 :: Lib.itoa d') ++ 44 :: (Lib.itoa i' ++ 40 :: ((120 :: Lib.itoa s') ++ 41 :: [])) := e
    obtain ⟨e1, e2⟩ := split_at (r44 _) (r44 _) e
    obtain ⟨e2, e3⟩ := split_at (i40 _) (i40 _) e2
    obtain ⟨e3, -⟩ := split_at (r41 _) (r41 _) e3
    exact ⟨reg_inj e1, reg_inj e3, by rw [reg_false a3, reg_false b3], itoa_inj e2⟩
  · have e : (120 :: Lib.itoa t) ++ 44 :: (Lib.itoa i ++ 40 :: ((120 :: Lib.itoa s) ++ 41 :: [])) = (120 :: Lib.itoa t') ++ 44 :: (Lib.itoa i' ++ 40 :: ((120 :: Lib.itoa s') ++ 41 :: [])) := e
    obtain ⟨e1, e2⟩ := split_at (r44 _) (r44 _) e
    obtain ⟨e2, e3⟩ := split_at (i40 _) (i40 _) e2
    obtain ⟨e3, -⟩ := split_at (r41 _) (r41 _) e3
    exact ⟨by rw [reg_false a1, reg_false b1], reg_inj e3, reg_inj e1, itoa_inj e2⟩
  · have e : (120 :: Lib.itoa s) ++ 44 :: ((120 :: Lib.itoa t) ++ 44 :: (Lib.itoa i ++ [])) = (120 :: Lib.itoa s') ++ 44 :: ((120 :: Lib.itoa t') ++ 44 :: (Lib.itoa i' ++ [])) := e
    obtain ⟨e1, e2⟩ := split_at (r44 _) (r44 _) e
    obtain ⟨e2, e3⟩ := split_at (r44 _) (r44 _) e2
    simp only [List.append_nil] at e3
    exact ⟨by rw [reg_false a1, reg_false b1], reg_inj e1, reg_inj e2, itoa_inj e3⟩
  · have e : (120 :: Lib.itoa d) ++ 44 :: ((120 :: Lib.itoa s) ++ 44 :: (Lib.itoa i ++ [])) = (120 :: Lib.itoa d') ++ 44 :: ((120 :: Lib.itoa s') ++ 44 :: (Lib.itoa i' ++ [])) := e
    obtain ⟨e1, e2⟩ := split_at (r44 _) (r44 _) e
    obtain ⟨e2, e3⟩ := split_at (r44 _) (r44 _) e2
    simp only [List.append_nil] at e3
    exact ⟨reg_inj e1, reg_inj e2, by rw [reg_false a3, reg_false b3], itoa_inj e3⟩
  · have e : (120 :: Lib.itoa d) ++ 44 :: ((120 :: Lib.itoa s) ++ 44 :: ((120 :: Lib.itoa t) ++ [])) = (120 :: Lib.itoa d') ++ 44 :: ((120 :: Lib.itoa s') ++ 44 :: ((120 :: Lib.itoa t') ++ [])) := e
    obtain ⟨e1, e2⟩ := split_at (r44 _) (r44 _) e
    obtain ⟨e2, e3⟩ := split_at (r44 _) (r44 _) e2
    simp only [List.append_nil] at e3
    have x1 : (0 : Int) ≤ i := a4
    have x2 : i ≤ 0 := a5
    have x3 : (0 : Int) ≤ i' := b4
    have x4 : i' ≤ 0 := b5
    exact ⟨reg_inj e1, reg_inj e2, reg_inj e3, by omega⟩
  · have x1 : (0 : Int) ≤ i := a4
    have x2 : i ≤ 0 := a5
    have x3 : (0 : Int) ≤ i' := b4
    have x4 : i' ≤ 0 := b5
    exact ⟨by rw [reg_false a1, reg_false b1], by rw [reg_false a2, reg_false b2], by rw [reg_false a3, reg_false b3], by omega⟩
theorem text_inj {op d s t i op' d' s' t' i' : Int} (h : isL op d s t i = true) (h' : isL op' d' s' t' i' = true) (e : textL op d s t i = textL op' d' s' t' i') :
    op = op' ∧ d = d' ∧ s = s' ∧ t = t' ∧ i = i' := by
  obtain ⟨k, rfl, k1, k2, k3, -⟩ := isL_kind h
  obtain ⟨j, rfl, j1, j2, j3, -⟩ := isL_kind h'
  unfold textL at e
  rw [if_pos h, if_pos h', Int.toNat_natCast, Int.toNat_natCast] at e
  have fk := opCases k1 k2
  have fj := opCases j1 j2
  have nk := name_blank (k := k) (by omega)
  have nj := name_blank (k := j) (by omega)
  have hkj : k = j := by
    unfold textF at e
    split at e <;> split at e
    · exact name_inj (by omega) (by omega) e
    · exfalso; rw [e] at nk; simp at nk
    · exfalso; rw [← e] at nj; simp at nj
    · rw [List.append_assoc, List.append_assoc] at e
      exact name_inj (by omega) (by omega) (split_at nk nj e).1
  subst hkj
  have : (operL (formN k)).flatMap (pieceT d s t i) = (operL (formN k)).flatMap (pieceT d' s' t' i') := by
    unfold textF at e
    split at e
    · rename_i hn; rw [hn]; rfl
    · exact List.append_cancel_left e
  obtain ⟨q1, q2, q3, q4⟩ := ops_inj (formN k) (by omega) (by omega) k3 j3 this
  exact ⟨rfl, q1, q2, q3, q4⟩
theorem enc_inj {op d s t i op' d' s' t' i' : Int} (h : isL op d s t i = true) (h' : isL op' d' s' t' i' = true) (e : encL op d s t i = encL op' d' s' t' i') :
    op = op' ∧ d = d' ∧ s = s' ∧ t = t' ∧ i = i' := by
  have a := dec_enc h
  have b := dec_enc h'
  rw [e, b] at a
  simp at a
  obtain ⟨a1, a2, a3, a4, a5⟩ := a
  exact ⟨a1.symm, a2.symm, a3.symm, a4.symm, a5.symm⟩
end Go.Proofs.YtoeohfbicnolhaaDoor
