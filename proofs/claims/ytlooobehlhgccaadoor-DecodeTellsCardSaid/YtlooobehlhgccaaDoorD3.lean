/- What stands behind an instruction plays no part; cut off it is too short (no program). -/
import Derived.Test.YtlooobehlhgccaaDoorQ4
namespace Go.Proofs.YtlooobehlhgccaaDoor
open Go.RowKit
set_option linter.unusedVariables false
set_option linter.unusedSimpArgs false

theorem getD_app {zs ys : List Int} {p : Nat} (h : p < zs.length) : (zs ++ ys).getD p 0 = zs.getD p 0 := by
  simp only [List.getD_eq_getElem?_getD]
  rw [List.getElem?_append_left h]
theorem le4_app {zs ys : List Int} {p : Nat} (h : p + 4 ≤ zs.length) : le4 (zs ++ ys) p = le4 zs p := by
  unfold le4
  rw [getD_app (by omega), getD_app (by omega), getD_app (by omega), getD_app (by omega)]
theorem len_app {zs ys : List Int} {n : Nat} (h : n ≤ zs.length) : n ≤ (zs ++ ys).length := by simp; omega
section
variable {zs ys : List Int} {p q : Nat} {o : On} {c m : Int} {r : Rw}
theorem distM_app {how b x s : Int} (h : distM zs p how b x s = some (o, q)) : distM (zs ++ ys) p how b x s = some (o, q) := by
  unfold distM at h ⊢
  by_cases h1 : how = 1
  · rw [if_pos h1] at h ⊢
    by_cases h2 : p + 1 ≤ zs.length
    · rw [if_pos h2] at h; rw [if_pos (len_app h2), getD_app (by omega)]; exact h
    · rw [if_neg h2] at h; cases h
  · rw [if_neg h1] at h ⊢
    by_cases h3 : how = 2
    · rw [if_pos h3] at h ⊢
      by_cases h2 : p + 4 ≤ zs.length
      · rw [if_pos h2] at h; rw [if_pos (len_app h2), le4_app h2]; exact h
      · rw [if_neg h2] at h; cases h
    · rw [if_neg h3] at h ⊢
      by_cases h4 : b = 5
      · rw [if_pos h4] at h ⊢
        by_cases h2 : p + 4 ≤ zs.length
        · rw [if_pos h2] at h; rw [if_pos (len_app h2), le4_app h2]; exact h
        · rw [if_neg h2] at h; cases h
      · rw [if_neg h4] at h ⊢; exact h
theorem placeM_app (h : placeM zs p m = some (o, q)) : placeM (zs ++ ys) p m = some (o, q) := by
  unfold placeM at h ⊢
  by_cases h1 : m / 64 % 4 = 3
  · rw [if_pos h1] at h ⊢; exact h
  · rw [if_neg h1] at h ⊢
    by_cases h2 : m % 8 = 4
    · rw [if_pos h2] at h ⊢
      by_cases h3 : p + 1 ≤ zs.length
      · rw [if_pos h3] at h
        rw [if_pos (len_app h3), getD_app (by omega)]
        by_cases h4 : zs.getD p 0 / 8 % 8 = 4
        · rw [if_pos h4] at h ⊢; exact distM_app h
        · rw [if_neg h4] at h ⊢; exact distM_app h
      · rw [if_neg h3] at h; cases h
    · rw [if_neg h2] at h ⊢; exact distM_app h
theorem operM_app {k : Int} (h : operM zs c m p k = some (o, q)) : operM (zs ++ ys) c m p k = some (o, q) := by
  unfold operM at h ⊢
  split
  · rename_i e; rw [if_pos e] at h; exact h
  rename_i e; rw [if_neg e] at h; clear e
  split
  · rename_i e; rw [if_pos e] at h; exact h
  rename_i e; rw [if_neg e] at h; clear e
  split
  · rename_i e; rw [if_pos e] at h; exact h
  rename_i e; rw [if_neg e] at h; clear e
  split
  · rename_i e; rw [if_pos e] at h; exact h
  rename_i e; rw [if_neg e] at h; clear e
  split
  · rename_i e; rw [if_pos e] at h; exact h
  rename_i e; rw [if_neg e] at h; clear e
  split
  · rename_i e; rw [if_pos e] at h; exact placeM_app h
  rename_i e; rw [if_neg e] at h; clear e
  split
  · rename_i e; rw [if_pos e] at h
    by_cases h2 : p + 1 ≤ zs.length
    · rw [if_pos h2] at h; rw [if_pos (len_app h2), getD_app (by omega)]; exact h
    · rw [if_neg h2] at h; cases h
  rename_i e; rw [if_neg e] at h; clear e
  split
  · rename_i e; rw [if_pos e] at h
    by_cases h2 : p + 1 ≤ zs.length
    · rw [if_pos h2] at h; rw [if_pos (len_app h2), getD_app (by omega)]; exact h
    · rw [if_neg h2] at h; cases h
  rename_i e; rw [if_neg e] at h; clear e
  split
  · rename_i e; rw [if_pos e] at h
    by_cases h2 : p + 4 ≤ zs.length
    · rw [if_pos h2] at h; rw [if_pos (len_app h2), le4_app h2]; exact h
    · rw [if_neg h2] at h; cases h
  rename_i e; rw [if_neg e] at h; clear e
  exact h
theorem restM_app (h : restM zs c m p r ≠ .error 10) : restM (zs ++ ys) c m p r = restM zs c m p r := by
  by_cases h0 : opM c m r = 0
  · rw [rest_zero h0, rest_zero h0]
  by_cases h1 : opM c m r = -1
  · rw [rest_bad h1, rest_bad h1]
  cases hA : operM zs c m p r.a with
  | none => exact absurd (rest_shortA rfl h0 h1 hA) h
  | some x =>
    obtain ⟨A, q⟩ := x
    cases hB : operM zs c m q r.b with
    | none => exact absurd (rest_shortB rfl h0 h1 hA hB) h
    | some y =>
      obtain ⟨B, q'⟩ := y
      rw [rest_ok rfl h0 h1 hA hB, rest_ok rfl h0 h1 (operM_app hA) (operM_app hB)]
theorem byM_app (h : byM zs c p r ≠ .error 10) : byM (zs ++ ys) c p r = byM zs c p r := by
  unfold byM at h ⊢
  by_cases h6 : r.a = 6 ∨ r.b = 6
  · rw [if_pos h6] at h ⊢
    rw [if_pos h6]
    by_cases hp : p + 1 ≤ zs.length
    · rw [if_pos hp] at h ⊢
      rw [if_pos (len_app hp), getD_app (by omega)]
      exact restM_app h
    · rw [if_neg hp] at h; exact absurd rfl h
  · rw [if_neg h6] at h ⊢
    rw [if_neg h6]
    exact restM_app h
theorem firstM_app : ∀ L : List Rw, firstM zs c p L ≠ .error 10 → firstM (zs ++ ys) c p L = firstM zs c p L
  | [], _ => rfl
  | r :: rs, h => by
    rw [firstM] at h ⊢
    rw [firstM]
    cases hf : fitB c r
    · rw [hf] at h
      exact firstM_app rs h
    · rw [hf] at h
      simp only [if_true] at h ⊢
      have hb : byM zs c p r ≠ .error 10 := by
        intro e
        rw [e] at h
        exact h rfl
      rw [byM_app hb]
      cases hy : byM zs c p r with
      | error x => rfl
      | ok i =>
        rw [hy] at h
        dsimp only at h ⊢
        cases hi : isB i
        · rw [hi] at h
          exact firstM_app rs h
        · rfl
theorem openM_app {d : Int} (h : openM zs = some (d, q)) : openM (zs ++ ys) = some (d, q) := by
  unfold openM at h ⊢
  by_cases h1 : 1 ≤ zs.length
  · rw [if_pos h1] at h
    rw [if_pos (len_app h1), getD_app (by omega)]
    by_cases h2 : zs.getD 0 0 = 15 ∨ zs.getD 0 0 = 217 ∨ zs.getD 0 0 = 243
    · rw [if_pos h2] at h ⊢
      by_cases h3 : 2 ≤ zs.length
      · rw [if_pos h3] at h
        rw [if_pos (len_app h3), getD_app (by omega)]
        exact h
      · rw [if_neg h3] at h; cases h
    · rw [if_neg h2] at h ⊢; exact h
  · rw [if_neg h1] at h; cases h
end
/-- What is told by the bytes that are there is told. -/
theorem dec_app {zs : List Int} (ys : List Int) (h : decM zs ≠ .error 10) : decM (zs ++ ys) = decM zs := by
  cases ho : openM zs with
  | none => exact absurd (by unfold decM; rw [ho]) h
  | some x =>
    obtain ⟨c, p⟩ := x
    rw [dec_rows ho] at h ⊢
    rw [dec_rows (openM_app ho)]
    rw [firstM_app]
    intro e
    rw [e] at h
    exact h rfl
/-- How long an instruction is. -/
theorem rest_len {zs : List Int} {c m : Int} {p : Nat} {r : Rw} {i : In} (hp : p ≤ zs.length) (h : restM zs c m p r = .ok i) (hi : isB i = true) : (p : Int) ≤ i.len ∧ i.len ≤ zs.length := by
  by_cases h0 : opM c m r = 0
  · rw [rest_zero h0] at h
    obtain rfl := Except.ok.inj h
    rw [isB_inZ] at hi; cases hi
  by_cases h1 : opM c m r = -1
  · rw [rest_bad h1] at h; cases h
  cases hA : operM zs c m p r.a with
  | none => rw [rest_shortA rfl h0 h1 hA] at h; cases h
  | some x =>
    obtain ⟨A, q⟩ := x
    cases hB : operM zs c m q r.b with
    | none => rw [rest_shortB rfl h0 h1 hA hB] at h; cases h
    | some y =>
      obtain ⟨B, q'⟩ := y
      rw [rest_ok rfl h0 h1 hA hB] at h
      obtain rfl := Except.ok.inj h
      have l1 := operM_le hp hA
      have l2 := operM_le l1.2 hB
      dsimp only
      omega
theorem by_len {zs : List Int} {c : Int} {p : Nat} {r : Rw} {i : In} (hp : p ≤ zs.length) (h : byM zs c p r = .ok i) (hi : isB i = true) : (p : Int) ≤ i.len ∧ i.len ≤ zs.length := by
  unfold byM at h
  by_cases h6 : r.a = 6 ∨ r.b = 6
  · rw [if_pos h6] at h
    by_cases hq : p + 1 ≤ zs.length
    · rw [if_pos hq] at h
      have := rest_len hq h hi
      omega
    · rw [if_neg hq] at h; cases h
  · rw [if_neg h6] at h
    exact rest_len hp h hi
theorem first_len {zs : List Int} {c : Int} {p : Nat} {i : In} (hp : p ≤ zs.length) : ∀ L : List Rw, firstM zs c p L = .ok (some i) → isB i = true ∧ (p : Int) ≤ i.len ∧ i.len ≤ zs.length
  | [], h => by cases h
  | r :: rs, h => by
    rw [firstM] at h
    cases hf : fitB c r
    · rw [hf] at h; exact first_len hp rs h
    · rw [hf] at h
      simp only [if_true] at h
      cases hy : byM zs c p r with
      | error x => rw [hy] at h; cases h
      | ok j =>
        rw [hy] at h
        dsimp only at h
        cases hj : isB j
        · rw [hj] at h; exact first_len hp rs h
        · rw [hj] at h
          obtain rfl := Option.some.inj (Except.ok.inj h)
          exact ⟨hj, by_len hp hy hj⟩
theorem open_pos {zs : List Int} {c : Int} {p : Nat} (h : openM zs = some (c, p)) : 1 ≤ p ∧ p ≤ zs.length := by
  unfold openM at h
  (repeat' split at h) <;> first | (cases h; done) | (obtain ⟨-, rfl⟩ := Prod.mk.inj (Option.some.inj h); omega)
theorem dec_first {zs : List Int} {i : In} (h : decM zs = .ok i) : ∃ c p, openM zs = some (c, p) ∧ firstM zs c p (rowsOf c) = .ok (some i) := by
  cases ho : openM zs with
  | none => unfold decM at h; rw [ho] at h; cases h
  | some x =>
    obtain ⟨c, p⟩ := x
    rw [dec_rows ho] at h
    refine ⟨c, p, rfl, ?_⟩
    cases hf : firstM zs c p (rowsOf c) with
    | error x => rw [hf] at h; cases h
    | ok o =>
      cases o with
      | none => rw [hf] at h; cases h
      | some j => rw [hf] at h; obtain rfl := Except.ok.inj h; rfl
theorem dec_len {zs : List Int} {i : In} (h : decM zs = .ok i) : isB i = true ∧ 1 ≤ i.len ∧ i.len ≤ zs.length ∧ i.len ≤ 15 := by
  obtain ⟨c, p, ho, hf⟩ := dec_first h
  have hp := open_pos ho
  have := first_len hp.2 _ hf
  have hb := this.1
  unfold isB at hb
  simp only [Bool.and_eq_true, decide_eq_true_eq] at hb
  exact ⟨this.1, by omega, by omega, by omega⟩
/-- Cut off it is too short. -/
theorem dec_cut {zs : List Int} {i : In} (h : decM zs = .ok i) (k : Nat) (hk : (k : Int) < i.len) : decM (zs.take k) = .error 10 := by
  by_cases hs : decM (zs.take k) = .error 10
  · exact hs
  · have e := dec_app (zs.drop k) hs
    rw [List.take_append_drop, h] at e
    have := (dec_len e.symm).2.2.1
    simp at this
    omega
section
variable {zs ys : List Int} {p q : Nat} {o : On} {c m : Int} {r : Rw}
theorem distM_loc {how b x s : Int} (h : distM (zs ++ ys) p how b x s = some (o, q)) (hq : q ≤ zs.length) : distM zs p how b x s = some (o, q) := by
  unfold distM at h ⊢
  by_cases h1 : how = 1
  · rw [if_pos h1] at h ⊢
    by_cases h2 : p + 1 ≤ (zs ++ ys).length
    · rw [if_pos h2] at h
      have e := (Prod.mk.inj (Option.some.inj h)).2
      rw [if_pos (by omega)]; rw [getD_app (by omega)] at h; exact h
    · rw [if_neg h2] at h; cases h
  · rw [if_neg h1] at h ⊢
    by_cases h3 : how = 2
    · rw [if_pos h3] at h ⊢
      by_cases h2 : p + 4 ≤ (zs ++ ys).length
      · rw [if_pos h2] at h
        have e := (Prod.mk.inj (Option.some.inj h)).2
        rw [if_pos (by omega)]; rw [le4_app (by omega)] at h; exact h
      · rw [if_neg h2] at h; cases h
    · rw [if_neg h3] at h ⊢
      by_cases h4 : b = 5
      · rw [if_pos h4] at h ⊢
        by_cases h2 : p + 4 ≤ (zs ++ ys).length
        · rw [if_pos h2] at h
          have e := (Prod.mk.inj (Option.some.inj h)).2
          rw [if_pos (by omega)]; rw [le4_app (by omega)] at h; exact h
        · rw [if_neg h2] at h; cases h
      · rw [if_neg h4] at h ⊢; exact h
theorem distM_up {how b x s : Int} (h : distM zs p how b x s = some (o, q)) : p ≤ q := by
  unfold distM at h
  (repeat' split at h) <;> first | (cases h; done) | (obtain ⟨-, rfl⟩ := Prod.mk.inj (Option.some.inj h); omega)
theorem placeM_up (h : placeM zs p m = some (o, q)) : p ≤ q := by
  unfold placeM at h
  (repeat' split at h) <;> first | (cases h; done) | (obtain ⟨-, rfl⟩ := Prod.mk.inj (Option.some.inj h); omega) | (have := distM_up h; omega)
theorem operM_up {k : Int} (h : operM zs c m p k = some (o, q)) : p ≤ q := by
  unfold operM at h
  (repeat' split at h) <;> first | (cases h; done) | (obtain ⟨-, rfl⟩ := Prod.mk.inj (Option.some.inj h); omega) | exact placeM_up h
theorem placeM_loc (h : placeM (zs ++ ys) p m = some (o, q)) (hq : q ≤ zs.length) : placeM zs p m = some (o, q) := by
  unfold placeM at h ⊢
  by_cases h1 : m / 64 % 4 = 3
  · rw [if_pos h1] at h ⊢; exact h
  · rw [if_neg h1] at h ⊢
    by_cases h2 : m % 8 = 4
    · rw [if_pos h2] at h ⊢
      by_cases h3 : p + 1 ≤ (zs ++ ys).length
      · rw [if_pos h3] at h
        have hp : p + 1 ≤ zs.length := by
          split at h
          · have := distM_up h; omega
          · have := distM_up h; omega
        rw [if_pos hp]
        rw [getD_app (by omega)] at h
        by_cases h4 : zs.getD p 0 / 8 % 8 = 4
        · rw [if_pos h4] at h ⊢; exact distM_loc h hq
        · rw [if_neg h4] at h ⊢; exact distM_loc h hq
      · rw [if_neg h3] at h; cases h
    · rw [if_neg h2] at h ⊢; exact distM_loc h hq
theorem operM_loc {k : Int} (h : operM (zs ++ ys) c m p k = some (o, q)) (hq : q ≤ zs.length) : operM zs c m p k = some (o, q) := by
  unfold operM at h ⊢
  split
  · rename_i e; rw [if_pos e] at h; exact h
  rename_i e; rw [if_neg e] at h; clear e
  split
  · rename_i e; rw [if_pos e] at h; exact h
  rename_i e; rw [if_neg e] at h; clear e
  split
  · rename_i e; rw [if_pos e] at h; exact h
  rename_i e; rw [if_neg e] at h; clear e
  split
  · rename_i e; rw [if_pos e] at h; exact h
  rename_i e; rw [if_neg e] at h; clear e
  split
  · rename_i e; rw [if_pos e] at h; exact h
  rename_i e; rw [if_neg e] at h; clear e
  split
  · rename_i e; rw [if_pos e] at h; exact placeM_loc h hq
  rename_i e; rw [if_neg e] at h; clear e
  split
  · rename_i e; rw [if_pos e] at h
    by_cases h2 : p + 1 ≤ (zs ++ ys).length
    · rw [if_pos h2] at h
      have e := (Prod.mk.inj (Option.some.inj h)).2
      rw [if_pos (by omega)]; rw [getD_app (by omega)] at h; exact h
    · rw [if_neg h2] at h; cases h
  rename_i e; rw [if_neg e] at h; clear e
  split
  · rename_i e; rw [if_pos e] at h
    by_cases h2 : p + 1 ≤ (zs ++ ys).length
    · rw [if_pos h2] at h
      have e := (Prod.mk.inj (Option.some.inj h)).2
      rw [if_pos (by omega)]; rw [getD_app (by omega)] at h; exact h
    · rw [if_neg h2] at h; cases h
  rename_i e; rw [if_neg e] at h; clear e
  split
  · rename_i e; rw [if_pos e] at h
    by_cases h2 : p + 4 ≤ (zs ++ ys).length
    · rw [if_pos h2] at h
      have e := (Prod.mk.inj (Option.some.inj h)).2
      rw [if_pos (by omega)]; rw [le4_app (by omega)] at h; exact h
    · rw [if_neg h2] at h; cases h
  rename_i e; rw [if_neg e] at h; clear e
  exact h
theorem rest_loc {i : In} (h : restM (zs ++ ys) c m p r = .ok i) (hi : isB i = true) (hl : i.len ≤ zs.length) : restM zs c m p r = .ok i ∧ (p : Int) ≤ i.len := by
  by_cases h0 : opM c m r = 0
  · rw [rest_zero h0] at h
    obtain rfl := Except.ok.inj h
    rw [isB_inZ] at hi; cases hi
  by_cases h1 : opM c m r = -1
  · rw [rest_bad h1] at h; cases h
  cases hA : operM (zs ++ ys) c m p r.a with
  | none => rw [rest_shortA rfl h0 h1 hA] at h; cases h
  | some x =>
    obtain ⟨A, q⟩ := x
    cases hB : operM (zs ++ ys) c m q r.b with
    | none => rw [rest_shortB rfl h0 h1 hA hB] at h; cases h
    | some y =>
      obtain ⟨B, q'⟩ := y
      rw [rest_ok rfl h0 h1 hA hB] at h
      obtain rfl := Except.ok.inj h
      dsimp only at hl
      have u1 := operM_up hA
      have u2 := operM_up hB
      rw [rest_ok rfl h0 h1 (operM_loc hA (by omega)) (operM_loc hB (by omega))]
      exact ⟨rfl, by dsimp only; omega⟩
theorem by_loc {i : In} (h : byM (zs ++ ys) c p r = .ok i) (hi : isB i = true) (hl : i.len ≤ zs.length) : byM zs c p r = .ok i := by
  unfold byM at h ⊢
  by_cases h6 : r.a = 6 ∨ r.b = 6
  · rw [if_pos h6] at h ⊢
    by_cases hp : p + 1 ≤ (zs ++ ys).length
    · rw [if_pos hp] at h
      have u := (rest_loc h hi hl).2
      rw [getD_app (by omega)] at h
      rw [if_pos (by omega)]
      exact (rest_loc h hi hl).1
    · rw [if_neg hp] at h; cases h
  · rw [if_neg h6] at h ⊢
    exact (rest_loc h hi hl).1
end
/-- Codes have one row, none, or two of them. -/
theorem rows_1 : ∀ n : Nat, n < 256 → (rowsOf (n : Int)).length ≤ 1 ∨ n = 141 ∨ n = 247 := of_decide_eq_true (by kernel_rfl)
theorem rows_2a : ∀ n : Nat, n < 256 → (rowsOf (15 * 256 + (n : Int))).length ≤ 1 := of_decide_eq_true (by kernel_rfl)
theorem rows_2b : ∀ n : Nat, n < 256 → (rowsOf (217 * 256 + (n : Int))).length ≤ 1 := of_decide_eq_true (by kernel_rfl)
theorem rows_2c : ∀ n : Nat, n < 256 → (rowsOf (243 * 256 + (n : Int))).length ≤ 1 := of_decide_eq_true (by kernel_rfl)
theorem rows_few {zs : List Int} (hz : ∀ z ∈ zs, 0 ≤ z ∧ z ≤ 255) {c : Int} {p : Nat} (h : openM zs = some (c, p)) : (rowsOf c).length ≤ 1 ∨ c = 141 ∨ c = 247 := by
  have b0 := getD_bd hz 0
  have b1 := getD_bd hz 1
  obtain ⟨x, hx⟩ := Int.eq_ofNat_of_zero_le b0.1
  obtain ⟨y, hy⟩ := Int.eq_ofNat_of_zero_le b1.1
  unfold openM at h
  split at h
  · split at h
    · rename_i h3
      split at h
      · obtain ⟨rfl, -⟩ := Prod.mk.inj (Option.some.inj h)
        left
        rw [hy]
        rcases h3 with e | e | e <;> rw [e]
        · exact rows_2a y (by omega)
        · exact rows_2b y (by omega)
        · exact rows_2c y (by omega)
      · cases h
    · obtain ⟨rfl, -⟩ := Prod.mk.inj (Option.some.inj h)
      rw [hx]
      rcases rows_1 x (by omega) with e | e | e
      · exact .inl e
      · right; left; omega
      · right; right; omega
  · cases h
theorem rows_f7 : rowsOf 247 = [⟨65535, 247, 56, 6, 9⟩, ⟨65535, 247, 57, 6, 0⟩] := by kernel_rfl
theorem grp2 : ∀ k : Nat, k < 8 → (k = 0 ∧ grp 2 k = 11) ∨ (k ≠ 0 ∧ grp 2 k = 0) := of_decide_eq_true (by kernel_rfl)
/-- TEST r/m with a number, or what the others come to. -/
theorem op_f7 (c m : Int) : (m / 8 % 8 = 0 ∧ opM c m ⟨65535, 247, 56, 6, 9⟩ = 11) ∨ (¬ m / 8 % 8 = 0 ∧ opM c m ⟨65535, 247, 56, 6, 9⟩ = 0) := by
  obtain ⟨k, hk⟩ := Int.eq_ofNat_of_zero_le (show 0 ≤ m / 8 % 8 by omega)
  have e : opM c m ⟨65535, 247, 56, 6, 9⟩ = grp 2 k := by
    unfold opM
    dsimp only
    rw [if_neg (by decide), if_neg (by decide), hk]
    rfl
  rw [e]
  rcases grp2 k (by omega) with ⟨h, g⟩ | ⟨h, g⟩
  · exact .inl ⟨by omega, g⟩
  · exact .inr ⟨by omega, g⟩
theorem test_ok {o : On} (h : RM o) (n : Int) {q : Nat} (hq : q ≤ 15) : isB ⟨11, 0, o, onImm n, false, q⟩ = true :=
  isB_sets (SA := [2, 6, 8]) (SB := [16, 48, 112]) (by kernel_rfl) (mem_RM h) (mem_imm n) rfl rfl (by omega)
/-- What is too short, and goes on, is longer. -/
theorem dec_more {zs ys : List Int} (hz : ∀ z ∈ zs, 0 ≤ z ∧ z ≤ 255) (hs : decM zs = .error 10) {i : In} (h : decM (zs ++ ys) = .ok i) (hy : ∀ z ∈ ys, 0 ≤ z ∧ z ≤ 255) : (zs.length : Int) < i.len := by
  by_cases hl : (zs.length : Int) < i.len
  · exact hl
  replace hl : i.len ≤ zs.length := by omega
  exfalso
  have hb := (dec_len h).1
  have hza : ∀ z ∈ zs ++ ys, 0 ≤ z ∧ z ≤ 255 := fun z hz' => (List.mem_append.1 hz').elim (hz z) (hy z)
  obtain ⟨c, p, ho, hf⟩ := dec_first h
  have hpp := (first_len (open_pos ho).2 _ hf).2
  have ho2 : openM zs = some (c, p) := by
    have hp1 : p ≤ zs.length := by omega
    unfold openM at ho ⊢
    have h1 := open_pos ‹openM (zs ++ ys) = some (c, p)›
    by_cases g1 : 1 ≤ (zs ++ ys).length
    · rw [if_pos g1] at ho
      rw [if_pos (by omega)]
      rw [getD_app (by omega)] at ho
      by_cases g2 : zs.getD 0 0 = 15 ∨ zs.getD 0 0 = 217 ∨ zs.getD 0 0 = 243
      · rw [if_pos g2] at ho ⊢
        by_cases g3 : 2 ≤ (zs ++ ys).length
        · rw [if_pos g3] at ho
          have e := (Prod.mk.inj (Option.some.inj ho)).2
          rw [if_pos (by omega)]
          rw [getD_app (by omega)] at ho
          exact ho
        · rw [if_neg g3] at ho; cases ho
      · rw [if_neg g2] at ho ⊢; exact ho
    · rw [if_neg g1] at ho; cases ho
  have key : decM zs = .ok i → False := fun e => by rw [e] at hs; cases hs
  rcases rows_few hza ho with hr | rfl | rfl
  · cases hR : rowsOf c with
    | nil => rw [hR] at hf; cases hf
    | cons r t =>
      rw [hR] at hr
      have ht : t = [] := by
        cases t with
        | nil => rfl
        | cons a b => simp at hr
      subst ht
      rw [dec_one ho hR] at h
      cases hy : byM (zs ++ ys) c p r with
      | error x => rw [hy] at h; cases h
      | ok j =>
        rw [hy] at h
        dsimp only at h
        have hj : isB j = true := by
          cases g : isB j
          · rw [isOr_no g] at h; cases h
          · rfl
        rw [isOr_ok hj] at h
        obtain rfl := Except.ok.inj h
        apply key
        rw [dec_one ho2 hR, by_loc hy hj hl]
        exact isOr_ok hj
  · rw [dec_two ho rows_lea] at h
    cases hy : byM (zs ++ ys) 141 p ⟨65535, 141, 26, 5, 6⟩ with
    | error x => rw [hy] at h; cases h
    | ok j =>
      rw [hy] at h
      dsimp only at h
      have hb2 : byM (zs ++ ys) 141 p ⟨65535, 141, -1, 0, 0⟩ = .error 90 := by
        unfold byM
        rw [if_neg (by decide), rest_bad (by decide)]
      cases hj : isB j
      · rw [hj, hb2] at h
        simp at h
      · rw [hj] at h
        simp only [if_true] at h
        obtain rfl := Except.ok.inj h
        apply key
        rw [dec_two ho2 rows_lea, by_loc hy hj hl]
        dsimp only
        rw [if_pos hj]
  · rw [dec_two ho rows_f7] at h
    cases hy : byM (zs ++ ys) 247 p ⟨65535, 247, 56, 6, 9⟩ with
    | error x => rw [hy] at h; cases h
    | ok j =>
      rw [hy] at h
      dsimp only at h
      cases hj : isB j
      · rw [hj] at h
        simp only [Bool.false_eq_true, if_false] at h
        cases hw : byM (zs ++ ys) 247 p ⟨65535, 247, 57, 6, 0⟩ with
        | error x => rw [hw] at h; cases h
        | ok j2 =>
          rw [hw] at h
          dsimp only at h
          have hj2 : isB j2 = true := by
            cases g : isB j2
            · rw [isOr_no g] at h; cases h
            · rfl
          rw [isOr_ok hj2] at h
          obtain rfl := Except.ok.inj h
          have hl2 := by_loc hw hj2 hl
          have hp1 : p + 1 ≤ zs.length := by
            by_cases g : p + 1 ≤ zs.length
            · exact g
            · unfold byM at hl2; rw [if_pos (.inl rfl), if_neg g] at hl2; cases hl2
          apply key
          rw [dec_two ho2 rows_f7, hl2]
          have hj3 : byM zs 247 p ⟨65535, 247, 56, 6, 9⟩ = .ok inZ := by
            unfold byM at hy ⊢
            rw [if_pos (.inl rfl), if_pos (len_app hp1), getD_app (by omega)] at hy
            rw [if_pos (.inl rfl), if_pos hp1]
            rcases op_f7 247 (zs.getD p 0) with ⟨e, g⟩ | ⟨e, g⟩
            · exfalso
              cases hA : placeM (zs ++ ys) (p + 1) (zs.getD p 0) with
              | none => rw [rest_shortA g (by decide) (by decide) ((oper6 _ _ _ _).trans hA)] at hy; cases hy
              | some x =>
                obtain ⟨o, q⟩ := x
                have hR := placeM_RM hA
                by_cases h9 : q + 4 ≤ (zs ++ ys).length
                · rw [rest_okp (by decide) (by decide) g (by decide) (by decide) ((oper6 _ _ _ _).trans hA) ((oper9 _ _ _ _).trans (if_pos h9))] at hy
                  obtain rfl := Except.ok.inj hy
                  have hp2 : p ≤ 2 := by
                    have := ho
                    unfold openM at this
                    (repeat' split at this) <;> first | (cases this; done) | (obtain ⟨-, rfl⟩ := Prod.mk.inj (Option.some.inj this); omega)
                  rw [test_ok hR.1 _ (by omega)] at hj
                  cases hj
                · rw [rest_shortB g (by decide) (by decide) ((oper6 _ _ _ _).trans hA) ((oper9 _ _ _ _).trans (if_neg h9))] at hy; cases hy
            · exact rest_zero g
          rw [hj3]
          dsimp only
          rw [if_neg (by rw [isB_inZ]; decide)]
          exact isOr_ok hj2
      · rw [hj] at h
        simp only [if_true] at h
        obtain rfl := Except.ok.inj h
        apply key
        rw [dec_two ho2 rows_f7, by_loc hy hj hl]
        dsimp only
        rw [if_pos hj]
end Go.Proofs.YtlooobehlhgccaaDoor
