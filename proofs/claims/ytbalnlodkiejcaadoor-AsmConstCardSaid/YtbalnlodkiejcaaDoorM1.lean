import Derived.Test.YtbalnlodkiejcaaDoorC4
import Derived.Test.YtbalnlodkiejcaaDoorWf
namespace Go.Proofs.YtbalnlodkiejcaaDoor
open Go.RowKit
set_option linter.unusedVariables false
set_option linter.unusedSimpArgs false
set_option linter.unusedSectionVars false

theorem decF_some {x : Int} {k : Nat} : ∀ {n op : Nat}, decF x op n = some k → op ≤ k ∧ k < op + n ∧ matchL k x = true
  | 0, op, h => by cases h
  | n + 1, op, h => by
    unfold decF at h
    split at h
    · rename_i hm
      cases h
      exact ⟨Nat.le_refl _, by omega, hm⟩
    · obtain ⟨a, b, c⟩ := decF_some h
      exact ⟨by omega, by omega, c⟩
theorem decF_hits {x : Int} (hx : 0 ≤ x ∧ x ≤ 4294967295) {k : Nat} (h47 : k ≤ 47) (hm : matchL k x = true) : ∀ {n op : Nat}, 1 ≤ op → op ≤ k → k < op + n → decF x op n = some k
  | 0, op, _, h, h' => by omega
  | n + 1, op, h1, h, h' => by
    unfold decF
    by_cases hmo : matchL op x = true
    · rw [if_pos hmo]
      rw [match_one h1 (by omega) (by omega) h47 hx hmo hm]
    · rw [if_neg hmo]
      have hne : op ≠ k := fun e => hmo (e ▸ hm)
      exact decF_hits hx h47 hm (by omega) (by omega) (by omega)
theorem decL_some {x : Int} {k : Nat} (h : decL x = some k) : 1 ≤ k ∧ k ≤ 47 ∧ matchL k x = true := by
  obtain ⟨a, b, c⟩ := decF_some h
  exact ⟨a, by omega, c⟩
/-- A word of a kind. -/
theorem isL_kind {op d s t i : Int} (h : isL op d s t i = true) : ∃ k : Nat, op = k ∧ 1 ≤ k ∧ k ≤ 47 ∧ okF (formN k) d s t i = true ∧ encL op d s t i = encF (formN k) (bitsN k) d s t i := by
  unfold isL at h
  simp only [Bool.and_eq_true, decide_eq_true_eq] at h
  obtain ⟨⟨g1, g2⟩, g3⟩ := h
  obtain ⟨k, rfl⟩ : ∃ k : Nat, op = k := ⟨op.toNat, by omega⟩
  rw [Int.toNat_natCast] at g3
  refine ⟨k, rfl, by omega, by omega, g3, ?_⟩
  unfold encL
  rw [Int.toNat_natCast]
theorem enc_bd {op d s t i : Int} (h : isL op d s t i = true) : 0 ≤ encL op d s t i ∧ encL op d s t i ≤ 4294967295 := by
  obtain ⟨k, rfl, h1, h2, h3, h4⟩ := isL_kind h
  rw [h4]
  exact (write_back h1 h2 h3).1
/-- What is written is read as the same. -/
theorem dec_enc {op d s t i : Int} (h : isL op d s t i = true) : wordO (encL op d s t i) (decL (encL op d s t i)) = .tuple #[wordV op d s t i, .bool true] := by
  have hb := enc_bd h
  obtain ⟨k, rfl, h1, h2, h3, h4⟩ := isL_kind h
  rw [h4] at hb ⊢
  obtain ⟨-, hm, e1, e2, e3, e4⟩ := write_back h1 h2 h3
  have hd : decL (encF (formN k) (bitsN k) d s t i) = some k := decF_hits hb h2 hm (by decide) h1 (by omega)
  rw [hd]
  unfold wordO
  simp only
  rw [e1, e2, e3, e4]
/-- What is read is written as it was. -/
theorem enc_dec {x : Int} (hx : 0 ≤ x ∧ x ≤ 4294967295) {k : Nat} (h : decL x = some k) :
    isL k (dL (formN k) x) (sL (formN k) x) (tL (formN k) x) (immL (formN k) x) = true ∧ encL k (dL (formN k) x) (sL (formN k) x) (tL (formN k) x) (immL (formN k) x) = x := by
  obtain ⟨h1, h2, hm⟩ := decL_some h
  obtain ⟨e1, e2⟩ := read_back h1 h2 x hx hm
  constructor
  · unfold isL
    rw [Int.toNat_natCast, decide_eq_true (show 1 ≤ (k : Int) by omega), decide_eq_true (show (k : Int) ≤ 47 by omega), e2]; rfl
  · unfold encL
    rw [Int.toNat_natCast, e1]
theorem name_ne {k : Nat} (h1 : 1 ≤ k) (h2 : k ≤ 47) : nameL k ≠ [] := by
  have h : ∀ j : Fin 48, 1 ≤ j.val → nameL j ≠ [] := by decide +kernel
  exact h ⟨k, by omega⟩ h1
theorem enc_true {op d s t i : Int} (h : isL op d s t i = true) (w : World) (tabs : Tabs w) :
    Calls Tryd.prog 35 #[wordV op d s t i] w fun e w' => e = .returned (.tuple #[.int .u32 (encL op d s t i), .int .i64 0]) ∧ Below w.heap.size w w' := by
  have := enc_any op d s t i w tabs
  rw [if_pos h] at this
  exact this
theorem enc_false {op d s t i : Int} (h : isL op d s t i = false) (w : World) (tabs : Tabs w) :
    Calls Tryd.prog 35 #[wordV op d s t i] w fun e w' => e = .returned (.tuple #[.int .u32 0, .int .i64 12]) ∧ Below w.heap.size w w' := enc_out op d s t i h w tabs
theorem dec_true {op d s t i : Int} (h : isL op d s t i = true) (w : World) (tabs : Tabs w) :
    Calls Tryd.prog 41 #[.int .u32 (encL op d s t i)] w fun e w' => e = .returned (.tuple #[wordV op d s t i, .bool true]) ∧ Below w.heap.size w w' := by
  have := dec_any (encL op d s t i) (enc_bd h) w tabs
  rw [dec_enc h] at this
  exact this
end Go.Proofs.YtbalnlodkiejcaaDoor
