/- The document's host: a step; a run; what both are behind it. -/
import Derived.Test.YtbalnlodkiejcaaDoorQ5a
import Derived.Test.YtbalnlodkiejcaaDoorQ5b
import Derived.Test.YtbalnlodkiejcaaDoorQ5c
import Derived.Test.YtbalnlodkiejcaaDoorQ5d
namespace Go.Proofs.YtbalnlodkiejcaaDoor
open Go.RowKit
set_option linter.unusedVariables false
set_option linter.unusedSimpArgs false
set_option linter.unusedSectionVars false

theorem rStep_any {R M : Nat} {s : St} {w : World} (h : RAt w R M s) :
    Calls Tryd.prog 11 #[rp R] w fun e w' => e = .returned (.int .i64 (stepL s).1) ∧ RAt w' R M (stepL s).2 ∧ But [R, M] w.heap.size w w' := by
  unfold stepL
  cases hf : fitsL s.pc 4 with
  | false => simpa using rStep_nofetch h hf
  | true =>
    rw [if_pos rfl]
    have hx := wordM_bd h.ok.m s.pc 4
    cases hd : decL (wordM s.m s.pc 4) with
    | none => exact rStep_noword h hf hd
    | some op =>
      have hl := (enc_dec hx hd).1
      have he : wordO (wordM s.m s.pc 4) (decL (wordM s.m s.pc 4)) = .tuple #[wordV op (dL (formN op) (wordM s.m s.pc 4)) (sL (formN op) (wordM s.m s.pc 4)) (tL (formN op) (wordM s.m s.pc 4)) (immL (formN op) (wordM s.m s.pc 4)), .bool true] := by rw [hd]; rfl
      have hr := (isL_regs hl).1
      simp only []
      rcases (by omega : ((op : Int) = 46 ∨ (op : Int) = 47 ∨ (op : Int) = 3 ∨ (op : Int) = 4 ∨ ((op : Int) = 5 ∨ (op : Int) = 6 ∨ (op : Int) = 7 ∨ (op : Int) = 8 ∨ (op : Int) = 9 ∨ (op : Int) = 10)) ∨ (((op : Int) = 11 ∨ (op : Int) = 12 ∨ (op : Int) = 13 ∨ (op : Int) = 14 ∨ (op : Int) = 15) ∨ ((op : Int) = 16 ∨ (op : Int) = 17 ∨ (op : Int) = 18) ∨ (op : Int) = 2 ∨ (op : Int) = 1) ∨ (19 ≤ (op : Int) ∧ (op : Int) ≤ 27) ∨ (28 ≤ (op : Int) ∧ (op : Int) ≤ 45)) with hg | hg | hg | hg
      · exact rStep_Q5a h hf _ _ _ _ _ he hl hg _ _ rfl
      · exact rStep_Q5b h hf _ _ _ _ _ he hl hg _ _ rfl
      · exact rStep_Q5c h hf _ _ _ _ _ he hl hg _ _ rfl
      · exact rStep_Q5d h hf _ _ _ _ _ he hl hg _ _ rfl
end Go.Proofs.YtbalnlodkiejcaaDoor
