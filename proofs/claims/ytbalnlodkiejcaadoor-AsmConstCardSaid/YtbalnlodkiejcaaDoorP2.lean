/- The host stores; what can't be, panics. -/
import Derived.Test.YtbalnlodkiejcaaDoorP1
namespace Go.Proofs.YtbalnlodkiejcaaDoor
open Go.RowKit
set_option linter.unusedVariables false
set_option linter.unusedSimpArgs false
set_option linter.unusedSectionVars false

def storeS (s : St) (a n v : Int) : St := { s with m := storeM s.m a n v }
def bytes4 (v : Int) : List Value := [.int .u8 (v % 256), .int .u8 (v / 256 % 256), .int .u8 (v / 65536 % 256), .int .u8 (v / 16777216)]
theorem splice_at (cs : Array Value) (o : Nat) (l : List Value) (h : o + l.length ≤ cs.size) (j : Nat) :
    ((cs.toList.take o ++ l ++ cs.toList.drop (o + l.length)).toArray)[j]? = if j < o then cs[j]? else if j < o + l.length then l[j - o]? else cs[j]? := by
  have ho : min o cs.size = o := by omega
  by_cases h1 : j < o
  · rw [if_pos h1]; simp [List.getElem?_append, List.getElem?_take, h1, ho, show j < o + l.length by omega]
  · rw [if_neg h1]
    by_cases h2 : j < o + l.length
    · rw [if_pos h2]; simp [List.getElem?_append, List.getElem?_take, h1, h2, ho]; intro hh; omega
    · rw [if_neg h2]; simp [List.getElem?_append, List.getElem?_take, h1, h2, ho]
      rw [if_neg (by omega), show o + l.length + (j - o - l.length) = j by omega]
theorem bytes4_at (v : Int) (hv : 0 ≤ v ∧ v ≤ 4294967295) (j : Nat) (hj : j < 4) : (bytes4 v)[j]? = some (.int .u8 (v / 256 ^ j % 256)) := by
  rcases (by omega : j = 0 ∨ j = 1 ∨ j = 2 ∨ j = 3) with rfl | rfl | rfl | rfl
  · simp [bytes4]
  · simp [bytes4]
  · simp [bytes4, show (256 : Int) ^ 2 = 65536 by decide]
  · simp [bytes4, show (256 : Int) ^ 3 = 16777216 by decide]; omega
abbrev rowAt (cs : Array Value) (A N : Nat) (v : Int) : Array Value := (cs.toList.take (34 + A) ++ (bytes4 v).take N ++ cs.toList.drop (34 + A + ((bytes4 v).take N).length)).toArray
theorem cells_copy {cs : Array Value} {s : St} (c : Cells cs s) (A N : Nat) (hN : N ≤ 4) (hle : A + N ≤ 32768) (v : Int) (hv : 0 ≤ v ∧ v ≤ 4294967295) : Cells (rowAt cs A N v) (storeS s A N v) := by
  have hl : ((bytes4 v).take N).length = N := by simp [bytes4]; omega
  have e := splice_at cs (34 + A) ((bytes4 v).take N) (by rw [hl, c.size]; omega)
  rw [hl] at e
  unfold rowAt
  rw [hl]
  refine ⟨?_, fun i hi => ?_, ?_, ?_, fun i hi => ?_⟩
  · simp [hl, c.size, bytes4]; omega
  · rw [e, if_pos (by omega)]; exact c.x i hi
  · rw [e, if_pos (by omega)]; exact c.pc
  · rw [e, if_pos (by omega)]; exact c.why
  · rw [e]
    by_cases h1 : i < A
    · rw [if_pos (by omega)]; dsimp only [storeS]; rw [storeM_out (by omega)]; exact c.m i hi
    · rw [if_neg (by omega)]
      by_cases h2 : i < A + N
      · rw [if_pos (by omega), List.getElem?_take, if_pos (by omega), bytes4_at v hv _ (by omega)]
        dsimp only [storeS]
        have := storeM_in (m := s.m) (a := A) (n := N) (v := v) (34 + i - (34 + A)) (by omega)
        rw [← this, show (A : Int) + ((34 + i - (34 + A) : Nat) : Int) = i by omega]
      · rw [if_neg (by omega)]; dsimp only [storeS]; rw [storeM_out (by omega)]; exact c.m i hi
end Go.Proofs.YtbalnlodkiejcaaDoor
