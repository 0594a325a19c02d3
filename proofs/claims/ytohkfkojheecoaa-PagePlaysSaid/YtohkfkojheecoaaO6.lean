/- Arguments opened: an array of integers. -/
import Derived.Test.YtohkfkojheecoaaE0
import Derived.ProofKit
import Derived.OpenShut
import Derived.Deep.Slices
namespace Go.Proofs.Ytohkfkojheecoaa
open Go.ChangeShapes Go.WideShapes Go.ChangeAt Go.RowKit
set_option linter.unusedVariables false

def numAt (o : Option Value) : Int := match o with | some (.int _ n) => n | _ => 0
section
variable {H : Type} {enc : TypeId × Value → H} {P : Program} {w : World} {base : Nat} {spare : Nat → Bool} {held : Bool}
/-- An array of integers, cell by cell. -/
theorem open_cells {t e : TypeId} {n fuel : Nat} {k : IntKind} {cs : List Value} {x : DataW H × List MemPlace} (ht : P.underlying t = some (.array n e)) (hc : P.cellsOf t = n) (he : P.underlying e = some (.int k)) (h1 : P.cellsOf e = 1)
    (h : DataW.trod enc P w base spare held fuel t cs = some x) : cs.length = n ∧ ∀ i, i < n → ∃ z, cs[i]? = some (.int k z) ∧ (Lit.int k z).wf = true := by
  obtain ⟨xs, m, rfl, rfl, hl, hx, hi⟩ := DataW.trod_array ht h
  rw [hc] at hl
  refine ⟨hl, fun i hin => ?_⟩
  have h2 := hi i hin
  rw [h1, Nat.mul_one] at h2
  have h3 : xs[i]? = some xs[i] := List.getElem?_eq_getElem (by omega)
  rw [h3] at h2
  obtain ⟨z, e, -, hw⟩ := DataW.trod_int he h2
  refine ⟨z, ?_, hw⟩
  have := congrArg (·[0]?) e
  simpa [List.getElem?_take, List.getElem?_drop] using this
theorem open_arr {t e : TypeId} {n : Nat} {k : IntKind} {r : Reach} {b0 : Nat} {v : Value} {d : DataW H} {ps : List MemPlace} (ht : P.underlying t = some (.array n e)) (hc : P.cellsOf t = n) (he : P.underlying e = some (.int k)) (h1 : P.cellsOf e = 1)
    (hval : Value.okWide P w r b0 t v) (hd : DataW.Trod enc P w base spare held t v d ps) :
    ∃ cs : Array Value, ∃ X : Nat → Int, v = .agg cs ∧ cs.size = n ∧ ∀ i, i < n → cs[i]? = some (.int k (X i)) ∧ (Lit.int k (X i)).wf = true := by
  have hv : ∃ cs, v = .agg cs := by
    simp only [Value.okWide, ht] at hval
    obtain ⟨cs, h1, _⟩ := hval
    exact ⟨cs, h1⟩
  obtain ⟨cs, rfl⟩ := hv
  obtain ⟨fuel, hf⟩ := hd
  obtain ⟨hlen, hx⟩ := open_cells ht hc he h1 hf
  refine ⟨cs, fun i => numAt cs[i]?, rfl, by simpa [Value.cells] using hlen, fun i hi => ?_⟩
  obtain ⟨z, hz, bz⟩ := hx i hi
  have : cs[i]? = some (.int k z) := by simpa [Value.cells] using hz
  show cs[i]? = some (.int k (numAt cs[i]?)) ∧ (Lit.int k (numAt cs[i]?)).wf = true
  rw [this]
  exact ⟨rfl, bz⟩
end
end Go.Proofs.Ytohkfkojheecoaa
