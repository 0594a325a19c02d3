/- Arguments opened: rows of three words, an array of words. -/
import Derived.Test.YtbalnlodkiejcaaDoorG1
import Derived.ProofKit
import Derived.OpenShut
import Derived.Deep.Slices
namespace Go.Proofs.YtbalnlodkiejcaaDoor
open Go.ChangeShapes Go.WideShapes Go.ChangeAt Go.RowKit
set_option linter.unusedVariables false

def Rows3 (w : World) (a : Option Addr) (len cap : Nat) (Z : Nat → Nat → Int) : Prop :=
  len = 0 ∨ ∃ b off, a = some ⟨b, off, none⟩ ∧ len ≤ cap ∧ ∀ i, i < len → ∀ j, j < 3 → w.cell? ⟨b, off + 3 * i + j, none⟩ = some (.int .u32 (Z i j)) ∧ 0 ≤ Z i j ∧ Z i j ≤ 4294967295
def numAt (o : Option Value) : Int := match o with | some (.int _ n) => n | _ => 0
section
variable {H : Type} {enc : TypeId × Value → H} {w : World} {base : Nat} {spare : Nat → Bool} {held : Bool}
theorem cells_u : Tryd.prog.cellsOf 22 = 1 := by kernel_rfl
theorem cells_31 : Tryd.prog.cellsOf 23 = 31 := by kernel_rfl
set_option maxRecDepth 8000 in
/-- An array of words, cell by cell. -/
theorem open_words {t : TypeId} {n fuel : Nat} {cs : List Value} {x : DataW H × List MemPlace} (ht : Tryd.prog.underlying t = some (.array n 22)) (hc : Tryd.prog.cellsOf t = n)
    (h : DataW.trod enc Tryd.prog w base spare held fuel t cs = some x) : cs.length = n ∧ ∀ i, i < n → ∃ z, cs[i]? = some (.int .u32 z) ∧ 0 ≤ z ∧ z ≤ 4294967295 := by
  obtain ⟨xs, m, rfl, rfl, hl, hx, hi⟩ := DataW.trod_array ht h
  rw [hc] at hl
  refine ⟨hl, fun i hin => ?_⟩
  have h1 := hi i hin
  rw [cells_u, Nat.mul_one] at h1
  have h2 : xs[i]? = some xs[i] := List.getElem?_eq_getElem (by omega)
  rw [h2] at h1
  obtain ⟨z, e, -, hw⟩ := DataW.trod_int Tryd.underlying22 h1
  refine ⟨z, ?_, wfi_u32 hw⟩
  have := congrArg (·[0]?) e
  simpa [List.getElem?_take, List.getElem?_drop] using this
set_option maxRecDepth 8000 in
theorem open_regs {r : Reach} {b0 : Nat} {v : Value} {d : DataW H} {ps : List MemPlace} (hval : Value.okWide Tryd.prog w r b0 23 v) (hd : DataW.Trod enc Tryd.prog w base spare held 23 v d ps) :
    ∃ cs : Array Value, ∃ X : Nat → Int, v = .agg cs ∧ cs.size = 31 ∧ ∀ i, i < 31 → cs[i]? = some (.int .u32 (X i)) ∧ 0 ≤ X i ∧ X i ≤ 4294967295 := by
  have hv : ∃ cs, v = .agg cs := by
    simp only [Value.okWide, Tryd.underlying23] at hval
    obtain ⟨cs, h1, _⟩ := hval
    exact ⟨cs, h1⟩
  obtain ⟨cs, rfl⟩ := hv
  obtain ⟨fuel, hf⟩ := hd
  obtain ⟨hlen, he⟩ := open_words Tryd.underlying23 cells_31 hf
  refine ⟨cs, fun i => numAt cs[i]?, rfl, by simpa [Value.cells] using hlen, fun i hi => ?_⟩
  obtain ⟨z, hz, bz⟩ := he i hi
  have : cs[i]? = some (.int .u32 z) := by simpa [Value.cells] using hz
  show cs[i]? = some (.int .u32 (numAt cs[i]?)) ∧ 0 ≤ numAt cs[i]? ∧ numAt cs[i]? ≤ 4294967295
  rw [this]
  exact ⟨rfl, bz⟩
end
end Go.Proofs.YtbalnlodkiejcaaDoor
