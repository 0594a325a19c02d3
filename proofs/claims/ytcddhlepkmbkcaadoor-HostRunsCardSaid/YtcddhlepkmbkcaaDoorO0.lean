/- Arguments opened: rows of three words, an array of words. -/
import Derived.Test.YtcddhlepkmbkcaaDoorG1
import Derived.ProofKit
import Derived.OpenShut
import Derived.Deep.Slices
namespace Go.Proofs.YtcddhlepkmbkcaaDoor
open Go.ChangeShapes Go.WideShapes Go.ChangeAt Go.RowKit
set_option linter.unusedVariables false

def Rows3 (w : World) (a : Option Addr) (len cap : Nat) (Z : Nat → Nat → Int) : Prop :=
  len = 0 ∨ ∃ b off, a = some ⟨b, off, none⟩ ∧ len ≤ cap ∧ ∀ i, i < len → ∀ j, j < 3 → w.cell? ⟨b, off + 3 * i + j, none⟩ = some (.int .u32 (Z i j)) ∧ 0 ≤ Z i j ∧ Z i j ≤ 4294967295
def numAt (o : Option Value) : Int := match o with | some (.int _ n) => n | _ => 0
section
variable {H : Type} {enc : TypeId × Value → H} {w : World} {base : Nat} {spare : Nat → Bool} {held : Bool}
theorem cells_u : Tryd.prog.cellsOf 24 = 1 := by kernel_rfl
theorem cells_3 : Tryd.prog.cellsOf 45 = 3 := by kernel_rfl
theorem cells_31 : Tryd.prog.cellsOf 25 = 31 := by kernel_rfl
set_option maxRecDepth 8000 in
/-- An array of words, cell by cell. -/
theorem open_words {t : TypeId} {n fuel : Nat} {cs : List Value} {x : DataW H × List MemPlace} (ht : Tryd.prog.underlying t = some (.array n 24)) (hc : Tryd.prog.cellsOf t = n)
    (h : DataW.trod enc Tryd.prog w base spare held fuel t cs = some x) : cs.length = n ∧ ∀ i, i < n → ∃ z, cs[i]? = some (.int .u32 z) ∧ 0 ≤ z ∧ z ≤ 4294967295 := by
  obtain ⟨xs, m, rfl, rfl, hl, hx, hi⟩ := DataW.trod_array ht h
  rw [hc] at hl
  refine ⟨hl, fun i hin => ?_⟩
  have h1 := hi i hin
  rw [cells_u, Nat.mul_one] at h1
  have h2 : xs[i]? = some xs[i] := List.getElem?_eq_getElem (by omega)
  rw [h2] at h1
  obtain ⟨z, e, -, hw⟩ := DataW.trod_int Tryd.underlying24 h1
  refine ⟨z, ?_, wfi_u32 hw⟩
  have := congrArg (·[0]?) e
  simpa [List.getElem?_take, List.getElem?_drop] using this
set_option maxRecDepth 8000 in
theorem open_rows3 {r : Reach} {b0 : Nat} {v : Value} {d : DataW H} {ps : List MemPlace} (hval : Value.okWide Tryd.prog w r b0 43 v) (hd : DataW.Trod enc Tryd.prog w base spare held 43 v d ps) :
    ∃ a len cap Z, v = .slice a len cap ∧ Rows3 w a len cap Z := by
  obtain ⟨a, len, cap, rfl⟩ := okWide_slice Tryd.underlying43 hval
  obtain ⟨fuel, hf⟩ := hd
  rcases Go.Deep.open_slice Tryd.underlying43 hf with ⟨hcs, _⟩ | ⟨x, l, c, m, n, D, Pl, hcs, hb, hl, hm, hmm, -, hall⟩
  · simp [Value.cells] at hcs
    exact ⟨_, _, _, fun _ _ => 0, rfl, .inl hcs.2.1⟩
  · simp [Value.cells] at hcs
    obtain ⟨rfl, rfl, rfl⟩ := hcs
    by_cases h0 : len = 0
    · exact ⟨_, _, _, fun _ _ => 0, rfl, .inl h0⟩
    · have hlm : len ≤ m := by rw [hmm]; split <;> omega
      have key : ∀ i, i < len → ∀ j, j < 3 → ∃ z, w.cell? ((x.add (i * 3)).add j) = some (.int .u32 z) ∧ 0 ≤ z ∧ z ≤ 4294967295 := by
        intro i hi j hj
        obtain ⟨cs', h1, h2⟩ := hall i (by omega)
        rw [cells_3] at h1
        obtain ⟨hlen, he⟩ := open_words Tryd.underlying45 cells_3 h2
        obtain ⟨z, hz, bz⟩ := he j hj
        refine ⟨z, ?_, bz⟩
        unfold World.cells? at h1
        split at h1
        · have := Lib.mapM_at h1 j j (by simp [hj])
          obtain ⟨u, hu, hu2⟩ := this
          rw [hu] at hz
          cases hz
          exact hu2
        · cases h1
      obtain ⟨b, off, sp⟩ := x
      have hsp : sp = none := by
        obtain ⟨z, hz, -⟩ := key 0 (by omega) 0 (by omega)
        simp [Addr.add, World.cell?] at hz
        cases sp with
        | none => rfl
        | some q => split at hz <;> simp at hz
      subst hsp
      refine ⟨_, _, _, fun i j => numAt (w.cell? ⟨b, off + 3 * i + j, none⟩), rfl, .inr ⟨b, off, rfl, hl, fun i hi j hj => ?_⟩⟩
      obtain ⟨z, hz, bz⟩ := key i hi j hj
      have e : ((⟨b, off, none⟩ : Addr).add (i * 3)).add j = ⟨b, off + 3 * i + j, none⟩ := by
        rw [Go.Deep.add_add]
        unfold Addr.add
        split
        · rename_i h; first | (simp; omega) | (simp; done)
        · simp; omega
      rw [e] at hz
      show w.cell? ⟨b, off + 3 * i + j, none⟩ = some (.int .u32 (numAt (w.cell? ⟨b, off + 3 * i + j, none⟩))) ∧ 0 ≤ numAt (w.cell? ⟨b, off + 3 * i + j, none⟩) ∧ numAt (w.cell? ⟨b, off + 3 * i + j, none⟩) ≤ 4294967295
      rw [hz]
      exact ⟨rfl, bz⟩
set_option maxRecDepth 8000 in
theorem open_regs {r : Reach} {b0 : Nat} {v : Value} {d : DataW H} {ps : List MemPlace} (hval : Value.okWide Tryd.prog w r b0 25 v) (hd : DataW.Trod enc Tryd.prog w base spare held 25 v d ps) :
    ∃ cs : Array Value, ∃ X : Nat → Int, v = .agg cs ∧ cs.size = 31 ∧ ∀ i, i < 31 → cs[i]? = some (.int .u32 (X i)) ∧ 0 ≤ X i ∧ X i ≤ 4294967295 := by
  have hv : ∃ cs, v = .agg cs := by
    simp only [Value.okWide, Tryd.underlying25] at hval
    obtain ⟨cs, h1, _⟩ := hval
    exact ⟨cs, h1⟩
  obtain ⟨cs, rfl⟩ := hv
  obtain ⟨fuel, hf⟩ := hd
  obtain ⟨hlen, he⟩ := open_words Tryd.underlying25 cells_31 hf
  refine ⟨cs, fun i => numAt cs[i]?, rfl, by simpa [Value.cells] using hlen, fun i hi => ?_⟩
  obtain ⟨z, hz, bz⟩ := he i hi
  have : cs[i]? = some (.int .u32 z) := by simpa [Value.cells] using hz
  show cs[i]? = some (.int .u32 (numAt cs[i]?)) ∧ 0 ≤ numAt cs[i]? ∧ numAt cs[i]? ≤ 4294967295
  rw [this]
  exact ⟨rfl, bz⟩
end
end Go.Proofs.YtcddhlepkmbkcaaDoor
