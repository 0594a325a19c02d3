/-
  A WORD AS AN ARGUMENT: opened and shut.
-/
import Derived.Test.YtbalnlodkiejcaaDoorC2
import Derived.ProofKit
import Derived.OpenShut
namespace Go.Proofs.YtbalnlodkiejcaaDoor
open Go.ChangeShapes Go.WideShapes Go.ChangeAt Go.RowKit
set_option linter.unusedVariables false
section
variable {H : Type} {enc : TypeId × Value → H} {w : World} {base : Nat} {spare : Nat → Bool} {held : Bool}

abbrev wordD {H : Type} (op d s t i : Int) : DataW H := .agg [.lit (.int .i64 op), .lit (.int .i64 d), .lit (.int .i64 s), .lit (.int .i64 t), .lit (.int .i32 i)]
theorem cells_w : Tryd.prog.cellsOf 37 = 5 := by kernel_rfl
theorem cells_i : Tryd.prog.cellsOf 3 = 1 := by kernel_rfl
theorem cells_j : Tryd.prog.cellsOf 21 = 1 := by kernel_rfl
set_option maxRecDepth 8000 in
theorem open_word {r : Reach} {b0 : Nat} {v : Value} {d : DataW H} {ps : List MemPlace} (hval : Value.okWide Tryd.prog w r b0 37 v) (hd : DataW.Trod enc Tryd.prog w base spare held 37 v d ps) :
    ∃ a0 a1 a2 a3 a4, v = wordV a0 a1 a2 a3 a4 ∧ d = wordD a0 a1 a2 a3 a4 ∧ ps = [] ∧ (Lit.int .i64 a0).wf = true ∧ (Lit.int .i64 a1).wf = true ∧ (Lit.int .i64 a2).wf = true ∧ (Lit.int .i64 a3).wf = true ∧ (Lit.int .i32 a4).wf = true := by
  obtain ⟨cs, rfl, hsz⟩ := okWide_struct Tryd.underlying37 hval
  rw [cells_w] at hsz
  obtain ⟨l⟩ := cs
  match l, hsz with
  | [c0, c1, c2, c3, c4], _ =>
  obtain ⟨fuel, hf⟩ := hd
  obtain ⟨xs, n, _, hx, hl, hlen, hq⟩ := DataW.trod_struct Tryd.underlying37 hf
  match xs, hlen with
  | [y0, y1, y2, y3, y4], _ =>
  have g0 := hq 0 _ rfl
  have g1 := hq 1 _ rfl
  have g2 := hq 2 _ rfl
  have g3 := hq 3 _ rfl
  have g4 := hq 4 _ rfl
  simp [Value.cells, cells_i, cells_j] at g0 g1 g2 g3 g4
  obtain ⟨a0, e0, rfl, w0⟩ := DataW.trod_int Tryd.underlying3 g0
  obtain ⟨a1, e1, rfl, w1⟩ := DataW.trod_int Tryd.underlying3 g1
  obtain ⟨a2, e2, rfl, w2⟩ := DataW.trod_int Tryd.underlying3 g2
  obtain ⟨a3, e3, rfl, w3⟩ := DataW.trod_int Tryd.underlying3 g3
  obtain ⟨a4, e4, rfl, w4⟩ := DataW.trod_int Tryd.underlying21 g4
  simp at e0 e1 e2 e3 e4
  subst e0 e1 e2 e3 e4
  simp at hx
  obtain ⟨rfl, rfl⟩ := hx
  exact ⟨a0, a1, a2, a3, a4, rfl, rfl, rfl, w0, w1, w2, w3, w4⟩
set_option maxRecDepth 8000 in
theorem shut_word {a0 a1 a2 a3 a4 : Int} (w0 : (Lit.int .i64 a0).wf = true) (w1 : (Lit.int .i64 a1).wf = true) (w2 : (Lit.int .i64 a2).wf = true) (w3 : (Lit.int .i64 a3).wf = true) (w4 : (Lit.int .i32 a4).wf = true) :
    DataW.Trod enc Tryd.prog w base spare held 37 (wordV a0 a1 a2 a3 a4) (wordD a0 a1 a2 a3 a4) [] := ⟨2, by
  have f0 := trod_int_mk (enc := enc) (w := w) (base := base) (spare := spare) (held := held) 0 Tryd.underlying3 w0
  have f1 := trod_int_mk (enc := enc) (w := w) (base := base) (spare := spare) (held := held) 0 Tryd.underlying3 w1
  have f2 := trod_int_mk (enc := enc) (w := w) (base := base) (spare := spare) (held := held) 0 Tryd.underlying3 w2
  have f3 := trod_int_mk (enc := enc) (w := w) (base := base) (spare := spare) (held := held) 0 Tryd.underlying3 w3
  have f4 := trod_int_mk (enc := enc) (w := w) (base := base) (spare := spare) (held := held) 0 Tryd.underlying21 w4
  have := trod_struct_mk (enc := enc) (w := w) (base := base) (spare := spare) (held := held) (n := 1) (cs := [.int .i64 a0, .int .i64 a1, .int .i64 a2, .int .i64 a3, .int .i32 a4]) (xs := [(.lit (.int .i64 a0), []), (.lit (.int .i64 a1), []), (.lit (.int .i64 a2), []), (.lit (.int .i64 a3), []), (.lit (.int .i32 a4), [])])
    Tryd.underlying37 (by simp [cells_w]) (by simp [cells_i, cells_j, f0, f1, f2, f3, f4])
  simpa [Value.cells] using this⟩
end
end Go.Proofs.YtbalnlodkiejcaaDoor
