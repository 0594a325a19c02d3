/- Arguments opened: operands, instructions. -/
import Derived.Test.YtobllhibicjbcaaDoorLaid
import Derived.Test.YtobllhibicjbcaaDoorC0
import Derived.Test.YtobllhibicjbcaaDoorWf
import Derived.ProofKit
import Derived.OpenShut
import Derived.Deep.Slices
namespace Go.Proofs.YtobllhibicjbcaaDoor
open Go.ChangeShapes Go.WideShapes Go.ChangeAt Go.RowKit
set_option linter.unusedVariables false

theorem wfa_u32 {a : Int} (h : (Lit.int .u32 a).wf = true) : 0 ≤ a ∧ a ≤ 4294967295 := by
  obtain ⟨n, rfl, h⟩ := wfn_u32 h
  omega
section
variable {H : Type} {enc : TypeId × Value → H} {w : World} {base : Nat} {spare : Nat → Bool} {held : Bool}
theorem cells_opd : Tryd.prog.cellsOf 24 = 6 := by kernel_rfl
theorem cells_ins : Tryd.prog.cellsOf 26 = 16 := by kernel_rfl
theorem cells_w : Tryd.prog.cellsOf 22 = 1 := by kernel_rfl
set_option maxRecDepth 8000 in
theorem open_onc {fuel : Nat} {cs : List Value} {x : DataW H × List MemPlace} (h : DataW.trod enc Tryd.prog w base spare held fuel 24 cs = some x) :
    ∃ o : On, cs = [.int .i64 o.k, .int .i64 o.r, .int .u32 o.m, .int .i64 o.b, .int .i64 o.x, .int .u32 o.s] := by
  obtain ⟨xs, n, _, -, hl, hlen, hq⟩ := DataW.trod_struct Tryd.underlying24 h
  rw [cells_opd] at hl
  match cs, hl with
  | [c0, c1, c2, c3, c4, c5], _ =>
  match xs, hlen with
  | [y0, y1, y2, y3, y4, y5], _ =>
  have g0 := hq 0 _ rfl
  have g1 := hq 1 _ rfl
  have g2 := hq 2 _ rfl
  have g3 := hq 3 _ rfl
  have g4 := hq 4 _ rfl
  have g5 := hq 5 _ rfl
  simp [cells_in, cells_w] at g0 g1 g2 g3 g4 g5
  obtain ⟨a0, e0, -⟩ := DataW.trod_int Tryd.underlying3 g0
  obtain ⟨a1, e1, -⟩ := DataW.trod_int Tryd.underlying3 g1
  obtain ⟨a2, e2, -⟩ := DataW.trod_int Tryd.underlying22 g2
  obtain ⟨a3, e3, -⟩ := DataW.trod_int Tryd.underlying3 g3
  obtain ⟨a4, e4, -⟩ := DataW.trod_int Tryd.underlying3 g4
  obtain ⟨a5, e5, -⟩ := DataW.trod_int Tryd.underlying22 g5
  simp at e0 e1 e2 e3 e4 e5
  subst e0 e1 e2 e3 e4 e5
  exact ⟨⟨a0, a1, a2, a3, a4, a5⟩, rfl⟩
set_option maxRecDepth 8000 in
theorem open_inc {fuel : Nat} {cs : List Value} {x : DataW H × List MemPlace} (h : DataW.trod enc Tryd.prog w base spare held fuel 26 cs = some x) :
    ∃ i : In, cs = (in16 i).toList := by
  obtain ⟨xs, n, _, -, hl, hlen, hq⟩ := DataW.trod_struct Tryd.underlying26 h
  rw [cells_ins] at hl
  match cs, hl with
  | [c0, c1, c2, c3, c4, c5, c6, c7, c8, c9, c10, c11, c12, c13, c14, c15], _ =>
  match xs, hlen with
  | [y0, y1, y2, y3, y4, y5], _ =>
  have g0 := hq 0 _ rfl
  have g1 := hq 1 _ rfl
  have g2 := hq 2 _ rfl
  have g3 := hq 3 _ rfl
  have g4 := hq 4 _ rfl
  have g5 := hq 5 _ rfl
  simp [cells_in, cells_opd, cells_bo] at g0 g1 g2 g3 g4 g5
  obtain ⟨a0, e0, -⟩ := DataW.trod_int Tryd.underlying3 g0
  obtain ⟨a1, e1, -⟩ := DataW.trod_int Tryd.underlying3 g1
  obtain ⟨A, e2⟩ := open_onc g2
  obtain ⟨B, e3⟩ := open_onc g3
  obtain ⟨a4, e4, -⟩ := DataW.trod_bool Tryd.underlying4 g4
  obtain ⟨a5, e5, -⟩ := DataW.trod_int Tryd.underlying3 g5
  simp at e0 e1 e2 e3 e4 e5
  exact ⟨⟨a0, a1, A, B, a4, a5⟩, by simp [e0, e1, e2, e3, e4, e5]⟩
theorem open_in {r : Reach} {b0 : Nat} {v : Value} {d : DataW H} {ps : List MemPlace} (hval : Value.okWide Tryd.prog w r b0 26 v) (hd : DataW.Trod enc Tryd.prog w base spare held 26 v d ps) :
    ∃ i : In, v = inV i ∧ True := by
  obtain ⟨cs, rfl, hsz⟩ := okWide_struct Tryd.underlying26 hval
  obtain ⟨fuel, hf⟩ := hd
  obtain ⟨i, hf⟩ := open_inc hf
  refine ⟨i, congrArg Value.agg (Array.ext' ?_), trivial⟩
  simpa [Value.cells] using hf
end
end Go.Proofs.YtobllhibicjbcaaDoor
