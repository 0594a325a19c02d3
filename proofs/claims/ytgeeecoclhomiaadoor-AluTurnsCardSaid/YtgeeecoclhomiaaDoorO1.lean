/- Arguments opened: flags. -/
import Derived.Test.YtgeeecoclhomiaaDoorLaid
import Derived.Test.YtgeeecoclhomiaaDoorA1
import Derived.Test.YtgeeecoclhomiaaDoorWf
import Derived.ProofKit
import Derived.OpenShut
import Derived.Deep.Slices
namespace Go.Proofs.YtgeeecoclhomiaaDoor
open Go.ChangeShapes Go.WideShapes Go.ChangeAt Go.RowKit
set_option linter.unusedVariables false

theorem wfa_u32 {a : Int} (h : (Lit.int .u32 a).wf = true) : 0 ≤ a ∧ a ≤ 4294967295 := by
  obtain ⟨n, rfl, h⟩ := wfn_u32 h
  omega
theorem wfa_u64 {a : Int} (h : (Lit.int .u64 a).wf = true) : 0 ≤ a ∧ a ≤ 18446744073709551615 := by
  simp [Lit.wf, IntKind.min, IntKind.max, IntKind.signed] at h
  obtain ⟨h0, h1⟩ := h
  exact ⟨h0, h1⟩
section
variable {H : Type} {enc : TypeId × Value → H} {w : World} {base : Nat} {spare : Nat → Bool} {held : Bool}
set_option maxRecDepth 8000 in
theorem open_flc {fuel : Nat} {cs : List Value} {x : DataW H × List MemPlace} (h : DataW.trod enc Tryd.prog w base spare held fuel 24 cs = some x) :
    ∃ f : Nat → Bool, cs = [.bool (f 0), .bool (f 1), .bool (f 2), .bool (f 3), .bool (f 4), .bool (f 5)] := by
  obtain ⟨xs, n, _, -, hl, hlen, hq⟩ := DataW.trod_struct Tryd.underlying24 h
  rw [cells_fl] at hl
  match cs, hl with
  | [c0, c1, c2, c3, c4, c5], _ =>
  match xs, hlen with
  | [y0, y1, y2, y3, y4, y5], _ =>
  have g0 := hq 0 _ rfl
  have g1 := hq 1 _ rfl
  have g2 := hq 2 _ rfl
  have g3 := hq 3 _ rfl
  have g4 := hq 4 _ rfl
  have g5 := hq 5 _ rfl
  simp [cells_bo] at g0 g1 g2 g3 g4 g5
  obtain ⟨a0, e0, -⟩ := DataW.trod_bool Tryd.underlying4 g0
  obtain ⟨a1, e1, -⟩ := DataW.trod_bool Tryd.underlying4 g1
  obtain ⟨a2, e2, -⟩ := DataW.trod_bool Tryd.underlying4 g2
  obtain ⟨a3, e3, -⟩ := DataW.trod_bool Tryd.underlying4 g3
  obtain ⟨a4, e4, -⟩ := DataW.trod_bool Tryd.underlying4 g4
  obtain ⟨a5, e5, -⟩ := DataW.trod_bool Tryd.underlying4 g5
  simp at e0 e1 e2 e3 e4 e5
  subst e0 e1 e2 e3 e4 e5
  exact ⟨fun i => match i with | 0 => a0 | 1 => a1 | 2 => a2 | 3 => a3 | 4 => a4 | _ => a5, rfl⟩
set_option maxRecDepth 8000 in
theorem open_fl {r : Reach} {b0 : Nat} {v : Value} {d : DataW H} {ps : List MemPlace} (hval : Value.okWide Tryd.prog w r b0 24 v) (hd : DataW.Trod enc Tryd.prog w base spare held 24 v d ps) :
    ∃ f : Nat → Bool, v = flV f ∧ True := by
  obtain ⟨cs, rfl, hsz⟩ := okWide_struct Tryd.underlying24 hval
  obtain ⟨fuel, hf⟩ := hd
  obtain ⟨f, hf⟩ := open_flc hf
  obtain ⟨l⟩ := cs
  simp [Value.cells] at hf
  subst hf
  exact ⟨f, rfl, trivial⟩
end
end Go.Proofs.YtgeeecoclhomiaaDoor
