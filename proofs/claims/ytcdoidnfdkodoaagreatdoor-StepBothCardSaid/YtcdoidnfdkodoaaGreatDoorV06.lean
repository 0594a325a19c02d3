import Derived.Test.YtcdoidnfdkodoaaGreatDoorS08
import Derived.Test.YtcdoidnfdkodoaaGreatDoorS00
import Derived.Test.YtcdoidnfdkodoaaGreatDoorS02
import Derived.ProofKit
import Derived.OpenShut
import Derived.Deep.Slices
namespace Go.Proofs.YtcdoidnfdkodoaaGreatDoor
open Go.ChangeShapes Go.WideShapes Go.ChangeAt Go.RowKit
set_option linter.unusedVariables false
section
variable {H : Type} {enc : TypeId × Value → H} {P : Program} {w : World} {base : Nat} {spare : Nat → Bool} {held : Bool}
theorem open_cells {t e : TypeId} {n fuel : Nat} {k : IntKind} {cs : List Value} {x : DataW H × List MemPlace} (ht : P.underlying t = some (.array n e)) (hc : P.cellsOf t = n) (he : P.underlying e = some (.int k)) (h1 : P.cellsOf e = 1)
    (h : DataW.trod enc P w base spare held fuel t cs = some x) : cs.length = n ∧ ∀ i, i < n → ∃ z, cs[i]? = some (.int k z) ∧ (Lit.int k z).wf = true := by
  obtain ⟨xs, m, rfl, rfl, hl, hx, hi⟩ := DataW.trod_array ht h
  rw [hc] at hl
  refine ⟨hl, fun i hin => ?_⟩
  have h2 := hi i hin
  rw [h1, Nat.mul_one] at h2
  have h3 : xs[i]? = some xs[i] := List.getElem?_eq_getElem (by omega)
  rw [h3] at h2
  obtain ⟨z, e, -, hw⟩ := DataW.trod_int he h2
  refine ⟨z, ?_, hw⟩
  have := congrArg (·[0]?) e
  simpa [List.getElem?_take, List.getElem?_drop] using this
end
section
variable {H : Type} {enc : TypeId × Value → H} {w : World} {base : Nat} {spare : Nat → Bool} {held : Bool}
theorem wfa_u32 {a : Int} (h : (Lit.int .u32 a).wf = true) : 0 ≤ a ∧ a ≤ 4294967295 := by
  obtain ⟨n, rfl, h⟩ := wfn_u32 h
  omega
theorem wfa_u64 {a : Int} (h : (Lit.int .u64 a).wf = true) : 0 ≤ a ∧ a ≤ 18446744073709551615 := by
  simp [Lit.wf, IntKind.min, IntKind.max, IntKind.signed] at h
  obtain ⟨h0, h1⟩ := h
  exact ⟨h0, h1⟩
theorem cells_fl : Tryz.prog.cellsOf 26 = 6 := by kernel_rfl
theorem cells_sta : Tryz.prog.cellsOf 29 = 17 := by kernel_rfl
theorem cells_r8 : Tryz.prog.cellsOf 24 = 8 := by kernel_rfl
theorem cells_w : Tryz.prog.cellsOf 23 = 1 := by kernel_rfl
theorem cells_q : Tryz.prog.cellsOf 27 = 1 := by kernel_rfl
theorem cells_bo : Tryz.prog.cellsOf 4 = 1 := by kernel_rfl
set_option maxRecDepth 8000 in
theorem open_flc {fuel : Nat} {cs : List Value} {x : DataW H × List MemPlace} (h : DataW.trod enc Tryz.prog w base spare held fuel 26 cs = some x) :
    ∃ f : Nat → Bool, cs = [.bool (f 0), .bool (f 1), .bool (f 2), .bool (f 3), .bool (f 4), .bool (f 5)] := by
  obtain ⟨xs, n, _, -, hl, hlen, hq⟩ := DataW.trod_struct Tryz.underlying26 h
  rw [cells_fl] at hl
  match cs, hl with
  | [c0, c1, c2, c3, c4, c5], _ =>
  match xs, hlen with
  | [y0, y1, y2, y3, y4, y5], _ =>
  have g0 := hq 0 _ rfl
  have g1 := hq 1 _ rfl
  have g2 := hq 2 _ rfl
  have g3 := hq 3 _ rfl
  have g4 := hq 4 _ rfl
  have g5 := hq 5 _ rfl
  simp [cells_bo] at g0 g1 g2 g3 g4 g5
  obtain ⟨a0, e0, -⟩ := DataW.trod_bool Tryz.underlying4 g0
  obtain ⟨a1, e1, -⟩ := DataW.trod_bool Tryz.underlying4 g1
  obtain ⟨a2, e2, -⟩ := DataW.trod_bool Tryz.underlying4 g2
  obtain ⟨a3, e3, -⟩ := DataW.trod_bool Tryz.underlying4 g3
  obtain ⟨a4, e4, -⟩ := DataW.trod_bool Tryz.underlying4 g4
  obtain ⟨a5, e5, -⟩ := DataW.trod_bool Tryz.underlying4 g5
  simp at e0 e1 e2 e3 e4 e5
  subst e0 e1 e2 e3 e4 e5
  exact ⟨fun i => match i with | 0 => a0 | 1 => a1 | 2 => a2 | 3 => a3 | 4 => a4 | _ => a5, rfl⟩
set_option maxRecDepth 8000 in
theorem open_st {r : Reach} {b0 : Nat} {v : Value} {d : DataW H} {ps : List MemPlace} (hval : Value.okWide Tryz.prog w r b0 29 v) (hd : DataW.Trod enc Tryz.prog w base spare held 29 v d ps) :
    ∃ g : Gs, v = stV g ∧ g.ok := by
  obtain ⟨cs, rfl, hsz⟩ := okWide_struct Tryz.underlying29 hval
  obtain ⟨fuel, hf⟩ := hd
  obtain ⟨xs, n, _, -, hl, hlen, hq⟩ := DataW.trod_struct Tryz.underlying29 hf
  rw [cells_sta] at hl
  obtain ⟨l⟩ := cs
  simp only [Value.cells] at hl hq
  match l, hl with
  | [c0, c1, c2, c3, c4, c5, c6, c7, c8, c9, c10, c11, c12, c13, c14, c15, c16], _ =>
  match xs, hlen with
  | [y0, y1, y2, y3, y4], _ =>
  have g0 := hq 0 _ rfl
  have g1 := hq 1 _ rfl
  have g2 := hq 2 _ rfl
  have g3 := hq 3 _ rfl
  have g4 := hq 4 _ rfl
  simp [cells_r8, cells_w, cells_fl, cells_bo, cells_q] at g0 g1 g2 g3 g4
  obtain ⟨-, hR⟩ := open_cells Tryz.underlying24 cells_r8 Tryz.underlying23 cells_w g0
  obtain ⟨p, e1, -, w1⟩ := DataW.trod_int Tryz.underlying23 g1
  obtain ⟨f, e2⟩ := open_flc g2
  obtain ⟨df, e3, -⟩ := DataW.trod_bool Tryz.underlying4 g3
  obtain ⟨q, e4, -, w4⟩ := DataW.trod_int Tryz.underlying27 g4
  obtain ⟨r0, h0, v0⟩ := hR 0 (by decide)
  obtain ⟨r1, h1, v1⟩ := hR 1 (by decide)
  obtain ⟨r2, h2, v2⟩ := hR 2 (by decide)
  obtain ⟨r3, h3, v3⟩ := hR 3 (by decide)
  obtain ⟨r4, h4, v4⟩ := hR 4 (by decide)
  obtain ⟨r5, h5, v5⟩ := hR 5 (by decide)
  obtain ⟨r6, h6, v6⟩ := hR 6 (by decide)
  obtain ⟨r7, h7, v7⟩ := hR 7 (by decide)
  simp at h0 h1 h2 h3 h4 h5 h6 h7 e1 e2 e3 e4
  obtain ⟨e20, e21, e22, e23, e24, e25⟩ := e2
  subst h0 h1 h2 h3 h4 h5 h6 h7 e1 e20 e21 e22 e23 e24 e25 e3 e4
  refine ⟨⟨fun i => match i with | 0 => r0 | 1 => r1 | 2 => r2 | 3 => r3 | 4 => r4 | 5 => r5 | 6 => r6 | 7 => r7 | _ => 0, p, f, df, q⟩, rfl, fun i => ?_, wfa_u32 w1, wfa_u64 w4⟩
  show 0 ≤ (match i with | 0 => r0 | 1 => r1 | 2 => r2 | 3 => r3 | 4 => r4 | 5 => r5 | 6 => r6 | 7 => r7 | _ => 0 : Int) ∧ (match i with | 0 => r0 | 1 => r1 | 2 => r2 | 3 => r3 | 4 => r4 | 5 => r5 | 6 => r6 | 7 => r7 | _ => 0 : Int) ≤ 4294967295
  split <;> first | exact wfa_u32 (by assumption) | decide
end
end Go.Proofs.YtcdoidnfdkodoaaGreatDoor
