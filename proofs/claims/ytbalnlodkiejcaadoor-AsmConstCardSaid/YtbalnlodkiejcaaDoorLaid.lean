/-
  What the row's own list of variables gives the walks: the tables' cells; and that the program's own start meets the list.
-/
import Derived.Test.YtbalnlodkiejcaaDoorRows
import Derived.Test.YtbalnlodkiejcaaDoorR1
import Derived.Test.YtbalnlodkiejcaaDoorR2
import Derived.WalkKit
import Derived.ProofKit
import Derived.LaidMore
import Derived.OpenShut
import Derived.Stop.Joined
import Derived.Stop.LaidErr
import Derived.Lib.LaidTab
import Derived.Deep.Strs
import Derived.Below
namespace Go.Proofs.YtbalnlodkiejcaaDoor
open Go.ChangeShapes Go.WideShapes Go.ChangeAt Go.RowKit
set_option linter.unusedVariables false
set_option linter.unusedSimpArgs false

/-- The kinds' names. -/
def namesT : List (List UInt8) := [[], [108,117,105], [97,117,105,112,99], [106,97,108], [106,97,108,114], [98,101,113], [98,110,101], [98,108,116], [98,103,101], [98,108,116,117], [98,103,101,117], [108,98], [108,104], [108,119], [108,98,117], [108,104,117], [115,98], [115,104], [115,119], [97,100,100,105], [115,108,116,105], [115,108,116,105,117], [120,111,114,105], [111,114,105], [97,110,100,105], [115,108,108,105], [115,114,108,105], [115,114,97,105], [97,100,100], [115,117,98], [115,108,108], [115,108,116], [115,108,116,117], [120,111,114], [115,114,108], [115,114,97], [111,114], [97,110,100], [109,117,108], [109,117,108,104], [109,117,108,104,115,117], [109,117,108,104,117], [100,105,118], [100,105,118,117], [114,101,109], [114,101,109,117], [101,99,97,108,108], [101,98,114,101,97,107]]
def nameL (op : Nat) : List UInt8 := namesT.getD op []
def rowsK : List (List UInt8 × Int × Int) := (List.range 48).map fun k => (nameL k, (formN k : Int), (bitsN k : Int))
def rowsD : DataW Unit := .agg (rowsK.map fun r => .agg [.lit (.string r.1), .lit (.int .i64 r.2.1), .lit (.int .u32 r.2.2)])

/-- What the walks ask of the world: the cells of the tables that they read. -/
def Tabs (W : World) : Prop :=
  2 ≤ W.heap.size ∧
  (∀ k : Nat, k < 48 → W.cell? ⟨0, k * 3, none⟩ = some (.string ⟨(nameL k).toArray⟩) ∧ W.cell? ⟨0, k * 3 + 1, none⟩ = some (.int .i64 (formN k)) ∧ W.cell? ⟨0, k * 3 + 2, none⟩ = some (.int .u32 (bitsN k))) ∧
  (∀ f : Nat, f < 10 → W.cell? ⟨1, f, none⟩ = some (.int .u32 (masksT.getD f 0))) ∧
  True

theorem size_of_cell {W : World} {b o : Nat} {v : Value} (h : W.cell? ⟨b, o, none⟩ = some v) : b < W.heap.size := by
  rcases Nat.lt_or_ge b W.heap.size with hb | hb
  · exact hb
  · simp [World.cell?, Array.getElem?_eq_none hb] at h

theorem gKin : Tryd.prog.globalNamed "ferryman/rv.kinds" = some 0 := by kernel_rfl
theorem gKinType : (Tryd.prog.globals[0]?).map (·.type) = some 80 := by kernel_rfl
theorem gMas : Tryd.prog.globalNamed "ferryman/rv.masks" = some 1 := by kernel_rfl
theorem gMasType : (Tryd.prog.globals[1]?).map (·.type) = some 85 := by kernel_rfl

theorem Tabs.below {W W' : World} (h : Tabs W) (b : Below W.heap.size W W') : Tabs W' := by
  obtain ⟨h0, h1, h2, h3⟩ := h
  refine ⟨Nat.le_trans h0 b.size, fun k hk => ?_, fun f hf => ?_, ?_⟩
  · obtain ⟨k1, k2, k3⟩ := h1 k hk
    rw [b.cell (Nat.lt_of_lt_of_le (show _ < 2 from by simp) h0), b.cell (Nat.lt_of_lt_of_le (show _ < 2 from by simp) h0), b.cell (Nat.lt_of_lt_of_le (show _ < 2 from by simp) h0)]
    exact ⟨k1, k2, k3⟩
  · rw [b.cell (Nat.lt_of_lt_of_le (show _ < 2 from by simp) h0)]; exact h2 f hf
  · trivial

/-- A table of structs of a string and two integers, that reads as these rows, holds them. -/
theorem cells_of_rows {H : Type} {enc : TypeId × Value → H} {P : Program} {w : World} {base : Nat} {sp : Nat → Bool} {held : Bool} {fuel : Nat} {t e : TypeId} {n : Nat} {cs : List Value}
    {rows : List (List UInt8 × Int × Int)} {p : List MemPlace} {f0 f1 f2 : Field} {k1 k2 : IntKind}
    (ht : P.underlying t = some (.array n e)) (he : P.underlying e = some (.struct #[f0, f1, f2])) (hce : P.cellsOf e = 3)
    (u0 : P.underlying f0.type = some .string) (u1 : P.underlying f1.type = some (.int k1)) (u2 : P.underlying f2.type = some (.int k2))
    (c0 : P.cellsOf f0.type = 1) (c1 : P.cellsOf f1.type = 1) (c2 : P.cellsOf f2.type = 1) (o0 : f0.offset = 0) (o1 : f1.offset = 1) (o2 : f2.offset = 2)
    (h : DataW.trod enc P w base sp held fuel t cs = some (.agg (rows.map fun r => .agg [.lit (.string r.1), .lit (.int k1 r.2.1), .lit (.int k2 r.2.2)]), p)) (i : Nat) (hi : i < n) :
    ∀ r, rows[i]? = some r → cs[i * 3]? = some (.string ⟨r.1.toArray⟩) ∧ cs[i * 3 + 1]? = some (.int k1 r.2.1) ∧ cs[i * 3 + 2]? = some (.int k2 r.2.2) := by
  intro r hr
  cases fuel with
  | zero => simp [DataW.trod] at h
  | succ fuel =>
    simp only [DataW.trod, ht, hce] at h
    split at h
    · obtain ⟨xs, hm, hx⟩ := Option.map_eq_some_iff.1 h
      have hxs := congrArg Prod.fst hx
      simp only [DataW.agg.injEq] at hxs
      obtain ⟨b, hb, hf⟩ := Lib.mapM_at hm i i (by simp [hi])
      have h2 : (xs.map (·.1))[i]? = some b.1 := by simp [hb]
      rw [hxs, List.getElem?_map, hr] at h2
      simp only [Option.map_some, Option.some.injEq] at h2
      obtain ⟨y0, y1, y2, m, rfl, hl, g0, g1, g2⟩ := Deep.trod_struct3 he hf
      simp only [DataW.agg.injEq, List.cons.injEq, and_true] at h2
      rw [c0, o0] at g0
      rw [c1, o1] at g1
      rw [c2, o2] at g2
      obtain ⟨s, q0, rfl, -⟩ := DataW.trod_string u0 g0
      obtain ⟨z1, q1, rfl, -⟩ := DataW.trod_int u1 g1
      obtain ⟨z2, q2, rfl, -⟩ := DataW.trod_int u2 g2
      simp only [DataW.lit.injEq, Lit.string.injEq, Lit.int.injEq, true_and] at h2
      obtain ⟨e0, e1, e2⟩ := h2
      have r0 := congrArg (·[0]?) q0
      have r1 := congrArg (·[0]?) q1
      have r2 := congrArg (·[0]?) q2
      simp [List.getElem?_take, List.getElem?_drop] at r0 r1 r2
      refine ⟨?_, ?_, ?_⟩
      · rw [r0, e0]
      · rw [r1, e1]
      · rw [r2, e2]
    · cases h

theorem rows_at (k : Nat) (hk : k < 48) : rowsK[k]? = some (nameL k, (formN k : Int), (bitsN k : Int)) := by
  simp [rowsK, hk]

theorem of_laid {W : World} (h : laidMetH Tryd.prog Rows.asmConstRow.laid W) : Tabs W := by
  rw [MakeChecks.laidMetH_plain _ _ _ (by kernel_rfl)] at h
  have hk := h
  have hm := laidMet.tail hk
  have d : Lib.TabIs Tryd.prog W "ferryman/rv.masks" .u32 masksT := Lib.tabIs_of_head (zs := masksT) gMas gMasType Tryd.underlying85 Tryd.underlying22 (by kernel_rfl) (by kernel_rfl) hm
  have hkc : ∀ k : Nat, k < 48 → W.cell? ⟨0, k * 3, none⟩ = some (.string ⟨(nameL k).toArray⟩) ∧ W.cell? ⟨0, k * 3 + 1, none⟩ = some (.int .i64 (formN k)) ∧ W.cell? ⟨0, k * 3 + 2, none⟩ = some (.int .u32 (bitsN k)) := by
    intro k hk48
    obtain ⟨ps, ⟨g', t', cs, fuel, p, q, hg', ht', hvar, hd, _, _⟩, _⟩ := hk
    obtain rfl := Option.some.inj (gKin.symm.trans hg')
    obtain rfl := Option.some.inj (gKinType.symm.trans ht')
    rw [show (Rows.laid_ferryman_rv_kinds : DataW Unit) = rowsD by kernel_rfl] at hd
    have := cells_of_rows Tryd.underlying80 Tryd.underlying79 (by kernel_rfl) Tryd.underlying9 Tryd.underlying3 Tryd.underlying22 (by kernel_rfl) (by kernel_rfl) (by kernel_rfl) rfl rfl rfl hd k hk48 _ (rows_at k hk48)
    obtain ⟨a1, a2, a3⟩ := this
    refine ⟨World.var?_cell gKin hvar _ |>.trans ?_, World.var?_cell gKin hvar _ |>.trans ?_, World.var?_cell gKin hvar _ |>.trans ?_⟩
    · simpa using a1
    · simpa using a2
    · simpa using a3
  have hms : ∀ f : Nat, f < 10 → W.cell? ⟨1, f, none⟩ = some (.int .u32 (masksT.getD f 0)) := fun f hf => by
    have := d.cell gMas f (by simpa [masksT] using hf)
    simpa using this
  exact ⟨by first | exact size_of_cell (hkc 0 (by decide)).1 | exact size_of_cell (hms 0 (by decide)), hkc, hms, trivial⟩

theorem door_met (os : Os) (args : Array Value) : laidMetH Tryd.prog Rows.asmConstRow.laid ((World.doorLaid Tryd.prog 66 os).forCall (fun _ _ => 0) ⟨#[], args, []⟩).memory :=
  laidMetH_of_parts3 (fuel := 8) (laidMet_of_run' 8 (by kernel_rfl) (by kernel_rfl)) (by kernel_rfl) (by kernel_rfl)

end Go.Proofs.YtbalnlodkiejcaaDoor
