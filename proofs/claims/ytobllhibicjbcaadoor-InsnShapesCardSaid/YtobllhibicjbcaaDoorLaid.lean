/-
  What the row's own list of variables gives the walks: the tables' cells; and that the program's own start meets the list.
-/
import Derived.Test.YtobllhibicjbcaaDoorRows
import Derived.Test.YtobllhibicjbcaaDoorE0
import Derived.WalkKit
import Derived.ProofKit
import Derived.LaidMore
import Derived.OpenShut
import Derived.Stop.Joined
import Derived.Stop.LaidErr
import Derived.Lib.LaidTab
import Derived.Deep.Strs
import Derived.Deep.Slices
import Derived.Below
namespace Go.Proofs.YtobllhibicjbcaaDoor
open Go.ChangeShapes Go.WideShapes Go.ChangeAt Go.RowKit
set_option linter.unusedVariables false
set_option linter.unusedSimpArgs false

/-- What each class of operations writes, asks for. -/
def wrT (k i : Nat) : Bool := match k with
  | 1 => true | 2 => true | 3 => i != 0 | 4 => i != 2 | 5 => i == 0 || i == 5 | 6 => i == 0 || i == 5 | _ => false
def rdT (k i : Nat) : Bool := match k with
  | 2 => i == 0 | 4 => i != 2 | 5 => i == 0 || i == 5 | 7 => true | _ => false

/-- The table of instructions' rows: what operands count as, conditions, repeats, ends, touches. -/
def rA (k : Nat) : Int := match k with | 1 => 10 | 2 => 10 | 3 => 10 | 4 => 10 | 5 => 10 | 6 => 2 | 7 => 2 | 8 => 10 | 9 => 2 | 10 => 10 | 11 => 26 | 12 => 2 | 13 => 26 | 14 => 1 | 15 => 26 | 16 => 16 | 17 => 1 | 18 => 1 | 19 => 64 | 20 => 8 | _ => 0
def rB (k : Nat) : Int := match k with | 1 => 26 | 2 => 18 | 3 => 42 | 4 => 2 | 5 => 1 | 6 => 10 | 7 => 10 | 8 => 36 | 9 => 8 | 10 => 1 | 11 => 1 | 12 => 1 | 13 => 1 | 14 => 1 | 15 => 1 | 16 => 1 | 17 => 1 | 18 => 1 | 19 => 1 | 20 => 1 | _ => 0
def rC (k : Nat) : Bool := match k with | 7 => true | 10 => true | 16 => true | _ => false
def rR (k : Nat) : Bool := match k with | 18 => true | _ => false
def rE (k : Nat) : Bool := match k with | 13 => true | 14 => true | 15 => true | 16 => true | 19 => true | _ => false
def rT (k : Nat) : Int := match k with | 9 => 2 | 11 => 1 | 12 => 1 | 13 => 1 | 14 => 1 | 18 => 1 | 20 => 1 | _ => 0
abbrev rowA (k : Nat) : Array Value := #[.int .i64 (rA k), .int .i64 (rB k), .bool (rC k), .bool (rR k), .bool (rE k), .int .i64 (rT k)]
/-- The order of flags, cell by cell. -/
def orderA : Array Value := ((List.range 36).map fun n => Value.bool (n / 6 == n % 6)).toArray
/-- What the walks ask of the world: the cells of the tables that they read. -/
def Tabs (W : World) : Prop :=
  (3 ≤ W.heap.size ∧ (∀ k : Nat, k < 21 → ∀ i : Nat, i < 6 → W.cell? ⟨0, k * 6 + i, none⟩ = (rowA k)[i]?)) ∧
  (∀ k : Nat, k < 8 → ∀ i : Nat, i < 6 → W.cell? ⟨1, k * 12 + i, none⟩ = some (.bool (wrT k i)) ∧ W.cell? ⟨1, k * 12 + 6 + i, none⟩ = some (.bool (rdT k i))) ∧
  (∃ t fr, W.heap[2]? = some (.cells orderA t fr))

theorem Tabs.below1 {W W' : World} (h : Tabs W) (b : Below 3 W W') : Tabs W' := by
  obtain ⟨⟨h0, h3⟩, h1, h2⟩ := h
  refine ⟨⟨Nat.le_trans h0 b.size, fun k hk i hi => ?_⟩, fun k hk i hi => ?_, ?_⟩
  · rw [b.cell (show _ < 3 from by simp)]; exact h3 k hk i hi
  · rw [b.cell (show _ < 3 from by simp), b.cell (show _ < 3 from by simp)]; exact h1 k hk i hi
  · rw [b.block _ (show _ < 3 from by simp)]; exact h2
theorem Tabs.below {W W' : World} (h : Tabs W) (b : Below W.heap.size W W') : Tabs W' := h.below1 (b.mono h.1.1)
theorem Tabs.row {W : World} (h : Tabs W) (k : Nat) (hk : k < 21) (i : Nat) (hi : i < 6) : W.cell? ⟨0, k * 6 + i, none⟩ = (rowA k)[i]? := h.1.2 k hk i hi

theorem gRo : Tryd.prog.globalNamed "ferryman/insn.rows" = some 0 := by kernel_rfl
theorem gRoType : (Tryd.prog.globals[0]?).map (·.type) = some 37 := by kernel_rfl
theorem cells_ro : Tryd.prog.cellsOf 36 = 6 := by kernel_rfl
theorem cells_in : Tryd.prog.cellsOf 3 = 1 := by kernel_rfl
def dRow {H : Type} (k : Nat) : DataW H := .agg [.lit (.int .i64 (rA k)), .lit (.int .i64 (rB k)), .lit (.bool (rC k)), .lit (.bool (rR k)), .lit (.bool (rE k)), .lit (.int .i64 (rT k))]
theorem gEf : Tryd.prog.globalNamed "ferryman/alu.effects" = some 1 := by kernel_rfl
theorem gEfType : (Tryd.prog.globals[1]?).map (·.type) = some 47 := by kernel_rfl
theorem gOr : Tryd.prog.globalNamed "ferryman/alu.order" = some 2 := by kernel_rfl
theorem gOrType : (Tryd.prog.globals[2]?).map (·.type) = some 49 := by kernel_rfl
def dFl {H : Type} (b : Nat → Bool) : DataW H := .agg [.lit (.bool (b 0)), .lit (.bool (b 1)), .lit (.bool (b 2)), .lit (.bool (b 3)), .lit (.bool (b 4)), .lit (.bool (b 5))]
theorem cells_fl : Tryd.prog.cellsOf 44 = 6 := by kernel_rfl
theorem cells_ef : Tryd.prog.cellsOf 46 = 12 := by kernel_rfl
theorem cells_bo : Tryd.prog.cellsOf 4 = 1 := by kernel_rfl
section
variable {H : Type} {enc : TypeId × Value → H} {w : World} {base : Nat} {spare : Nat → Bool} {held : Bool}
set_option maxRecDepth 8000 in
theorem flags_of {fuel : Nat} {cs : List Value} {b : Nat → Bool} {p : List MemPlace} (h : DataW.trod enc Tryd.prog w base spare held fuel 44 cs = some (dFl b, p)) :
    cs = [.bool (b 0), .bool (b 1), .bool (b 2), .bool (b 3), .bool (b 4), .bool (b 5)] := by
  obtain ⟨xs, n, _, hd, hl, hlen, hq⟩ := DataW.trod_struct Tryd.underlying44 h
  rw [cells_fl] at hl
  match cs, hl with
  | [c0, c1, c2, c3, c4, c5], _ =>
  match xs, hlen with
  | [y0, y1, y2, y3, y4, y5], _ =>
  have g0 := hq 0 _ rfl
  have g1 := hq 1 _ rfl
  have g2 := hq 2 _ rfl
  have g3 := hq 3 _ rfl
  have g4 := hq 4 _ rfl
  have g5 := hq 5 _ rfl
  simp [cells_bo] at g0 g1 g2 g3 g4 g5
  obtain ⟨a0, e0, z0⟩ := DataW.trod_bool Tryd.underlying4 g0
  obtain ⟨a1, e1, z1⟩ := DataW.trod_bool Tryd.underlying4 g1
  obtain ⟨a2, e2, z2⟩ := DataW.trod_bool Tryd.underlying4 g2
  obtain ⟨a3, e3, z3⟩ := DataW.trod_bool Tryd.underlying4 g3
  obtain ⟨a4, e4, z4⟩ := DataW.trod_bool Tryd.underlying4 g4
  obtain ⟨a5, e5, z5⟩ := DataW.trod_bool Tryd.underlying4 g5
  subst z0 z1 z2 z3 z4 z5
  replace hd := congrArg Prod.fst hd
  simp [dFl] at hd
  simp at e0 e1 e2 e3 e4 e5
  subst e0 e1 e2 e3 e4 e5
  simp [hd]
set_option maxRecDepth 8000 in
theorem row_of {fuel : Nat} {cs : List Value} {k : Nat} {p : List MemPlace} (h : DataW.trod enc Tryd.prog w base spare held fuel 36 cs = some (dRow k, p)) :
    cs = (rowA k).toList := by
  obtain ⟨xs, n, _, hd, hl, hlen, hq⟩ := DataW.trod_struct Tryd.underlying36 h
  rw [cells_ro] at hl
  match cs, hl with
  | [c0, c1, c2, c3, c4, c5], _ =>
  match xs, hlen with
  | [y0, y1, y2, y3, y4, y5], _ =>
  have g0 := hq 0 _ rfl
  have g1 := hq 1 _ rfl
  have g2 := hq 2 _ rfl
  have g3 := hq 3 _ rfl
  have g4 := hq 4 _ rfl
  have g5 := hq 5 _ rfl
  simp [cells_bo, cells_in] at g0 g1 g2 g3 g4 g5
  obtain ⟨a0, e0, z0, -⟩ := DataW.trod_int Tryd.underlying3 g0
  obtain ⟨a1, e1, z1, -⟩ := DataW.trod_int Tryd.underlying3 g1
  obtain ⟨a2, e2, z2⟩ := DataW.trod_bool Tryd.underlying4 g2
  obtain ⟨a3, e3, z3⟩ := DataW.trod_bool Tryd.underlying4 g3
  obtain ⟨a4, e4, z4⟩ := DataW.trod_bool Tryd.underlying4 g4
  obtain ⟨a5, e5, z5, -⟩ := DataW.trod_int Tryd.underlying3 g5
  subst z0 z1 z2 z3 z4 z5
  replace hd := congrArg Prod.fst hd
  simp [dRow] at hd
  simp at e0 e1 e2 e3 e4 e5
  subst e0 e1 e2 e3 e4 e5
  simp [rowA, hd]
theorem effect_of {fuel : Nat} {cs : List Value} {b c : Nat → Bool} {p : List MemPlace} (h : DataW.trod enc Tryd.prog w base spare held fuel 46 cs = some (.agg [dFl b, dFl c], p)) :
    cs = [.bool (b 0), .bool (b 1), .bool (b 2), .bool (b 3), .bool (b 4), .bool (b 5), .bool (c 0), .bool (c 1), .bool (c 2), .bool (c 3), .bool (c 4), .bool (c 5)] := by
  obtain ⟨xs, n, _, hd, hl, hlen, hq⟩ := DataW.trod_struct Tryd.underlying46 h
  rw [cells_ef] at hl
  match cs, hl with
  | [c0, c1, c2, c3, c4, c5, c6, c7, c8, c9, c10, c11], _ =>
  match xs, hlen with
  | [(y0, q0), (y1, q1)], _ =>
  have g0 := hq 0 _ rfl
  have g1 := hq 1 _ rfl
  replace hd := congrArg Prod.fst hd
  simp at hd
  obtain ⟨rfl, rfl⟩ := hd
  simp [cells_fl] at g0 g1
  have f0 := flags_of g0
  have f1 := flags_of g1
  simp at f0 f1
  simp [f0, f1]
end
def bB (l : List Bool) : Nat → Bool := fun i => l.getD i false
theorem of_laid {W : World} (h : laidMetH Tryd.prog Rows.insnPartsRow.laid W) : Tabs W := by
  rw [MakeChecks.laidMetH_plain _ _ _ (by kernel_rfl)] at h
  have h1 := laidMet.tail h
  have h9 := laidMet.tail h1
  have he : ∀ k : Nat, k < 8 → ∀ i : Nat, i < 6 → W.cell? ⟨1, k * 12 + i, none⟩ = some (.bool (wrT k i)) ∧ W.cell? ⟨1, k * 12 + 6 + i, none⟩ = some (.bool (rdT k i)) := by
    intro k hk i hi
    obtain ⟨ps, ⟨g', t', cs, fuel, p, q, hg', ht', hvar, hd, _, _⟩, _⟩ := h
    obtain rfl := Option.some.inj (gEf.symm.trans hg')
    obtain rfl := Option.some.inj (gEfType.symm.trans ht')
    rw [show (Rows.laid_ferryman_alu_effects : DataW Unit) = .agg ((List.range 8).map fun k => .agg [dFl (wrT k), dFl (rdT k)]) by kernel_rfl] at hd
    obtain ⟨xs, m, rfl, e1, hl, hx, hi2⟩ := DataW.trod_array Tryd.underlying47 hd
    have h2 := hi2 k hk
    rw [cells_ef] at h2
    have h3 := congrArg (fun d => match d with | DataW.agg l => l[k]? | _ => none) (congrArg Prod.fst e1)
    simp only [List.getElem?_map] at h3
    rw [List.getElem?_range hk] at h3
    rcases hxk : xs[k]? with _ | ⟨d, q'⟩
    · rw [hxk] at h3; simp at h3
    · rw [hxk] at h2 h3
      simp only [Option.map_some, Option.some.injEq] at h3
      subst h3
      have hc := effect_of h2
      have hci : ∀ j v, [Value.bool (wrT k 0), .bool (wrT k 1), .bool (wrT k 2), .bool (wrT k 3), .bool (wrT k 4), .bool (wrT k 5), .bool (rdT k 0), .bool (rdT k 1), .bool (rdT k 2), .bool (rdT k 3), .bool (rdT k 4), .bool (rdT k 5)][j]? = some v → W.cell? ⟨1, k * 12 + j, none⟩ = some v := by
        intro j v hj
        refine (World.var?_cell gEf hvar _).trans ?_
        have hj12 : j < 12 := by
          have := (List.getElem?_eq_some_iff.1 hj).1
          simpa using this
        rw [← hc, List.getElem?_take, if_pos hj12, List.getElem?_drop] at hj
        simpa using hj
      refine ⟨hci i _ ?_, ?_⟩
      · rcases (by omega : i = 0 ∨ i = 1 ∨ i = 2 ∨ i = 3 ∨ i = 4 ∨ i = 5) with rfl | rfl | rfl | rfl | rfl | rfl <;> rfl
      · rw [Nat.add_assoc]
        refine hci (6 + i) _ ?_
        rcases (by omega : i = 0 ∨ i = 1 ∨ i = 2 ∨ i = 3 ∨ i = 4 ∨ i = 5) with rfl | rfl | rfl | rfl | rfl | rfl <;> rfl
  have hr : ∀ k : Nat, k < 21 → ∀ i : Nat, i < 6 → W.cell? ⟨0, k * 6 + i, none⟩ = (rowA k)[i]? := by
    intro k hk i hi
    obtain ⟨ps, ⟨g', t', cs, fuel, p, q, hg', ht', hvar, hd, _, _⟩, _⟩ := h9
    obtain rfl := Option.some.inj (gRo.symm.trans hg')
    obtain rfl := Option.some.inj (gRoType.symm.trans ht')
    rw [show (Rows.laid_ferryman_insn_rows : DataW Unit) = .agg ((List.range 21).map dRow) by kernel_rfl] at hd
    obtain ⟨xs, m, rfl, e1, hl, hx, hi2⟩ := DataW.trod_array Tryd.underlying37 hd
    have h2 := hi2 k hk
    rw [cells_ro] at h2
    have h3 := congrArg (fun d => match d with | DataW.agg l => l[k]? | _ => none) (congrArg Prod.fst e1)
    simp only [List.getElem?_map] at h3
    rw [List.getElem?_range hk] at h3
    rcases hxk : xs[k]? with _ | ⟨d, q'⟩
    · rw [hxk] at h3; simp at h3
    · rw [hxk] at h2 h3
      simp only [Option.map_some, Option.some.injEq] at h3
      subst h3
      have hc := row_of h2
      refine (World.var?_cell gRo hvar _).trans ?_
      have hj : (rowA k)[i]? = (rowA k).toList[i]? := by simp
      rw [hj, ← hc, List.getElem?_take, if_pos hi, List.getElem?_drop]
      simp
  refine ⟨⟨?_, hr⟩, he, ?_⟩
  · have := size_of_cell (he 0 (by decide) 0 (by decide)).1
    have := size_of_cell (hr 0 (by decide) 0 (by decide))
    obtain ⟨ps, ⟨g', t', cs, fuel, p, q, hg', ht', hvar, hd, _, _⟩, _⟩ := h1
    unfold World.var? at hvar
    rw [gOr] at hvar
    simp only [Option.bind_some] at hvar
    rcases Nat.lt_or_ge 2 W.heap.size with hb | hb
    · omega
    · rw [Array.getElem?_eq_none hb] at hvar
      cases hvar
  · obtain ⟨ps, ⟨g', t', cs, fuel, p, q, hg', ht', hvar, hd, _, _⟩, _⟩ := h1
    obtain rfl := Option.some.inj (gOr.symm.trans hg')
    obtain rfl := Option.some.inj (gOrType.symm.trans ht')
    rw [show (Rows.laid_ferryman_alu_order : DataW Unit) = .agg ((List.range 6).map fun k => dFl (fun i => k == i)) by kernel_rfl] at hd
    obtain ⟨xs, m, rfl, e1, hl, hx, hi2⟩ := DataW.trod_array Tryd.underlying49 hd
    have hcell : ∀ k : Nat, k < 6 → ∀ i : Nat, i < 6 → cs.toList[k * 6 + i]? = some (.bool (k == i)) := by
      intro k hk i hi
      have h2 := hi2 k hk
      rw [cells_fl] at h2
      have h3 := congrArg (fun d => match d with | DataW.agg l => l[k]? | _ => none) (congrArg Prod.fst e1)
      simp only [List.getElem?_map] at h3
      rw [List.getElem?_range hk] at h3
      rcases hxk : xs[k]? with _ | ⟨d, q'⟩
      · rw [hxk] at h3; simp at h3
      · rw [hxk] at h2 h3
        simp only [Option.map_some, Option.some.injEq] at h3
        subst h3
        have hc := flags_of h2
        have hj : [Value.bool (k == 0), .bool (k == 1), .bool (k == 2), .bool (k == 3), .bool (k == 4), .bool (k == 5)][i]? = some (.bool (k == i)) := by
          rcases (by omega : i = 0 ∨ i = 1 ∨ i = 2 ∨ i = 3 ∨ i = 4 ∨ i = 5) with rfl | rfl | rfl | rfl | rfl | rfl <;> rfl
        rw [← hc, List.getElem?_take, if_pos hi, List.getElem?_drop] at hj
        exact hj
    have hlen : cs.toList.length = 36 := hl.trans (by kernel_rfl)
    have hcs : cs = orderA := by
      apply Array.ext'
      apply List.ext_getElem?
      intro n
      rcases Nat.lt_or_ge n 36 with hn | hn
      · have := hcell (n / 6) (by omega) (n % 6) (by omega)
        rw [show n / 6 * 6 + n % 6 = n by omega] at this
        rw [this]
        simp [orderA, hn]
      · rw [List.getElem?_eq_none (by omega), List.getElem?_eq_none (by simpa [orderA] using hn)]
    unfold World.var? at hvar
    rw [gOr] at hvar
    simp only [Option.bind_some] at hvar
    split at hvar
    · rename_i c t fr hh
      obtain rfl := Option.some.inj hvar
      exact ⟨t, fr, by rw [hh, hcs]⟩
    · cases hvar

theorem door_met (os : Os) (args : Array Value) : laidMetH Tryd.prog Rows.insnPartsRow.laid ((World.doorLaid Tryd.prog 69 os).forCall (fun _ _ => 0) ⟨#[], args, []⟩).memory :=
  laidMetH_of_parts3 (fuel := 8) (laidMet_of_run' 8 (by kernel_rfl) (by kernel_rfl)) (by kernel_rfl) (by kernel_rfl)

end Go.Proofs.YtobllhibicjbcaaDoor
