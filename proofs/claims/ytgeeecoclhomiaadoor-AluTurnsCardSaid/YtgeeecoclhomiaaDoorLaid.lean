/-
  What the row's own list of variables gives the walks: the tables' cells; and that the program's own start meets the list.
-/
import Derived.Test.YtgeeecoclhomiaaDoorRows
import Derived.Test.YtgeeecoclhomiaaDoorE0
import Derived.WalkKit
import Derived.ProofKit
import Derived.LaidMore
import Derived.OpenShut
import Derived.Stop.Joined
import Derived.Stop.LaidErr
import Derived.Lib.LaidTab
import Derived.Deep.Strs
import Derived.Deep.Slices
import Derived.Below
namespace Go.Proofs.YtgeeecoclhomiaaDoor
open Go.ChangeShapes Go.WideShapes Go.ChangeAt Go.RowKit
set_option linter.unusedVariables false
set_option linter.unusedSimpArgs false

/-- What each class of operations writes, asks for. -/
def wrT (k i : Nat) : Bool := match k with
  | 1 => true | 2 => true | 3 => i != 0 | 4 => i != 2 | 5 => i == 0 || i == 5 | 6 => i == 0 || i == 5 | _ => false
def rdT (k i : Nat) : Bool := match k with
  | 2 => i == 0 | 4 => i != 2 | 5 => i == 0 || i == 5 | 7 => true | _ => false

/-- The order of flags, cell by cell. -/
def orderA : Array Value := ((List.range 36).map fun n => Value.bool (n / 6 == n % 6)).toArray
/-- What the walks ask of the world: the cells of the tables that they read. -/
def Tabs (W : World) : Prop :=
  2 ≤ W.heap.size ∧
  (∀ k : Nat, k < 8 → ∀ i : Nat, i < 6 → W.cell? ⟨0, k * 12 + i, none⟩ = some (.bool (wrT k i)) ∧ W.cell? ⟨0, k * 12 + 6 + i, none⟩ = some (.bool (rdT k i))) ∧
  (∃ t fr, W.heap[1]? = some (.cells orderA t fr))

theorem Tabs.below1 {W W' : World} (h : Tabs W) (b : Below 2 W W') : Tabs W' := by
  obtain ⟨h0, h1, h2⟩ := h
  refine ⟨Nat.le_trans h0 b.size, fun k hk i hi => ?_, ?_⟩
  · rw [b.cell (show _ < 2 from by simp), b.cell (show _ < 2 from by simp)]; exact h1 k hk i hi
  · rw [b.block _ (show _ < 2 from by simp)]; exact h2
theorem Tabs.below {W W' : World} (h : Tabs W) (b : Below W.heap.size W W') : Tabs W' := h.below1 (b.mono h.1)

theorem gEf : Tryd.prog.globalNamed "ferryman/alu.effects" = some 0 := by kernel_rfl
theorem gEfType : (Tryd.prog.globals[0]?).map (·.type) = some 57 := by kernel_rfl
theorem gOr : Tryd.prog.globalNamed "ferryman/alu.order" = some 1 := by kernel_rfl
theorem gOrType : (Tryd.prog.globals[1]?).map (·.type) = some 64 := by kernel_rfl
def dFl {H : Type} (b : Nat → Bool) : DataW H := .agg [.lit (.bool (b 0)), .lit (.bool (b 1)), .lit (.bool (b 2)), .lit (.bool (b 3)), .lit (.bool (b 4)), .lit (.bool (b 5))]
theorem cells_fl : Tryd.prog.cellsOf 24 = 6 := by kernel_rfl
theorem cells_ef : Tryd.prog.cellsOf 56 = 12 := by kernel_rfl
theorem cells_bo : Tryd.prog.cellsOf 4 = 1 := by kernel_rfl
section
variable {H : Type} {enc : TypeId × Value → H} {w : World} {base : Nat} {spare : Nat → Bool} {held : Bool}
set_option maxRecDepth 8000 in
theorem flags_of {fuel : Nat} {cs : List Value} {b : Nat → Bool} {p : List MemPlace} (h : DataW.trod enc Tryd.prog w base spare held fuel 24 cs = some (dFl b, p)) :
    cs = [.bool (b 0), .bool (b 1), .bool (b 2), .bool (b 3), .bool (b 4), .bool (b 5)] := by
  obtain ⟨xs, n, _, hd, hl, hlen, hq⟩ := DataW.trod_struct Tryd.underlying24 h
  rw [cells_fl] at hl
  match cs, hl with
  | [c0, c1, c2, c3, c4, c5], _ =>
  match xs, hlen with
  | [y0, y1, y2, y3, y4, y5], _ =>
  have g0 := hq 0 _ rfl
  have g1 := hq 1 _ rfl
  have g2 := hq 2 _ rfl
  have g3 := hq 3 _ rfl
  have g4 := hq 4 _ rfl
  have g5 := hq 5 _ rfl
  simp [cells_bo] at g0 g1 g2 g3 g4 g5
  obtain ⟨a0, e0, z0⟩ := DataW.trod_bool Tryd.underlying4 g0
  obtain ⟨a1, e1, z1⟩ := DataW.trod_bool Tryd.underlying4 g1
  obtain ⟨a2, e2, z2⟩ := DataW.trod_bool Tryd.underlying4 g2
  obtain ⟨a3, e3, z3⟩ := DataW.trod_bool Tryd.underlying4 g3
  obtain ⟨a4, e4, z4⟩ := DataW.trod_bool Tryd.underlying4 g4
  obtain ⟨a5, e5, z5⟩ := DataW.trod_bool Tryd.underlying4 g5
  subst z0 z1 z2 z3 z4 z5
  replace hd := congrArg Prod.fst hd
  simp [dFl] at hd
  simp at e0 e1 e2 e3 e4 e5
  subst e0 e1 e2 e3 e4 e5
  simp [hd]
theorem effect_of {fuel : Nat} {cs : List Value} {b c : Nat → Bool} {p : List MemPlace} (h : DataW.trod enc Tryd.prog w base spare held fuel 56 cs = some (.agg [dFl b, dFl c], p)) :
    cs = [.bool (b 0), .bool (b 1), .bool (b 2), .bool (b 3), .bool (b 4), .bool (b 5), .bool (c 0), .bool (c 1), .bool (c 2), .bool (c 3), .bool (c 4), .bool (c 5)] := by
  obtain ⟨xs, n, _, hd, hl, hlen, hq⟩ := DataW.trod_struct Tryd.underlying56 h
  rw [cells_ef] at hl
  match cs, hl with
  | [c0, c1, c2, c3, c4, c5, c6, c7, c8, c9, c10, c11], _ =>
  match xs, hlen with
  | [(y0, q0), (y1, q1)], _ =>
  have g0 := hq 0 _ rfl
  have g1 := hq 1 _ rfl
  replace hd := congrArg Prod.fst hd
  simp at hd
  obtain ⟨rfl, rfl⟩ := hd
  simp [cells_fl] at g0 g1
  have f0 := flags_of g0
  have f1 := flags_of g1
  simp at f0 f1
  simp [f0, f1]
end
def bB (l : List Bool) : Nat → Bool := fun i => l.getD i false
theorem of_laid {W : World} (h : laidMetH Tryd.prog Rows.aluWideRow.laid W) : Tabs W := by
  rw [MakeChecks.laidMetH_plain _ _ _ (by kernel_rfl)] at h
  have h1 := laidMet.tail h
  have he : ∀ k : Nat, k < 8 → ∀ i : Nat, i < 6 → W.cell? ⟨0, k * 12 + i, none⟩ = some (.bool (wrT k i)) ∧ W.cell? ⟨0, k * 12 + 6 + i, none⟩ = some (.bool (rdT k i)) := by
    intro k hk i hi
    obtain ⟨ps, ⟨g', t', cs, fuel, p, q, hg', ht', hvar, hd, _, _⟩, _⟩ := h
    obtain rfl := Option.some.inj (gEf.symm.trans hg')
    obtain rfl := Option.some.inj (gEfType.symm.trans ht')
    rw [show (Rows.laid_ferryman_alu_effects : DataW Unit) = .agg ((List.range 8).map fun k => .agg [dFl (wrT k), dFl (rdT k)]) by kernel_rfl] at hd
    obtain ⟨xs, m, rfl, e1, hl, hx, hi2⟩ := DataW.trod_array Tryd.underlying57 hd
    have h2 := hi2 k hk
    rw [cells_ef] at h2
    have h3 := congrArg (fun d => match d with | DataW.agg l => l[k]? | _ => none) (congrArg Prod.fst e1)
    simp only [List.getElem?_map] at h3
    rw [List.getElem?_range hk] at h3
    rcases hxk : xs[k]? with _ | ⟨d, q'⟩
    · rw [hxk] at h3; simp at h3
    · rw [hxk] at h2 h3
      simp only [Option.map_some, Option.some.injEq] at h3
      subst h3
      have hc := effect_of h2
      have hci : ∀ j v, [Value.bool (wrT k 0), .bool (wrT k 1), .bool (wrT k 2), .bool (wrT k 3), .bool (wrT k 4), .bool (wrT k 5), .bool (rdT k 0), .bool (rdT k 1), .bool (rdT k 2), .bool (rdT k 3), .bool (rdT k 4), .bool (rdT k 5)][j]? = some v → W.cell? ⟨0, k * 12 + j, none⟩ = some v := by
        intro j v hj
        refine (World.var?_cell gEf hvar _).trans ?_
        have hj12 : j < 12 := by
          have := (List.getElem?_eq_some_iff.1 hj).1
          simpa using this
        rw [← hc, List.getElem?_take, if_pos hj12, List.getElem?_drop] at hj
        simpa using hj
      refine ⟨hci i _ ?_, ?_⟩
      · rcases (by omega : i = 0 ∨ i = 1 ∨ i = 2 ∨ i = 3 ∨ i = 4 ∨ i = 5) with rfl | rfl | rfl | rfl | rfl | rfl <;> rfl
      · rw [Nat.add_assoc]
        refine hci (6 + i) _ ?_
        rcases (by omega : i = 0 ∨ i = 1 ∨ i = 2 ∨ i = 3 ∨ i = 4 ∨ i = 5) with rfl | rfl | rfl | rfl | rfl | rfl <;> rfl
  refine ⟨?_, he, ?_⟩
  · have := size_of_cell (he 0 (by decide) 0 (by decide)).1
    obtain ⟨ps, ⟨g', t', cs, fuel, p, q, hg', ht', hvar, hd, _, _⟩, _⟩ := h1
    unfold World.var? at hvar
    rw [gOr] at hvar
    simp only [Option.bind_some] at hvar
    rcases Nat.lt_or_ge 1 W.heap.size with hb | hb
    · omega
    · rw [Array.getElem?_eq_none hb] at hvar
      cases hvar
  · obtain ⟨ps, ⟨g', t', cs, fuel, p, q, hg', ht', hvar, hd, _, _⟩, _⟩ := h1
    obtain rfl := Option.some.inj (gOr.symm.trans hg')
    obtain rfl := Option.some.inj (gOrType.symm.trans ht')
    rw [show (Rows.laid_ferryman_alu_order : DataW Unit) = .agg ((List.range 6).map fun k => dFl (fun i => k == i)) by kernel_rfl] at hd
    obtain ⟨xs, m, rfl, e1, hl, hx, hi2⟩ := DataW.trod_array Tryd.underlying64 hd
    have hcell : ∀ k : Nat, k < 6 → ∀ i : Nat, i < 6 → cs.toList[k * 6 + i]? = some (.bool (k == i)) := by
      intro k hk i hi
      have h2 := hi2 k hk
      rw [cells_fl] at h2
      have h3 := congrArg (fun d => match d with | DataW.agg l => l[k]? | _ => none) (congrArg Prod.fst e1)
      simp only [List.getElem?_map] at h3
      rw [List.getElem?_range hk] at h3
      rcases hxk : xs[k]? with _ | ⟨d, q'⟩
      · rw [hxk] at h3; simp at h3
      · rw [hxk] at h2 h3
        simp only [Option.map_some, Option.some.injEq] at h3
        subst h3
        have hc := flags_of h2
        have hj : [Value.bool (k == 0), .bool (k == 1), .bool (k == 2), .bool (k == 3), .bool (k == 4), .bool (k == 5)][i]? = some (.bool (k == i)) := by
          rcases (by omega : i = 0 ∨ i = 1 ∨ i = 2 ∨ i = 3 ∨ i = 4 ∨ i = 5) with rfl | rfl | rfl | rfl | rfl | rfl <;> rfl
        rw [← hc, List.getElem?_take, if_pos hi, List.getElem?_drop] at hj
        exact hj
    have hlen : cs.toList.length = 36 := hl.trans (by kernel_rfl)
    have hcs : cs = orderA := by
      apply Array.ext'
      apply List.ext_getElem?
      intro n
      rcases Nat.lt_or_ge n 36 with hn | hn
      · have := hcell (n / 6) (by omega) (n % 6) (by omega)
        rw [show n / 6 * 6 + n % 6 = n by omega] at this
        rw [this]
        simp [orderA, hn]
      · rw [List.getElem?_eq_none (by omega), List.getElem?_eq_none (by simpa [orderA] using hn)]
    unfold World.var? at hvar
    rw [gOr] at hvar
    simp only [Option.bind_some] at hvar
    split at hvar
    · rename_i c t fr hh
      obtain rfl := Option.some.inj hvar
      exact ⟨t, fr, by rw [hh, hcs]⟩
    · cases hvar

theorem door_met (os : Os) (args : Array Value) : laidMetH Tryd.prog Rows.aluWideRow.laid ((World.doorLaid Tryd.prog 43 os).forCall (fun _ _ => 0) ⟨#[], args, []⟩).memory :=
  laidMetH_of_parts3 (fuel := 8) (laidMet_of_run' 8 (by kernel_rfl) (by kernel_rfl)) (by kernel_rfl) (by kernel_rfl)

end Go.Proofs.YtgeeecoclhomiaaDoor
