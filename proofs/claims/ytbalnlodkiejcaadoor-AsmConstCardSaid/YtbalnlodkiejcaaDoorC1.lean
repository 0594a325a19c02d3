import Derived.Test.YtbalnlodkiejcaaDoorRows
import Derived.Test.YtbalnlodkiejcaaDoorKit
import Derived.Test.YtbalnlodkiejcaaDoorR1
import Derived.Test.YtbalnlodkiejcaaDoorB3
import Derived.Test.YtbalnlodkiejcaaDoorLaid

import Derived.Deep.RegionHeld3
import Derived.Handy
namespace Go.Proofs.YtbalnlodkiejcaaDoor
open Go.RowKit
set_option linter.unusedVariables false
set_option linter.unusedSimpArgs false
set_option linter.unusedSectionVars false

theorem reg_any (i : Int) (t : Bool) (w : World) : Calls Tryd.prog 51 #[.int .i64 i, .bool t] w fun e w' => e = .returned (.bool (regL i t)) ∧ w = w' := by
  go_enter Tryd.func51, Tryd.ntmps51
  go_wp2
  all_goals go_ret
  all_goals refine ⟨ret_bool ?_, rfl⟩
  all_goals unfold regL
  · simp_all
  · rename_i h1 h2 h3; subst h2; simp [h1, h3]
  · rename_i h1 h2 h3; subst h2; simp [h1, show ¬ 0 < i by omega]
  · rename_i h1 h2; have e : t = false := by simpa using h2
    subst e; simp [h1]

/-- The operands of a form, as they are told. -/
def operT : List (List UInt8) := [[], [100, 44, 105], [100, 44, 105], [100, 44, 115, 44, 105], [100, 44, 105, 40, 115, 41], [116, 44, 105, 40, 115, 41], [115, 44, 116, 44, 105], [100, 44, 115, 44, 105], [100, 44, 115, 44, 116], []]
def operL (f : Nat) : List UInt8 := operT.getD f []
def partsV (f : Nat) : Value := .agg #[.bool (hasD f), .bool (hasS f), .bool (hasT f), .int .i32 (leastN f), .int .i32 (greatestN f), .int .i32 (lowN f), .string ⟨(operL f).toArray⟩]
theorem set_alloc (w : World) (o o' : Obj) : { (w.alloc o) with heap := (w.alloc o).heap.setIfInBounds w.heap.size o' } = w.alloc o' := by
  unfold World.alloc
  simp only [World.mk.injEq, and_true, true_and]
  apply Array.ext'
  simp
theorem upd_new (w0 : World) (r : Nat) (hr : w0.heap.size = r) (es : Array MapEntry) (c : Nat) (k : Int) (v : Value) (hf : Instr.findNow (.int .i64) (.int .i64 k) es.toList 0 = some none) :
    Sem.run Tryd.prog (Instr.mapUpdate 93 (.map (some r)) (.int .i64 k) v) (w0.alloc (.map es c)) = .ok () (w0.alloc (.map (es.push { key := .int .i64 k, val := v, born := c }) (c + 1))) := by
  subst hr
  have hb : (w0.alloc (.map es c)).heap[w0.heap.size]? = some (.map es c) := alloc_new _ _
  simp [Instr.mapUpdate, run_underlying Tryd.underlying93, MapKept.run_getObj_map hb, MapKept.run_checkKey (d := .int .i64) (k := .int .i64 k) Tryd.underlying3 rfl, MapKept.run_findKey Tryd.underlying3 hf, MapKept.run_setObj_map _ hb, Result.andThen]
  exact set_alloc _ _ _
theorem look_at (w0 : World) (r : Nat) (hr : w0.heap.size = r) (es : Array MapEntry) (c : Nat) (k : Int) (i : Nat) (v : Value) (hf : Instr.findNow (.int .i64) (.int .i64 k) es.toList 0 = some (some (i, v))) :
    Sem.run Tryd.prog (Instr.lookup 93 (.map (some r)) (.int .i64 k) false) (w0.alloc (.map es c)) = .ok v (w0.alloc (.map es c)) := by
  subst hr
  have hb : (w0.alloc (.map es c)).heap[w0.heap.size]? = some (.map es c) := alloc_new _ _
  simp [Instr.lookup, run_underlying Tryd.underlying93, MapKept.run_getObj_map hb, MapKept.run_checkKey (d := .int .i64) (k := .int .i64 k) Tryd.underlying3 rfl, MapKept.run_findKey Tryd.underlying3 hf, Result.andThen]
theorem zero_parts (w : World) : Sem.run Tryd.prog (zeroValue 88) w = .ok (partsV 0) w := by kernel_rfl
theorem look_none (w0 : World) (r : Nat) (hr : w0.heap.size = r) (es : Array MapEntry) (c : Nat) (k : Int) (hf : Instr.findNow (.int .i64) (.int .i64 k) es.toList 0 = some none) :
    Sem.run Tryd.prog (Instr.lookup 93 (.map (some r)) (.int .i64 k) false) (w0.alloc (.map es c)) = .ok (partsV 0) (w0.alloc (.map es c)) := by
  subst hr
  have hb : (w0.alloc (.map es c)).heap[w0.heap.size]? = some (.map es c) := alloc_new _ _
  simp [Instr.lookup, run_underlying Tryd.underlying93, MapKept.run_getObj_map hb, MapKept.run_checkKey (d := .int .i64) (k := .int .i64 k) Tryd.underlying3 rfl, MapKept.run_findKey Tryd.underlying3 hf, zero_parts, Result.andThen]
  try rfl
set_option maxRecDepth 8000 in
set_option maxHeartbeats 4000000 in
theorem parts_any (f : Nat) (hf : f < 10) (w : World) : Calls Tryd.prog 50 #[.int .i64 f] w fun e w' => e = .returned (partsV f) ∧ Below w.heap.size w w' := by
  have hmm := @run_makeMap Tryd.prog
  go_enter Tryd.func50, Tryd.ntmps50
  go_wp2
  iterate 8 (rw [upd_new _ _ (by simp) _ _ _ _ (by rfl)]; simp only [Result.andThen_ok, Oper.upon]; go_wp2)
  have hc : f = 0 ∨ f = 9 ∨ f = 1 ∨ f = 2 ∨ f = 3 ∨ f = 4 ∨ f = 5 ∨ f = 6 ∨ f = 7 ∨ f = 8 := by omega
  rcases hc with rfl | rfl | rfl | rfl | rfl | rfl | rfl | rfl | rfl | rfl
  · rw [look_none _ _ (by simp) _ _ _ (by rfl)]; simp only [Result.andThen_ok, Oper.upon]; unfold partsV; go_wp2; go_returns
    exact ⟨rfl, ((Below.refl w.heap.size w).alloc (Nat.le_refl _) _).alloc (by simp) _⟩
  · rw [look_none _ _ (by simp) _ _ _ (by rfl)]; simp only [Result.andThen_ok, Oper.upon]; unfold partsV; go_wp2; go_returns
    exact ⟨rfl, ((Below.refl w.heap.size w).alloc (Nat.le_refl _) _).alloc (by simp) _⟩
  all_goals (rw [look_at _ _ (by simp) _ _ _ _ _ (by rfl)]; simp only [Result.andThen_ok, Oper.upon]; go_wp2; go_returns; exact ⟨rfl, ((Below.refl w.heap.size w).alloc (Nat.le_refl _) _).alloc (by simp) _⟩)
end Go.Proofs.YtbalnlodkiejcaaDoor
