import Derived.Test.YtbalnlodkiejcaaDoorC4
import Derived.Deep.WholeRow
namespace Go.Proofs.YtbalnlodkiejcaaDoor
open Go.RowKit
set_option linter.unusedVariables false
set_option linter.unusedSimpArgs false
set_option linter.unusedSectionVars false

/-! ### The document's own words: shapes -/

def formB (f : Nat) : Nat := [0, 85, 74, 73, 73, 83, 66, 72, 82, 69].getD f 0
def f3S (op : Nat) : Nat := if formN op = 1 ∨ formN op = 2 then 0 else bitsN op / 4096 % 8
def f7S (op : Nat) : Nat := if formN op = 7 ∨ formN op = 8 then bitsN op / 33554432 else if op = 47 then 1 else 0
def shapeV (op : Nat) : Array Value := #[.int .u8 (formB (formN op)), .int .u32 ((bitsN op : Int) % 128), .int .u32 (f3S op), .int .u32 (f7S op)]
def shapesV : Array Value := ((List.range 47).flatMap fun k => (shapeV k).toList).toArray
def zero188 : Array Value := ((List.range 47).flatMap fun _ => [Value.int .u8 0, .int .u32 0, .int .u32 0, .int .u32 0]).toArray
theorem info188 : (Tryd.prog.info? 74).map (fun i => (i.zero, i.size)) = some (some (.agg zero188), 188) := by kernel_rfl
theorem ret_table {fn : Func} {R : Ending → World → Prop} {t : TypeId} (h : fn.results = #[.cell 0 t]) (cs : Array Value) (n : Nat) (e : TypeId) (hu : Tryd.prog.underlying t = some (.array n e))
    (hi : (Tryd.prog.info? t).map (·.size) = some cs.size) (a : Act) (w : World) (hp : a.tmps.getD 0 undef = .pointer (some ⟨w.heap.size, 0, none⟩)) (hd : a.defers = []) (hR : R (.returned (.agg cs)) (w.alloc (.cells cs t))) (W : World) (hW : W = w.alloc (.cells cs t)) :
    Code.wp Tryd.prog Code.ret (bodyPost Tryd.prog fn R) a W := by
  subst hW
  apply wp_ret
  refine bodyPost_ret (v := .agg cs) ?_ hd hR
  have hl := run_loadVar_new (P := Tryd.prog) w t cs n e hu hi
  simp [results, h, hl]
  rw [← Array.getD_eq_getD_getElem?, hp]
  simp [asAddr, hl, Result.andThen]
theorem shapes_any (w : World) : Calls Tryd.prog 39 #[] w fun e w' => e = .returned (.agg shapesV) ∧ Below w.heap.size w w' := by
  have hz := (zero_of_info info188).1
  go_enter Tryd.func39, Tryd.ntmps39
  apply wp_seq_k; intro K0 hK0
  apply wp_region_lit
  refine wpList_plain rfl fun K hK => ?_
  unfold Oper.wp execOp
  simp [Instr.alloc, newVar, hz, Result.andThen]
  refine hK _ _ ?_
  apply wpList_nil
  refine hK0 _ _ ?_
  clear hK hK0 K K0
  apply wp_seq_k; intro K0 hK0
  apply wp_region_lit
  iterate 47 (refine wpList_build rfl 64 _ rfl (by kernel_rfl) ?_)
  refine wpList_build rfl 74 _ rfl (by kernel_rfl) ?_
  refine wpList_store_row rfl 74 _ _ rfl w.heap.size shapesV (by kernel_rfl) (by kernel_rfl) 74 zero188 (alloc_new _ _) (by kernel_rfl) (by kernel_rfl) (by kernel_rfl) ?_
  apply wpList_nil
  refine hK0 _ _ ?_
  refine ret_table (n := 47) (e := 64) rfl shapesV Tryd.underlying74 (by kernel_rfl) _ w ?_ ?_ ?_ _ (World.setRow_alloc_new _ _ _ _)
  · kernel_rfl
  · kernel_rfl
  · exact ⟨rfl, (Below.refl w.heap.size w).alloc (Nat.le_refl _) _⟩
theorem shape_ext : ∀ (k : Nat), k < 47 → shapesV.extract (k * 4) (k * 4 + 4) = shapeV k
  | 0, _ => by kernel_rfl
  | 1, _ => by kernel_rfl
  | 2, _ => by kernel_rfl
  | 3, _ => by kernel_rfl
  | 4, _ => by kernel_rfl
  | 5, _ => by kernel_rfl
  | 6, _ => by kernel_rfl
  | 7, _ => by kernel_rfl
  | 8, _ => by kernel_rfl
  | 9, _ => by kernel_rfl
  | 10, _ => by kernel_rfl
  | 11, _ => by kernel_rfl
  | 12, _ => by kernel_rfl
  | 13, _ => by kernel_rfl
  | 14, _ => by kernel_rfl
  | 15, _ => by kernel_rfl
  | 16, _ => by kernel_rfl
  | 17, _ => by kernel_rfl
  | 18, _ => by kernel_rfl
  | 19, _ => by kernel_rfl
  | 20, _ => by kernel_rfl
  | 21, _ => by kernel_rfl
  | 22, _ => by kernel_rfl
  | 23, _ => by kernel_rfl
  | 24, _ => by kernel_rfl
  | 25, _ => by kernel_rfl
  | 26, _ => by kernel_rfl
  | 27, _ => by kernel_rfl
  | 28, _ => by kernel_rfl
  | 29, _ => by kernel_rfl
  | 30, _ => by kernel_rfl
  | 31, _ => by kernel_rfl
  | 32, _ => by kernel_rfl
  | 33, _ => by kernel_rfl
  | 34, _ => by kernel_rfl
  | 35, _ => by kernel_rfl
  | 36, _ => by kernel_rfl
  | 37, _ => by kernel_rfl
  | 38, _ => by kernel_rfl
  | 39, _ => by kernel_rfl
  | 40, _ => by kernel_rfl
  | 41, _ => by kernel_rfl
  | 42, _ => by kernel_rfl
  | 43, _ => by kernel_rfl
  | 44, _ => by kernel_rfl
  | 45, _ => by kernel_rfl
  | 46, _ => by kernel_rfl
  | n + 47, h => by omega
theorem idx_run : ∀ (k : Nat) (h2 : k < 47) (w : World), Sem.run Tryd.prog (Instr.index 74 (.agg shapesV) (.int .i64 k)) w = .ok (.agg (shapeV k)) w := by
  intro k h2 w
  have hu := Tryd.underlying74
  have hz : ∀ w, Sem.run Tryd.prog (sizeOf 64) w = .ok 4 w := fun w => by kernel_rfl
  have hg : ∀ w, Sem.run Tryd.prog (isAgg 64) w = .ok true w := fun w => by kernel_rfl
  simp [Instr.index, run_underlying hu, asIntOf, hz, part, hg, h2]
  exact shape_ext k h2
theorem set4 (w1 : World) (B : Nat) (x0 x1 x2 x3 v0 v1 v2 v3 : Value) (q0 : w1.cell? ⟨B, 0, none⟩ = some x0) (q1 : w1.cell? ⟨B, 1, none⟩ = some x1) (q2 : w1.cell? ⟨B, 2, none⟩ = some x2)
    (q3 : w1.cell? ⟨B, 3, none⟩ = some x3) (W : World) (hW : W = (((w1.setCell ⟨B, 0, none⟩ v0).setCell ⟨B, 1, none⟩ v1).setCell ⟨B, 2, none⟩ v2).setCell ⟨B, 3, none⟩ v3) :
    W.cell? ⟨B, 0, none⟩ = some v0 ∧ W.cell? ⟨B, 1, none⟩ = some v1 ∧ W.cell? ⟨B, 2, none⟩ = some v2 ∧ W.cell? ⟨B, 3, none⟩ = some v3 := by
  subst hW
  refine ⟨?_, ?_, ?_, ?_⟩ <;> simp [World.cell?_setCell_other, World.cell?_setCell_same', q0, q1, q2, q3]
theorem of_any (k : Nat) (h1 : 1 ≤ k) (h2 : k ≤ 47) (w : World) : Calls Tryd.prog 28 #[.int .i64 k] w fun e w' => e = .returned (.agg (shapeV k)) ∧ Below w.heap.size w w' := by
  by_cases h : k = 47
  · subst h
    go_enter Tryd.func28, Tryd.ntmps28
    go_wp2_with fail
    all_goals go_returns
    all_goals exact ⟨rfl, (Below.refl w.heap.size w).alloc (Nat.le_refl _) _⟩
  · have hi := fun w => idx_run k (by omega) w
    unfold shapeV at hi ⊢
    go_enter Tryd.func28, Tryd.ntmps28
    go_wp2_with fail
    refine (shapes_any _).mono ?_
    rintro e w1 ⟨rfl, b1⟩
    have b1' : Below (w.alloc (.cells #[.int .u8 0, .int .u32 0, .int .u32 0, .int .u32 0] 64)).heap.size (w.alloc (.cells #[.int .u8 0, .int .u32 0, .int .u32 0, .int .u32 0] 64)) w1 := b1
    have q0 : w1.cell? ⟨w.heap.size, 0, none⟩ = some (.int .u8 0) := own_cell b1' 0 _ rfl
    have q1 : w1.cell? ⟨w.heap.size, 1, none⟩ = some (.int .u32 0) := own_cell b1' 1 _ rfl
    have q2 : w1.cell? ⟨w.heap.size, 2, none⟩ = some (.int .u32 0) := own_cell b1' 2 _ rfl
    have q3 : w1.cell? ⟨w.heap.size, 3, none⟩ = some (.int .u32 0) := own_cell b1' 3 _ rfl
    have p : ∀ i, w1.frozen? ⟨w.heap.size, i, none⟩ = false := fun i => own_frozen b1' i
    go_wp2_with fail
    obtain ⟨s0, s1, s2, s3⟩ := set4 w1 w.heap.size _ _ _ _ (.int .u8 (formB (formN k))) (.int .u32 ((bitsN k : Int) % 128)) (.int .u32 (f3S k)) (.int .u32 (f7S k)) q0 q1 q2 q3 _ rfl
    (try simp only [Exit.inBlock, Exit.then]); refine bodyPost_ret (v := .agg #[.int .u8 (formB (formN k)), .int .u32 ((bitsN k : Int) % 128), .int .u32 (f3S k), .int .u32 (f7S k)]) (by simp [results, Tryd.results28, go_sem, s0, s1, s2, s3]) rfl ?_
    have bb := ((Below.refl w.heap.size w).alloc (Nat.le_refl _) _).trans (b1.mono (by simp))
    refine ⟨rfl, ?_⟩
    exact (((bb.setCell (by simp) _).setCell (by simp) _).setCell (by simp) _).setCell (by simp) _
theorem of_out (k : Int) (h1 : k < 1 ∨ 47 < k) (w : World) : Calls Tryd.prog 28 #[.int .i64 k] w fun e w' => e = .returned (.agg #[.int .u8 0, .int .u32 0, .int .u32 0, .int .u32 0]) ∧ Below w.heap.size w w' := by
  go_enter Tryd.func28, Tryd.ntmps28
  go_wp2_with fail
  all_goals go_returns
  all_goals exact ⟨rfl, (Below.refl w.heap.size w).alloc (Nat.le_refl _) _⟩
end Go.Proofs.YtbalnlodkiejcaaDoor
