import Derived.Test.YtbnocincfecmpaaDoorT3
import Derived.Test.YtbnocincfecmpaaDoorC7
namespace Go.Proofs.YtbnocincfecmpaaDoor
open Go.RowKit
set_option linter.unusedVariables false
set_option linter.unusedSimpArgs false
set_option linter.unusedSectionVars false

def namesV : Array Value := ((List.range 47).map fun k => Value.string ⟨(nameL k).toArray⟩).toArray
def zero47 : Array Value := ((List.range 47).map fun _ => Value.string ⟨#[]⟩).toArray
theorem info47 : (Tryd.prog.info? 82).map (fun i => (i.zero, i.size)) = some (some (.agg zero47), 47) := by kernel_rfl
theorem names_any (w : World) : Calls Tryd.prog 48 #[] w fun e w' => e = .returned (.agg namesV) ∧ Below w.heap.size w w' := by
  have hz := (zero_of_info info47).1
  go_enter Tryd.func48, Tryd.ntmps48
  apply wp_seq_k; intro K0 hK0
  apply wp_region_lit
  refine wpList_plain rfl fun K hK => ?_
  unfold Oper.wp execOp
  simp [Instr.alloc, newVar, hz, Result.andThen]
  refine hK _ _ ?_
  apply wpList_nil
  refine hK0 _ _ ?_
  clear hK hK0 K K0
  apply wp_seq_k; intro K0 hK0
  apply wp_region_lit
  refine wpList_build rfl 82 _ rfl (by kernel_rfl) ?_
  refine wpList_store_row rfl 82 _ _ rfl w.heap.size namesV (by kernel_rfl) (by kernel_rfl) 82 zero47 (alloc_new _ _) (by kernel_rfl) (by kernel_rfl) (by kernel_rfl) ?_
  apply wpList_nil
  refine hK0 _ _ ?_
  refine ret_table (n := 47) (e := 9) rfl namesV Tryd.underlying82 (by kernel_rfl) _ w ?_ ?_ ?_ _ (World.setRow_alloc_new _ _ _ _)
  · kernel_rfl
  · kernel_rfl
  · exact ⟨rfl, (Below.refl w.heap.size w).alloc (Nat.le_refl _) _⟩
theorem name_idx (k : Nat) (h2 : k < 47) (w : World) : Sem.run Tryd.prog (Instr.index 82 (.agg namesV) (.int .i64 k)) w = .ok (.string (bs (nameL k))) w := by
  have hu := Tryd.underlying82
  have hz : ∀ w, Sem.run Tryd.prog (sizeOf 9) w = .ok 1 w := fun w => by kernel_rfl
  have hg : ∀ w, Sem.run Tryd.prog (isAgg 9) w = .ok false w := fun w => by kernel_rfl
  have hx : namesV[k]? = some (.string (bs (nameL k))) := by
    unfold namesV bs
    simp [h2]
  simp [Instr.index, run_underlying hu, asIntOf, hz, part, hg, h2, hx]
end Go.Proofs.YtbnocincfecmpaaDoor
