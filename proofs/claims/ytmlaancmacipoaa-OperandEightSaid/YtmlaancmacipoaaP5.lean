/- Rows of bytes as strings. -/
import Derived.Test.YtmlaancmacipoaaP4
import Derived.Laws.BytesString
namespace Go.Proofs.Ytmlaancmacipoaa
open Go.RowKit
set_option linter.unusedVariables false
set_option linter.unusedSimpArgs false
set_option linter.unusedSectionVars false

/-- The string of bytes. -/
def strZ (zs : List Int) : ByteArray := zs.foldl (fun r n => r.push (UInt8.ofNat n.toNat)) ByteArray.empty
theorem fold_pushZ (ns : List Int) : ∀ s : ByteArray, ns.foldl (fun r n => r.push (UInt8.ofNat n.toNat)) s = ⟨s.data ++ (ns.map fun n => UInt8.ofNat n.toNat).toArray⟩ := by
  induction ns with
  | nil => intro s; simp
  | cons n ns ih => intro s; simp only [List.foldl_cons, ih]; simp [ByteArray.push]
theorem strZ_of (s : ByteArray) : strZ (bytesZ s) = s := by
  unfold strZ
  rw [fold_pushZ]
  unfold bytesZ
  simp [Function.comp_def]
theorem conv_row {w : World} {x : Option Addr} {len cap : Nat} {zs : List Int} (h : Row8 w x len zs) : (convert 74 9 (.slice x len cap)).run Try.prog w = .ok (.string (strZ zs)) w := by
  obtain ⟨h1, h2, h3⟩ := h
  rw [run_convert_bytes_string w _ _ 5 _ _ _ (by kernel_rfl) (by kernel_rfl) (by kernel_rfl)]
  rcases h3 with rfl | ⟨b, off, rfl, hlt, hc⟩
  · obtain rfl : len = 0 := h1.symm
    cases x <;> simp [Conv.bytesToString, Sem.run_pure, strZ, loadCells, loadCellsFrom]
  · have hld := run_loadCells_list (P := Try.prog) w ⟨b, off, none⟩ (zs.map (Value.int .u8)) (fun j v hj => by
      have hj2 : j < zs.length := by have := (List.getElem?_eq_some_iff.1 hj).1; simpa using this
      rw [addN, hc j (by omega), ← hj]
      simp [List.getD_eq_getElem?_getD, hj2])
    rw [show (zs.map (Value.int .u8)).length = len by rw [List.length_map, h1]] at hld
    exact run_bytesToString w _ _ _ _ hld
end Go.Proofs.Ytmlaancmacipoaa
