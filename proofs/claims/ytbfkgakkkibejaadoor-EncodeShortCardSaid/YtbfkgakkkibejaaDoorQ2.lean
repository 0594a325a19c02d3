/- Calls at bytes of one's own; what is known. -/
import Derived.Test.YtbfkgakkkibejaaDoorQ1
namespace Go.Proofs.YtbfkgakkkibejaaDoor
open Go.RowKit
set_option linter.unusedVariables false
set_option linter.unusedSimpArgs false
set_option linter.unusedSectionVars false

theorem Decode_own {w : World} {N : Nat} {v : Value} {zs : List Int} (h : Own w N v zs) (tabs : Tabs w) :
    Calls Tryd.prog 12 #[v] w fun e w' => e = .returned (.tuple #[inV (decI zs), .int .i64 (decI zs).len, .int .i64 (decE zs)]) ∧ Below w.heap.size w w' := by
  obtain ⟨a, cap, rfl, A⟩ := h.ba
  exact Decode_any A tabs
theorem Decode_lit (w : World) (tabs : Tabs w) (zs : List Int) {cells : Array Value} (hc : cells = (zs.map (Value.int .u8)).toArray) (hz : ∀ z ∈ zs, 0 ≤ z ∧ z ≤ 255) (hl : zs.length ≤ 100) {n : Nat} (hn : zs.length = n) {i : In} {x l : Int} (hi : decI zs = i) (hx : decE zs = x) (hil : i.len = l) :
    Calls Tryd.prog 12 #[.slice (some ⟨w.heap.size, 0, none⟩) n n] (w.alloc (.cells cells 5)) fun e w' => e = .returned (.tuple #[inV i, .int .i64 l, .int .i64 x]) ∧ Below w.heap.size w w' := by
  subst hn hi hx hil
  have k := (Below.refl w.heap.size w).alloc (Nat.le_refl _) (.cells cells 5)
  refine (Decode_own (Own.new w w.heap.size (Nat.le_refl _) zs hz hl hc) (tabs.below k)).mono ?_
  rintro e w' ⟨rfl, b⟩
  exact ⟨rfl, k.trans (b.mono k.size)⟩
end Go.Proofs.YtbfkgakkkibejaaDoor
