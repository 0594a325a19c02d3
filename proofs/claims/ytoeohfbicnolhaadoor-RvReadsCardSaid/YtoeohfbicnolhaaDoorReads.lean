import Derived.Test.YtoeohfbicnolhaaDoorK1
import Derived.Test.YtoeohfbicnolhaaDoorC10
import Derived.Test.YtoeohfbicnolhaaDoorWf
namespace Go.Proofs.YtoeohfbicnolhaaDoor
open Go.RowKit
set_option linter.unusedVariables false
set_option linter.unusedSimpArgs false
set_option linter.unusedSectionVars false

theorem wordO_parts (u : Int) (o : Option Nat) : ∃ (op d s t i : Int) (b : Bool), wordO u o = .tuple #[wordV op d s t i, .bool b] := by
  cases o with
  | none => exact ⟨0, 0, 0, 0, 0, false, rfl⟩
  | some k => exact ⟨_, _, _, _, _, true, rfl⟩
theorem reads_walk (x : Nat) (hx : x < 4294967296) (w : World) (tabs : Tabs w) :
    Calls Tryd.prog 4 #[.int .u32 x] w fun e w' => e = .returned (.bool true) ∧ Below w.heap.size w w' := by
  obtain ⟨op, d, s, t, i, b, ho⟩ := wordO_parts x (decL x)
  have h1 := fun w t => dec_any (x : Int) (by omega) w t
  have h2 := fun w => rdec_any (x : Int) (by omega) w
  rw [ho] at h1 h2
  go_enter Tryd.func4, Tryd.ntmps4
  go_wp2_with fail
  refine (known_any _ tabs).mono ?_
  rintro e w1 ⟨rfl, b1⟩
  replace tabs := tabs.below b1
  go_wp2_with fail
  refine (h1 _ tabs).mono ?_
  rintro e w2 ⟨rfl, b2⟩
  replace tabs := tabs.below b2
  replace b1 := b1.trans (b2.mono b1.size)
  clear b2
  go_wp2_with fail
  replace b1 := b1.alloc b1.size (.cells #[.int .i64 op, .int .i64 d, .int .i64 s, .int .i64 t, .int .i32 i] 23)
  refine (h2 _).mono ?_
  rintro e w3 ⟨rfl, b2⟩
  replace b1 := b1.trans (b2.mono b1.size)
  have c0 : ∀ o, (w3.alloc o).cell? ⟨w2.heap.size, 0, none⟩ = some (.int .i64 op) := own_cell2 b2 0 _ rfl
  have c1 : ∀ o, (w3.alloc o).cell? ⟨w2.heap.size, 1, none⟩ = some (.int .i64 d) := own_cell2 b2 1 _ rfl
  have c2 : ∀ o, (w3.alloc o).cell? ⟨w2.heap.size, 2, none⟩ = some (.int .i64 s) := own_cell2 b2 2 _ rfl
  have c3 : ∀ o, (w3.alloc o).cell? ⟨w2.heap.size, 3, none⟩ = some (.int .i64 t) := own_cell2 b2 3 _ rfl
  have c4 : ∀ o, (w3.alloc o).cell? ⟨w2.heap.size, 4, none⟩ = some (.int .i32 i) := own_cell2 b2 4 _ rfl
  have hb := fun o => b1.alloc b1.size o
  go_wp2_with fail
  go_ret
  exact ⟨rfl, hb _⟩
end Go.Proofs.YtoeohfbicnolhaaDoor
