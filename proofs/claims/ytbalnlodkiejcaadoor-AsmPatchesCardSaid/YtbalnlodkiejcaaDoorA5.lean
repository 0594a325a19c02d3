/- AsmPatches. -/
import Derived.Test.YtbalnlodkiejcaaDoorA4
import Derived.Test.YtbalnlodkiejcaaDoorC8
import Derived.Test.YtbalnlodkiejcaaDoorC10
namespace Go.Proofs.YtbalnlodkiejcaaDoor
open Go.RowKit
set_option linter.unusedVariables false
set_option linter.unusedSimpArgs false
set_option linter.unusedSectionVars false

theorem wordO_some (u : Int) (o : Option Nat) : ∃ (op d s t i : Int) (b : Bool), wordO u o = .tuple #[wordV op d s t i, .bool b] := by
  cases o with
  | none => exact ⟨0, 0, 0, 0, 0, false, rfl⟩
  | some k => exact ⟨_, _, _, _, _, true, rfl⟩
theorem kept {w w1 : World} {cs : Array Value} {t : TypeId} (b : Below (w.alloc (.cells cs t)).heap.size (w.alloc (.cells cs t)) w1) : Below w.heap.size (w.alloc (.cells cs t)) w1 := b.mono (by simp)
set_option maxHeartbeats 1000000 in
theorem patches_n1 (x f t op d s r i : Int)  (hr : ∀ w, Calls Tryd.prog 12 #[.int .u32 x] w fun e w' => e = .returned (.tuple #[wordV op d s r i, .bool false]) ∧ Below w.heap.size w w')
    (hg : ∀ w, Tabs w → Calls Tryd.prog 13 #[.int .u32 f, .int .u32 x] w fun e w' => e = .returned (.tuple #[.int .u32 0, .bool false]) ∧ Below w.heap.size w w')
    (hp : ∀ w, Tabs w → Calls Tryd.prog 14 #[.int .u32 x, .int .u32 f, .int .u32 t] w fun e w' => e = .returned (.tuple #[.int .u32 0, .int .i64 12]) ∧ Below w.heap.size w w')
    (w : World) (tabs : Tabs w) :
    Calls Tryd.prog 4 #[.int .u32 x, .int .u32 f, .int .u32 t] w fun e w' => e = .returned (.bool true) ∧ Below w.heap.size w w' := by
  go_enter Tryd.func4, Tryd.ntmps4
  go_wp2_with fail
  refine (kn_any _ tabs).mono ?_
  rintro e w1 ⟨rfl, b1⟩
  replace tabs := tabs.below b1
  go_wp2_with fail
  refine (hr _).mono ?_
  rintro e w2 ⟨rfl, b2⟩
  replace tabs := tabs.below b2
  replace b1 := b1.trans (b2.mono b1.size)
  clear b2
  have kz := b1.alloc b1.size (.cells #[.int .i64 op, .int .i64 d, .int .i64 s, .int .i64 r, .int .i32 i] 37)
  have tz := tabs.below ((Below.refl w2.heap.size w2).alloc (Nat.le_refl _) (.cells #[.int .i64 op, .int .i64 d, .int .i64 s, .int .i64 r, .int .i32 i] 37))
  go_wp2_with fail
  refine (hg _ tz).mono ?_
  rintro e w3 ⟨rfl, b3⟩
  have t3 := tz.below b3
  replace kz := kz.trans (b3.mono kz.size)
  go_wp2_with fail
  refine (hp _ t3).mono ?_
  rintro e w4 ⟨rfl, b4⟩
  replace kz := kz.trans (b4.mono kz.size)
  go_wp2_with fail
  go_ret
  exact ⟨rfl, kz⟩
set_option maxHeartbeats 1000000 in
theorem patches_n2 (x f t op d s r i : Int) (h3 : ¬ op = 3) (h5 : op < 5) (hr : ∀ w, Calls Tryd.prog 12 #[.int .u32 x] w fun e w' => e = .returned (.tuple #[wordV op d s r i, .bool true]) ∧ Below w.heap.size w w')
    (hg : ∀ w, Tabs w → Calls Tryd.prog 13 #[.int .u32 f, .int .u32 x] w fun e w' => e = .returned (.tuple #[.int .u32 0, .bool false]) ∧ Below w.heap.size w w')
    (hp : ∀ w, Tabs w → Calls Tryd.prog 14 #[.int .u32 x, .int .u32 f, .int .u32 t] w fun e w' => e = .returned (.tuple #[.int .u32 0, .int .i64 12]) ∧ Below w.heap.size w w')
    (w : World) (tabs : Tabs w) :
    Calls Tryd.prog 4 #[.int .u32 x, .int .u32 f, .int .u32 t] w fun e w' => e = .returned (.bool true) ∧ Below w.heap.size w w' := by
  go_enter Tryd.func4, Tryd.ntmps4
  go_wp2_with fail
  refine (kn_any _ tabs).mono ?_
  rintro e w1 ⟨rfl, b1⟩
  replace tabs := tabs.below b1
  go_wp2_with fail
  refine (hr _).mono ?_
  rintro e w2 ⟨rfl, b2⟩
  replace tabs := tabs.below b2
  replace b1 := b1.trans (b2.mono b1.size)
  clear b2
  have kz := b1.alloc b1.size (.cells #[.int .i64 op, .int .i64 d, .int .i64 s, .int .i64 r, .int .i32 i] 37)
  have tz := tabs.below ((Below.refl w2.heap.size w2).alloc (Nat.le_refl _) (.cells #[.int .i64 op, .int .i64 d, .int .i64 s, .int .i64 r, .int .i32 i] 37))
  go_wp2_with fail
  refine (hg _ tz).mono ?_
  rintro e w3 ⟨rfl, b3⟩
  have t3 := tz.below b3
  replace kz := kz.trans (b3.mono kz.size)
  go_wp2_with fail
  refine (hp _ t3).mono ?_
  rintro e w4 ⟨rfl, b4⟩
  replace kz := kz.trans (b4.mono kz.size)
  go_wp2_with fail
  go_ret
  exact ⟨rfl, kz⟩
set_option maxHeartbeats 1000000 in
theorem patches_n3 (x f t op d s r i : Int) (h3 : ¬ op = 3) (h5 : 5 ≤ op) (h10 : 10 < op) (e3 : (op == 3) = false) (e10 : decide (op ≤ 10) = false) (hr : ∀ w, Calls Tryd.prog 12 #[.int .u32 x] w fun e w' => e = .returned (.tuple #[wordV op d s r i, .bool true]) ∧ Below w.heap.size w w')
    (hg : ∀ w, Tabs w → Calls Tryd.prog 13 #[.int .u32 f, .int .u32 x] w fun e w' => e = .returned (.tuple #[.int .u32 0, .bool false]) ∧ Below w.heap.size w w')
    (hp : ∀ w, Tabs w → Calls Tryd.prog 14 #[.int .u32 x, .int .u32 f, .int .u32 t] w fun e w' => e = .returned (.tuple #[.int .u32 0, .int .i64 12]) ∧ Below w.heap.size w w')
    (w : World) (tabs : Tabs w) :
    Calls Tryd.prog 4 #[.int .u32 x, .int .u32 f, .int .u32 t] w fun e w' => e = .returned (.bool true) ∧ Below w.heap.size w w' := by
  go_enter Tryd.func4, Tryd.ntmps4
  go_wp2_with fail
  refine (kn_any _ tabs).mono ?_
  rintro e w1 ⟨rfl, b1⟩
  replace tabs := tabs.below b1
  go_wp2_with fail
  refine (hr _).mono ?_
  rintro e w2 ⟨rfl, b2⟩
  replace tabs := tabs.below b2
  replace b1 := b1.trans (b2.mono b1.size)
  clear b2
  have kz := b1.alloc b1.size (.cells #[.int .i64 op, .int .i64 d, .int .i64 s, .int .i64 r, .int .i32 i] 37)
  have tz := tabs.below ((Below.refl w2.heap.size w2).alloc (Nat.le_refl _) (.cells #[.int .i64 op, .int .i64 d, .int .i64 s, .int .i64 r, .int .i32 i] 37))
  go_wp2_with fail
  refine (hg _ tz).mono ?_
  rintro e w3 ⟨rfl, b3⟩
  have t3 := tz.below b3
  replace kz := kz.trans (b3.mono kz.size)
  go_wp2_with fail
  refine (hp _ t3).mono ?_
  rintro e w4 ⟨rfl, b4⟩
  replace kz := kz.trans (b4.mono kz.size)
  go_wp2_with fail
  go_ret
  exact ⟨rfl, kz⟩
set_option maxHeartbeats 1000000 in
theorem patches_j1y (x f t op d s r i E : Int)  (hr : ∀ w, Calls Tryd.prog 12 #[.int .u32 x] w fun e w' => e = .returned (.tuple #[wordV 3 d s r i, .bool true]) ∧ Below w.heap.size w w')
    (hg : ∀ w, Tabs w → Calls Tryd.prog 13 #[.int .u32 f, .int .u32 x] w fun e w' => e = .returned (.tuple #[.int .u32 ((f + i) % 4294967296), .bool true]) ∧ Below w.heap.size w w')
    (hp : ∀ w, Tabs w → Calls Tryd.prog 14 #[.int .u32 x, .int .u32 f, .int .u32 t] w fun e w' => e = .returned (.tuple #[.int .u32 E, .int .i64 0]) ∧ Below w.heap.size w w')
    (he : ∀ w, Calls Tryd.prog 15 #[wordV 3 d s r (wrap32 ((t - f) % 4294967296))] w fun e w' => e = .returned (.tuple #[.int .u32 E, .bool true]) ∧ Below w.heap.size w w') (hu : ∀ w, Tabs w → Calls Tryd.prog 13 #[.int .u32 f, .int .u32 E] w fun e w' => e = .returned (.tuple #[.int .u32 t, .bool true]) ∧ Below w.heap.size w w')
    (w : World) (tabs : Tabs w) :
    Calls Tryd.prog 4 #[.int .u32 x, .int .u32 f, .int .u32 t] w fun e w' => e = .returned (.bool true) ∧ Below w.heap.size w w' := by
  have tabs0 := tabs
  go_enter Tryd.func4, Tryd.ntmps4
  go_wp2_with fail
  refine (kn_any _ tabs).mono ?_
  rintro e w1 ⟨rfl, b1⟩
  replace tabs := tabs.below b1
  go_wp2_with fail
  refine (hr _).mono ?_
  rintro e w2 ⟨rfl, b2⟩
  replace tabs := tabs.below b2
  replace b1 := b1.trans (b2.mono b1.size)
  clear b2
  have kz := b1.alloc b1.size (.cells #[.int .i64 3, .int .i64 d, .int .i64 s, .int .i64 r, .int .i32 i] 37)
  have tz := tabs.below ((Below.refl w2.heap.size w2).alloc (Nat.le_refl _) (.cells #[.int .i64 3, .int .i64 d, .int .i64 s, .int .i64 r, .int .i32 i] 37))
  go_wp2_with fail
  refine (hg _ tz).mono ?_
  rintro e w3 ⟨rfl, b3⟩
  have t3 := tz.below b3
  have c0 : w3.cell? ⟨w2.heap.size, 0, none⟩ = some (.int .i64 3) := own_cell b3 0 _ rfl
  have c1 : w3.cell? ⟨w2.heap.size, 1, none⟩ = some (.int .i64 d) := own_cell b3 1 _ rfl
  have c2 : w3.cell? ⟨w2.heap.size, 2, none⟩ = some (.int .i64 s) := own_cell b3 2 _ rfl
  have c3 : w3.cell? ⟨w2.heap.size, 3, none⟩ = some (.int .i64 r) := own_cell b3 3 _ rfl
  have c4 : w3.cell? ⟨w2.heap.size, 4, none⟩ = some (.int .i32 i) := own_cell b3 4 _ rfl
  replace kz := kz.trans (b3.mono kz.size)
  go_wp2_with fail
  clear c0 c1 c2 c3 c4
  refine (hp _ t3).mono ?_
  rintro e w4 ⟨rfl, b4⟩
  have t4 := t3.below b4
  replace kz := kz.trans (b4.mono kz.size)
  replace b3 := b3.trans (b4.mono b3.size)
  have c0 : w4.cell? ⟨w2.heap.size, 0, none⟩ = some (.int .i64 3) := own_cell b3 0 _ rfl
  have c1 : w4.cell? ⟨w2.heap.size, 1, none⟩ = some (.int .i64 d) := own_cell b3 1 _ rfl
  have c2 : w4.cell? ⟨w2.heap.size, 2, none⟩ = some (.int .i64 s) := own_cell b3 2 _ rfl
  have c3 : w4.cell? ⟨w2.heap.size, 3, none⟩ = some (.int .i64 r) := own_cell b3 3 _ rfl
  have c4 : w4.cell? ⟨w2.heap.size, 4, none⟩ = some (.int .i32 i) := own_cell b3 4 _ rfl
  have p4 := own_frozen b3 4
  go_wp2_with fail
  have k5 := kz.setCell (p := ⟨w2.heap.size, 4, none⟩) b1.size (.int .i32 (wrap32 ((t - f) % 4294967296)))
  refine (he _).mono ?_
  rintro e w5 ⟨rfl, b5⟩
  replace k5 := k5.trans (b5.mono k5.size)
  have t5 := tabs0.below k5
  go_wp2_with fail
  refine (hu _ t5).mono ?_
  rintro e w6 ⟨rfl, b6⟩
  replace k5 := k5.trans (b6.mono k5.size)
  go_wp2_with fail
  go_ret
  exact ⟨rfl, k5⟩
set_option maxHeartbeats 1000000 in
theorem patches_j1f (x f t op d s r i E : Int)  (hr : ∀ w, Calls Tryd.prog 12 #[.int .u32 x] w fun e w' => e = .returned (.tuple #[wordV 3 d s r i, .bool true]) ∧ Below w.heap.size w w')
    (hg : ∀ w, Tabs w → Calls Tryd.prog 13 #[.int .u32 f, .int .u32 x] w fun e w' => e = .returned (.tuple #[.int .u32 ((f + i) % 4294967296), .bool true]) ∧ Below w.heap.size w w')
    (hp : ∀ w, Tabs w → Calls Tryd.prog 14 #[.int .u32 x, .int .u32 f, .int .u32 t] w fun e w' => e = .returned (.tuple #[.int .u32 0, .int .i64 50]) ∧ Below w.heap.size w w')
    (he : ∀ w, Calls Tryd.prog 15 #[wordV 3 d s r (wrap32 ((t - f) % 4294967296))] w fun e w' => e = .returned (.tuple #[.int .u32 0, .bool false]) ∧ Below w.heap.size w w')
    (w : World) (tabs : Tabs w) :
    Calls Tryd.prog 4 #[.int .u32 x, .int .u32 f, .int .u32 t] w fun e w' => e = .returned (.bool true) ∧ Below w.heap.size w w' := by
  have tabs0 := tabs
  go_enter Tryd.func4, Tryd.ntmps4
  go_wp2_with fail
  refine (kn_any _ tabs).mono ?_
  rintro e w1 ⟨rfl, b1⟩
  replace tabs := tabs.below b1
  go_wp2_with fail
  refine (hr _).mono ?_
  rintro e w2 ⟨rfl, b2⟩
  replace tabs := tabs.below b2
  replace b1 := b1.trans (b2.mono b1.size)
  clear b2
  have kz := b1.alloc b1.size (.cells #[.int .i64 3, .int .i64 d, .int .i64 s, .int .i64 r, .int .i32 i] 37)
  have tz := tabs.below ((Below.refl w2.heap.size w2).alloc (Nat.le_refl _) (.cells #[.int .i64 3, .int .i64 d, .int .i64 s, .int .i64 r, .int .i32 i] 37))
  go_wp2_with fail
  refine (hg _ tz).mono ?_
  rintro e w3 ⟨rfl, b3⟩
  have t3 := tz.below b3
  have c0 : w3.cell? ⟨w2.heap.size, 0, none⟩ = some (.int .i64 3) := own_cell b3 0 _ rfl
  have c1 : w3.cell? ⟨w2.heap.size, 1, none⟩ = some (.int .i64 d) := own_cell b3 1 _ rfl
  have c2 : w3.cell? ⟨w2.heap.size, 2, none⟩ = some (.int .i64 s) := own_cell b3 2 _ rfl
  have c3 : w3.cell? ⟨w2.heap.size, 3, none⟩ = some (.int .i64 r) := own_cell b3 3 _ rfl
  have c4 : w3.cell? ⟨w2.heap.size, 4, none⟩ = some (.int .i32 i) := own_cell b3 4 _ rfl
  replace kz := kz.trans (b3.mono kz.size)
  go_wp2_with fail
  clear c0 c1 c2 c3 c4
  refine (hp _ t3).mono ?_
  rintro e w4 ⟨rfl, b4⟩
  have t4 := t3.below b4
  replace kz := kz.trans (b4.mono kz.size)
  replace b3 := b3.trans (b4.mono b3.size)
  have c0 : w4.cell? ⟨w2.heap.size, 0, none⟩ = some (.int .i64 3) := own_cell b3 0 _ rfl
  have c1 : w4.cell? ⟨w2.heap.size, 1, none⟩ = some (.int .i64 d) := own_cell b3 1 _ rfl
  have c2 : w4.cell? ⟨w2.heap.size, 2, none⟩ = some (.int .i64 s) := own_cell b3 2 _ rfl
  have c3 : w4.cell? ⟨w2.heap.size, 3, none⟩ = some (.int .i64 r) := own_cell b3 3 _ rfl
  have c4 : w4.cell? ⟨w2.heap.size, 4, none⟩ = some (.int .i32 i) := own_cell b3 4 _ rfl
  have p4 := own_frozen b3 4
  go_wp2_with fail
  have k5 := kz.setCell (p := ⟨w2.heap.size, 4, none⟩) b1.size (.int .i32 (wrap32 ((t - f) % 4294967296)))
  refine (he _).mono ?_
  rintro e w5 ⟨rfl, b5⟩
  replace k5 := k5.trans (b5.mono k5.size)
  go_wp2_with fail
  go_ret
  exact ⟨rfl, k5⟩
set_option maxHeartbeats 1000000 in
theorem patches_j2y (x f t op d s r i E : Int) (h3 : ¬ op = 3) (h5 : 5 ≤ op) (h10 : op ≤ 10) (hr : ∀ w, Calls Tryd.prog 12 #[.int .u32 x] w fun e w' => e = .returned (.tuple #[wordV op d s r i, .bool true]) ∧ Below w.heap.size w w')
    (hg : ∀ w, Tabs w → Calls Tryd.prog 13 #[.int .u32 f, .int .u32 x] w fun e w' => e = .returned (.tuple #[.int .u32 ((f + i) % 4294967296), .bool true]) ∧ Below w.heap.size w w')
    (hp : ∀ w, Tabs w → Calls Tryd.prog 14 #[.int .u32 x, .int .u32 f, .int .u32 t] w fun e w' => e = .returned (.tuple #[.int .u32 E, .int .i64 0]) ∧ Below w.heap.size w w')
    (he : ∀ w, Calls Tryd.prog 15 #[wordV op d s r (wrap32 ((t - f) % 4294967296))] w fun e w' => e = .returned (.tuple #[.int .u32 E, .bool true]) ∧ Below w.heap.size w w') (hu : ∀ w, Tabs w → Calls Tryd.prog 13 #[.int .u32 f, .int .u32 E] w fun e w' => e = .returned (.tuple #[.int .u32 t, .bool true]) ∧ Below w.heap.size w w')
    (w : World) (tabs : Tabs w) :
    Calls Tryd.prog 4 #[.int .u32 x, .int .u32 f, .int .u32 t] w fun e w' => e = .returned (.bool true) ∧ Below w.heap.size w w' := by
  have tabs0 := tabs
  go_enter Tryd.func4, Tryd.ntmps4
  go_wp2_with fail
  refine (kn_any _ tabs).mono ?_
  rintro e w1 ⟨rfl, b1⟩
  replace tabs := tabs.below b1
  go_wp2_with fail
  refine (hr _).mono ?_
  rintro e w2 ⟨rfl, b2⟩
  replace tabs := tabs.below b2
  replace b1 := b1.trans (b2.mono b1.size)
  clear b2
  have kz := b1.alloc b1.size (.cells #[.int .i64 op, .int .i64 d, .int .i64 s, .int .i64 r, .int .i32 i] 37)
  have tz := tabs.below ((Below.refl w2.heap.size w2).alloc (Nat.le_refl _) (.cells #[.int .i64 op, .int .i64 d, .int .i64 s, .int .i64 r, .int .i32 i] 37))
  go_wp2_with fail
  refine (hg _ tz).mono ?_
  rintro e w3 ⟨rfl, b3⟩
  have t3 := tz.below b3
  have c0 : w3.cell? ⟨w2.heap.size, 0, none⟩ = some (.int .i64 op) := own_cell b3 0 _ rfl
  have c1 : w3.cell? ⟨w2.heap.size, 1, none⟩ = some (.int .i64 d) := own_cell b3 1 _ rfl
  have c2 : w3.cell? ⟨w2.heap.size, 2, none⟩ = some (.int .i64 s) := own_cell b3 2 _ rfl
  have c3 : w3.cell? ⟨w2.heap.size, 3, none⟩ = some (.int .i64 r) := own_cell b3 3 _ rfl
  have c4 : w3.cell? ⟨w2.heap.size, 4, none⟩ = some (.int .i32 i) := own_cell b3 4 _ rfl
  replace kz := kz.trans (b3.mono kz.size)
  go_wp2_with fail
  clear c0 c1 c2 c3 c4
  refine (hp _ t3).mono ?_
  rintro e w4 ⟨rfl, b4⟩
  have t4 := t3.below b4
  replace kz := kz.trans (b4.mono kz.size)
  replace b3 := b3.trans (b4.mono b3.size)
  have c0 : w4.cell? ⟨w2.heap.size, 0, none⟩ = some (.int .i64 op) := own_cell b3 0 _ rfl
  have c1 : w4.cell? ⟨w2.heap.size, 1, none⟩ = some (.int .i64 d) := own_cell b3 1 _ rfl
  have c2 : w4.cell? ⟨w2.heap.size, 2, none⟩ = some (.int .i64 s) := own_cell b3 2 _ rfl
  have c3 : w4.cell? ⟨w2.heap.size, 3, none⟩ = some (.int .i64 r) := own_cell b3 3 _ rfl
  have c4 : w4.cell? ⟨w2.heap.size, 4, none⟩ = some (.int .i32 i) := own_cell b3 4 _ rfl
  have p4 := own_frozen b3 4
  go_wp2_with fail
  have k5 := kz.setCell (p := ⟨w2.heap.size, 4, none⟩) b1.size (.int .i32 (wrap32 ((t - f) % 4294967296)))
  refine (he _).mono ?_
  rintro e w5 ⟨rfl, b5⟩
  replace k5 := k5.trans (b5.mono k5.size)
  have t5 := tabs0.below k5
  go_wp2_with fail
  refine (hu _ t5).mono ?_
  rintro e w6 ⟨rfl, b6⟩
  replace k5 := k5.trans (b6.mono k5.size)
  go_wp2_with fail
  go_ret
  exact ⟨rfl, k5⟩
set_option maxHeartbeats 1000000 in
theorem patches_j2f (x f t op d s r i E : Int) (h3 : ¬ op = 3) (h5 : 5 ≤ op) (h10 : op ≤ 10) (hr : ∀ w, Calls Tryd.prog 12 #[.int .u32 x] w fun e w' => e = .returned (.tuple #[wordV op d s r i, .bool true]) ∧ Below w.heap.size w w')
    (hg : ∀ w, Tabs w → Calls Tryd.prog 13 #[.int .u32 f, .int .u32 x] w fun e w' => e = .returned (.tuple #[.int .u32 ((f + i) % 4294967296), .bool true]) ∧ Below w.heap.size w w')
    (hp : ∀ w, Tabs w → Calls Tryd.prog 14 #[.int .u32 x, .int .u32 f, .int .u32 t] w fun e w' => e = .returned (.tuple #[.int .u32 0, .int .i64 50]) ∧ Below w.heap.size w w')
    (he : ∀ w, Calls Tryd.prog 15 #[wordV op d s r (wrap32 ((t - f) % 4294967296))] w fun e w' => e = .returned (.tuple #[.int .u32 0, .bool false]) ∧ Below w.heap.size w w')
    (w : World) (tabs : Tabs w) :
    Calls Tryd.prog 4 #[.int .u32 x, .int .u32 f, .int .u32 t] w fun e w' => e = .returned (.bool true) ∧ Below w.heap.size w w' := by
  have tabs0 := tabs
  go_enter Tryd.func4, Tryd.ntmps4
  go_wp2_with fail
  refine (kn_any _ tabs).mono ?_
  rintro e w1 ⟨rfl, b1⟩
  replace tabs := tabs.below b1
  go_wp2_with fail
  refine (hr _).mono ?_
  rintro e w2 ⟨rfl, b2⟩
  replace tabs := tabs.below b2
  replace b1 := b1.trans (b2.mono b1.size)
  clear b2
  have kz := b1.alloc b1.size (.cells #[.int .i64 op, .int .i64 d, .int .i64 s, .int .i64 r, .int .i32 i] 37)
  have tz := tabs.below ((Below.refl w2.heap.size w2).alloc (Nat.le_refl _) (.cells #[.int .i64 op, .int .i64 d, .int .i64 s, .int .i64 r, .int .i32 i] 37))
  go_wp2_with fail
  refine (hg _ tz).mono ?_
  rintro e w3 ⟨rfl, b3⟩
  have t3 := tz.below b3
  have c0 : w3.cell? ⟨w2.heap.size, 0, none⟩ = some (.int .i64 op) := own_cell b3 0 _ rfl
  have c1 : w3.cell? ⟨w2.heap.size, 1, none⟩ = some (.int .i64 d) := own_cell b3 1 _ rfl
  have c2 : w3.cell? ⟨w2.heap.size, 2, none⟩ = some (.int .i64 s) := own_cell b3 2 _ rfl
  have c3 : w3.cell? ⟨w2.heap.size, 3, none⟩ = some (.int .i64 r) := own_cell b3 3 _ rfl
  have c4 : w3.cell? ⟨w2.heap.size, 4, none⟩ = some (.int .i32 i) := own_cell b3 4 _ rfl
  replace kz := kz.trans (b3.mono kz.size)
  go_wp2_with fail
  clear c0 c1 c2 c3 c4
  refine (hp _ t3).mono ?_
  rintro e w4 ⟨rfl, b4⟩
  have t4 := t3.below b4
  replace kz := kz.trans (b4.mono kz.size)
  replace b3 := b3.trans (b4.mono b3.size)
  have c0 : w4.cell? ⟨w2.heap.size, 0, none⟩ = some (.int .i64 op) := own_cell b3 0 _ rfl
  have c1 : w4.cell? ⟨w2.heap.size, 1, none⟩ = some (.int .i64 d) := own_cell b3 1 _ rfl
  have c2 : w4.cell? ⟨w2.heap.size, 2, none⟩ = some (.int .i64 s) := own_cell b3 2 _ rfl
  have c3 : w4.cell? ⟨w2.heap.size, 3, none⟩ = some (.int .i64 r) := own_cell b3 3 _ rfl
  have c4 : w4.cell? ⟨w2.heap.size, 4, none⟩ = some (.int .i32 i) := own_cell b3 4 _ rfl
  have p4 := own_frozen b3 4
  go_wp2_with fail
  have k5 := kz.setCell (p := ⟨w2.heap.size, 4, none⟩) b1.size (.int .i32 (wrap32 ((t - f) % 4294967296)))
  refine (he _).mono ?_
  rintro e w5 ⟨rfl, b5⟩
  replace k5 := k5.trans (b5.mono k5.size)
  go_wp2_with fail
  go_ret
  exact ⟨rfl, k5⟩
theorem patches_walk (x f t : Int) (hx : 0 ≤ x ∧ x ≤ 4294967295) (hf : 0 ≤ f ∧ f ≤ 4294967295) (ht : 0 ≤ t ∧ t ≤ 4294967295) (w : World) (tabs : Tabs w) :
    Calls Tryd.prog 4 #[.int .u32 x, .int .u32 f, .int .u32 t] w fun e w' => e = .returned (.bool true) ∧ Below w.heap.size w w' := by
  obtain ⟨op, d, s, r, i, b, ho⟩ := wordO_some x (decL x)
  have hr := fun w => rdec_any x hx w
  rw [ho] at hr
  cases hB : b && jpB op with
  | false =>
    have hg := fun w tb => tgt_no f x hx op d s r i b ho hB w tb
    have hp := fun w tb => patch_no x f t hx op d s r i b ho hB w tb
    cases b with
    | false => exact patches_n1 x f t op d s r i hr hg hp w tabs
    | true =>
      have h3 : ¬ op = 3 := fun e => by subst e; exact absurd hB (by decide)
      have hb : brB op = false := by simpa [jpB, h3] using hB
      unfold brB at hb
      by_cases h5 : op < 5
      · exact patches_n2 x f t op d s r i h3 h5 hr hg hp w tabs
      · exact patches_n3 x f t op d s r i h3 (by omega) (by simp at hb; omega) (by simpa using h3) (by simp at hb; simp; omega) hr hg hp w tabs
  | true =>
    have hb : b = true := by cases b; exact absurd hB (by simp); rfl
    subst hb
    have hj : jpB op = true := by simpa using hB
    have hg := fun w tb => tgt_yes f x hx op d s r i ((f + i) % 4294967296) true ho hB (by omega) w tb
    have he := fun w => rEnc_any op d s r (wrap32 ((t - f) % 4294967296)) (by unfold wrap32; omega) w
    have hc : op = 3 ∨ (¬ op = 3 ∧ 5 ≤ op ∧ op ≤ 10) := by
      by_cases h3 : op = 3
      · exact .inl h3
      · have : brB op = true := by simpa [jpB, h3] using hj
        unfold brB at this
        simp at this
        exact .inr ⟨h3, by omega, by omega⟩
    cases hl : isL op d s r (wrap32 ((t - f) % 4294967296)) with
    | false =>
      have hp := fun w tb => patch_far x f t _ hx rfl op d s r i true ho hB hl w tb
      rw [hl, if_neg (by decide)] at he
      rcases hc with rfl | ⟨h3, h5, h10⟩
      · exact patches_j1f x f t 3 d s r i 0 hr hg hp he w tabs
      · exact patches_j2f x f t op d s r i 0 h3 h5 h10 hr hg hp he w tabs
    | true =>
      have hp := fun w tb => patch_yes x f t _ hx rfl op d s r i true ho hB hl w tb
      rw [hl, if_pos rfl] at he
      have hu := fun w tb => tgt_yes f _ (enc_bd hl) op d s r _ t true (dec_enc hl) hB (by rw [far_wrap]; omega) w tb
      rcases hc with rfl | ⟨h3, h5, h10⟩
      · exact patches_j1y x f t 3 d s r i _ hr hg hp he hu w tabs
      · exact patches_j2y x f t op d s r i _ h3 h5 h10 hr hg hp he hu w tabs
end Go.Proofs.YtbalnlodkiejcaaDoor
