/- Package asm: jumps, where they go, another target. -/
import Derived.Test.YtbalnlodkiejcaaDoorA0
namespace Go.Proofs.YtbalnlodkiejcaaDoor
open Go.RowKit
set_option linter.unusedVariables false
set_option linter.unusedSimpArgs false
set_option linter.unusedSectionVars false

theorem aimed_yes (op d s r i f t n : Int) (hn : wrap32 ((t - f) % 4294967296) = n) (hl : isL op d s r n = true) (w : World) (tabs : Tabs w) :
    Calls Tryd.prog 32 #[wordV op d s r i, .int .u32 f, .int .u32 t] w fun e w' => e = .returned (.tuple #[.int .u32 (encL op d s r n), .bool true]) ∧ Below w.heap.size w w' := by
  have h := aimed_any op d s r i f t n hn w tabs
  rw [hl, if_pos rfl] at h
  exact h
theorem aimed_no (op d s r i f t n : Int) (hn : wrap32 ((t - f) % 4294967296) = n) (hl : isL op d s r n = false) (w : World) (tabs : Tabs w) :
    Calls Tryd.prog 32 #[wordV op d s r i, .int .u32 f, .int .u32 t] w fun e w' => e = .returned (.tuple #[.int .u32 0, .bool false]) ∧ Below w.heap.size w w' := by
  have h := aimed_any op d s r i f t n hn w tabs
  rw [hl, if_neg (by decide)] at h
  exact h
/-- A jump: J its bits, or 0. -/
theorem jmp_any (f t J : Int) (B : Bool) (ha : ∀ w, Tabs w → Calls Tryd.prog 32 #[wordV 3 0 0 0 0, .int .u32 f, .int .u32 t] w fun e w' => e = .returned (.tuple #[.int .u32 J, .bool B]) ∧ Below w.heap.size w w') (w : World) (tabs : Tabs w) :
    Calls Tryd.prog 16 #[.int .u32 f, .int .u32 t] w fun e w' => e = .returned (.tuple #[.int .u32 J, .bool B]) ∧ Below w.heap.size w w' := by
  go_enter Tryd.func16, Tryd.ntmps16
  go_wp2_with fail
  refine (ha _ tabs).mono ?_
  rintro e w1 ⟨rfl, b1⟩
  go_wp2_with fail
  go_ret2
  exact ⟨rfl, b1⟩
theorem jmp_yes (f t n : Int) (hn : wrap32 ((t - f) % 4294967296) = n) (hl : isL 3 0 0 0 n = true) (w : World) (tabs : Tabs w) :
    Calls Tryd.prog 16 #[.int .u32 f, .int .u32 t] w fun e w' => e = .returned (.tuple #[.int .u32 (encL 3 0 0 0 n), .bool true]) ∧ Below w.heap.size w w' :=
  jmp_any f t _ _ (fun w tb => aimed_yes 3 0 0 0 0 f t n hn hl w tb) w tabs
theorem jmp_no (f t n : Int) (hn : wrap32 ((t - f) % 4294967296) = n) (hl : isL 3 0 0 0 n = false) (w : World) (tabs : Tabs w) :
    Calls Tryd.prog 16 #[.int .u32 f, .int .u32 t] w fun e w' => e = .returned (.tuple #[.int .u32 0, .bool false]) ∧ Below w.heap.size w w' :=
  jmp_any f t _ _ (fun w tb => aimed_no 3 0 0 0 0 f t n hn hl w tb) w tabs
/-- Where a jump or a branch goes. -/
theorem tgt_yes (f x : Int) (hx : 0 ≤ x ∧ x ≤ 4294967295) (op d s t i g : Int) (b : Bool) (ho : wordO x (decL x) = .tuple #[wordV op d s t i, .bool b]) (hB : (b && jpB op) = true) (hg : (f + i % 4294967296) % 4294967296 = g) (w : World) (tabs : Tabs w) :
    Calls Tryd.prog 13 #[.int .u32 f, .int .u32 x] w fun e w' => e = .returned (.tuple #[.int .u32 g, .bool true]) ∧ Below w.heap.size w w' := by
  have hj := fun w tb => jumping_any x hx op d s t i b ho w tb
  rw [hB] at hj
  clear ho hB
  subst hg
  go_enter Tryd.func13, Tryd.ntmps13
  go_wp2_with fail
  refine (hj _ tabs).mono ?_
  rintro e w1 ⟨rfl, b1⟩
  have k := fun o => b1.alloc b1.size o
  go_wp2_with fail
  go_ret2
  exact ⟨rfl, k _⟩
theorem tgt_no (f x : Int) (hx : 0 ≤ x ∧ x ≤ 4294967295) (op d s t i : Int) (b : Bool) (ho : wordO x (decL x) = .tuple #[wordV op d s t i, .bool b]) (hB : (b && jpB op) = false) (w : World) (tabs : Tabs w) :
    Calls Tryd.prog 13 #[.int .u32 f, .int .u32 x] w fun e w' => e = .returned (.tuple #[.int .u32 0, .bool false]) ∧ Below w.heap.size w w' := by
  have hj := fun w tb => jumping_any x hx op d s t i b ho w tb
  rw [hB] at hj
  clear ho hB
  go_enter Tryd.func13, Tryd.ntmps13
  go_wp2_with fail
  refine (hj _ tabs).mono ?_
  rintro e w1 ⟨rfl, b1⟩
  have k := fun o => b1.alloc b1.size o
  go_wp2_with fail
  go_ret2
  exact ⟨rfl, k _⟩
/-- With another target. -/
theorem patch_no (x f g : Int) (hx : 0 ≤ x ∧ x ≤ 4294967295) (op d s t i : Int) (b : Bool) (ho : wordO x (decL x) = .tuple #[wordV op d s t i, .bool b]) (hB : (b && jpB op) = false) (w : World) (tabs : Tabs w) :
    Calls Tryd.prog 14 #[.int .u32 x, .int .u32 f, .int .u32 g] w fun e w' => e = .returned (.tuple #[.int .u32 0, .int .i64 12]) ∧ Below w.heap.size w w' := by
  have hj := fun w tb => jumping_any x hx op d s t i b ho w tb
  rw [hB] at hj
  clear ho hB
  go_enter Tryd.func14, Tryd.ntmps14
  go_wp2_with fail
  refine (hj _ tabs).mono ?_
  rintro e w1 ⟨rfl, b1⟩
  have k := fun o => b1.alloc b1.size o
  go_wp2_with fail
  go_ret2
  exact ⟨rfl, k _⟩
theorem patch_core (x f g E N : Int) (L : Bool) (hx : 0 ≤ x ∧ x ≤ 4294967295) (op d s t i : Int) (b : Bool) (ho : wordO x (decL x) = .tuple #[wordV op d s t i, .bool b]) (hB : (b && jpB op) = true)
    (ha : ∀ w, Tabs w → Calls Tryd.prog 32 #[wordV op d s t i, .int .u32 f, .int .u32 g] w fun e w' => e = .returned (.tuple #[.int .u32 E, .bool L]) ∧ Below w.heap.size w w')
    (hL : (if L = true then E = E ∧ N = 0 else E = 0 ∧ N = 50)) (w : World) (tabs : Tabs w) :
    Calls Tryd.prog 14 #[.int .u32 x, .int .u32 f, .int .u32 g] w fun e w' => e = .returned (.tuple #[.int .u32 E, .int .i64 N]) ∧ Below w.heap.size w w' := by
  have hj := fun w tb => jumping_any x hx op d s t i b ho w tb
  rw [hB] at hj
  clear ho hB
  cases L
  · simp at hL
    obtain ⟨rfl, rfl⟩ := hL
    go_enter Tryd.func14, Tryd.ntmps14
    go_wp2_with fail
    refine (hj _ tabs).mono ?_
    rintro e w1 ⟨rfl, b1⟩
    have k := fun o => b1.alloc b1.size o
    have tb := fun o => tabs.below (k o)
    go_wp2_with fail
    refine (ha _ (tb _)).mono ?_
    rintro e w2 ⟨rfl, b2⟩
    have k2 := (k _).trans (b2.mono (k _).size)
    go_wp2_with fail
    go_ret2
    exact ⟨rfl, k2⟩
  · simp at hL
    subst hL
    go_enter Tryd.func14, Tryd.ntmps14
    go_wp2_with fail
    refine (hj _ tabs).mono ?_
    rintro e w1 ⟨rfl, b1⟩
    have k := fun o => b1.alloc b1.size o
    have tb := fun o => tabs.below (k o)
    go_wp2_with fail
    refine (ha _ (tb _)).mono ?_
    rintro e w2 ⟨rfl, b2⟩
    have k2 := (k _).trans (b2.mono (k _).size)
    go_wp2_with fail
    go_ret2
    exact ⟨rfl, k2⟩
theorem patch_yes (x f g n : Int) (hx : 0 ≤ x ∧ x ≤ 4294967295) (hn : wrap32 ((g - f) % 4294967296) = n) (op d s t i : Int) (b : Bool) (ho : wordO x (decL x) = .tuple #[wordV op d s t i, .bool b]) (hB : (b && jpB op) = true) (hl : isL op d s t n = true) (w : World) (tabs : Tabs w) :
    Calls Tryd.prog 14 #[.int .u32 x, .int .u32 f, .int .u32 g] w fun e w' => e = .returned (.tuple #[.int .u32 (encL op d s t n), .int .i64 0]) ∧ Below w.heap.size w w' :=
  patch_core x f g _ _ true hx op d s t i b ho hB (fun w tb => aimed_yes op d s t i f g n hn hl w tb) (by simp) w tabs
theorem patch_far (x f g n : Int) (hx : 0 ≤ x ∧ x ≤ 4294967295) (hn : wrap32 ((g - f) % 4294967296) = n) (op d s t i : Int) (b : Bool) (ho : wordO x (decL x) = .tuple #[wordV op d s t i, .bool b]) (hB : (b && jpB op) = true) (hl : isL op d s t n = false) (w : World) (tabs : Tabs w) :
    Calls Tryd.prog 14 #[.int .u32 x, .int .u32 f, .int .u32 g] w fun e w' => e = .returned (.tuple #[.int .u32 0, .int .i64 50]) ∧ Below w.heap.size w w' :=
  patch_core x f g _ _ false hx op d s t i b ho hB (fun w tb => aimed_no op d s t i f g n hn hl w tb) (by simp) w tabs
end Go.Proofs.YtbalnlodkiejcaaDoor
