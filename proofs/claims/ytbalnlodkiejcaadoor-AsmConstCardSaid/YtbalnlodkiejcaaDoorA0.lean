/- Package asm: its small calls. -/
import Derived.Test.YtbalnlodkiejcaaDoorM1
import Derived.Test.YtbalnlodkiejcaaDoorB3
import Derived.Lib.Hide
import Derived.Deep.RegionHeld3
import Derived.Deep.RegionWith
import Derived.StillTailTactics
namespace Go.Proofs.YtbalnlodkiejcaaDoor
open Go.RowKit
set_option linter.unusedVariables false
set_option linter.unusedSimpArgs false
set_option linter.unusedSectionVars false

/-- A register that keeps what it is set to. -/
def setB (i : Int) : Bool := decide (1 ≤ i) && decide (i ≤ 31)
/-- A branch. -/
def brB (op : Int) : Bool := decide (5 ≤ op) && decide (op ≤ 10)
/-- A jump or a branch. -/
def jpB (op : Int) : Bool := decide (op = 3) || brB op
def loL (v : Int) : Int := sgn 12 v
def hiL (v : Int) : Int := wrap32 (wrap32 v - sgn 12 v)
theorem loL_is (v : Int) : loL v = (v + 2048) % 4096 - 2048 := by
  show wrap32 (v * 1048576 % 4294967296) / 1048576 = _
  unfold wrap32
  omega
theorem loL_bd (v : Int) : -2048 ≤ loL v ∧ loL v ≤ 2047 := by rw [loL_is]; omega
theorem hiL_is (v : Int) : hiL v = wrap32 (v - loL v) := wrap32_mod _ _ (by have := mod32_wrap v; unfold loL; omega)
theorem hiL_bd (v : Int) : -2147483648 ≤ hiL v ∧ hiL v ≤ 2147483647 := bd32 _
theorem hiL_low (v : Int) : hiL v % 4096 = 0 := by
  rw [hiL_is, loL_is]
  unfold wrap32
  omega
theorem canSet_any (i : Int) (w : World) : Calls Tryd.prog 18 #[.int .i64 i] w fun e w' => e = .returned (.bool (setB i)) ∧ w = w' := by
  go_enter Tryd.func18, Tryd.ntmps18
  go_wp2
  all_goals go_ret
  all_goals refine ⟨ret_bool ?_, rfl⟩
  all_goals unfold setB
  all_goals (simp_all <;> omega)
theorem branch_any (op : Int) (w : World) : Calls Tryd.prog 42 #[.int .i64 op] w fun e w' => e = .returned (.bool (brB op)) ∧ w = w' := by
  go_enter Tryd.func42, Tryd.ntmps42
  go_wp2
  all_goals go_ret
  all_goals refine ⟨ret_bool ?_, rfl⟩
  all_goals unfold brB
  all_goals (simp_all <;> omega)
theorem asm_halves (v : Int) (h : 0 ≤ v ∧ v ≤ 4294967295) (w : World) : Calls Tryd.prog 19 #[.int .u32 v] w fun e w' => e = .returned (.tuple #[.int .i32 (hiL v), .int .i32 (loL v)]) ∧ w = w' := by
  go_enter Tryd.func19, Tryd.ntmps19
  go_wp2_with fail
  refine (signed_any v 12 h _).mono ?_
  rintro e w' ⟨rfl, rfl⟩
  have hh : held 12 = 12 := rfl
  rw [hh]
  go_wp2
  go_ret2
  exact ⟨rfl, rfl⟩
/-- The bits of what is a word. -/
theorem encoded_any (op d s t i x : Int) (hl : isL op d s t i = true) (he : encL op d s t i = x) (w : World) (tabs : Tabs w) :
    Calls Tryd.prog 20 #[wordV op d s t i] w fun e w' => e = .returned (.int .u32 x) ∧ Below w.heap.size w w' := by
  subst he
  go_enter Tryd.func20, Tryd.ntmps20
  go_wp2_with fail
  refine (enc_true hl _ (tabs.below ((Below.refl w.heap.size w).alloc (Nat.le_refl _) _))).mono ?_
  rintro e w1 ⟨rfl, b1⟩
  have hb := ((Below.refl w.heap.size w).alloc (Nat.le_refl _) _).trans (b1.mono (by simp))
  go_wp2_with fail
  go_ret
  exact ⟨rfl, hb⟩
set_option maxHeartbeats 4000000 in
/-- The word that a jump or a branch is. -/
theorem jumping_any (x : Int) (hx : 0 ≤ x ∧ x ≤ 4294967295) (op d s t i : Int) (b : Bool) (ho : wordO x (decL x) = .tuple #[wordV op d s t i, .bool b]) (w : World) (tabs : Tabs w) :
    Calls Tryd.prog 31 #[.int .u32 x] w fun e w' => e = .returned (.tuple #[wordV op d s t i, .bool (b && jpB op)]) ∧ Below w.heap.size w w' := by
  have hd := fun w t => dec_any x hx w t
  rw [ho] at hd
  clear ho
  have tb := fun o => tabs.below ((Below.refl w.heap.size w).alloc (Nat.le_refl _) o)
  go_enter Tryd.func31, Tryd.ntmps31
  go_wp2_with fail
  refine (hd _ (tb _)).mono ?_
  rintro e w1 ⟨rfl, b1⟩
  have kb := ((Below.refl w.heap.size w).alloc (Nat.le_refl _) _).trans (b1.mono (by simp))
  go_wp2_with fail
  have k0 : (w1.alloc (.cells #[.int .i64 op, .int .i64 d, .int .i64 s, .int .i64 t, .int .i32 i] 37)).cell? ⟨w1.heap.size, 0, none⟩ = some (.int .i64 op) := by simp
  have bz := b1.alloc b1.size (.cells #[.int .i64 op, .int .i64 d, .int .i64 s, .int .i64 t, .int .i32 i] 37)
  have q0 := own_cell bz 0 _ rfl
  have q1 := own_cell bz 1 _ rfl
  have q2 := own_cell bz 2 _ rfl
  have q3 := own_cell bz 3 _ rfl
  have q4 := own_cell bz 4 _ rfl
  have p0 := own_frozen bz 0
  have p1 := own_frozen bz 1
  have p2 := own_frozen bz 2
  have p3 := own_frozen bz 3
  have p4 := own_frozen bz 4
  cases b
  · go_region
    go_wp2_with fail
    all_goals
    (obtain ⟨s0, s1, s2, s3, s4⟩ := set5 _ w.heap.size _ _ _ _ _ (.int .i64 op) (.int .i64 d) (.int .i64 s) (.int .i64 t) (.int .i32 i) q0 q1 q2 q3 q4 _ rfl
     (try simp only [Exit.inBlock, Exit.then]); refine bodyPost_ret (v := .tuple #[wordV op d s t i, .bool (false)]) (by simp [results, Tryd.results31, go_sem, s0, s1, s2, s3, s4]) rfl ?_
     exact ⟨by simp [jpB, *], ((((((kb.alloc kb.size _).setCell (Nat.le_refl _) _).setCell (Nat.le_refl _) _).setCell (Nat.le_refl _) _).setCell (Nat.le_refl _) _).setCell (Nat.le_refl _) _).drew⟩)
  · by_cases h3 : op = 3
    · subst h3
      go_region
      go_wp2_with fail
      all_goals
      (obtain ⟨s0, s1, s2, s3, s4⟩ := set5 _ w.heap.size _ _ _ _ _ (.int .i64 3) (.int .i64 d) (.int .i64 s) (.int .i64 t) (.int .i32 i) q0 q1 q2 q3 q4 _ rfl
       (try simp only [Exit.inBlock, Exit.then]); refine bodyPost_ret (v := .tuple #[wordV 3 d s t i, .bool (true)]) (by simp [results, Tryd.results31, go_sem, s0, s1, s2, s3, s4]) rfl ?_
       exact ⟨by simp [jpB, *], ((((((kb.alloc kb.size _).setCell (Nat.le_refl _) _).setCell (Nat.le_refl _) _).setCell (Nat.le_refl _) _).setCell (Nat.le_refl _) _).setCell (Nat.le_refl _) _).drew⟩)
    · have e3 : (op == 3) = false := by simp [h3]
      have hb := fun w => branch_any op w
      go_region_with (go_at_call 42; refine (hb _).mono ?_; rintro e w' ⟨rfl, rfl⟩)
      all_goals go_wp2_with fail
      all_goals
      (obtain ⟨s0, s1, s2, s3, s4⟩ := set5 _ w.heap.size _ _ _ _ _ (.int .i64 op) (.int .i64 d) (.int .i64 s) (.int .i64 t) (.int .i32 i) q0 q1 q2 q3 q4 _ rfl
       (try simp only [Exit.inBlock, Exit.then]); refine bodyPost_ret (v := .tuple #[wordV op d s t i, .bool (brB op)]) (by simp [results, Tryd.results31, go_sem, s0, s1, s2, s3, s4]) rfl ?_
       exact ⟨by simp [jpB, *], ((((((kb.alloc kb.size _).setCell (Nat.le_refl _) _).setCell (Nat.le_refl _) _).setCell (Nat.le_refl _) _).setCell (Nat.le_refl _) _).setCell (Nat.le_refl _) _).drew⟩)
/-- A jump or a branch at f as it goes to t. -/
theorem aimed_any (op d s r i f t n : Int) (hn : wrap32 ((t - f) % 4294967296) = n) (w : World) (tabs : Tabs w) :
    Calls Tryd.prog 32 #[wordV op d s r i, .int .u32 f, .int .u32 t] w fun e w' => e = .returned (.tuple #[.int .u32 (if isL op d s r n = true then encL op d s r n else 0), .bool (isL op d s r n)]) ∧ Below w.heap.size w w' := by
  have tb := fun o => tabs.below ((Below.refl w.heap.size w).alloc (Nat.le_refl _) o)
  have kb := fun o => (Below.refl w.heap.size w).alloc (Nat.le_refl _) o
  cases hl : isL op d s r n with
  | false =>
    have he := fun w t => enc_false hl w t
    subst hn
    go_enter Tryd.func32, Tryd.ntmps32
    go_wp2_with fail
    refine (he _ (tb _)).mono ?_
    rintro e w1 ⟨rfl, b1⟩
    have k := (kb _).trans (b1.mono (by simp))
    go_wp2_with fail
    go_ret2
    exact ⟨rfl, k⟩
  | true =>
    have he := fun w t => enc_true hl w t
    subst hn
    go_enter Tryd.func32, Tryd.ntmps32
    go_wp2_with fail
    refine (he _ (tb _)).mono ?_
    rintro e w1 ⟨rfl, b1⟩
    have k := (kb _).trans (b1.mono (by simp))
    go_wp2_with fail
    go_ret2
    exact ⟨rfl, k⟩
end Go.Proofs.YtbalnlodkiejcaaDoor
