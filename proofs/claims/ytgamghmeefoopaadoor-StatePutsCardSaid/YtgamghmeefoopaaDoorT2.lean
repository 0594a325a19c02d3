/- Words as a state. -/
import Derived.Test.YtgamghmeefoopaaDoorT1
namespace Go.Proofs.YtgamghmeefoopaaDoor
open Go.RowKit
set_option linter.unusedVariables false
set_option linter.unusedSimpArgs false
set_option linter.unusedSectionVars false

set_option maxRecDepth 4000 in
theorem copy_unpacked (l : Nat → Int) (w : World) : (Builtin.copy_ #[77, 77] 3 #[.slice (some ⟨w.heap.size + 1 + 1, 0, none⟩) 8 8, .slice (some ⟨w.heap.size, 0, none⟩) 18 18]).run Tryd.prog
    ((((w.alloc (.cells #[Value.int IntKind.u32 (l 0), Value.int IntKind.u32 (l 1), Value.int IntKind.u32 (l 2), Value.int IntKind.u32 (l 3), Value.int IntKind.u32 (l 4), Value.int IntKind.u32 (l 5), Value.int IntKind.u32 (l 6), Value.int IntKind.u32 (l 7), Value.int IntKind.u32 (l 8), Value.int IntKind.u32 (l 9), Value.int IntKind.u32 (l 10), Value.int IntKind.u32 (l 11), Value.int IntKind.u32 (l 12), Value.int IntKind.u32 (l 13), Value.int IntKind.u32 (l 14), Value.int IntKind.u32 (l 15), Value.int IntKind.u32 (l 16), Value.int IntKind.u32 (l 17)] 72)).alloc (.cells #[Value.int IntKind.u32 0, Value.int IntKind.u32 0, Value.int IntKind.u32 0, Value.int IntKind.u32 0, Value.int IntKind.u32 0, Value.int IntKind.u32 0, Value.int IntKind.u32 0, Value.int IntKind.u32 0, Value.int IntKind.u32 0, Value.bool false, Value.bool false, Value.bool false, Value.bool false, Value.bool false, Value.bool false, Value.bool false, Value.int IntKind.u64 0] 28)).alloc (.cells #[Value.int IntKind.u32 0, Value.int IntKind.u32 0, Value.int IntKind.u32 0, Value.int IntKind.u32 0, Value.int IntKind.u32 0, Value.int IntKind.u32 0, Value.int IntKind.u32 0, Value.int IntKind.u32 0, Value.int IntKind.u32 (l 8), Value.bool false, Value.bool false, Value.bool false, Value.bool false, Value.bool false, Value.bool false, Value.bool (l 15 != 0), Value.int IntKind.u64 0] 28)).drew) = .ok (.int .i64 8) ((((w.alloc (.cells #[Value.int IntKind.u32 (l 0), Value.int IntKind.u32 (l 1), Value.int IntKind.u32 (l 2), Value.int IntKind.u32 (l 3), Value.int IntKind.u32 (l 4), Value.int IntKind.u32 (l 5), Value.int IntKind.u32 (l 6), Value.int IntKind.u32 (l 7), Value.int IntKind.u32 (l 8), Value.int IntKind.u32 (l 9), Value.int IntKind.u32 (l 10), Value.int IntKind.u32 (l 11), Value.int IntKind.u32 (l 12), Value.int IntKind.u32 (l 13), Value.int IntKind.u32 (l 14), Value.int IntKind.u32 (l 15), Value.int IntKind.u32 (l 16), Value.int IntKind.u32 (l 17)] 72)).alloc (.cells #[Value.int IntKind.u32 0, Value.int IntKind.u32 0, Value.int IntKind.u32 0, Value.int IntKind.u32 0, Value.int IntKind.u32 0, Value.int IntKind.u32 0, Value.int IntKind.u32 0, Value.int IntKind.u32 0, Value.int IntKind.u32 0, Value.bool false, Value.bool false, Value.bool false, Value.bool false, Value.bool false, Value.bool false, Value.bool false, Value.int IntKind.u64 0] 28)).alloc (.cells #[Value.int IntKind.u32 (l 0), Value.int IntKind.u32 (l 1), Value.int IntKind.u32 (l 2), Value.int IntKind.u32 (l 3), Value.int IntKind.u32 (l 4), Value.int IntKind.u32 (l 5), Value.int IntKind.u32 (l 6), Value.int IntKind.u32 (l 7), Value.int IntKind.u32 (l 8), Value.bool false, Value.bool false, Value.bool false, Value.bool false, Value.bool false, Value.bool false, Value.bool (l 15 != 0), Value.int IntKind.u64 0] 28)).drew) := by
  have hs : (((w.alloc (.cells #[Value.int IntKind.u32 (l 0), Value.int IntKind.u32 (l 1), Value.int IntKind.u32 (l 2), Value.int IntKind.u32 (l 3), Value.int IntKind.u32 (l 4), Value.int IntKind.u32 (l 5), Value.int IntKind.u32 (l 6), Value.int IntKind.u32 (l 7), Value.int IntKind.u32 (l 8), Value.int IntKind.u32 (l 9), Value.int IntKind.u32 (l 10), Value.int IntKind.u32 (l 11), Value.int IntKind.u32 (l 12), Value.int IntKind.u32 (l 13), Value.int IntKind.u32 (l 14), Value.int IntKind.u32 (l 15), Value.int IntKind.u32 (l 16), Value.int IntKind.u32 (l 17)] 72)).alloc (.cells #[Value.int IntKind.u32 0, Value.int IntKind.u32 0, Value.int IntKind.u32 0, Value.int IntKind.u32 0, Value.int IntKind.u32 0, Value.int IntKind.u32 0, Value.int IntKind.u32 0, Value.int IntKind.u32 0, Value.int IntKind.u32 0, Value.bool false, Value.bool false, Value.bool false, Value.bool false, Value.bool false, Value.bool false, Value.bool false, Value.int IntKind.u64 0] 28))).heap.size = w.heap.size + 1 + 1 := by simp
  have hd := setRow_drew_alloc ((w.alloc (.cells #[Value.int IntKind.u32 (l 0), Value.int IntKind.u32 (l 1), Value.int IntKind.u32 (l 2), Value.int IntKind.u32 (l 3), Value.int IntKind.u32 (l 4), Value.int IntKind.u32 (l 5), Value.int IntKind.u32 (l 6), Value.int IntKind.u32 (l 7), Value.int IntKind.u32 (l 8), Value.int IntKind.u32 (l 9), Value.int IntKind.u32 (l 10), Value.int IntKind.u32 (l 11), Value.int IntKind.u32 (l 12), Value.int IntKind.u32 (l 13), Value.int IntKind.u32 (l 14), Value.int IntKind.u32 (l 15), Value.int IntKind.u32 (l 16), Value.int IntKind.u32 (l 17)] 72)).alloc (.cells #[Value.int IntKind.u32 0, Value.int IntKind.u32 0, Value.int IntKind.u32 0, Value.int IntKind.u32 0, Value.int IntKind.u32 0, Value.int IntKind.u32 0, Value.int IntKind.u32 0, Value.int IntKind.u32 0, Value.int IntKind.u32 0, Value.bool false, Value.bool false, Value.bool false, Value.bool false, Value.bool false, Value.bool false, Value.bool false, Value.int IntKind.u64 0] 28)) #[Value.int IntKind.u32 0, Value.int IntKind.u32 0, Value.int IntKind.u32 0, Value.int IntKind.u32 0, Value.int IntKind.u32 0, Value.int IntKind.u32 0, Value.int IntKind.u32 0, Value.int IntKind.u32 0, Value.int IntKind.u32 (l 8), Value.bool false, Value.bool false, Value.bool false, Value.bool false, Value.bool false, Value.bool false, Value.bool (l 15 != 0), Value.int IntKind.u64 0] #[Value.int IntKind.u32 (l 0), Value.int IntKind.u32 (l 1), Value.int IntKind.u32 (l 2), Value.int IntKind.u32 (l 3), Value.int IntKind.u32 (l 4), Value.int IntKind.u32 (l 5), Value.int IntKind.u32 (l 6), Value.int IntKind.u32 (l 7), Value.int IntKind.u32 (l 8), Value.bool false, Value.bool false, Value.bool false, Value.bool false, Value.bool false, Value.bool false, Value.bool (l 15 != 0), Value.int IntKind.u64 0] 28
  rw [hs] at hd
  rw [← hd]
  have := run_copy_row (P := Tryd.prog) ((((w.alloc (.cells #[Value.int IntKind.u32 (l 0), Value.int IntKind.u32 (l 1), Value.int IntKind.u32 (l 2), Value.int IntKind.u32 (l 3), Value.int IntKind.u32 (l 4), Value.int IntKind.u32 (l 5), Value.int IntKind.u32 (l 6), Value.int IntKind.u32 (l 7), Value.int IntKind.u32 (l 8), Value.int IntKind.u32 (l 9), Value.int IntKind.u32 (l 10), Value.int IntKind.u32 (l 11), Value.int IntKind.u32 (l 12), Value.int IntKind.u32 (l 13), Value.int IntKind.u32 (l 14), Value.int IntKind.u32 (l 15), Value.int IntKind.u32 (l 16), Value.int IntKind.u32 (l 17)] 72)).alloc (.cells #[Value.int IntKind.u32 0, Value.int IntKind.u32 0, Value.int IntKind.u32 0, Value.int IntKind.u32 0, Value.int IntKind.u32 0, Value.int IntKind.u32 0, Value.int IntKind.u32 0, Value.int IntKind.u32 0, Value.int IntKind.u32 0, Value.bool false, Value.bool false, Value.bool false, Value.bool false, Value.bool false, Value.bool false, Value.bool false, Value.int IntKind.u64 0] 28)).alloc (.cells #[Value.int IntKind.u32 0, Value.int IntKind.u32 0, Value.int IntKind.u32 0, Value.int IntKind.u32 0, Value.int IntKind.u32 0, Value.int IntKind.u32 0, Value.int IntKind.u32 0, Value.int IntKind.u32 0, Value.int IntKind.u32 (l 8), Value.bool false, Value.bool false, Value.bool false, Value.bool false, Value.bool false, Value.bool false, Value.bool (l 15 != 0), Value.int IntKind.u64 0] 28)).drew) 77 77 3 22 (w.heap.size + 1 + 1) 0 8 8 ⟨w.heap.size, 0, none⟩ 18 18 #[Value.int IntKind.u32 0, Value.int IntKind.u32 0, Value.int IntKind.u32 0, Value.int IntKind.u32 0, Value.int IntKind.u32 0, Value.int IntKind.u32 0, Value.int IntKind.u32 0, Value.int IntKind.u32 0, Value.int IntKind.u32 (l 8), Value.bool false, Value.bool false, Value.bool false, Value.bool false, Value.bool false, Value.bool false, Value.bool (l 15 != 0), Value.int IntKind.u64 0] 28 [Value.int IntKind.u32 (l 0), Value.int IntKind.u32 (l 1), Value.int IntKind.u32 (l 2), Value.int IntKind.u32 (l 3), Value.int IntKind.u32 (l 4), Value.int IntKind.u32 (l 5), Value.int IntKind.u32 (l 6), Value.int IntKind.u32 (l 7)]
    (by kernel_rfl) (by kernel_rfl) (by rw [← hs]; exact alloc_new _ _) rfl ?_ (by simp) (by intro v hv; simp at hv; rcases hv with rfl | rfl | rfl | rfl | rfl | rfl | rfl | rfl <;> rfl)
  · exact this
  · intro j v hj
    have hj8 : j < 8 := by have := (List.getElem?_eq_some_iff.1 hj).1; simpa using this
    rw [World.cell?_drew, show (⟨w.heap.size, 0, none⟩ : Addr).add j = ⟨w.heap.size, j, none⟩ by simp [Addr.add]; omega]
    rcases (by omega : j = 0 ∨ j = 1 ∨ j = 2 ∨ j = 3 ∨ j = 4 ∨ j = 5 ∨ j = 6 ∨ j = 7) with rfl | rfl | rfl | rfl | rfl | rfl | rfl | rfl
    all_goals (simp at hj; subst hj; simp [go_sem])
    all_goals (intro e; exact absurd e (by omega))

theorem or_high {a b : Int} (ha : 0 ≤ a ∧ a ≤ 4294967295) (hb : 0 ≤ b ∧ b ≤ 4294967295) : bits .or .u64 (a * 4294967296) b = a * 4294967296 + b := by
  obtain ⟨A, rfl⟩ := Int.eq_ofNat_of_zero_le ha.1
  obtain ⟨B, rfl⟩ := Int.eq_ofNat_of_zero_le hb.1
  rw [show (A : Int) * 4294967296 = ((A * 2 ^ 32 : Nat) : Int) by omega, u64_or_nat _ _ (by omega) (by omega), Nat.or_comm, or_add 32 (by omega)]
  omega
def unF (l : Nat → Int) (k : Nat) : Nat → Bool := fun i => if i < k then l (9 + i) != 0 else false
abbrev fl6 (f : Nat → Bool) : Array Value := #[.bool (f 0), .bool (f 1), .bool (f 2), .bool (f 3), .bool (f 4), .bool (f 5)]
abbrev z17 : Array Value := #[Value.int IntKind.u32 0, Value.int IntKind.u32 0, Value.int IntKind.u32 0, Value.int IntKind.u32 0, Value.int IntKind.u32 0, Value.int IntKind.u32 0, Value.int IntKind.u32 0, Value.int IntKind.u32 0, Value.int IntKind.u32 0, Value.bool false, Value.bool false, Value.bool false, Value.bool false, Value.bool false, Value.bool false, Value.bool false, Value.int IntKind.u64 0]
abbrev v17 (l : Nat → Int) : Array Value := #[Value.int IntKind.u32 (l 0), Value.int IntKind.u32 (l 1), Value.int IntKind.u32 (l 2), Value.int IntKind.u32 (l 3), Value.int IntKind.u32 (l 4), Value.int IntKind.u32 (l 5), Value.int IntKind.u32 (l 6), Value.int IntKind.u32 (l 7), Value.int IntKind.u32 (l 8), Value.bool false, Value.bool false, Value.bool false, Value.bool false, Value.bool false, Value.bool false, Value.bool (l 15 != 0), Value.int IntKind.u64 0]
theorem sz6 : (Tryd.prog.info? 61).map (·.size) = some 6 := by kernel_rfl
theorem sz6f : (Tryd.prog.info? 25).map (·.size) = some 6 := by kernel_rfl
theorem un_end (l : Nat → Int) : (((((((v17 l).setIfInBounds 9 (.bool (unF l 6 0))).setIfInBounds 10 (.bool (unF l 6 1))).setIfInBounds 11 (.bool (unF l 6 2))).setIfInBounds 12 (.bool (unF l 6 3))).setIfInBounds 13 (.bool (unF l 6 4))).setIfInBounds 14 (.bool (unF l 6 5))).setIfInBounds 16 (.int .u64 (l 17 * 4294967296 + l 16)) = stA (unL l) := by
  simp [v17, unF, stA, unL]
theorem unpacked_any (l : Nat → Int) (hl : ∀ i, 0 ≤ l i ∧ l i ≤ 4294967295) (w : World) : Calls Tryd.prog 40 #[wsV l] w fun e w' => e = .returned (stV (unL l)) ∧ Below w.heap.size w w' := by
  have hc := copy_unpacked l w
  have l16 := hl 16
  have l17 := hl 17
  go_enter Tryd.func40, Tryd.ntmps40
  go_wp2_with fail
  go_region
  go_wp2_with fail
  have kL : Blk (((((w.alloc (.cells (arr18 l) 72)).alloc (.cells z17 28)).alloc (.cells (v17 l) 28)).alloc (.cells (fl6 (unF l 0)) 61)).drew) w.heap.size 72 (arr18 l) := (((((Blk.new w _ _).alloc _).alloc _).alloc _).drew)
  have kR : Blk (((((w.alloc (.cells (arr18 l) 72)).alloc (.cells z17 28)).alloc (.cells (v17 l) 28)).alloc (.cells (fl6 (unF l 0)) 61)).drew) (w.heap.size + 1) 28 z17 := by
    have := (((Blk.new (w.alloc (.cells (arr18 l) 72)) 28 z17).alloc (.cells (v17 l) 28)).alloc (.cells (fl6 (unF l 0)) 61)).drew
    rwa [World.size_alloc] at this
  have kS : Blk (((((w.alloc (.cells (arr18 l) 72)).alloc (.cells z17 28)).alloc (.cells (v17 l) 28)).alloc (.cells (fl6 (unF l 0)) 61)).drew) (w.heap.size + 1 + 1) 28 (v17 l) := by
    have := ((Blk.new ((w.alloc (.cells (arr18 l) 72)).alloc (.cells z17 28)) 28 (v17 l)).alloc (.cells (fl6 (unF l 0)) 61)).drew
    rwa [World.size_alloc, World.size_alloc] at this
  have kF : Blk (((((w.alloc (.cells (arr18 l) 72)).alloc (.cells z17 28)).alloc (.cells (v17 l) 28)).alloc (.cells (fl6 (unF l 0)) 61)).drew) (w.heap.size + 1 + 1 + 1) 61 (fl6 (unF l 0)) := by
    have := (Blk.new (((w.alloc (.cells (arr18 l) 72)).alloc (.cells z17 28)).alloc (.cells (v17 l) 28)) 61 (fl6 (unF l 0))).drew
    rwa [World.size_alloc, World.size_alloc, World.size_alloc] at this
  have kb : Below w.heap.size w (((((w.alloc (.cells (arr18 l) 72)).alloc (.cells z17 28)).alloc (.cells (v17 l) 28)).alloc (.cells (fl6 (unF l 0)) 61)).drew) := (((((Below.refl _ _).alloc (Nat.le_refl _) _).alloc (by simp) _).alloc (by simp; omega) _).alloc (by simp; omega) _).drew
  clear hc
  generalize hN : w.heap.size = N at *
  go_loopw [16] (fun ii W => ∃ k : Nat, k ≤ 6 ∧ ii = .int .i64 k ∧ Blk W N 72 (arr18 l) ∧ Blk W (N + 1) 28 z17 ∧ Blk W (N + 1 + 1) 28 (v17 l) ∧ Blk W (N + 1 + 1 + 1) 61 (fl6 (unF l k)) ∧ Below N w W) (fun ii _ => (6 - intOf ii).toNat)
  case atStart => exact ⟨0, by omega, rfl, kL, kR, kS, kF, kb⟩
  case round =>
    clear kL kR kS kF kb
    obtain ⟨k, hk, hi, kL, kR, kS, kF, kb⟩ := hrel
    by_cases h0 : k = 0
    · subst h0
      obtain rfl : _ = Value.int .i64 0 := hi
      have q := kL.cell (i := 9) (v := .int .u32 (l 9)) rfl
      have q2 := kF.cell (i := 0) (v := .bool false) rfl
      have p := kF.fr 0
      go_wp2_with fail
      go_roundw
      case rel => exact ⟨1, by omega, by go_num, kL.other _ _ (by omega), kR.other _ _ (by omega), kS.other _ _ (by omega), kF.set _ _, kb.setCell (by simp; omega) _⟩
      case measure => simp [intOf]
    by_cases h1 : k = 1
    · subst h1
      obtain rfl : _ = Value.int .i64 1 := hi
      have q := kL.cell (i := 10) (v := .int .u32 (l 10)) rfl
      have q2 := kF.cell (i := 1) (v := .bool false) rfl
      have p := kF.fr 1
      go_wp2_with fail
      go_roundw
      case rel => exact ⟨2, by omega, by go_num, kL.other _ _ (by omega), kR.other _ _ (by omega), kS.other _ _ (by omega), kF.set _ _, kb.setCell (by simp; omega) _⟩
      case measure => simp [intOf]
    by_cases h2 : k = 2
    · subst h2
      obtain rfl : _ = Value.int .i64 2 := hi
      have q := kL.cell (i := 11) (v := .int .u32 (l 11)) rfl
      have q2 := kF.cell (i := 2) (v := .bool false) rfl
      have p := kF.fr 2
      go_wp2_with fail
      go_roundw
      case rel => exact ⟨3, by omega, by go_num, kL.other _ _ (by omega), kR.other _ _ (by omega), kS.other _ _ (by omega), kF.set _ _, kb.setCell (by simp; omega) _⟩
      case measure => simp [intOf]
    by_cases h3 : k = 3
    · subst h3
      obtain rfl : _ = Value.int .i64 3 := hi
      have q := kL.cell (i := 12) (v := .int .u32 (l 12)) rfl
      have q2 := kF.cell (i := 3) (v := .bool false) rfl
      have p := kF.fr 3
      go_wp2_with fail
      go_roundw
      case rel => exact ⟨4, by omega, by go_num, kL.other _ _ (by omega), kR.other _ _ (by omega), kS.other _ _ (by omega), kF.set _ _, kb.setCell (by simp; omega) _⟩
      case measure => simp [intOf]
    by_cases h4 : k = 4
    · subst h4
      obtain rfl : _ = Value.int .i64 4 := hi
      have q := kL.cell (i := 13) (v := .int .u32 (l 13)) rfl
      have q2 := kF.cell (i := 4) (v := .bool false) rfl
      have p := kF.fr 4
      go_wp2_with fail
      go_roundw
      case rel => exact ⟨5, by omega, by go_num, kL.other _ _ (by omega), kR.other _ _ (by omega), kS.other _ _ (by omega), kF.set _ _, kb.setCell (by simp; omega) _⟩
      case measure => simp [intOf]
    by_cases h5 : k = 5
    · subst h5
      obtain rfl : _ = Value.int .i64 5 := hi
      have q := kL.cell (i := 14) (v := .int .u32 (l 14)) rfl
      have q2 := kF.cell (i := 5) (v := .bool false) rfl
      have p := kF.fr 5
      go_wp2_with fail
      go_roundw
      case rel => exact ⟨6, by omega, by go_num, kL.other _ _ (by omega), kR.other _ _ (by omega), kS.other _ _ (by omega), kF.set _ _, kb.setCell (by simp; omega) _⟩
      case measure => simp [intOf]
    obtain rfl : k = 6 := by omega
    obtain rfl : _ = Value.int .i64 6 := hi
    have p := fun i => kS.fr i
    have f0 := kF.cell (i := 0) (v := .bool (unF l 6 0)) rfl
    have f1 := kF.cell (i := 1) (v := .bool (unF l 6 1)) rfl
    have f2 := kF.cell (i := 2) (v := .bool (unF l 6 2)) rfl
    have f3 := kF.cell (i := 3) (v := .bool (unF l 6 3)) rfl
    have f4 := kF.cell (i := 4) (v := .bool (unF l 6 4)) rfl
    have f5 := kF.cell (i := 5) (v := .bool (unF l 6 5)) rfl
    have s9 := kS.cell (i := 9) (v := .bool false) rfl
    have s10 := kS.cell (i := 10) (v := .bool false) rfl
    have s11 := kS.cell (i := 11) (v := .bool false) rfl
    have s12 := kS.cell (i := 12) (v := .bool false) rfl
    have s13 := kS.cell (i := 13) (v := .bool false) rfl
    have s14 := kS.cell (i := 14) (v := .bool false) rfl
    have s16 := kS.cell (i := 16) (v := .int .u64 0) rfl
    have q17 := kL.cell (i := 17) (v := .int .u32 (l 17)) rfl
    have q16 := kL.cell (i := 16) (v := .int .u32 (l 16)) rfl
    go_wp2_with fail
    refine (unlisted_any (unF l 6) _).mono ?_
    rintro e w2 ⟨rfl, b2⟩
    replace kR := kR.below b2 kR.lt
    replace kS := kS.below b2 kS.lt
    replace kL := kL.below b2 kL.lt
    replace kb := kb.trans (b2.mono (by have := kR.lt; have := kb.size; omega))
    clear b2 kF p f0 f1 f2 f3 f4 f5 s9 s10 s11 s12 s13 s14 s16 q16 q17
    have p := fun i => kS.fr i
    have s9 := kS.cell (i := 9) (v := .bool false) rfl
    have s10 := kS.cell (i := 10) (v := .bool false) rfl
    have s11 := kS.cell (i := 11) (v := .bool false) rfl
    have s12 := kS.cell (i := 12) (v := .bool false) rfl
    have s13 := kS.cell (i := 13) (v := .bool false) rfl
    have s14 := kS.cell (i := 14) (v := .bool false) rfl
    have s16 := kS.cell (i := 16) (v := .int .u64 0) rfl
    have q17 := kL.cell (i := 17) (v := .int .u32 (l 17)) rfl
    have q16 := kL.cell (i := 16) (v := .int .u32 (l 16)) rfl
    have hor : bits .or .u64 (l 17 * 4294967296) (l 16) = l 17 * 4294967296 + l 16 := or_high l17 l16
    have kE := (((((((kS).set 9 (.bool (unF l 6 0))).set 10 (.bool (unF l 6 1))).set 11 (.bool (unF l 6 2))).set 12 (.bool (unF l 6 3))).set 13 (.bool (unF l 6 4))).set 14 (.bool (unF l 6 5))).set 16 (.int .u64 (l 17 * 4294967296 + l 16))
    rw [un_end] at kE
    have kF := (((((((kR).other 9 (.bool (unF l 6 0)) (show N + 1 ≠ N + 1 + 1 by omega)).other 10 (.bool (unF l 6 1)) (show N + 1 ≠ N + 1 + 1 by omega)).other 11 (.bool (unF l 6 2)) (show N + 1 ≠ N + 1 + 1 by omega)).other 12 (.bool (unF l 6 3)) (show N + 1 ≠ N + 1 + 1 by omega)).other 13 (.bool (unF l 6 4)) (show N + 1 ≠ N + 1 + 1 by omega)).other 14 (.bool (unF l 6 5)) (show N + 1 ≠ N + 1 + 1 by omega)).other 16 (.int .u64 (l 17 * 4294967296 + l 16)) (show N + 1 ≠ N + 1 + 1 by omega)
    have kG := kF.row (stA (unL l))
    have kH := below_rowNew ((((((((kb).setCell (p := ⟨N + 1 + 1, 9, none⟩) (by simp; omega) (.bool (unF l 6 0))).setCell (p := ⟨N + 1 + 1, 10, none⟩) (by simp; omega) (.bool (unF l 6 1))).setCell (p := ⟨N + 1 + 1, 11, none⟩) (by simp; omega) (.bool (unF l 6 2))).setCell (p := ⟨N + 1 + 1, 12, none⟩) (by simp; omega) (.bool (unF l 6 3))).setCell (p := ⟨N + 1 + 1, 13, none⟩) (by simp; omega) (.bool (unF l 6 4))).setCell (p := ⟨N + 1 + 1, 14, none⟩) (by simp; omega) (.bool (unF l 6 5))).setCell (p := ⟨N + 1 + 1, 16, none⟩) (by simp; omega) (.int .u64 (l 17 * 4294967296 + l 16))) (N := N + 1) (by omega) (stA (unL l))
    clear kS kR kL kb
    have hE : ∀ W : World, Blk W (N + 1 + 1) 28 (stA (unL l)) → W.heap[N + 1 + 1]? = some (.cells (stA (unL l)) 28 (0, 0)) := fun _ k => k.h
    have hF : ∀ W : World, Blk W (N + 1) 28 z17 → W.heap[N + 1]? = some (.cells z17 28 (0, 0)) := fun _ k => k.h
    have hG : ∀ W : World, Blk W (N + 1) 28 (stA (unL l)) → W.heap[N + 1]? = some (.cells (stA (unL l)) 28 (0, 0)) := fun _ k => k.h
    have hs2 : (Tryd.prog.info? 28).map (·.size) = some (stA (unL l)).size := sz17
    have hold : z17.size = (stA (unL l)).size := rfl
    have hcell : (stA (unL l)).all (·.oneCell') = true := by simp [stA, Value.oneCell']
    have hag : Value.agg (stA (unL l)) = stV (unL l) := rfl
    generalize stA (unL l) = Z at *
    generalize z17 = Z0 at *
    go_wp2_with (first | with_reducible refine wpList_load_row rfl 28 _ rfl (N + 1 + 1) rfl 28 _ (0, 0) _ (hE _ kE) Tryd.underlying28 rfl hs2 ?_ | with_reducible refine wpList_store_row rfl 28 _ _ rfl (N + 1) _ rfl rfl 28 _ (hF _ kF) hs2 hold hcell ?_)
    exact bodyPost_ret (v := Value.agg Z) (results_cell_row rfl _ _ (N + 1) 28 _ (0, 0) _ rfl (hG _ kG) Tryd.underlying28 rfl hs2) rfl ⟨by rw [hag], by rw [hN]; exact kH⟩
end Go.Proofs.YtgamghmeefoopaaDoor
