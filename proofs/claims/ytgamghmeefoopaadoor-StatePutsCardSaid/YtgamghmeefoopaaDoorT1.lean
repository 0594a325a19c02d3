/- A state as words, words as a state. -/
import Derived.Test.YtgamghmeefoopaaDoorT0
import Derived.Test.YtgamghmeefoopaaDoorB0
import Derived.Laws.CopyRow
namespace Go.Proofs.YtgamghmeefoopaaDoor
open Go.RowKit
set_option linter.unusedVariables false
set_option linter.unusedSimpArgs false
set_option linter.unusedSectionVars false

theorem setRow_drew_alloc (A : World) (c c2 : Array Value) (t : TypeId) : (A.alloc (.cells c t)).drew.setRow A.heap.size c2 = (A.alloc (.cells c2 t)).drew := by
  have := World.setRow_alloc_new (w := A) c c2 t
  show ((A.alloc (.cells c t)).setRow A.heap.size c2).drew = _
  rw [this]
set_option maxRecDepth 4000 in
theorem copy_packed (g : Gs) (w : World) : (Builtin.copy_ #[77, 77] 3 #[.slice (some ⟨w.heap.size + 1 + 1, 0, none⟩) 18 18, .slice (some ⟨w.heap.size, 0, none⟩) 8 8]).run Tryd.prog
    ((((w.alloc (.cells #[Value.int IntKind.u32 (g.r 0), Value.int IntKind.u32 (g.r 1), Value.int IntKind.u32 (g.r 2), Value.int IntKind.u32 (g.r 3), Value.int IntKind.u32 (g.r 4), Value.int IntKind.u32 (g.r 5), Value.int IntKind.u32 (g.r 6), Value.int IntKind.u32 (g.r 7), Value.int IntKind.u32 g.pc, Value.bool (g.f 0), Value.bool (g.f 1), Value.bool (g.f 2), Value.bool (g.f 3), Value.bool (g.f 4), Value.bool (g.f 5), Value.bool g.df, Value.int IntKind.u64 g.x] 28)).alloc (.cells #[Value.int IntKind.u32 0, Value.int IntKind.u32 0, Value.int IntKind.u32 0, Value.int IntKind.u32 0, Value.int IntKind.u32 0, Value.int IntKind.u32 0, Value.int IntKind.u32 0, Value.int IntKind.u32 0, Value.int IntKind.u32 0, Value.int IntKind.u32 0, Value.int IntKind.u32 0, Value.int IntKind.u32 0, Value.int IntKind.u32 0, Value.int IntKind.u32 0, Value.int IntKind.u32 0, Value.int IntKind.u32 0, Value.int IntKind.u32 0, Value.int IntKind.u32 0] 72)).alloc (.cells #[Value.int IntKind.u32 0, Value.int IntKind.u32 0, Value.int IntKind.u32 0, Value.int IntKind.u32 0, Value.int IntKind.u32 0, Value.int IntKind.u32 0, Value.int IntKind.u32 0, Value.int IntKind.u32 0, Value.int IntKind.u32 0, Value.int IntKind.u32 0, Value.int IntKind.u32 0, Value.int IntKind.u32 0, Value.int IntKind.u32 0, Value.int IntKind.u32 0, Value.int IntKind.u32 0, Value.int IntKind.u32 0, Value.int IntKind.u32 0, Value.int IntKind.u32 0] 72)).drew) = .ok (.int .i64 8) ((((w.alloc (.cells #[Value.int IntKind.u32 (g.r 0), Value.int IntKind.u32 (g.r 1), Value.int IntKind.u32 (g.r 2), Value.int IntKind.u32 (g.r 3), Value.int IntKind.u32 (g.r 4), Value.int IntKind.u32 (g.r 5), Value.int IntKind.u32 (g.r 6), Value.int IntKind.u32 (g.r 7), Value.int IntKind.u32 g.pc, Value.bool (g.f 0), Value.bool (g.f 1), Value.bool (g.f 2), Value.bool (g.f 3), Value.bool (g.f 4), Value.bool (g.f 5), Value.bool g.df, Value.int IntKind.u64 g.x] 28)).alloc (.cells #[Value.int IntKind.u32 0, Value.int IntKind.u32 0, Value.int IntKind.u32 0, Value.int IntKind.u32 0, Value.int IntKind.u32 0, Value.int IntKind.u32 0, Value.int IntKind.u32 0, Value.int IntKind.u32 0, Value.int IntKind.u32 0, Value.int IntKind.u32 0, Value.int IntKind.u32 0, Value.int IntKind.u32 0, Value.int IntKind.u32 0, Value.int IntKind.u32 0, Value.int IntKind.u32 0, Value.int IntKind.u32 0, Value.int IntKind.u32 0, Value.int IntKind.u32 0] 72)).alloc (.cells #[Value.int IntKind.u32 (g.r 0), Value.int IntKind.u32 (g.r 1), Value.int IntKind.u32 (g.r 2), Value.int IntKind.u32 (g.r 3), Value.int IntKind.u32 (g.r 4), Value.int IntKind.u32 (g.r 5), Value.int IntKind.u32 (g.r 6), Value.int IntKind.u32 (g.r 7), Value.int IntKind.u32 0, Value.int IntKind.u32 0, Value.int IntKind.u32 0, Value.int IntKind.u32 0, Value.int IntKind.u32 0, Value.int IntKind.u32 0, Value.int IntKind.u32 0, Value.int IntKind.u32 0, Value.int IntKind.u32 0, Value.int IntKind.u32 0] 72)).drew) := by
  have hs : (((w.alloc (.cells #[Value.int IntKind.u32 (g.r 0), Value.int IntKind.u32 (g.r 1), Value.int IntKind.u32 (g.r 2), Value.int IntKind.u32 (g.r 3), Value.int IntKind.u32 (g.r 4), Value.int IntKind.u32 (g.r 5), Value.int IntKind.u32 (g.r 6), Value.int IntKind.u32 (g.r 7), Value.int IntKind.u32 g.pc, Value.bool (g.f 0), Value.bool (g.f 1), Value.bool (g.f 2), Value.bool (g.f 3), Value.bool (g.f 4), Value.bool (g.f 5), Value.bool g.df, Value.int IntKind.u64 g.x] 28)).alloc (.cells #[Value.int IntKind.u32 0, Value.int IntKind.u32 0, Value.int IntKind.u32 0, Value.int IntKind.u32 0, Value.int IntKind.u32 0, Value.int IntKind.u32 0, Value.int IntKind.u32 0, Value.int IntKind.u32 0, Value.int IntKind.u32 0, Value.int IntKind.u32 0, Value.int IntKind.u32 0, Value.int IntKind.u32 0, Value.int IntKind.u32 0, Value.int IntKind.u32 0, Value.int IntKind.u32 0, Value.int IntKind.u32 0, Value.int IntKind.u32 0, Value.int IntKind.u32 0] 72))).heap.size = w.heap.size + 1 + 1 := by simp
  have hd := setRow_drew_alloc ((w.alloc (.cells #[Value.int IntKind.u32 (g.r 0), Value.int IntKind.u32 (g.r 1), Value.int IntKind.u32 (g.r 2), Value.int IntKind.u32 (g.r 3), Value.int IntKind.u32 (g.r 4), Value.int IntKind.u32 (g.r 5), Value.int IntKind.u32 (g.r 6), Value.int IntKind.u32 (g.r 7), Value.int IntKind.u32 g.pc, Value.bool (g.f 0), Value.bool (g.f 1), Value.bool (g.f 2), Value.bool (g.f 3), Value.bool (g.f 4), Value.bool (g.f 5), Value.bool g.df, Value.int IntKind.u64 g.x] 28)).alloc (.cells #[Value.int IntKind.u32 0, Value.int IntKind.u32 0, Value.int IntKind.u32 0, Value.int IntKind.u32 0, Value.int IntKind.u32 0, Value.int IntKind.u32 0, Value.int IntKind.u32 0, Value.int IntKind.u32 0, Value.int IntKind.u32 0, Value.int IntKind.u32 0, Value.int IntKind.u32 0, Value.int IntKind.u32 0, Value.int IntKind.u32 0, Value.int IntKind.u32 0, Value.int IntKind.u32 0, Value.int IntKind.u32 0, Value.int IntKind.u32 0, Value.int IntKind.u32 0] 72)) #[Value.int IntKind.u32 0, Value.int IntKind.u32 0, Value.int IntKind.u32 0, Value.int IntKind.u32 0, Value.int IntKind.u32 0, Value.int IntKind.u32 0, Value.int IntKind.u32 0, Value.int IntKind.u32 0, Value.int IntKind.u32 0, Value.int IntKind.u32 0, Value.int IntKind.u32 0, Value.int IntKind.u32 0, Value.int IntKind.u32 0, Value.int IntKind.u32 0, Value.int IntKind.u32 0, Value.int IntKind.u32 0, Value.int IntKind.u32 0, Value.int IntKind.u32 0] #[Value.int IntKind.u32 (g.r 0), Value.int IntKind.u32 (g.r 1), Value.int IntKind.u32 (g.r 2), Value.int IntKind.u32 (g.r 3), Value.int IntKind.u32 (g.r 4), Value.int IntKind.u32 (g.r 5), Value.int IntKind.u32 (g.r 6), Value.int IntKind.u32 (g.r 7), Value.int IntKind.u32 0, Value.int IntKind.u32 0, Value.int IntKind.u32 0, Value.int IntKind.u32 0, Value.int IntKind.u32 0, Value.int IntKind.u32 0, Value.int IntKind.u32 0, Value.int IntKind.u32 0, Value.int IntKind.u32 0, Value.int IntKind.u32 0] 72
  rw [hs] at hd
  rw [← hd]
  have := run_copy_row (P := Tryd.prog) ((((w.alloc (.cells #[Value.int IntKind.u32 (g.r 0), Value.int IntKind.u32 (g.r 1), Value.int IntKind.u32 (g.r 2), Value.int IntKind.u32 (g.r 3), Value.int IntKind.u32 (g.r 4), Value.int IntKind.u32 (g.r 5), Value.int IntKind.u32 (g.r 6), Value.int IntKind.u32 (g.r 7), Value.int IntKind.u32 g.pc, Value.bool (g.f 0), Value.bool (g.f 1), Value.bool (g.f 2), Value.bool (g.f 3), Value.bool (g.f 4), Value.bool (g.f 5), Value.bool g.df, Value.int IntKind.u64 g.x] 28)).alloc (.cells #[Value.int IntKind.u32 0, Value.int IntKind.u32 0, Value.int IntKind.u32 0, Value.int IntKind.u32 0, Value.int IntKind.u32 0, Value.int IntKind.u32 0, Value.int IntKind.u32 0, Value.int IntKind.u32 0, Value.int IntKind.u32 0, Value.int IntKind.u32 0, Value.int IntKind.u32 0, Value.int IntKind.u32 0, Value.int IntKind.u32 0, Value.int IntKind.u32 0, Value.int IntKind.u32 0, Value.int IntKind.u32 0, Value.int IntKind.u32 0, Value.int IntKind.u32 0] 72)).alloc (.cells #[Value.int IntKind.u32 0, Value.int IntKind.u32 0, Value.int IntKind.u32 0, Value.int IntKind.u32 0, Value.int IntKind.u32 0, Value.int IntKind.u32 0, Value.int IntKind.u32 0, Value.int IntKind.u32 0, Value.int IntKind.u32 0, Value.int IntKind.u32 0, Value.int IntKind.u32 0, Value.int IntKind.u32 0, Value.int IntKind.u32 0, Value.int IntKind.u32 0, Value.int IntKind.u32 0, Value.int IntKind.u32 0, Value.int IntKind.u32 0, Value.int IntKind.u32 0] 72)).drew) 77 77 3 22 (w.heap.size + 1 + 1) 0 18 18 ⟨w.heap.size, 0, none⟩ 8 8 #[Value.int IntKind.u32 0, Value.int IntKind.u32 0, Value.int IntKind.u32 0, Value.int IntKind.u32 0, Value.int IntKind.u32 0, Value.int IntKind.u32 0, Value.int IntKind.u32 0, Value.int IntKind.u32 0, Value.int IntKind.u32 0, Value.int IntKind.u32 0, Value.int IntKind.u32 0, Value.int IntKind.u32 0, Value.int IntKind.u32 0, Value.int IntKind.u32 0, Value.int IntKind.u32 0, Value.int IntKind.u32 0, Value.int IntKind.u32 0, Value.int IntKind.u32 0] 72 [Value.int IntKind.u32 (g.r 0), Value.int IntKind.u32 (g.r 1), Value.int IntKind.u32 (g.r 2), Value.int IntKind.u32 (g.r 3), Value.int IntKind.u32 (g.r 4), Value.int IntKind.u32 (g.r 5), Value.int IntKind.u32 (g.r 6), Value.int IntKind.u32 (g.r 7)]
    (by kernel_rfl) (by kernel_rfl) (by rw [← hs]; exact alloc_new _ _) rfl ?_ (by simp) (by intro v hv; simp at hv; rcases hv with rfl | rfl | rfl | rfl | rfl | rfl | rfl | rfl <;> rfl)
  · exact this
  · intro j v hj
    have hj8 : j < 8 := by have := (List.getElem?_eq_some_iff.1 hj).1; simpa using this
    rw [World.cell?_drew, show (⟨w.heap.size, 0, none⟩ : Addr).add j = ⟨w.heap.size, j, none⟩ by simp [Addr.add]; omega]
    rcases (by omega : j = 0 ∨ j = 1 ∨ j = 2 ∨ j = 3 ∨ j = 4 ∨ j = 5 ∨ j = 6 ∨ j = 7) with rfl | rfl | rfl | rfl | rfl | rfl | rfl | rfl
    all_goals (simp at hj; subst hj; simp [go_sem])

abbrev arr18 (l : Nat → Int) : Array Value := #[.int .u32 (l 0), .int .u32 (l 1), .int .u32 (l 2), .int .u32 (l 3), .int .u32 (l 4), .int .u32 (l 5), .int .u32 (l 6), .int .u32 (l 7), .int .u32 (l 8),
  .int .u32 (l 9), .int .u32 (l 10), .int .u32 (l 11), .int .u32 (l 12), .int .u32 (l 13), .int .u32 (l 14), .int .u32 (l 15), .int .u32 (l 16), .int .u32 (l 17)]
abbrev stA (g : Gs) : Array Value := #[.int .u32 (g.r 0), .int .u32 (g.r 1), .int .u32 (g.r 2), .int .u32 (g.r 3), .int .u32 (g.r 4), .int .u32 (g.r 5), .int .u32 (g.r 6), .int .u32 (g.r 7), .int .u32 g.pc,
  .bool (g.f 0), .bool (g.f 1), .bool (g.f 2), .bool (g.f 3), .bool (g.f 4), .bool (g.f 5), .bool g.df, .int .u64 g.x]
def pkL (g : Gs) (k : Nat) : Nat → Int := fun j => if j < 9 + k then wordsL g j else 0
theorem sz18 : (Tryd.prog.info? 72).map (·.size) = some 18 := by kernel_rfl
theorem sz17 : (Tryd.prog.info? 28).map (·.size) = some 17 := by kernel_rfl
theorem pk_end (g : Gs) : (((arr18 (pkL g 6)).setIfInBounds 15 (.int .u32 (oneI g.df))).setIfInBounds 16 (.int .u32 (g.x % 4294967296))).setIfInBounds 17 (.int .u32 (g.x / 4294967296)) = arr18 (wordsL g) := by
  simp [arr18, pkL, wordsL]
theorem ix6 (f : Nat → Bool) (W : World) : (Instr.index 61 (flV f) (.int .i64 0)).run Tryd.prog W = .ok (.bool (f 0)) W ∧ (Instr.index 61 (flV f) (.int .i64 1)).run Tryd.prog W = .ok (.bool (f 1)) W
    ∧ (Instr.index 61 (flV f) (.int .i64 2)).run Tryd.prog W = .ok (.bool (f 2)) W ∧ (Instr.index 61 (flV f) (.int .i64 3)).run Tryd.prog W = .ok (.bool (f 3)) W
    ∧ (Instr.index 61 (flV f) (.int .i64 4)).run Tryd.prog W = .ok (.bool (f 4)) W ∧ (Instr.index 61 (flV f) (.int .i64 5)).run Tryd.prog W = .ok (.bool (f 5)) W :=
  ⟨by kernel_rfl, by kernel_rfl, by kernel_rfl, by kernel_rfl, by kernel_rfl, by kernel_rfl⟩
theorem packed_any (g : Gs) (h : g.ok) (w : World) : Calls Tryd.prog 37 #[stV g] w fun e w' => e = .returned (wsV (wordsL g)) ∧ Below w.heap.size w w' := by
  have hc := copy_packed g w
  have hx := h.x
  go_enter Tryd.func37, Tryd.ntmps37
  go_wp2_with fail
  go_region
  go_wp2_with fail
  refine (listed_any g.f _).mono ?_
  rintro e w1 ⟨rfl, b1⟩
  have kS : Blk w1 w.heap.size 28 (stA g) := ⟨(b1.block _ (by simp; omega)).trans (alloc3 w _ _ _).1⟩
  have kR : Blk w1 (w.heap.size + 1) 72 (arr18 fun _ => 0) := ⟨(b1.block _ (by simp)).trans (alloc3 w _ _ _).2.1⟩
  have kL : Blk w1 (w.heap.size + 1 + 1) 72 (arr18 (pkL g 0)) := ⟨(b1.block _ (by simp)).trans (alloc3 w _ _ _).2.2⟩
  have kb : Below w.heap.size w w1 := ((((Below.refl _ _).alloc (Nat.le_refl _) _).alloc (by simp) _).alloc (by simp; omega) _).drew.trans (b1.mono (by simp; omega))
  clear b1 hc
  generalize hN : w.heap.size = N at *
  go_wp2_with fail
  go_loopw [16] (fun ii W => ∃ k : Nat, k ≤ 6 ∧ ii = .int .i64 k ∧ Blk W N 28 (stA g) ∧ Blk W (N + 1) 72 (arr18 fun _ => 0) ∧ Blk W (N + 1 + 1) 72 (arr18 (pkL g k)) ∧ Below N w W) (fun ii _ => (6 - intOf ii).toNat)
  case atStart => exact ⟨0, by omega, rfl, kS, kR, kL, kb⟩
  case round =>
    clear kS kR kL kb
    obtain ⟨k, hk, hi, kS, kR, kL, kb⟩ := hrel
    obtain ⟨i0, i1, i2, i3, i4, i5⟩ := ix6 g.f wr
    by_cases h0 : k = 0
    · subst h0
      obtain rfl : _ = Value.int .i64 0 := hi
      have q := kL.cell (i := 9) (v := .int .u32 0) rfl
      have p := kL.fr 9
      go_wp2_with (first | (go_at_call 33; refine (one_any _ _).mono ?_; rintro e w' ⟨rfl, rfl⟩))
      go_roundw
      case rel => exact ⟨1, by omega, by go_num, kS.other _ _ (by omega), kR.other _ _ (by omega), kL.set _ _, kb.setCell (by simp; omega) _⟩
      case measure => simp [intOf]
    by_cases h1 : k = 1
    · subst h1
      obtain rfl : _ = Value.int .i64 1 := hi
      have q := kL.cell (i := 10) (v := .int .u32 0) rfl
      have p := kL.fr 10
      go_wp2_with (first | (go_at_call 33; refine (one_any _ _).mono ?_; rintro e w' ⟨rfl, rfl⟩))
      go_roundw
      case rel => exact ⟨2, by omega, by go_num, kS.other _ _ (by omega), kR.other _ _ (by omega), kL.set _ _, kb.setCell (by simp; omega) _⟩
      case measure => simp [intOf]
    by_cases h2 : k = 2
    · subst h2
      obtain rfl : _ = Value.int .i64 2 := hi
      have q := kL.cell (i := 11) (v := .int .u32 0) rfl
      have p := kL.fr 11
      go_wp2_with (first | (go_at_call 33; refine (one_any _ _).mono ?_; rintro e w' ⟨rfl, rfl⟩))
      go_roundw
      case rel => exact ⟨3, by omega, by go_num, kS.other _ _ (by omega), kR.other _ _ (by omega), kL.set _ _, kb.setCell (by simp; omega) _⟩
      case measure => simp [intOf]
    by_cases h3 : k = 3
    · subst h3
      obtain rfl : _ = Value.int .i64 3 := hi
      have q := kL.cell (i := 12) (v := .int .u32 0) rfl
      have p := kL.fr 12
      go_wp2_with (first | (go_at_call 33; refine (one_any _ _).mono ?_; rintro e w' ⟨rfl, rfl⟩))
      go_roundw
      case rel => exact ⟨4, by omega, by go_num, kS.other _ _ (by omega), kR.other _ _ (by omega), kL.set _ _, kb.setCell (by simp; omega) _⟩
      case measure => simp [intOf]
    by_cases h4 : k = 4
    · subst h4
      obtain rfl : _ = Value.int .i64 4 := hi
      have q := kL.cell (i := 13) (v := .int .u32 0) rfl
      have p := kL.fr 13
      go_wp2_with (first | (go_at_call 33; refine (one_any _ _).mono ?_; rintro e w' ⟨rfl, rfl⟩))
      go_roundw
      case rel => exact ⟨5, by omega, by go_num, kS.other _ _ (by omega), kR.other _ _ (by omega), kL.set _ _, kb.setCell (by simp; omega) _⟩
      case measure => simp [intOf]
    by_cases h5 : k = 5
    · subst h5
      obtain rfl : _ = Value.int .i64 5 := hi
      have q := kL.cell (i := 14) (v := .int .u32 0) rfl
      have p := kL.fr 14
      go_wp2_with (first | (go_at_call 33; refine (one_any _ _).mono ?_; rintro e w' ⟨rfl, rfl⟩))
      go_roundw
      case rel => exact ⟨6, by omega, by go_num, kS.other _ _ (by omega), kR.other _ _ (by omega), kL.set _ _, kb.setCell (by simp; omega) _⟩
      case measure => simp [intOf]
    obtain rfl : k = 6 := by omega
    obtain rfl : _ = Value.int .i64 6 := hi
    have p := fun i => kL.fr i
    have q15 := kL.cell (i := 15) (v := .int .u32 0) rfl
    have q16 := kL.cell (i := 16) (v := .int .u32 0) rfl
    have q17 := kL.cell (i := 17) (v := .int .u32 0) rfl
    have s3 := kS.cell (i := 15) (v := .bool g.df) rfl
    have s4 := kS.cell (i := 16) (v := .int .u64 g.x) rfl
    have kE := ((kL.set 15 (.int .u32 (oneI g.df))).set 16 (.int .u32 (g.x % 4294967296))).set 17 (.int .u32 (g.x / 4294967296))
    rw [pk_end] at kE
    have kF := (((kR.other 15 (.int .u32 (oneI g.df)) (show N + 1 ≠ N + 1 + 1 by omega)).other 16 (.int .u32 (g.x % 4294967296)) (show N + 1 ≠ N + 1 + 1 by omega)).other 17 (.int .u32 (g.x / 4294967296)) (show N + 1 ≠ N + 1 + 1 by omega))
    have kG := kF.row (arr18 (wordsL g))
    have kH := below_rowNew (((kb.setCell (p := ⟨N + 1 + 1, 15, none⟩) (by simp; omega) (.int .u32 (oneI g.df))).setCell (p := ⟨N + 1 + 1, 16, none⟩) (by simp; omega) (.int .u32 (g.x % 4294967296))).setCell (p := ⟨N + 1 + 1, 17, none⟩) (by simp; omega) (.int .u32 (g.x / 4294967296))) (N := N + 1) (by omega) (arr18 (wordsL g))
    have hs := sz18
    clear kS kR kL kb
    have hE : ∀ W : World, Blk W (N + 1 + 1) 72 (arr18 (wordsL g)) → W.heap[N + 1 + 1]? = some (.cells (arr18 (wordsL g)) 72 (0, 0)) := fun _ k => k.h
    have hF : ∀ W : World, Blk W (N + 1) 72 (arr18 fun _ => 0) → W.heap[N + 1]? = some (.cells (arr18 fun _ => 0) 72 (0, 0)) := fun _ k => k.h
    have hG : ∀ W : World, Blk W (N + 1) 72 (arr18 (wordsL g)) → W.heap[N + 1]? = some (.cells (arr18 (wordsL g)) 72 (0, 0)) := fun _ k => k.h
    have hs2 : (Tryd.prog.info? 72).map (·.size) = some (arr18 (wordsL g)).size := sz18
    have hold : (arr18 fun _ => 0).size = (arr18 (wordsL g)).size := rfl
    have hcell : (arr18 (wordsL g)).all (·.oneCell') = true := by simp [arr18, Value.oneCell']
    have hag : Value.agg (arr18 (wordsL g)) = wsV (wordsL g) := rfl
    generalize arr18 (wordsL g) = Z at *
    generalize (arr18 fun _ => 0) = Z0 at *
    go_wp2_with (first | (go_at_call 33; refine (one_any _ _).mono ?_; rintro e w' ⟨rfl, rfl⟩) | refine wpList_load_row rfl 72 _ rfl (N + 1 + 1) rfl 72 _ (0, 0) _ (hE _ kE) Tryd.underlying72 rfl hs2 ?_ | refine wpList_store_row rfl 72 _ _ rfl (N + 1) _ rfl rfl 72 _ (hF _ kF) hs2 hold hcell ?_)
    exact bodyPost_ret (v := Value.agg Z) (results_cell_row rfl _ _ (N + 1) 72 _ (0, 0) _ rfl (hG _ kG) Tryd.underlying72 rfl hs2) rfl ⟨by rw [hag], by rw [hN]; exact kH⟩
end Go.Proofs.YtgamghmeefoopaaDoor
