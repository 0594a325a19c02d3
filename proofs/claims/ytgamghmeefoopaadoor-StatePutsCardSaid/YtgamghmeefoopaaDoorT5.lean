/- Bytes of registers set. -/
import Derived.Test.YtgamghmeefoopaaDoorT4
namespace Go.Proofs.YtgamghmeefoopaaDoor
open Go.RowKit
set_option linter.unusedVariables false
set_option linter.unusedSimpArgs false
set_option linter.unusedSectionVars false
theorem stop_load {ops : Array Oper} {rest : List Oper} {o : Oper} {a : Act} {w : World} {Q : Exit → Act → World → Prop} (ty : TypeId) (x : Operand) (ho : o.op = .load ty x) (h : RowKit.Hid (wpList Tryd.prog ops Q (o :: rest) a w)) : wpList Tryd.prog ops Q (o :: rest) a w := h
theorem row4 {w : World} {N : Nat} {t : TypeId} {a b c d : Int} (k : Blk w N t #[.int .u8 a, .int .u8 b, .int .u8 c, .int .u8 d]) (ha : 0 ≤ a ∧ a ≤ 255) (hb : 0 ≤ b ∧ b ≤ 255) (hc : 0 ≤ c ∧ c ≤ 255) (hd : 0 ≤ d ∧ d ≤ 255) :
    Row8 w (some ⟨N, 0, none⟩) 4 [a, b, c, d] := by
  refine ⟨rfl, fun z hz => ?_, .inr ⟨N, 0, rfl, k.lt, fun i hi => ?_⟩⟩
  · simp at hz; rcases hz with rfl | rfl | rfl | rfl <;> assumption
  · rcases (by omega : i = 0 ∨ i = 1 ∨ i = 2 ∨ i = 3) with rfl | rfl | rfl | rfl <;> exact k.cell rfl
theorem stA_one (g : Gs) : (stA g).all (·.oneCell') = true := by simp [stA, Value.oneCell']

theorem stA_set0 (g : Gs) (v : Int) : (stA g).setIfInBounds 0 (.int .u32 v) = stA (setr g 0 v) := by simp [stA, setr]
theorem stA_set1 (g : Gs) (v : Int) : (stA g).setIfInBounds 1 (.int .u32 v) = stA (setr g 1 v) := by simp [stA, setr]
theorem stA_set2 (g : Gs) (v : Int) : (stA g).setIfInBounds 2 (.int .u32 v) = stA (setr g 2 v) := by simp [stA, setr]
theorem stA_set3 (g : Gs) (v : Int) : (stA g).setIfInBounds 3 (.int .u32 v) = stA (setr g 3 v) := by simp [stA, setr]
theorem stA_set4 (g : Gs) (v : Int) : (stA g).setIfInBounds 4 (.int .u32 v) = stA (setr g 4 v) := by simp [stA, setr]
theorem stA_set5 (g : Gs) (v : Int) : (stA g).setIfInBounds 5 (.int .u32 v) = stA (setr g 5 v) := by simp [stA, setr]
theorem stA_set6 (g : Gs) (v : Int) : (stA g).setIfInBounds 6 (.int .u32 v) = stA (setr g 6 v) := by simp [stA, setr]
theorem stA_set7 (g : Gs) (v : Int) : (stA g).setIfInBounds 7 (.int .u32 v) = stA (setr g 7 v) := by simp [stA, setr]
theorem SetReg8_0 (g : Gs) (h : g.ok) (i v : Int) (hi : -9223372036854775808 ≤ i ∧ i ≤ 9223372036854775807) (hv : 0 ≤ v ∧ v ≤ 4294967295) (e : i % 8 = 0) (w : World) : Calls Tryd.prog 12 #[stV g, .int .i64 i, .int .u32 v] w fun e w' => e = .returned (stV (setr g 0 (setB (g.r 0) 0 v))) ∧ Below w.heap.size w w' := by
  have hb : ∀ w, Calls Tryd.prog 27 #[.int .i64 i] w fun e w' => e = .returned (.tuple #[.int .i64 0, .int .i64 0]) ∧ w = w' := fun w => by
    have := byteOf_any i hi w
    rw [e] at this
    exact this
  have hr := h.r 0
  clear e
  go_enter Tryd.func12, Tryd.ntmps12
  go_wp2_with (first | (go_at_call 27; refine (hb _).mono ?_; rintro e w' ⟨rfl, rfl⟩) | (go_at_call 28; refine (bytes_any _ hr _).mono ?_; rintro e w' ⟨rfl, rfl⟩))
  have kS := (((Blk.new w 28 (stA g)).alloc (.cells z17 28)).alloc (.cells #[.int .u8 (g.r 0 % 256), .int .u8 (g.r 0 / 256 % 256), .int .u8 (g.r 0 / 65536 % 256), .int .u8 (g.r 0 / 16777216)] 56)).alloc (.cells #[.int .u8 (v % 256), .int .u8 (g.r 0 / 256 % 256), .int .u8 (g.r 0 / 65536 % 256), .int .u8 (g.r 0 / 16777216)] 56)
  have kR := ((Blk.new (w.alloc (.cells (stA g) 28)) 28 z17).alloc (.cells #[.int .u8 (g.r 0 % 256), .int .u8 (g.r 0 / 256 % 256), .int .u8 (g.r 0 / 65536 % 256), .int .u8 (g.r 0 / 16777216)] 56)).alloc (.cells #[.int .u8 (v % 256), .int .u8 (g.r 0 / 256 % 256), .int .u8 (g.r 0 / 65536 % 256), .int .u8 (g.r 0 / 16777216)] 56)
  have kL := Blk.new (((w.alloc (.cells (stA g) 28)).alloc (.cells z17 28)).alloc (.cells #[.int .u8 (g.r 0 % 256), .int .u8 (g.r 0 / 256 % 256), .int .u8 (g.r 0 / 65536 % 256), .int .u8 (g.r 0 / 16777216)] 56)) 56 #[.int .u8 (v % 256), .int .u8 (g.r 0 / 256 % 256), .int .u8 (g.r 0 / 65536 % 256), .int .u8 (g.r 0 / 16777216)]
  have kb := ((((Below.refl _ w).alloc (Nat.le_refl _) (.cells (stA g) 28)).alloc (by simp) (.cells z17 28)).alloc (by simp; omega) (.cells #[.int .u8 (g.r 0 % 256), .int .u8 (g.r 0 / 256 % 256), .int .u8 (g.r 0 / 65536 % 256), .int .u8 (g.r 0 / 16777216)] 56)).alloc (by simp; omega) (.cells #[.int .u8 (v % 256), .int .u8 (g.r 0 / 256 % 256), .int .u8 (g.r 0 / 65536 % 256), .int .u8 (g.r 0 / 16777216)] 56)
  simp only [World.size_alloc] at kR kL
  have hrow := row4 kL (by omega) (by omega) (by omega) (by omega)
  refine (word_any _ _ _ _ _ hrow).mono ?_
  rintro e w1 ⟨rfl, b1⟩
  replace kb := kb.trans (b1.mono (by simp; omega))
  replace kS := kS.below b1 kS.lt
  replace kR := kR.below b1 kR.lt
  clear kL hrow b1
  generalize hN : w.heap.size = N at *
  have q := kS.cell (i := 0) (v := .int .u32 (g.r 0)) rfl
  have p := kS.fr 0
  have hval : wordS [v % 256, g.r 0 / 256 % 256, g.r 0 / 65536 % 256, g.r 0 / 16777216] = setB (g.r 0) 0 v := by simp [wordS, setB]; omega
  rw [hval]
  have kE := kS.set 0 (.int .u32 (setB (g.r 0) 0 v))
  rw [stA_set0] at kE
  have kF := kR.other 0 (.int .u32 (setB (g.r 0) 0 v)) (show N + 1 ≠ N by omega)
  have kG := kF.row (stA (setr g 0 (setB (g.r 0) 0 v)))
  have kH := below_rowNew (kb.setCell (p := ⟨N, 0, none⟩) (by simp) (.int .u32 (setB (g.r 0) 0 v))) (N := N + 1) (by omega) (stA (setr g 0 (setB (g.r 0) 0 v)))
  clear kS kR kb hval
  have hs2 : (Tryd.prog.info? 28).map (·.size) = some (stA (setr g 0 (setB (g.r 0) 0 v))).size := sz17
  have hold : z17.size = (stA (setr g 0 (setB (g.r 0) 0 v))).size := rfl
  have hcell : (stA (setr g 0 (setB (g.r 0) 0 v))).all (·.oneCell') = true := stA_one _
  have hag : Value.agg (stA (setr g 0 (setB (g.r 0) 0 v))) = stV (setr g 0 (setB (g.r 0) 0 v)) := rfl
  generalize stA (setr g 0 (setB (g.r 0) 0 v)) = Z at *
  generalize z17 = Z0 at *
  go_wp2_with (first | with_reducible refine wpList_load_row rfl 28 _ rfl N rfl 28 _ (0, 0) _ kE.h Tryd.underlying28 rfl hs2 ?_ | with_reducible refine wpList_store_row rfl 28 _ _ rfl (N + 1) _ rfl rfl 28 _ kF.h hs2 hold hcell ?_)
  exact bodyPost_ret (v := Value.agg Z) (results_cell_row rfl _ _ (N + 1) 28 _ (0, 0) _ rfl kG.h Tryd.underlying28 rfl hs2) rfl ⟨by rw [hag], by rw [hN]; exact kH⟩
theorem SetReg8_1 (g : Gs) (h : g.ok) (i v : Int) (hi : -9223372036854775808 ≤ i ∧ i ≤ 9223372036854775807) (hv : 0 ≤ v ∧ v ≤ 4294967295) (e : i % 8 = 1) (w : World) : Calls Tryd.prog 12 #[stV g, .int .i64 i, .int .u32 v] w fun e w' => e = .returned (stV (setr g 1 (setB (g.r 1) 0 v))) ∧ Below w.heap.size w w' := by
  have hb : ∀ w, Calls Tryd.prog 27 #[.int .i64 i] w fun e w' => e = .returned (.tuple #[.int .i64 1, .int .i64 0]) ∧ w = w' := fun w => by
    have := byteOf_any i hi w
    rw [e] at this
    exact this
  have hr := h.r 1
  clear e
  go_enter Tryd.func12, Tryd.ntmps12
  go_wp2_with (first | (go_at_call 27; refine (hb _).mono ?_; rintro e w' ⟨rfl, rfl⟩) | (go_at_call 28; refine (bytes_any _ hr _).mono ?_; rintro e w' ⟨rfl, rfl⟩))
  have kS := (((Blk.new w 28 (stA g)).alloc (.cells z17 28)).alloc (.cells #[.int .u8 (g.r 1 % 256), .int .u8 (g.r 1 / 256 % 256), .int .u8 (g.r 1 / 65536 % 256), .int .u8 (g.r 1 / 16777216)] 56)).alloc (.cells #[.int .u8 (v % 256), .int .u8 (g.r 1 / 256 % 256), .int .u8 (g.r 1 / 65536 % 256), .int .u8 (g.r 1 / 16777216)] 56)
  have kR := ((Blk.new (w.alloc (.cells (stA g) 28)) 28 z17).alloc (.cells #[.int .u8 (g.r 1 % 256), .int .u8 (g.r 1 / 256 % 256), .int .u8 (g.r 1 / 65536 % 256), .int .u8 (g.r 1 / 16777216)] 56)).alloc (.cells #[.int .u8 (v % 256), .int .u8 (g.r 1 / 256 % 256), .int .u8 (g.r 1 / 65536 % 256), .int .u8 (g.r 1 / 16777216)] 56)
  have kL := Blk.new (((w.alloc (.cells (stA g) 28)).alloc (.cells z17 28)).alloc (.cells #[.int .u8 (g.r 1 % 256), .int .u8 (g.r 1 / 256 % 256), .int .u8 (g.r 1 / 65536 % 256), .int .u8 (g.r 1 / 16777216)] 56)) 56 #[.int .u8 (v % 256), .int .u8 (g.r 1 / 256 % 256), .int .u8 (g.r 1 / 65536 % 256), .int .u8 (g.r 1 / 16777216)]
  have kb := ((((Below.refl _ w).alloc (Nat.le_refl _) (.cells (stA g) 28)).alloc (by simp) (.cells z17 28)).alloc (by simp; omega) (.cells #[.int .u8 (g.r 1 % 256), .int .u8 (g.r 1 / 256 % 256), .int .u8 (g.r 1 / 65536 % 256), .int .u8 (g.r 1 / 16777216)] 56)).alloc (by simp; omega) (.cells #[.int .u8 (v % 256), .int .u8 (g.r 1 / 256 % 256), .int .u8 (g.r 1 / 65536 % 256), .int .u8 (g.r 1 / 16777216)] 56)
  simp only [World.size_alloc] at kR kL
  have hrow := row4 kL (by omega) (by omega) (by omega) (by omega)
  refine (word_any _ _ _ _ _ hrow).mono ?_
  rintro e w1 ⟨rfl, b1⟩
  replace kb := kb.trans (b1.mono (by simp; omega))
  replace kS := kS.below b1 kS.lt
  replace kR := kR.below b1 kR.lt
  clear kL hrow b1
  generalize hN : w.heap.size = N at *
  have q := kS.cell (i := 1) (v := .int .u32 (g.r 1)) rfl
  have p := kS.fr 1
  have hval : wordS [v % 256, g.r 1 / 256 % 256, g.r 1 / 65536 % 256, g.r 1 / 16777216] = setB (g.r 1) 0 v := by simp [wordS, setB]; omega
  rw [hval]
  have kE := kS.set 1 (.int .u32 (setB (g.r 1) 0 v))
  rw [stA_set1] at kE
  have kF := kR.other 1 (.int .u32 (setB (g.r 1) 0 v)) (show N + 1 ≠ N by omega)
  have kG := kF.row (stA (setr g 1 (setB (g.r 1) 0 v)))
  have kH := below_rowNew (kb.setCell (p := ⟨N, 1, none⟩) (by simp) (.int .u32 (setB (g.r 1) 0 v))) (N := N + 1) (by omega) (stA (setr g 1 (setB (g.r 1) 0 v)))
  clear kS kR kb hval
  have hs2 : (Tryd.prog.info? 28).map (·.size) = some (stA (setr g 1 (setB (g.r 1) 0 v))).size := sz17
  have hold : z17.size = (stA (setr g 1 (setB (g.r 1) 0 v))).size := rfl
  have hcell : (stA (setr g 1 (setB (g.r 1) 0 v))).all (·.oneCell') = true := stA_one _
  have hag : Value.agg (stA (setr g 1 (setB (g.r 1) 0 v))) = stV (setr g 1 (setB (g.r 1) 0 v)) := rfl
  generalize stA (setr g 1 (setB (g.r 1) 0 v)) = Z at *
  generalize z17 = Z0 at *
  go_wp2_with (first | with_reducible refine wpList_load_row rfl 28 _ rfl N rfl 28 _ (0, 0) _ kE.h Tryd.underlying28 rfl hs2 ?_ | with_reducible refine wpList_store_row rfl 28 _ _ rfl (N + 1) _ rfl rfl 28 _ kF.h hs2 hold hcell ?_)
  exact bodyPost_ret (v := Value.agg Z) (results_cell_row rfl _ _ (N + 1) 28 _ (0, 0) _ rfl kG.h Tryd.underlying28 rfl hs2) rfl ⟨by rw [hag], by rw [hN]; exact kH⟩
theorem SetReg8_2 (g : Gs) (h : g.ok) (i v : Int) (hi : -9223372036854775808 ≤ i ∧ i ≤ 9223372036854775807) (hv : 0 ≤ v ∧ v ≤ 4294967295) (e : i % 8 = 2) (w : World) : Calls Tryd.prog 12 #[stV g, .int .i64 i, .int .u32 v] w fun e w' => e = .returned (stV (setr g 2 (setB (g.r 2) 0 v))) ∧ Below w.heap.size w w' := by
  have hb : ∀ w, Calls Tryd.prog 27 #[.int .i64 i] w fun e w' => e = .returned (.tuple #[.int .i64 2, .int .i64 0]) ∧ w = w' := fun w => by
    have := byteOf_any i hi w
    rw [e] at this
    exact this
  have hr := h.r 2
  clear e
  go_enter Tryd.func12, Tryd.ntmps12
  go_wp2_with (first | (go_at_call 27; refine (hb _).mono ?_; rintro e w' ⟨rfl, rfl⟩) | (go_at_call 28; refine (bytes_any _ hr _).mono ?_; rintro e w' ⟨rfl, rfl⟩))
  have kS := (((Blk.new w 28 (stA g)).alloc (.cells z17 28)).alloc (.cells #[.int .u8 (g.r 2 % 256), .int .u8 (g.r 2 / 256 % 256), .int .u8 (g.r 2 / 65536 % 256), .int .u8 (g.r 2 / 16777216)] 56)).alloc (.cells #[.int .u8 (v % 256), .int .u8 (g.r 2 / 256 % 256), .int .u8 (g.r 2 / 65536 % 256), .int .u8 (g.r 2 / 16777216)] 56)
  have kR := ((Blk.new (w.alloc (.cells (stA g) 28)) 28 z17).alloc (.cells #[.int .u8 (g.r 2 % 256), .int .u8 (g.r 2 / 256 % 256), .int .u8 (g.r 2 / 65536 % 256), .int .u8 (g.r 2 / 16777216)] 56)).alloc (.cells #[.int .u8 (v % 256), .int .u8 (g.r 2 / 256 % 256), .int .u8 (g.r 2 / 65536 % 256), .int .u8 (g.r 2 / 16777216)] 56)
  have kL := Blk.new (((w.alloc (.cells (stA g) 28)).alloc (.cells z17 28)).alloc (.cells #[.int .u8 (g.r 2 % 256), .int .u8 (g.r 2 / 256 % 256), .int .u8 (g.r 2 / 65536 % 256), .int .u8 (g.r 2 / 16777216)] 56)) 56 #[.int .u8 (v % 256), .int .u8 (g.r 2 / 256 % 256), .int .u8 (g.r 2 / 65536 % 256), .int .u8 (g.r 2 / 16777216)]
  have kb := ((((Below.refl _ w).alloc (Nat.le_refl _) (.cells (stA g) 28)).alloc (by simp) (.cells z17 28)).alloc (by simp; omega) (.cells #[.int .u8 (g.r 2 % 256), .int .u8 (g.r 2 / 256 % 256), .int .u8 (g.r 2 / 65536 % 256), .int .u8 (g.r 2 / 16777216)] 56)).alloc (by simp; omega) (.cells #[.int .u8 (v % 256), .int .u8 (g.r 2 / 256 % 256), .int .u8 (g.r 2 / 65536 % 256), .int .u8 (g.r 2 / 16777216)] 56)
  simp only [World.size_alloc] at kR kL
  have hrow := row4 kL (by omega) (by omega) (by omega) (by omega)
  refine (word_any _ _ _ _ _ hrow).mono ?_
  rintro e w1 ⟨rfl, b1⟩
  replace kb := kb.trans (b1.mono (by simp; omega))
  replace kS := kS.below b1 kS.lt
  replace kR := kR.below b1 kR.lt
  clear kL hrow b1
  generalize hN : w.heap.size = N at *
  have q := kS.cell (i := 2) (v := .int .u32 (g.r 2)) rfl
  have p := kS.fr 2
  have hval : wordS [v % 256, g.r 2 / 256 % 256, g.r 2 / 65536 % 256, g.r 2 / 16777216] = setB (g.r 2) 0 v := by simp [wordS, setB]; omega
  rw [hval]
  have kE := kS.set 2 (.int .u32 (setB (g.r 2) 0 v))
  rw [stA_set2] at kE
  have kF := kR.other 2 (.int .u32 (setB (g.r 2) 0 v)) (show N + 1 ≠ N by omega)
  have kG := kF.row (stA (setr g 2 (setB (g.r 2) 0 v)))
  have kH := below_rowNew (kb.setCell (p := ⟨N, 2, none⟩) (by simp) (.int .u32 (setB (g.r 2) 0 v))) (N := N + 1) (by omega) (stA (setr g 2 (setB (g.r 2) 0 v)))
  clear kS kR kb hval
  have hs2 : (Tryd.prog.info? 28).map (·.size) = some (stA (setr g 2 (setB (g.r 2) 0 v))).size := sz17
  have hold : z17.size = (stA (setr g 2 (setB (g.r 2) 0 v))).size := rfl
  have hcell : (stA (setr g 2 (setB (g.r 2) 0 v))).all (·.oneCell') = true := stA_one _
  have hag : Value.agg (stA (setr g 2 (setB (g.r 2) 0 v))) = stV (setr g 2 (setB (g.r 2) 0 v)) := rfl
  generalize stA (setr g 2 (setB (g.r 2) 0 v)) = Z at *
  generalize z17 = Z0 at *
  go_wp2_with (first | with_reducible refine wpList_load_row rfl 28 _ rfl N rfl 28 _ (0, 0) _ kE.h Tryd.underlying28 rfl hs2 ?_ | with_reducible refine wpList_store_row rfl 28 _ _ rfl (N + 1) _ rfl rfl 28 _ kF.h hs2 hold hcell ?_)
  exact bodyPost_ret (v := Value.agg Z) (results_cell_row rfl _ _ (N + 1) 28 _ (0, 0) _ rfl kG.h Tryd.underlying28 rfl hs2) rfl ⟨by rw [hag], by rw [hN]; exact kH⟩
theorem SetReg8_3 (g : Gs) (h : g.ok) (i v : Int) (hi : -9223372036854775808 ≤ i ∧ i ≤ 9223372036854775807) (hv : 0 ≤ v ∧ v ≤ 4294967295) (e : i % 8 = 3) (w : World) : Calls Tryd.prog 12 #[stV g, .int .i64 i, .int .u32 v] w fun e w' => e = .returned (stV (setr g 3 (setB (g.r 3) 0 v))) ∧ Below w.heap.size w w' := by
  have hb : ∀ w, Calls Tryd.prog 27 #[.int .i64 i] w fun e w' => e = .returned (.tuple #[.int .i64 3, .int .i64 0]) ∧ w = w' := fun w => by
    have := byteOf_any i hi w
    rw [e] at this
    exact this
  have hr := h.r 3
  clear e
  go_enter Tryd.func12, Tryd.ntmps12
  go_wp2_with (first | (go_at_call 27; refine (hb _).mono ?_; rintro e w' ⟨rfl, rfl⟩) | (go_at_call 28; refine (bytes_any _ hr _).mono ?_; rintro e w' ⟨rfl, rfl⟩))
  have kS := (((Blk.new w 28 (stA g)).alloc (.cells z17 28)).alloc (.cells #[.int .u8 (g.r 3 % 256), .int .u8 (g.r 3 / 256 % 256), .int .u8 (g.r 3 / 65536 % 256), .int .u8 (g.r 3 / 16777216)] 56)).alloc (.cells #[.int .u8 (v % 256), .int .u8 (g.r 3 / 256 % 256), .int .u8 (g.r 3 / 65536 % 256), .int .u8 (g.r 3 / 16777216)] 56)
  have kR := ((Blk.new (w.alloc (.cells (stA g) 28)) 28 z17).alloc (.cells #[.int .u8 (g.r 3 % 256), .int .u8 (g.r 3 / 256 % 256), .int .u8 (g.r 3 / 65536 % 256), .int .u8 (g.r 3 / 16777216)] 56)).alloc (.cells #[.int .u8 (v % 256), .int .u8 (g.r 3 / 256 % 256), .int .u8 (g.r 3 / 65536 % 256), .int .u8 (g.r 3 / 16777216)] 56)
  have kL := Blk.new (((w.alloc (.cells (stA g) 28)).alloc (.cells z17 28)).alloc (.cells #[.int .u8 (g.r 3 % 256), .int .u8 (g.r 3 / 256 % 256), .int .u8 (g.r 3 / 65536 % 256), .int .u8 (g.r 3 / 16777216)] 56)) 56 #[.int .u8 (v % 256), .int .u8 (g.r 3 / 256 % 256), .int .u8 (g.r 3 / 65536 % 256), .int .u8 (g.r 3 / 16777216)]
  have kb := ((((Below.refl _ w).alloc (Nat.le_refl _) (.cells (stA g) 28)).alloc (by simp) (.cells z17 28)).alloc (by simp; omega) (.cells #[.int .u8 (g.r 3 % 256), .int .u8 (g.r 3 / 256 % 256), .int .u8 (g.r 3 / 65536 % 256), .int .u8 (g.r 3 / 16777216)] 56)).alloc (by simp; omega) (.cells #[.int .u8 (v % 256), .int .u8 (g.r 3 / 256 % 256), .int .u8 (g.r 3 / 65536 % 256), .int .u8 (g.r 3 / 16777216)] 56)
  simp only [World.size_alloc] at kR kL
  have hrow := row4 kL (by omega) (by omega) (by omega) (by omega)
  refine (word_any _ _ _ _ _ hrow).mono ?_
  rintro e w1 ⟨rfl, b1⟩
  replace kb := kb.trans (b1.mono (by simp; omega))
  replace kS := kS.below b1 kS.lt
  replace kR := kR.below b1 kR.lt
  clear kL hrow b1
  generalize hN : w.heap.size = N at *
  have q := kS.cell (i := 3) (v := .int .u32 (g.r 3)) rfl
  have p := kS.fr 3
  have hval : wordS [v % 256, g.r 3 / 256 % 256, g.r 3 / 65536 % 256, g.r 3 / 16777216] = setB (g.r 3) 0 v := by simp [wordS, setB]; omega
  rw [hval]
  have kE := kS.set 3 (.int .u32 (setB (g.r 3) 0 v))
  rw [stA_set3] at kE
  have kF := kR.other 3 (.int .u32 (setB (g.r 3) 0 v)) (show N + 1 ≠ N by omega)
  have kG := kF.row (stA (setr g 3 (setB (g.r 3) 0 v)))
  have kH := below_rowNew (kb.setCell (p := ⟨N, 3, none⟩) (by simp) (.int .u32 (setB (g.r 3) 0 v))) (N := N + 1) (by omega) (stA (setr g 3 (setB (g.r 3) 0 v)))
  clear kS kR kb hval
  have hs2 : (Tryd.prog.info? 28).map (·.size) = some (stA (setr g 3 (setB (g.r 3) 0 v))).size := sz17
  have hold : z17.size = (stA (setr g 3 (setB (g.r 3) 0 v))).size := rfl
  have hcell : (stA (setr g 3 (setB (g.r 3) 0 v))).all (·.oneCell') = true := stA_one _
  have hag : Value.agg (stA (setr g 3 (setB (g.r 3) 0 v))) = stV (setr g 3 (setB (g.r 3) 0 v)) := rfl
  generalize stA (setr g 3 (setB (g.r 3) 0 v)) = Z at *
  generalize z17 = Z0 at *
  go_wp2_with (first | with_reducible refine wpList_load_row rfl 28 _ rfl N rfl 28 _ (0, 0) _ kE.h Tryd.underlying28 rfl hs2 ?_ | with_reducible refine wpList_store_row rfl 28 _ _ rfl (N + 1) _ rfl rfl 28 _ kF.h hs2 hold hcell ?_)
  exact bodyPost_ret (v := Value.agg Z) (results_cell_row rfl _ _ (N + 1) 28 _ (0, 0) _ rfl kG.h Tryd.underlying28 rfl hs2) rfl ⟨by rw [hag], by rw [hN]; exact kH⟩
theorem SetReg8_4 (g : Gs) (h : g.ok) (i v : Int) (hi : -9223372036854775808 ≤ i ∧ i ≤ 9223372036854775807) (hv : 0 ≤ v ∧ v ≤ 4294967295) (e : i % 8 = 4) (w : World) : Calls Tryd.prog 12 #[stV g, .int .i64 i, .int .u32 v] w fun e w' => e = .returned (stV (setr g 0 (setB (g.r 0) 1 v))) ∧ Below w.heap.size w w' := by
  have hb : ∀ w, Calls Tryd.prog 27 #[.int .i64 i] w fun e w' => e = .returned (.tuple #[.int .i64 0, .int .i64 1]) ∧ w = w' := fun w => by
    have := byteOf_any i hi w
    rw [e] at this
    exact this
  have hr := h.r 0
  clear e
  go_enter Tryd.func12, Tryd.ntmps12
  go_wp2_with (first | (go_at_call 27; refine (hb _).mono ?_; rintro e w' ⟨rfl, rfl⟩) | (go_at_call 28; refine (bytes_any _ hr _).mono ?_; rintro e w' ⟨rfl, rfl⟩))
  have kS := (((Blk.new w 28 (stA g)).alloc (.cells z17 28)).alloc (.cells #[.int .u8 (g.r 0 % 256), .int .u8 (g.r 0 / 256 % 256), .int .u8 (g.r 0 / 65536 % 256), .int .u8 (g.r 0 / 16777216)] 56)).alloc (.cells #[.int .u8 (g.r 0 % 256), .int .u8 (v % 256), .int .u8 (g.r 0 / 65536 % 256), .int .u8 (g.r 0 / 16777216)] 56)
  have kR := ((Blk.new (w.alloc (.cells (stA g) 28)) 28 z17).alloc (.cells #[.int .u8 (g.r 0 % 256), .int .u8 (g.r 0 / 256 % 256), .int .u8 (g.r 0 / 65536 % 256), .int .u8 (g.r 0 / 16777216)] 56)).alloc (.cells #[.int .u8 (g.r 0 % 256), .int .u8 (v % 256), .int .u8 (g.r 0 / 65536 % 256), .int .u8 (g.r 0 / 16777216)] 56)
  have kL := Blk.new (((w.alloc (.cells (stA g) 28)).alloc (.cells z17 28)).alloc (.cells #[.int .u8 (g.r 0 % 256), .int .u8 (g.r 0 / 256 % 256), .int .u8 (g.r 0 / 65536 % 256), .int .u8 (g.r 0 / 16777216)] 56)) 56 #[.int .u8 (g.r 0 % 256), .int .u8 (v % 256), .int .u8 (g.r 0 / 65536 % 256), .int .u8 (g.r 0 / 16777216)]
  have kb := ((((Below.refl _ w).alloc (Nat.le_refl _) (.cells (stA g) 28)).alloc (by simp) (.cells z17 28)).alloc (by simp; omega) (.cells #[.int .u8 (g.r 0 % 256), .int .u8 (g.r 0 / 256 % 256), .int .u8 (g.r 0 / 65536 % 256), .int .u8 (g.r 0 / 16777216)] 56)).alloc (by simp; omega) (.cells #[.int .u8 (g.r 0 % 256), .int .u8 (v % 256), .int .u8 (g.r 0 / 65536 % 256), .int .u8 (g.r 0 / 16777216)] 56)
  simp only [World.size_alloc] at kR kL
  have hrow := row4 kL (by omega) (by omega) (by omega) (by omega)
  refine (word_any _ _ _ _ _ hrow).mono ?_
  rintro e w1 ⟨rfl, b1⟩
  replace kb := kb.trans (b1.mono (by simp; omega))
  replace kS := kS.below b1 kS.lt
  replace kR := kR.below b1 kR.lt
  clear kL hrow b1
  generalize hN : w.heap.size = N at *
  have q := kS.cell (i := 0) (v := .int .u32 (g.r 0)) rfl
  have p := kS.fr 0
  have hval : wordS [g.r 0 % 256, v % 256, g.r 0 / 65536 % 256, g.r 0 / 16777216] = setB (g.r 0) 1 v := by simp [wordS, setB]; omega
  rw [hval]
  have kE := kS.set 0 (.int .u32 (setB (g.r 0) 1 v))
  rw [stA_set0] at kE
  have kF := kR.other 0 (.int .u32 (setB (g.r 0) 1 v)) (show N + 1 ≠ N by omega)
  have kG := kF.row (stA (setr g 0 (setB (g.r 0) 1 v)))
  have kH := below_rowNew (kb.setCell (p := ⟨N, 0, none⟩) (by simp) (.int .u32 (setB (g.r 0) 1 v))) (N := N + 1) (by omega) (stA (setr g 0 (setB (g.r 0) 1 v)))
  clear kS kR kb hval
  have hs2 : (Tryd.prog.info? 28).map (·.size) = some (stA (setr g 0 (setB (g.r 0) 1 v))).size := sz17
  have hold : z17.size = (stA (setr g 0 (setB (g.r 0) 1 v))).size := rfl
  have hcell : (stA (setr g 0 (setB (g.r 0) 1 v))).all (·.oneCell') = true := stA_one _
  have hag : Value.agg (stA (setr g 0 (setB (g.r 0) 1 v))) = stV (setr g 0 (setB (g.r 0) 1 v)) := rfl
  generalize stA (setr g 0 (setB (g.r 0) 1 v)) = Z at *
  generalize z17 = Z0 at *
  go_wp2_with (first | with_reducible refine wpList_load_row rfl 28 _ rfl N rfl 28 _ (0, 0) _ kE.h Tryd.underlying28 rfl hs2 ?_ | with_reducible refine wpList_store_row rfl 28 _ _ rfl (N + 1) _ rfl rfl 28 _ kF.h hs2 hold hcell ?_)
  exact bodyPost_ret (v := Value.agg Z) (results_cell_row rfl _ _ (N + 1) 28 _ (0, 0) _ rfl kG.h Tryd.underlying28 rfl hs2) rfl ⟨by rw [hag], by rw [hN]; exact kH⟩
theorem SetReg8_5 (g : Gs) (h : g.ok) (i v : Int) (hi : -9223372036854775808 ≤ i ∧ i ≤ 9223372036854775807) (hv : 0 ≤ v ∧ v ≤ 4294967295) (e : i % 8 = 5) (w : World) : Calls Tryd.prog 12 #[stV g, .int .i64 i, .int .u32 v] w fun e w' => e = .returned (stV (setr g 1 (setB (g.r 1) 1 v))) ∧ Below w.heap.size w w' := by
  have hb : ∀ w, Calls Tryd.prog 27 #[.int .i64 i] w fun e w' => e = .returned (.tuple #[.int .i64 1, .int .i64 1]) ∧ w = w' := fun w => by
    have := byteOf_any i hi w
    rw [e] at this
    exact this
  have hr := h.r 1
  clear e
  go_enter Tryd.func12, Tryd.ntmps12
  go_wp2_with (first | (go_at_call 27; refine (hb _).mono ?_; rintro e w' ⟨rfl, rfl⟩) | (go_at_call 28; refine (bytes_any _ hr _).mono ?_; rintro e w' ⟨rfl, rfl⟩))
  have kS := (((Blk.new w 28 (stA g)).alloc (.cells z17 28)).alloc (.cells #[.int .u8 (g.r 1 % 256), .int .u8 (g.r 1 / 256 % 256), .int .u8 (g.r 1 / 65536 % 256), .int .u8 (g.r 1 / 16777216)] 56)).alloc (.cells #[.int .u8 (g.r 1 % 256), .int .u8 (v % 256), .int .u8 (g.r 1 / 65536 % 256), .int .u8 (g.r 1 / 16777216)] 56)
  have kR := ((Blk.new (w.alloc (.cells (stA g) 28)) 28 z17).alloc (.cells #[.int .u8 (g.r 1 % 256), .int .u8 (g.r 1 / 256 % 256), .int .u8 (g.r 1 / 65536 % 256), .int .u8 (g.r 1 / 16777216)] 56)).alloc (.cells #[.int .u8 (g.r 1 % 256), .int .u8 (v % 256), .int .u8 (g.r 1 / 65536 % 256), .int .u8 (g.r 1 / 16777216)] 56)
  have kL := Blk.new (((w.alloc (.cells (stA g) 28)).alloc (.cells z17 28)).alloc (.cells #[.int .u8 (g.r 1 % 256), .int .u8 (g.r 1 / 256 % 256), .int .u8 (g.r 1 / 65536 % 256), .int .u8 (g.r 1 / 16777216)] 56)) 56 #[.int .u8 (g.r 1 % 256), .int .u8 (v % 256), .int .u8 (g.r 1 / 65536 % 256), .int .u8 (g.r 1 / 16777216)]
  have kb := ((((Below.refl _ w).alloc (Nat.le_refl _) (.cells (stA g) 28)).alloc (by simp) (.cells z17 28)).alloc (by simp; omega) (.cells #[.int .u8 (g.r 1 % 256), .int .u8 (g.r 1 / 256 % 256), .int .u8 (g.r 1 / 65536 % 256), .int .u8 (g.r 1 / 16777216)] 56)).alloc (by simp; omega) (.cells #[.int .u8 (g.r 1 % 256), .int .u8 (v % 256), .int .u8 (g.r 1 / 65536 % 256), .int .u8 (g.r 1 / 16777216)] 56)
  simp only [World.size_alloc] at kR kL
  have hrow := row4 kL (by omega) (by omega) (by omega) (by omega)
  refine (word_any _ _ _ _ _ hrow).mono ?_
  rintro e w1 ⟨rfl, b1⟩
  replace kb := kb.trans (b1.mono (by simp; omega))
  replace kS := kS.below b1 kS.lt
  replace kR := kR.below b1 kR.lt
  clear kL hrow b1
  generalize hN : w.heap.size = N at *
  have q := kS.cell (i := 1) (v := .int .u32 (g.r 1)) rfl
  have p := kS.fr 1
  have hval : wordS [g.r 1 % 256, v % 256, g.r 1 / 65536 % 256, g.r 1 / 16777216] = setB (g.r 1) 1 v := by simp [wordS, setB]; omega
  rw [hval]
  have kE := kS.set 1 (.int .u32 (setB (g.r 1) 1 v))
  rw [stA_set1] at kE
  have kF := kR.other 1 (.int .u32 (setB (g.r 1) 1 v)) (show N + 1 ≠ N by omega)
  have kG := kF.row (stA (setr g 1 (setB (g.r 1) 1 v)))
  have kH := below_rowNew (kb.setCell (p := ⟨N, 1, none⟩) (by simp) (.int .u32 (setB (g.r 1) 1 v))) (N := N + 1) (by omega) (stA (setr g 1 (setB (g.r 1) 1 v)))
  clear kS kR kb hval
  have hs2 : (Tryd.prog.info? 28).map (·.size) = some (stA (setr g 1 (setB (g.r 1) 1 v))).size := sz17
  have hold : z17.size = (stA (setr g 1 (setB (g.r 1) 1 v))).size := rfl
  have hcell : (stA (setr g 1 (setB (g.r 1) 1 v))).all (·.oneCell') = true := stA_one _
  have hag : Value.agg (stA (setr g 1 (setB (g.r 1) 1 v))) = stV (setr g 1 (setB (g.r 1) 1 v)) := rfl
  generalize stA (setr g 1 (setB (g.r 1) 1 v)) = Z at *
  generalize z17 = Z0 at *
  go_wp2_with (first | with_reducible refine wpList_load_row rfl 28 _ rfl N rfl 28 _ (0, 0) _ kE.h Tryd.underlying28 rfl hs2 ?_ | with_reducible refine wpList_store_row rfl 28 _ _ rfl (N + 1) _ rfl rfl 28 _ kF.h hs2 hold hcell ?_)
  exact bodyPost_ret (v := Value.agg Z) (results_cell_row rfl _ _ (N + 1) 28 _ (0, 0) _ rfl kG.h Tryd.underlying28 rfl hs2) rfl ⟨by rw [hag], by rw [hN]; exact kH⟩
theorem SetReg8_6 (g : Gs) (h : g.ok) (i v : Int) (hi : -9223372036854775808 ≤ i ∧ i ≤ 9223372036854775807) (hv : 0 ≤ v ∧ v ≤ 4294967295) (e : i % 8 = 6) (w : World) : Calls Tryd.prog 12 #[stV g, .int .i64 i, .int .u32 v] w fun e w' => e = .returned (stV (setr g 2 (setB (g.r 2) 1 v))) ∧ Below w.heap.size w w' := by
  have hb : ∀ w, Calls Tryd.prog 27 #[.int .i64 i] w fun e w' => e = .returned (.tuple #[.int .i64 2, .int .i64 1]) ∧ w = w' := fun w => by
    have := byteOf_any i hi w
    rw [e] at this
    exact this
  have hr := h.r 2
  clear e
  go_enter Tryd.func12, Tryd.ntmps12
  go_wp2_with (first | (go_at_call 27; refine (hb _).mono ?_; rintro e w' ⟨rfl, rfl⟩) | (go_at_call 28; refine (bytes_any _ hr _).mono ?_; rintro e w' ⟨rfl, rfl⟩))
  have kS := (((Blk.new w 28 (stA g)).alloc (.cells z17 28)).alloc (.cells #[.int .u8 (g.r 2 % 256), .int .u8 (g.r 2 / 256 % 256), .int .u8 (g.r 2 / 65536 % 256), .int .u8 (g.r 2 / 16777216)] 56)).alloc (.cells #[.int .u8 (g.r 2 % 256), .int .u8 (v % 256), .int .u8 (g.r 2 / 65536 % 256), .int .u8 (g.r 2 / 16777216)] 56)
  have kR := ((Blk.new (w.alloc (.cells (stA g) 28)) 28 z17).alloc (.cells #[.int .u8 (g.r 2 % 256), .int .u8 (g.r 2 / 256 % 256), .int .u8 (g.r 2 / 65536 % 256), .int .u8 (g.r 2 / 16777216)] 56)).alloc (.cells #[.int .u8 (g.r 2 % 256), .int .u8 (v % 256), .int .u8 (g.r 2 / 65536 % 256), .int .u8 (g.r 2 / 16777216)] 56)
  have kL := Blk.new (((w.alloc (.cells (stA g) 28)).alloc (.cells z17 28)).alloc (.cells #[.int .u8 (g.r 2 % 256), .int .u8 (g.r 2 / 256 % 256), .int .u8 (g.r 2 / 65536 % 256), .int .u8 (g.r 2 / 16777216)] 56)) 56 #[.int .u8 (g.r 2 % 256), .int .u8 (v % 256), .int .u8 (g.r 2 / 65536 % 256), .int .u8 (g.r 2 / 16777216)]
  have kb := ((((Below.refl _ w).alloc (Nat.le_refl _) (.cells (stA g) 28)).alloc (by simp) (.cells z17 28)).alloc (by simp; omega) (.cells #[.int .u8 (g.r 2 % 256), .int .u8 (g.r 2 / 256 % 256), .int .u8 (g.r 2 / 65536 % 256), .int .u8 (g.r 2 / 16777216)] 56)).alloc (by simp; omega) (.cells #[.int .u8 (g.r 2 % 256), .int .u8 (v % 256), .int .u8 (g.r 2 / 65536 % 256), .int .u8 (g.r 2 / 16777216)] 56)
  simp only [World.size_alloc] at kR kL
  have hrow := row4 kL (by omega) (by omega) (by omega) (by omega)
  refine (word_any _ _ _ _ _ hrow).mono ?_
  rintro e w1 ⟨rfl, b1⟩
  replace kb := kb.trans (b1.mono (by simp; omega))
  replace kS := kS.below b1 kS.lt
  replace kR := kR.below b1 kR.lt
  clear kL hrow b1
  generalize hN : w.heap.size = N at *
  have q := kS.cell (i := 2) (v := .int .u32 (g.r 2)) rfl
  have p := kS.fr 2
  have hval : wordS [g.r 2 % 256, v % 256, g.r 2 / 65536 % 256, g.r 2 / 16777216] = setB (g.r 2) 1 v := by simp [wordS, setB]; omega
  rw [hval]
  have kE := kS.set 2 (.int .u32 (setB (g.r 2) 1 v))
  rw [stA_set2] at kE
  have kF := kR.other 2 (.int .u32 (setB (g.r 2) 1 v)) (show N + 1 ≠ N by omega)
  have kG := kF.row (stA (setr g 2 (setB (g.r 2) 1 v)))
  have kH := below_rowNew (kb.setCell (p := ⟨N, 2, none⟩) (by simp) (.int .u32 (setB (g.r 2) 1 v))) (N := N + 1) (by omega) (stA (setr g 2 (setB (g.r 2) 1 v)))
  clear kS kR kb hval
  have hs2 : (Tryd.prog.info? 28).map (·.size) = some (stA (setr g 2 (setB (g.r 2) 1 v))).size := sz17
  have hold : z17.size = (stA (setr g 2 (setB (g.r 2) 1 v))).size := rfl
  have hcell : (stA (setr g 2 (setB (g.r 2) 1 v))).all (·.oneCell') = true := stA_one _
  have hag : Value.agg (stA (setr g 2 (setB (g.r 2) 1 v))) = stV (setr g 2 (setB (g.r 2) 1 v)) := rfl
  generalize stA (setr g 2 (setB (g.r 2) 1 v)) = Z at *
  generalize z17 = Z0 at *
  go_wp2_with (first | with_reducible refine wpList_load_row rfl 28 _ rfl N rfl 28 _ (0, 0) _ kE.h Tryd.underlying28 rfl hs2 ?_ | with_reducible refine wpList_store_row rfl 28 _ _ rfl (N + 1) _ rfl rfl 28 _ kF.h hs2 hold hcell ?_)
  exact bodyPost_ret (v := Value.agg Z) (results_cell_row rfl _ _ (N + 1) 28 _ (0, 0) _ rfl kG.h Tryd.underlying28 rfl hs2) rfl ⟨by rw [hag], by rw [hN]; exact kH⟩
theorem SetReg8_7 (g : Gs) (h : g.ok) (i v : Int) (hi : -9223372036854775808 ≤ i ∧ i ≤ 9223372036854775807) (hv : 0 ≤ v ∧ v ≤ 4294967295) (e : i % 8 = 7) (w : World) : Calls Tryd.prog 12 #[stV g, .int .i64 i, .int .u32 v] w fun e w' => e = .returned (stV (setr g 3 (setB (g.r 3) 1 v))) ∧ Below w.heap.size w w' := by
  have hb : ∀ w, Calls Tryd.prog 27 #[.int .i64 i] w fun e w' => e = .returned (.tuple #[.int .i64 3, .int .i64 1]) ∧ w = w' := fun w => by
    have := byteOf_any i hi w
    rw [e] at this
    exact this
  have hr := h.r 3
  clear e
  go_enter Tryd.func12, Tryd.ntmps12
  go_wp2_with (first | (go_at_call 27; refine (hb _).mono ?_; rintro e w' ⟨rfl, rfl⟩) | (go_at_call 28; refine (bytes_any _ hr _).mono ?_; rintro e w' ⟨rfl, rfl⟩))
  have kS := (((Blk.new w 28 (stA g)).alloc (.cells z17 28)).alloc (.cells #[.int .u8 (g.r 3 % 256), .int .u8 (g.r 3 / 256 % 256), .int .u8 (g.r 3 / 65536 % 256), .int .u8 (g.r 3 / 16777216)] 56)).alloc (.cells #[.int .u8 (g.r 3 % 256), .int .u8 (v % 256), .int .u8 (g.r 3 / 65536 % 256), .int .u8 (g.r 3 / 16777216)] 56)
  have kR := ((Blk.new (w.alloc (.cells (stA g) 28)) 28 z17).alloc (.cells #[.int .u8 (g.r 3 % 256), .int .u8 (g.r 3 / 256 % 256), .int .u8 (g.r 3 / 65536 % 256), .int .u8 (g.r 3 / 16777216)] 56)).alloc (.cells #[.int .u8 (g.r 3 % 256), .int .u8 (v % 256), .int .u8 (g.r 3 / 65536 % 256), .int .u8 (g.r 3 / 16777216)] 56)
  have kL := Blk.new (((w.alloc (.cells (stA g) 28)).alloc (.cells z17 28)).alloc (.cells #[.int .u8 (g.r 3 % 256), .int .u8 (g.r 3 / 256 % 256), .int .u8 (g.r 3 / 65536 % 256), .int .u8 (g.r 3 / 16777216)] 56)) 56 #[.int .u8 (g.r 3 % 256), .int .u8 (v % 256), .int .u8 (g.r 3 / 65536 % 256), .int .u8 (g.r 3 / 16777216)]
  have kb := ((((Below.refl _ w).alloc (Nat.le_refl _) (.cells (stA g) 28)).alloc (by simp) (.cells z17 28)).alloc (by simp; omega) (.cells #[.int .u8 (g.r 3 % 256), .int .u8 (g.r 3 / 256 % 256), .int .u8 (g.r 3 / 65536 % 256), .int .u8 (g.r 3 / 16777216)] 56)).alloc (by simp; omega) (.cells #[.int .u8 (g.r 3 % 256), .int .u8 (v % 256), .int .u8 (g.r 3 / 65536 % 256), .int .u8 (g.r 3 / 16777216)] 56)
  simp only [World.size_alloc] at kR kL
  have hrow := row4 kL (by omega) (by omega) (by omega) (by omega)
  refine (word_any _ _ _ _ _ hrow).mono ?_
  rintro e w1 ⟨rfl, b1⟩
  replace kb := kb.trans (b1.mono (by simp; omega))
  replace kS := kS.below b1 kS.lt
  replace kR := kR.below b1 kR.lt
  clear kL hrow b1
  generalize hN : w.heap.size = N at *
  have q := kS.cell (i := 3) (v := .int .u32 (g.r 3)) rfl
  have p := kS.fr 3
  have hval : wordS [g.r 3 % 256, v % 256, g.r 3 / 65536 % 256, g.r 3 / 16777216] = setB (g.r 3) 1 v := by simp [wordS, setB]; omega
  rw [hval]
  have kE := kS.set 3 (.int .u32 (setB (g.r 3) 1 v))
  rw [stA_set3] at kE
  have kF := kR.other 3 (.int .u32 (setB (g.r 3) 1 v)) (show N + 1 ≠ N by omega)
  have kG := kF.row (stA (setr g 3 (setB (g.r 3) 1 v)))
  have kH := below_rowNew (kb.setCell (p := ⟨N, 3, none⟩) (by simp) (.int .u32 (setB (g.r 3) 1 v))) (N := N + 1) (by omega) (stA (setr g 3 (setB (g.r 3) 1 v)))
  clear kS kR kb hval
  have hs2 : (Tryd.prog.info? 28).map (·.size) = some (stA (setr g 3 (setB (g.r 3) 1 v))).size := sz17
  have hold : z17.size = (stA (setr g 3 (setB (g.r 3) 1 v))).size := rfl
  have hcell : (stA (setr g 3 (setB (g.r 3) 1 v))).all (·.oneCell') = true := stA_one _
  have hag : Value.agg (stA (setr g 3 (setB (g.r 3) 1 v))) = stV (setr g 3 (setB (g.r 3) 1 v)) := rfl
  generalize stA (setr g 3 (setB (g.r 3) 1 v)) = Z at *
  generalize z17 = Z0 at *
  go_wp2_with (first | with_reducible refine wpList_load_row rfl 28 _ rfl N rfl 28 _ (0, 0) _ kE.h Tryd.underlying28 rfl hs2 ?_ | with_reducible refine wpList_store_row rfl 28 _ _ rfl (N + 1) _ rfl rfl 28 _ kF.h hs2 hold hcell ?_)
  exact bodyPost_ret (v := Value.agg Z) (results_cell_row rfl _ _ (N + 1) 28 _ (0, 0) _ rfl kG.h Tryd.underlying28 rfl hs2) rfl ⟨by rw [hag], by rw [hN]; exact kH⟩
theorem rSetReg8_0 (g : Gs) (h : g.ok) (i v : Int) (hv : 0 ≤ v ∧ v ≤ 4294967295) (e : i % 8 = 0) (w : World) : Calls Tryd.prog 13 #[stV g, .int .i64 i, .int .u32 v] w fun e w' => e = .returned (stV (setr g 0 (setB (g.r 0) 0 v))) ∧ Below w.heap.size w w' := by
  have h7 : bits .and .i64 i 7 = 0 := (and7 i).trans e
  have hr := h.r 0
  have f1 := andNot_low (g.r 0) hr
  have f2 := u32_and_low v hv
  have f3 := or_low (g.r 0) v hr
  have hval : g.r 0 - g.r 0 % 256 + v % 256 = setB (g.r 0) 0 v := by simp [setB]
  rw [hval] at f3
  clear e hval
  have hZ : #[Value.int IntKind.u32 (setB (g.r 0) 0 v), Value.int IntKind.u32 (g.r 1), Value.int IntKind.u32 (g.r 2), Value.int IntKind.u32 (g.r 3), Value.int IntKind.u32 (g.r 4), Value.int IntKind.u32 (g.r 5), Value.int IntKind.u32 (g.r 6), Value.int IntKind.u32 (g.r 7), Value.int IntKind.u32 g.pc, Value.bool (g.f 0), Value.bool (g.f 1), Value.bool (g.f 2), Value.bool (g.f 3), Value.bool (g.f 4), Value.bool (g.f 5), Value.bool g.df, Value.int IntKind.u64 g.x] = stA (setr g 0 (setB (g.r 0) 0 v)) := by simp [stA, setr]
  have hs2 : (Tryd.prog.info? 28).map (·.size) = some (stA (setr g 0 (setB (g.r 0) 0 v))).size := sz17
  have hold : z17.size = (stA (setr g 0 (setB (g.r 0) 0 v))).size := rfl
  have hcell : (stA (setr g 0 (setB (g.r 0) 0 v))).all (·.oneCell') = true := stA_one _
  have hag : RowKit.Hid (Value.agg (stA (setr g 0 (setB (g.r 0) 0 v))) = stV (setr g 0 (setB (g.r 0) 0 v))) := rfl
  rw [← hZ] at hs2 hold hcell hag
  have hE := ((Blk.new w 28 #[Value.int IntKind.u32 (setB (g.r 0) 0 v), Value.int IntKind.u32 (g.r 1), Value.int IntKind.u32 (g.r 2), Value.int IntKind.u32 (g.r 3), Value.int IntKind.u32 (g.r 4), Value.int IntKind.u32 (g.r 5), Value.int IntKind.u32 (g.r 6), Value.int IntKind.u32 (g.r 7), Value.int IntKind.u32 g.pc, Value.bool (g.f 0), Value.bool (g.f 1), Value.bool (g.f 2), Value.bool (g.f 3), Value.bool (g.f 4), Value.bool (g.f 5), Value.bool g.df, Value.int IntKind.u64 g.x]).alloc (.cells z17 28)).h
  have hF := (Blk.new (w.alloc (.cells #[Value.int IntKind.u32 (setB (g.r 0) 0 v), Value.int IntKind.u32 (g.r 1), Value.int IntKind.u32 (g.r 2), Value.int IntKind.u32 (g.r 3), Value.int IntKind.u32 (g.r 4), Value.int IntKind.u32 (g.r 5), Value.int IntKind.u32 (g.r 6), Value.int IntKind.u32 (g.r 7), Value.int IntKind.u32 g.pc, Value.bool (g.f 0), Value.bool (g.f 1), Value.bool (g.f 2), Value.bool (g.f 3), Value.bool (g.f 4), Value.bool (g.f 5), Value.bool g.df, Value.int IntKind.u64 g.x] 28)) 28 z17)
  rw [World.size_alloc] at hF
  have hK : Below w.heap.size w (((w.alloc (.cells #[Value.int IntKind.u32 (setB (g.r 0) 0 v), Value.int IntKind.u32 (g.r 1), Value.int IntKind.u32 (g.r 2), Value.int IntKind.u32 (g.r 3), Value.int IntKind.u32 (g.r 4), Value.int IntKind.u32 (g.r 5), Value.int IntKind.u32 (g.r 6), Value.int IntKind.u32 (g.r 7), Value.int IntKind.u32 g.pc, Value.bool (g.f 0), Value.bool (g.f 1), Value.bool (g.f 2), Value.bool (g.f 3), Value.bool (g.f 4), Value.bool (g.f 5), Value.bool g.df, Value.int IntKind.u64 g.x] 28)).alloc (.cells z17 28))) := ((Below.refl _ w).alloc (Nat.le_refl _) _).alloc (by simp) _
  clear hZ
  go_enter Tryd.func13, Tryd.ntmps13
  go_wp2_with (first | with_reducible refine stop_load 28 _ rfl ?_)
  generalize hN : w.heap.size = N at *
  generalize ((w.alloc (.cells #[Value.int IntKind.u32 (setB (g.r 0) 0 v), Value.int IntKind.u32 (g.r 1), Value.int IntKind.u32 (g.r 2), Value.int IntKind.u32 (g.r 3), Value.int IntKind.u32 (g.r 4), Value.int IntKind.u32 (g.r 5), Value.int IntKind.u32 (g.r 6), Value.int IntKind.u32 (g.r 7), Value.int IntKind.u32 g.pc, Value.bool (g.f 0), Value.bool (g.f 1), Value.bool (g.f 2), Value.bool (g.f 3), Value.bool (g.f 4), Value.bool (g.f 5), Value.bool g.df, Value.int IntKind.u64 g.x] 28)).alloc (.cells z17 28)) = W2 at *
  have kG := hF.row #[Value.int IntKind.u32 (setB (g.r 0) 0 v), Value.int IntKind.u32 (g.r 1), Value.int IntKind.u32 (g.r 2), Value.int IntKind.u32 (g.r 3), Value.int IntKind.u32 (g.r 4), Value.int IntKind.u32 (g.r 5), Value.int IntKind.u32 (g.r 6), Value.int IntKind.u32 (g.r 7), Value.int IntKind.u32 g.pc, Value.bool (g.f 0), Value.bool (g.f 1), Value.bool (g.f 2), Value.bool (g.f 3), Value.bool (g.f 4), Value.bool (g.f 5), Value.bool g.df, Value.int IntKind.u64 g.x]
  have kH := below_rowNew hK (N := N + 1) (by omega) #[Value.int IntKind.u32 (setB (g.r 0) 0 v), Value.int IntKind.u32 (g.r 1), Value.int IntKind.u32 (g.r 2), Value.int IntKind.u32 (g.r 3), Value.int IntKind.u32 (g.r 4), Value.int IntKind.u32 (g.r 5), Value.int IntKind.u32 (g.r 6), Value.int IntKind.u32 (g.r 7), Value.int IntKind.u32 g.pc, Value.bool (g.f 0), Value.bool (g.f 1), Value.bool (g.f 2), Value.bool (g.f 3), Value.bool (g.f 4), Value.bool (g.f 5), Value.bool g.df, Value.int IntKind.u64 g.x]
  generalize #[Value.int IntKind.u32 (setB (g.r 0) 0 v), Value.int IntKind.u32 (g.r 1), Value.int IntKind.u32 (g.r 2), Value.int IntKind.u32 (g.r 3), Value.int IntKind.u32 (g.r 4), Value.int IntKind.u32 (g.r 5), Value.int IntKind.u32 (g.r 6), Value.int IntKind.u32 (g.r 7), Value.int IntKind.u32 g.pc, Value.bool (g.f 0), Value.bool (g.f 1), Value.bool (g.f 2), Value.bool (g.f 3), Value.bool (g.f 4), Value.bool (g.f 5), Value.bool g.df, Value.int IntKind.u64 g.x] = Z at *
  generalize z17 = Z0 at *
  unfold RowKit.Hid
  go_wp2_with (first | with_reducible refine wpList_load_row rfl 28 _ rfl N rfl 28 _ (0, 0) _ hE Tryd.underlying28 rfl hs2 ?_ | with_reducible refine wpList_store_row rfl 28 _ _ rfl (N + 1) _ rfl rfl 28 _ hF.h hs2 hold hcell ?_)
  exact bodyPost_ret (v := Value.agg Z) (results_cell_row rfl _ _ (N + 1) 28 _ (0, 0) _ rfl kG.h Tryd.underlying28 rfl hs2) rfl ⟨by rw [hag.out], by rw [hN]; exact kH⟩
theorem rSetReg8_1 (g : Gs) (h : g.ok) (i v : Int) (hv : 0 ≤ v ∧ v ≤ 4294967295) (e : i % 8 = 1) (w : World) : Calls Tryd.prog 13 #[stV g, .int .i64 i, .int .u32 v] w fun e w' => e = .returned (stV (setr g 1 (setB (g.r 1) 0 v))) ∧ Below w.heap.size w w' := by
  have h7 : bits .and .i64 i 7 = 1 := (and7 i).trans e
  have hr := h.r 1
  have f1 := andNot_low (g.r 1) hr
  have f2 := u32_and_low v hv
  have f3 := or_low (g.r 1) v hr
  have hval : g.r 1 - g.r 1 % 256 + v % 256 = setB (g.r 1) 0 v := by simp [setB]
  rw [hval] at f3
  clear e hval
  have hZ : #[Value.int IntKind.u32 (g.r 0), Value.int IntKind.u32 (setB (g.r 1) 0 v), Value.int IntKind.u32 (g.r 2), Value.int IntKind.u32 (g.r 3), Value.int IntKind.u32 (g.r 4), Value.int IntKind.u32 (g.r 5), Value.int IntKind.u32 (g.r 6), Value.int IntKind.u32 (g.r 7), Value.int IntKind.u32 g.pc, Value.bool (g.f 0), Value.bool (g.f 1), Value.bool (g.f 2), Value.bool (g.f 3), Value.bool (g.f 4), Value.bool (g.f 5), Value.bool g.df, Value.int IntKind.u64 g.x] = stA (setr g 1 (setB (g.r 1) 0 v)) := by simp [stA, setr]
  have hs2 : (Tryd.prog.info? 28).map (·.size) = some (stA (setr g 1 (setB (g.r 1) 0 v))).size := sz17
  have hold : z17.size = (stA (setr g 1 (setB (g.r 1) 0 v))).size := rfl
  have hcell : (stA (setr g 1 (setB (g.r 1) 0 v))).all (·.oneCell') = true := stA_one _
  have hag : RowKit.Hid (Value.agg (stA (setr g 1 (setB (g.r 1) 0 v))) = stV (setr g 1 (setB (g.r 1) 0 v))) := rfl
  rw [← hZ] at hs2 hold hcell hag
  have hE := ((Blk.new w 28 #[Value.int IntKind.u32 (g.r 0), Value.int IntKind.u32 (setB (g.r 1) 0 v), Value.int IntKind.u32 (g.r 2), Value.int IntKind.u32 (g.r 3), Value.int IntKind.u32 (g.r 4), Value.int IntKind.u32 (g.r 5), Value.int IntKind.u32 (g.r 6), Value.int IntKind.u32 (g.r 7), Value.int IntKind.u32 g.pc, Value.bool (g.f 0), Value.bool (g.f 1), Value.bool (g.f 2), Value.bool (g.f 3), Value.bool (g.f 4), Value.bool (g.f 5), Value.bool g.df, Value.int IntKind.u64 g.x]).alloc (.cells z17 28)).h
  have hF := (Blk.new (w.alloc (.cells #[Value.int IntKind.u32 (g.r 0), Value.int IntKind.u32 (setB (g.r 1) 0 v), Value.int IntKind.u32 (g.r 2), Value.int IntKind.u32 (g.r 3), Value.int IntKind.u32 (g.r 4), Value.int IntKind.u32 (g.r 5), Value.int IntKind.u32 (g.r 6), Value.int IntKind.u32 (g.r 7), Value.int IntKind.u32 g.pc, Value.bool (g.f 0), Value.bool (g.f 1), Value.bool (g.f 2), Value.bool (g.f 3), Value.bool (g.f 4), Value.bool (g.f 5), Value.bool g.df, Value.int IntKind.u64 g.x] 28)) 28 z17)
  rw [World.size_alloc] at hF
  have hK : Below w.heap.size w (((w.alloc (.cells #[Value.int IntKind.u32 (g.r 0), Value.int IntKind.u32 (setB (g.r 1) 0 v), Value.int IntKind.u32 (g.r 2), Value.int IntKind.u32 (g.r 3), Value.int IntKind.u32 (g.r 4), Value.int IntKind.u32 (g.r 5), Value.int IntKind.u32 (g.r 6), Value.int IntKind.u32 (g.r 7), Value.int IntKind.u32 g.pc, Value.bool (g.f 0), Value.bool (g.f 1), Value.bool (g.f 2), Value.bool (g.f 3), Value.bool (g.f 4), Value.bool (g.f 5), Value.bool g.df, Value.int IntKind.u64 g.x] 28)).alloc (.cells z17 28))) := ((Below.refl _ w).alloc (Nat.le_refl _) _).alloc (by simp) _
  clear hZ
  go_enter Tryd.func13, Tryd.ntmps13
  go_wp2_with (first | with_reducible refine stop_load 28 _ rfl ?_)
  generalize hN : w.heap.size = N at *
  generalize ((w.alloc (.cells #[Value.int IntKind.u32 (g.r 0), Value.int IntKind.u32 (setB (g.r 1) 0 v), Value.int IntKind.u32 (g.r 2), Value.int IntKind.u32 (g.r 3), Value.int IntKind.u32 (g.r 4), Value.int IntKind.u32 (g.r 5), Value.int IntKind.u32 (g.r 6), Value.int IntKind.u32 (g.r 7), Value.int IntKind.u32 g.pc, Value.bool (g.f 0), Value.bool (g.f 1), Value.bool (g.f 2), Value.bool (g.f 3), Value.bool (g.f 4), Value.bool (g.f 5), Value.bool g.df, Value.int IntKind.u64 g.x] 28)).alloc (.cells z17 28)) = W2 at *
  have kG := hF.row #[Value.int IntKind.u32 (g.r 0), Value.int IntKind.u32 (setB (g.r 1) 0 v), Value.int IntKind.u32 (g.r 2), Value.int IntKind.u32 (g.r 3), Value.int IntKind.u32 (g.r 4), Value.int IntKind.u32 (g.r 5), Value.int IntKind.u32 (g.r 6), Value.int IntKind.u32 (g.r 7), Value.int IntKind.u32 g.pc, Value.bool (g.f 0), Value.bool (g.f 1), Value.bool (g.f 2), Value.bool (g.f 3), Value.bool (g.f 4), Value.bool (g.f 5), Value.bool g.df, Value.int IntKind.u64 g.x]
  have kH := below_rowNew hK (N := N + 1) (by omega) #[Value.int IntKind.u32 (g.r 0), Value.int IntKind.u32 (setB (g.r 1) 0 v), Value.int IntKind.u32 (g.r 2), Value.int IntKind.u32 (g.r 3), Value.int IntKind.u32 (g.r 4), Value.int IntKind.u32 (g.r 5), Value.int IntKind.u32 (g.r 6), Value.int IntKind.u32 (g.r 7), Value.int IntKind.u32 g.pc, Value.bool (g.f 0), Value.bool (g.f 1), Value.bool (g.f 2), Value.bool (g.f 3), Value.bool (g.f 4), Value.bool (g.f 5), Value.bool g.df, Value.int IntKind.u64 g.x]
  generalize #[Value.int IntKind.u32 (g.r 0), Value.int IntKind.u32 (setB (g.r 1) 0 v), Value.int IntKind.u32 (g.r 2), Value.int IntKind.u32 (g.r 3), Value.int IntKind.u32 (g.r 4), Value.int IntKind.u32 (g.r 5), Value.int IntKind.u32 (g.r 6), Value.int IntKind.u32 (g.r 7), Value.int IntKind.u32 g.pc, Value.bool (g.f 0), Value.bool (g.f 1), Value.bool (g.f 2), Value.bool (g.f 3), Value.bool (g.f 4), Value.bool (g.f 5), Value.bool g.df, Value.int IntKind.u64 g.x] = Z at *
  generalize z17 = Z0 at *
  unfold RowKit.Hid
  go_wp2_with (first | with_reducible refine wpList_load_row rfl 28 _ rfl N rfl 28 _ (0, 0) _ hE Tryd.underlying28 rfl hs2 ?_ | with_reducible refine wpList_store_row rfl 28 _ _ rfl (N + 1) _ rfl rfl 28 _ hF.h hs2 hold hcell ?_)
  exact bodyPost_ret (v := Value.agg Z) (results_cell_row rfl _ _ (N + 1) 28 _ (0, 0) _ rfl kG.h Tryd.underlying28 rfl hs2) rfl ⟨by rw [hag.out], by rw [hN]; exact kH⟩
theorem rSetReg8_2 (g : Gs) (h : g.ok) (i v : Int) (hv : 0 ≤ v ∧ v ≤ 4294967295) (e : i % 8 = 2) (w : World) : Calls Tryd.prog 13 #[stV g, .int .i64 i, .int .u32 v] w fun e w' => e = .returned (stV (setr g 2 (setB (g.r 2) 0 v))) ∧ Below w.heap.size w w' := by
  have h7 : bits .and .i64 i 7 = 2 := (and7 i).trans e
  have hr := h.r 2
  have f1 := andNot_low (g.r 2) hr
  have f2 := u32_and_low v hv
  have f3 := or_low (g.r 2) v hr
  have hval : g.r 2 - g.r 2 % 256 + v % 256 = setB (g.r 2) 0 v := by simp [setB]
  rw [hval] at f3
  clear e hval
  have hZ : #[Value.int IntKind.u32 (g.r 0), Value.int IntKind.u32 (g.r 1), Value.int IntKind.u32 (setB (g.r 2) 0 v), Value.int IntKind.u32 (g.r 3), Value.int IntKind.u32 (g.r 4), Value.int IntKind.u32 (g.r 5), Value.int IntKind.u32 (g.r 6), Value.int IntKind.u32 (g.r 7), Value.int IntKind.u32 g.pc, Value.bool (g.f 0), Value.bool (g.f 1), Value.bool (g.f 2), Value.bool (g.f 3), Value.bool (g.f 4), Value.bool (g.f 5), Value.bool g.df, Value.int IntKind.u64 g.x] = stA (setr g 2 (setB (g.r 2) 0 v)) := by simp [stA, setr]
  have hs2 : (Tryd.prog.info? 28).map (·.size) = some (stA (setr g 2 (setB (g.r 2) 0 v))).size := sz17
  have hold : z17.size = (stA (setr g 2 (setB (g.r 2) 0 v))).size := rfl
  have hcell : (stA (setr g 2 (setB (g.r 2) 0 v))).all (·.oneCell') = true := stA_one _
  have hag : RowKit.Hid (Value.agg (stA (setr g 2 (setB (g.r 2) 0 v))) = stV (setr g 2 (setB (g.r 2) 0 v))) := rfl
  rw [← hZ] at hs2 hold hcell hag
  have hE := ((Blk.new w 28 #[Value.int IntKind.u32 (g.r 0), Value.int IntKind.u32 (g.r 1), Value.int IntKind.u32 (setB (g.r 2) 0 v), Value.int IntKind.u32 (g.r 3), Value.int IntKind.u32 (g.r 4), Value.int IntKind.u32 (g.r 5), Value.int IntKind.u32 (g.r 6), Value.int IntKind.u32 (g.r 7), Value.int IntKind.u32 g.pc, Value.bool (g.f 0), Value.bool (g.f 1), Value.bool (g.f 2), Value.bool (g.f 3), Value.bool (g.f 4), Value.bool (g.f 5), Value.bool g.df, Value.int IntKind.u64 g.x]).alloc (.cells z17 28)).h
  have hF := (Blk.new (w.alloc (.cells #[Value.int IntKind.u32 (g.r 0), Value.int IntKind.u32 (g.r 1), Value.int IntKind.u32 (setB (g.r 2) 0 v), Value.int IntKind.u32 (g.r 3), Value.int IntKind.u32 (g.r 4), Value.int IntKind.u32 (g.r 5), Value.int IntKind.u32 (g.r 6), Value.int IntKind.u32 (g.r 7), Value.int IntKind.u32 g.pc, Value.bool (g.f 0), Value.bool (g.f 1), Value.bool (g.f 2), Value.bool (g.f 3), Value.bool (g.f 4), Value.bool (g.f 5), Value.bool g.df, Value.int IntKind.u64 g.x] 28)) 28 z17)
  rw [World.size_alloc] at hF
  have hK : Below w.heap.size w (((w.alloc (.cells #[Value.int IntKind.u32 (g.r 0), Value.int IntKind.u32 (g.r 1), Value.int IntKind.u32 (setB (g.r 2) 0 v), Value.int IntKind.u32 (g.r 3), Value.int IntKind.u32 (g.r 4), Value.int IntKind.u32 (g.r 5), Value.int IntKind.u32 (g.r 6), Value.int IntKind.u32 (g.r 7), Value.int IntKind.u32 g.pc, Value.bool (g.f 0), Value.bool (g.f 1), Value.bool (g.f 2), Value.bool (g.f 3), Value.bool (g.f 4), Value.bool (g.f 5), Value.bool g.df, Value.int IntKind.u64 g.x] 28)).alloc (.cells z17 28))) := ((Below.refl _ w).alloc (Nat.le_refl _) _).alloc (by simp) _
  clear hZ
  go_enter Tryd.func13, Tryd.ntmps13
  go_wp2_with (first | with_reducible refine stop_load 28 _ rfl ?_)
  generalize hN : w.heap.size = N at *
  generalize ((w.alloc (.cells #[Value.int IntKind.u32 (g.r 0), Value.int IntKind.u32 (g.r 1), Value.int IntKind.u32 (setB (g.r 2) 0 v), Value.int IntKind.u32 (g.r 3), Value.int IntKind.u32 (g.r 4), Value.int IntKind.u32 (g.r 5), Value.int IntKind.u32 (g.r 6), Value.int IntKind.u32 (g.r 7), Value.int IntKind.u32 g.pc, Value.bool (g.f 0), Value.bool (g.f 1), Value.bool (g.f 2), Value.bool (g.f 3), Value.bool (g.f 4), Value.bool (g.f 5), Value.bool g.df, Value.int IntKind.u64 g.x] 28)).alloc (.cells z17 28)) = W2 at *
  have kG := hF.row #[Value.int IntKind.u32 (g.r 0), Value.int IntKind.u32 (g.r 1), Value.int IntKind.u32 (setB (g.r 2) 0 v), Value.int IntKind.u32 (g.r 3), Value.int IntKind.u32 (g.r 4), Value.int IntKind.u32 (g.r 5), Value.int IntKind.u32 (g.r 6), Value.int IntKind.u32 (g.r 7), Value.int IntKind.u32 g.pc, Value.bool (g.f 0), Value.bool (g.f 1), Value.bool (g.f 2), Value.bool (g.f 3), Value.bool (g.f 4), Value.bool (g.f 5), Value.bool g.df, Value.int IntKind.u64 g.x]
  have kH := below_rowNew hK (N := N + 1) (by omega) #[Value.int IntKind.u32 (g.r 0), Value.int IntKind.u32 (g.r 1), Value.int IntKind.u32 (setB (g.r 2) 0 v), Value.int IntKind.u32 (g.r 3), Value.int IntKind.u32 (g.r 4), Value.int IntKind.u32 (g.r 5), Value.int IntKind.u32 (g.r 6), Value.int IntKind.u32 (g.r 7), Value.int IntKind.u32 g.pc, Value.bool (g.f 0), Value.bool (g.f 1), Value.bool (g.f 2), Value.bool (g.f 3), Value.bool (g.f 4), Value.bool (g.f 5), Value.bool g.df, Value.int IntKind.u64 g.x]
  generalize #[Value.int IntKind.u32 (g.r 0), Value.int IntKind.u32 (g.r 1), Value.int IntKind.u32 (setB (g.r 2) 0 v), Value.int IntKind.u32 (g.r 3), Value.int IntKind.u32 (g.r 4), Value.int IntKind.u32 (g.r 5), Value.int IntKind.u32 (g.r 6), Value.int IntKind.u32 (g.r 7), Value.int IntKind.u32 g.pc, Value.bool (g.f 0), Value.bool (g.f 1), Value.bool (g.f 2), Value.bool (g.f 3), Value.bool (g.f 4), Value.bool (g.f 5), Value.bool g.df, Value.int IntKind.u64 g.x] = Z at *
  generalize z17 = Z0 at *
  unfold RowKit.Hid
  go_wp2_with (first | with_reducible refine wpList_load_row rfl 28 _ rfl N rfl 28 _ (0, 0) _ hE Tryd.underlying28 rfl hs2 ?_ | with_reducible refine wpList_store_row rfl 28 _ _ rfl (N + 1) _ rfl rfl 28 _ hF.h hs2 hold hcell ?_)
  exact bodyPost_ret (v := Value.agg Z) (results_cell_row rfl _ _ (N + 1) 28 _ (0, 0) _ rfl kG.h Tryd.underlying28 rfl hs2) rfl ⟨by rw [hag.out], by rw [hN]; exact kH⟩
theorem rSetReg8_3 (g : Gs) (h : g.ok) (i v : Int) (hv : 0 ≤ v ∧ v ≤ 4294967295) (e : i % 8 = 3) (w : World) : Calls Tryd.prog 13 #[stV g, .int .i64 i, .int .u32 v] w fun e w' => e = .returned (stV (setr g 3 (setB (g.r 3) 0 v))) ∧ Below w.heap.size w w' := by
  have h7 : bits .and .i64 i 7 = 3 := (and7 i).trans e
  have hr := h.r 3
  have f1 := andNot_low (g.r 3) hr
  have f2 := u32_and_low v hv
  have f3 := or_low (g.r 3) v hr
  have hval : g.r 3 - g.r 3 % 256 + v % 256 = setB (g.r 3) 0 v := by simp [setB]
  rw [hval] at f3
  clear e hval
  have hZ : #[Value.int IntKind.u32 (g.r 0), Value.int IntKind.u32 (g.r 1), Value.int IntKind.u32 (g.r 2), Value.int IntKind.u32 (setB (g.r 3) 0 v), Value.int IntKind.u32 (g.r 4), Value.int IntKind.u32 (g.r 5), Value.int IntKind.u32 (g.r 6), Value.int IntKind.u32 (g.r 7), Value.int IntKind.u32 g.pc, Value.bool (g.f 0), Value.bool (g.f 1), Value.bool (g.f 2), Value.bool (g.f 3), Value.bool (g.f 4), Value.bool (g.f 5), Value.bool g.df, Value.int IntKind.u64 g.x] = stA (setr g 3 (setB (g.r 3) 0 v)) := by simp [stA, setr]
  have hs2 : (Tryd.prog.info? 28).map (·.size) = some (stA (setr g 3 (setB (g.r 3) 0 v))).size := sz17
  have hold : z17.size = (stA (setr g 3 (setB (g.r 3) 0 v))).size := rfl
  have hcell : (stA (setr g 3 (setB (g.r 3) 0 v))).all (·.oneCell') = true := stA_one _
  have hag : RowKit.Hid (Value.agg (stA (setr g 3 (setB (g.r 3) 0 v))) = stV (setr g 3 (setB (g.r 3) 0 v))) := rfl
  rw [← hZ] at hs2 hold hcell hag
  have hE := ((Blk.new w 28 #[Value.int IntKind.u32 (g.r 0), Value.int IntKind.u32 (g.r 1), Value.int IntKind.u32 (g.r 2), Value.int IntKind.u32 (setB (g.r 3) 0 v), Value.int IntKind.u32 (g.r 4), Value.int IntKind.u32 (g.r 5), Value.int IntKind.u32 (g.r 6), Value.int IntKind.u32 (g.r 7), Value.int IntKind.u32 g.pc, Value.bool (g.f 0), Value.bool (g.f 1), Value.bool (g.f 2), Value.bool (g.f 3), Value.bool (g.f 4), Value.bool (g.f 5), Value.bool g.df, Value.int IntKind.u64 g.x]).alloc (.cells z17 28)).h
  have hF := (Blk.new (w.alloc (.cells #[Value.int IntKind.u32 (g.r 0), Value.int IntKind.u32 (g.r 1), Value.int IntKind.u32 (g.r 2), Value.int IntKind.u32 (setB (g.r 3) 0 v), Value.int IntKind.u32 (g.r 4), Value.int IntKind.u32 (g.r 5), Value.int IntKind.u32 (g.r 6), Value.int IntKind.u32 (g.r 7), Value.int IntKind.u32 g.pc, Value.bool (g.f 0), Value.bool (g.f 1), Value.bool (g.f 2), Value.bool (g.f 3), Value.bool (g.f 4), Value.bool (g.f 5), Value.bool g.df, Value.int IntKind.u64 g.x] 28)) 28 z17)
  rw [World.size_alloc] at hF
  have hK : Below w.heap.size w (((w.alloc (.cells #[Value.int IntKind.u32 (g.r 0), Value.int IntKind.u32 (g.r 1), Value.int IntKind.u32 (g.r 2), Value.int IntKind.u32 (setB (g.r 3) 0 v), Value.int IntKind.u32 (g.r 4), Value.int IntKind.u32 (g.r 5), Value.int IntKind.u32 (g.r 6), Value.int IntKind.u32 (g.r 7), Value.int IntKind.u32 g.pc, Value.bool (g.f 0), Value.bool (g.f 1), Value.bool (g.f 2), Value.bool (g.f 3), Value.bool (g.f 4), Value.bool (g.f 5), Value.bool g.df, Value.int IntKind.u64 g.x] 28)).alloc (.cells z17 28))) := ((Below.refl _ w).alloc (Nat.le_refl _) _).alloc (by simp) _
  clear hZ
  go_enter Tryd.func13, Tryd.ntmps13
  go_wp2_with (first | with_reducible refine stop_load 28 _ rfl ?_)
  generalize hN : w.heap.size = N at *
  generalize ((w.alloc (.cells #[Value.int IntKind.u32 (g.r 0), Value.int IntKind.u32 (g.r 1), Value.int IntKind.u32 (g.r 2), Value.int IntKind.u32 (setB (g.r 3) 0 v), Value.int IntKind.u32 (g.r 4), Value.int IntKind.u32 (g.r 5), Value.int IntKind.u32 (g.r 6), Value.int IntKind.u32 (g.r 7), Value.int IntKind.u32 g.pc, Value.bool (g.f 0), Value.bool (g.f 1), Value.bool (g.f 2), Value.bool (g.f 3), Value.bool (g.f 4), Value.bool (g.f 5), Value.bool g.df, Value.int IntKind.u64 g.x] 28)).alloc (.cells z17 28)) = W2 at *
  have kG := hF.row #[Value.int IntKind.u32 (g.r 0), Value.int IntKind.u32 (g.r 1), Value.int IntKind.u32 (g.r 2), Value.int IntKind.u32 (setB (g.r 3) 0 v), Value.int IntKind.u32 (g.r 4), Value.int IntKind.u32 (g.r 5), Value.int IntKind.u32 (g.r 6), Value.int IntKind.u32 (g.r 7), Value.int IntKind.u32 g.pc, Value.bool (g.f 0), Value.bool (g.f 1), Value.bool (g.f 2), Value.bool (g.f 3), Value.bool (g.f 4), Value.bool (g.f 5), Value.bool g.df, Value.int IntKind.u64 g.x]
  have kH := below_rowNew hK (N := N + 1) (by omega) #[Value.int IntKind.u32 (g.r 0), Value.int IntKind.u32 (g.r 1), Value.int IntKind.u32 (g.r 2), Value.int IntKind.u32 (setB (g.r 3) 0 v), Value.int IntKind.u32 (g.r 4), Value.int IntKind.u32 (g.r 5), Value.int IntKind.u32 (g.r 6), Value.int IntKind.u32 (g.r 7), Value.int IntKind.u32 g.pc, Value.bool (g.f 0), Value.bool (g.f 1), Value.bool (g.f 2), Value.bool (g.f 3), Value.bool (g.f 4), Value.bool (g.f 5), Value.bool g.df, Value.int IntKind.u64 g.x]
  generalize #[Value.int IntKind.u32 (g.r 0), Value.int IntKind.u32 (g.r 1), Value.int IntKind.u32 (g.r 2), Value.int IntKind.u32 (setB (g.r 3) 0 v), Value.int IntKind.u32 (g.r 4), Value.int IntKind.u32 (g.r 5), Value.int IntKind.u32 (g.r 6), Value.int IntKind.u32 (g.r 7), Value.int IntKind.u32 g.pc, Value.bool (g.f 0), Value.bool (g.f 1), Value.bool (g.f 2), Value.bool (g.f 3), Value.bool (g.f 4), Value.bool (g.f 5), Value.bool g.df, Value.int IntKind.u64 g.x] = Z at *
  generalize z17 = Z0 at *
  unfold RowKit.Hid
  go_wp2_with (first | with_reducible refine wpList_load_row rfl 28 _ rfl N rfl 28 _ (0, 0) _ hE Tryd.underlying28 rfl hs2 ?_ | with_reducible refine wpList_store_row rfl 28 _ _ rfl (N + 1) _ rfl rfl 28 _ hF.h hs2 hold hcell ?_)
  exact bodyPost_ret (v := Value.agg Z) (results_cell_row rfl _ _ (N + 1) 28 _ (0, 0) _ rfl kG.h Tryd.underlying28 rfl hs2) rfl ⟨by rw [hag.out], by rw [hN]; exact kH⟩
theorem rSetReg8_4 (g : Gs) (h : g.ok) (i v : Int) (hv : 0 ≤ v ∧ v ≤ 4294967295) (e : i % 8 = 4) (w : World) : Calls Tryd.prog 13 #[stV g, .int .i64 i, .int .u32 v] w fun e w' => e = .returned (stV (setr g 0 (setB (g.r 0) 1 v))) ∧ Below w.heap.size w w' := by
  have h7 : bits .and .i64 i 7 = 4 := (and7 i).trans e
  have hr := h.r 0
  have f1 := andNot_mid (g.r 0) hr
  have f2 := u32_and_low v hv
  have f3 := or_mid (g.r 0) v hr
  have hval : g.r 0 - g.r 0 / 256 % 256 * 256 + v % 256 * 256 = setB (g.r 0) 1 v := by simp [setB]
  rw [hval] at f3
  clear e hval
  have hZ : #[Value.int IntKind.u32 (setB (g.r 0) 1 v), Value.int IntKind.u32 (g.r 1), Value.int IntKind.u32 (g.r 2), Value.int IntKind.u32 (g.r 3), Value.int IntKind.u32 (g.r 4), Value.int IntKind.u32 (g.r 5), Value.int IntKind.u32 (g.r 6), Value.int IntKind.u32 (g.r 7), Value.int IntKind.u32 g.pc, Value.bool (g.f 0), Value.bool (g.f 1), Value.bool (g.f 2), Value.bool (g.f 3), Value.bool (g.f 4), Value.bool (g.f 5), Value.bool g.df, Value.int IntKind.u64 g.x] = stA (setr g 0 (setB (g.r 0) 1 v)) := by simp [stA, setr]
  have hs2 : (Tryd.prog.info? 28).map (·.size) = some (stA (setr g 0 (setB (g.r 0) 1 v))).size := sz17
  have hold : z17.size = (stA (setr g 0 (setB (g.r 0) 1 v))).size := rfl
  have hcell : (stA (setr g 0 (setB (g.r 0) 1 v))).all (·.oneCell') = true := stA_one _
  have hag : RowKit.Hid (Value.agg (stA (setr g 0 (setB (g.r 0) 1 v))) = stV (setr g 0 (setB (g.r 0) 1 v))) := rfl
  rw [← hZ] at hs2 hold hcell hag
  have hE := ((Blk.new w 28 #[Value.int IntKind.u32 (setB (g.r 0) 1 v), Value.int IntKind.u32 (g.r 1), Value.int IntKind.u32 (g.r 2), Value.int IntKind.u32 (g.r 3), Value.int IntKind.u32 (g.r 4), Value.int IntKind.u32 (g.r 5), Value.int IntKind.u32 (g.r 6), Value.int IntKind.u32 (g.r 7), Value.int IntKind.u32 g.pc, Value.bool (g.f 0), Value.bool (g.f 1), Value.bool (g.f 2), Value.bool (g.f 3), Value.bool (g.f 4), Value.bool (g.f 5), Value.bool g.df, Value.int IntKind.u64 g.x]).alloc (.cells z17 28)).h
  have hF := (Blk.new (w.alloc (.cells #[Value.int IntKind.u32 (setB (g.r 0) 1 v), Value.int IntKind.u32 (g.r 1), Value.int IntKind.u32 (g.r 2), Value.int IntKind.u32 (g.r 3), Value.int IntKind.u32 (g.r 4), Value.int IntKind.u32 (g.r 5), Value.int IntKind.u32 (g.r 6), Value.int IntKind.u32 (g.r 7), Value.int IntKind.u32 g.pc, Value.bool (g.f 0), Value.bool (g.f 1), Value.bool (g.f 2), Value.bool (g.f 3), Value.bool (g.f 4), Value.bool (g.f 5), Value.bool g.df, Value.int IntKind.u64 g.x] 28)) 28 z17)
  rw [World.size_alloc] at hF
  have hK : Below w.heap.size w (((w.alloc (.cells #[Value.int IntKind.u32 (setB (g.r 0) 1 v), Value.int IntKind.u32 (g.r 1), Value.int IntKind.u32 (g.r 2), Value.int IntKind.u32 (g.r 3), Value.int IntKind.u32 (g.r 4), Value.int IntKind.u32 (g.r 5), Value.int IntKind.u32 (g.r 6), Value.int IntKind.u32 (g.r 7), Value.int IntKind.u32 g.pc, Value.bool (g.f 0), Value.bool (g.f 1), Value.bool (g.f 2), Value.bool (g.f 3), Value.bool (g.f 4), Value.bool (g.f 5), Value.bool g.df, Value.int IntKind.u64 g.x] 28)).alloc (.cells z17 28))) := ((Below.refl _ w).alloc (Nat.le_refl _) _).alloc (by simp) _
  clear hZ
  go_enter Tryd.func13, Tryd.ntmps13
  go_wp2_with (first | with_reducible refine stop_load 28 _ rfl ?_)
  generalize hN : w.heap.size = N at *
  generalize ((w.alloc (.cells #[Value.int IntKind.u32 (setB (g.r 0) 1 v), Value.int IntKind.u32 (g.r 1), Value.int IntKind.u32 (g.r 2), Value.int IntKind.u32 (g.r 3), Value.int IntKind.u32 (g.r 4), Value.int IntKind.u32 (g.r 5), Value.int IntKind.u32 (g.r 6), Value.int IntKind.u32 (g.r 7), Value.int IntKind.u32 g.pc, Value.bool (g.f 0), Value.bool (g.f 1), Value.bool (g.f 2), Value.bool (g.f 3), Value.bool (g.f 4), Value.bool (g.f 5), Value.bool g.df, Value.int IntKind.u64 g.x] 28)).alloc (.cells z17 28)) = W2 at *
  have kG := hF.row #[Value.int IntKind.u32 (setB (g.r 0) 1 v), Value.int IntKind.u32 (g.r 1), Value.int IntKind.u32 (g.r 2), Value.int IntKind.u32 (g.r 3), Value.int IntKind.u32 (g.r 4), Value.int IntKind.u32 (g.r 5), Value.int IntKind.u32 (g.r 6), Value.int IntKind.u32 (g.r 7), Value.int IntKind.u32 g.pc, Value.bool (g.f 0), Value.bool (g.f 1), Value.bool (g.f 2), Value.bool (g.f 3), Value.bool (g.f 4), Value.bool (g.f 5), Value.bool g.df, Value.int IntKind.u64 g.x]
  have kH := below_rowNew hK (N := N + 1) (by omega) #[Value.int IntKind.u32 (setB (g.r 0) 1 v), Value.int IntKind.u32 (g.r 1), Value.int IntKind.u32 (g.r 2), Value.int IntKind.u32 (g.r 3), Value.int IntKind.u32 (g.r 4), Value.int IntKind.u32 (g.r 5), Value.int IntKind.u32 (g.r 6), Value.int IntKind.u32 (g.r 7), Value.int IntKind.u32 g.pc, Value.bool (g.f 0), Value.bool (g.f 1), Value.bool (g.f 2), Value.bool (g.f 3), Value.bool (g.f 4), Value.bool (g.f 5), Value.bool g.df, Value.int IntKind.u64 g.x]
  generalize #[Value.int IntKind.u32 (setB (g.r 0) 1 v), Value.int IntKind.u32 (g.r 1), Value.int IntKind.u32 (g.r 2), Value.int IntKind.u32 (g.r 3), Value.int IntKind.u32 (g.r 4), Value.int IntKind.u32 (g.r 5), Value.int IntKind.u32 (g.r 6), Value.int IntKind.u32 (g.r 7), Value.int IntKind.u32 g.pc, Value.bool (g.f 0), Value.bool (g.f 1), Value.bool (g.f 2), Value.bool (g.f 3), Value.bool (g.f 4), Value.bool (g.f 5), Value.bool g.df, Value.int IntKind.u64 g.x] = Z at *
  generalize z17 = Z0 at *
  unfold RowKit.Hid
  go_wp2_with (first | with_reducible refine wpList_load_row rfl 28 _ rfl N rfl 28 _ (0, 0) _ hE Tryd.underlying28 rfl hs2 ?_ | with_reducible refine wpList_store_row rfl 28 _ _ rfl (N + 1) _ rfl rfl 28 _ hF.h hs2 hold hcell ?_)
  exact bodyPost_ret (v := Value.agg Z) (results_cell_row rfl _ _ (N + 1) 28 _ (0, 0) _ rfl kG.h Tryd.underlying28 rfl hs2) rfl ⟨by rw [hag.out], by rw [hN]; exact kH⟩
theorem rSetReg8_5 (g : Gs) (h : g.ok) (i v : Int) (hv : 0 ≤ v ∧ v ≤ 4294967295) (e : i % 8 = 5) (w : World) : Calls Tryd.prog 13 #[stV g, .int .i64 i, .int .u32 v] w fun e w' => e = .returned (stV (setr g 1 (setB (g.r 1) 1 v))) ∧ Below w.heap.size w w' := by
  have h7 : bits .and .i64 i 7 = 5 := (and7 i).trans e
  have hr := h.r 1
  have f1 := andNot_mid (g.r 1) hr
  have f2 := u32_and_low v hv
  have f3 := or_mid (g.r 1) v hr
  have hval : g.r 1 - g.r 1 / 256 % 256 * 256 + v % 256 * 256 = setB (g.r 1) 1 v := by simp [setB]
  rw [hval] at f3
  clear e hval
  have hZ : #[Value.int IntKind.u32 (g.r 0), Value.int IntKind.u32 (setB (g.r 1) 1 v), Value.int IntKind.u32 (g.r 2), Value.int IntKind.u32 (g.r 3), Value.int IntKind.u32 (g.r 4), Value.int IntKind.u32 (g.r 5), Value.int IntKind.u32 (g.r 6), Value.int IntKind.u32 (g.r 7), Value.int IntKind.u32 g.pc, Value.bool (g.f 0), Value.bool (g.f 1), Value.bool (g.f 2), Value.bool (g.f 3), Value.bool (g.f 4), Value.bool (g.f 5), Value.bool g.df, Value.int IntKind.u64 g.x] = stA (setr g 1 (setB (g.r 1) 1 v)) := by simp [stA, setr]
  have hs2 : (Tryd.prog.info? 28).map (·.size) = some (stA (setr g 1 (setB (g.r 1) 1 v))).size := sz17
  have hold : z17.size = (stA (setr g 1 (setB (g.r 1) 1 v))).size := rfl
  have hcell : (stA (setr g 1 (setB (g.r 1) 1 v))).all (·.oneCell') = true := stA_one _
  have hag : RowKit.Hid (Value.agg (stA (setr g 1 (setB (g.r 1) 1 v))) = stV (setr g 1 (setB (g.r 1) 1 v))) := rfl
  rw [← hZ] at hs2 hold hcell hag
  have hE := ((Blk.new w 28 #[Value.int IntKind.u32 (g.r 0), Value.int IntKind.u32 (setB (g.r 1) 1 v), Value.int IntKind.u32 (g.r 2), Value.int IntKind.u32 (g.r 3), Value.int IntKind.u32 (g.r 4), Value.int IntKind.u32 (g.r 5), Value.int IntKind.u32 (g.r 6), Value.int IntKind.u32 (g.r 7), Value.int IntKind.u32 g.pc, Value.bool (g.f 0), Value.bool (g.f 1), Value.bool (g.f 2), Value.bool (g.f 3), Value.bool (g.f 4), Value.bool (g.f 5), Value.bool g.df, Value.int IntKind.u64 g.x]).alloc (.cells z17 28)).h
  have hF := (Blk.new (w.alloc (.cells #[Value.int IntKind.u32 (g.r 0), Value.int IntKind.u32 (setB (g.r 1) 1 v), Value.int IntKind.u32 (g.r 2), Value.int IntKind.u32 (g.r 3), Value.int IntKind.u32 (g.r 4), Value.int IntKind.u32 (g.r 5), Value.int IntKind.u32 (g.r 6), Value.int IntKind.u32 (g.r 7), Value.int IntKind.u32 g.pc, Value.bool (g.f 0), Value.bool (g.f 1), Value.bool (g.f 2), Value.bool (g.f 3), Value.bool (g.f 4), Value.bool (g.f 5), Value.bool g.df, Value.int IntKind.u64 g.x] 28)) 28 z17)
  rw [World.size_alloc] at hF
  have hK : Below w.heap.size w (((w.alloc (.cells #[Value.int IntKind.u32 (g.r 0), Value.int IntKind.u32 (setB (g.r 1) 1 v), Value.int IntKind.u32 (g.r 2), Value.int IntKind.u32 (g.r 3), Value.int IntKind.u32 (g.r 4), Value.int IntKind.u32 (g.r 5), Value.int IntKind.u32 (g.r 6), Value.int IntKind.u32 (g.r 7), Value.int IntKind.u32 g.pc, Value.bool (g.f 0), Value.bool (g.f 1), Value.bool (g.f 2), Value.bool (g.f 3), Value.bool (g.f 4), Value.bool (g.f 5), Value.bool g.df, Value.int IntKind.u64 g.x] 28)).alloc (.cells z17 28))) := ((Below.refl _ w).alloc (Nat.le_refl _) _).alloc (by simp) _
  clear hZ
  go_enter Tryd.func13, Tryd.ntmps13
  go_wp2_with (first | with_reducible refine stop_load 28 _ rfl ?_)
  generalize hN : w.heap.size = N at *
  generalize ((w.alloc (.cells #[Value.int IntKind.u32 (g.r 0), Value.int IntKind.u32 (setB (g.r 1) 1 v), Value.int IntKind.u32 (g.r 2), Value.int IntKind.u32 (g.r 3), Value.int IntKind.u32 (g.r 4), Value.int IntKind.u32 (g.r 5), Value.int IntKind.u32 (g.r 6), Value.int IntKind.u32 (g.r 7), Value.int IntKind.u32 g.pc, Value.bool (g.f 0), Value.bool (g.f 1), Value.bool (g.f 2), Value.bool (g.f 3), Value.bool (g.f 4), Value.bool (g.f 5), Value.bool g.df, Value.int IntKind.u64 g.x] 28)).alloc (.cells z17 28)) = W2 at *
  have kG := hF.row #[Value.int IntKind.u32 (g.r 0), Value.int IntKind.u32 (setB (g.r 1) 1 v), Value.int IntKind.u32 (g.r 2), Value.int IntKind.u32 (g.r 3), Value.int IntKind.u32 (g.r 4), Value.int IntKind.u32 (g.r 5), Value.int IntKind.u32 (g.r 6), Value.int IntKind.u32 (g.r 7), Value.int IntKind.u32 g.pc, Value.bool (g.f 0), Value.bool (g.f 1), Value.bool (g.f 2), Value.bool (g.f 3), Value.bool (g.f 4), Value.bool (g.f 5), Value.bool g.df, Value.int IntKind.u64 g.x]
  have kH := below_rowNew hK (N := N + 1) (by omega) #[Value.int IntKind.u32 (g.r 0), Value.int IntKind.u32 (setB (g.r 1) 1 v), Value.int IntKind.u32 (g.r 2), Value.int IntKind.u32 (g.r 3), Value.int IntKind.u32 (g.r 4), Value.int IntKind.u32 (g.r 5), Value.int IntKind.u32 (g.r 6), Value.int IntKind.u32 (g.r 7), Value.int IntKind.u32 g.pc, Value.bool (g.f 0), Value.bool (g.f 1), Value.bool (g.f 2), Value.bool (g.f 3), Value.bool (g.f 4), Value.bool (g.f 5), Value.bool g.df, Value.int IntKind.u64 g.x]
  generalize #[Value.int IntKind.u32 (g.r 0), Value.int IntKind.u32 (setB (g.r 1) 1 v), Value.int IntKind.u32 (g.r 2), Value.int IntKind.u32 (g.r 3), Value.int IntKind.u32 (g.r 4), Value.int IntKind.u32 (g.r 5), Value.int IntKind.u32 (g.r 6), Value.int IntKind.u32 (g.r 7), Value.int IntKind.u32 g.pc, Value.bool (g.f 0), Value.bool (g.f 1), Value.bool (g.f 2), Value.bool (g.f 3), Value.bool (g.f 4), Value.bool (g.f 5), Value.bool g.df, Value.int IntKind.u64 g.x] = Z at *
  generalize z17 = Z0 at *
  unfold RowKit.Hid
  go_wp2_with (first | with_reducible refine wpList_load_row rfl 28 _ rfl N rfl 28 _ (0, 0) _ hE Tryd.underlying28 rfl hs2 ?_ | with_reducible refine wpList_store_row rfl 28 _ _ rfl (N + 1) _ rfl rfl 28 _ hF.h hs2 hold hcell ?_)
  exact bodyPost_ret (v := Value.agg Z) (results_cell_row rfl _ _ (N + 1) 28 _ (0, 0) _ rfl kG.h Tryd.underlying28 rfl hs2) rfl ⟨by rw [hag.out], by rw [hN]; exact kH⟩
theorem rSetReg8_6 (g : Gs) (h : g.ok) (i v : Int) (hv : 0 ≤ v ∧ v ≤ 4294967295) (e : i % 8 = 6) (w : World) : Calls Tryd.prog 13 #[stV g, .int .i64 i, .int .u32 v] w fun e w' => e = .returned (stV (setr g 2 (setB (g.r 2) 1 v))) ∧ Below w.heap.size w w' := by
  have h7 : bits .and .i64 i 7 = 6 := (and7 i).trans e
  have hr := h.r 2
  have f1 := andNot_mid (g.r 2) hr
  have f2 := u32_and_low v hv
  have f3 := or_mid (g.r 2) v hr
  have hval : g.r 2 - g.r 2 / 256 % 256 * 256 + v % 256 * 256 = setB (g.r 2) 1 v := by simp [setB]
  rw [hval] at f3
  clear e hval
  have hZ : #[Value.int IntKind.u32 (g.r 0), Value.int IntKind.u32 (g.r 1), Value.int IntKind.u32 (setB (g.r 2) 1 v), Value.int IntKind.u32 (g.r 3), Value.int IntKind.u32 (g.r 4), Value.int IntKind.u32 (g.r 5), Value.int IntKind.u32 (g.r 6), Value.int IntKind.u32 (g.r 7), Value.int IntKind.u32 g.pc, Value.bool (g.f 0), Value.bool (g.f 1), Value.bool (g.f 2), Value.bool (g.f 3), Value.bool (g.f 4), Value.bool (g.f 5), Value.bool g.df, Value.int IntKind.u64 g.x] = stA (setr g 2 (setB (g.r 2) 1 v)) := by simp [stA, setr]
  have hs2 : (Tryd.prog.info? 28).map (·.size) = some (stA (setr g 2 (setB (g.r 2) 1 v))).size := sz17
  have hold : z17.size = (stA (setr g 2 (setB (g.r 2) 1 v))).size := rfl
  have hcell : (stA (setr g 2 (setB (g.r 2) 1 v))).all (·.oneCell') = true := stA_one _
  have hag : RowKit.Hid (Value.agg (stA (setr g 2 (setB (g.r 2) 1 v))) = stV (setr g 2 (setB (g.r 2) 1 v))) := rfl
  rw [← hZ] at hs2 hold hcell hag
  have hE := ((Blk.new w 28 #[Value.int IntKind.u32 (g.r 0), Value.int IntKind.u32 (g.r 1), Value.int IntKind.u32 (setB (g.r 2) 1 v), Value.int IntKind.u32 (g.r 3), Value.int IntKind.u32 (g.r 4), Value.int IntKind.u32 (g.r 5), Value.int IntKind.u32 (g.r 6), Value.int IntKind.u32 (g.r 7), Value.int IntKind.u32 g.pc, Value.bool (g.f 0), Value.bool (g.f 1), Value.bool (g.f 2), Value.bool (g.f 3), Value.bool (g.f 4), Value.bool (g.f 5), Value.bool g.df, Value.int IntKind.u64 g.x]).alloc (.cells z17 28)).h
  have hF := (Blk.new (w.alloc (.cells #[Value.int IntKind.u32 (g.r 0), Value.int IntKind.u32 (g.r 1), Value.int IntKind.u32 (setB (g.r 2) 1 v), Value.int IntKind.u32 (g.r 3), Value.int IntKind.u32 (g.r 4), Value.int IntKind.u32 (g.r 5), Value.int IntKind.u32 (g.r 6), Value.int IntKind.u32 (g.r 7), Value.int IntKind.u32 g.pc, Value.bool (g.f 0), Value.bool (g.f 1), Value.bool (g.f 2), Value.bool (g.f 3), Value.bool (g.f 4), Value.bool (g.f 5), Value.bool g.df, Value.int IntKind.u64 g.x] 28)) 28 z17)
  rw [World.size_alloc] at hF
  have hK : Below w.heap.size w (((w.alloc (.cells #[Value.int IntKind.u32 (g.r 0), Value.int IntKind.u32 (g.r 1), Value.int IntKind.u32 (setB (g.r 2) 1 v), Value.int IntKind.u32 (g.r 3), Value.int IntKind.u32 (g.r 4), Value.int IntKind.u32 (g.r 5), Value.int IntKind.u32 (g.r 6), Value.int IntKind.u32 (g.r 7), Value.int IntKind.u32 g.pc, Value.bool (g.f 0), Value.bool (g.f 1), Value.bool (g.f 2), Value.bool (g.f 3), Value.bool (g.f 4), Value.bool (g.f 5), Value.bool g.df, Value.int IntKind.u64 g.x] 28)).alloc (.cells z17 28))) := ((Below.refl _ w).alloc (Nat.le_refl _) _).alloc (by simp) _
  clear hZ
  go_enter Tryd.func13, Tryd.ntmps13
  go_wp2_with (first | with_reducible refine stop_load 28 _ rfl ?_)
  generalize hN : w.heap.size = N at *
  generalize ((w.alloc (.cells #[Value.int IntKind.u32 (g.r 0), Value.int IntKind.u32 (g.r 1), Value.int IntKind.u32 (setB (g.r 2) 1 v), Value.int IntKind.u32 (g.r 3), Value.int IntKind.u32 (g.r 4), Value.int IntKind.u32 (g.r 5), Value.int IntKind.u32 (g.r 6), Value.int IntKind.u32 (g.r 7), Value.int IntKind.u32 g.pc, Value.bool (g.f 0), Value.bool (g.f 1), Value.bool (g.f 2), Value.bool (g.f 3), Value.bool (g.f 4), Value.bool (g.f 5), Value.bool g.df, Value.int IntKind.u64 g.x] 28)).alloc (.cells z17 28)) = W2 at *
  have kG := hF.row #[Value.int IntKind.u32 (g.r 0), Value.int IntKind.u32 (g.r 1), Value.int IntKind.u32 (setB (g.r 2) 1 v), Value.int IntKind.u32 (g.r 3), Value.int IntKind.u32 (g.r 4), Value.int IntKind.u32 (g.r 5), Value.int IntKind.u32 (g.r 6), Value.int IntKind.u32 (g.r 7), Value.int IntKind.u32 g.pc, Value.bool (g.f 0), Value.bool (g.f 1), Value.bool (g.f 2), Value.bool (g.f 3), Value.bool (g.f 4), Value.bool (g.f 5), Value.bool g.df, Value.int IntKind.u64 g.x]
  have kH := below_rowNew hK (N := N + 1) (by omega) #[Value.int IntKind.u32 (g.r 0), Value.int IntKind.u32 (g.r 1), Value.int IntKind.u32 (setB (g.r 2) 1 v), Value.int IntKind.u32 (g.r 3), Value.int IntKind.u32 (g.r 4), Value.int IntKind.u32 (g.r 5), Value.int IntKind.u32 (g.r 6), Value.int IntKind.u32 (g.r 7), Value.int IntKind.u32 g.pc, Value.bool (g.f 0), Value.bool (g.f 1), Value.bool (g.f 2), Value.bool (g.f 3), Value.bool (g.f 4), Value.bool (g.f 5), Value.bool g.df, Value.int IntKind.u64 g.x]
  generalize #[Value.int IntKind.u32 (g.r 0), Value.int IntKind.u32 (g.r 1), Value.int IntKind.u32 (setB (g.r 2) 1 v), Value.int IntKind.u32 (g.r 3), Value.int IntKind.u32 (g.r 4), Value.int IntKind.u32 (g.r 5), Value.int IntKind.u32 (g.r 6), Value.int IntKind.u32 (g.r 7), Value.int IntKind.u32 g.pc, Value.bool (g.f 0), Value.bool (g.f 1), Value.bool (g.f 2), Value.bool (g.f 3), Value.bool (g.f 4), Value.bool (g.f 5), Value.bool g.df, Value.int IntKind.u64 g.x] = Z at *
  generalize z17 = Z0 at *
  unfold RowKit.Hid
  go_wp2_with (first | with_reducible refine wpList_load_row rfl 28 _ rfl N rfl 28 _ (0, 0) _ hE Tryd.underlying28 rfl hs2 ?_ | with_reducible refine wpList_store_row rfl 28 _ _ rfl (N + 1) _ rfl rfl 28 _ hF.h hs2 hold hcell ?_)
  exact bodyPost_ret (v := Value.agg Z) (results_cell_row rfl _ _ (N + 1) 28 _ (0, 0) _ rfl kG.h Tryd.underlying28 rfl hs2) rfl ⟨by rw [hag.out], by rw [hN]; exact kH⟩
theorem rSetReg8_7 (g : Gs) (h : g.ok) (i v : Int) (hv : 0 ≤ v ∧ v ≤ 4294967295) (e : i % 8 = 7) (w : World) : Calls Tryd.prog 13 #[stV g, .int .i64 i, .int .u32 v] w fun e w' => e = .returned (stV (setr g 3 (setB (g.r 3) 1 v))) ∧ Below w.heap.size w w' := by
  have h7 : bits .and .i64 i 7 = 7 := (and7 i).trans e
  have hr := h.r 3
  have f1 := andNot_mid (g.r 3) hr
  have f2 := u32_and_low v hv
  have f3 := or_mid (g.r 3) v hr
  have hval : g.r 3 - g.r 3 / 256 % 256 * 256 + v % 256 * 256 = setB (g.r 3) 1 v := by simp [setB]
  rw [hval] at f3
  clear e hval
  have hZ : #[Value.int IntKind.u32 (g.r 0), Value.int IntKind.u32 (g.r 1), Value.int IntKind.u32 (g.r 2), Value.int IntKind.u32 (setB (g.r 3) 1 v), Value.int IntKind.u32 (g.r 4), Value.int IntKind.u32 (g.r 5), Value.int IntKind.u32 (g.r 6), Value.int IntKind.u32 (g.r 7), Value.int IntKind.u32 g.pc, Value.bool (g.f 0), Value.bool (g.f 1), Value.bool (g.f 2), Value.bool (g.f 3), Value.bool (g.f 4), Value.bool (g.f 5), Value.bool g.df, Value.int IntKind.u64 g.x] = stA (setr g 3 (setB (g.r 3) 1 v)) := by simp [stA, setr]
  have hs2 : (Tryd.prog.info? 28).map (·.size) = some (stA (setr g 3 (setB (g.r 3) 1 v))).size := sz17
  have hold : z17.size = (stA (setr g 3 (setB (g.r 3) 1 v))).size := rfl
  have hcell : (stA (setr g 3 (setB (g.r 3) 1 v))).all (·.oneCell') = true := stA_one _
  have hag : RowKit.Hid (Value.agg (stA (setr g 3 (setB (g.r 3) 1 v))) = stV (setr g 3 (setB (g.r 3) 1 v))) := rfl
  rw [← hZ] at hs2 hold hcell hag
  have hE := ((Blk.new w 28 #[Value.int IntKind.u32 (g.r 0), Value.int IntKind.u32 (g.r 1), Value.int IntKind.u32 (g.r 2), Value.int IntKind.u32 (setB (g.r 3) 1 v), Value.int IntKind.u32 (g.r 4), Value.int IntKind.u32 (g.r 5), Value.int IntKind.u32 (g.r 6), Value.int IntKind.u32 (g.r 7), Value.int IntKind.u32 g.pc, Value.bool (g.f 0), Value.bool (g.f 1), Value.bool (g.f 2), Value.bool (g.f 3), Value.bool (g.f 4), Value.bool (g.f 5), Value.bool g.df, Value.int IntKind.u64 g.x]).alloc (.cells z17 28)).h
  have hF := (Blk.new (w.alloc (.cells #[Value.int IntKind.u32 (g.r 0), Value.int IntKind.u32 (g.r 1), Value.int IntKind.u32 (g.r 2), Value.int IntKind.u32 (setB (g.r 3) 1 v), Value.int IntKind.u32 (g.r 4), Value.int IntKind.u32 (g.r 5), Value.int IntKind.u32 (g.r 6), Value.int IntKind.u32 (g.r 7), Value.int IntKind.u32 g.pc, Value.bool (g.f 0), Value.bool (g.f 1), Value.bool (g.f 2), Value.bool (g.f 3), Value.bool (g.f 4), Value.bool (g.f 5), Value.bool g.df, Value.int IntKind.u64 g.x] 28)) 28 z17)
  rw [World.size_alloc] at hF
  have hK : Below w.heap.size w (((w.alloc (.cells #[Value.int IntKind.u32 (g.r 0), Value.int IntKind.u32 (g.r 1), Value.int IntKind.u32 (g.r 2), Value.int IntKind.u32 (setB (g.r 3) 1 v), Value.int IntKind.u32 (g.r 4), Value.int IntKind.u32 (g.r 5), Value.int IntKind.u32 (g.r 6), Value.int IntKind.u32 (g.r 7), Value.int IntKind.u32 g.pc, Value.bool (g.f 0), Value.bool (g.f 1), Value.bool (g.f 2), Value.bool (g.f 3), Value.bool (g.f 4), Value.bool (g.f 5), Value.bool g.df, Value.int IntKind.u64 g.x] 28)).alloc (.cells z17 28))) := ((Below.refl _ w).alloc (Nat.le_refl _) _).alloc (by simp) _
  clear hZ
  go_enter Tryd.func13, Tryd.ntmps13
  go_wp2_with (first | with_reducible refine stop_load 28 _ rfl ?_)
  generalize hN : w.heap.size = N at *
  generalize ((w.alloc (.cells #[Value.int IntKind.u32 (g.r 0), Value.int IntKind.u32 (g.r 1), Value.int IntKind.u32 (g.r 2), Value.int IntKind.u32 (setB (g.r 3) 1 v), Value.int IntKind.u32 (g.r 4), Value.int IntKind.u32 (g.r 5), Value.int IntKind.u32 (g.r 6), Value.int IntKind.u32 (g.r 7), Value.int IntKind.u32 g.pc, Value.bool (g.f 0), Value.bool (g.f 1), Value.bool (g.f 2), Value.bool (g.f 3), Value.bool (g.f 4), Value.bool (g.f 5), Value.bool g.df, Value.int IntKind.u64 g.x] 28)).alloc (.cells z17 28)) = W2 at *
  have kG := hF.row #[Value.int IntKind.u32 (g.r 0), Value.int IntKind.u32 (g.r 1), Value.int IntKind.u32 (g.r 2), Value.int IntKind.u32 (setB (g.r 3) 1 v), Value.int IntKind.u32 (g.r 4), Value.int IntKind.u32 (g.r 5), Value.int IntKind.u32 (g.r 6), Value.int IntKind.u32 (g.r 7), Value.int IntKind.u32 g.pc, Value.bool (g.f 0), Value.bool (g.f 1), Value.bool (g.f 2), Value.bool (g.f 3), Value.bool (g.f 4), Value.bool (g.f 5), Value.bool g.df, Value.int IntKind.u64 g.x]
  have kH := below_rowNew hK (N := N + 1) (by omega) #[Value.int IntKind.u32 (g.r 0), Value.int IntKind.u32 (g.r 1), Value.int IntKind.u32 (g.r 2), Value.int IntKind.u32 (setB (g.r 3) 1 v), Value.int IntKind.u32 (g.r 4), Value.int IntKind.u32 (g.r 5), Value.int IntKind.u32 (g.r 6), Value.int IntKind.u32 (g.r 7), Value.int IntKind.u32 g.pc, Value.bool (g.f 0), Value.bool (g.f 1), Value.bool (g.f 2), Value.bool (g.f 3), Value.bool (g.f 4), Value.bool (g.f 5), Value.bool g.df, Value.int IntKind.u64 g.x]
  generalize #[Value.int IntKind.u32 (g.r 0), Value.int IntKind.u32 (g.r 1), Value.int IntKind.u32 (g.r 2), Value.int IntKind.u32 (setB (g.r 3) 1 v), Value.int IntKind.u32 (g.r 4), Value.int IntKind.u32 (g.r 5), Value.int IntKind.u32 (g.r 6), Value.int IntKind.u32 (g.r 7), Value.int IntKind.u32 g.pc, Value.bool (g.f 0), Value.bool (g.f 1), Value.bool (g.f 2), Value.bool (g.f 3), Value.bool (g.f 4), Value.bool (g.f 5), Value.bool g.df, Value.int IntKind.u64 g.x] = Z at *
  generalize z17 = Z0 at *
  unfold RowKit.Hid
  go_wp2_with (first | with_reducible refine wpList_load_row rfl 28 _ rfl N rfl 28 _ (0, 0) _ hE Tryd.underlying28 rfl hs2 ?_ | with_reducible refine wpList_store_row rfl 28 _ _ rfl (N + 1) _ rfl rfl 28 _ hF.h hs2 hold hcell ?_)
  exact bodyPost_ret (v := Value.agg Z) (results_cell_row rfl _ _ (N + 1) 28 _ (0, 0) _ rfl kG.h Tryd.underlying28 rfl hs2) rfl ⟨by rw [hag.out], by rw [hN]; exact kH⟩
theorem SetReg8_any (g : Gs) (h : g.ok) (i v : Int) (hi : -9223372036854775808 ≤ i ∧ i ≤ 9223372036854775807) (hv : 0 ≤ v ∧ v ≤ 4294967295) (w : World) : Calls Tryd.prog 12 #[stV g, .int .i64 i, .int .u32 v] w fun e w' => e = .returned (stV (set8L g (no8 i) v)) ∧ Below w.heap.size w w' := by
  rcases (by omega : i % 8 = 0 ∨ i % 8 = 1 ∨ i % 8 = 2 ∨ i % 8 = 3 ∨ i % 8 = 4 ∨ i % 8 = 5 ∨ i % 8 = 6 ∨ i % 8 = 7) with e | e | e | e | e | e | e | e
  · rw [show no8 i = 0 by unfold no8; omega]; exact SetReg8_0 g h i v hi hv e w
  · rw [show no8 i = 1 by unfold no8; omega]; exact SetReg8_1 g h i v hi hv e w
  · rw [show no8 i = 2 by unfold no8; omega]; exact SetReg8_2 g h i v hi hv e w
  · rw [show no8 i = 3 by unfold no8; omega]; exact SetReg8_3 g h i v hi hv e w
  · rw [show no8 i = 4 by unfold no8; omega]; exact SetReg8_4 g h i v hi hv e w
  · rw [show no8 i = 5 by unfold no8; omega]; exact SetReg8_5 g h i v hi hv e w
  · rw [show no8 i = 6 by unfold no8; omega]; exact SetReg8_6 g h i v hi hv e w
  · rw [show no8 i = 7 by unfold no8; omega]; exact SetReg8_7 g h i v hi hv e w
theorem rSetReg8_any (g : Gs) (h : g.ok) (i v : Int) (hv : 0 ≤ v ∧ v ≤ 4294967295) (w : World) : Calls Tryd.prog 13 #[stV g, .int .i64 i, .int .u32 v] w fun e w' => e = .returned (stV (set8L g (no8 i) v)) ∧ Below w.heap.size w w' := by
  rcases (by omega : i % 8 = 0 ∨ i % 8 = 1 ∨ i % 8 = 2 ∨ i % 8 = 3 ∨ i % 8 = 4 ∨ i % 8 = 5 ∨ i % 8 = 6 ∨ i % 8 = 7) with e | e | e | e | e | e | e | e
  · rw [show no8 i = 0 by unfold no8; omega]; exact rSetReg8_0 g h i v hv e w
  · rw [show no8 i = 1 by unfold no8; omega]; exact rSetReg8_1 g h i v hv e w
  · rw [show no8 i = 2 by unfold no8; omega]; exact rSetReg8_2 g h i v hv e w
  · rw [show no8 i = 3 by unfold no8; omega]; exact rSetReg8_3 g h i v hv e w
  · rw [show no8 i = 4 by unfold no8; omega]; exact rSetReg8_4 g h i v hv e w
  · rw [show no8 i = 5 by unfold no8; omega]; exact rSetReg8_5 g h i v hv e w
  · rw [show no8 i = 6 by unfold no8; omega]; exact rSetReg8_6 g h i v hv e w
  · rw [show no8 i = 7 by unfold no8; omega]; exact rSetReg8_7 g h i v hv e w
end Go.Proofs.YtgamghmeefoopaaDoor
