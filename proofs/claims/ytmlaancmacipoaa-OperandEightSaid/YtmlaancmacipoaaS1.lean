/- state: bytes of registers, read and set. -/
import Derived.Test.YtmlaancmacipoaaG0
import Derived.Test.YtmlaancmacipoaaBits
import Derived.Test.YtmlaancmacipoaaB0
import Derived.Laws.CopyRow
namespace Go.Proofs.Ytmlaancmacipoaa
open Go.RowKit
set_option linter.unusedVariables false
set_option linter.unusedSimpArgs false
set_option linter.unusedSectionVars false

theorem sz17 : (Try.prog.info? 44).map (·.size) = some 17 := szS
theorem left_eq (i : Int) (n : Nat) (h0 : 0 < n) (h1 : n ≤ 16) (hi : -9223372036854775808 ≤ i ∧ i ≤ 9223372036854775807) : (wrap64 (i.tmod n + n)).tmod n = i % n := by
  have hn : (0 : Int) < n := by omega
  have hm : 0 ≤ i % (n : Int) ∧ i % (n : Int) < n := ⟨Int.emod_nonneg _ (by omega), Int.emod_lt_of_pos _ hn⟩
  have ht : i.tmod n = i % n ∨ i.tmod n = i % n - n := by
    by_cases h : 0 ≤ i
    · exact .inl (Int.tmod_eq_emod_of_nonneg h)
    · rw [Int.tmod_eq_emod]
      split
      · left; omega
      · right; simp
  have hw : wrap64 (i.tmod n + n) = i.tmod n + n := by unfold wrap64; omega
  rw [hw, Int.tmod_eq_emod_of_nonneg (by omega)]
  rcases ht with ht | ht
  · rw [ht, Int.add_emod_right, Int.emod_emod]
  · rw [ht, show i % (n : Int) - n + n = i % n by omega, Int.emod_emod]
theorem left_8 (i : Int) (hi : -9223372036854775808 ≤ i ∧ i ≤ 9223372036854775807) (w : World) : Calls Try.prog 73 #[.int .i64 i, .int .i64 8] w fun e w' => e = .returned (.int .i64 (i % 8)) ∧ w = w' := by
  go_enter Try.func73, Try.ntmps73
  go_wp2
  go_ret
  exact ⟨ret_int (left_eq i 8 (by decide) (by decide) hi), rfl⟩
theorem byteOf_any (i : Int) (hi : -9223372036854775808 ≤ i ∧ i ≤ 9223372036854775807) (w : World) : Calls Try.prog 70 #[.int .i64 i] w fun e w' => e = .returned (.tuple #[.int .i64 (i % 8 % 4), .int .i64 (i % 8 / 4)]) ∧ w = w' := by
  have hb : 0 ≤ i % 8 ∧ i % 8 < 8 := by omega
  go_enter Try.func70, Try.ntmps70
  go_wp2_with (first | (go_at_call 73; refine (left_8 _ hi _).mono ?_; rintro e w' ⟨rfl, rfl⟩))
  generalize i % 8 = k at *
  go_ret2
  exact ⟨ret_ii (by omega) (by omega), rfl⟩
def byteL (x : Int) (b : Nat) : Int := if b = 0 then x % 256 else x / 256 % 256
def setB (x : Int) (b : Nat) (v : Int) : Int := if b = 0 then x - x % 256 + v % 256 else x - x / 256 % 256 * 256 + v % 256 * 256
theorem setB_bd {x v : Int} (hx : 0 ≤ x ∧ x ≤ 4294967295) (b : Nat) : 0 ≤ setB x b v ∧ setB x b v ≤ 4294967295 := by
  unfold setB; split <;> omega
abbrev b4 (x : Int) : Value := .agg #[.int .u8 (x % 256), .int .u8 (x / 256 % 256), .int .u8 (x / 65536 % 256), .int .u8 (x / 16777216)]
theorem ixb0 (x : Int) (W : World) : (Instr.index 105 (b4 x) (.int .i64 0)).run Try.prog W = .ok (.int .u8 (x % 256)) W := by kernel_rfl
theorem ixb1 (x : Int) (W : World) : (Instr.index 105 (b4 x) (.int .i64 1)).run Try.prog W = .ok (.int .u8 (x / 256 % 256)) W := by kernel_rfl
theorem Reg8_0 (g : Gs) (h : g.ok) (i : Int) (hi : -9223372036854775808 ≤ i ∧ i ≤ 9223372036854775807) (e : i % 8 = 0) (w : World) : Calls Try.prog 65 #[stV g, .int .i64 i] w fun e w' => e = .returned (.int .u32 (byteL (g.r 0) 0)) ∧ Below w.heap.size w w' := by
  have hb : ∀ w, Calls Try.prog 70 #[.int .i64 i] w fun e w' => e = .returned (.tuple #[.int .i64 0, .int .i64 0]) ∧ w = w' := fun w => by
    have := byteOf_any i hi w
    rw [e] at this
    exact this
  have hr := h.r 0
  have hix := ixb0 (g.r 0)
  clear e
  go_enter Try.func65, Try.ntmps65
  go_wp2_with (first | (go_at_call 70; refine (hb _).mono ?_; rintro e w' ⟨rfl, rfl⟩) | (go_at_call 71; refine (bytes_any _ hr _).mono ?_; rintro e w' ⟨rfl, rfl⟩))
  go_ret
  exact ⟨rfl, ((Below.refl _ _).alloc (Nat.le_refl _) _).alloc (by simp) _⟩
theorem Reg8_1 (g : Gs) (h : g.ok) (i : Int) (hi : -9223372036854775808 ≤ i ∧ i ≤ 9223372036854775807) (e : i % 8 = 1) (w : World) : Calls Try.prog 65 #[stV g, .int .i64 i] w fun e w' => e = .returned (.int .u32 (byteL (g.r 1) 0)) ∧ Below w.heap.size w w' := by
  have hb : ∀ w, Calls Try.prog 70 #[.int .i64 i] w fun e w' => e = .returned (.tuple #[.int .i64 1, .int .i64 0]) ∧ w = w' := fun w => by
    have := byteOf_any i hi w
    rw [e] at this
    exact this
  have hr := h.r 1
  have hix := ixb0 (g.r 1)
  clear e
  go_enter Try.func65, Try.ntmps65
  go_wp2_with (first | (go_at_call 70; refine (hb _).mono ?_; rintro e w' ⟨rfl, rfl⟩) | (go_at_call 71; refine (bytes_any _ hr _).mono ?_; rintro e w' ⟨rfl, rfl⟩))
  go_ret
  exact ⟨rfl, ((Below.refl _ _).alloc (Nat.le_refl _) _).alloc (by simp) _⟩
theorem Reg8_2 (g : Gs) (h : g.ok) (i : Int) (hi : -9223372036854775808 ≤ i ∧ i ≤ 9223372036854775807) (e : i % 8 = 2) (w : World) : Calls Try.prog 65 #[stV g, .int .i64 i] w fun e w' => e = .returned (.int .u32 (byteL (g.r 2) 0)) ∧ Below w.heap.size w w' := by
  have hb : ∀ w, Calls Try.prog 70 #[.int .i64 i] w fun e w' => e = .returned (.tuple #[.int .i64 2, .int .i64 0]) ∧ w = w' := fun w => by
    have := byteOf_any i hi w
    rw [e] at this
    exact this
  have hr := h.r 2
  have hix := ixb0 (g.r 2)
  clear e
  go_enter Try.func65, Try.ntmps65
  go_wp2_with (first | (go_at_call 70; refine (hb _).mono ?_; rintro e w' ⟨rfl, rfl⟩) | (go_at_call 71; refine (bytes_any _ hr _).mono ?_; rintro e w' ⟨rfl, rfl⟩))
  go_ret
  exact ⟨rfl, ((Below.refl _ _).alloc (Nat.le_refl _) _).alloc (by simp) _⟩
theorem Reg8_3 (g : Gs) (h : g.ok) (i : Int) (hi : -9223372036854775808 ≤ i ∧ i ≤ 9223372036854775807) (e : i % 8 = 3) (w : World) : Calls Try.prog 65 #[stV g, .int .i64 i] w fun e w' => e = .returned (.int .u32 (byteL (g.r 3) 0)) ∧ Below w.heap.size w w' := by
  have hb : ∀ w, Calls Try.prog 70 #[.int .i64 i] w fun e w' => e = .returned (.tuple #[.int .i64 3, .int .i64 0]) ∧ w = w' := fun w => by
    have := byteOf_any i hi w
    rw [e] at this
    exact this
  have hr := h.r 3
  have hix := ixb0 (g.r 3)
  clear e
  go_enter Try.func65, Try.ntmps65
  go_wp2_with (first | (go_at_call 70; refine (hb _).mono ?_; rintro e w' ⟨rfl, rfl⟩) | (go_at_call 71; refine (bytes_any _ hr _).mono ?_; rintro e w' ⟨rfl, rfl⟩))
  go_ret
  exact ⟨rfl, ((Below.refl _ _).alloc (Nat.le_refl _) _).alloc (by simp) _⟩
theorem Reg8_4 (g : Gs) (h : g.ok) (i : Int) (hi : -9223372036854775808 ≤ i ∧ i ≤ 9223372036854775807) (e : i % 8 = 4) (w : World) : Calls Try.prog 65 #[stV g, .int .i64 i] w fun e w' => e = .returned (.int .u32 (byteL (g.r 0) 1)) ∧ Below w.heap.size w w' := by
  have hb : ∀ w, Calls Try.prog 70 #[.int .i64 i] w fun e w' => e = .returned (.tuple #[.int .i64 0, .int .i64 1]) ∧ w = w' := fun w => by
    have := byteOf_any i hi w
    rw [e] at this
    exact this
  have hr := h.r 0
  have hix := ixb1 (g.r 0)
  clear e
  go_enter Try.func65, Try.ntmps65
  go_wp2_with (first | (go_at_call 70; refine (hb _).mono ?_; rintro e w' ⟨rfl, rfl⟩) | (go_at_call 71; refine (bytes_any _ hr _).mono ?_; rintro e w' ⟨rfl, rfl⟩))
  go_ret
  exact ⟨rfl, ((Below.refl _ _).alloc (Nat.le_refl _) _).alloc (by simp) _⟩
theorem Reg8_5 (g : Gs) (h : g.ok) (i : Int) (hi : -9223372036854775808 ≤ i ∧ i ≤ 9223372036854775807) (e : i % 8 = 5) (w : World) : Calls Try.prog 65 #[stV g, .int .i64 i] w fun e w' => e = .returned (.int .u32 (byteL (g.r 1) 1)) ∧ Below w.heap.size w w' := by
  have hb : ∀ w, Calls Try.prog 70 #[.int .i64 i] w fun e w' => e = .returned (.tuple #[.int .i64 1, .int .i64 1]) ∧ w = w' := fun w => by
    have := byteOf_any i hi w
    rw [e] at this
    exact this
  have hr := h.r 1
  have hix := ixb1 (g.r 1)
  clear e
  go_enter Try.func65, Try.ntmps65
  go_wp2_with (first | (go_at_call 70; refine (hb _).mono ?_; rintro e w' ⟨rfl, rfl⟩) | (go_at_call 71; refine (bytes_any _ hr _).mono ?_; rintro e w' ⟨rfl, rfl⟩))
  go_ret
  exact ⟨rfl, ((Below.refl _ _).alloc (Nat.le_refl _) _).alloc (by simp) _⟩
theorem Reg8_6 (g : Gs) (h : g.ok) (i : Int) (hi : -9223372036854775808 ≤ i ∧ i ≤ 9223372036854775807) (e : i % 8 = 6) (w : World) : Calls Try.prog 65 #[stV g, .int .i64 i] w fun e w' => e = .returned (.int .u32 (byteL (g.r 2) 1)) ∧ Below w.heap.size w w' := by
  have hb : ∀ w, Calls Try.prog 70 #[.int .i64 i] w fun e w' => e = .returned (.tuple #[.int .i64 2, .int .i64 1]) ∧ w = w' := fun w => by
    have := byteOf_any i hi w
    rw [e] at this
    exact this
  have hr := h.r 2
  have hix := ixb1 (g.r 2)
  clear e
  go_enter Try.func65, Try.ntmps65
  go_wp2_with (first | (go_at_call 70; refine (hb _).mono ?_; rintro e w' ⟨rfl, rfl⟩) | (go_at_call 71; refine (bytes_any _ hr _).mono ?_; rintro e w' ⟨rfl, rfl⟩))
  go_ret
  exact ⟨rfl, ((Below.refl _ _).alloc (Nat.le_refl _) _).alloc (by simp) _⟩
theorem Reg8_7 (g : Gs) (h : g.ok) (i : Int) (hi : -9223372036854775808 ≤ i ∧ i ≤ 9223372036854775807) (e : i % 8 = 7) (w : World) : Calls Try.prog 65 #[stV g, .int .i64 i] w fun e w' => e = .returned (.int .u32 (byteL (g.r 3) 1)) ∧ Below w.heap.size w w' := by
  have hb : ∀ w, Calls Try.prog 70 #[.int .i64 i] w fun e w' => e = .returned (.tuple #[.int .i64 3, .int .i64 1]) ∧ w = w' := fun w => by
    have := byteOf_any i hi w
    rw [e] at this
    exact this
  have hr := h.r 3
  have hix := ixb1 (g.r 3)
  clear e
  go_enter Try.func65, Try.ntmps65
  go_wp2_with (first | (go_at_call 70; refine (hb _).mono ?_; rintro e w' ⟨rfl, rfl⟩) | (go_at_call 71; refine (bytes_any _ hr _).mono ?_; rintro e w' ⟨rfl, rfl⟩))
  go_ret
  exact ⟨rfl, ((Below.refl _ _).alloc (Nat.le_refl _) _).alloc (by simp) _⟩
theorem stop_load {ops : Array Oper} {rest : List Oper} {o : Oper} {a : Act} {w : World} {Q : Exit → Act → World → Prop} (ty : TypeId) (x : Operand) (ho : o.op = .load ty x) (h : RowKit.Hid (wpList Try.prog ops Q (o :: rest) a w)) : wpList Try.prog ops Q (o :: rest) a w := h
theorem row4 {w : World} {N : Nat} {t : TypeId} {a b c d : Int} (k : Blk w N t #[.int .u8 a, .int .u8 b, .int .u8 c, .int .u8 d]) (ha : 0 ≤ a ∧ a ≤ 255) (hb : 0 ≤ b ∧ b ≤ 255) (hc : 0 ≤ c ∧ c ≤ 255) (hd : 0 ≤ d ∧ d ≤ 255) :
    Row8 w (some ⟨N, 0, none⟩) 4 [a, b, c, d] := by
  refine ⟨rfl, fun z hz => ?_, .inr ⟨N, 0, rfl, k.lt, fun i hi => ?_⟩⟩
  · simp at hz; rcases hz with rfl | rfl | rfl | rfl <;> assumption
  · rcases (by omega : i = 0 ∨ i = 1 ∨ i = 2 ∨ i = 3) with rfl | rfl | rfl | rfl <;> exact k.cell rfl
theorem stA_one (g : Gs) : (stA g).all (·.oneCell') = true := by simp [stA, Value.oneCell']
theorem stA_set0 (g : Gs) (v : Int) : (stA g).setIfInBounds 0 (.int .u32 v) = stA (setr g 0 v) := by simp [stA, setr]
theorem stA_set1 (g : Gs) (v : Int) : (stA g).setIfInBounds 1 (.int .u32 v) = stA (setr g 1 v) := by simp [stA, setr]
theorem stA_set2 (g : Gs) (v : Int) : (stA g).setIfInBounds 2 (.int .u32 v) = stA (setr g 2 v) := by simp [stA, setr]
theorem stA_set3 (g : Gs) (v : Int) : (stA g).setIfInBounds 3 (.int .u32 v) = stA (setr g 3 v) := by simp [stA, setr]
theorem stA_set4 (g : Gs) (v : Int) : (stA g).setIfInBounds 4 (.int .u32 v) = stA (setr g 4 v) := by simp [stA, setr]
theorem stA_set5 (g : Gs) (v : Int) : (stA g).setIfInBounds 5 (.int .u32 v) = stA (setr g 5 v) := by simp [stA, setr]
theorem stA_set6 (g : Gs) (v : Int) : (stA g).setIfInBounds 6 (.int .u32 v) = stA (setr g 6 v) := by simp [stA, setr]
theorem stA_set7 (g : Gs) (v : Int) : (stA g).setIfInBounds 7 (.int .u32 v) = stA (setr g 7 v) := by simp [stA, setr]
theorem SetReg8_0 (g : Gs) (h : g.ok) (i v : Int) (hi : -9223372036854775808 ≤ i ∧ i ≤ 9223372036854775807) (hv : 0 ≤ v ∧ v ≤ 4294967295) (e : i % 8 = 0) (w : World) : Calls Try.prog 64 #[stV g, .int .i64 i, .int .u32 v] w fun e w' => e = .returned (stV (setr g 0 (setB (g.r 0) 0 v))) ∧ Below w.heap.size w w' := by
  have hb : ∀ w, Calls Try.prog 70 #[.int .i64 i] w fun e w' => e = .returned (.tuple #[.int .i64 0, .int .i64 0]) ∧ w = w' := fun w => by
    have := byteOf_any i hi w
    rw [e] at this
    exact this
  have hr := h.r 0
  clear e
  go_enter Try.func64, Try.ntmps64
  go_wp2_with (first | (go_at_call 70; refine (hb _).mono ?_; rintro e w' ⟨rfl, rfl⟩) | (go_at_call 71; refine (bytes_any _ hr _).mono ?_; rintro e w' ⟨rfl, rfl⟩))
  have kS := (((Blk.new w 44 (stA g)).alloc (.cells z17 44)).alloc (.cells #[.int .u8 (g.r 0 % 256), .int .u8 (g.r 0 / 256 % 256), .int .u8 (g.r 0 / 65536 % 256), .int .u8 (g.r 0 / 16777216)] 105)).alloc (.cells #[.int .u8 (v % 256), .int .u8 (g.r 0 / 256 % 256), .int .u8 (g.r 0 / 65536 % 256), .int .u8 (g.r 0 / 16777216)] 105)
  have kR := ((Blk.new (w.alloc (.cells (stA g) 44)) 44 z17).alloc (.cells #[.int .u8 (g.r 0 % 256), .int .u8 (g.r 0 / 256 % 256), .int .u8 (g.r 0 / 65536 % 256), .int .u8 (g.r 0 / 16777216)] 105)).alloc (.cells #[.int .u8 (v % 256), .int .u8 (g.r 0 / 256 % 256), .int .u8 (g.r 0 / 65536 % 256), .int .u8 (g.r 0 / 16777216)] 105)
  have kL := Blk.new (((w.alloc (.cells (stA g) 44)).alloc (.cells z17 44)).alloc (.cells #[.int .u8 (g.r 0 % 256), .int .u8 (g.r 0 / 256 % 256), .int .u8 (g.r 0 / 65536 % 256), .int .u8 (g.r 0 / 16777216)] 105)) 105 #[.int .u8 (v % 256), .int .u8 (g.r 0 / 256 % 256), .int .u8 (g.r 0 / 65536 % 256), .int .u8 (g.r 0 / 16777216)]
  have kb := ((((Below.refl _ w).alloc (Nat.le_refl _) (.cells (stA g) 44)).alloc (by simp) (.cells z17 44)).alloc (by simp; omega) (.cells #[.int .u8 (g.r 0 % 256), .int .u8 (g.r 0 / 256 % 256), .int .u8 (g.r 0 / 65536 % 256), .int .u8 (g.r 0 / 16777216)] 105)).alloc (by simp; omega) (.cells #[.int .u8 (v % 256), .int .u8 (g.r 0 / 256 % 256), .int .u8 (g.r 0 / 65536 % 256), .int .u8 (g.r 0 / 16777216)] 105)
  simp only [World.size_alloc] at kR kL
  have hrow := row4 kL (by omega) (by omega) (by omega) (by omega)
  refine (word_any _ _ _ _ _ hrow).mono ?_
  rintro e w1 ⟨rfl, b1⟩
  replace kb := kb.trans (b1.mono (by simp; omega))
  replace kS := kS.below b1 kS.lt
  replace kR := kR.below b1 kR.lt
  clear kL hrow b1
  generalize hN : w.heap.size = N at *
  have q := kS.cell (i := 0) (v := .int .u32 (g.r 0)) rfl
  have p := kS.fr 0
  have hval : wordS [v % 256, g.r 0 / 256 % 256, g.r 0 / 65536 % 256, g.r 0 / 16777216] = setB (g.r 0) 0 v := by simp [wordS, setB]; omega
  rw [hval]
  have kE := kS.set 0 (.int .u32 (setB (g.r 0) 0 v))
  rw [stA_set0] at kE
  have kF := kR.other 0 (.int .u32 (setB (g.r 0) 0 v)) (show N + 1 ≠ N by omega)
  have kG := kF.row (stA (setr g 0 (setB (g.r 0) 0 v)))
  have kH := below_rowNew (kb.setCell (p := ⟨N, 0, none⟩) (by simp) (.int .u32 (setB (g.r 0) 0 v))) (N := N + 1) (by omega) (stA (setr g 0 (setB (g.r 0) 0 v)))
  clear kS kR kb hval
  have hs2 : (Try.prog.info? 44).map (·.size) = some (stA (setr g 0 (setB (g.r 0) 0 v))).size := sz17
  have hold : z17.size = (stA (setr g 0 (setB (g.r 0) 0 v))).size := rfl
  have hcell : (stA (setr g 0 (setB (g.r 0) 0 v))).all (·.oneCell') = true := stA_one _
  have hag : Value.agg (stA (setr g 0 (setB (g.r 0) 0 v))) = stV (setr g 0 (setB (g.r 0) 0 v)) := rfl
  generalize stA (setr g 0 (setB (g.r 0) 0 v)) = Z at *
  generalize z17 = Z0 at *
  go_wp2_with (first | with_reducible refine wpList_load_row rfl 44 _ rfl N rfl 44 _ (0, 0) _ kE.h Try.underlying44 rfl hs2 ?_ | with_reducible refine wpList_store_row rfl 44 _ _ rfl (N + 1) _ rfl rfl 44 _ kF.h hs2 hold hcell ?_)
  exact bodyPost_ret (v := Value.agg Z) (results_cell_row rfl _ _ (N + 1) 44 _ (0, 0) _ rfl kG.h Try.underlying44 rfl hs2) rfl ⟨by rw [hag], by rw [hN]; exact kH⟩
theorem SetReg8_1 (g : Gs) (h : g.ok) (i v : Int) (hi : -9223372036854775808 ≤ i ∧ i ≤ 9223372036854775807) (hv : 0 ≤ v ∧ v ≤ 4294967295) (e : i % 8 = 1) (w : World) : Calls Try.prog 64 #[stV g, .int .i64 i, .int .u32 v] w fun e w' => e = .returned (stV (setr g 1 (setB (g.r 1) 0 v))) ∧ Below w.heap.size w w' := by
  have hb : ∀ w, Calls Try.prog 70 #[.int .i64 i] w fun e w' => e = .returned (.tuple #[.int .i64 1, .int .i64 0]) ∧ w = w' := fun w => by
    have := byteOf_any i hi w
    rw [e] at this
    exact this
  have hr := h.r 1
  clear e
  go_enter Try.func64, Try.ntmps64
  go_wp2_with (first | (go_at_call 70; refine (hb _).mono ?_; rintro e w' ⟨rfl, rfl⟩) | (go_at_call 71; refine (bytes_any _ hr _).mono ?_; rintro e w' ⟨rfl, rfl⟩))
  have kS := (((Blk.new w 44 (stA g)).alloc (.cells z17 44)).alloc (.cells #[.int .u8 (g.r 1 % 256), .int .u8 (g.r 1 / 256 % 256), .int .u8 (g.r 1 / 65536 % 256), .int .u8 (g.r 1 / 16777216)] 105)).alloc (.cells #[.int .u8 (v % 256), .int .u8 (g.r 1 / 256 % 256), .int .u8 (g.r 1 / 65536 % 256), .int .u8 (g.r 1 / 16777216)] 105)
  have kR := ((Blk.new (w.alloc (.cells (stA g) 44)) 44 z17).alloc (.cells #[.int .u8 (g.r 1 % 256), .int .u8 (g.r 1 / 256 % 256), .int .u8 (g.r 1 / 65536 % 256), .int .u8 (g.r 1 / 16777216)] 105)).alloc (.cells #[.int .u8 (v % 256), .int .u8 (g.r 1 / 256 % 256), .int .u8 (g.r 1 / 65536 % 256), .int .u8 (g.r 1 / 16777216)] 105)
  have kL := Blk.new (((w.alloc (.cells (stA g) 44)).alloc (.cells z17 44)).alloc (.cells #[.int .u8 (g.r 1 % 256), .int .u8 (g.r 1 / 256 % 256), .int .u8 (g.r 1 / 65536 % 256), .int .u8 (g.r 1 / 16777216)] 105)) 105 #[.int .u8 (v % 256), .int .u8 (g.r 1 / 256 % 256), .int .u8 (g.r 1 / 65536 % 256), .int .u8 (g.r 1 / 16777216)]
  have kb := ((((Below.refl _ w).alloc (Nat.le_refl _) (.cells (stA g) 44)).alloc (by simp) (.cells z17 44)).alloc (by simp; omega) (.cells #[.int .u8 (g.r 1 % 256), .int .u8 (g.r 1 / 256 % 256), .int .u8 (g.r 1 / 65536 % 256), .int .u8 (g.r 1 / 16777216)] 105)).alloc (by simp; omega) (.cells #[.int .u8 (v % 256), .int .u8 (g.r 1 / 256 % 256), .int .u8 (g.r 1 / 65536 % 256), .int .u8 (g.r 1 / 16777216)] 105)
  simp only [World.size_alloc] at kR kL
  have hrow := row4 kL (by omega) (by omega) (by omega) (by omega)
  refine (word_any _ _ _ _ _ hrow).mono ?_
  rintro e w1 ⟨rfl, b1⟩
  replace kb := kb.trans (b1.mono (by simp; omega))
  replace kS := kS.below b1 kS.lt
  replace kR := kR.below b1 kR.lt
  clear kL hrow b1
  generalize hN : w.heap.size = N at *
  have q := kS.cell (i := 1) (v := .int .u32 (g.r 1)) rfl
  have p := kS.fr 1
  have hval : wordS [v % 256, g.r 1 / 256 % 256, g.r 1 / 65536 % 256, g.r 1 / 16777216] = setB (g.r 1) 0 v := by simp [wordS, setB]; omega
  rw [hval]
  have kE := kS.set 1 (.int .u32 (setB (g.r 1) 0 v))
  rw [stA_set1] at kE
  have kF := kR.other 1 (.int .u32 (setB (g.r 1) 0 v)) (show N + 1 ≠ N by omega)
  have kG := kF.row (stA (setr g 1 (setB (g.r 1) 0 v)))
  have kH := below_rowNew (kb.setCell (p := ⟨N, 1, none⟩) (by simp) (.int .u32 (setB (g.r 1) 0 v))) (N := N + 1) (by omega) (stA (setr g 1 (setB (g.r 1) 0 v)))
  clear kS kR kb hval
  have hs2 : (Try.prog.info? 44).map (·.size) = some (stA (setr g 1 (setB (g.r 1) 0 v))).size := sz17
  have hold : z17.size = (stA (setr g 1 (setB (g.r 1) 0 v))).size := rfl
  have hcell : (stA (setr g 1 (setB (g.r 1) 0 v))).all (·.oneCell') = true := stA_one _
  have hag : Value.agg (stA (setr g 1 (setB (g.r 1) 0 v))) = stV (setr g 1 (setB (g.r 1) 0 v)) := rfl
  generalize stA (setr g 1 (setB (g.r 1) 0 v)) = Z at *
  generalize z17 = Z0 at *
  go_wp2_with (first | with_reducible refine wpList_load_row rfl 44 _ rfl N rfl 44 _ (0, 0) _ kE.h Try.underlying44 rfl hs2 ?_ | with_reducible refine wpList_store_row rfl 44 _ _ rfl (N + 1) _ rfl rfl 44 _ kF.h hs2 hold hcell ?_)
  exact bodyPost_ret (v := Value.agg Z) (results_cell_row rfl _ _ (N + 1) 44 _ (0, 0) _ rfl kG.h Try.underlying44 rfl hs2) rfl ⟨by rw [hag], by rw [hN]; exact kH⟩
theorem SetReg8_2 (g : Gs) (h : g.ok) (i v : Int) (hi : -9223372036854775808 ≤ i ∧ i ≤ 9223372036854775807) (hv : 0 ≤ v ∧ v ≤ 4294967295) (e : i % 8 = 2) (w : World) : Calls Try.prog 64 #[stV g, .int .i64 i, .int .u32 v] w fun e w' => e = .returned (stV (setr g 2 (setB (g.r 2) 0 v))) ∧ Below w.heap.size w w' := by
  have hb : ∀ w, Calls Try.prog 70 #[.int .i64 i] w fun e w' => e = .returned (.tuple #[.int .i64 2, .int .i64 0]) ∧ w = w' := fun w => by
    have := byteOf_any i hi w
    rw [e] at this
    exact this
  have hr := h.r 2
  clear e
  go_enter Try.func64, Try.ntmps64
  go_wp2_with (first | (go_at_call 70; refine (hb _).mono ?_; rintro e w' ⟨rfl, rfl⟩) | (go_at_call 71; refine (bytes_any _ hr _).mono ?_; rintro e w' ⟨rfl, rfl⟩))
  have kS := (((Blk.new w 44 (stA g)).alloc (.cells z17 44)).alloc (.cells #[.int .u8 (g.r 2 % 256), .int .u8 (g.r 2 / 256 % 256), .int .u8 (g.r 2 / 65536 % 256), .int .u8 (g.r 2 / 16777216)] 105)).alloc (.cells #[.int .u8 (v % 256), .int .u8 (g.r 2 / 256 % 256), .int .u8 (g.r 2 / 65536 % 256), .int .u8 (g.r 2 / 16777216)] 105)
  have kR := ((Blk.new (w.alloc (.cells (stA g) 44)) 44 z17).alloc (.cells #[.int .u8 (g.r 2 % 256), .int .u8 (g.r 2 / 256 % 256), .int .u8 (g.r 2 / 65536 % 256), .int .u8 (g.r 2 / 16777216)] 105)).alloc (.cells #[.int .u8 (v % 256), .int .u8 (g.r 2 / 256 % 256), .int .u8 (g.r 2 / 65536 % 256), .int .u8 (g.r 2 / 16777216)] 105)
  have kL := Blk.new (((w.alloc (.cells (stA g) 44)).alloc (.cells z17 44)).alloc (.cells #[.int .u8 (g.r 2 % 256), .int .u8 (g.r 2 / 256 % 256), .int .u8 (g.r 2 / 65536 % 256), .int .u8 (g.r 2 / 16777216)] 105)) 105 #[.int .u8 (v % 256), .int .u8 (g.r 2 / 256 % 256), .int .u8 (g.r 2 / 65536 % 256), .int .u8 (g.r 2 / 16777216)]
  have kb := ((((Below.refl _ w).alloc (Nat.le_refl _) (.cells (stA g) 44)).alloc (by simp) (.cells z17 44)).alloc (by simp; omega) (.cells #[.int .u8 (g.r 2 % 256), .int .u8 (g.r 2 / 256 % 256), .int .u8 (g.r 2 / 65536 % 256), .int .u8 (g.r 2 / 16777216)] 105)).alloc (by simp; omega) (.cells #[.int .u8 (v % 256), .int .u8 (g.r 2 / 256 % 256), .int .u8 (g.r 2 / 65536 % 256), .int .u8 (g.r 2 / 16777216)] 105)
  simp only [World.size_alloc] at kR kL
  have hrow := row4 kL (by omega) (by omega) (by omega) (by omega)
  refine (word_any _ _ _ _ _ hrow).mono ?_
  rintro e w1 ⟨rfl, b1⟩
  replace kb := kb.trans (b1.mono (by simp; omega))
  replace kS := kS.below b1 kS.lt
  replace kR := kR.below b1 kR.lt
  clear kL hrow b1
  generalize hN : w.heap.size = N at *
  have q := kS.cell (i := 2) (v := .int .u32 (g.r 2)) rfl
  have p := kS.fr 2
  have hval : wordS [v % 256, g.r 2 / 256 % 256, g.r 2 / 65536 % 256, g.r 2 / 16777216] = setB (g.r 2) 0 v := by simp [wordS, setB]; omega
  rw [hval]
  have kE := kS.set 2 (.int .u32 (setB (g.r 2) 0 v))
  rw [stA_set2] at kE
  have kF := kR.other 2 (.int .u32 (setB (g.r 2) 0 v)) (show N + 1 ≠ N by omega)
  have kG := kF.row (stA (setr g 2 (setB (g.r 2) 0 v)))
  have kH := below_rowNew (kb.setCell (p := ⟨N, 2, none⟩) (by simp) (.int .u32 (setB (g.r 2) 0 v))) (N := N + 1) (by omega) (stA (setr g 2 (setB (g.r 2) 0 v)))
  clear kS kR kb hval
  have hs2 : (Try.prog.info? 44).map (·.size) = some (stA (setr g 2 (setB (g.r 2) 0 v))).size := sz17
  have hold : z17.size = (stA (setr g 2 (setB (g.r 2) 0 v))).size := rfl
  have hcell : (stA (setr g 2 (setB (g.r 2) 0 v))).all (·.oneCell') = true := stA_one _
  have hag : Value.agg (stA (setr g 2 (setB (g.r 2) 0 v))) = stV (setr g 2 (setB (g.r 2) 0 v)) := rfl
  generalize stA (setr g 2 (setB (g.r 2) 0 v)) = Z at *
  generalize z17 = Z0 at *
  go_wp2_with (first | with_reducible refine wpList_load_row rfl 44 _ rfl N rfl 44 _ (0, 0) _ kE.h Try.underlying44 rfl hs2 ?_ | with_reducible refine wpList_store_row rfl 44 _ _ rfl (N + 1) _ rfl rfl 44 _ kF.h hs2 hold hcell ?_)
  exact bodyPost_ret (v := Value.agg Z) (results_cell_row rfl _ _ (N + 1) 44 _ (0, 0) _ rfl kG.h Try.underlying44 rfl hs2) rfl ⟨by rw [hag], by rw [hN]; exact kH⟩
theorem SetReg8_3 (g : Gs) (h : g.ok) (i v : Int) (hi : -9223372036854775808 ≤ i ∧ i ≤ 9223372036854775807) (hv : 0 ≤ v ∧ v ≤ 4294967295) (e : i % 8 = 3) (w : World) : Calls Try.prog 64 #[stV g, .int .i64 i, .int .u32 v] w fun e w' => e = .returned (stV (setr g 3 (setB (g.r 3) 0 v))) ∧ Below w.heap.size w w' := by
  have hb : ∀ w, Calls Try.prog 70 #[.int .i64 i] w fun e w' => e = .returned (.tuple #[.int .i64 3, .int .i64 0]) ∧ w = w' := fun w => by
    have := byteOf_any i hi w
    rw [e] at this
    exact this
  have hr := h.r 3
  clear e
  go_enter Try.func64, Try.ntmps64
  go_wp2_with (first | (go_at_call 70; refine (hb _).mono ?_; rintro e w' ⟨rfl, rfl⟩) | (go_at_call 71; refine (bytes_any _ hr _).mono ?_; rintro e w' ⟨rfl, rfl⟩))
  have kS := (((Blk.new w 44 (stA g)).alloc (.cells z17 44)).alloc (.cells #[.int .u8 (g.r 3 % 256), .int .u8 (g.r 3 / 256 % 256), .int .u8 (g.r 3 / 65536 % 256), .int .u8 (g.r 3 / 16777216)] 105)).alloc (.cells #[.int .u8 (v % 256), .int .u8 (g.r 3 / 256 % 256), .int .u8 (g.r 3 / 65536 % 256), .int .u8 (g.r 3 / 16777216)] 105)
  have kR := ((Blk.new (w.alloc (.cells (stA g) 44)) 44 z17).alloc (.cells #[.int .u8 (g.r 3 % 256), .int .u8 (g.r 3 / 256 % 256), .int .u8 (g.r 3 / 65536 % 256), .int .u8 (g.r 3 / 16777216)] 105)).alloc (.cells #[.int .u8 (v % 256), .int .u8 (g.r 3 / 256 % 256), .int .u8 (g.r 3 / 65536 % 256), .int .u8 (g.r 3 / 16777216)] 105)
  have kL := Blk.new (((w.alloc (.cells (stA g) 44)).alloc (.cells z17 44)).alloc (.cells #[.int .u8 (g.r 3 % 256), .int .u8 (g.r 3 / 256 % 256), .int .u8 (g.r 3 / 65536 % 256), .int .u8 (g.r 3 / 16777216)] 105)) 105 #[.int .u8 (v % 256), .int .u8 (g.r 3 / 256 % 256), .int .u8 (g.r 3 / 65536 % 256), .int .u8 (g.r 3 / 16777216)]
  have kb := ((((Below.refl _ w).alloc (Nat.le_refl _) (.cells (stA g) 44)).alloc (by simp) (.cells z17 44)).alloc (by simp; omega) (.cells #[.int .u8 (g.r 3 % 256), .int .u8 (g.r 3 / 256 % 256), .int .u8 (g.r 3 / 65536 % 256), .int .u8 (g.r 3 / 16777216)] 105)).alloc (by simp; omega) (.cells #[.int .u8 (v % 256), .int .u8 (g.r 3 / 256 % 256), .int .u8 (g.r 3 / 65536 % 256), .int .u8 (g.r 3 / 16777216)] 105)
  simp only [World.size_alloc] at kR kL
  have hrow := row4 kL (by omega) (by omega) (by omega) (by omega)
  refine (word_any _ _ _ _ _ hrow).mono ?_
  rintro e w1 ⟨rfl, b1⟩
  replace kb := kb.trans (b1.mono (by simp; omega))
  replace kS := kS.below b1 kS.lt
  replace kR := kR.below b1 kR.lt
  clear kL hrow b1
  generalize hN : w.heap.size = N at *
  have q := kS.cell (i := 3) (v := .int .u32 (g.r 3)) rfl
  have p := kS.fr 3
  have hval : wordS [v % 256, g.r 3 / 256 % 256, g.r 3 / 65536 % 256, g.r 3 / 16777216] = setB (g.r 3) 0 v := by simp [wordS, setB]; omega
  rw [hval]
  have kE := kS.set 3 (.int .u32 (setB (g.r 3) 0 v))
  rw [stA_set3] at kE
  have kF := kR.other 3 (.int .u32 (setB (g.r 3) 0 v)) (show N + 1 ≠ N by omega)
  have kG := kF.row (stA (setr g 3 (setB (g.r 3) 0 v)))
  have kH := below_rowNew (kb.setCell (p := ⟨N, 3, none⟩) (by simp) (.int .u32 (setB (g.r 3) 0 v))) (N := N + 1) (by omega) (stA (setr g 3 (setB (g.r 3) 0 v)))
  clear kS kR kb hval
  have hs2 : (Try.prog.info? 44).map (·.size) = some (stA (setr g 3 (setB (g.r 3) 0 v))).size := sz17
  have hold : z17.size = (stA (setr g 3 (setB (g.r 3) 0 v))).size := rfl
  have hcell : (stA (setr g 3 (setB (g.r 3) 0 v))).all (·.oneCell') = true := stA_one _
  have hag : Value.agg (stA (setr g 3 (setB (g.r 3) 0 v))) = stV (setr g 3 (setB (g.r 3) 0 v)) := rfl
  generalize stA (setr g 3 (setB (g.r 3) 0 v)) = Z at *
  generalize z17 = Z0 at *
  go_wp2_with (first | with_reducible refine wpList_load_row rfl 44 _ rfl N rfl 44 _ (0, 0) _ kE.h Try.underlying44 rfl hs2 ?_ | with_reducible refine wpList_store_row rfl 44 _ _ rfl (N + 1) _ rfl rfl 44 _ kF.h hs2 hold hcell ?_)
  exact bodyPost_ret (v := Value.agg Z) (results_cell_row rfl _ _ (N + 1) 44 _ (0, 0) _ rfl kG.h Try.underlying44 rfl hs2) rfl ⟨by rw [hag], by rw [hN]; exact kH⟩
theorem SetReg8_4 (g : Gs) (h : g.ok) (i v : Int) (hi : -9223372036854775808 ≤ i ∧ i ≤ 9223372036854775807) (hv : 0 ≤ v ∧ v ≤ 4294967295) (e : i % 8 = 4) (w : World) : Calls Try.prog 64 #[stV g, .int .i64 i, .int .u32 v] w fun e w' => e = .returned (stV (setr g 0 (setB (g.r 0) 1 v))) ∧ Below w.heap.size w w' := by
  have hb : ∀ w, Calls Try.prog 70 #[.int .i64 i] w fun e w' => e = .returned (.tuple #[.int .i64 0, .int .i64 1]) ∧ w = w' := fun w => by
    have := byteOf_any i hi w
    rw [e] at this
    exact this
  have hr := h.r 0
  clear e
  go_enter Try.func64, Try.ntmps64
  go_wp2_with (first | (go_at_call 70; refine (hb _).mono ?_; rintro e w' ⟨rfl, rfl⟩) | (go_at_call 71; refine (bytes_any _ hr _).mono ?_; rintro e w' ⟨rfl, rfl⟩))
  have kS := (((Blk.new w 44 (stA g)).alloc (.cells z17 44)).alloc (.cells #[.int .u8 (g.r 0 % 256), .int .u8 (g.r 0 / 256 % 256), .int .u8 (g.r 0 / 65536 % 256), .int .u8 (g.r 0 / 16777216)] 105)).alloc (.cells #[.int .u8 (g.r 0 % 256), .int .u8 (v % 256), .int .u8 (g.r 0 / 65536 % 256), .int .u8 (g.r 0 / 16777216)] 105)
  have kR := ((Blk.new (w.alloc (.cells (stA g) 44)) 44 z17).alloc (.cells #[.int .u8 (g.r 0 % 256), .int .u8 (g.r 0 / 256 % 256), .int .u8 (g.r 0 / 65536 % 256), .int .u8 (g.r 0 / 16777216)] 105)).alloc (.cells #[.int .u8 (g.r 0 % 256), .int .u8 (v % 256), .int .u8 (g.r 0 / 65536 % 256), .int .u8 (g.r 0 / 16777216)] 105)
  have kL := Blk.new (((w.alloc (.cells (stA g) 44)).alloc (.cells z17 44)).alloc (.cells #[.int .u8 (g.r 0 % 256), .int .u8 (g.r 0 / 256 % 256), .int .u8 (g.r 0 / 65536 % 256), .int .u8 (g.r 0 / 16777216)] 105)) 105 #[.int .u8 (g.r 0 % 256), .int .u8 (v % 256), .int .u8 (g.r 0 / 65536 % 256), .int .u8 (g.r 0 / 16777216)]
  have kb := ((((Below.refl _ w).alloc (Nat.le_refl _) (.cells (stA g) 44)).alloc (by simp) (.cells z17 44)).alloc (by simp; omega) (.cells #[.int .u8 (g.r 0 % 256), .int .u8 (g.r 0 / 256 % 256), .int .u8 (g.r 0 / 65536 % 256), .int .u8 (g.r 0 / 16777216)] 105)).alloc (by simp; omega) (.cells #[.int .u8 (g.r 0 % 256), .int .u8 (v % 256), .int .u8 (g.r 0 / 65536 % 256), .int .u8 (g.r 0 / 16777216)] 105)
  simp only [World.size_alloc] at kR kL
  have hrow := row4 kL (by omega) (by omega) (by omega) (by omega)
  refine (word_any _ _ _ _ _ hrow).mono ?_
  rintro e w1 ⟨rfl, b1⟩
  replace kb := kb.trans (b1.mono (by simp; omega))
  replace kS := kS.below b1 kS.lt
  replace kR := kR.below b1 kR.lt
  clear kL hrow b1
  generalize hN : w.heap.size = N at *
  have q := kS.cell (i := 0) (v := .int .u32 (g.r 0)) rfl
  have p := kS.fr 0
  have hval : wordS [g.r 0 % 256, v % 256, g.r 0 / 65536 % 256, g.r 0 / 16777216] = setB (g.r 0) 1 v := by simp [wordS, setB]; omega
  rw [hval]
  have kE := kS.set 0 (.int .u32 (setB (g.r 0) 1 v))
  rw [stA_set0] at kE
  have kF := kR.other 0 (.int .u32 (setB (g.r 0) 1 v)) (show N + 1 ≠ N by omega)
  have kG := kF.row (stA (setr g 0 (setB (g.r 0) 1 v)))
  have kH := below_rowNew (kb.setCell (p := ⟨N, 0, none⟩) (by simp) (.int .u32 (setB (g.r 0) 1 v))) (N := N + 1) (by omega) (stA (setr g 0 (setB (g.r 0) 1 v)))
  clear kS kR kb hval
  have hs2 : (Try.prog.info? 44).map (·.size) = some (stA (setr g 0 (setB (g.r 0) 1 v))).size := sz17
  have hold : z17.size = (stA (setr g 0 (setB (g.r 0) 1 v))).size := rfl
  have hcell : (stA (setr g 0 (setB (g.r 0) 1 v))).all (·.oneCell') = true := stA_one _
  have hag : Value.agg (stA (setr g 0 (setB (g.r 0) 1 v))) = stV (setr g 0 (setB (g.r 0) 1 v)) := rfl
  generalize stA (setr g 0 (setB (g.r 0) 1 v)) = Z at *
  generalize z17 = Z0 at *
  go_wp2_with (first | with_reducible refine wpList_load_row rfl 44 _ rfl N rfl 44 _ (0, 0) _ kE.h Try.underlying44 rfl hs2 ?_ | with_reducible refine wpList_store_row rfl 44 _ _ rfl (N + 1) _ rfl rfl 44 _ kF.h hs2 hold hcell ?_)
  exact bodyPost_ret (v := Value.agg Z) (results_cell_row rfl _ _ (N + 1) 44 _ (0, 0) _ rfl kG.h Try.underlying44 rfl hs2) rfl ⟨by rw [hag], by rw [hN]; exact kH⟩
theorem SetReg8_5 (g : Gs) (h : g.ok) (i v : Int) (hi : -9223372036854775808 ≤ i ∧ i ≤ 9223372036854775807) (hv : 0 ≤ v ∧ v ≤ 4294967295) (e : i % 8 = 5) (w : World) : Calls Try.prog 64 #[stV g, .int .i64 i, .int .u32 v] w fun e w' => e = .returned (stV (setr g 1 (setB (g.r 1) 1 v))) ∧ Below w.heap.size w w' := by
  have hb : ∀ w, Calls Try.prog 70 #[.int .i64 i] w fun e w' => e = .returned (.tuple #[.int .i64 1, .int .i64 1]) ∧ w = w' := fun w => by
    have := byteOf_any i hi w
    rw [e] at this
    exact this
  have hr := h.r 1
  clear e
  go_enter Try.func64, Try.ntmps64
  go_wp2_with (first | (go_at_call 70; refine (hb _).mono ?_; rintro e w' ⟨rfl, rfl⟩) | (go_at_call 71; refine (bytes_any _ hr _).mono ?_; rintro e w' ⟨rfl, rfl⟩))
  have kS := (((Blk.new w 44 (stA g)).alloc (.cells z17 44)).alloc (.cells #[.int .u8 (g.r 1 % 256), .int .u8 (g.r 1 / 256 % 256), .int .u8 (g.r 1 / 65536 % 256), .int .u8 (g.r 1 / 16777216)] 105)).alloc (.cells #[.int .u8 (g.r 1 % 256), .int .u8 (v % 256), .int .u8 (g.r 1 / 65536 % 256), .int .u8 (g.r 1 / 16777216)] 105)
  have kR := ((Blk.new (w.alloc (.cells (stA g) 44)) 44 z17).alloc (.cells #[.int .u8 (g.r 1 % 256), .int .u8 (g.r 1 / 256 % 256), .int .u8 (g.r 1 / 65536 % 256), .int .u8 (g.r 1 / 16777216)] 105)).alloc (.cells #[.int .u8 (g.r 1 % 256), .int .u8 (v % 256), .int .u8 (g.r 1 / 65536 % 256), .int .u8 (g.r 1 / 16777216)] 105)
  have kL := Blk.new (((w.alloc (.cells (stA g) 44)).alloc (.cells z17 44)).alloc (.cells #[.int .u8 (g.r 1 % 256), .int .u8 (g.r 1 / 256 % 256), .int .u8 (g.r 1 / 65536 % 256), .int .u8 (g.r 1 / 16777216)] 105)) 105 #[.int .u8 (g.r 1 % 256), .int .u8 (v % 256), .int .u8 (g.r 1 / 65536 % 256), .int .u8 (g.r 1 / 16777216)]
  have kb := ((((Below.refl _ w).alloc (Nat.le_refl _) (.cells (stA g) 44)).alloc (by simp) (.cells z17 44)).alloc (by simp; omega) (.cells #[.int .u8 (g.r 1 % 256), .int .u8 (g.r 1 / 256 % 256), .int .u8 (g.r 1 / 65536 % 256), .int .u8 (g.r 1 / 16777216)] 105)).alloc (by simp; omega) (.cells #[.int .u8 (g.r 1 % 256), .int .u8 (v % 256), .int .u8 (g.r 1 / 65536 % 256), .int .u8 (g.r 1 / 16777216)] 105)
  simp only [World.size_alloc] at kR kL
  have hrow := row4 kL (by omega) (by omega) (by omega) (by omega)
  refine (word_any _ _ _ _ _ hrow).mono ?_
  rintro e w1 ⟨rfl, b1⟩
  replace kb := kb.trans (b1.mono (by simp; omega))
  replace kS := kS.below b1 kS.lt
  replace kR := kR.below b1 kR.lt
  clear kL hrow b1
  generalize hN : w.heap.size = N at *
  have q := kS.cell (i := 1) (v := .int .u32 (g.r 1)) rfl
  have p := kS.fr 1
  have hval : wordS [g.r 1 % 256, v % 256, g.r 1 / 65536 % 256, g.r 1 / 16777216] = setB (g.r 1) 1 v := by simp [wordS, setB]; omega
  rw [hval]
  have kE := kS.set 1 (.int .u32 (setB (g.r 1) 1 v))
  rw [stA_set1] at kE
  have kF := kR.other 1 (.int .u32 (setB (g.r 1) 1 v)) (show N + 1 ≠ N by omega)
  have kG := kF.row (stA (setr g 1 (setB (g.r 1) 1 v)))
  have kH := below_rowNew (kb.setCell (p := ⟨N, 1, none⟩) (by simp) (.int .u32 (setB (g.r 1) 1 v))) (N := N + 1) (by omega) (stA (setr g 1 (setB (g.r 1) 1 v)))
  clear kS kR kb hval
  have hs2 : (Try.prog.info? 44).map (·.size) = some (stA (setr g 1 (setB (g.r 1) 1 v))).size := sz17
  have hold : z17.size = (stA (setr g 1 (setB (g.r 1) 1 v))).size := rfl
  have hcell : (stA (setr g 1 (setB (g.r 1) 1 v))).all (·.oneCell') = true := stA_one _
  have hag : Value.agg (stA (setr g 1 (setB (g.r 1) 1 v))) = stV (setr g 1 (setB (g.r 1) 1 v)) := rfl
  generalize stA (setr g 1 (setB (g.r 1) 1 v)) = Z at *
  generalize z17 = Z0 at *
  go_wp2_with (first | with_reducible refine wpList_load_row rfl 44 _ rfl N rfl 44 _ (0, 0) _ kE.h Try.underlying44 rfl hs2 ?_ | with_reducible refine wpList_store_row rfl 44 _ _ rfl (N + 1) _ rfl rfl 44 _ kF.h hs2 hold hcell ?_)
  exact bodyPost_ret (v := Value.agg Z) (results_cell_row rfl _ _ (N + 1) 44 _ (0, 0) _ rfl kG.h Try.underlying44 rfl hs2) rfl ⟨by rw [hag], by rw [hN]; exact kH⟩
theorem SetReg8_6 (g : Gs) (h : g.ok) (i v : Int) (hi : -9223372036854775808 ≤ i ∧ i ≤ 9223372036854775807) (hv : 0 ≤ v ∧ v ≤ 4294967295) (e : i % 8 = 6) (w : World) : Calls Try.prog 64 #[stV g, .int .i64 i, .int .u32 v] w fun e w' => e = .returned (stV (setr g 2 (setB (g.r 2) 1 v))) ∧ Below w.heap.size w w' := by
  have hb : ∀ w, Calls Try.prog 70 #[.int .i64 i] w fun e w' => e = .returned (.tuple #[.int .i64 2, .int .i64 1]) ∧ w = w' := fun w => by
    have := byteOf_any i hi w
    rw [e] at this
    exact this
  have hr := h.r 2
  clear e
  go_enter Try.func64, Try.ntmps64
  go_wp2_with (first | (go_at_call 70; refine (hb _).mono ?_; rintro e w' ⟨rfl, rfl⟩) | (go_at_call 71; refine (bytes_any _ hr _).mono ?_; rintro e w' ⟨rfl, rfl⟩))
  have kS := (((Blk.new w 44 (stA g)).alloc (.cells z17 44)).alloc (.cells #[.int .u8 (g.r 2 % 256), .int .u8 (g.r 2 / 256 % 256), .int .u8 (g.r 2 / 65536 % 256), .int .u8 (g.r 2 / 16777216)] 105)).alloc (.cells #[.int .u8 (g.r 2 % 256), .int .u8 (v % 256), .int .u8 (g.r 2 / 65536 % 256), .int .u8 (g.r 2 / 16777216)] 105)
  have kR := ((Blk.new (w.alloc (.cells (stA g) 44)) 44 z17).alloc (.cells #[.int .u8 (g.r 2 % 256), .int .u8 (g.r 2 / 256 % 256), .int .u8 (g.r 2 / 65536 % 256), .int .u8 (g.r 2 / 16777216)] 105)).alloc (.cells #[.int .u8 (g.r 2 % 256), .int .u8 (v % 256), .int .u8 (g.r 2 / 65536 % 256), .int .u8 (g.r 2 / 16777216)] 105)
  have kL := Blk.new (((w.alloc (.cells (stA g) 44)).alloc (.cells z17 44)).alloc (.cells #[.int .u8 (g.r 2 % 256), .int .u8 (g.r 2 / 256 % 256), .int .u8 (g.r 2 / 65536 % 256), .int .u8 (g.r 2 / 16777216)] 105)) 105 #[.int .u8 (g.r 2 % 256), .int .u8 (v % 256), .int .u8 (g.r 2 / 65536 % 256), .int .u8 (g.r 2 / 16777216)]
  have kb := ((((Below.refl _ w).alloc (Nat.le_refl _) (.cells (stA g) 44)).alloc (by simp) (.cells z17 44)).alloc (by simp; omega) (.cells #[.int .u8 (g.r 2 % 256), .int .u8 (g.r 2 / 256 % 256), .int .u8 (g.r 2 / 65536 % 256), .int .u8 (g.r 2 / 16777216)] 105)).alloc (by simp; omega) (.cells #[.int .u8 (g.r 2 % 256), .int .u8 (v % 256), .int .u8 (g.r 2 / 65536 % 256), .int .u8 (g.r 2 / 16777216)] 105)
  simp only [World.size_alloc] at kR kL
  have hrow := row4 kL (by omega) (by omega) (by omega) (by omega)
  refine (word_any _ _ _ _ _ hrow).mono ?_
  rintro e w1 ⟨rfl, b1⟩
  replace kb := kb.trans (b1.mono (by simp; omega))
  replace kS := kS.below b1 kS.lt
  replace kR := kR.below b1 kR.lt
  clear kL hrow b1
  generalize hN : w.heap.size = N at *
  have q := kS.cell (i := 2) (v := .int .u32 (g.r 2)) rfl
  have p := kS.fr 2
  have hval : wordS [g.r 2 % 256, v % 256, g.r 2 / 65536 % 256, g.r 2 / 16777216] = setB (g.r 2) 1 v := by simp [wordS, setB]; omega
  rw [hval]
  have kE := kS.set 2 (.int .u32 (setB (g.r 2) 1 v))
  rw [stA_set2] at kE
  have kF := kR.other 2 (.int .u32 (setB (g.r 2) 1 v)) (show N + 1 ≠ N by omega)
  have kG := kF.row (stA (setr g 2 (setB (g.r 2) 1 v)))
  have kH := below_rowNew (kb.setCell (p := ⟨N, 2, none⟩) (by simp) (.int .u32 (setB (g.r 2) 1 v))) (N := N + 1) (by omega) (stA (setr g 2 (setB (g.r 2) 1 v)))
  clear kS kR kb hval
  have hs2 : (Try.prog.info? 44).map (·.size) = some (stA (setr g 2 (setB (g.r 2) 1 v))).size := sz17
  have hold : z17.size = (stA (setr g 2 (setB (g.r 2) 1 v))).size := rfl
  have hcell : (stA (setr g 2 (setB (g.r 2) 1 v))).all (·.oneCell') = true := stA_one _
  have hag : Value.agg (stA (setr g 2 (setB (g.r 2) 1 v))) = stV (setr g 2 (setB (g.r 2) 1 v)) := rfl
  generalize stA (setr g 2 (setB (g.r 2) 1 v)) = Z at *
  generalize z17 = Z0 at *
  go_wp2_with (first | with_reducible refine wpList_load_row rfl 44 _ rfl N rfl 44 _ (0, 0) _ kE.h Try.underlying44 rfl hs2 ?_ | with_reducible refine wpList_store_row rfl 44 _ _ rfl (N + 1) _ rfl rfl 44 _ kF.h hs2 hold hcell ?_)
  exact bodyPost_ret (v := Value.agg Z) (results_cell_row rfl _ _ (N + 1) 44 _ (0, 0) _ rfl kG.h Try.underlying44 rfl hs2) rfl ⟨by rw [hag], by rw [hN]; exact kH⟩
theorem SetReg8_7 (g : Gs) (h : g.ok) (i v : Int) (hi : -9223372036854775808 ≤ i ∧ i ≤ 9223372036854775807) (hv : 0 ≤ v ∧ v ≤ 4294967295) (e : i % 8 = 7) (w : World) : Calls Try.prog 64 #[stV g, .int .i64 i, .int .u32 v] w fun e w' => e = .returned (stV (setr g 3 (setB (g.r 3) 1 v))) ∧ Below w.heap.size w w' := by
  have hb : ∀ w, Calls Try.prog 70 #[.int .i64 i] w fun e w' => e = .returned (.tuple #[.int .i64 3, .int .i64 1]) ∧ w = w' := fun w => by
    have := byteOf_any i hi w
    rw [e] at this
    exact this
  have hr := h.r 3
  clear e
  go_enter Try.func64, Try.ntmps64
  go_wp2_with (first | (go_at_call 70; refine (hb _).mono ?_; rintro e w' ⟨rfl, rfl⟩) | (go_at_call 71; refine (bytes_any _ hr _).mono ?_; rintro e w' ⟨rfl, rfl⟩))
  have kS := (((Blk.new w 44 (stA g)).alloc (.cells z17 44)).alloc (.cells #[.int .u8 (g.r 3 % 256), .int .u8 (g.r 3 / 256 % 256), .int .u8 (g.r 3 / 65536 % 256), .int .u8 (g.r 3 / 16777216)] 105)).alloc (.cells #[.int .u8 (g.r 3 % 256), .int .u8 (v % 256), .int .u8 (g.r 3 / 65536 % 256), .int .u8 (g.r 3 / 16777216)] 105)
  have kR := ((Blk.new (w.alloc (.cells (stA g) 44)) 44 z17).alloc (.cells #[.int .u8 (g.r 3 % 256), .int .u8 (g.r 3 / 256 % 256), .int .u8 (g.r 3 / 65536 % 256), .int .u8 (g.r 3 / 16777216)] 105)).alloc (.cells #[.int .u8 (g.r 3 % 256), .int .u8 (v % 256), .int .u8 (g.r 3 / 65536 % 256), .int .u8 (g.r 3 / 16777216)] 105)
  have kL := Blk.new (((w.alloc (.cells (stA g) 44)).alloc (.cells z17 44)).alloc (.cells #[.int .u8 (g.r 3 % 256), .int .u8 (g.r 3 / 256 % 256), .int .u8 (g.r 3 / 65536 % 256), .int .u8 (g.r 3 / 16777216)] 105)) 105 #[.int .u8 (g.r 3 % 256), .int .u8 (v % 256), .int .u8 (g.r 3 / 65536 % 256), .int .u8 (g.r 3 / 16777216)]
  have kb := ((((Below.refl _ w).alloc (Nat.le_refl _) (.cells (stA g) 44)).alloc (by simp) (.cells z17 44)).alloc (by simp; omega) (.cells #[.int .u8 (g.r 3 % 256), .int .u8 (g.r 3 / 256 % 256), .int .u8 (g.r 3 / 65536 % 256), .int .u8 (g.r 3 / 16777216)] 105)).alloc (by simp; omega) (.cells #[.int .u8 (g.r 3 % 256), .int .u8 (v % 256), .int .u8 (g.r 3 / 65536 % 256), .int .u8 (g.r 3 / 16777216)] 105)
  simp only [World.size_alloc] at kR kL
  have hrow := row4 kL (by omega) (by omega) (by omega) (by omega)
  refine (word_any _ _ _ _ _ hrow).mono ?_
  rintro e w1 ⟨rfl, b1⟩
  replace kb := kb.trans (b1.mono (by simp; omega))
  replace kS := kS.below b1 kS.lt
  replace kR := kR.below b1 kR.lt
  clear kL hrow b1
  generalize hN : w.heap.size = N at *
  have q := kS.cell (i := 3) (v := .int .u32 (g.r 3)) rfl
  have p := kS.fr 3
  have hval : wordS [g.r 3 % 256, v % 256, g.r 3 / 65536 % 256, g.r 3 / 16777216] = setB (g.r 3) 1 v := by simp [wordS, setB]; omega
  rw [hval]
  have kE := kS.set 3 (.int .u32 (setB (g.r 3) 1 v))
  rw [stA_set3] at kE
  have kF := kR.other 3 (.int .u32 (setB (g.r 3) 1 v)) (show N + 1 ≠ N by omega)
  have kG := kF.row (stA (setr g 3 (setB (g.r 3) 1 v)))
  have kH := below_rowNew (kb.setCell (p := ⟨N, 3, none⟩) (by simp) (.int .u32 (setB (g.r 3) 1 v))) (N := N + 1) (by omega) (stA (setr g 3 (setB (g.r 3) 1 v)))
  clear kS kR kb hval
  have hs2 : (Try.prog.info? 44).map (·.size) = some (stA (setr g 3 (setB (g.r 3) 1 v))).size := sz17
  have hold : z17.size = (stA (setr g 3 (setB (g.r 3) 1 v))).size := rfl
  have hcell : (stA (setr g 3 (setB (g.r 3) 1 v))).all (·.oneCell') = true := stA_one _
  have hag : Value.agg (stA (setr g 3 (setB (g.r 3) 1 v))) = stV (setr g 3 (setB (g.r 3) 1 v)) := rfl
  generalize stA (setr g 3 (setB (g.r 3) 1 v)) = Z at *
  generalize z17 = Z0 at *
  go_wp2_with (first | with_reducible refine wpList_load_row rfl 44 _ rfl N rfl 44 _ (0, 0) _ kE.h Try.underlying44 rfl hs2 ?_ | with_reducible refine wpList_store_row rfl 44 _ _ rfl (N + 1) _ rfl rfl 44 _ kF.h hs2 hold hcell ?_)
  exact bodyPost_ret (v := Value.agg Z) (results_cell_row rfl _ _ (N + 1) 44 _ (0, 0) _ rfl kG.h Try.underlying44 rfl hs2) rfl ⟨by rw [hag], by rw [hN]; exact kH⟩
end Go.Proofs.Ytmlaancmacipoaa
