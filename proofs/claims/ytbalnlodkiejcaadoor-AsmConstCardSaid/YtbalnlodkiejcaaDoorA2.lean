/- Package asm: constants, far jumps: rows of words that are made. -/
import Derived.Test.YtbalnlodkiejcaaDoorA1
import Derived.Deep.OwnRows
import Derived.Deep.WholeRow
import Derived.Laws.CopyRow
namespace Go.Proofs.YtbalnlodkiejcaaDoor
open Go.RowKit
set_option linter.unusedVariables false
set_option linter.unusedSimpArgs false
set_option linter.unusedSectionVars false

/-- A row of words that nobody else has. -/
abbrev one (x : Int) : Obj := .cells #[.int .u32 x] 22
abbrev two (x y : Int) : Obj := .cells #[.int .u32 x, .int .u32 y] 22
theorem make_one (W : World) : (Instr.makeSlice 25 (.int .i64 1) (.int .i64 1)).run Tryd.prog W = .ok (.slice (some ⟨W.heap.size, 0, none⟩) 1 1) (W.alloc (one 0)) := by
  have h := run_make_row' (P := Tryd.prog) 25 22 (.int .u32 0) 4 (by kernel_rfl) (by kernel_rfl) rfl .i64 .i64 1 (by decide) (by decide) W
  rw [show madeCells #[Value.int .u32 0] 1 = #[.int .u32 0] by kernel_rfl] at h
  exact h
theorem make_two (W : World) : (Instr.makeSlice 25 (.int .i64 2) (.int .i64 2)).run Tryd.prog W = .ok (.slice (some ⟨W.heap.size, 0, none⟩) 2 2) (W.alloc (two 0 0)) := by
  have h := run_make_row' (P := Tryd.prog) 25 22 (.int .u32 0) 4 (by kernel_rfl) (by kernel_rfl) rfl .i64 .i64 2 (by decide) (by decide) W
  rw [show madeCells #[Value.int .u32 0] 2 = #[.int .u32 0, .int .u32 0] by kernel_rfl] at h
  exact h
theorem copy_to (b c : Nat) (cs zs : List Value) (w : World) (hn : cs.length = zs.length) (hb : b < w.heap.size) (h : ∀ j v, cs[j]? = some v → w.cell? ⟨b, j, none⟩ = some v) (h1 : ∀ v ∈ cs, v.oneCell' = true) :
    (Builtin.copy_ #[25, 25] 3 #[.slice (some ⟨w.heap.size, 0, none⟩) cs.length cs.length, .slice (some ⟨b, 0, none⟩) cs.length c]).run Tryd.prog (w.alloc (.cells zs.toArray 22)) = .ok (goInt cs.length) (w.alloc (.cells cs.toArray 22)) := by
  have hg := alloc_new w (.cells zs.toArray 22)
  rw [run_copy_row (P := Tryd.prog) (w.alloc (.cells zs.toArray 22)) 25 25 3 22 w.heap.size 0 cs.length cs.length ⟨b, 0, none⟩ cs.length c zs.toArray 22 cs (by kernel_rfl) (by kernel_rfl) hg (Nat.min_self _).symm
    (fun j v hj => by
      rw [show (⟨b, 0, none⟩ : Addr).add j = ⟨b, j, none⟩ by simp [Addr.add]; omega]
      rw [(Below.refl w.heap.size w |>.alloc (Nat.le_refl _) _).cell (show b < w.heap.size from hb)]
      exact h j v hj) (by simp [hn]) h1]
  have e : (zs.toArray.toList.take 0 ++ cs ++ zs.toArray.toList.drop (0 + cs.length)).toArray = cs.toArray := by simp [hn]
  rw [e]
  rw [World.setRow_alloc_new]
theorem copied_one (b c : Nat) (x : Int) (w : World) (h0 : w.cell? ⟨b, 0, none⟩ = some (.int .u32 x)) :
    Calls Tryd.prog 21 #[.slice (some ⟨b, 0, none⟩) 1 c] w fun e w' => e = .returned (.slice (some ⟨w.heap.size, 0, none⟩) 1 1) ∧ w' = w.alloc (one x) := by
  have hm := make_one
  have hc : (Builtin.copy_ #[25, 25] 3 #[.slice (some ⟨w.heap.size, 0, none⟩) 1 1, .slice (some ⟨b, 0, none⟩) 1 c]).run Tryd.prog (w.alloc (one 0)) = .ok (.int .i64 1) (w.alloc (one x)) := copy_to b c [.int .u32 x] [.int .u32 0] w rfl (size_of_cell h0) (fun j v hj => by
    cases j with
    | zero => simp at hj; subst hj; exact h0
    | succ j => simp at hj) (by simp [Value.oneCell'])
  go_enter Tryd.func21, Tryd.ntmps21
  go_wp2_with fail
  go_ret
  exact ⟨rfl, rfl⟩
theorem copied_two (b c : Nat) (x y : Int) (w : World) (h0 : w.cell? ⟨b, 0, none⟩ = some (.int .u32 x)) (h1 : w.cell? ⟨b, 1, none⟩ = some (.int .u32 y)) :
    Calls Tryd.prog 21 #[.slice (some ⟨b, 0, none⟩) 2 c] w fun e w' => e = .returned (.slice (some ⟨w.heap.size, 0, none⟩) 2 2) ∧ w' = w.alloc (two x y) := by
  have hm := make_two
  have hc : (Builtin.copy_ #[25, 25] 3 #[.slice (some ⟨w.heap.size, 0, none⟩) 2 2, .slice (some ⟨b, 0, none⟩) 2 c]).run Tryd.prog (w.alloc (two 0 0)) = .ok (.int .i64 2) (w.alloc (two x y)) := copy_to b c [.int .u32 x, .int .u32 y] [.int .u32 0, .int .u32 0] w rfl (size_of_cell h0) (fun j v hj => by
    cases j with
    | zero => simp at hj; subst hj; exact h0
    | succ j =>
      cases j with
      | zero => simp at hj; subst hj; exact h1
      | succ j => simp at hj) (by simp [Value.oneCell'])
  go_enter Tryd.func21, Tryd.ntmps21
  go_wp2_with fail
  go_ret
  exact ⟨rfl, rfl⟩
theorem setB_reg {rd : Int} (h : setB rd = true) (b : Bool) : regL rd true = true := by
  unfold setB at h
  simp only [Bool.and_eq_true, decide_eq_true_eq] at h
  rw [regL_iff]
  exact ⟨by omega, by omega, by simp⟩
theorem isL_lui {rd i : Int} (h : setB rd = true) (h1 : -2147483648 ≤ i ∧ i ≤ 2147483647) (h2 : i % 4096 = 0) : isL 1 rd 0 0 i = true := by
  have hr := setB_reg h true
  show (decide ((1 : Int) ≤ 1) && decide ((1 : Int) ≤ 47) && okF 1 rd 0 0 i) = true
  unfold okF
  rw [show hasD 1 = true from rfl, hr]
  simp [show hasS 1 = false from rfl, show hasT 1 = false from rfl, show regL 0 false = true from rfl, show leastN 1 = -2147483648 from rfl, show greatestN 1 = 2147479552 from rfl, show lowN 1 = 4095 from rfl]
  omega
theorem isL_auipc {rd i : Int} (h : setB rd = true) (h1 : -2147483648 ≤ i ∧ i ≤ 2147483647) (h2 : i % 4096 = 0) : isL 2 rd 0 0 i = true := by
  have hr := setB_reg h true
  show (decide ((1 : Int) ≤ 2) && decide ((2 : Int) ≤ 47) && okF 1 rd 0 0 i) = true
  unfold okF
  rw [show hasD 1 = true from rfl, hr]
  simp [show hasS 1 = false from rfl, show hasT 1 = false from rfl, show regL 0 false = true from rfl, show leastN 1 = -2147483648 from rfl, show greatestN 1 = 2147479552 from rfl, show lowN 1 = 4095 from rfl]
  omega
theorem isL_addi {rd b i : Int} (h : setB rd = true) (hb : b = 0 ∨ b = rd) (h1 : -2048 ≤ i ∧ i ≤ 2047) : isL 19 rd b 0 i = true := by
  have hr := setB_reg h true
  have hb' : regL b true = true := by rcases hb with rfl | rfl; rfl; exact hr
  show (decide ((1 : Int) ≤ 19) && decide ((19 : Int) ≤ 47) && okF 3 rd b 0 i) = true
  unfold okF
  rw [show hasD 3 = true from rfl, show hasS 3 = true from rfl, hr, hb']
  simp [show hasT 3 = false from rfl, show regL 0 false = true from rfl, show leastN 3 = -2048 from rfl, show greatestN 3 = 2047 from rfl, show lowN 3 = 0 from rfl]
  omega
theorem isL_jalr {b i : Int} (h : setB b = true) (h1 : -2048 ≤ i ∧ i ≤ 2047) : isL 4 0 b 0 i = true := by
  have hr := setB_reg h true
  show (decide ((1 : Int) ≤ 4) && decide ((4 : Int) ≤ 47) && okF 3 0 b 0 i) = true
  unfold okF
  rw [show hasD 3 = true from rfl, show hasS 3 = true from rfl, hr]
  simp [show hasT 3 = false from rfl, show regL 0 true = true from rfl, show regL 0 false = true from rfl, show leastN 3 = -2048 from rfl, show greatestN 3 = 2047 from rfl, show lowN 3 = 0 from rfl]
  omega
theorem made {w w1 : World} (k : Below w.heap.size w w1) (o : Obj) : w.heap.size ≤ w1.heap.size ∧ w1.heap.size < (w1.alloc o).heap.size ∧ Below w.heap.size w (w1.alloc o) := ⟨k.size, by simp, k.alloc k.size o⟩
theorem one_at (w : World) (x : Int) : (w.alloc (one x)).cell? ⟨w.heap.size, 0, none⟩ = some (.int .u32 x) := by
  have := alloc_new w (one x)
  simp only [World.cell?, this]; rfl
theorem two_at (w : World) (x y : Int) : (w.alloc (two x y)).cell? ⟨w.heap.size, 0, none⟩ = some (.int .u32 x) ∧ (w.alloc (two x y)).cell? ⟨w.heap.size, 1, none⟩ = some (.int .u32 y) := by
  have := alloc_new w (two x y)
  constructor <;> (simp only [World.cell?, this]; rfl)
/-- No register that can be set: no words. -/
theorem const_none (rd v : Int) (h : setB rd = false) (w : World) : Calls Tryd.prog 8 #[.int .i64 rd, .int .u32 v] w fun e w' => e = .returned (.slice none 0 0) ∧ w = w' := by
  have hs := fun w => canSet_any rd w
  rw [h] at hs
  go_enter Tryd.func8, Tryd.ntmps8
  go_wp2_with (go_at_call 18; refine (hs _).mono ?_; rintro e w' ⟨rfl, rfl⟩)
  go_ret
  exact ⟨rfl, rfl⟩
/-- The words of a constant. -/
def constL (rd v : Int) : List Int := if hiL v = 0 then [encL 19 rd 0 0 (loL v)] else if loL v = 0 then [encL 1 rd 0 0 (hiL v)] else [encL 1 rd 0 0 (hiL v), encL 19 rd rd 0 (loL v)]
set_option maxHeartbeats 1000000 in
theorem const_low (rd v x : Int) (h : setB rd = true) (hv : 0 ≤ v ∧ v ≤ 4294967295) (h0 : hiL v = 0) (hx : encL 19 rd 0 0 (loL v) = x) (w : World) (tabs : Tabs w) :
    Calls Tryd.prog 8 #[.int .i64 rd, .int .u32 v] w fun e w' => ∃ B, e = .returned (.slice (some ⟨B, 0, none⟩) 1 1) ∧ w.heap.size ≤ B ∧ B < w'.heap.size ∧ w'.cell? ⟨B, 0, none⟩ = some (.int .u32 x) ∧ Below w.heap.size w w' := by
  have hs := fun w => canSet_any rd w
  rw [h] at hs
  have hh := fun w => asm_halves v hv w
  rw [h0] at hh
  have he := fun w t => encoded_any 19 rd 0 0 (loL v) x (isL_addi h (.inl rfl) (loL_bd v)) hx w t
  generalize loL v = lo at *
  clear hx h
  have tb := fun o => tabs.below ((Below.refl w.heap.size w).alloc (Nat.le_refl _) o)
  have kb := fun o => (Below.refl w.heap.size w).alloc (Nat.le_refl _) o
  by_cases z : lo = 0
  all_goals
    first | subst z | skip
    go_enter Tryd.func8, Tryd.ntmps8
    go_wp2_with (first | (go_at_call 18; refine (hs _).mono ?_; rintro e w' ⟨rfl, rfl⟩) | (go_at_call 19; refine (hh _).mono ?_; rintro e w' ⟨rfl, rfl⟩))
    refine (he _ (tb _)).mono ?_
    rintro e w1 ⟨rfl, b1⟩
    have k1 := (kb _).trans (b1.mono (by simp))
    have q0 := own_cell b1 0 _ rfl
    have p0 := own_frozen b1 0
    have zl : w.heap.size < w1.heap.size := by have := b1.size; simp at this; omega
    go_wp2_with fail
    refine (copied_one w.heap.size 2 x _ (by simp [World.cell?_setCell_same', q0])).mono ?_
    rintro e w2 ⟨rfl, rfl⟩
    obtain ⟨m1, m2, m3⟩ := made (k1.setCell (Nat.le_refl _) (.int .u32 x) (p := ⟨w.heap.size, 0, none⟩)) (one x)
    have m4 := one_at (w1.setCell ⟨w.heap.size, 0, none⟩ (.int .u32 x)) x
    have ez : (w1.setCell ⟨w.heap.size, 0, none⟩ (.int .u32 x)).heap.size = w1.heap.size := by simp
    rw [ez] at m1 m2 m4
    go_wp2_with fail
    go_ret
    exact ⟨_, rfl, m1, m2, m4, m3⟩
set_option maxHeartbeats 1000000 in
theorem const_high (rd v x : Int) (h : setB rd = true) (hv : 0 ≤ v ∧ v ≤ 4294967295) (h0 : loL v = 0) (hn : ¬ hiL v = 0) (hx : encL 1 rd 0 0 (hiL v) = x) (w : World) (tabs : Tabs w) :
    Calls Tryd.prog 8 #[.int .i64 rd, .int .u32 v] w fun e w' => ∃ B, e = .returned (.slice (some ⟨B, 0, none⟩) 1 1) ∧ w.heap.size ≤ B ∧ B < w'.heap.size ∧ w'.cell? ⟨B, 0, none⟩ = some (.int .u32 x) ∧ Below w.heap.size w w' := by
  have hs := fun w => canSet_any rd w
  rw [h] at hs
  have hh := fun w => asm_halves v hv w
  rw [h0] at hh
  have he := fun w t => encoded_any 1 rd 0 0 (hiL v) x (isL_lui h (hiL_bd v) (hiL_low v)) hx w t
  generalize hiL v = hi at *
  clear hx h
  have tb := fun o => tabs.below ((Below.refl w.heap.size w).alloc (Nat.le_refl _) o)
  have kb := fun o => (Below.refl w.heap.size w).alloc (Nat.le_refl _) o
  go_enter Tryd.func8, Tryd.ntmps8
  go_wp2_with (first | (go_at_call 18; refine (hs _).mono ?_; rintro e w' ⟨rfl, rfl⟩) | (go_at_call 19; refine (hh _).mono ?_; rintro e w' ⟨rfl, rfl⟩))
  refine (he _ (tb _)).mono ?_
  rintro e w1 ⟨rfl, b1⟩
  have k1 := (kb _).trans (b1.mono (by simp))
  have q0 := own_cell b1 0 _ rfl
  have p0 := own_frozen b1 0
  have zl : w.heap.size < w1.heap.size := by have := b1.size; simp at this; omega
  go_wp2_with fail
  refine (copied_one w.heap.size 2 x _ (by simp [World.cell?_setCell_same', q0])).mono ?_
  rintro e w2 ⟨rfl, rfl⟩
  obtain ⟨m1, m2, m3⟩ := made (k1.setCell (Nat.le_refl _) (.int .u32 x) (p := ⟨w.heap.size, 0, none⟩)) (one x)
  have m4 := one_at (w1.setCell ⟨w.heap.size, 0, none⟩ (.int .u32 x)) x
  have ez : (w1.setCell ⟨w.heap.size, 0, none⟩ (.int .u32 x)).heap.size = w1.heap.size := by simp
  rw [ez] at m1 m2 m4
  go_wp2_with fail
  go_ret
  exact ⟨_, rfl, m1, m2, m4, m3⟩
set_option maxHeartbeats 1000000 in
theorem const_both (rd v x y : Int) (h : setB rd = true) (hv : 0 ≤ v ∧ v ≤ 4294967295) (h0 : ¬ loL v = 0) (hn : ¬ hiL v = 0) (hx : encL 1 rd 0 0 (hiL v) = x) (hy : encL 19 rd rd 0 (loL v) = y) (w : World) (tabs : Tabs w) :
    Calls Tryd.prog 8 #[.int .i64 rd, .int .u32 v] w fun e w' => ∃ B, e = .returned (.slice (some ⟨B, 0, none⟩) 2 2) ∧ w.heap.size ≤ B ∧ B < w'.heap.size ∧ w'.cell? ⟨B, 0, none⟩ = some (.int .u32 x) ∧ w'.cell? ⟨B, 1, none⟩ = some (.int .u32 y) ∧ Below w.heap.size w w' := by
  have hs := fun w => canSet_any rd w
  rw [h] at hs
  have hh := fun w => asm_halves v hv w
  have he := fun w t => encoded_any 1 rd 0 0 (hiL v) x (isL_lui h (hiL_bd v) (hiL_low v)) hx w t
  have hg := fun w t => encoded_any 19 rd rd 0 (loL v) y (isL_addi h (.inr rfl) (loL_bd v)) hy w t
  generalize hiL v = hi at *
  generalize loL v = lo at *
  clear hx hy h
  have tb := fun o => tabs.below ((Below.refl w.heap.size w).alloc (Nat.le_refl _) o)
  have kb := fun o => (Below.refl w.heap.size w).alloc (Nat.le_refl _) o
  go_enter Tryd.func8, Tryd.ntmps8
  go_wp2_with (first | (go_at_call 18; refine (hs _).mono ?_; rintro e w' ⟨rfl, rfl⟩) | (go_at_call 19; refine (hh _).mono ?_; rintro e w' ⟨rfl, rfl⟩))
  refine (he _ (tb _)).mono ?_
  rintro e w1 ⟨rfl, b1⟩
  have k1 := (kb _).trans (b1.mono (by simp))
  have q0 := own_cell b1 0 _ rfl
  have q1 := own_cell b1 1 _ rfl
  have p0 := own_frozen b1 0
  have p1 := own_frozen b1 1
  have zl : w.heap.size < w1.heap.size := by have := b1.size; simp at this; omega
  have t1 := tabs.below (k1.setCell (Nat.le_refl _) (.int .u32 x) (p := ⟨w.heap.size, 0, none⟩))
  go_wp2_with fail
  refine (hg _ t1).mono ?_
  rintro e w2 ⟨rfl, b2⟩
  have k2 := (k1.setCell (Nat.le_refl _) (.int .u32 x) (p := ⟨w.heap.size, 0, none⟩)).trans (b2.mono (by simp; omega))
  have r0 : w2.cell? ⟨w.heap.size, 0, none⟩ = some (.int .u32 x) := by rw [b2.cell (by simp; omega)]; simp [World.cell?_setCell_same', q0]
  have r1 : w2.cell? ⟨w.heap.size, 1, none⟩ = some (.int .u32 0) := by rw [b2.cell (by simp; omega), World.cell?_setCell_other _ _ _ _ (by simp)]; exact q1
  have f1 : w2.frozen? ⟨w.heap.size, 1, none⟩ = false := by rw [b2.frozen (by simp; omega)]; simpa using p1
  clear q0 q1 p0 p1
  go_wp2_with fail
  refine (copied_two w.heap.size 2 x y _ (by rw [World.cell?_setCell_other _ _ _ _ (by simp)]; exact r0) (by simp [World.cell?_setCell_same', r1])).mono ?_
  rintro e w3 ⟨rfl, rfl⟩
  obtain ⟨m1, m2, m3⟩ := made (k2.setCell (Nat.le_refl _) (.int .u32 y) (p := ⟨w.heap.size, 1, none⟩)) (two x y)
  obtain ⟨m4, m5⟩ := two_at (w2.setCell ⟨w.heap.size, 1, none⟩ (.int .u32 y)) x y
  have ez : (w2.setCell ⟨w.heap.size, 1, none⟩ (.int .u32 y)).heap.size = w2.heap.size := by simp
  rw [ez] at m1 m2 m4 m5
  go_wp2_with fail
  go_ret
  exact ⟨_, rfl, m1, m2, m4, m5, m3⟩
set_option maxHeartbeats 1000000 in
/-- Far words. -/
theorem far_any (f t v tmp x y : Int) (h : setB tmp = true) (hd : (t - f) % 4294967296 = v) (hx : encL 2 tmp 0 0 (hiL v) = x) (hy : encL 4 0 tmp 0 (loL v) = y) (w : World) (tabs : Tabs w) :
    Calls Tryd.prog 17 #[.int .u32 f, .int .u32 t, .int .i64 tmp] w fun e w' => ∃ B, e = .returned (.slice (some ⟨B, 0, none⟩) 2 2) ∧ w.heap.size ≤ B ∧ B < w'.heap.size ∧ w'.cell? ⟨B, 0, none⟩ = some (.int .u32 x) ∧ w'.cell? ⟨B, 1, none⟩ = some (.int .u32 y) ∧ Below w.heap.size w w' := by
  have hs := fun w => canSet_any tmp w
  rw [h] at hs
  have hh := fun w => asm_halves v (by omega) w
  have he := fun w t => encoded_any 2 tmp 0 0 (hiL v) x (isL_auipc h (hiL_bd v) (hiL_low v)) hx w t
  have hg := fun w t => encoded_any 4 0 tmp 0 (loL v) y (isL_jalr h (loL_bd v)) hy w t
  generalize hiL v = hi at *
  generalize loL v = lo at *
  clear hx hy h
  subst hd
  go_enter Tryd.func17, Tryd.ntmps17
  go_wp2_with (first | (go_at_call 18; refine (hs _).mono ?_; rintro e w' ⟨rfl, rfl⟩) | (go_at_call 19; refine (hh _).mono ?_; rintro e w' ⟨rfl, rfl⟩))
  refine (he _ tabs).mono ?_
  rintro e w1 ⟨rfl, b1⟩
  go_wp2_with fail
  refine (hg _ (tabs.below b1)).mono ?_
  rintro e w2 ⟨rfl, b2⟩
  have k2 := b1.trans (b2.mono b1.size)
  go_wp2_with fail
  have c := alloc_new w2 (.cells #[.int .u32 x, .int .u32 y] 51)
  refine (copied_two w2.heap.size 2 x y _ (by simp only [World.cell?, c]; rfl) (by simp only [World.cell?, c]; rfl)).mono ?_
  rintro e w3 ⟨rfl, rfl⟩
  obtain ⟨m1, m2, m3⟩ := made (k2.alloc k2.size (.cells #[.int .u32 x, .int .u32 y] 51)) (two x y)
  obtain ⟨m4, m5⟩ := two_at (w2.alloc (.cells #[.int .u32 x, .int .u32 y] 51)) x y
  have ez : (w2.alloc (.cells #[.int .u32 x, .int .u32 y] 51)).heap.size = w2.heap.size + 1 := by simp
  rw [ez] at m1 m2 m4 m5
  go_wp2_with fail
  go_ret
  exact ⟨_, rfl, m1, m2, m4, m5, m3⟩
end Go.Proofs.YtbalnlodkiejcaaDoor
