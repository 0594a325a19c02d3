/- InsnShapes. -/
import Derived.Test.YtobllhibicjbcaaDoorC7
import Derived.Deep.CutRange
namespace Go.Proofs.YtobllhibicjbcaaDoor
open Go.RowKit
set_option linter.unusedVariables false
set_option linter.unusedSimpArgs false
set_option linter.unusedSectionVars false

theorem isB_of (op : Int) (A B : On) : isB ⟨op, 0, A, B, false, 0⟩ = takesB (rowN op) (cA A) (cA B) := by
  unfold isB knowsB
  simp
theorem c_reg (r : Int) (h : 0 ≤ r ∧ r < 8) : cA ⟨1, r, 0, 0, 0, 0⟩ = bif r == 1 then 6 else 2 := by
  have e : cA ⟨1, r, 0, 0, 0, 0⟩ = regA r := rfl
  rw [e]
  unfold regA isRegB
  rw [decide_eq_true h.1, decide_eq_true h.2]
  rfl
theorem c_mem (v r : Int) (h : 0 ≤ r ∧ r < 8) : cA ⟨3, 0, v, r, -1, 1⟩ = 8 := by
  have e : cA ⟨3, 0, v, r, -1, 1⟩ = memA r (-1) 1 := rfl
  rw [e]
  unfold memA isRegB
  rw [decide_eq_true h.1, decide_eq_true h.2]
  simp [isIndexB]
theorem c_imm (v : Int) : cA ⟨2, 0, v, 0, 0, 0⟩ = bif v == 128 then 112 else bif decide (v < 256) then 48 else 16 := rfl
theorem imm_cases (v : Int) : (v == 128) = true ∧ decide (v < 256) = true ∨ (v == 128) = false ∧ decide (v < 256) = true ∨ (v == 128) = false ∧ decide (v < 256) = false := by
  by_cases h : v = 128
  · subst h; exact .inl (by decide)
  · by_cases h2 : v < 256
    · exact .inr (.inl ⟨by rw [beq_eq_false_iff_ne]; exact h, decide_eq_true h2⟩)
    · exact .inr (.inr ⟨by rw [beq_eq_false_iff_ne]; exact h, decide_eq_false h2⟩)
theorem yes_0 (ra rb v : Int) (ha : 0 ≤ ra ∧ ra < 8) (hb : 0 ≤ rb ∧ rb < 8) : isB ⟨1, 0, ⟨3, 0, v, rb, -1, 1⟩, ⟨1, rb, 0, 0, 0, 0⟩, false, 0⟩ = (true) := by
  have t0 : takesB 1 8 2 = true := by kernel_rfl
  have t1 : takesB 1 8 6 = true := by kernel_rfl
  rw [isB_of, show rowN 1 = 1 from rfl]
  rw [c_reg rb hb, c_mem v rb hb]
  cases rb == 1 <;>
  first | exact t0 | exact t1
theorem yes_1 (ra rb v : Int) (ha : 0 ≤ ra ∧ ra < 8) (hb : 0 ≤ rb ∧ rb < 8) : isB ⟨1, 0, ⟨1, ra, 0, 0, 0, 0⟩, ⟨3, 0, v, rb, -1, 1⟩, false, 0⟩ = (true) := by
  have t0 : takesB 1 2 8 = true := by kernel_rfl
  have t1 : takesB 1 6 8 = true := by kernel_rfl
  rw [isB_of, show rowN 1 = 1 from rfl]
  rw [c_reg ra ha, c_mem v rb hb]
  cases ra == 1 <;>
  first | exact t0 | exact t1
theorem yes_2 (ra rb v : Int) (ha : 0 ≤ ra ∧ ra < 8) (hb : 0 ≤ rb ∧ rb < 8) : isB ⟨26, 0, ⟨1, ra, 0, 0, 0, 0⟩, ⟨3, 0, v, rb, -1, 1⟩, false, 0⟩ = (true) := by
  have t0 : takesB 9 2 8 = true := by kernel_rfl
  have t1 : takesB 9 6 8 = true := by kernel_rfl
  rw [isB_of, show rowN 26 = 9 from rfl]
  rw [c_reg ra ha, c_mem v rb hb]
  cases ra == 1 <;>
  first | exact t0 | exact t1
theorem yes_3 (ra rb v : Int) (ha : 0 ≤ ra ∧ ra < 8) (hb : 0 ≤ rb ∧ rb < 8) : isB ⟨28, 0, ⟨2, 0, v, 0, 0, 0⟩, ⟨0, 0, 0, 0, 0, 0⟩, false, 0⟩ = (true) := by
  have t0 : takesB 11 112 1 = true := by kernel_rfl
  have t1 : takesB 11 48 1 = true := by kernel_rfl
  have t2 : takesB 11 16 1 = true := by kernel_rfl
  rw [isB_of, show rowN 28 = 11 from rfl]
  rw [c_imm v, show cA ⟨0, 0, 0, 0, 0, 0⟩ = 1 from rfl]
  (rcases imm_cases v with ⟨h1, h2⟩ | ⟨h1, h2⟩ | ⟨h1, h2⟩) <;> simp only [h1, h2, cond_true, cond_false] <;>
  first | exact t0 | exact t1 | exact t2
theorem yes_4 (ra rb v : Int) (ha : 0 ≤ ra ∧ ra < 8) (hb : 0 ≤ rb ∧ rb < 8) : isB ⟨45, 0, ⟨3, 0, v, rb, -1, 1⟩, ⟨0, 0, 0, 0, 0, 0⟩, false, 0⟩ = (true) := by
  have t0 : takesB 20 8 1 = true := by kernel_rfl
  rw [isB_of, show rowN 45 = 20 from rfl]
  rw [c_mem v rb hb, show cA ⟨0, 0, 0, 0, 0, 0⟩ = 1 from rfl]
  first | exact t0
theorem yes_5 (ra rb v : Int) (ha : 0 ≤ ra ∧ ra < 8) (hb : 0 ≤ rb ∧ rb < 8) : isB ⟨32, 0, ⟨2, 0, v, 0, 0, 0⟩, ⟨0, 0, 0, 0, 0, 0⟩, false, 0⟩ = (true) := by
  have t0 : takesB 15 112 1 = true := by kernel_rfl
  have t1 : takesB 15 48 1 = true := by kernel_rfl
  have t2 : takesB 15 16 1 = true := by kernel_rfl
  rw [isB_of, show rowN 32 = 15 from rfl]
  rw [c_imm v, show cA ⟨0, 0, 0, 0, 0, 0⟩ = 1 from rfl]
  (rcases imm_cases v with ⟨h1, h2⟩ | ⟨h1, h2⟩ | ⟨h1, h2⟩) <;> simp only [h1, h2, cond_true, cond_false] <;>
  first | exact t0 | exact t1 | exact t2
theorem yes_6 (ra rb v : Int) (ha : 0 ≤ ra ∧ ra < 8) (hb : 0 ≤ rb ∧ rb < 8) : isB ⟨23, 0, ⟨3, 0, v, rb, -1, 1⟩, ⟨1, 1, 0, 0, 0, 0⟩, false, 0⟩ = (true) := by
  have t0 : takesB 8 8 6 = true := by kernel_rfl
  rw [isB_of, show rowN 23 = 8 from rfl]
  rw [c_mem v rb hb, show cA ⟨1, 1, 0, 0, 0, 0⟩ = 6 from rfl]
  first | exact t0
theorem no_0 (ra rb v : Int) (ha : 0 ≤ ra ∧ ra < 8) (hb : 0 ≤ rb ∧ rb < 8) : isB ⟨1, 0, ⟨2, 0, v, 0, 0, 0⟩, ⟨1, ra, 0, 0, 0, 0⟩, false, 0⟩ = (false) := by
  have t0 : takesB 1 112 2 = false := by kernel_rfl
  have t1 : takesB 1 48 2 = false := by kernel_rfl
  have t2 : takesB 1 16 2 = false := by kernel_rfl
  have t3 : takesB 1 112 6 = false := by kernel_rfl
  have t4 : takesB 1 48 6 = false := by kernel_rfl
  have t5 : takesB 1 16 6 = false := by kernel_rfl
  rw [isB_of, show rowN 1 = 1 from rfl]
  rw [c_reg ra ha, c_imm v]
  cases ra == 1 <;>
  (rcases imm_cases v with ⟨h1, h2⟩ | ⟨h1, h2⟩ | ⟨h1, h2⟩) <;> simp only [h1, h2, cond_true, cond_false] <;>
  first | exact t0 | exact t1 | exact t2 | exact t3 | exact t4 | exact t5
theorem no_1 (ra rb v : Int) (ha : 0 ≤ ra ∧ ra < 8) (hb : 0 ≤ rb ∧ rb < 8) : isB ⟨11, 0, ⟨1, ra, 0, 0, 0, 0⟩, ⟨3, 0, v, rb, -1, 1⟩, false, 0⟩ = (false) := by
  have t0 : takesB 2 2 8 = false := by kernel_rfl
  have t1 : takesB 2 6 8 = false := by kernel_rfl
  rw [isB_of, show rowN 11 = 2 from rfl]
  rw [c_reg ra ha, c_mem v rb hb]
  cases ra == 1 <;>
  first | exact t0 | exact t1
theorem no_2 (ra rb v : Int) (ha : 0 ≤ ra ∧ ra < 8) (hb : 0 ≤ rb ∧ rb < 8) : isB ⟨26, 0, ⟨1, ra, 0, 0, 0, 0⟩, ⟨1, rb, 0, 0, 0, 0⟩, false, 0⟩ = (false) := by
  have t0 : takesB 9 2 2 = false := by kernel_rfl
  have t1 : takesB 9 2 6 = false := by kernel_rfl
  have t2 : takesB 9 6 2 = false := by kernel_rfl
  have t3 : takesB 9 6 6 = false := by kernel_rfl
  rw [isB_of, show rowN 26 = 9 from rfl]
  rw [c_reg ra ha, c_reg rb hb]
  cases ra == 1 <;>
  cases rb == 1 <;>
  first | exact t0 | exact t1 | exact t2 | exact t3
theorem no_3 (ra rb v : Int) (ha : 0 ≤ ra ∧ ra < 8) (hb : 0 ≤ rb ∧ rb < 8) : isB ⟨29, 0, ⟨3, 0, v, rb, -1, 1⟩, ⟨0, 0, 0, 0, 0, 0⟩, false, 0⟩ = (false) := by
  have t0 : takesB 12 8 1 = false := by kernel_rfl
  rw [isB_of, show rowN 29 = 12 from rfl]
  rw [c_mem v rb hb, show cA ⟨0, 0, 0, 0, 0, 0⟩ = 1 from rfl]
  first | exact t0
theorem no_4 (ra rb v : Int) (ha : 0 ≤ ra ∧ ra < 8) (hb : 0 ≤ rb ∧ rb < 8) : isB ⟨45, 0, ⟨1, ra, 0, 0, 0, 0⟩, ⟨0, 0, 0, 0, 0, 0⟩, false, 0⟩ = (false) := by
  have t0 : takesB 20 2 1 = false := by kernel_rfl
  have t1 : takesB 20 6 1 = false := by kernel_rfl
  rw [isB_of, show rowN 45 = 20 from rfl]
  rw [c_reg ra ha, show cA ⟨0, 0, 0, 0, 0, 0⟩ = 1 from rfl]
  cases ra == 1 <;>
  first | exact t0 | exact t1
theorem no_5 (ra rb v : Int) (ha : 0 ≤ ra ∧ ra < 8) (hb : 0 ≤ rb ∧ rb < 8) : isB ⟨1, 0, ⟨3, 0, v, rb, -1, 1⟩, ⟨3, 0, v, rb, -1, 1⟩, false, 0⟩ = (false) := by
  have t0 : takesB 1 8 8 = false := by kernel_rfl
  rw [isB_of, show rowN 1 = 1 from rfl]
  rw [c_mem v rb hb]
  first | exact t0
theorem no_6 (ra rb v : Int) (ha : 0 ≤ ra ∧ ra < 8) (hb : 0 ≤ rb ∧ rb < 8) : isB ⟨31, 0, ⟨1, ra, 0, 0, 0, 0⟩, ⟨0, 0, 0, 0, 0, 0⟩, false, 0⟩ = (false) := by
  have t0 : takesB 14 2 1 = false := by kernel_rfl
  have t1 : takesB 14 6 1 = false := by kernel_rfl
  rw [isB_of, show rowN 31 = 14 from rfl]
  rw [c_reg ra ha, show cA ⟨0, 0, 0, 0, 0, 0⟩ = 1 from rfl]
  cases ra == 1 <;>
  first | exact t0 | exact t1
theorem eq_0 (ra rb v : Int) (ha : 0 ≤ ra ∧ ra < 8) (hb : 0 ≤ rb ∧ rb < 8) : isB ⟨23, 0, ⟨1, ra, 0, 0, 0, 0⟩, ⟨2, 0, v, 0, 0, 0⟩, false, 0⟩ = (decide (v < 256)) := by
  have t0 : takesB 8 2 112 = true := by kernel_rfl
  have t1 : takesB 8 2 48 = true := by kernel_rfl
  have t2 : takesB 8 2 16 = false := by kernel_rfl
  have t3 : takesB 8 6 112 = true := by kernel_rfl
  have t4 : takesB 8 6 48 = true := by kernel_rfl
  have t5 : takesB 8 6 16 = false := by kernel_rfl
  rw [isB_of, show rowN 23 = 8 from rfl]
  rw [c_reg ra ha, c_imm v]
  cases ra == 1 <;>
  (rcases imm_cases v with ⟨h1, h2⟩ | ⟨h1, h2⟩ | ⟨h1, h2⟩) <;> simp only [h1, h2, cond_true, cond_false] <;>
  first | exact t0 | exact t1 | exact t2 | exact t3 | exact t4 | exact t5
theorem eq_1 (ra rb v : Int) (ha : 0 ≤ ra ∧ ra < 8) (hb : 0 ≤ rb ∧ rb < 8) : isB ⟨2, 0, ⟨3, 0, v, rb, -1, 1⟩, ⟨2, 0, v, 0, 0, 0⟩, false, 0⟩ = (decide (v < 256)) := by
  have t0 : takesB 3 8 112 = true := by kernel_rfl
  have t1 : takesB 3 8 48 = true := by kernel_rfl
  have t2 : takesB 3 8 16 = false := by kernel_rfl
  rw [isB_of, show rowN 2 = 3 from rfl]
  rw [c_mem v rb hb, c_imm v]
  (rcases imm_cases v with ⟨h1, h2⟩ | ⟨h1, h2⟩ | ⟨h1, h2⟩) <;> simp only [h1, h2, cond_true, cond_false] <;>
  first | exact t0 | exact t1 | exact t2
theorem eq_2 (ra rb v : Int) (ha : 0 ≤ ra ∧ ra < 8) (hb : 0 ≤ rb ∧ rb < 8) : isB ⟨43, 0, ⟨2, 0, v, 0, 0, 0⟩, ⟨0, 0, 0, 0, 0, 0⟩, false, 0⟩ = (v == 128) := by
  have t0 : takesB 19 112 1 = true := by kernel_rfl
  have t1 : takesB 19 48 1 = false := by kernel_rfl
  have t2 : takesB 19 16 1 = false := by kernel_rfl
  rw [isB_of, show rowN 43 = 19 from rfl]
  rw [c_imm v, show cA ⟨0, 0, 0, 0, 0, 0⟩ = 1 from rfl]
  (rcases imm_cases v with ⟨h1, h2⟩ | ⟨h1, h2⟩ | ⟨h1, h2⟩) <;> simp only [h1, h2, cond_true, cond_false] <;>
  first | exact t0 | exact t1 | exact t2
theorem eq_3 (ra rb v : Int) (ha : 0 ≤ ra ∧ ra < 8) (hb : 0 ≤ rb ∧ rb < 8) : isB ⟨23, 0, ⟨1, ra, 0, 0, 0, 0⟩, ⟨1, rb, 0, 0, 0, 0⟩, false, 0⟩ = (rb == 1) := by
  have t0 : takesB 8 2 2 = false := by kernel_rfl
  have t1 : takesB 8 2 6 = true := by kernel_rfl
  have t2 : takesB 8 6 2 = false := by kernel_rfl
  have t3 : takesB 8 6 6 = true := by kernel_rfl
  rw [isB_of, show rowN 23 = 8 from rfl]
  rw [c_reg ra ha, c_reg rb hb]
  cases ra == 1 <;>
  cases rb == 1 <;>
  first | exact t0 | exact t1 | exact t2 | exact t3
theorem store_op_at {ops : Array Oper} {rest : List Oper} {o : Oper} {a : Act} {w : World} {Q : Exit → Act → World → Prop} (hgd : o.guard = none) (x y : Operand) (ho : o.op = .store 24 x y)
    (N : Nat) (cs : Array Value) (hz : cs.size = 6) (h1 : cs.all (·.oneCell') = true) (hx : a.eval x = .pointer (some ⟨N, 0, none⟩)) (hy : a.eval y = .agg cs) (k : Blk w N 24 z6)
    (h : ∀ W, W = w.setRow N cs → wpList Tryd.prog ops Q rest (a.put o.dst undef) W) : wpList Tryd.prog ops Q (o :: rest) a w :=
  wpList_store_row hgd 24 x y ho N cs hx hy 24 z6 k.h ((szOp onZ).trans (congrArg some hz.symm)) hz.symm h1 (h _ rfl)
set_option maxRecDepth 100000 in
set_option maxHeartbeats 8000000 in
theorem shapes_walk (a b v : Int) (ha : 0 ≤ a ∧ a ≤ 255) (hb : 0 ≤ b ∧ b ≤ 255) (w : World) (tabs : Tabs w) :
    Calls Tryd.prog 5 #[.int .u8 a, .int .u8 b, .int .u32 v] w fun e w' => e = .returned (.bool true) ∧ Below w.heap.size w w' := by
  have tabs0 := tabs
  obtain ⟨ra, hra⟩ : ∃ r, Int.tmod a 8 = r := ⟨_, rfl⟩
  obtain ⟨rb, hrb⟩ : ∃ r, Int.tmod b 8 = r := ⟨_, rfl⟩
  have ga : 0 ≤ ra ∧ ra < 8 := by rw [Int.tmod_eq_emod_of_nonneg ha.1] at hra; omega
  have gb : 0 ≤ rb ∧ rb < 8 := by rw [Int.tmod_eq_emod_of_nonneg hb.1] at hrb; omega
  have q_y0 := Lib.hid (fun W tabs => Is_any ⟨1, 0, ⟨3, 0, v, rb, -1, 1⟩, ⟨1, rb, 0, 0, 0, 0⟩, false, 0⟩ W tabs)
  rw [yes_0 ra rb v ga gb] at q_y0
  have q_y1 := Lib.hid (fun W tabs => Is_any ⟨1, 0, ⟨1, ra, 0, 0, 0, 0⟩, ⟨3, 0, v, rb, -1, 1⟩, false, 0⟩ W tabs)
  rw [yes_1 ra rb v ga gb] at q_y1
  have q_y2 := Lib.hid (fun W tabs => Is_any ⟨26, 0, ⟨1, ra, 0, 0, 0, 0⟩, ⟨3, 0, v, rb, -1, 1⟩, false, 0⟩ W tabs)
  rw [yes_2 ra rb v ga gb] at q_y2
  have q_y3 := Lib.hid (fun W tabs => Is_any ⟨28, 0, ⟨2, 0, v, 0, 0, 0⟩, ⟨0, 0, 0, 0, 0, 0⟩, false, 0⟩ W tabs)
  rw [yes_3 ra rb v ga gb] at q_y3
  have q_y4 := Lib.hid (fun W tabs => Is_any ⟨45, 0, ⟨3, 0, v, rb, -1, 1⟩, ⟨0, 0, 0, 0, 0, 0⟩, false, 0⟩ W tabs)
  rw [yes_4 ra rb v ga gb] at q_y4
  have q_y5 := Lib.hid (fun W tabs => Is_any ⟨32, 0, ⟨2, 0, v, 0, 0, 0⟩, ⟨0, 0, 0, 0, 0, 0⟩, false, 0⟩ W tabs)
  rw [yes_5 ra rb v ga gb] at q_y5
  have q_y6 := Lib.hid (fun W tabs => Is_any ⟨23, 0, ⟨3, 0, v, rb, -1, 1⟩, ⟨1, 1, 0, 0, 0, 0⟩, false, 0⟩ W tabs)
  rw [yes_6 ra rb v ga gb] at q_y6
  have q_n0 := Lib.hid (fun W tabs => Is_any ⟨1, 0, ⟨2, 0, v, 0, 0, 0⟩, ⟨1, ra, 0, 0, 0, 0⟩, false, 0⟩ W tabs)
  rw [no_0 ra rb v ga gb] at q_n0
  have q_n1 := Lib.hid (fun W tabs => Is_any ⟨11, 0, ⟨1, ra, 0, 0, 0, 0⟩, ⟨3, 0, v, rb, -1, 1⟩, false, 0⟩ W tabs)
  rw [no_1 ra rb v ga gb] at q_n1
  have q_n2 := Lib.hid (fun W tabs => Is_any ⟨26, 0, ⟨1, ra, 0, 0, 0, 0⟩, ⟨1, rb, 0, 0, 0, 0⟩, false, 0⟩ W tabs)
  rw [no_2 ra rb v ga gb] at q_n2
  have q_n3 := Lib.hid (fun W tabs => Is_any ⟨29, 0, ⟨3, 0, v, rb, -1, 1⟩, ⟨0, 0, 0, 0, 0, 0⟩, false, 0⟩ W tabs)
  rw [no_3 ra rb v ga gb] at q_n3
  have q_n4 := Lib.hid (fun W tabs => Is_any ⟨45, 0, ⟨1, ra, 0, 0, 0, 0⟩, ⟨0, 0, 0, 0, 0, 0⟩, false, 0⟩ W tabs)
  rw [no_4 ra rb v ga gb] at q_n4
  have q_n5 := Lib.hid (fun W tabs => Is_any ⟨1, 0, ⟨3, 0, v, rb, -1, 1⟩, ⟨3, 0, v, rb, -1, 1⟩, false, 0⟩ W tabs)
  rw [no_5 ra rb v ga gb] at q_n5
  have q_n6 := Lib.hid (fun W tabs => Is_any ⟨31, 0, ⟨1, ra, 0, 0, 0, 0⟩, ⟨0, 0, 0, 0, 0, 0⟩, false, 0⟩ W tabs)
  rw [no_6 ra rb v ga gb] at q_n6
  have q_e0 := Lib.hid (fun W tabs => Is_any ⟨23, 0, ⟨1, ra, 0, 0, 0, 0⟩, ⟨2, 0, v, 0, 0, 0⟩, false, 0⟩ W tabs)
  rw [eq_0 ra rb v ga gb] at q_e0
  have q_e1 := Lib.hid (fun W tabs => Is_any ⟨2, 0, ⟨3, 0, v, rb, -1, 1⟩, ⟨2, 0, v, 0, 0, 0⟩, false, 0⟩ W tabs)
  rw [eq_1 ra rb v ga gb] at q_e1
  have q_e2 := Lib.hid (fun W tabs => Is_any ⟨43, 0, ⟨2, 0, v, 0, 0, 0⟩, ⟨0, 0, 0, 0, 0, 0⟩, false, 0⟩ W tabs)
  rw [eq_2 ra rb v ga gb] at q_e2
  have q_e3 := Lib.hid (fun W tabs => Is_any ⟨23, 0, ⟨1, ra, 0, 0, 0, 0⟩, ⟨1, rb, 0, 0, 0, 0⟩, false, 0⟩ W tabs)
  rw [eq_3 ra rb v ga gb] at q_e3
  have w1 : IntKind.i64.wrap ra = ra := by rw [IntKind.wrap_i64]; omega
  have w2 : IntKind.i64.wrap rb = rb := by rw [IntKind.wrap_i64]; omega
  have ga0 := ga.1
  have ga1 := ga.2
  have gb0 := gb.1
  have gb1 := gb.2
  have z1 : ∀ o : On, (op6 o).size = 6 := fun o => rfl
  have o1 : ∀ o : On, (op6 o).all (·.oneCell') = true := fun o => by simp [Value.oneCell']
  clear ga gb
  go_enter Tryd.func5, Tryd.ntmps5
  go_wp2_with fail
  refine (known_any _ tabs).mono ?_
  rintro e v1 ⟨rfl, kb⟩
  replace tabs := tabs.below kb
  have hSB := kb.size
  go_wp2_with fail
  refine (reg_any ra _).mono ?_
  rintro e v2 ⟨rfl, bb⟩
  replace tabs := tabs.below bb
  replace kb := kb.trans (bb.mono hSB)
  replace hSB := Nat.le_trans hSB bb.size
  clear bb
  go_wp2_with fail
  refine (reg_any rb _).mono ?_
  rintro e v3 ⟨rfl, bb⟩
  replace tabs := tabs.below bb
  replace kb := kb.trans (bb.mono hSB)
  replace hSB := Nat.le_trans hSB bb.size
  clear bb
  have kR0 := (Blk.new v3 24 z6).alloc (.cells z6 24)
  have kS0 := Blk.new (v3.alloc (.cells z6 24)) 24 z6
  rw [World.size_alloc] at kS0
  replace kb := (kb.alloc hSB (.cells z6 24)).alloc (Nat.le_trans hSB (by simp)) (.cells z6 24)
  generalize hN : w.heap.size = N at *
  generalize hP : v3.heap.size = p7 at *
  generalize hw4 : (v3.alloc (.cells z6 24)).alloc (.cells z6 24) = v4 at *
  go_upto_region 4 with (first | ((with_reducible refine store_op_at rfl _ _ rfl p7 (op6 ⟨1, ra, 0, 0, 0, 0⟩) (z1 _) (o1 _) rfl rfl kR0 ?_); intro v5 hv; have kR := kR0.row (op6 ⟨1, ra, 0, 0, 0, 0⟩); rw [← hv] at kR; have kS1 := kS0.rowOther (M := p7) (op6 ⟨1, ra, 0, 0, 0, 0⟩) (by omega); rw [← hv] at kS1; have kb1 := below_rowNew kb hSB (op6 ⟨1, ra, 0, 0, 0, 0⟩); rw [← hv] at kb1; clear hv) | ((with_reducible refine store_op_at rfl _ _ rfl (p7 + 1) (op6 ⟨1, rb, 0, 0, 0, 0⟩) (z1 _) (o1 _) rfl rfl kS1 ?_); intro v6 hv; have kS := kS1.row (op6 ⟨1, rb, 0, 0, 0, 0⟩); rw [← hv] at kS; replace kR := kR.rowOther (M := p7 + 1) (op6 ⟨1, rb, 0, 0, 0, 0⟩) (by omega); rw [← hv] at kR; have kb2 := below_rowNew (N := p7 + 1) kb1 (by omega) (op6 ⟨1, rb, 0, 0, 0, 0⟩); rw [← hv] at kb2; clear hv))
  clear kR0 kS0 kS1 kb kb1 hw4 hP
  try simp only [Act.put]
  have hSB := kb2.size
  rw [hN] at hSB
  have hRl := kR.lt
  have hSl := kS.lt
  go_upto_region 5 with (first | ((with_reducible refine store_op_as rfl _ _ rfl (w0 := v6) (op6 ⟨2, 0, v, 0, 0, 0⟩) (z1 _) (o1 _) rfl rfl ?_); intro v7 kN bb; replace kR := kR.below bb hRl; replace kS := kS.below bb hSl; replace kb2 := kb2.trans (bb.mono hSB); clear bb))
  try simp only [Act.put]
  clear hSB hRl hSl
  have hSB := kb2.size
  rw [hN] at hSB
  have hRl := kR.lt
  have hSl := kS.lt
  have hNl := kN.lt
  generalize v6.heap.size = p9 at *
  go_upto_region 6 with (first | ((with_reducible refine store_op_as rfl _ _ rfl (w0 := v7) (op6 ⟨3, 0, v, rb, -1, 1⟩) (z1 _) (o1 _) rfl rfl ?_); intro v8 kM bb; replace kR := kR.below bb hRl; replace kS := kS.below bb hSl; replace kN := kN.below bb hNl; replace kb2 := kb2.trans (bb.mono hSB); clear bb))
  try simp only [Act.put]
  clear hSB hRl hSl hNl
  generalize v7.heap.size = p10 at *
  generalize hp8 : p7 + 1 = p8 at *
  obtain ⟨sm, hsm⟩ : ∃ s, decide (v < 256) = s := ⟨_, rfl⟩
  obtain ⟨is, his⟩ : ∃ s, (v == 128) = s := ⟨_, rfl⟩
  obtain ⟨r1, hr1⟩ : ∃ s, (rb == 1) = s := ⟨_, rfl⟩
  rw [hsm] at q_e0 q_e1
  rw [his] at q_e2
  rw [hr1] at q_e3
  go_upto_region 8 with fail
  have hSB := kb2.drew.size
  rw [hN] at hSB
  replace tabs : Tabs v8.drew := tabs0.below (hN ▸ kb2.drew)
  replace kb2 := kb2.drew
  have hS0 := And.intro kR.drew (And.intro kS.drew (And.intro kN.drew kM.drew))
  clear kR kS kN kM tabs0 w1 w2 ha hb
  refine wp_region_held_drew (S := fun W => Blk W p7 24 (op6 ⟨1, ra, 0, 0, 0, 0⟩) ∧ Blk W p8 24 (op6 ⟨1, rb, 0, 0, 0, 0⟩) ∧ Blk W p9 24 (op6 ⟨2, 0, v, 0, 0, 0⟩) ∧ Blk W p10 24 (op6 ⟨3, 0, v, rb, -1, 1⟩)) (by kernel_rfl) hS0 (fun hH0 => ?_)
  refine wpAnyH_take (i := 0) (v := ?_) rfl (by kernel_rfl) (by kernel_rfl) (by kernel_rfl) (fun _ _ _ h => h) (Or.inl ⟨by kernel_rfl, ?_⟩) hH0 ?_
  rotate_left
  · intro W hS
    go_simp
    try rfl
  simp only [Act.put, List.setIfInBounds_toArray, List.set_cons_zero, List.set_cons_succ, List.getElem_toArray, List.getElem_cons_succ, List.getElem_cons_zero]
  refine wpAnyH_take (i := 1) (v := opV ⟨3, 0, v, rb, -1, 1⟩) rfl (by kernel_rfl) (by kernel_rfl) (by kernel_rfl) (fun _ _ _ h => h) (Or.inl ⟨by kernel_rfl, ?_⟩) hH0 ?_
  · intro W hS
    exact run_load_row (by rfl) (by rfl) 24 _ (0, 0) _ hS.2.2.2.h Tryd.underlying24 rfl (szOp ⟨3, 0, v, rb, -1, 1⟩)
  simp only [Act.put, List.setIfInBounds_toArray, List.set_cons_zero, List.set_cons_succ]
  refine wpAnyH_take (i := 2) (v := opV ⟨1, rb, 0, 0, 0, 0⟩) rfl (by kernel_rfl) (by kernel_rfl) (by kernel_rfl) (fun _ _ _ h => h) (Or.inl ⟨by kernel_rfl, ?_⟩) hH0 ?_
  · intro W hS
    exact run_load_row (by rfl) (by rfl) 24 _ (0, 0) _ hS.2.1.h Tryd.underlying24 rfl (szOp ⟨1, rb, 0, 0, 0, 0⟩)
  simp only [Act.put, List.setIfInBounds_toArray, List.set_cons_zero, List.set_cons_succ]
  refine wpAnyH_take (i := 3) (v := inV ⟨1, 0, ⟨3, 0, v, rb, -1, 1⟩, ⟨1, rb, 0, 0, 0, 0⟩, false, 0⟩) rfl (by kernel_rfl) (by kernel_rfl) (by kernel_rfl) (fun _ _ _ h => h) (Or.inl ⟨by kernel_rfl, ?_⟩) hH0 ?_
  · intro W hS
    kernel_rfl
  simp only [Act.put, List.setIfInBounds_toArray, List.set_cons_zero, List.set_cons_succ]
  refine wpAnyH_ready (rs := [4]) (by kernel_rfl) (by simp) ?_
  refine AllReadyH.cons rfl (fun K hK => ?_) AllReadyH.nil
  go_simp
  with_reducible refine (q_y0.out _ tabs).mono ?_
  rintro e x0 ⟨rfl, bb⟩
  have hH1 := And.intro (hH0.1.below bb hH0.1.lt) (And.intro (hH0.2.1.below bb hH0.2.1.lt) (And.intro (hH0.2.2.1.below bb hH0.2.2.1.lt) (hH0.2.2.2.below bb hH0.2.2.2.lt)))
  replace tabs := tabs.below bb
  replace kb2 := kb2.trans (bb.mono hSB)
  replace hSB := Nat.le_trans hSB bb.size
  clear bb
  refine hK.out _ _ hH1 (fun _ => ?_)
  clear hK K
  try simp only [Act.put, List.setIfInBounds_toArray, List.set_cons_zero, List.set_cons_succ]
  refine wpAnyH_take (i := 5) (v := ?_) rfl (by kernel_rfl) (by kernel_rfl) (by kernel_rfl) (fun _ _ _ h => h) (Or.inl ⟨by kernel_rfl, ?_⟩) hH1 ?_
  rotate_left
  · intro W hS
    go_simp
    try rfl
  simp only [Act.put, List.setIfInBounds_toArray, List.set_cons_zero, List.set_cons_succ, List.getElem_toArray, List.getElem_cons_succ, List.getElem_cons_zero]
  refine wpAnyH_take (i := 6) (v := ?_) rfl (by kernel_rfl) (by kernel_rfl) (by kernel_rfl) (fun _ _ _ h => h) (Or.inl ⟨by kernel_rfl, ?_⟩) hH1 ?_
  rotate_left
  · intro W hS
    go_simp
    try rfl
  simp only [Act.put, List.setIfInBounds_toArray, List.set_cons_zero, List.set_cons_succ, List.getElem_toArray, List.getElem_cons_succ, List.getElem_cons_zero]
  refine wpAnyH_take (i := 7) (v := opV ⟨1, ra, 0, 0, 0, 0⟩) rfl (by kernel_rfl) (by kernel_rfl) (by kernel_rfl) (fun _ _ _ h => h) (Or.inl ⟨by kernel_rfl, ?_⟩) hH1 ?_
  · intro W hS
    exact run_load_row (by rfl) (by rfl) 24 _ (0, 0) _ hS.1.h Tryd.underlying24 rfl (szOp ⟨1, ra, 0, 0, 0, 0⟩)
  simp only [Act.put, List.setIfInBounds_toArray, List.set_cons_zero, List.set_cons_succ]
  refine wpAnyH_take (i := 8) (v := opV ⟨3, 0, v, rb, -1, 1⟩) rfl (by kernel_rfl) (by kernel_rfl) (by kernel_rfl) (fun _ _ _ h => h) (Or.inl ⟨by kernel_rfl, ?_⟩) hH1 ?_
  · intro W hS
    exact run_load_row (by rfl) (by rfl) 24 _ (0, 0) _ hS.2.2.2.h Tryd.underlying24 rfl (szOp ⟨3, 0, v, rb, -1, 1⟩)
  simp only [Act.put, List.setIfInBounds_toArray, List.set_cons_zero, List.set_cons_succ]
  refine wpAnyH_take (i := 9) (v := inV ⟨1, 0, ⟨1, ra, 0, 0, 0, 0⟩, ⟨3, 0, v, rb, -1, 1⟩, false, 0⟩) rfl (by kernel_rfl) (by kernel_rfl) (by kernel_rfl) (fun _ _ _ h => h) (Or.inl ⟨by kernel_rfl, ?_⟩) hH1 ?_
  · intro W hS
    kernel_rfl
  simp only [Act.put, List.setIfInBounds_toArray, List.set_cons_zero, List.set_cons_succ]
  refine wpAnyH_ready (rs := [10]) (by kernel_rfl) (by simp) ?_
  refine AllReadyH.cons rfl (fun K hK => ?_) AllReadyH.nil
  go_simp
  with_reducible refine (q_y1.out _ tabs).mono ?_
  rintro e x1 ⟨rfl, bb⟩
  have hH2 := And.intro (hH1.1.below bb hH1.1.lt) (And.intro (hH1.2.1.below bb hH1.2.1.lt) (And.intro (hH1.2.2.1.below bb hH1.2.2.1.lt) (hH1.2.2.2.below bb hH1.2.2.2.lt)))
  replace tabs := tabs.below bb
  replace kb2 := kb2.trans (bb.mono hSB)
  replace hSB := Nat.le_trans hSB bb.size
  clear bb
  refine hK.out _ _ hH2 (fun _ => ?_)
  clear hK K
  try simp only [Act.put, List.setIfInBounds_toArray, List.set_cons_zero, List.set_cons_succ]
  refine wpAnyH_take (i := 11) (v := ?_) rfl (by kernel_rfl) (by kernel_rfl) (by kernel_rfl) (fun _ _ _ h => h) (Or.inl ⟨by kernel_rfl, ?_⟩) hH2 ?_
  rotate_left
  · intro W hS
    go_simp
    try rfl
  simp only [Act.put, List.setIfInBounds_toArray, List.set_cons_zero, List.set_cons_succ, List.getElem_toArray, List.getElem_cons_succ, List.getElem_cons_zero]
  refine wpAnyH_take (i := 12) (v := ?_) rfl (by kernel_rfl) (by kernel_rfl) (by kernel_rfl) (fun _ _ _ h => h) (Or.inl ⟨by kernel_rfl, ?_⟩) hH2 ?_
  rotate_left
  · intro W hS
    go_simp
    try rfl
  simp only [Act.put, List.setIfInBounds_toArray, List.set_cons_zero, List.set_cons_succ, List.getElem_toArray, List.getElem_cons_succ, List.getElem_cons_zero]
  refine wpAnyH_take (i := 13) (v := ?_) rfl (by kernel_rfl) (by kernel_rfl) (by kernel_rfl) (fun _ _ _ h => h) (Or.inl ⟨by kernel_rfl, ?_⟩) hH2 ?_
  rotate_left
  · intro W hS
    go_simp
    try rfl
  simp only [Act.put, List.setIfInBounds_toArray, List.set_cons_zero, List.set_cons_succ, List.getElem_toArray, List.getElem_cons_succ, List.getElem_cons_zero]
  refine wpAnyH_take (i := 14) (v := opV ⟨1, ra, 0, 0, 0, 0⟩) rfl (by kernel_rfl) (by kernel_rfl) (by kernel_rfl) (fun _ _ _ h => h) (Or.inl ⟨by kernel_rfl, ?_⟩) hH2 ?_
  · intro W hS
    exact run_load_row (by rfl) (by rfl) 24 _ (0, 0) _ hS.1.h Tryd.underlying24 rfl (szOp ⟨1, ra, 0, 0, 0, 0⟩)
  simp only [Act.put, List.setIfInBounds_toArray, List.set_cons_zero, List.set_cons_succ]
  refine wpAnyH_take (i := 15) (v := opV ⟨3, 0, v, rb, -1, 1⟩) rfl (by kernel_rfl) (by kernel_rfl) (by kernel_rfl) (fun _ _ _ h => h) (Or.inl ⟨by kernel_rfl, ?_⟩) hH2 ?_
  · intro W hS
    exact run_load_row (by rfl) (by rfl) 24 _ (0, 0) _ hS.2.2.2.h Tryd.underlying24 rfl (szOp ⟨3, 0, v, rb, -1, 1⟩)
  simp only [Act.put, List.setIfInBounds_toArray, List.set_cons_zero, List.set_cons_succ]
  refine wpAnyH_take (i := 16) (v := inV ⟨26, 0, ⟨1, ra, 0, 0, 0, 0⟩, ⟨3, 0, v, rb, -1, 1⟩, false, 0⟩) rfl (by kernel_rfl) (by kernel_rfl) (by kernel_rfl) (fun _ _ _ h => h) (Or.inl ⟨by kernel_rfl, ?_⟩) hH2 ?_
  · intro W hS
    kernel_rfl
  simp only [Act.put, List.setIfInBounds_toArray, List.set_cons_zero, List.set_cons_succ]
  refine wpAnyH_ready (rs := [17]) (by kernel_rfl) (by simp) ?_
  refine AllReadyH.cons rfl (fun K hK => ?_) AllReadyH.nil
  go_simp
  with_reducible refine (q_y2.out _ tabs).mono ?_
  rintro e x2 ⟨rfl, bb⟩
  have hH3 := And.intro (hH2.1.below bb hH2.1.lt) (And.intro (hH2.2.1.below bb hH2.2.1.lt) (And.intro (hH2.2.2.1.below bb hH2.2.2.1.lt) (hH2.2.2.2.below bb hH2.2.2.2.lt)))
  replace tabs := tabs.below bb
  replace kb2 := kb2.trans (bb.mono hSB)
  replace hSB := Nat.le_trans hSB bb.size
  clear bb
  refine hK.out _ _ hH3 (fun _ => ?_)
  clear hK K
  try simp only [Act.put, List.setIfInBounds_toArray, List.set_cons_zero, List.set_cons_succ]
  refine wpAnyH_take (i := 18) (v := ?_) rfl (by kernel_rfl) (by kernel_rfl) (by kernel_rfl) (fun _ _ _ h => h) (Or.inl ⟨by kernel_rfl, ?_⟩) hH3 ?_
  rotate_left
  · intro W hS
    go_simp
    try rfl
  simp only [Act.put, List.setIfInBounds_toArray, List.set_cons_zero, List.set_cons_succ, List.getElem_toArray, List.getElem_cons_succ, List.getElem_cons_zero]
  refine wpAnyH_take (i := 19) (v := ?_) rfl (by kernel_rfl) (by kernel_rfl) (by kernel_rfl) (fun _ _ _ h => h) (Or.inl ⟨by kernel_rfl, ?_⟩) hH3 ?_
  rotate_left
  · intro W hS
    go_simp
    try rfl
  simp only [Act.put, List.setIfInBounds_toArray, List.set_cons_zero, List.set_cons_succ, List.getElem_toArray, List.getElem_cons_succ, List.getElem_cons_zero]
  refine wpAnyH_take (i := 20) (v := ?_) rfl (by kernel_rfl) (by kernel_rfl) (by kernel_rfl) (fun _ _ _ h => h) (Or.inl ⟨by kernel_rfl, ?_⟩) hH3 ?_
  rotate_left
  · intro W hS
    go_simp
    try rfl
  simp only [Act.put, List.setIfInBounds_toArray, List.set_cons_zero, List.set_cons_succ, List.getElem_toArray, List.getElem_cons_succ, List.getElem_cons_zero]
  refine wpAnyH_take (i := 21) (v := opV ⟨2, 0, v, 0, 0, 0⟩) rfl (by kernel_rfl) (by kernel_rfl) (by kernel_rfl) (fun _ _ _ h => h) (Or.inl ⟨by kernel_rfl, ?_⟩) hH3 ?_
  · intro W hS
    exact run_load_row (by rfl) (by rfl) 24 _ (0, 0) _ hS.2.2.1.h Tryd.underlying24 rfl (szOp ⟨2, 0, v, 0, 0, 0⟩)
  simp only [Act.put, List.setIfInBounds_toArray, List.set_cons_zero, List.set_cons_succ]
  refine wpAnyH_take (i := 22) (v := inV ⟨28, 0, ⟨2, 0, v, 0, 0, 0⟩, ⟨0, 0, 0, 0, 0, 0⟩, false, 0⟩) rfl (by kernel_rfl) (by kernel_rfl) (by kernel_rfl) (fun _ _ _ h => h) (Or.inl ⟨by kernel_rfl, ?_⟩) hH3 ?_
  · intro W hS
    kernel_rfl
  simp only [Act.put, List.setIfInBounds_toArray, List.set_cons_zero, List.set_cons_succ]
  refine wpAnyH_ready (rs := [23]) (by kernel_rfl) (by simp) ?_
  refine AllReadyH.cons rfl (fun K hK => ?_) AllReadyH.nil
  go_simp
  with_reducible refine (q_y3.out _ tabs).mono ?_
  rintro e x3 ⟨rfl, bb⟩
  have hH4 := And.intro (hH3.1.below bb hH3.1.lt) (And.intro (hH3.2.1.below bb hH3.2.1.lt) (And.intro (hH3.2.2.1.below bb hH3.2.2.1.lt) (hH3.2.2.2.below bb hH3.2.2.2.lt)))
  replace tabs := tabs.below bb
  replace kb2 := kb2.trans (bb.mono hSB)
  replace hSB := Nat.le_trans hSB bb.size
  clear bb
  refine hK.out _ _ hH4 (fun _ => ?_)
  clear hK K
  try simp only [Act.put, List.setIfInBounds_toArray, List.set_cons_zero, List.set_cons_succ]
  refine wpAnyH_take (i := 24) (v := ?_) rfl (by kernel_rfl) (by kernel_rfl) (by kernel_rfl) (fun _ _ _ h => h) (Or.inl ⟨by kernel_rfl, ?_⟩) hH4 ?_
  rotate_left
  · intro W hS
    go_simp
    try rfl
  simp only [Act.put, List.setIfInBounds_toArray, List.set_cons_zero, List.set_cons_succ, List.getElem_toArray, List.getElem_cons_succ, List.getElem_cons_zero]
  refine wpAnyH_take (i := 25) (v := ?_) rfl (by kernel_rfl) (by kernel_rfl) (by kernel_rfl) (fun _ _ _ h => h) (Or.inl ⟨by kernel_rfl, ?_⟩) hH4 ?_
  rotate_left
  · intro W hS
    go_simp
    try rfl
  simp only [Act.put, List.setIfInBounds_toArray, List.set_cons_zero, List.set_cons_succ, List.getElem_toArray, List.getElem_cons_succ, List.getElem_cons_zero]
  refine wpAnyH_take (i := 26) (v := ?_) rfl (by kernel_rfl) (by kernel_rfl) (by kernel_rfl) (fun _ _ _ h => h) (Or.inl ⟨by kernel_rfl, ?_⟩) hH4 ?_
  rotate_left
  · intro W hS
    go_simp
    try rfl
  simp only [Act.put, List.setIfInBounds_toArray, List.set_cons_zero, List.set_cons_succ, List.getElem_toArray, List.getElem_cons_succ, List.getElem_cons_zero]
  refine wpAnyH_take (i := 27) (v := opV ⟨3, 0, v, rb, -1, 1⟩) rfl (by kernel_rfl) (by kernel_rfl) (by kernel_rfl) (fun _ _ _ h => h) (Or.inl ⟨by kernel_rfl, ?_⟩) hH4 ?_
  · intro W hS
    exact run_load_row (by rfl) (by rfl) 24 _ (0, 0) _ hS.2.2.2.h Tryd.underlying24 rfl (szOp ⟨3, 0, v, rb, -1, 1⟩)
  simp only [Act.put, List.setIfInBounds_toArray, List.set_cons_zero, List.set_cons_succ]
  refine wpAnyH_take (i := 28) (v := inV ⟨45, 0, ⟨3, 0, v, rb, -1, 1⟩, ⟨0, 0, 0, 0, 0, 0⟩, false, 0⟩) rfl (by kernel_rfl) (by kernel_rfl) (by kernel_rfl) (fun _ _ _ h => h) (Or.inl ⟨by kernel_rfl, ?_⟩) hH4 ?_
  · intro W hS
    kernel_rfl
  simp only [Act.put, List.setIfInBounds_toArray, List.set_cons_zero, List.set_cons_succ]
  refine wpAnyH_ready (rs := [29]) (by kernel_rfl) (by simp) ?_
  refine AllReadyH.cons rfl (fun K hK => ?_) AllReadyH.nil
  go_simp
  with_reducible refine (q_y4.out _ tabs).mono ?_
  rintro e x4 ⟨rfl, bb⟩
  have hH5 := And.intro (hH4.1.below bb hH4.1.lt) (And.intro (hH4.2.1.below bb hH4.2.1.lt) (And.intro (hH4.2.2.1.below bb hH4.2.2.1.lt) (hH4.2.2.2.below bb hH4.2.2.2.lt)))
  replace tabs := tabs.below bb
  replace kb2 := kb2.trans (bb.mono hSB)
  replace hSB := Nat.le_trans hSB bb.size
  clear bb
  refine hK.out _ _ hH5 (fun _ => ?_)
  clear hK K
  try simp only [Act.put, List.setIfInBounds_toArray, List.set_cons_zero, List.set_cons_succ]
  refine wpAnyH_take (i := 30) (v := ?_) rfl (by kernel_rfl) (by kernel_rfl) (by kernel_rfl) (fun _ _ _ h => h) (Or.inl ⟨by kernel_rfl, ?_⟩) hH5 ?_
  rotate_left
  · intro W hS
    go_simp
    try rfl
  simp only [Act.put, List.setIfInBounds_toArray, List.set_cons_zero, List.set_cons_succ, List.getElem_toArray, List.getElem_cons_succ, List.getElem_cons_zero]
  refine wpAnyH_take (i := 31) (v := ?_) rfl (by kernel_rfl) (by kernel_rfl) (by kernel_rfl) (fun _ _ _ h => h) (Or.inl ⟨by kernel_rfl, ?_⟩) hH5 ?_
  rotate_left
  · intro W hS
    go_simp
    try rfl
  simp only [Act.put, List.setIfInBounds_toArray, List.set_cons_zero, List.set_cons_succ, List.getElem_toArray, List.getElem_cons_succ, List.getElem_cons_zero]
  refine wpAnyH_take (i := 32) (v := ?_) rfl (by kernel_rfl) (by kernel_rfl) (by kernel_rfl) (fun _ _ _ h => h) (Or.inl ⟨by kernel_rfl, ?_⟩) hH5 ?_
  rotate_left
  · intro W hS
    go_simp
    try rfl
  simp only [Act.put, List.setIfInBounds_toArray, List.set_cons_zero, List.set_cons_succ, List.getElem_toArray, List.getElem_cons_succ, List.getElem_cons_zero]
  refine wpAnyH_take (i := 33) (v := opV ⟨2, 0, v, 0, 0, 0⟩) rfl (by kernel_rfl) (by kernel_rfl) (by kernel_rfl) (fun _ _ _ h => h) (Or.inl ⟨by kernel_rfl, ?_⟩) hH5 ?_
  · intro W hS
    exact run_load_row (by rfl) (by rfl) 24 _ (0, 0) _ hS.2.2.1.h Tryd.underlying24 rfl (szOp ⟨2, 0, v, 0, 0, 0⟩)
  simp only [Act.put, List.setIfInBounds_toArray, List.set_cons_zero, List.set_cons_succ]
  refine wpAnyH_take (i := 34) (v := inV ⟨32, 0, ⟨2, 0, v, 0, 0, 0⟩, ⟨0, 0, 0, 0, 0, 0⟩, false, 0⟩) rfl (by kernel_rfl) (by kernel_rfl) (by kernel_rfl) (fun _ _ _ h => h) (Or.inl ⟨by kernel_rfl, ?_⟩) hH5 ?_
  · intro W hS
    kernel_rfl
  simp only [Act.put, List.setIfInBounds_toArray, List.set_cons_zero, List.set_cons_succ]
  refine wpAnyH_ready (rs := [35]) (by kernel_rfl) (by simp) ?_
  refine AllReadyH.cons rfl (fun K hK => ?_) AllReadyH.nil
  go_simp
  with_reducible refine (q_y5.out _ tabs).mono ?_
  rintro e x5 ⟨rfl, bb⟩
  have hH6 := And.intro (hH5.1.below bb hH5.1.lt) (And.intro (hH5.2.1.below bb hH5.2.1.lt) (And.intro (hH5.2.2.1.below bb hH5.2.2.1.lt) (hH5.2.2.2.below bb hH5.2.2.2.lt)))
  replace tabs := tabs.below bb
  replace kb2 := kb2.trans (bb.mono hSB)
  replace hSB := Nat.le_trans hSB bb.size
  clear bb
  refine hK.out _ _ hH6 (fun _ => ?_)
  clear hK K
  try simp only [Act.put, List.setIfInBounds_toArray, List.set_cons_zero, List.set_cons_succ]
  refine wpAnyH_take (i := 36) (v := ?_) rfl (by kernel_rfl) (by kernel_rfl) (by kernel_rfl) (fun _ _ _ h => h) (Or.inl ⟨by kernel_rfl, ?_⟩) hH6 ?_
  rotate_left
  · intro W hS
    go_simp
    try rfl
  simp only [Act.put, List.setIfInBounds_toArray, List.set_cons_zero, List.set_cons_succ, List.getElem_toArray, List.getElem_cons_succ, List.getElem_cons_zero]
  refine wpAnyH_take (i := 37) (v := ?_) rfl (by kernel_rfl) (by kernel_rfl) (by kernel_rfl) (fun _ _ _ h => h) (Or.inl ⟨by kernel_rfl, ?_⟩) hH6 ?_
  rotate_left
  · intro W hS
    go_simp
    try rfl
  simp only [Act.put, List.setIfInBounds_toArray, List.set_cons_zero, List.set_cons_succ, List.getElem_toArray, List.getElem_cons_succ, List.getElem_cons_zero]
  refine wpAnyH_take (i := 38) (v := ?_) rfl (by kernel_rfl) (by kernel_rfl) (by kernel_rfl) (fun _ _ _ h => h) (Or.inl ⟨by kernel_rfl, ?_⟩) hH6 ?_
  rotate_left
  · intro W hS
    go_simp
    try rfl
  simp only [Act.put, List.setIfInBounds_toArray, List.set_cons_zero, List.set_cons_succ, List.getElem_toArray, List.getElem_cons_succ, List.getElem_cons_zero]
  refine wpAnyH_take (i := 39) (v := opV ⟨3, 0, v, rb, -1, 1⟩) rfl (by kernel_rfl) (by kernel_rfl) (by kernel_rfl) (fun _ _ _ h => h) (Or.inl ⟨by kernel_rfl, ?_⟩) hH6 ?_
  · intro W hS
    exact run_load_row (by rfl) (by rfl) 24 _ (0, 0) _ hS.2.2.2.h Tryd.underlying24 rfl (szOp ⟨3, 0, v, rb, -1, 1⟩)
  simp only [Act.put, List.setIfInBounds_toArray, List.set_cons_zero, List.set_cons_succ]
  refine wpAnyH_ready (rs := [40]) (by kernel_rfl) (by simp) ?_
  refine AllReadyH.cons rfl (fun K hK => ?_) AllReadyH.nil
  go_simp
  with_reducible refine (reg_any 1 _).mono ?_
  rintro e x6 ⟨rfl, bb⟩
  have hH7 := And.intro (hH6.1.below bb hH6.1.lt) (And.intro (hH6.2.1.below bb hH6.2.1.lt) (And.intro (hH6.2.2.1.below bb hH6.2.2.1.lt) (hH6.2.2.2.below bb hH6.2.2.2.lt)))
  replace tabs := tabs.below bb
  replace kb2 := kb2.trans (bb.mono hSB)
  replace hSB := Nat.le_trans hSB bb.size
  clear bb
  refine hK.out _ _ hH7 (fun _ => ?_)
  clear hK K
  try simp only [Act.put, List.setIfInBounds_toArray, List.set_cons_zero, List.set_cons_succ]
  refine wpAnyH_take (i := 41) (v := inV ⟨23, 0, ⟨3, 0, v, rb, -1, 1⟩, ⟨1, 1, 0, 0, 0, 0⟩, false, 0⟩) rfl (by kernel_rfl) (by kernel_rfl) (by kernel_rfl) (fun _ _ _ h => h) (Or.inl ⟨by kernel_rfl, ?_⟩) hH7 ?_
  · intro W hS
    kernel_rfl
  simp only [Act.put, List.setIfInBounds_toArray, List.set_cons_zero, List.set_cons_succ]
  refine wpAnyH_ready (rs := [42]) (by kernel_rfl) (by simp) ?_
  refine AllReadyH.cons rfl (fun K hK => ?_) AllReadyH.nil
  go_simp
  with_reducible refine (q_y6.out _ tabs).mono ?_
  rintro e x7 ⟨rfl, bb⟩
  have hH8 := And.intro (hH7.1.below bb hH7.1.lt) (And.intro (hH7.2.1.below bb hH7.2.1.lt) (And.intro (hH7.2.2.1.below bb hH7.2.2.1.lt) (hH7.2.2.2.below bb hH7.2.2.2.lt)))
  replace tabs := tabs.below bb
  replace kb2 := kb2.trans (bb.mono hSB)
  replace hSB := Nat.le_trans hSB bb.size
  clear bb
  refine hK.out _ _ hH8 (fun _ => ?_)
  clear hK K
  try simp only [Act.put, List.setIfInBounds_toArray, List.set_cons_zero, List.set_cons_succ]
  refine wpAnyH_take (i := 43) (v := ?_) rfl (by kernel_rfl) (by kernel_rfl) (by kernel_rfl) (fun _ _ _ h => h) (Or.inl ⟨by kernel_rfl, ?_⟩) hH8 ?_
  rotate_left
  · intro W hS
    go_simp
    try rfl
  simp only [Act.put, List.setIfInBounds_toArray, List.set_cons_zero, List.set_cons_succ, List.getElem_toArray, List.getElem_cons_succ, List.getElem_cons_zero]
  refine wpAnyH_take (i := 44) (v := ?_) rfl (by kernel_rfl) (by kernel_rfl) (by kernel_rfl) (fun _ _ _ h => h) (Or.inl ⟨by kernel_rfl, ?_⟩) hH8 ?_
  rotate_left
  · intro W hS
    go_simp
    try rfl
  simp only [Act.put, List.setIfInBounds_toArray, List.set_cons_zero, List.set_cons_succ, List.getElem_toArray, List.getElem_cons_succ, List.getElem_cons_zero]
  refine wpAnyH_done (by kernel_rfl) ?_ _
  obtain ⟨kR, kS, kN, kM⟩ := hH8
  have zz : ∀ o : On, (op6 o).size = 6 := fun o => rfl
  go_wp2_with (first | (with_reducible refine load_opG (by kernel_rfl) _ rfl p7 rfl (op6 ⟨1, ra, 0, 0, 0, 0⟩) (zz _) kR ?_) | (with_reducible refine load_opG (by kernel_rfl) _ rfl p8 rfl (op6 ⟨1, rb, 0, 0, 0, 0⟩) (zz _) kS ?_) | (with_reducible refine load_opG (by kernel_rfl) _ rfl p9 rfl (op6 ⟨2, 0, v, 0, 0, 0⟩) (zz _) kN ?_) | (with_reducible refine load_opG (by kernel_rfl) _ rfl p10 rfl (op6 ⟨3, 0, v, rb, -1, 1⟩) (zz _) kM ?_) | ((with_reducible refine (q_n0.out _ tabs).mono ?_); rintro e v9 ⟨rfl, bb⟩; replace kR := kR.below bb kR.lt; replace kS := kS.below bb kS.lt; replace kN := kN.below bb kN.lt; replace kM := kM.below bb kM.lt; replace tabs := tabs.below bb; replace kb2 := kb2.trans (bb.mono hSB); replace hSB := Nat.le_trans hSB bb.size; clear bb) | ((with_reducible refine (q_n1.out _ tabs).mono ?_); rintro e v9 ⟨rfl, bb⟩; replace kR := kR.below bb kR.lt; replace kS := kS.below bb kS.lt; replace kN := kN.below bb kN.lt; replace kM := kM.below bb kM.lt; replace tabs := tabs.below bb; replace kb2 := kb2.trans (bb.mono hSB); replace hSB := Nat.le_trans hSB bb.size; clear bb) | ((with_reducible refine (q_n2.out _ tabs).mono ?_); rintro e v9 ⟨rfl, bb⟩; replace kR := kR.below bb kR.lt; replace kS := kS.below bb kS.lt; replace kN := kN.below bb kN.lt; replace kM := kM.below bb kM.lt; replace tabs := tabs.below bb; replace kb2 := kb2.trans (bb.mono hSB); replace hSB := Nat.le_trans hSB bb.size; clear bb) | ((with_reducible refine (q_n3.out _ tabs).mono ?_); rintro e v9 ⟨rfl, bb⟩; replace kR := kR.below bb kR.lt; replace kS := kS.below bb kS.lt; replace kN := kN.below bb kN.lt; replace kM := kM.below bb kM.lt; replace tabs := tabs.below bb; replace kb2 := kb2.trans (bb.mono hSB); replace hSB := Nat.le_trans hSB bb.size; clear bb) | ((with_reducible refine (q_n4.out _ tabs).mono ?_); rintro e v9 ⟨rfl, bb⟩; replace kR := kR.below bb kR.lt; replace kS := kS.below bb kS.lt; replace kN := kN.below bb kN.lt; replace kM := kM.below bb kM.lt; replace tabs := tabs.below bb; replace kb2 := kb2.trans (bb.mono hSB); replace hSB := Nat.le_trans hSB bb.size; clear bb) | ((with_reducible refine (q_n5.out _ tabs).mono ?_); rintro e v9 ⟨rfl, bb⟩; replace kR := kR.below bb kR.lt; replace kS := kS.below bb kS.lt; replace kN := kN.below bb kN.lt; replace kM := kM.below bb kM.lt; replace tabs := tabs.below bb; replace kb2 := kb2.trans (bb.mono hSB); replace hSB := Nat.le_trans hSB bb.size; clear bb) | ((with_reducible refine (q_n6.out _ tabs).mono ?_); rintro e v9 ⟨rfl, bb⟩; replace kR := kR.below bb kR.lt; replace kS := kS.below bb kS.lt; replace kN := kN.below bb kN.lt; replace kM := kM.below bb kM.lt; replace tabs := tabs.below bb; replace kb2 := kb2.trans (bb.mono hSB); replace hSB := Nat.le_trans hSB bb.size; clear bb) | ((with_reducible refine (q_e0.out _ tabs).mono ?_); rintro e v9 ⟨rfl, bb⟩; replace kR := kR.below bb kR.lt; replace kS := kS.below bb kS.lt; replace kN := kN.below bb kN.lt; replace kM := kM.below bb kM.lt; replace tabs := tabs.below bb; replace kb2 := kb2.trans (bb.mono hSB); replace hSB := Nat.le_trans hSB bb.size; clear bb) | ((with_reducible refine (q_e1.out _ tabs).mono ?_); rintro e v9 ⟨rfl, bb⟩; replace kR := kR.below bb kR.lt; replace kS := kS.below bb kS.lt; replace kN := kN.below bb kN.lt; replace kM := kM.below bb kM.lt; replace tabs := tabs.below bb; replace kb2 := kb2.trans (bb.mono hSB); replace hSB := Nat.le_trans hSB bb.size; clear bb) | ((with_reducible refine (q_e2.out _ tabs).mono ?_); rintro e v9 ⟨rfl, bb⟩; replace kR := kR.below bb kR.lt; replace kS := kS.below bb kS.lt; replace kN := kN.below bb kN.lt; replace kM := kM.below bb kM.lt; replace tabs := tabs.below bb; replace kb2 := kb2.trans (bb.mono hSB); replace hSB := Nat.le_trans hSB bb.size; clear bb) | ((with_reducible refine (q_e3.out _ tabs).mono ?_); rintro e v9 ⟨rfl, bb⟩; replace kR := kR.below bb kR.lt; replace kS := kS.below bb kS.lt; replace kN := kN.below bb kN.lt; replace kM := kM.below bb kM.lt; replace tabs := tabs.below bb; replace kb2 := kb2.trans (bb.mono hSB); replace hSB := Nat.le_trans hSB bb.size; clear bb))
  go_ret
  exact ⟨rfl, hN ▸ kb2⟩
end Go.Proofs.YtobllhibicjbcaaDoor
