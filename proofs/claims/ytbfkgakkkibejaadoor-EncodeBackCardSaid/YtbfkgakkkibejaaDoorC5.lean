/- Whether it is an instruction; what it ends, touches, writes, asks for. -/
import Derived.Test.YtbfkgakkkibejaaDoorC4
namespace Go.Proofs.YtbfkgakkkibejaaDoor
open Go.RowKit
set_option linter.unusedVariables false
set_option linter.unusedSimpArgs false
set_option linter.unusedSectionVars false

theorem ix_rows (b k : Nat) (h : k < 21) (W : World) : (Instr.indexAt 61 (.pointer (some ⟨b, 0, none⟩)) (.int .i64 (k : Int))).run Tryd.prog W = .ok (.pointer (some ⟨b, k * 6, none⟩)) W := by
  have s1 : ∀ W, (sizeOf 60).run Tryd.prog W = .ok 6 W := fun W => by kernel_rfl
  have hj : (k : Int) < 21 := by omega
  simp [Instr.indexAt, run_underlying Tryd.underlying61, s1, go_sem, hj, h, Instr.sureAddr]
theorem Tabs.rangeRow {W : World} (h : Tabs W) (k : Nat) (hk : k < 21) : W.rangeAt 0 (k * 6) (rowA k).toList := by
  intro j v hj
  have hj6 : j < 6 := by
    have := (List.getElem?_eq_some_iff.1 hj).1
    simpa using this
  rw [h.row k hk j hj6]
  simpa using hj
theorem szRow (k : Nat) : (Tryd.prog.info? 60).map (·.size) = some (rowA k).size := by kernel_rfl
theorem szIn (i : In) : (Tryd.prog.info? 26).map (·.size) = some (in16 i).size := by kernel_rfl
theorem szOp (o : On) : (Tryd.prog.info? 24).map (·.size) = some (op6 o).size := by kernel_rfl
abbrev row0 : Array Value := #[.int .i64 0, .int .i64 0, .bool false, .bool false, .bool false, .int .i64 0]
theorem one_row (k : Nat) : (rowA k).all (·.oneCell') = true := by simp [rowA, Value.oneCell']
theorem store_row_as {ops : Array Oper} {rest : List Oper} {o : Oper} {a : Act} {w0 : World} {Q : Exit → Act → World → Prop} (hgd : o.guard = none) (x y : Operand) (ho : o.op = .store 60 x y)
    (k : Nat) (hx : a.eval x = .pointer (some ⟨w0.heap.size, 0, none⟩)) (hy : a.eval y = .agg (rowA k))
    (h : ∀ W, Blk W w0.heap.size 60 (rowA k) → Below w0.heap.size w0 W → RowKit.Hid (wpList Tryd.prog ops Q rest (a.put o.dst undef) W)) :
    wpList Tryd.prog ops Q (o :: rest) a (w0.alloc (.cells row0 60)) := by
  refine wpList_store_row hgd 60 x y ho w0.heap.size (rowA k) hx hy 60 row0 (alloc_new _ _) (szRow k) rfl (one_row k) ?_
  have kR := (Blk.new w0 60 row0).row (rowA k)
  exact h _ kR (below_rowNew ((Below.refl _ _).alloc (Nat.le_refl _) _) (Nat.le_refl _) _)
theorem load_rows {ops : Array Oper} {rest : List Oper} {o : Oper} {a : Act} {w : World} {Q : Exit → Act → World → Prop} (hgd : o.guard = none) (x : Operand) (ho : o.op = .load 60 x)
    (k : Nat) (hx : a.eval x = .pointer (some ⟨0, k * 6, none⟩)) (hR : w.rangeAt 0 (k * 6) (rowA k).toList)
    (h : wpList Tryd.prog ops Q rest (a.put o.dst (.agg (rowA k))) w) : wpList Tryd.prog ops Q (o :: rest) a w :=
  wpList_load_mid hgd 60 x ho 0 (k * 6) hx (rowA k).toList _ hR Tryd.underlying60 rfl (by kernel_rfl) (by simpa using h)
set_option maxHeartbeats 2000000 in
theorem Is_any (i : In) (w : World) (tabs : Tabs w) : Calls Tryd.prog 17 #[inV i] w fun e w' => e = .returned (.bool (isB i)) ∧ Below w.heap.size w w' := by
  have kb := (Below.refl w.heap.size w).alloc (Nat.le_refl _) (.cells (in16 i) 26)
  have kI := Blk.new w 26 (in16 i)
  have tabs2 := tabs.below kb
  have hrow := Lib.hid (fun W => rowOf_any i.op W)
  have hk := rowN_lt i.op
  have hR := Lib.hid (tabs2.rangeRow _ hk)
  unfold isB
  have hKn := Lib.hid (fun W => knows_any (rowN i.op) i.c W)
  have hTa := Lib.hid (fun W => takes_any (rowN i.op) i.A i.B W)
  generalize takesB (rowN i.op) (cA i.A) (cA i.B) = tk at *
  generalize knowsB (rowN i.op) i.c = kn at *
  have hix := ix_rows 0 _ hk
  generalize rowN i.op = k at *
  clear tabs hk tabs2
  go_enter Tryd.func17, Tryd.ntmps17
  go_wp2_with fail
  have hSB := kb.size
  generalize w.alloc (.cells (in16 i) 26) = w0 at *
  generalize hN : w.heap.size = N at *
  refine (hrow.out _).mono ?_
  rintro e w1 ⟨rfl, rfl⟩
  go_wp2_with (first | (with_reducible refine load_rows rfl _ rfl k rfl hR.out ?_) | ((with_reducible refine store_row_as rfl _ _ rfl k rfl rfl ?_); intro W kR bb))
  replace kb := kb.trans (bb.mono hSB)
  replace kI := kI.below bb kI.lt
  have hS1 := kb.size
  rw [hN] at hS1
  have d0 := kI.cell (i := 0) (v := .int .i64 i.op) rfl
  have d1 := kI.cell (i := 1) (v := .int .i64 i.c) rfl
  have d2 := kI.cell (i := 2) (v := .int .i64 i.A.k) rfl
  have d3 := kI.cell (i := 3) (v := .int .i64 i.A.r) rfl
  have d4 := kI.cell (i := 4) (v := .int .u32 i.A.m) rfl
  have d5 := kI.cell (i := 5) (v := .int .i64 i.A.b) rfl
  have d6 := kI.cell (i := 6) (v := .int .i64 i.A.x) rfl
  have d7 := kI.cell (i := 7) (v := .int .u32 i.A.s) rfl
  have d8 := kI.cell (i := 8) (v := .int .i64 i.B.k) rfl
  have d9 := kI.cell (i := 9) (v := .int .i64 i.B.r) rfl
  have d10 := kI.cell (i := 10) (v := .int .u32 i.B.m) rfl
  have d11 := kI.cell (i := 11) (v := .int .i64 i.B.b) rfl
  have d12 := kI.cell (i := 12) (v := .int .i64 i.B.x) rfl
  have d13 := kI.cell (i := 13) (v := .int .u32 i.B.s) rfl
  have d14 := kI.cell (i := 14) (v := .bool i.rep) rfl
  have d15 := kI.cell (i := 15) (v := .int .i64 i.len) rfl
  have r0 := kR.cell (i := 0) (v := .int .i64 (rA k)) rfl
  have r1 := kR.cell (i := 1) (v := .int .i64 (rB k)) rfl
  have r2 := kR.cell (i := 2) (v := .bool (rC k)) rfl
  have r3 := kR.cell (i := 3) (v := .bool (rR k)) rfl
  have r4 := kR.cell (i := 4) (v := .bool (rE k)) rfl
  have r5 := kR.cell (i := 5) (v := .int .i64 (rT k)) rfl
  replace kI := Lib.hid kI
  replace kR := Lib.hid kR
  clear bb hR hix hrow
  generalize w0.heap.size = M at *
  simp only [rowA] at hKn hTa kR
  generalize hq : rR k = q at *
  unfold RowKit.Hid
  cases q
  all_goals go_wp2_with (first | ((with_reducible refine (hKn.out _).mono ?_); rintro e w1 ⟨rfl, bb⟩; replace kb := kb.trans (bb.mono hS1); replace hS1 := Nat.le_trans hS1 bb.size; have kI1 := kI.out.below bb kI.out.lt; have kR1 := kR.out.below bb kR.out.lt; have e2 := kI1.cell (i := 2) (v := .int .i64 i.A.k) rfl; have e3 := kI1.cell (i := 3) (v := .int .i64 i.A.r) rfl; have e4 := kI1.cell (i := 4) (v := .int .u32 i.A.m) rfl; have e5 := kI1.cell (i := 5) (v := .int .i64 i.A.b) rfl; have e6 := kI1.cell (i := 6) (v := .int .i64 i.A.x) rfl; have e7 := kI1.cell (i := 7) (v := .int .u32 i.A.s) rfl; have e8 := kI1.cell (i := 8) (v := .int .i64 i.B.k) rfl; have e9 := kI1.cell (i := 9) (v := .int .i64 i.B.r) rfl; have e10 := kI1.cell (i := 10) (v := .int .u32 i.B.m) rfl; have e11 := kI1.cell (i := 11) (v := .int .i64 i.B.b) rfl; have e12 := kI1.cell (i := 12) (v := .int .i64 i.B.x) rfl; have e13 := kI1.cell (i := 13) (v := .int .u32 i.B.s) rfl; have s0 := kR1.cell (i := 0) (v := .int .i64 (rA k)) rfl; have s1 := kR1.cell (i := 1) (v := .int .i64 (rB k)) rfl; have s2 := kR1.cell (i := 2) (v := .bool (rC k)) rfl; have s3 := kR1.cell (i := 3) (v := .bool _) rfl; have s4 := kR1.cell (i := 4) (v := .bool (rE k)) rfl; have s5 := kR1.cell (i := 5) (v := .int .i64 (rT k)) rfl; clear kI1 kR1 bb) | ((with_reducible refine (hTa.out _).mono ?_); rintro e w2 ⟨rfl, bb⟩; replace kb := kb.trans (bb.mono hS1); clear bb))
  all_goals go_ret
  all_goals refine ⟨ret_bool ?_, hN ▸ kb⟩
  all_goals clear hKn hTa kR kI
  all_goals (first | (simp [*]; done) | (simp [*]; intros; omega))
end Go.Proofs.YtbfkgakkkibejaaDoor
