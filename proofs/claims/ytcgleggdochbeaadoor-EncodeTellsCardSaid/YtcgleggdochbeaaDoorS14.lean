import Derived.Test.YtcgleggdochbeaaDoorS13
import Derived.BigFrame
import Derived.Test.YtcgleggdochbeaaDoorS11
import Derived.Deep.CutRange
namespace Go.Proofs.YtcgleggdochbeaaDoor
open Go.RowKit
set_option maxHeartbeats 8000000
set_option linter.unusedVariables false
set_option linter.unusedSimpArgs false
set_option linter.unusedSectionVars false
theorem ix_rows (b k : Nat) (h : k < 21) (W : World) : (Instr.indexAt 61 (.pointer (some ⟨b, 0, none⟩)) (.int .i64 (k : Int))).run Tryd.prog W = .ok (.pointer (some ⟨b, k * 6, none⟩)) W := by
 have s1 : ∀ W, (sizeOf 60).run Tryd.prog W = .ok 6 W := fun W => by kernel_rfl
 have hj : (k : Int) < 21 := by omega
 simp [Instr.indexAt, run_underlying Tryd.underlying61, s1, go_sem, hj, h, Instr.sureAddr]
theorem Tabs.rangeRow {W : World} (h : Tabs W) (k : Nat) (hk : k < 21) : W.rangeAt 0 (k * 6) (rowA k).toList := by
 intro j v hj
 have hj6 : j < 6 := by
  have := (List.getElem?_eq_some_iff.1 hj).1
  simpa using this
 rw [h.row k hk j hj6]
 simpa using hj
theorem szRow (k : Nat) : (Tryd.prog.info? 60).map (·.size) = some (rowA k).size := by kernel_rfl
theorem szIn (i : In) : (Tryd.prog.info? 26).map (·.size) = some (in16 i).size := by kernel_rfl
theorem szOp (o : On) : (Tryd.prog.info? 24).map (·.size) = some (op6 o).size := by kernel_rfl
abbrev row0 : Array Value := #[.int .i64 0, .int .i64 0, .bool false, .bool false, .bool false, .int .i64 0]
theorem one_row (k : Nat) : (rowA k).all (·.oneCell') = true := by simp [rowA, Value.oneCell']
theorem store_row_as {ops : Array Oper} {rest : List Oper} {o : Oper} {a : Act} {w0 : World} {Q : Exit → Act → World → Prop} (hgd : o.guard = none) (x y : Operand) (ho : o.op = .store 60 x y)
  (k : Nat) (hx : a.eval x = .pointer (some ⟨w0.heap.size, 0, none⟩)) (hy : a.eval y = .agg (rowA k))
  (h : ∀ W, Blk W w0.heap.size 60 (rowA k) → Below w0.heap.size w0 W → RowKit.Hid (wpList Tryd.prog ops Q rest (a.put o.dst undef) W)) :
  wpList Tryd.prog ops Q (o :: rest) a (w0.alloc (.cells row0 60)) := by
 refine wpList_store_row hgd 60 x y ho w0.heap.size (rowA k) hx hy 60 row0 (alloc_new _ _) (szRow k) rfl (one_row k) ?_
 have kR := (Blk.new w0 60 row0).row (rowA k)
 exact h _ kR (below_rowNew ((Below.refl _ _).alloc (Nat.le_refl _) _) (Nat.le_refl _) _)
theorem load_rows {ops : Array Oper} {rest : List Oper} {o : Oper} {a : Act} {w : World} {Q : Exit → Act → World → Prop} (hgd : o.guard = none) (x : Operand) (ho : o.op = .load 60 x)
  (k : Nat) (hx : a.eval x = .pointer (some ⟨0, k * 6, none⟩)) (hR : w.rangeAt 0 (k * 6) (rowA k).toList)
  (h : wpList Tryd.prog ops Q rest (a.put o.dst (.agg (rowA k))) w) : wpList Tryd.prog ops Q (o :: rest) a w :=
 wpList_load_mid hgd 60 x ho 0 (k * 6) hx (rowA k).toList _ hR Tryd.underlying60 rfl (by kernel_rfl) (by simpa using h)
theorem Is_any (i : In) (w : World) (tabs : Tabs w) : Calls Tryd.prog 17 #[inV i] w fun e w' => e = .returned (.bool (isB i)) ∧ Below w.heap.size w w' := by
 have kb := (Below.refl w.heap.size w).alloc (Nat.le_refl _) (.cells (in16 i) 26)
 have kI := Blk.new w 26 (in16 i)
 have tabs2 := tabs.below kb
 have hrow := Lib.hid (fun W => rowOf_any i.op W)
 have hk := rowN_lt i.op
 have hR := Lib.hid (tabs2.rangeRow _ hk)
 unfold isB
 have hKn := Lib.hid (fun W => knows_any (rowN i.op) i.c W)
 have hTa := Lib.hid (fun W => takes_any (rowN i.op) i.A i.B W)
 generalize takesB (rowN i.op) (cA i.A) (cA i.B) = tk at *
 generalize knowsB (rowN i.op) i.c = kn at *
 have hix := ix_rows 0 _ hk
 generalize rowN i.op = k at *
 clear tabs hk tabs2
 go_enter Tryd.func17, Tryd.ntmps17
 go_wp2_with fail
 have hSB := kb.size
 generalize w.alloc (.cells (in16 i) 26) = w0 at *
 generalize hN : w.heap.size = N at *
 refine (hrow.out _).mono ?_
 rintro e w1 ⟨rfl, rfl⟩
 go_wp2_with (first | (with_reducible refine load_rows rfl _ rfl k rfl hR.out ?_) | ((with_reducible refine store_row_as rfl _ _ rfl k rfl rfl ?_); intro W kR bb))
 replace kb := kb.trans (bb.mono hSB)
 replace kI := kI.below bb kI.lt
 have hS1 := kb.size
 rw [hN] at hS1
 have d0 := kI.cell (i := 0) (v := .int .i64 i.op) rfl
 have d1 := kI.cell (i := 1) (v := .int .i64 i.c) rfl
 have d2 := kI.cell (i := 2) (v := .int .i64 i.A.k) rfl
 have d3 := kI.cell (i := 3) (v := .int .i64 i.A.r) rfl
 have d4 := kI.cell (i := 4) (v := .int .u32 i.A.m) rfl
 have d5 := kI.cell (i := 5) (v := .int .i64 i.A.b) rfl
 have d6 := kI.cell (i := 6) (v := .int .i64 i.A.x) rfl
 have d7 := kI.cell (i := 7) (v := .int .u32 i.A.s) rfl
 have d8 := kI.cell (i := 8) (v := .int .i64 i.B.k) rfl
 have d9 := kI.cell (i := 9) (v := .int .i64 i.B.r) rfl
 have d10 := kI.cell (i := 10) (v := .int .u32 i.B.m) rfl
 have d11 := kI.cell (i := 11) (v := .int .i64 i.B.b) rfl
 have d12 := kI.cell (i := 12) (v := .int .i64 i.B.x) rfl
 have d13 := kI.cell (i := 13) (v := .int .u32 i.B.s) rfl
 have d14 := kI.cell (i := 14) (v := .bool i.rep) rfl
 have d15 := kI.cell (i := 15) (v := .int .i64 i.len) rfl
 have r0 := kR.cell (i := 0) (v := .int .i64 (rA k)) rfl
 have r1 := kR.cell (i := 1) (v := .int .i64 (rB k)) rfl
 have r2 := kR.cell (i := 2) (v := .bool (rC k)) rfl
 have r3 := kR.cell (i := 3) (v := .bool (rR k)) rfl
 have r4 := kR.cell (i := 4) (v := .bool (rE k)) rfl
 have r5 := kR.cell (i := 5) (v := .int .i64 (rT k)) rfl
 replace kI := Lib.hid kI
 replace kR := Lib.hid kR
 clear bb hR hix hrow
 generalize w0.heap.size = M at *
 simp only [rowA] at hKn hTa kR
 generalize hq : rR k = q at *
 unfold RowKit.Hid
 cases q
 all_goals go_wp2_with (first | ((with_reducible refine (hKn.out _).mono ?_); rintro e w1 ⟨rfl, bb⟩; replace kb := kb.trans (bb.mono hS1); replace hS1 := Nat.le_trans hS1 bb.size; have kI1 := kI.out.below bb kI.out.lt; have kR1 := kR.out.below bb kR.out.lt; have e2 := kI1.cell (i := 2) (v := .int .i64 i.A.k) rfl; have e3 := kI1.cell (i := 3) (v := .int .i64 i.A.r) rfl; have e4 := kI1.cell (i := 4) (v := .int .u32 i.A.m) rfl; have e5 := kI1.cell (i := 5) (v := .int .i64 i.A.b) rfl; have e6 := kI1.cell (i := 6) (v := .int .i64 i.A.x) rfl; have e7 := kI1.cell (i := 7) (v := .int .u32 i.A.s) rfl; have e8 := kI1.cell (i := 8) (v := .int .i64 i.B.k) rfl; have e9 := kI1.cell (i := 9) (v := .int .i64 i.B.r) rfl; have e10 := kI1.cell (i := 10) (v := .int .u32 i.B.m) rfl; have e11 := kI1.cell (i := 11) (v := .int .i64 i.B.b) rfl; have e12 := kI1.cell (i := 12) (v := .int .i64 i.B.x) rfl; have e13 := kI1.cell (i := 13) (v := .int .u32 i.B.s) rfl; have s0 := kR1.cell (i := 0) (v := .int .i64 (rA k)) rfl; have s1 := kR1.cell (i := 1) (v := .int .i64 (rB k)) rfl; have s2 := kR1.cell (i := 2) (v := .bool (rC k)) rfl; have s3 := kR1.cell (i := 3) (v := .bool _) rfl; have s4 := kR1.cell (i := 4) (v := .bool (rE k)) rfl; have s5 := kR1.cell (i := 5) (v := .int .i64 (rT k)) rfl; clear kI1 kR1 bb) | ((with_reducible refine (hTa.out _).mono ?_); rintro e w2 ⟨rfl, bb⟩; replace kb := kb.trans (bb.mono hS1); clear bb))
 all_goals go_ret
 all_goals refine ⟨ret_bool ?_, hN ▸ kb⟩
 all_goals clear hKn hTa kR kI
 all_goals (first | (simp [*]; done) | (simp [*]; intros; omega))
end Go.Proofs.YtcgleggdochbeaaDoor
namespace Go.Proofs.YtcgleggdochbeaaDoor
open Go.RowKit
set_option linter.unusedVariables false
set_option linter.unusedSimpArgs false
theorem load_inG {ops : Array Oper} {rest : List Oper} {o : Oper} {a : Act} {w : World} {Q : Exit → Act → World → Prop} (hw : Region.wanted o (yielded ops a.tmps) = true) (x : Operand) (ho : o.op = .load 26 x)
  (N : Nat) (hx : a.eval x = .pointer (some ⟨N, 0, none⟩)) (cs : Array Value) (hz : cs.size = 16) (k : Blk w N 26 cs)
  (h : wpList Tryd.prog ops Q rest (a.put o.dst (.agg cs)) w) : wpList Tryd.prog ops Q (o :: rest) a w :=
 BigFrame.wpList_want hw fun K hK => wp_load_row 26 x ho N hx 26 cs (0, 0) _ k.h Tryd.underlying26 rfl ((szIn ⟨0, 0, onZ, onZ, false, 0⟩).trans (congrArg some hz.symm)) (hK _ _ h)
abbrev z16 : Array Value := #[.int .i64 0, .int .i64 0, .int .i64 0, .int .i64 0, .int .u32 0, .int .i64 0, .int .i64 0, .int .u32 0, .int .i64 0, .int .i64 0, .int .u32 0, .int .i64 0, .int .i64 0, .int .u32 0, .bool false, .int .i64 0]
abbrev z6 : Array Value := #[.int .i64 0, .int .i64 0, .int .u32 0, .int .i64 0, .int .i64 0, .int .u32 0]
theorem store_in_as {ops : Array Oper} {rest : List Oper} {o : Oper} {a : Act} {w0 : World} {Q : Exit → Act → World → Prop} (hgd : o.guard = none) (x y : Operand) (ho : o.op = .store 26 x y)
  (cs : Array Value) (hz : cs.size = 16) (h1 : cs.all (·.oneCell') = true) (hx : a.eval x = .pointer (some ⟨w0.heap.size, 0, none⟩)) (hy : a.eval y = .agg cs)
  (h : ∀ W, Blk W w0.heap.size 26 cs → Below w0.heap.size w0 W → wpList Tryd.prog ops Q rest (a.put o.dst undef) W) :
  wpList Tryd.prog ops Q (o :: rest) a (w0.alloc (.cells z16 26)) := by
 refine wpList_store_row hgd 26 x y ho w0.heap.size cs hx hy 26 z16 (alloc_new _ _) ((szIn ⟨0, 0, onZ, onZ, false, 0⟩).trans (congrArg some hz.symm)) hz.symm h1 ?_
 exact h _ ((Blk.new w0 26 z16).row cs) (below_rowNew ((Below.refl _ _).alloc (Nat.le_refl _) _) (Nat.le_refl _) _)
theorem store_op_as {ops : Array Oper} {rest : List Oper} {o : Oper} {a : Act} {w0 : World} {Q : Exit → Act → World → Prop} (hgd : o.guard = none) (x y : Operand) (ho : o.op = .store 24 x y)
  (cs : Array Value) (hz : cs.size = 6) (h1 : cs.all (·.oneCell') = true) (hx : a.eval x = .pointer (some ⟨w0.heap.size, 0, none⟩)) (hy : a.eval y = .agg cs)
  (h : ∀ W, Blk W w0.heap.size 24 cs → Below w0.heap.size w0 W → wpList Tryd.prog ops Q rest (a.put o.dst undef) W) :
  wpList Tryd.prog ops Q (o :: rest) a (w0.alloc (.cells z6 24)) := by
 refine wpList_store_row hgd 24 x y ho w0.heap.size cs hx hy 24 z6 (alloc_new _ _) ((szOp onZ).trans (congrArg some hz.symm)) hz.symm h1 ?_
 exact h _ ((Blk.new w0 24 z6).row cs) (below_rowNew ((Below.refl _ _).alloc (Nat.le_refl _) _) (Nat.le_refl _) _)
end Go.Proofs.YtcgleggdochbeaaDoor
namespace Go.Proofs.YtcgleggdochbeaaDoor
open Go.RowKit
set_option maxRecDepth 100000
set_option linter.unusedVariables false
set_option linter.unusedSimpArgs false
set_option linter.unusedSectionVars false
theorem load_opR {ops : Array Oper} {rest : List Oper} {o : Oper} {a : Act} {w : World} {Q : Exit → Act → World → Prop} (hgd : o.guard = none) (x : Operand) (ho : o.op = .load 24 x)
  (K : Nat) (cs : Array Value) (hx : a.eval x = .pointer (some ⟨K, 0, none⟩)) (k : Blk w K 24 cs) (hz : cs.size = 6)
  (h : wpList Tryd.prog ops Q rest (a.put o.dst (.agg cs)) w) : wpList Tryd.prog ops Q (o :: rest) a w :=
 wpList_load_row hgd 24 x ho K hx 24 cs (0, 0) _ k.h Tryd.underlying24 rfl ((szOp onZ).trans (congrArg some hz.symm)) h
theorem store_opR {ops : Array Oper} {rest : List Oper} {o : Oper} {a : Act} {w : World} {Q : Exit → Act → World → Prop} (hgd : o.guard = none) (x y : Operand) (ho : o.op = .store 24 x y)
  (K : Nat) (cs old : Array Value) (hx : a.eval x = .pointer (some ⟨K, 0, none⟩)) (hy : a.eval y = .agg cs) (k : Blk w K 24 old) (hz : cs.size = 6) (hz2 : old.size = 6) (h1 : cs.all (·.oneCell') = true)
  (h : ∀ W, Blk W K 24 cs → But [K] w.heap.size w W → W.heap.size = w.heap.size → wpList Tryd.prog ops Q rest (a.put o.dst undef) W) :
  wpList Tryd.prog ops Q (o :: rest) a w := by
 refine wpList_store_row hgd 24 x y ho K cs hx hy 24 old k.h ((szOp onZ).trans (congrArg some hz.symm)) (hz2.trans hz.symm) h1 ?_
 exact h _ (k.row cs) ((But.refl _ _ _).setRow (by simp) cs) (by simp [World.setRow])
theorem load_inR {ops : Array Oper} {rest : List Oper} {o : Oper} {a : Act} {w : World} {Q : Exit → Act → World → Prop} (hgd : o.guard = none) (x : Operand) (ho : o.op = .load 26 x)
  (K : Nat) (cs : Array Value) (hx : a.eval x = .pointer (some ⟨K, 0, none⟩)) (k : Blk w K 26 cs) (hz : cs.size = 16)
  (h : wpList Tryd.prog ops Q rest (a.put o.dst (.agg cs)) w) : wpList Tryd.prog ops Q (o :: rest) a w :=
 wpList_load_row hgd 26 x ho K hx 26 cs (0, 0) _ k.h Tryd.underlying26 rfl ((szIn ⟨0, 0, onZ, onZ, false, 0⟩).trans (congrArg some hz.symm)) h
theorem store_inR {ops : Array Oper} {rest : List Oper} {o : Oper} {a : Act} {w : World} {Q : Exit → Act → World → Prop} (hgd : o.guard = none) (x y : Operand) (ho : o.op = .store 26 x y)
  (K : Nat) (cs old : Array Value) (hx : a.eval x = .pointer (some ⟨K, 0, none⟩)) (hy : a.eval y = .agg cs) (k : Blk w K 26 old) (hz : cs.size = 16) (hz2 : old.size = 16) (h1 : cs.all (·.oneCell') = true)
  (h : ∀ W, Blk W K 26 cs → But [K] w.heap.size w W → W.heap.size = w.heap.size → wpList Tryd.prog ops Q rest (a.put o.dst undef) W) :
  wpList Tryd.prog ops Q (o :: rest) a w := by
 refine wpList_store_row hgd 26 x y ho K cs hx hy 26 old k.h ((szIn ⟨0, 0, onZ, onZ, false, 0⟩).trans (congrArg some hz.symm)) (hz2.trans hz.symm) h1 ?_
 exact h _ (k.row cs) ((But.refl _ _ _).setRow (by simp) cs) (by simp [World.setRow])
theorem z6_size : z6.size = 6 := rfl
theorem z16_size : z16.size = 16 := rfl
theorem op6_size (o : On) : (op6 o).size = 6 := rfl
theorem op6_one (o : On) : (op6 o).all (·.oneCell') = true := by simp [Value.oneCell']
theorem in16_size (i : In) : (in16 i).size = 16 := rfl
theorem in16_one (i : In) : (in16 i).all (·.oneCell') = true := by simp [Value.oneCell']
theorem Blk.setB {W : World} {K : Nat} {t : TypeId} {o : On} (k : Blk W K t (op6 o)) (v : Int) : Blk (W.setCell ⟨K, 3, none⟩ (.int .i64 v)) K t (op6 { o with b := v }) := k.set 3 (.int .i64 v)
theorem Blk.setX {W : World} {K : Nat} {t : TypeId} {o : On} (k : Blk W K t (op6 o)) (v : Int) : Blk (W.setCell ⟨K, 4, none⟩ (.int .i64 v)) K t (op6 { o with x := v }) := k.set 4 (.int .i64 v)
theorem Blk.setS {W : World} {K : Nat} {t : TypeId} {o : On} (k : Blk W K t (op6 o)) (v : Int) : Blk (W.setCell ⟨K, 5, none⟩ (.int .u32 v)) K t (op6 { o with s := v }) := k.set 5 (.int .u32 v)
theorem Blk.setM {W : World} {K : Nat} {t : TypeId} {o : On} (k : Blk W K t (op6 o)) (v : Int) : Blk (W.setCell ⟨K, 2, none⟩ (.int .u32 v)) K t (op6 { o with m := v }) := k.set 2 (.int .u32 v)
theorem But.cell1 (W : World) (K i : Nat) (v : Value) : But [K] W.heap.size W (W.setCell ⟨K, i, none⟩ v) := (But.refl _ _ _).setCell (by simp) _
structure PF (w W : World) (N B : Nat) (a : Option Addr) (len cap : Nat) (zs : List Int) (p : Nat) (c m : Int) (t : TypeId) (cs : Array Value) : Prop where
 r : Rd W N B a len cap zs p c m
 k : But [B] w.heap.size w W
 z : Blk W w.heap.size t cs
 hB : B < w.heap.size
section
variable {w W W' : World} {N B : Nat} {a : Option Addr} {len cap : Nat} {zs : List Int} {p : Nat} {c m : Int} {t : TypeId} {cs : Array Value}
theorem PF.start (R : Rd w N B a len cap zs p c m) (t : TypeId) (cs : Array Value) : PF w (w.alloc (.cells cs t)) N B a len cap zs p c m t cs :=
 ⟨R.alloc _, (But.refl _ _ _).alloc (Nat.le_refl _) _, Blk.new _ _ _, R.lt⟩
theorem PF.drew (h : PF w W N B a len cap zs p c m t cs) : PF w W.drew N B a len cap zs p c m t cs := ⟨h.r.drew, h.k.drew, h.z.drew, h.hB⟩
theorem PF.lt (h : PF w W N B a len cap zs p c m t cs) : w.heap.size < W.heap.size := h.z.lt
theorem PF.cell (h : PF w W N B a len cap zs p c m t cs) {K : Nat} (hK : w.heap.size < K) (i : Nat) (v : Value) : PF w (W.setCell ⟨K, i, none⟩ v) N B a len cap zs p c m t cs :=
 ⟨h.r.other (by have := h.hB; have := h.r.nb; omega) (by have := h.hB; omega), h.k.trans ((But.cell1 W K i v).mono h.k.size (by simp; omega)), h.z.other i v (by omega), h.hB⟩
theorem PF.read (h : PF w W N B a len cap zs p c m t cs) {q : Nat} {d e : Int} (R : Rd W' N B a len cap zs q d e) (k : But [B] W.heap.size W W') : PF w W' N B a len cap zs q d e t cs :=
 ⟨R, h.k.trans (k.mono h.k.size (fun _ h => .inl h)), h.z.but k h.lt (by have := h.hB; simp; omega), h.hB⟩
theorem PF.but (h : PF w W N B a len cap zs p c m t cs) {S : List Nat} (k : But S W.heap.size W W') (hS : ∀ x, x ∈ S → w.heap.size < x) : PF w W' N B a len cap zs p c m t cs :=
 ⟨h.r.but k h.r.lt (fun hm => by have := hS _ hm; have := h.hB; omega) (fun x hx => by have := hS _ hx; have := h.hB; have := h.r.nb; omega), h.k.trans (k.mono h.k.size (fun x hx => .inr (by have := hS _ hx; omega))), h.z.but k h.lt (fun hm => by have := hS _ hm; omega), h.hB⟩
theorem PF.below (h : PF w W N B a len cap zs p c m t cs) (k : Below W.heap.size W W') : PF w W' N B a len cap zs p c m t cs := h.but (But.of k []) (by simp)
theorem PF.done (h : PF w W N B a len cap zs p c m t cs) {cs' : Array Value} (z : Blk W' w.heap.size t cs') (k : But [w.heap.size] W.heap.size W W') : PF w W' N B a len cap zs p c m t cs' :=
 ⟨h.r.but k h.r.lt (by have := h.hB; simp; omega) (by have := h.hB; have := h.r.nb; simp; omega), h.k.trans (k.mono h.k.size (by simp)), z, h.hB⟩
end
section
variable {w : World} {N B : Nat} {a : Option Addr} {len cap : Nat} {zs : List Int} {p : Nat} {c m : Int}
theorem place_reg (R : Rd w N B a len cap zs p c m) (h : m / 64 % 4 = 3) :
  Calls Tryd.prog 98 #[rp B] w fun e w' => e = .returned (opV (onReg (m % 8))) ∧ Rd w' N B a len cap zs p c m ∧ But [B] w.heap.size w w' := by
 have hH := fun w => highest_any m R.mb w
 have hL := fun w => lowest3_any m R.mb w
 have F := PF.start R 24 z6
 have hB := R.lt
 have hR := fun w => register_any (m % 8) w
 generalize m % 8 = rm at *
 generalize m / 64 % 4 = how at *
 subst h
 go_enter Tryd.func98, Tryd.ntmps98
 go_wp2_with fail
 generalize w.alloc (.cells z6 24) = w1 at *
 refine wp_region_held_drew (S := fun W => PF w W N B a len cap zs p c m 24 z6) (by kernel_rfl) F.drew (fun hHeld => ?_)
 refine tk 0 ?_ ?_ hHeld ?_
 rotate_left
 ·intro W hS
  go_simp
  try rfl
 simp only [pT]
 refine tk 1 ?_ ?_ hHeld ?_
 rotate_left
 ·intro W hS
  go_simp
  try rfl
 simp only [pT]
 refine tk 2 ?_ ?_ hHeld ?_
 rotate_left
 ·intro W hS
  go_simp
  try rfl
 simp only [pT]
 refine tk 3 ?_ ?_ hHeld ?_
 rotate_left
 ·intro W hS
  have c3 := hS.r.c3
  go_simp
  try rfl
 simp only [pT]
 refine tk 5 ?_ ?_ hHeld ?_
 rotate_left
 ·intro W hS
  go_simp
  try rfl
 simp only [pT]
 refine tk 6 ?_ ?_ hHeld ?_
 rotate_left
 ·intro W hS
  go_simp
  try rfl
 simp only [pT]
 refine tk 7 ?_ ?_ hHeld ?_
 rotate_left
 ·intro W hS
  go_simp
  try rfl
 simp only [pT]
 refine tk 8 ?_ ?_ hHeld ?_
 rotate_left
 ·intro W hS
  have c3 := hS.r.c3
  go_simp
  try rfl
 simp only [pT]
 refine rd 4 (fun K hK => ?_)
 go_simp
 with_reducible refine (hH _).mono ?_
 rintro e w2 ⟨rfl, rfl⟩
 refine hK.out _ _ hHeld (fun _ => ?_)
 clear hK K
 try simp only [pS]
 refine rd 9 (fun K hK => ?_)
 go_simp
 with_reducible refine (hL _).mono ?_
 rintro e w2 ⟨rfl, rfl⟩
 refine hK.out _ _ hHeld (fun _ => ?_)
 clear hK K
 try simp only [pS]
 refine tk 10 ?_ ?_ hHeld ?_
 rotate_left
 ·intro W hS
  go_simp
  try rfl
 simp only [pT]
 refine tk 11 ?_ ?_ hHeld ?_
 rotate_left
 ·intro W hS
  go_simp
  try rfl
 simp only [pT]
 refine wpAnyH_done (by kernel_rfl) ?_ _
 generalize w1.drew = w2 at *
 go_wp2_with (first | ((with_reducible refine (hR _).mono ?_); rintro e w3 ⟨rfl, k3⟩; have F1 := hHeld.below k3) | ((with_reducible refine store_opR rfl _ _ rfl w.heap.size (op6 (onReg rm)) z6 rfl rfl F1.z (op6_size _) z6_size (op6_one _) ?_); intro W4 z4 k4 s4; have F2 := F1.done z4 k4))
 exact bodyPost_ret (v := opV (onReg rm)) (results_cell_row rfl _ _ w.heap.size 24 _ (0, 0) _ rfl F2.z.h Tryd.underlying24 rfl (szOp onZ)) rfl ⟨rfl, F2.r, F2.k⟩
end
end Go.Proofs.YtcgleggdochbeaaDoor
