/- A row tried: the laws for its instruction. -/
import Derived.Test.YtbfkgakkkibejaaDoorP9
import Derived.Deep.MidRow
namespace Go.Proofs.YtbfkgakkkibejaaDoor
open Go.RowKit
set_option linter.unusedVariables false
set_option linter.unusedSimpArgs false
set_option linter.unusedSectionVars false

theorem Blk.there {W : World} {K : Nat} {t : TypeId} {cs : Array Value} (k : Blk W K t cs) (o n : Nat) (h : o + n ≤ cs.size) : W.there K o n := by
  intro i hi
  refine ⟨?_, k.fr _⟩
  rw [k.cell (v := cs[o + i]'(by omega)) (by simp)]
  rfl
theorem store_opA {ops : Array Oper} {rest : List Oper} {op : Oper} {a : Act} {w : World} {Q : Exit → Act → World → Prop} (hgd : op.guard = none) (x y : Operand) (ho : op.op = .store 24 x y)
    (K : Nat) (i : In) (o : On) (hx : a.eval x = .pointer (some ⟨K, 2, none⟩)) (hy : a.eval y = opV o) (k : Blk w K 26 (in16 i))
    (h : ∀ W, Blk W K 26 (in16 { i with A := o }) → But [K] w.heap.size w W → W.heap.size = w.heap.size → wpList Tryd.prog ops Q rest (a.put op.dst undef) W) :
    wpList Tryd.prog ops Q (op :: rest) a w := by
  refine wpList_store_mid hgd 24 x y ho K 2 (op6 o) hx hy (k.there 2 6 (by simp)) (szOp o) (op6_one o) ?_
  refine h _ ((((((k.set 2 (.int .i64 o.k)).set 3 (.int .i64 o.r)).set 4 (.int .u32 o.m)).set 5 (.int .i64 o.b)).set 6 (.int .i64 o.x)).set 7 (.int .u32 o.s)) ?_ ?_
  · exact ((((((But.refl [K] w.heap.size w).setCell (p := ⟨K, 2, none⟩) (by simp) _).setCell (p := ⟨K, 3, none⟩) (by simp) _).setCell (p := ⟨K, 4, none⟩) (by simp) _).setCell (p := ⟨K, 5, none⟩) (by simp) _).setCell (p := ⟨K, 6, none⟩) (by simp) _).setCell (p := ⟨K, 7, none⟩) (by simp) _
  · simp [World.setCells, World.setCell]
theorem store_opB {ops : Array Oper} {rest : List Oper} {op : Oper} {a : Act} {w : World} {Q : Exit → Act → World → Prop} (hgd : op.guard = none) (x y : Operand) (ho : op.op = .store 24 x y)
    (K : Nat) (i : In) (o : On) (hx : a.eval x = .pointer (some ⟨K, 8, none⟩)) (hy : a.eval y = opV o) (k : Blk w K 26 (in16 i))
    (h : ∀ W, Blk W K 26 (in16 { i with B := o }) → But [K] w.heap.size w W → W.heap.size = w.heap.size → wpList Tryd.prog ops Q rest (a.put op.dst undef) W) :
    wpList Tryd.prog ops Q (op :: rest) a w := by
  refine wpList_store_mid hgd 24 x y ho K 8 (op6 o) hx hy (k.there 8 6 (by simp)) (szOp o) (op6_one o) ?_
  refine h _ ((((((k.set 8 (.int .i64 o.k)).set 9 (.int .i64 o.r)).set 10 (.int .u32 o.m)).set 11 (.int .i64 o.b)).set 12 (.int .i64 o.x)).set 13 (.int .u32 o.s)) ?_ ?_
  · exact ((((((But.refl [K] w.heap.size w).setCell (p := ⟨K, 8, none⟩) (by simp) _).setCell (p := ⟨K, 9, none⟩) (by simp) _).setCell (p := ⟨K, 10, none⟩) (by simp) _).setCell (p := ⟨K, 11, none⟩) (by simp) _).setCell (p := ⟨K, 12, none⟩) (by simp) _).setCell (p := ⟨K, 13, none⟩) (by simp) _
  · simp [World.setCells, World.setCell]
/-- A store of one cell into the instruction: its condition, whether it is repeated, its length. -/
theorem store_cell {ops : Array Oper} {rest : List Oper} {op : Oper} {a : Act} {w : World} {Q : Exit → Act → World → Prop} (hgd : op.guard = none) (ty : TypeId) (x y : Operand) (ho : op.op = .store ty x y)
    (hs : (Tryd.prog.info? ty).map (·.size) = some 1)
    (K : Nat) (t : TypeId) (cs cs' : Array Value) (j : Nat) (v : Value) (hx : a.eval x = .pointer (some ⟨K, j, none⟩)) (hy : a.eval y = v) (k : Blk w K t cs) (hj : j < cs.size) (hv : v.cells = #[v]) (h1 : v.oneCell' = true) (hcs : cs.setIfInBounds j v = cs')
    (h : ∀ W, Blk W K t cs' → But [K] w.heap.size w W → W.heap.size = w.heap.size → wpList Tryd.prog ops Q rest (a.put op.dst undef) W) :
    wpList Tryd.prog ops Q (op :: rest) a w := by
  refine wpList_plain hgd fun _ hK => ?_
  have ht := k.there j 1 (by omega)
  have hst := run_storeCells_cells (P := Tryd.prog) K j [v] 0 w (fun i hi => by simpa using (ht i (by simpa using hi)).1) (fun i hi => by simpa using (ht i (by simpa using hi)).2) (fun u hu => by simp at hu; subst hu; exact h1)
  have hst2 : (storeVar ty ⟨K, j, none⟩ v).run Tryd.prog w = .ok () (w.setCell ⟨K, j, none⟩ v) := by
    cases hq : Tryd.prog.info? ty with
    | none => simp [hq] at hs
    | some inf =>
      have hz : inf.size = 1 := by simpa [hq] using hs
      simp only [Nat.add_zero] at hst
      have hv2 : v.cells.toList = [v] := by rw [hv]
      have hv3 : v.cells.size = 1 := by rw [hv]; rfl
      simp [storeVar, sizeOf, typeInfo, hq, hz, hv, hv2, hv3, hst, World.setCells]
  unfold Oper.wp execOp
  simp only [ho, hx, hy, Instr.storeAt, Instr.sureAddr, Sem.run_bind, Sem.run_pure, Result.andThen_ok, hst2]
  exact hK _ _ (h _ (hcs ▸ k.set j v) (But.cell1 _ _ _ _) (by simp [World.setCell]))
abbrev rdV (a : Option Addr) (len cap p : Nat) (c m : Int) : Value := .agg #[.slice a len cap, .int .i64 p, .int .u32 c, .int .u32 m]
/-- A reader as a value. -/
structure Rv (w : World) (N : Nat) (a : Option Addr) (len cap : Nat) (zs : List Int) (p : Nat) (c m : Int) : Prop where
  row : RowN w N a len zs
  nb : N ≤ w.heap.size
  lc : len ≤ cap
  cm : cap ≤ 9223372036854775807
  pl : p ≤ len
  mb : 0 ≤ m ∧ m ≤ 4294967295
  cb : 0 ≤ c ∧ c ≤ 4294967295
abbrev zI (op : Int) : Array Value := #[.int .i64 op, .int .i64 0, .int .i64 0, .int .i64 0, .int .u32 0, .int .i64 0, .int .i64 0, .int .u32 0, .int .i64 0, .int .i64 0, .int .u32 0, .int .i64 0, .int .i64 0, .int .u32 0, .bool false, .int .i64 0]
theorem zI_size (op : Int) : (zI op).size = 16 := rfl
theorem zI_one (op : Int) : (zI op).all (·.oneCell') = true := by simp [Value.oneCell']
theorem zI_in (op : Int) : zI op = in16 ⟨op, 0, onZ, onZ, false, 0⟩ := rfl
theorem szRw (r : Rw) : (Tryd.prog.info? 101).map (·.size) = some (rw5 r).size := by kernel_rfl
theorem load_rwR {ops : Array Oper} {rest : List Oper} {o : Oper} {a : Act} {w : World} {Q : Exit → Act → World → Prop} (hgd : o.guard = none) (x : Operand) (ho : o.op = .load 101 x)
    (K : Nat) (r : Rw) (hx : a.eval x = .pointer (some ⟨K, 0, none⟩)) (k : Blk w K 101 (rw5 r))
    (h : wpList Tryd.prog ops Q rest (a.put o.dst (rwV r)) w) : wpList Tryd.prog ops Q (o :: rest) a w :=
  wpList_load_row hgd 101 x ho K hx 101 (rw5 r) (0, 0) _ k.h Tryd.underlying101 rfl (szRw r) h
theorem BF.start {w : World} {N : Nat} {a : Option Addr} {len cap : Nat} {zs : List Int} {p : Nat} {c m : Int} (V : Rv w N a len cap zs p c m) (tabs : Tabs w) (r : Rw) :
    BF w (((w.alloc (.cells #[.slice a len cap, .int .i64 p, .int .u32 c, .int .u32 m] 83)).alloc (.cells (rw5 r) 101)).alloc (.cells z16 26)) N a len cap zs p c m r z16 := by
  have h3 := alloc3 w (.cells #[.slice a len cap, .int .i64 p, .int .u32 c, .int .u32 m] 83) (.cells (rw5 r) 101) (.cells z16 26)
  have kb := (((Below.refl w.heap.size w).alloc (Nat.le_refl _) (.cells #[.slice a len cap, .int .i64 p, .int .u32 c, .int .u32 m] 83)).alloc (by simp) (.cells (rw5 r) 101)).alloc (by simp; omega) (.cells z16 26)
  exact ⟨⟨⟨h3.1⟩, V.row.but (But.of kb []) V.nb (by simp), V.nb, V.lc, V.cm, V.pl, V.mb, V.cb⟩, ⟨h3.2.1⟩, ⟨h3.2.2⟩, kb, tabs.below kb⟩
def endM (x : Except Int In) : Ending := match x with | .ok i => .returned (inV i) | .error n => .panicked (errP n)
end Go.Proofs.YtbfkgakkkibejaaDoor
