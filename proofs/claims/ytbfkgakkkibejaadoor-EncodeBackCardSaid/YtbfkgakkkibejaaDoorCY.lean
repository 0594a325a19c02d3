/- Structs loaded where a guard says so, stored into blocks of their own. -/
import Derived.Test.YtbfkgakkkibejaaDoorC5
import Derived.BigFrame
namespace Go.Proofs.YtbfkgakkkibejaaDoor
open Go.RowKit
set_option linter.unusedVariables false
set_option linter.unusedSimpArgs false

theorem load_inG {ops : Array Oper} {rest : List Oper} {o : Oper} {a : Act} {w : World} {Q : Exit → Act → World → Prop} (hw : Region.wanted o (yielded ops a.tmps) = true) (x : Operand) (ho : o.op = .load 26 x)
    (N : Nat) (hx : a.eval x = .pointer (some ⟨N, 0, none⟩)) (cs : Array Value) (hz : cs.size = 16) (k : Blk w N 26 cs)
    (h : wpList Tryd.prog ops Q rest (a.put o.dst (.agg cs)) w) : wpList Tryd.prog ops Q (o :: rest) a w :=
  BigFrame.wpList_want hw fun K hK => wp_load_row 26 x ho N hx 26 cs (0, 0) _ k.h Tryd.underlying26 rfl ((szIn ⟨0, 0, onZ, onZ, false, 0⟩).trans (congrArg some hz.symm)) (hK _ _ h)
theorem load_opG {ops : Array Oper} {rest : List Oper} {o : Oper} {a : Act} {w : World} {Q : Exit → Act → World → Prop} (hw : Region.wanted o (yielded ops a.tmps) = true) (x : Operand) (ho : o.op = .load 24 x)
    (N : Nat) (hx : a.eval x = .pointer (some ⟨N, 0, none⟩)) (cs : Array Value) (hz : cs.size = 6) (k : Blk w N 24 cs)
    (h : wpList Tryd.prog ops Q rest (a.put o.dst (.agg cs)) w) : wpList Tryd.prog ops Q (o :: rest) a w :=
  BigFrame.wpList_want hw fun K hK => wp_load_row 24 x ho N hx 24 cs (0, 0) _ k.h Tryd.underlying24 rfl ((szOp onZ).trans (congrArg some hz.symm)) (hK _ _ h)
abbrev z16 : Array Value := #[.int .i64 0, .int .i64 0, .int .i64 0, .int .i64 0, .int .u32 0, .int .i64 0, .int .i64 0, .int .u32 0, .int .i64 0, .int .i64 0, .int .u32 0, .int .i64 0, .int .i64 0, .int .u32 0, .bool false, .int .i64 0]
abbrev z6 : Array Value := #[.int .i64 0, .int .i64 0, .int .u32 0, .int .i64 0, .int .i64 0, .int .u32 0]
theorem store_in_as {ops : Array Oper} {rest : List Oper} {o : Oper} {a : Act} {w0 : World} {Q : Exit → Act → World → Prop} (hgd : o.guard = none) (x y : Operand) (ho : o.op = .store 26 x y)
    (cs : Array Value) (hz : cs.size = 16) (h1 : cs.all (·.oneCell') = true) (hx : a.eval x = .pointer (some ⟨w0.heap.size, 0, none⟩)) (hy : a.eval y = .agg cs)
    (h : ∀ W, Blk W w0.heap.size 26 cs → Below w0.heap.size w0 W → wpList Tryd.prog ops Q rest (a.put o.dst undef) W) :
    wpList Tryd.prog ops Q (o :: rest) a (w0.alloc (.cells z16 26)) := by
  refine wpList_store_row hgd 26 x y ho w0.heap.size cs hx hy 26 z16 (alloc_new _ _) ((szIn ⟨0, 0, onZ, onZ, false, 0⟩).trans (congrArg some hz.symm)) hz.symm h1 ?_
  exact h _ ((Blk.new w0 26 z16).row cs) (below_rowNew ((Below.refl _ _).alloc (Nat.le_refl _) _) (Nat.le_refl _) _)
theorem store_op_as {ops : Array Oper} {rest : List Oper} {o : Oper} {a : Act} {w0 : World} {Q : Exit → Act → World → Prop} (hgd : o.guard = none) (x y : Operand) (ho : o.op = .store 24 x y)
    (cs : Array Value) (hz : cs.size = 6) (h1 : cs.all (·.oneCell') = true) (hx : a.eval x = .pointer (some ⟨w0.heap.size, 0, none⟩)) (hy : a.eval y = .agg cs)
    (h : ∀ W, Blk W w0.heap.size 24 cs → Below w0.heap.size w0 W → wpList Tryd.prog ops Q rest (a.put o.dst undef) W) :
    wpList Tryd.prog ops Q (o :: rest) a (w0.alloc (.cells z6 24)) := by
  refine wpList_store_row hgd 24 x y ho w0.heap.size cs hx hy 24 z6 (alloc_new _ _) ((szOp onZ).trans (congrArg some hz.symm)) hz.symm h1 ?_
  exact h _ ((Blk.new w0 24 z6).row cs) (below_rowNew ((Below.refl _ _).alloc (Nat.le_refl _) _) (Nat.le_refl _) _)
theorem stop_load {ops : Array Oper} {rest : List Oper} {o : Oper} {a : Act} {w : World} {Q : Exit → Act → World → Prop} (ty : TypeId) (x : Operand) (ho : o.op = .load ty x) (h : RowKit.Hid (wpList Tryd.prog ops Q (o :: rest) a w)) : wpList Tryd.prog ops Q (o :: rest) a w := h
end Go.Proofs.YtbfkgakkkibejaaDoor
