/- Flags in blocks: loaded, stored, handed back. -/
import Derived.Test.YtgeeecoclhomiaaDoorA2
namespace Go.Proofs.YtgeeecoclhomiaaDoor
open Go.RowKit
set_option linter.unusedVariables false
set_option linter.unusedSimpArgs false
set_option linter.unusedSectionVars false

theorem szF (g : Nat → Bool) : (Tryd.prog.info? 24).map (·.size) = some (fl6 g).size := by kernel_rfl
theorem store_fl {ops : Array Oper} {rest : List Oper} {o : Oper} {a : Act} {w : World} {Q : Exit → Act → World → Prop} (hgd : o.guard = none) (x y : Operand) (ho : o.op = .store 24 x y)
    (N : Nat) (g old : Nat → Bool) (hx : a.eval x = .pointer (some ⟨N, 0, none⟩)) (hy : a.eval y = flV g) (k : Blk w N 24 (fl6 old))
    (h : wpList Tryd.prog ops Q rest (a.put o.dst undef) (w.setRow N (fl6 g))) : wpList Tryd.prog ops Q (o :: rest) a w :=
  wpList_store_row hgd 24 x y ho N (fl6 g) hx hy 24 (fl6 old) k.h (szF g) rfl (fl6_one g) h
theorem store_flv {ops : Array Oper} {rest : List Oper} {o : Oper} {a : Act} {w : World} {Q : Exit → Act → World → Prop} (hgd : o.guard = none) (x y : Operand) (ho : o.op = .store 24 x y)
    (N : Nat) (v : Value) (g old : Nat → Bool) (hx : a.eval x = .pointer (some ⟨N, 0, none⟩)) (hy : a.eval y = v) (hv : v = flV g) (k : Blk w N 24 (fl6 old))
    (h : wpList Tryd.prog ops Q rest (a.put o.dst undef) (w.setRow N (fl6 g))) : wpList Tryd.prog ops Q (o :: rest) a w :=
  store_fl hgd x y ho N g old hx (hy.trans hv) k h
theorem load_fl {ops : Array Oper} {rest : List Oper} {o : Oper} {a : Act} {w : World} {Q : Exit → Act → World → Prop} (hgd : o.guard = none) (x : Operand) (ho : o.op = .load 24 x)
    (N : Nat) (g : Nat → Bool) (hx : a.eval x = .pointer (some ⟨N, 0, none⟩)) (k : Blk w N 24 (fl6 g))
    (h : wpList Tryd.prog ops Q rest (a.put o.dst (flV g)) w) : wpList Tryd.prog ops Q (o :: rest) a w :=
  wpList_load_row hgd 24 x ho N hx 24 (fl6 g) (0, 0) _ k.h Tryd.underlying24 rfl (szF g) h
theorem run_load_fl {N : Nat} {g : Nat → Bool} {w : World} (k : Blk w N 24 (fl6 g)) : (loadVar 24 ⟨N, 0, none⟩).run Tryd.prog w = .ok (flV g) w :=
  run_loadVar_row w N 24 24 (fl6 g) (0, 0) _ k.h Tryd.underlying24 rfl (szF g)
theorem res_c {fn : Func} {p : Tmp} (h : fn.results = #[.cell p 24]) (tmps : Array Value) (w : World) (N : Nat) (g : Nat → Bool)
    (hp : tmps.getD p undef = .pointer (some ⟨N, 0, none⟩)) (k : Blk w N 24 (fl6 g)) : (results fn tmps).run Tryd.prog w = .ok (flV g) w := by
  have hp' : tmps[p]?.getD undef = .pointer (some ⟨N, 0, none⟩) := by simpa using hp
  simp [results, h, hp', asAddr, run_load_fl k]
theorem res_sc {fn : Func} {q p : Tmp} (h : fn.results = #[.tmp q, .cell p 24]) (tmps : Array Value) (w : World) (N : Nat) (g : Nat → Bool) (v : Value)
    (hq : tmps.getD q undef = v) (hp : tmps.getD p undef = .pointer (some ⟨N, 0, none⟩)) (k : Blk w N 24 (fl6 g)) : (results fn tmps).run Tryd.prog w = .ok (.tuple #[v, flV g]) w := by
  have hp' : tmps[p]?.getD undef = .pointer (some ⟨N, 0, none⟩) := by simpa using hp
  have hq' : tmps[q]?.getD undef = v := by simpa using hq
  simp [results, h, hp', hq', asAddr, run_load_fl k]
theorem res_ssc {fn : Func} {q r p : Tmp} (h : fn.results = #[.tmp q, .tmp r, .cell p 24]) (tmps : Array Value) (w : World) (N : Nat) (g : Nat → Bool) (v u : Value)
    (hq : tmps.getD q undef = v) (hr : tmps.getD r undef = u) (hp : tmps.getD p undef = .pointer (some ⟨N, 0, none⟩)) (k : Blk w N 24 (fl6 g)) : (results fn tmps).run Tryd.prog w = .ok (.tuple #[v, u, flV g]) w := by
  have hp' : tmps[p]?.getD undef = .pointer (some ⟨N, 0, none⟩) := by simpa using hp
  have hq' : tmps[q]?.getD undef = v := by simpa using hq
  have hr' : tmps[r]?.getD undef = u := by simpa using hr
  simp [results, h, hp', hq', hr', asAddr, run_load_fl k]
end Go.Proofs.YtgeeecoclhomiaaDoor
