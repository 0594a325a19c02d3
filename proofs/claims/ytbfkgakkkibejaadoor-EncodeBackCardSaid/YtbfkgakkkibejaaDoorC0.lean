/- Instructions and operands as numbers; what they count as (no program). -/
import Derived.Test.YtbfkgakkkibejaaDoorLaid
import Derived.Test.YtbfkgakkkibejaaDoorB0
import Derived.Lib.Hide
namespace Go.Proofs.YtbfkgakkkibejaaDoor
open Go.RowKit
set_option linter.unusedVariables false
set_option linter.unusedSimpArgs false

/-- An operand: kind, register, number, base, index, scale. -/
structure On where
  (k r m b x s : Int)
abbrev op6 (o : On) : Array Value := #[.int .i64 o.k, .int .i64 o.r, .int .u32 o.m, .int .i64 o.b, .int .i64 o.x, .int .u32 o.s]
abbrev opV (o : On) : Value := .agg (op6 o)
/-- An instruction. -/
structure In where
  (op c : Int) (A B : On) (rep : Bool) (len : Int)
abbrev in16 (i : In) : Array Value := #[.int .i64 i.op, .int .i64 i.c, .int .i64 i.A.k, .int .i64 i.A.r, .int .u32 i.A.m, .int .i64 i.A.b, .int .i64 i.A.x, .int .u32 i.A.s,
  .int .i64 i.B.k, .int .i64 i.B.r, .int .u32 i.B.m, .int .i64 i.B.b, .int .i64 i.B.x, .int .u32 i.B.s, .bool i.rep, .int .i64 i.len]
abbrev inV (i : In) : Value := .agg (in16 i)
def onZ : On := ⟨0, 0, 0, 0, 0, 0⟩
def onReg (r : Int) : On := ⟨1, r, 0, 0, 0, 0⟩
def onImm (m : Int) : On := ⟨2, 0, m, 0, 0, 0⟩
def onMem (m b x s : Int) : On := ⟨3, 0, m, b, x, s⟩

def isRegB (r : Int) : Bool := decide (0 ≤ r) && decide (r < 8)
def isScaleB (s : Int) : Bool := s == 1 || s == 2 || s == 4 || s == 8
def isIndexB (x s : Int) : Bool := bif x == -1 then s == 1 else isRegB x && x != 4 && isScaleB s
def regA (r : Int) : Int := bif r == 1 then 6 else bif isRegB r then 2 else 0
def numA (n : Int) : Int := bif n == 128 then 112 else bif decide (n < 256) then 48 else 16
def memA (b x s : Int) : Int := bif (b == -1 || isRegB b) && isIndexB x s then 8 else 0
/-- What an operand counts as. -/
def cA (o : On) : Int :=
  bif o.k == 0 then (bif o.r == 0 && o.m == 0 && o.b == 0 && o.x == 0 && o.s == 0 then 1 else 0) else
  bif o.k == 1 then (bif o.m == 0 && o.b == 0 && o.x == 0 && o.s == 0 then regA o.r else 0) else
  bif o.k == 2 then (bif o.r == 0 && o.b == 0 && o.x == 0 && o.s == 0 then numA o.m else 0) else
  bif o.k == 3 then (bif o.r == 0 then memA o.b o.x o.s else 0) else 0
/-- The row of an operation. -/
def rowN (op : Int) : Nat := if 0 ≤ op ∧ op < 54 then [0, 1, 3, 1, 1, 1, 1, 1, 1, 1, 1, 2, 5, 5, 5, 5, 5, 5, 6, 5, 5, 8, 8, 8, 8, 8, 9, 4, 11, 12, 13, 14, 15, 16, 10, 7, 6, 6, 17, 17, 17, 18, 18, 19, 17, 20, 20, 20, 20, 20, 20, 17, 17, 20].getD op.toNat 0 else 0
def knowsB (k : Nat) (c : Int) : Bool := c == 0 || (rC k && decide (0 < c) && decide (c < 16))
def takesB (k : Nat) (a b : Int) : Bool := bits .and .i64 a (rA k) != 0 && bits .and .i64 b (rB k) != 0 && bits .and .i64 (bits .and .i64 a b) 8 == 0
def isB (i : In) : Bool := decide (0 ≤ i.len) && decide (i.len ≤ 15) && (rR (rowN i.op) || !i.rep) && knowsB (rowN i.op) i.c && takesB (rowN i.op) (cA i.A) (cA i.B)
def touchB (i : In) : Bool := bif rT (rowN i.op) == 1 then true else bif rT (rowN i.op) == 2 then false else i.A.k == 3 || i.B.k == 3

theorem rowN_lt (op : Int) : rowN op < 21 := by
  unfold rowN
  split
  · rename_i h
    obtain ⟨n, rfl⟩ := Int.eq_ofNat_of_zero_le h.1
    have hn : n < 54 := by omega
    have : ∀ n, n < 54 → ([0, 1, 3, 1, 1, 1, 1, 1, 1, 1, 1, 2, 5, 5, 5, 5, 5, 5, 6, 5, 5, 8, 8, 8, 8, 8, 9, 4, 11, 12, 13, 14, 15, 16, 10, 7, 6, 6, 17, 17, 17, 18, 18, 19, 17, 20, 20, 20, 20, 20, 20, 17, 17, 20] : List Nat).getD n 0 < 21 := by decide
    exact this n hn
  · decide
theorem rowN_cases (P : Int → Prop) (hin : ∀ n : Nat, n < 54 → P n) (hout : ∀ op : Int, ¬(0 ≤ op ∧ op < 54) → P op) (op : Int) : P op := by
  by_cases h : 0 ≤ op ∧ op < 54
  · obtain ⟨n, rfl⟩ := Int.eq_ofNat_of_zero_le h.1
    exact hin n (by omega)
  · exact hout op h
theorem rowN_out {op : Int} (h : ¬(0 ≤ op ∧ op < 54)) : rowN op = 0 := by unfold rowN; rw [if_neg h]
theorem rep_row (op : Int) : rR (rowN op) = (op == 41 || op == 42) := by
  refine rowN_cases (fun op => rR (rowN op) = (op == 41 || op == 42)) ?_ (fun op h => ?_) op
  · decide
  · rw [rowN_out h, Bool.eq_iff_iff]; simp [rR]; omega
theorem cond_row (op : Int) : rC (rowN op) = (op == 33 || op == 34 || op == 35) := by
  refine rowN_cases (fun op => rC (rowN op) = (op == 33 || op == 34 || op == 35)) ?_ (fun op h => ?_) op
  · decide
  · rw [rowN_out h, Bool.eq_iff_iff]; simp [rC]; omega
theorem bif_mem {L : List Int} {c : Bool} {x y : Int} (hx : x ∈ L) (hy : y ∈ L) : (bif c then x else y) ∈ L := by cases c <;> assumption
theorem cA_mem (o : On) : cA o ∈ ([0, 1, 2, 6, 8, 16, 48, 112] : List Int) := by
  unfold cA regA numA memA
  repeat' (refine bif_mem ?_ ?_)
  all_goals decide
end Go.Proofs.YtbfkgakkkibejaaDoor
