/- operand: what its calls come to, as numbers; the small calls. -/
import Derived.Test.YtmlaancmacipoaaO1
import Derived.Deep.RegionHeld3
import Derived.Lib.Hide
namespace Go.Proofs.Ytmlaancmacipoaa
open Go.RowKit
set_option linter.unusedVariables false
set_option linter.unusedSimpArgs false
set_option linter.unusedSectionVars false

/-- A state of the guest: registers, the place, flags, the direction, the number. -/
structure Gs where
  r : Nat → Int
  pc : Int
  f : Nat → Bool
  df : Bool
  x : Int
structure Gs.ok (g : Gs) : Prop where
  r : ∀ i, 0 ≤ g.r i ∧ g.r i ≤ 4294967295
  pc : 0 ≤ g.pc ∧ g.pc ≤ 4294967295
  x : 0 ≤ g.x ∧ g.x ≤ 18446744073709551615
abbrev stA (g : Gs) : Array Value := #[.int .u32 (g.r 0), .int .u32 (g.r 1), .int .u32 (g.r 2), .int .u32 (g.r 3), .int .u32 (g.r 4), .int .u32 (g.r 5), .int .u32 (g.r 6), .int .u32 (g.r 7), .int .u32 g.pc,
  .bool (g.f 0), .bool (g.f 1), .bool (g.f 2), .bool (g.f 3), .bool (g.f 4), .bool (g.f 5), .bool g.df, .int .u64 g.x]
abbrev stV (g : Gs) : Value := .agg (stA g)
abbrev z17 : Array Value := #[.int .u32 0, .int .u32 0, .int .u32 0, .int .u32 0, .int .u32 0, .int .u32 0, .int .u32 0, .int .u32 0, .int .u32 0, .bool false, .bool false, .bool false, .bool false, .bool false, .bool false, .bool false, .int .u64 0]
def setr (g : Gs) (j : Nat) (v : Int) : Gs := { g with r := fun k => if k = j then v else g.r k }
/-- An operand: kind, register, number, base, index, scale. -/
structure On where
  (k r m b x s : Int)
abbrev op6 (o : On) : Array Value := #[.int .i64 o.k, .int .i64 o.r, .int .u32 o.m, .int .i64 o.b, .int .i64 o.x, .int .u32 o.s]
abbrev opV (o : On) : Value := .agg (op6 o)
theorem szS : (Try.prog.info? 44).map (·.size) = some 17 := by kernel_rfl
theorem szO : (Try.prog.info? 47).map (·.size) = some 6 := by kernel_rfl
theorem szF : (Try.prog.info? 32).map (·.size) = some 4 := by kernel_rfl
theorem and7 (n : Int) : bits .and .i64 n 7 = n % 8 := by
  have h7 : (BitVec.ofInt 64 7).toNat = 2 ^ 3 - 1 := by decide
  have key : (BitVec.ofInt 64 n &&& BitVec.ofInt 64 7).toNat = (n % ((2 ^ 64 : Nat) : Int)).toNat % 2 ^ 3 := by
    rw [BitVec.toNat_and, BitVec.toNat_ofInt, h7, Nat.and_two_pow_sub_one_eq_mod]
  show IntKind.i64.wrap ((BitVec.ofInt 64 n &&& BitVec.ofInt 64 7).toNat : Nat) = n % 8
  rw [key, IntKind.wrap_i64]
  omega
theorem numbered_any (i : Int) (w : World) : Calls Try.prog 53 #[.int .i64 i] w fun e w' => e = .returned (.int .i64 (i % 8)) ∧ w = w' := by
  have h := and7 i
  go_enter Try.func53, Try.ntmps53
  go_wp2
  go_ret
  exact ⟨ret_int rfl, rfl⟩
def numO (n : Int) : Int := if n = 1 then 1 else 4
theorem onumber_any (n : Int) (w : World) : Calls Try.prog 35 #[.int .i64 n] w fun e w' => e = .returned (.int .i64 (numO n)) ∧ w = w' := by
  go_enter Try.func35, Try.ntmps35
  go_wp2
  all_goals (go_ret; refine ⟨ret_int ?_, rfl⟩; first | (simp_all [numO]; done) | (simp_all [numO]; omega))
/-- A register, 0 of none. -/
def regV (g : Gs) (i : Int) : Int := if i = -1 then 0 else g.r (i % 8).toNat
theorem st_at (g : Gs) {j : Nat} (h : j < 8) : (stA g)[j]? = some (.int .u32 (g.r j)) := by
  rcases (by omega : j = 0 ∨ j = 1 ∨ j = 2 ∨ j = 3 ∨ j = 4 ∨ j = 5 ∨ j = 6 ∨ j = 7) with rfl | rfl | rfl | rfl | rfl | rfl | rfl | rfl <;> rfl
theorem register_any (g : Gs) (i : Int) (w : World) : Calls Try.prog 38 #[stV g, .int .i64 i] w fun e w' => e = .returned (.int .u32 (regV g i)) ∧ Below w.heap.size w w' := by
  have b0 := (Below.refl w.heap.size w).alloc (Nat.le_refl _) (.cells (stA g) 44)
  have kS := Blk.new w 44 (stA g)
  unfold regV
  by_cases h : i = -1
  · subst h
    go_enter Try.func38, Try.ntmps38
    go_wp2
    go_ret
    exact ⟨rfl, b0⟩
  · rw [if_neg h]
    have h1 : (i == -1) = false := by simp [h]
    have hn := Lib.hid (fun W => numbered_any i W)
    obtain ⟨j, hj⟩ := Int.eq_ofNat_of_zero_le (show 0 ≤ i % 8 by omega)
    have hj8 : j < 8 := by omega
    rw [hj] at hn
    rw [hj, Int.toNat_natCast]
    clear hj h
    have cj := kS.cell (st_at g hj8)
    have l0 : ((j : Int) < 0) = False := eq_false (by omega)
    have l8 : ((j : Int) < 8) = True := eq_true (by omega)
    generalize g.r j = x at *
    go_enter Try.func38, Try.ntmps38
    go_wp2_with ((with_reducible refine (hn.out _).mono ?_); rintro e w1 ⟨rfl, rfl⟩)
    go_ret
    exact ⟨rfl, b0⟩
/-- The place of an operand. -/
def plO (g : Gs) (o : On) : Int := if o.k = 3 then ((regV g o.b + regV g o.x * o.s % 4294967296) % 4294967296 + o.m) % 4294967296 else 0
theorem plO_bd (g : Gs) (o : On) : 0 ≤ plO g o ∧ plO g o ≤ 4294967295 := by unfold plO; split <;> omega
end Go.Proofs.Ytmlaancmacipoaa
