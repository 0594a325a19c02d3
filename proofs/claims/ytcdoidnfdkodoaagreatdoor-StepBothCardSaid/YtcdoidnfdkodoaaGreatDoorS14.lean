import Derived.Test.YtcdoidnfdkodoaaGreatDoorS01
import Derived.Test.YtcdoidnfdkodoaaGreatDoorS00
import Derived.Lib.Hide
import Derived.Test.YtcdoidnfdkodoaaGreatDoorS12
import Derived.Deep.CutRange
import Derived.Deep.RegionHeld
namespace Go.Proofs.YtcdoidnfdkodoaaGreatDoor
open Go.RowKit
set_option linter.unusedVariables false
set_option linter.unusedSimpArgs false
structure In where
  (op c : Int) (A B : On) (rep : Bool) (len : Int)
abbrev in16 (i : In) : Array Value := #[.int .i64 i.op, .int .i64 i.c, .int .i64 i.A.k, .int .i64 i.A.r, .int .u32 i.A.m, .int .i64 i.A.b, .int .i64 i.A.x, .int .u32 i.A.s,
  .int .i64 i.B.k, .int .i64 i.B.r, .int .u32 i.B.m, .int .i64 i.B.b, .int .i64 i.B.x, .int .u32 i.B.s, .bool i.rep, .int .i64 i.len]
abbrev inV (i : In) : Value := .agg (in16 i)
def onZ : On := ⟨0, 0, 0, 0, 0, 0⟩
def onReg (r : Int) : On := ⟨1, r, 0, 0, 0, 0⟩
def onImm (m : Int) : On := ⟨2, 0, m, 0, 0, 0⟩
def onMem (m b x s : Int) : On := ⟨3, 0, m, b, x, s⟩
def isRegB (r : Int) : Bool := decide (0 ≤ r) && decide (r < 8)
def isScaleB (s : Int) : Bool := s == 1 || s == 2 || s == 4 || s == 8
def isIndexB (x s : Int) : Bool := bif x == -1 then s == 1 else isRegB x && x != 4 && isScaleB s
def regA (r : Int) : Int := bif r == 1 then 6 else bif isRegB r then 2 else 0
def numA (n : Int) : Int := bif n == 128 then 112 else bif decide (n < 256) then 48 else 16
def memA (b x s : Int) : Int := bif (b == -1 || isRegB b) && isIndexB x s then 8 else 0
def cA (o : On) : Int :=
  bif o.k == 0 then (bif o.r == 0 && o.m == 0 && o.b == 0 && o.x == 0 && o.s == 0 then 1 else 0) else
  bif o.k == 1 then (bif o.m == 0 && o.b == 0 && o.x == 0 && o.s == 0 then regA o.r else 0) else
  bif o.k == 2 then (bif o.r == 0 && o.b == 0 && o.x == 0 && o.s == 0 then numA o.m else 0) else
  bif o.k == 3 then (bif o.r == 0 then memA o.b o.x o.s else 0) else 0
def rowN (op : Int) : Nat := if 0 ≤ op ∧ op < 54 then [0, 1, 3, 1, 1, 1, 1, 1, 1, 1, 1, 2, 5, 5, 5, 5, 5, 5, 6, 5, 5, 8, 8, 8, 8, 8, 9, 4, 11, 12, 13, 14, 15, 16, 10, 7, 6, 6, 17, 17, 17, 18, 18, 19, 17, 20, 20, 20, 20, 20, 20, 17, 17, 20].getD op.toNat 0 else 0
def knowsB (k : Nat) (c : Int) : Bool := c == 0 || (rC k && decide (0 < c) && decide (c < 16))
def takesB (k : Nat) (a b : Int) : Bool := bits .and .i64 a (rA k) != 0 && bits .and .i64 b (rB k) != 0 && bits .and .i64 (bits .and .i64 a b) 8 == 0
def isB (i : In) : Bool := decide (0 ≤ i.len) && decide (i.len ≤ 15) && (rR (rowN i.op) || !i.rep) && knowsB (rowN i.op) i.c && takesB (rowN i.op) (cA i.A) (cA i.B)
theorem rowN_lt (op : Int) : rowN op < 21 := by
  unfold rowN
  split
  · rename_i h
    obtain ⟨n, rfl⟩ := Int.eq_ofNat_of_zero_le h.1
    have hn : n < 54 := by omega
    have : ∀ n, n < 54 → ([0, 1, 3, 1, 1, 1, 1, 1, 1, 1, 1, 2, 5, 5, 5, 5, 5, 5, 6, 5, 5, 8, 8, 8, 8, 8, 9, 4, 11, 12, 13, 14, 15, 16, 10, 7, 6, 6, 17, 17, 17, 18, 18, 19, 17, 20, 20, 20, 20, 20, 20, 17, 17, 20] : List Nat).getD n 0 < 21 := by decide
    exact this n hn
  · decide
theorem rowN_cases (P : Int → Prop) (hin : ∀ n : Nat, n < 54 → P n) (hout : ∀ op : Int, ¬(0 ≤ op ∧ op < 54) → P op) (op : Int) : P op := by
  by_cases h : 0 ≤ op ∧ op < 54
  · obtain ⟨n, rfl⟩ := Int.eq_ofNat_of_zero_le h.1
    exact hin n (by omega)
  · exact hout op h
theorem rowN_out {op : Int} (h : ¬(0 ≤ op ∧ op < 54)) : rowN op = 0 := by unfold rowN; rw [if_neg h]
end Go.Proofs.YtcdoidnfdkodoaaGreatDoor
namespace Go.Proofs.YtcdoidnfdkodoaaGreatDoor
open Go.RowKit
set_option linter.unusedVariables false
set_option maxRecDepth 20000
set_option linter.unusedSimpArgs false
set_option linter.unusedSectionVars false
abbrev fl6 (f : Nat → Bool) : Array Value := #[.bool (f 0), .bool (f 1), .bool (f 2), .bool (f 3), .bool (f 4), .bool (f 5)]
abbrev flV (f : Nat → Bool) : Value := .agg #[.bool (f 0), .bool (f 1), .bool (f 2), .bool (f 3), .bool (f 4), .bool (f 5)]
def mixL (s f g : Nat → Bool) : Nat → Bool := fun i => bif s i then g i else f i
set_option maxHeartbeats 2000000 in
theorem replaced_any (f g s : Nat → Bool) (w : World) : Calls Tryz.prog 237 #[flV f, flV g, flV s] w fun e w' => e = .returned (flV (mixL s f g)) ∧ Below w.heap.size w w' := by
  go_enter Tryz.func237, Tryz.ntmps237
  go_upto_if 8 with fail
  go_cut [] from 7 to 11 (fun W => W = ((((w.alloc (.cells #[.bool (bif s 0 then g 0 else f 0), .bool (f 1), .bool (f 2), .bool (f 3), .bool (f 4), .bool (f 5)] 26)).alloc (.cells (fl6 g) 26)).alloc (.cells (fl6 s) 26)).alloc (.cells #[.bool false, .bool false, .bool false, .bool false, .bool false, .bool false] 26)))
  case first =>
    cases hs0 : s 0
    · go_wp2
      go_meet
      simp [hs0, fl6]
    · go_wp2
      go_meet
      simp [hs0, fl6]
  case rest =>
  subst hcut
  go_upto_if 13 with fail
  go_cut [] from 12 to 16 (fun W => W = ((((w.alloc (.cells #[.bool (bif s 0 then g 0 else f 0), .bool (bif s 1 then g 1 else f 1), .bool (f 2), .bool (f 3), .bool (f 4), .bool (f 5)] 26)).alloc (.cells (fl6 g) 26)).alloc (.cells (fl6 s) 26)).alloc (.cells #[.bool false, .bool false, .bool false, .bool false, .bool false, .bool false] 26)))
  case first =>
    cases hs1 : s 1
    · go_wp2
      go_meet
      simp [hs1, fl6]
    · go_wp2
      go_meet
      simp [hs1, fl6]
  case rest =>
  subst hcut
  go_upto_if 18 with fail
  go_cut [] from 17 to 21 (fun W => W = ((((w.alloc (.cells #[.bool (bif s 0 then g 0 else f 0), .bool (bif s 1 then g 1 else f 1), .bool (bif s 2 then g 2 else f 2), .bool (f 3), .bool (f 4), .bool (f 5)] 26)).alloc (.cells (fl6 g) 26)).alloc (.cells (fl6 s) 26)).alloc (.cells #[.bool false, .bool false, .bool false, .bool false, .bool false, .bool false] 26)))
  case first =>
    cases hs2 : s 2
    · go_wp2
      go_meet
      simp [hs2, fl6]
    · go_wp2
      go_meet
      simp [hs2, fl6]
  case rest =>
  subst hcut
  go_upto_if 23 with fail
  go_cut [] from 22 to 26 (fun W => W = ((((w.alloc (.cells #[.bool (bif s 0 then g 0 else f 0), .bool (bif s 1 then g 1 else f 1), .bool (bif s 2 then g 2 else f 2), .bool (bif s 3 then g 3 else f 3), .bool (f 4), .bool (f 5)] 26)).alloc (.cells (fl6 g) 26)).alloc (.cells (fl6 s) 26)).alloc (.cells #[.bool false, .bool false, .bool false, .bool false, .bool false, .bool false] 26)))
  case first =>
    cases hs3 : s 3
    · go_wp2
      go_meet
      simp [hs3, fl6]
    · go_wp2
      go_meet
      simp [hs3, fl6]
  case rest =>
  subst hcut
  go_upto_if 28 with fail
  go_cut [] from 27 to 31 (fun W => W = ((((w.alloc (.cells #[.bool (bif s 0 then g 0 else f 0), .bool (bif s 1 then g 1 else f 1), .bool (bif s 2 then g 2 else f 2), .bool (bif s 3 then g 3 else f 3), .bool (bif s 4 then g 4 else f 4), .bool (f 5)] 26)).alloc (.cells (fl6 g) 26)).alloc (.cells (fl6 s) 26)).alloc (.cells #[.bool false, .bool false, .bool false, .bool false, .bool false, .bool false] 26)))
  case first =>
    cases hs4 : s 4
    · go_wp2
      go_meet
      simp [hs4, fl6]
    · go_wp2
      go_meet
      simp [hs4, fl6]
  case rest =>
  subst hcut
  go_upto_if 33 with fail
  go_cut [] from 32 to 36 (fun W => W = ((((w.alloc (.cells #[.bool (bif s 0 then g 0 else f 0), .bool (bif s 1 then g 1 else f 1), .bool (bif s 2 then g 2 else f 2), .bool (bif s 3 then g 3 else f 3), .bool (bif s 4 then g 4 else f 4), .bool (bif s 5 then g 5 else f 5)] 26)).alloc (.cells (fl6 g) 26)).alloc (.cells (fl6 s) 26)).alloc (.cells #[.bool false, .bool false, .bool false, .bool false, .bool false, .bool false] 26)))
  case first =>
    cases hs5 : s 5
    · go_wp2
      go_meet
      simp [hs5, fl6]
    · go_wp2
      go_meet
      simp [hs5, fl6]
  case rest =>
  subst hcut
  go_wp2
  refine bodyPost_ret (v := flV (mixL s f g)) (by simp [results, Tryz.results237, go_sem, mixL]) rfl ⟨rfl, ?_⟩
  exact ((((Below.refl _ _).alloc (Nat.le_refl _) _).alloc (by simp) _).alloc (by simp; omega) _).alloc (by simp; omega) _
theorem classOf_12 (w : World) : Calls Tryz.prog 238 #[.int .i64 12] w fun e w' => e = .returned (.int .i64 ((3 : Nat) : Int)) ∧ w = w' := by
  go_enter Tryz.func238, Tryz.ntmps238
  go_wp2
  go_ret
  exact ⟨rfl, rfl⟩
theorem ix_ef (b k : Nat) (h : k < 8) (W : World) : (Instr.indexAt 236 (.pointer (some ⟨b, 0, none⟩)) (.int .i64 (k : Int))).run Tryz.prog W = .ok (.pointer (some ⟨b, k * 12, none⟩)) W := by
  have s1 : ∀ W, (sizeOf 235).run Tryz.prog W = .ok 12 W := fun W => by kernel_rfl
  have hj : (k : Int) < 8 := by omega
  simp [Instr.indexAt, run_underlying Tryz.underlying236, s1, go_sem, hj, h, Instr.sureAddr]
end Go.Proofs.YtcdoidnfdkodoaaGreatDoor
