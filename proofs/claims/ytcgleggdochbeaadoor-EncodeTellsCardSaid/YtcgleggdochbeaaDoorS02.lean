import Derived.Test.YtcgleggdochbeaaDoorS00
import Derived.Laws.Rows
import Derived.Laws.Tables
import Derived.Deep.WholeRow
import Derived.Deep.MidRow
import Derived.Deep.RegionHeld3
import Derived.Test.YtcgleggdochbeaaDoorS01
import Derived.Lib.Hide
namespace Go.Proofs.YtcgleggdochbeaaDoor
open Go.RowKit
set_option linter.unusedVariables false
set_option linter.unusedSimpArgs false
set_option linter.unusedSectionVars false
structure Blk (W : World) (N : Nat) (t : TypeId) (cs : Array Value) : Prop where
 h : W.heap[N]? = some (.cells cs t (0, 0))
theorem Blk.lt {W : World} {N : Nat} {t : TypeId} {cs : Array Value} (k : Blk W N t cs) : N < W.heap.size := (Array.getElem?_eq_some_iff.1 k.h).1
theorem Blk.cell {W : World} {N : Nat} {t : TypeId} {cs : Array Value} (k : Blk W N t cs) {i : Nat} {v : Value} (h : cs[i]? = some v) : W.cell? ⟨N, i, none⟩ = some v := by
 simp only [World.cell?, k.h]; simpa using h
theorem Blk.fr {W : World} {N : Nat} {t : TypeId} {cs : Array Value} (k : Blk W N t cs) (i : Nat) : W.frozen? ⟨N, i, none⟩ = false := by
 simp only [World.frozen?, k.h]; simp
theorem Blk.below {W W' : World} {N n : Nat} {t : TypeId} {cs : Array Value} (k : Blk W N t cs) (b : Below n W W') (hn : N < n) : Blk W' N t cs := ⟨(b.block N hn).trans k.h⟩
theorem Blk.but {S : List Nat} {W W' : World} {N n : Nat} {t : TypeId} {cs : Array Value} (k : Blk W N t cs) (b : But S n W W') (hn : N < n) (hS : N ∉ S) : Blk W' N t cs := ⟨(b.block N hn hS).trans k.h⟩
theorem Blk.alloc {W : World} {N : Nat} {t : TypeId} {cs : Array Value} (k : Blk W N t cs) (o : Obj) : Blk (W.alloc o) N t cs := k.below ((Below.refl _ _).alloc (Nat.le_refl _) o) k.lt
theorem Blk.drew {W : World} {N : Nat} {t : TypeId} {cs : Array Value} (k : Blk W N t cs) : Blk W.drew N t cs := ⟨k.h⟩
theorem Blk.new (W : World) (t : TypeId) (cs : Array Value) : Blk (W.alloc (.cells cs t)) W.heap.size t cs := ⟨alloc_new _ _⟩
theorem Blk.set {W : World} {N : Nat} {t : TypeId} {cs : Array Value} (k : Blk W N t cs) (i : Nat) (v : Value) : Blk (W.setCell ⟨N, i, none⟩ v) N t (cs.setIfInBounds i v) := ⟨heap_set k.h⟩
theorem Blk.other {W : World} {N M : Nat} {t : TypeId} {cs : Array Value} (k : Blk W N t cs) (i : Nat) (v : Value) (h : N ≠ M) : Blk (W.setCell ⟨M, i, none⟩ v) N t cs := ⟨(Below.heap_setCell _ _ _ _ h).trans k.h⟩
theorem Blk.row {W : World} {N : Nat} {t : TypeId} {cs : Array Value} (k : Blk W N t cs) (cs2 : Array Value) : Blk (W.setRow N cs2) N t cs2 := ⟨setRow_heap _ _ _ _ _ _ k.h⟩
theorem Blk.rowOther {W : World} {N M : Nat} {t : TypeId} {cs : Array Value} (k : Blk W N t cs) (cs2 : Array Value) (h : N ≠ M) : Blk (W.setRow M cs2) N t cs := ⟨(setRow_other W M N cs2 h).trans k.h⟩
theorem below_rowNew {n : Nat} {w W : World} (b : Below n w W) {N : Nat} (h : n ≤ N) (cs : Array Value) : Below n w (W.setRow N cs) :=
 (((But.of b [N])).setRow (g := N) (by simp) cs).below (Nat.le_refl _) (by simpa using h)
theorem alloc3 (w : World) (a b c : Obj) : (((w.alloc a).alloc b).alloc c).heap[w.heap.size]? = some a ∧ (((w.alloc a).alloc b).alloc c).heap[w.heap.size + 1]? = some b ∧ (((w.alloc a).alloc b).alloc c).heap[w.heap.size + 1 + 1]? = some c := by
 have h3 := alloc_new ((w.alloc a).alloc b) c
 have h2 := alloc_new (w.alloc a) b
 have h1 := alloc_new w a
 simp only [World.size_alloc] at h2 h3
 refine ⟨?_, ?_, h3⟩
 ·rw [Below.heap_alloc _ _ _ (by simp; omega), Below.heap_alloc _ _ _ (by simp)]; exact h1
 ·rw [Below.heap_alloc _ _ _ (by simp)]; exact h2
theorem pS : (∀ (a : Act) (d : Option Tmp) (v : Value), Act.put a d v = match d with | some d => { a with tmps := a.tmps.setIfInBounds d v } | none => a) ∧ (∀ (α : Type) (l : List α) (i : Nat) (a : α), l.toArray.setIfInBounds i a = (l.set i a).toArray)
  ∧ (∀ (α : Type) (l : List α) (a b : α), (a :: l).set 0 b = b :: l) ∧ (∀ (α : Type) (l : List α) (a b : α) (n : Nat), (a :: l).set (n + 1) b = a :: l.set n b) :=
 ⟨fun _ _ _ => rfl, fun _ _ _ _ => List.setIfInBounds_toArray .., fun _ _ _ _ => rfl, fun _ _ _ _ _ => rfl⟩
theorem pT : (∀ (a : Act) (d : Option Tmp) (v : Value), Act.put a d v = match d with | some d => { a with tmps := a.tmps.setIfInBounds d v } | none => a) ∧ (∀ (α : Type) (l : List α) (i : Nat) (a : α), l.toArray.setIfInBounds i a = (l.set i a).toArray)
  ∧ (∀ (α : Type) (l : List α) (a b : α), (a :: l).set 0 b = b :: l) ∧ (∀ (α : Type) (l : List α) (a b : α) (n : Nat), (a :: l).set (n + 1) b = a :: l.set n b)
  ∧ (∀ (α : Type) (l : List α) (i : Nat) (h : i < l.toArray.size), l.toArray[i] = l[i]'(by simpa using h)) ∧ (∀ (α : Type) (l : List α) (a : α) (i : Nat) (h : i + 1 < (a :: l).length), (a :: l)[i + 1] = l[i]'(by simpa using h)) ∧ (∀ (α : Type) (l : List α) (a : α) (h : 0 < (a :: l).length), (a :: l)[0] = a) :=
 ⟨fun _ _ _ => rfl, fun _ _ _ _ => List.setIfInBounds_toArray .., fun _ _ _ _ => rfl, fun _ _ _ _ _ => rfl, fun _ _ _ _ => List.getElem_toArray .., fun _ _ _ _ _ => rfl, fun _ _ _ _ => rfl⟩
theorem tk {P : Program} {md : Region.Mode} {ops : Array Oper} {Q : Exit → Act → World → Prop} {S : World → Prop} {oi : Oper} {fuel : Nat} {listed : Array Bool} {a : Act} {w : World} (i : Nat) (v : Value) (hy : ∀ w, S w → (execOp a.eval oi).run P w = .ok (.value v) w) (hS : S w)
  (h : wpAnyH P md ops Q S fuel (listed.setIfInBounds i true) (a.put oi.dst v) w) (hi : ops[i]? = some oi := by rfl)
  (hs : Region.noSelect ops = true := by kernel_rfl) (hf : Region.free md ops listed i = true := by kernel_rfl) (hr : (Region.ready md ops listed).contains i = true := by kernel_rfl)
  (hQ : ∀ c a w, Q (.panic c) (a.put oi.dst v) w → Q (.panic c) a w := by exact fun _ _ _ h => h) (hw : Region.wanted oi (yielded ops a.tmps) = true := by kernel_rfl) : wpAnyH P md ops Q S (fuel + 1) listed a w :=
 wpAnyH_take hi hs hf hr hQ (.inl ⟨hw, hy⟩) hS h
theorem rd {P : Program} {md : Region.Mode} {ops : Array Oper} {Q : Exit → Act → World → Prop} {S : World → Prop} {o : Oper} {fuel : Nat} {listed : Array Bool} {a : Act} {w : World} (i : Nat)
  (h : ∀ K' : Act → World → Prop, Shut (∀ a w, S w → (S w → wpAnyH P md ops Q S fuel (listed.setIfInBounds i true) a w) → K' a w) → if Region.wanted o (yielded ops a.tmps) = true then Oper.wp P o a w K' Q else K' (a.put o.dst undef) w)
  (ho : ops[i]? = some o := by rfl) (hr : Region.ready md ops listed = [i] := by kernel_rfl) : wpAnyH P md ops Q S (fuel + 1) listed a w :=
 wpAnyH_ready hr (by simp) (AllReadyH.cons ho h AllReadyH.nil)
end Go.Proofs.YtcgleggdochbeaaDoor
namespace Go.Proofs.YtcgleggdochbeaaDoor
open Go.RowKit
set_option linter.unusedVariables false
set_option linter.unusedSimpArgs false
structure On where
 (k r m b x s : Int)
abbrev op6 (o : On) : Array Value := #[.int .i64 o.k, .int .i64 o.r, .int .u32 o.m, .int .i64 o.b, .int .i64 o.x, .int .u32 o.s]
abbrev opV (o : On) : Value := .agg (op6 o)
structure In where
 (op c : Int) (A B : On) (rep : Bool) (len : Int)
abbrev in16 (i : In) : Array Value := #[.int .i64 i.op, .int .i64 i.c, .int .i64 i.A.k, .int .i64 i.A.r, .int .u32 i.A.m, .int .i64 i.A.b, .int .i64 i.A.x, .int .u32 i.A.s,
 .int .i64 i.B.k, .int .i64 i.B.r, .int .u32 i.B.m, .int .i64 i.B.b, .int .i64 i.B.x, .int .u32 i.B.s, .bool i.rep, .int .i64 i.len]
abbrev inV (i : In) : Value := .agg (in16 i)
def onZ : On := ⟨0, 0, 0, 0, 0, 0⟩
def onReg (r : Int) : On := ⟨1, r, 0, 0, 0, 0⟩
def onImm (m : Int) : On := ⟨2, 0, m, 0, 0, 0⟩
def onMem (m b x s : Int) : On := ⟨3, 0, m, b, x, s⟩
def isRegB (r : Int) : Bool := decide (0 ≤ r) && decide (r < 8)
def isScaleB (s : Int) : Bool := s == 1 || s == 2 || s == 4 || s == 8
def isIndexB (x s : Int) : Bool := bif x == -1 then s == 1 else isRegB x && x != 4 && isScaleB s
def regA (r : Int) : Int := bif r == 1 then 6 else bif isRegB r then 2 else 0
def numA (n : Int) : Int := bif n == 128 then 112 else bif decide (n < 256) then 48 else 16
def memA (b x s : Int) : Int := bif (b == -1 || isRegB b) && isIndexB x s then 8 else 0
def cA (o : On) : Int :=
 bif o.k == 0 then (bif o.r == 0 && o.m == 0 && o.b == 0 && o.x == 0 && o.s == 0 then 1 else 0) else
 bif o.k == 1 then (bif o.m == 0 && o.b == 0 && o.x == 0 && o.s == 0 then regA o.r else 0) else
 bif o.k == 2 then (bif o.r == 0 && o.b == 0 && o.x == 0 && o.s == 0 then numA o.m else 0) else
 bif o.k == 3 then (bif o.r == 0 then memA o.b o.x o.s else 0) else 0
def rowN (op : Int) : Nat := if 0 ≤ op ∧ op < 54 then [0, 1, 3, 1, 1, 1, 1, 1, 1, 1, 1, 2, 5, 5, 5, 5, 5, 5, 6, 5, 5, 8, 8, 8, 8, 8, 9, 4, 11, 12, 13, 14, 15, 16, 10, 7, 6, 6, 17, 17, 17, 18, 18, 19, 17, 20, 20, 20, 20, 20, 20, 17, 17, 20].getD op.toNat 0 else 0
def knowsB (k : Nat) (c : Int) : Bool := c == 0 || (rC k && decide (0 < c) && decide (c < 16))
def takesB (k : Nat) (a b : Int) : Bool := bits .and .i64 a (rA k) != 0 && bits .and .i64 b (rB k) != 0 && bits .and .i64 (bits .and .i64 a b) 8 == 0
def isB (i : In) : Bool := decide (0 ≤ i.len) && decide (i.len ≤ 15) && (rR (rowN i.op) || !i.rep) && knowsB (rowN i.op) i.c && takesB (rowN i.op) (cA i.A) (cA i.B)
theorem rowN_lt (op : Int) : rowN op < 21 := by
 unfold rowN
 split
 ·rename_i h
  obtain ⟨n, rfl⟩ := Int.eq_ofNat_of_zero_le h.1
  have hn : n < 54 := by omega
  have : ∀ n, n < 54 → ([0, 1, 3, 1, 1, 1, 1, 1, 1, 1, 1, 2, 5, 5, 5, 5, 5, 5, 6, 5, 5, 8, 8, 8, 8, 8, 9, 4, 11, 12, 13, 14, 15, 16, 10, 7, 6, 6, 17, 17, 17, 18, 18, 19, 17, 20, 20, 20, 20, 20, 20, 17, 17, 20] : List Nat).getD n 0 < 21 := by decide
  exact this n hn
 ·decide
theorem rowN_cases (P : Int → Prop) (hin : ∀ n : Nat, n < 54 → P n) (hout : ∀ op : Int, ¬(0 ≤ op ∧ op < 54) → P op) (op : Int) : P op := by
 by_cases h : 0 ≤ op ∧ op < 54
 ·obtain ⟨n, rfl⟩ := Int.eq_ofNat_of_zero_le h.1
  exact hin n (by omega)
 ·exact hout op h
theorem rowN_out {op : Int} (h : ¬(0 ≤ op ∧ op < 54)) : rowN op = 0 := by unfold rowN; rw [if_neg h]
theorem rep_row (op : Int) : rR (rowN op) = (op == 41 || op == 42) := by
 refine rowN_cases (fun op => rR (rowN op) = (op == 41 || op == 42)) ?_ (fun op h => ?_) op
 ·decide
 ·rw [rowN_out h, Bool.eq_iff_iff]; simp [rR]; omega
theorem cond_row (op : Int) : rC (rowN op) = (op == 33 || op == 34 || op == 35) := by
 refine rowN_cases (fun op => rC (rowN op) = (op == 33 || op == 34 || op == 35)) ?_ (fun op h => ?_) op
 ·decide
 ·rw [rowN_out h, Bool.eq_iff_iff]; simp [rC]; omega
theorem bif_mem {L : List Int} {c : Bool} {x y : Int} (hx : x ∈ L) (hy : y ∈ L) : (bif c then x else y) ∈ L := by cases c <;> assumption
theorem cA_mem (o : On) : cA o ∈ ([0, 1, 2, 6, 8, 16, 48, 112] : List Int) := by
 unfold cA regA numA memA
 repeat' (refine bif_mem ?_ ?_)
 all_goals decide
theorem onAB (w : World) (A B : On) : Blk ((w.alloc (.cells (op6 A) 24)).alloc (.cells (op6 B) 24)) w.heap.size 24 (op6 A) ∧ Blk ((w.alloc (.cells (op6 A) 24)).alloc (.cells (op6 B) 24)) (w.heap.size + 1) 24 (op6 B) ∧ Below w.heap.size w ((w.alloc (.cells (op6 A) 24)).alloc (.cells (op6 B) 24)) := by
 refine ⟨(Blk.new w 24 (op6 A)).alloc _, ?_, ((Below.refl w.heap.size w).alloc (Nat.le_refl _) _).alloc (by simp) _⟩
 have := Blk.new (w.alloc (.cells (op6 A) 24)) 24 (op6 B)
 rwa [World.size_alloc] at this
theorem onS {w W W' : World} {A B : On} {p q : Nat} (b : Below w.heap.size w W) (a : Blk W p 24 (op6 A)) (c : Blk W q 24 (op6 B)) (x : Below W.heap.size W W') : Below w.heap.size w W' ∧ Blk W' p 24 (op6 A) ∧ Blk W' q 24 (op6 B)
  ∧ W'.cell? ⟨p, 0, none⟩ = some (.int .i64 A.k) ∧ W'.cell? ⟨p, 1, none⟩ = some (.int .i64 A.r) ∧ W'.cell? ⟨p, 2, none⟩ = some (.int .u32 A.m) ∧ W'.cell? ⟨p, 3, none⟩ = some (.int .i64 A.b) ∧ W'.cell? ⟨p, 4, none⟩ = some (.int .i64 A.x) ∧ W'.cell? ⟨p, 5, none⟩ = some (.int .u32 A.s)
  ∧ W'.cell? ⟨q, 0, none⟩ = some (.int .i64 B.k) ∧ W'.cell? ⟨q, 1, none⟩ = some (.int .i64 B.r) ∧ W'.cell? ⟨q, 2, none⟩ = some (.int .u32 B.m) ∧ W'.cell? ⟨q, 3, none⟩ = some (.int .i64 B.b) ∧ W'.cell? ⟨q, 4, none⟩ = some (.int .i64 B.x) ∧ W'.cell? ⟨q, 5, none⟩ = some (.int .u32 B.s) := by
 have a' := a.below x a.lt
 have c' := c.below x c.lt
 exact ⟨b.trans (x.mono b.size), a', c', a'.cell rfl, a'.cell rfl, a'.cell rfl, a'.cell rfl, a'.cell rfl, a'.cell rfl, c'.cell rfl, c'.cell rfl, c'.cell rfl, c'.cell rfl, c'.cell rfl, c'.cell rfl⟩
end Go.Proofs.YtcgleggdochbeaaDoor
namespace Go.Proofs.YtcgleggdochbeaaDoor
open Go.RowKit
set_option linter.unusedVariables false
/-! ### BitsBack -/
/-! ### Signs -/
/-! ### Fields -/
theorem field_low (x : Int) (k : Nat) (hk : k ≤ 32) : fieldS x 0 k = x % 2 ^ k := by
 unfold fieldS
 rw [show held0 (k : Int) = k by unfold held0; split <;> (try split) <;> omega, show mov x 0 = x by unfold mov; simp]
theorem field_at (x : Int) (k n : Nat) (hn : n ≤ 32) (hk : k ≤ 32) : fieldS x k n = x / 2 ^ k % 2 ^ n := by
 unfold fieldS
 rw [show held0 (n : Int) = n by unfold held0; split <;> (try split) <;> omega]
 unfold mov; rw [if_pos (by omega), Int.toNat_natCast, show min k 32 = k by omega]
/-! ### Parity -/
/-! ### BitsLong -/
/-! ### BitsBytes -/
end Go.Proofs.YtcgleggdochbeaaDoor
namespace Go.Proofs.YtcgleggdochbeaaDoor
open Go.RowKit
set_option linter.unusedVariables false
set_option linter.unusedSimpArgs false
def le4 (zs : List Int) (p : Nat) : Int := zs.getD p 0 + zs.getD (p + 1) 0 * 256 + zs.getD (p + 2) 0 * 65536 + zs.getD (p + 3) 0 * 16777216
def num (zs : List Int) (p n : Nat) : Int := if n = 1 then zs.getD p 0 else le4 zs p
def sx (z : Int) : Int := IntKind.i8.wrap z % 4294967296
def distM (zs : List Int) (p : Nat) (how base x s : Int) : Option (On × Nat) :=
  if how = 1 then (if p + 1 ≤ zs.length then some (onMem (sx (zs.getD p 0)) base x s, p + 1) else none)
  else if how = 2 then (if p + 4 ≤ zs.length then some (onMem (le4 zs p) base x s, p + 4) else none)
  else if base = 5 then (if p + 4 ≤ zs.length then some (onMem (le4 zs p) (-1) x s, p + 4) else none)
  else some (onMem 0 base x s, p)
def placeM (zs : List Int) (p : Nat) (m : Int) : Option (On × Nat) :=
  if m / 64 % 4 = 3 then some (onReg (m % 8), p)
  else if m % 8 = 4 then
    (if p + 1 ≤ zs.length then
      (if zs.getD p 0 / 8 % 8 = 4 then distM zs (p + 1) (m / 64 % 4) (zs.getD p 0 % 8) (-1) 1
       else distM zs (p + 1) (m / 64 % 4) (zs.getD p 0 % 8) (zs.getD p 0 / 8 % 8) (2 ^ (zs.getD p 0 / 64 % 4).toNat))
     else none)
  else distM zs p (m / 64 % 4) (m % 8) (-1) 1
def operM (zs : List Int) (c m : Int) (p : Nat) (k : Int) : Option (On × Nat) :=
  if k = 1 then some (onReg 0, p) else
  if k = 2 then some (onReg 1, p) else
  if k = 3 then some (onImm 1, p) else
  if k = 4 then some (onReg (c % 8), p) else
  if k = 5 then some (onReg (m / 8 % 8), p) else
  if k = 6 then placeM zs p m else
  if k = 7 then (if p + 1 ≤ zs.length then some (onImm (zs.getD p 0), p + 1) else none) else
  if k = 8 then (if p + 1 ≤ zs.length then some (onImm (sx (zs.getD p 0)), p + 1) else none) else
  if k = 9 then (if p + 4 ≤ zs.length then some (onImm (le4 zs p), p + 4) else none) else
  some (onZ, p)
def opM (c m : Int) (r : Rw) : Int := if r.op < 54 then r.op else grp (r.op - 54).toNat ((if r.g = 65479 then c else m) / 8 % 8).toNat
def inZ : In := ⟨0, 0, onZ, onZ, false, 0⟩
def restM (zs : List Int) (c m : Int) (p : Nat) (r : Rw) : Except Int In :=
  if opM c m r = 0 then .ok inZ else
  if opM c m r = -1 then .error 90 else
  match operM zs c m p r.a with
  | none => .error 10
  | some (A, q) =>
  match operM zs c m q r.b with
  | none => .error 10
  | some (B, q') => .ok ⟨opM c m r, if r.g = 65520 then c % 16 else 0, A, B, c / 256 == 243, q'⟩
def byM (zs : List Int) (c : Int) (p : Nat) (r : Rw) : Except Int In :=
  if r.a = 6 ∨ r.b = 6 then (if p + 1 ≤ zs.length then restM zs c (zs.getD p 0) (p + 1) r else .error 10) else restM zs c 0 p r
def fitB (c : Int) (r : Rw) : Bool := bits .and .u32 c r.g == r.c
def firstM (zs : List Int) (c : Int) (p : Nat) : List Rw → Except Int (Option In)
  | [] => .ok none
  | r :: rs => if fitB c r then (match byM zs c p r with
      | .error x => .error x
      | .ok i => if isB i then .ok (some i) else firstM zs c p rs) else firstM zs c p rs
def openM (zs : List Int) : Option (Int × Nat) :=
  if 1 ≤ zs.length then
    (if zs.getD 0 0 = 15 ∨ zs.getD 0 0 = 217 ∨ zs.getD 0 0 = 243 then
      (if 2 ≤ zs.length then some (zs.getD 0 0 * 256 + zs.getD 1 0, 2) else none)
     else some (zs.getD 0 0, 1))
  else none
def decM (zs : List Int) : Except Int In :=
  match openM zs with
  | none => .error 10
  | some (c, p) => match firstM zs c p (singleL ++ doubleL) with
    | .error x => .error x
    | .ok none => .error 12
    | .ok (some i) => .ok i
def decI (zs : List Int) : In := match decM zs with | .ok i => i | .error _ => inZ
def decE (zs : List Int) : Int := match decM zs with | .ok _ => 0 | .error x => x
theorem num1 (zs : List Int) (p : Nat) : num zs p 1 = zs.getD p 0 := rfl
theorem num4 (zs : List Int) (p : Nat) : num zs p 4 = le4 zs p := rfl
theorem word_take (zs : List Int) (p n : Nat) (hn : n = 1 ∨ n = 4) (h : p + n ≤ zs.length) : wordS ((zs.drop p).take n) = num zs p n := by
  have g : ∀ i, i < n → ((zs.drop p).take n).getD i 0 = zs.getD (p + i) 0 := fun i hi => by
    simp [List.getD_eq_getElem?_getD, List.getElem?_take, hi, List.getElem?_drop]
  have o : ∀ i, n ≤ i → ((zs.drop p).take n).getD i 0 = 0 := fun i hi => by
    simp [List.getD_eq_getElem?_getD, List.getElem?_take, Nat.not_lt.2 hi]
  rcases hn with rfl | rfl
  · unfold wordS
    rw [g 0 (by decide), o 1 (by decide), o 2 (by decide), o 3 (by decide)]
    simp [num]
  · unfold wordS
    rw [g 0 (by decide), g 1 (by decide), g 2 (by decide), g 3 (by decide)]
    simp [num, le4]
theorem sx_bd (z : Int) : 0 ≤ sx z ∧ sx z ≤ 4294967295 := by unfold sx; omega
theorem openM_bd {zs : List Int} (hz : ∀ z ∈ zs, 0 ≤ z ∧ z ≤ 255) {c : Int} {p : Nat} (h : openM zs = some (c, p)) : 0 ≤ c ∧ c ≤ 65535 ∧ p ≤ zs.length := by
  have b0 := getD_bd hz 0
  have b1 := getD_bd hz 1
  unfold openM at h
  split at h
  · split at h
    · split at h
      · obtain ⟨rfl, rfl⟩ := Prod.mk.inj (Option.some.inj h); omega
      · cases h
    · obtain ⟨rfl, rfl⟩ := Prod.mk.inj (Option.some.inj h); omega
  · cases h
theorem distM_le {zs : List Int} {p : Nat} {how base x s : Int} {o : On} {q : Nat} (hp : p ≤ zs.length) (h : distM zs p how base x s = some (o, q)) : p ≤ q ∧ q ≤ zs.length := by
  unfold distM at h
  (repeat' split at h) <;> first | (cases h; done) | (obtain ⟨-, rfl⟩ := Prod.mk.inj (Option.some.inj h); omega)
theorem placeM_le {zs : List Int} {p : Nat} {m : Int} {o : On} {q : Nat} (hp : p ≤ zs.length) (h : placeM zs p m = some (o, q)) : p ≤ q ∧ q ≤ zs.length := by
  unfold placeM at h
  (repeat' split at h) <;> first | (cases h; done) | (obtain ⟨-, rfl⟩ := Prod.mk.inj (Option.some.inj h); omega) | (have := distM_le (by omega) h; omega)
theorem operM_le {zs : List Int} {c m : Int} {p : Nat} {k : Int} {o : On} {q : Nat} (hp : p ≤ zs.length) (h : operM zs c m p k = some (o, q)) : p ≤ q ∧ q ≤ zs.length := by
  unfold operM at h
  (repeat' split at h) <;> first | (cases h; done) | (obtain ⟨-, rfl⟩ := Prod.mk.inj (Option.some.inj h); omega) | exact placeM_le hp h
end Go.Proofs.YtcgleggdochbeaaDoor
