/- Blocks of a call's own, cell by cell. -/
import Derived.Test.YtmlaancmacipoaaE0
import Derived.Laws.Rows
import Derived.Laws.Tables
import Derived.Deep.WholeRow
import Derived.Deep.MidRow
namespace Go.Proofs.Ytmlaancmacipoaa
open Go.RowKit
set_option linter.unusedVariables false
set_option linter.unusedSimpArgs false
set_option linter.unusedSectionVars false

/-- A block that holds these cells. -/
structure Blk (W : World) (N : Nat) (t : TypeId) (cs : Array Value) : Prop where
  h : W.heap[N]? = some (.cells cs t (0, 0))
theorem Blk.lt {W : World} {N : Nat} {t : TypeId} {cs : Array Value} (k : Blk W N t cs) : N < W.heap.size := (Array.getElem?_eq_some_iff.1 k.h).1
theorem Blk.cell {W : World} {N : Nat} {t : TypeId} {cs : Array Value} (k : Blk W N t cs) {i : Nat} {v : Value} (h : cs[i]? = some v) : W.cell? ⟨N, i, none⟩ = some v := by
  simp only [World.cell?, k.h]; simpa using h
theorem Blk.fr {W : World} {N : Nat} {t : TypeId} {cs : Array Value} (k : Blk W N t cs) (i : Nat) : W.frozen? ⟨N, i, none⟩ = false := by
  simp only [World.frozen?, k.h]; simp
theorem Blk.below {W W' : World} {N n : Nat} {t : TypeId} {cs : Array Value} (k : Blk W N t cs) (b : Below n W W') (hn : N < n) : Blk W' N t cs := ⟨(b.block N hn).trans k.h⟩
theorem Blk.but {S : List Nat} {W W' : World} {N n : Nat} {t : TypeId} {cs : Array Value} (k : Blk W N t cs) (b : But S n W W') (hn : N < n) (hS : N ∉ S) : Blk W' N t cs := ⟨(b.block N hn hS).trans k.h⟩
theorem Blk.alloc {W : World} {N : Nat} {t : TypeId} {cs : Array Value} (k : Blk W N t cs) (o : Obj) : Blk (W.alloc o) N t cs := k.below ((Below.refl _ _).alloc (Nat.le_refl _) o) k.lt
theorem Blk.drew {W : World} {N : Nat} {t : TypeId} {cs : Array Value} (k : Blk W N t cs) : Blk W.drew N t cs := ⟨k.h⟩
theorem Blk.new (W : World) (t : TypeId) (cs : Array Value) : Blk (W.alloc (.cells cs t)) W.heap.size t cs := ⟨alloc_new _ _⟩
theorem Blk.set {W : World} {N : Nat} {t : TypeId} {cs : Array Value} (k : Blk W N t cs) (i : Nat) (v : Value) : Blk (W.setCell ⟨N, i, none⟩ v) N t (cs.setIfInBounds i v) := ⟨heap_set k.h⟩
theorem Blk.other {W : World} {N M : Nat} {t : TypeId} {cs : Array Value} (k : Blk W N t cs) (i : Nat) (v : Value) (h : N ≠ M) : Blk (W.setCell ⟨M, i, none⟩ v) N t cs := ⟨(Below.heap_setCell _ _ _ _ h).trans k.h⟩
theorem Blk.row {W : World} {N : Nat} {t : TypeId} {cs : Array Value} (k : Blk W N t cs) (cs2 : Array Value) : Blk (W.setRow N cs2) N t cs2 := ⟨setRow_heap _ _ _ _ _ _ k.h⟩
theorem Blk.rowOther {W : World} {N M : Nat} {t : TypeId} {cs : Array Value} (k : Blk W N t cs) (cs2 : Array Value) (h : N ≠ M) : Blk (W.setRow M cs2) N t cs := ⟨(setRow_other W M N cs2 h).trans k.h⟩
theorem below_rowNew {n : Nat} {w W : World} (b : Below n w W) {N : Nat} (h : n ≤ N) (cs : Array Value) : Below n w (W.setRow N cs) :=
  (((But.of b [N])).setRow (g := N) (by simp) cs).below (Nat.le_refl _) (by simpa using h)
theorem alloc3 (w : World) (a b c : Obj) : (((w.alloc a).alloc b).alloc c).heap[w.heap.size]? = some a ∧ (((w.alloc a).alloc b).alloc c).heap[w.heap.size + 1]? = some b ∧ (((w.alloc a).alloc b).alloc c).heap[w.heap.size + 1 + 1]? = some c := by
  have h3 := alloc_new ((w.alloc a).alloc b) c
  have h2 := alloc_new (w.alloc a) b
  have h1 := alloc_new w a
  simp only [World.size_alloc] at h2 h3
  refine ⟨?_, ?_, h3⟩
  · rw [Below.heap_alloc _ _ _ (by simp; omega), Below.heap_alloc _ _ _ (by simp)]; exact h1
  · rw [Below.heap_alloc _ _ _ (by simp)]; exact h2
end Go.Proofs.Ytmlaancmacipoaa
