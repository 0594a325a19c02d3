/- What a call turns of memory; cells set, spliced, cleared (no program). -/
import Derived.Test.YtmlaancmacipoaaKit
import Derived.Laws.CopyRow
import Derived.Lib.BufferWrite
import Derived.Deep.WholeRow
import Derived.Below
namespace Go.Proofs.Ytmlaancmacipoaa
open Go.RowKit
set_option linter.unusedVariables false
set_option linter.unusedSimpArgs false
set_option linter.unusedSectionVars false

/-! ### What a call turns of memory -/

/-- Below n nothing has turned but the blocks in S. -/
structure But (S : List Nat) (n : Nat) (w w' : World) : Prop where
  os : w'.os = w.os
  tape : w'.tape = w.tape
  output : w'.output = w.output
  size : w.heap.size ≤ w'.heap.size
  block : ∀ k, k < n → k ∉ S → w'.heap[k]? = w.heap[k]?
theorem But.of {n : Nat} {w w' : World} (h : Below n w w') (S : List Nat) : But S n w w' := ⟨h.os, h.tape, h.output, h.size, fun k hk _ => h.block k hk⟩
theorem But.refl (S : List Nat) (n : Nat) (w : World) : But S n w w := But.of (Below.refl n w) S
theorem But.trans {S : List Nat} {n : Nat} {a b c : World} (h : But S n a b) (k : But S n b c) : But S n a c :=
  ⟨k.os.trans h.os, k.tape.trans h.tape, k.output.trans h.output, Nat.le_trans h.size k.size, fun i hi hs => (k.block i hi hs).trans (h.block i hi hs)⟩
theorem But.mono {S S' : List Nat} {n n' : Nat} {w w' : World} (h : But S n w w') (hn : n' ≤ n) (hS : ∀ k, k ∈ S → k ∈ S' ∨ n' ≤ k) : But S' n' w w' :=
  ⟨h.os, h.tape, h.output, h.size, fun k hk hs => h.block k (by omega) (fun hm => by rcases hS k hm with h1 | h1; exact hs h1; omega)⟩
theorem But.below {S : List Nat} {n n' : Nat} {w w' : World} (h : But S n w w') (hn : n' ≤ n) (hS : ∀ k, k ∈ S → n' ≤ k) : Below n' w w' :=
  ⟨h.os, h.tape, h.output, h.size, fun k hk => h.block k (by omega) (fun hm => by have := hS k hm; omega)⟩
theorem But.setCell {S : List Nat} {n : Nat} {a w : World} (h : But S n a w) {p : Addr} (hp : p.block ∈ S) (u : Value) : But S n a (w.setCell p u) :=
  h.trans ⟨rfl, rfl, rfl, by simp [World.setCell], fun k hk hs => Below.heap_setCell _ _ _ _ (fun e => hs (e ▸ hp))⟩
theorem But.alloc {S : List Nat} {n : Nat} {a w : World} (h : But S n a w) (hn : n ≤ w.heap.size) (o : Obj) : But S n a (w.alloc o) :=
  h.trans (But.of ((Below.refl n w).alloc hn o) S)
theorem But.setRow {S : List Nat} {n : Nat} {a w : World} (h : But S n a w) {g : Nat} (hg : g ∈ S) (cs : Array Value) : But S n a (w.setRow g cs) :=
  h.trans ⟨rfl, rfl, rfl, by simp [World.setRow], fun k hk hs => setRow_other w g k cs (fun e => hs (e ▸ hg))⟩
theorem But.drew {S : List Nat} {n : Nat} {a w : World} (h : But S n a w) : But S n a w.drew := ⟨h.os, h.tape, h.output, h.size, h.block⟩
/-- Behind a call, what was there before is there still. -/
theorem below_but {S : List Nat} {n : Nat} {a b c : World} (h : Below n a b) (k : But S b.heap.size b c) (hn : n ≤ b.heap.size) (hS : ∀ k, k ∈ S → n ≤ k) : Below n a c :=
  h.trans (k.below hn hS)
theorem heap_set {w : World} {B i : Nat} {cs : Array Value} {t : TypeId} {v : Value} (h : w.heap[B]? = some (.cells cs t (0, 0))) : (w.setCell ⟨B, i, none⟩ v).heap[B]? = some (.cells (cs.setIfInBounds i v) t (0, 0)) := by
  simp only [World.setCell, Array.getElem?_modify, h]; simp
theorem set_at {cs : Array Value} {i j : Nat} {v : Value} (hi : i < cs.size) : (cs.setIfInBounds i v)[j]? = if i = j then some v else cs[j]? := by
  rw [Array.getElem?_setIfInBounds]; simp [hi]
theorem splice_at (cs : Array Value) (o : Nat) (l : List Value) (h : o + l.length ≤ cs.size) (j : Nat) :
    ((cs.toList.take o ++ l ++ cs.toList.drop (o + l.length)).toArray)[j]? = if j < o then cs[j]? else if j < o + l.length then l[j - o]? else cs[j]? := by
  have ho : min o cs.size = o := by omega
  by_cases h1 : j < o
  · rw [if_pos h1]; simp [List.getElem?_append, List.getElem?_take, h1, ho, show j < o + l.length by omega]
  · rw [if_neg h1]
    by_cases h2 : j < o + l.length
    · rw [if_pos h2]; simp [List.getElem?_append, List.getElem?_take, h1, h2, ho]; intro hh; omega
    · rw [if_neg h2]; simp [List.getElem?_append, List.getElem?_take, h1, h2, ho]
      rw [if_neg (by omega), show o + l.length + (j - o - l.length) = j by omega]
theorem size_of_cell {W : World} {b o : Nat} {v : Value} (h : W.cell? ⟨b, o, none⟩ = some v) : b < W.heap.size := by
  rcases Nat.lt_or_ge b W.heap.size with h1 | h1
  · exact h1
  · simp [World.cell?, Array.getElem?_eq_none h1] at h
/-- 'clear' of a part of a row. -/
theorem run_clear_row {P : Program} (w : World) (t e ty T : TypeId) (z : Value) (ht : P.underlying t = some (.slice e)) (hv : ∀ w, (zeroValue e).run P w = .ok z w) (hz : z.cells = #[z]) (h1 : z.oneCell' = true) (g o n c : Nat) (hn : 0 < n)
    (cs : Array Value) (hg : w.heap[g]? = some (.cells cs T (0, 0))) (hle : o + n ≤ cs.size) :
    (Builtin.clear_ #[t] ty #[.slice (some ⟨g, o, none⟩) n c]).run P w = .ok (.tuple #[]) (w.setRow g (cs.toList.take o ++ List.replicate n z ++ cs.toList.drop (o + (List.replicate n z).length)).toArray) := by
  have hzc : (Builtin.zeroCells z.cells n).toList = List.replicate n z := by
    rw [hz]
    simp [Builtin.zeroCells]
    apply List.ext_getElem
    · simp
    · intro i h1 h2
      simp [Nat.mod_one]
  have hst := run_storeCells_at P g o T (List.replicate n z) 0 cs w hg (by simpa using hle) (by intro v hv'; rw [List.eq_of_mem_replicate hv']; exact h1)
  simp only [Nat.add_zero] at hst
  obtain ⟨m, rfl⟩ : ∃ m, n = m + 1 := ⟨n - 1, by omega⟩
  simp [Builtin.clear_, run_underlying ht, hv, hzc, hst]
end Go.Proofs.Ytmlaancmacipoaa
