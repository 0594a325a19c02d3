/- How the document's host lies in memory. -/
import Derived.Test.YtbalnlodkiejcaaDoorS0
namespace Go.Proofs.YtbalnlodkiejcaaDoor
open Go.RowKit
set_option linter.unusedVariables false
set_option linter.unusedSimpArgs false
set_option linter.unusedSectionVars false

structure RCells (cs : Array Value) (M : Nat) (s : St) : Prop where
  size : cs.size = 35
  x : ∀ i : Nat, i < 32 → cs[i]? = some (.int .u32 (s.x i))
  pc : cs[32]? = some (.int .u32 s.pc)
  m : cs[33]? = some (.slice (some ⟨M, 0, none⟩) 32768 32768)
  why : cs[34]? = some (.int .u32 s.why)
structure MCells (cs : Array Value) (m : Int → Int) : Prop where
  size : cs.size = 32768
  m : ∀ i : Nat, i < 32768 → cs[i]? = some (.int .u8 (m i))
structure RAt (w : World) (R M : Nat) (s : St) : Prop where
  gl : 2 ≤ R
  gm : 2 ≤ M
  ne : R ≠ M
  blk : ∃ cs, w.heap[R]? = some (.cells cs 32 (0, 0)) ∧ RCells cs M s
  mem : ∃ cs, w.heap[M]? = some (.cells cs 5 (0, 0)) ∧ MCells cs s.m
  ok : s.ok
theorem RAt.lt {w : World} {R M : Nat} {s : St} (h : RAt w R M s) : R < w.heap.size := by
  obtain ⟨cs, hc, -⟩ := h.blk
  exact (Array.getElem?_eq_some_iff.1 hc).1
theorem RAt.ltm {w : World} {R M : Nat} {s : St} (h : RAt w R M s) : M < w.heap.size := by
  obtain ⟨cs, hc, -⟩ := h.mem
  exact (Array.getElem?_eq_some_iff.1 hc).1
theorem RAt.but {S : List Nat} {w w' : World} {R M n : Nat} {s : St} (h : RAt w R M s) (hb : But S n w w') (hn : R < n) (hm : M < n) (hS : R ∉ S) (hT : M ∉ S) : RAt w' R M s := by
  obtain ⟨cs, hc, hcs⟩ := h.blk
  obtain ⟨ms, hm', hms⟩ := h.mem
  exact ⟨h.gl, h.gm, h.ne, ⟨cs, (hb.block R hn hS).trans hc, hcs⟩, ⟨ms, (hb.block M hm hT).trans hm', hms⟩, h.ok⟩
theorem RAt.below {w w' : World} {R M n : Nat} {s : St} (h : RAt w R M s) (hb : Below n w w') (hn : R < n) (hm : M < n) : RAt w' R M s := h.but (But.of hb []) hn hm (by simp) (by simp)
theorem RAt.alloc {w : World} {R M : Nat} {s : St} (h : RAt w R M s) (o : Obj) : RAt (w.alloc o) R M s := h.below ((Below.refl w.heap.size w).alloc (Nat.le_refl _) o) h.lt h.ltm
theorem RAt.drew {w : World} {R M : Nat} {s : St} (h : RAt w R M s) : RAt w.drew R M s := ⟨h.gl, h.gm, h.ne, h.blk, h.mem, h.ok⟩
theorem RAt.fr {w : World} {R M : Nat} {s : St} (h : RAt w R M s) (i : Nat) : w.frozen? ⟨R, i, none⟩ = false := by
  obtain ⟨cs, hc, -⟩ := h.blk
  simp only [World.frozen?, hc]; simp
theorem RAt.frm {w : World} {R M : Nat} {s : St} (h : RAt w R M s) (i : Nat) : w.frozen? ⟨M, i, none⟩ = false := by
  obtain ⟨cs, hc, -⟩ := h.mem
  simp only [World.frozen?, hc]; simp
theorem RAt.cell {w : World} {R M : Nat} {s : St} (h : RAt w R M s) {i : Nat} {v : Value} (hv : ∀ cs, RCells cs M s → cs[i]? = some v) : w.cell? ⟨R, i, none⟩ = some v := by
  obtain ⟨cs, hc, hcs⟩ := h.blk
  simp only [World.cell?, hc]; simpa using hv cs hcs
theorem RAt.x {w : World} {R M : Nat} {s : St} (h : RAt w R M s) (i : Nat) (hi : i < 32) : w.cell? ⟨R, i, none⟩ = some (.int .u32 (s.x i)) := h.cell fun _ c => c.x i hi
theorem RAt.pc {w : World} {R M : Nat} {s : St} (h : RAt w R M s) : w.cell? ⟨R, 32, none⟩ = some (.int .u32 s.pc) := h.cell fun _ c => c.pc
theorem RAt.sl {w : World} {R M : Nat} {s : St} (h : RAt w R M s) : w.cell? ⟨R, 33, none⟩ = some (.slice (some ⟨M, 0, none⟩) 32768 32768) := h.cell fun _ c => c.m
theorem RAt.why {w : World} {R M : Nat} {s : St} (h : RAt w R M s) : w.cell? ⟨R, 34, none⟩ = some (.int .u32 s.why) := h.cell fun _ c => c.why
theorem RAt.m {w : World} {R M : Nat} {s : St} (h : RAt w R M s) (i : Nat) (hi : i < 32768) : w.cell? ⟨M, i, none⟩ = some (.int .u8 (s.m i)) := by
  obtain ⟨cs, hc, hcs⟩ := h.mem
  simp only [World.cell?, hc]; simpa using hcs.m i hi
theorem heap_set_other {w : World} {B B' i : Nat} {v : Value} (h : B ≠ B') : (w.setCell ⟨B, i, none⟩ v).heap[B']? = w.heap[B']? := Below.heap_setCell _ _ _ _ (by simpa using h.symm)
theorem RAt.set {w : World} {R M : Nat} {s : St} (h : RAt w R M s) (i : Nat) (v : Value) (s' : St) (ok : s'.ok) (hm : s'.m = s.m) (hc : ∀ cs, RCells cs M s → RCells (cs.setIfInBounds i v) M s') : RAt (w.setCell ⟨R, i, none⟩ v) R M s' := by
  obtain ⟨cs, hb, hcs⟩ := h.blk
  obtain ⟨ms, hmb, hms⟩ := h.mem
  exact ⟨h.gl, h.gm, h.ne, ⟨_, heap_set hb, hc cs hcs⟩, ⟨ms, (heap_set_other h.ne).trans hmb, hm ▸ hms⟩, ok⟩
theorem RAt.set_pc {w : World} {R M : Nat} {s : St} (h : RAt w R M s) {v : Int} (hv : 0 ≤ v ∧ v ≤ 4294967295) : RAt (w.setCell ⟨R, 32, none⟩ (.int .u32 v)) R M { s with pc := v } :=
  h.set 32 _ _ (ok_pc h.ok hv) rfl fun cs c => by
    have e := fun j => set_at (cs := cs) (i := 32) (j := j) (v := .int .u32 v) (by rw [c.size]; decide)
    exact ⟨by rw [Array.size_setIfInBounds, c.size], fun i hi => by rw [e, if_neg (by omega)]; exact c.x i hi, by rw [e, if_pos rfl], by rw [e, if_neg (by decide)]; exact c.m, by rw [e, if_neg (by decide)]; exact c.why⟩
theorem RAt.set_why {w : World} {R M : Nat} {s : St} (h : RAt w R M s) {v : Int} (hv : 0 ≤ v ∧ v ≤ 4294967295) : RAt (w.setCell ⟨R, 34, none⟩ (.int .u32 v)) R M { s with why := v } :=
  h.set 34 _ _ (ok_why h.ok hv) rfl fun cs c => by
    have e := fun j => set_at (cs := cs) (i := 34) (j := j) (v := .int .u32 v) (by rw [c.size]; decide)
    exact ⟨by rw [Array.size_setIfInBounds, c.size], fun i hi => by rw [e, if_neg (by omega)]; exact c.x i hi, by rw [e, if_neg (by decide)]; exact c.pc, by rw [e, if_neg (by decide)]; exact c.m, by rw [e, if_pos rfl]⟩
theorem RAt.set_x {w : World} {R M : Nat} {s : St} (h : RAt w R M s) (i : Nat) (h0 : 0 < i) (h1 : i < 32) {v : Int} (hv : 0 ≤ v ∧ v ≤ 4294967295) : RAt (w.setCell ⟨R, i, none⟩ (.int .u32 v)) R M { s with x := setX s.x i v } :=
  h.set i _ _ (ok_x h.ok i hv) rfl fun cs c => by
    have e := fun j => set_at (cs := cs) (i := i) (j := j) (v := .int .u32 v) (by rw [c.size]; omega)
    refine ⟨by rw [Array.size_setIfInBounds, c.size], fun j hj => ?_, by rw [e, if_neg (by omega)]; exact c.pc, by rw [e, if_neg (by omega)]; exact c.m, by rw [e, if_neg (by omega)]; exact c.why⟩
    rw [e]
    dsimp only [setX]
    by_cases hij : i = j
    · rw [if_pos hij, if_pos (by omega)]
    · rw [if_neg hij, if_neg (by omega)]; exact c.x j hj
theorem RAt.set_m {w : World} {R M : Nat} {s : St} (h : RAt w R M s) (i : Nat) (h1 : i < 32768) {v : Int} (hv : 0 ≤ v ∧ v ≤ 255) : RAt (w.setCell ⟨M, i, none⟩ (.int .u8 v)) R M { s with m := fun k => if k = i then v else s.m k } := by
  obtain ⟨cs, hb, hcs⟩ := h.blk
  obtain ⟨ms, hmb, hms⟩ := h.mem
  refine ⟨h.gl, h.gm, h.ne, ⟨cs, (heap_set_other (Ne.symm h.ne)).trans hb, ⟨hcs.size, hcs.x, hcs.pc, hcs.m, hcs.why⟩⟩, ⟨_, heap_set hmb, ?_⟩, ⟨h.ok.x, h.ok.x0, h.ok.pc, h.ok.why, fun j => ?_⟩⟩
  · have e := fun j => set_at (cs := ms) (i := i) (j := j) (v := .int .u8 v) (by rw [hms.size]; omega)
    refine ⟨by rw [Array.size_setIfInBounds, hms.size], fun j hj => ?_⟩
    rw [e]
    by_cases hij : i = j
    · rw [if_pos hij]; simp [hij]
    · rw [if_neg hij]; simp only []; rw [if_neg (by omega)]; exact hms.m j hj
  · simp only []; split
    · exact hv
    · exact h.ok.m j
end Go.Proofs.YtbalnlodkiejcaaDoor
