/- Steps as they lie in memory; a step of both memories, whatever it is. -/
import Derived.Test.YtohkfkojheecoaaQ1
import Derived.Test.YtohkfkojheecoaaQ2
import Derived.Test.YtohkfkojheecoaaP5
namespace Go.Proofs.Ytohkfkojheecoaa
open Go.RowKit
set_option linter.unusedVariables false
set_option linter.unusedSimpArgs false
set_option linter.unusedSectionVars false

structure Stp where
  wh : Int
  pg : Int
  ct : Int
  rt : Int
  n : Int
  a : Int
  v : Int
  zs : List Int
  L : List Sp
  xb : Option Addr
  lb : Nat
  cb : Nat
  xs : Option Addr
  ls : Nat
  cs : Nat
structure StpC (b o : Nat) (s : Stp) (W : World) : Prop where
  c0 : W.cell? ⟨b, o, none⟩ = some (.int .i64 s.wh)
  c1 : W.cell? ⟨b, o + 1, none⟩ = some (.int .i64 s.pg)
  c2 : W.cell? ⟨b, o + 2, none⟩ = some (.int .i64 s.ct)
  c3 : W.cell? ⟨b, o + 3, none⟩ = some (.int .i64 s.rt)
  c4 : W.cell? ⟨b, o + 4, none⟩ = some (.int .i64 s.n)
  c5 : W.cell? ⟨b, o + 5, none⟩ = some (.int .u32 s.a)
  c6 : W.cell? ⟨b, o + 6, none⟩ = some (.int .u32 s.v)
  c7 : W.cell? ⟨b, o + 7, none⟩ = some (.slice s.xb s.lb s.cb)
  c8 : W.cell? ⟨b, o + 8, none⟩ = some (.slice s.xs s.ls s.cs)
theorem StpC.below {b o n : Nat} {s : Stp} {w W : World} (h : StpC b o s w) (k : Below n w W) (hb : b < n) : StpC b o s W := by
  obtain ⟨c0, c1, c2, c3, c4, c5, c6, c7, c8⟩ := h
  constructor
  all_goals (rw [k.cell (by exact hb)]; assumption)
theorem Row8.in_heap {w : World} {x : Option Addr} {len b off : Nat} {zs : List Int} (h : Row8 w x len zs) (h0 : 0 < len) (e : x = some ⟨b, off, none⟩) : b < w.heap.size := by
  obtain ⟨h1, -, h3⟩ := h
  rcases h3 with h3 | ⟨b', off', e', h3, -⟩
  · subst h3; simp at h1; omega
  · rw [e] at e'; cases e'; exact h3
theorem SpansAt.in_heap {w : World} {x : Option Addr} {len b off : Nat} {L : List Sp} (h : SpansAt w x len L) (h0 : 0 < len) (e : x = some ⟨b, off, none⟩) : b < w.heap.size := by
  obtain ⟨h1, -, h3⟩ := h
  rcases h3 with h3 | ⟨b', off', e', h3, -⟩
  · subst h3; simp at h1; omega
  · rw [e] at e'; cases e'; exact h3
structure StepAt (w : World) (s : Stp) : Prop where
  pg : I64 s.pg
  n : I64 s.n
  a : U32 s.a
  v : U32 s.v
  r : Row8 w s.xb s.lb s.zs
  rl : s.lb ≤ 9223372036854775807
  q : SpansAt w s.xs s.ls s.L
  ql : s.ls ≤ 9223372036854775807
def StepsAt (w : World) (x : Option Addr) (len : Nat) (T : List Stp) : Prop :=
  T.length = len ∧ (T = [] ∨ ∃ b off, x = some ⟨b, off, none⟩ ∧ b < w.heap.size ∧ ∀ (i : Nat) (s : Stp), T[i]? = some s → StpC b (off + 9 * i) s w ∧ StepAt w s)
theorem ix_step (b off len cap k : Nat) (h : k < len) (W : World) : (Instr.indexAt 22 (.slice (some ⟨b, off, none⟩) len cap) (.int .i64 k)).run Try.prog W = .ok (.pointer (some ⟨b, off + 9 * k, none⟩)) W := by
  have s1 : ∀ W, (sizeOf 35).run Try.prog W = .ok 9 W := fun W => by kernel_rfl
  simp [Instr.indexAt, run_underlying Try.underlying22, s1, go_sem, h]
theorem Bp.self {n0 : Nat} {w0 w : World} {B R : Nat} {m t : Mm} (b : Bp n0 w0 w B R m t) : Bp w.heap.size w w B R m t := ⟨b.h, b.r, b.ok, b.ok2, But.refl _ _ _, b.ne, Nat.le_refl _⟩
theorem step_any {B R : Nat} {m : Mm} {w0 w : World} (s : Stp) (hs : StepAt w0 s) (kb : Below w0.heap.size w0 w) (hB : w0.heap.size ≤ B) (hR : w0.heap.size ≤ R) (b : Bp w.heap.size w w B R m m) :
    Calls Try.prog 11 #[mp B, mp R, .agg #[.int .i64 s.wh, .int .i64 s.pg, .int .i64 s.ct, .int .i64 s.rt, .int .i64 s.n, .int .u32 s.a, .int .u32 s.v, .slice s.xb s.lb s.cb, .slice s.xs s.ls s.cs]] w fun e w' => e = .returned (.bool true) ∧ (∃ m', Bp w'.heap.size w' w' B R m' m') ∧ Below w0.heap.size w w' := by
  obtain ⟨p1, p2, p3, p4, p5, p6, p8, p9⟩ := hs
  obtain ⟨wh, pg, ct, rt, n, a, v, zs, L, xb, lb, cb, xs, ls, cs⟩ := s
  dsimp only at *
  have hsz := kb.size
  have fin : ∀ (e : Ending) (w' : World) (m' : Mm), (e = .returned (.bool true) ∧ Bp w.heap.size w w' B R m' m') → e = .returned (.bool true) ∧ (∃ m', Bp w'.heap.size w' w' B R m' m') ∧ Below w0.heap.size w w' :=
    fun e w' m' h => ⟨h.1, ⟨m', h.2.self⟩, h.2.k.below hsz (by simp [hB, hR])⟩
  by_cases h0 : wh = 0
  · subst h0; exact (step_map pg ct rt n a v xb lb cb xs ls cs b p1).mono fun e w' h => fin e w' _ h
  by_cases h1 : wh = 1
  · subst h1; exact (step_unm pg ct rt n a v xb lb cb xs ls cs b p1).mono fun e w' h => fin e w' _ h
  by_cases h2 : wh = 2
  · subst h2; exact (step_prot pg ct rt n a v xb lb cb xs ls cs b p1).mono fun e w' h => fin e w' _ h
  by_cases h3 : wh = 3
  · subst h3; exact (step_write3 pg ct rt n a v xb lb cb xs ls cs b p3 p4).mono fun e w' h => fin e w' _ h
  by_cases h4 : wh = 4
  · subst h4; exact (step_write4 pg ct rt n a v xb lb cb xs ls cs b p3 p4).mono fun e w' h => fin e w' _ h
  by_cases h5 : wh = 5
  · subst h5; exact (step_read pg ct rt n a v xb lb cb xs ls cs b p3).mono fun e w' h => fin e w' _ h
  by_cases h6 : wh = 6
  · subst h6; exact (step_poke zs pg ct rt n a v xb lb cb xs ls cs b p3 (p5.below kb) p6 (fun h0 b' off e => by have := p5.in_heap h0 e; omega)).mono fun e w' h => fin e w' _ h
  exact (step_load L wh pg ct rt n a v xb lb cb xs ls cs b (by simp [h0, h1, h2, h3, h4, h5, h6]) (p8.below kb (Nat.le_refl _)) p9 (fun h0 b' off e => by have := p8.in_heap h0 e; omega)).mono fun e w' h => fin e w' _ h
end Go.Proofs.Ytohkfkojheecoaa
