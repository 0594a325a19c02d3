/- The document's host steps. -/
import Derived.Test.YtbalnlodkiejcaaDoorQ3
import Derived.Deep.RegionHeld3
namespace Go.Proofs.YtbalnlodkiejcaaDoor
open Go.RowKit
set_option linter.unusedVariables false
set_option linter.unusedSimpArgs false
set_option linter.unusedSectionVars false

theorem isL_split {op d a b i : Int} (h : isL op d a b i = true) : (op = 1 ∨ 19 ≤ op ∧ op ≤ 27 → b = 0) ∧ (28 ≤ op ∧ op ≤ 45 → i = 0) := by
  obtain ⟨k, rfl, h1, h2, h3, h4⟩ := isL_kind h
  obtain ⟨g1, g2, g3, g4, g5, g6⟩ := okF_regs h3
  clear h h3 h4 g1 g2 g6
  refine ⟨fun hk => ?_, fun hk => ?_⟩
  · have hT : hasT (formN k) = false := by
      have : k = 1 ∨ k = 19 ∨ k = 20 ∨ k = 21 ∨ k = 22 ∨ k = 23 ∨ k = 24 ∨ k = 25 ∨ k = 26 ∨ k = 27 := by omega
      rcases this with rfl | rfl | rfl | rfl | rfl | rfl | rfl | rfl | rfl | rfl <;> rfl
    rw [hT] at g3
    simpa [regL] using g3
  · have hF : leastN (formN k) = 0 ∧ greatestN (formN k) = 0 := by
      have : k = 28 ∨ k = 29 ∨ k = 30 ∨ k = 31 ∨ k = 32 ∨ k = 33 ∨ k = 34 ∨ k = 35 ∨ k = 36 ∨ k = 37 ∨ k = 38 ∨ k = 39 ∨ k = 40 ∨ k = 41 ∨ k = 42 ∨ k = 43 ∨ k = 44 ∨ k = 45 := by omega
      rcases this with rfl | rfl | rfl | rfl | rfl | rfl | rfl | rfl | rfl | rfl | rfl | rfl | rfl | rfl | rfl | rfl | rfl | rfl <;> exact ⟨rfl, rfl⟩
    rw [hF.1] at g4
    rw [hF.2] at g5
    omega
theorem RAt.drewN {w : World} {R M : Nat} {s : St} (h : RAt w R M s) (n : Nat) : RAt (w.drewN n) R M s := ⟨h.gl, h.gm, h.ne, h.blk, h.mem, h.ok⟩
set_option maxHeartbeats 2000000 in
set_option maxRecDepth 20000 in
theorem rStep_nofetch {R M : Nat} {s : St} {w : World} (h : RAt w R M s) (hf : fitsL s.pc 4 = false) :
    Calls Tryd.prog 11 #[rp R] w fun e w' => e = .returned (.int .i64 5) ∧ RAt w' R M { s with why := s.pc } ∧ But [R, M] w.heap.size w w' := by
  have bpc := h.ok.pc
  have hpc := h.pc
  have hL := rLoad_no h s.pc 4 bpc (by decide) hf
  have hw1 := h.why
  have hf1 := h.fr 34
  go_enter Tryd.func11, Tryd.ntmps11
  go_wp2_with fail
  refine hL.mono ?_
  rintro e w1 ⟨rfl, rfl⟩
  go_wp2_with fail
  go_ret
  exact ⟨rfl, h.set_why bpc, (But.refl _ _ _).setCell (by simp) _⟩
set_option maxHeartbeats 2000000 in
set_option maxRecDepth 20000 in
theorem rStep_noword {R M : Nat} {s : St} {w : World} (h : RAt w R M s) (hf : fitsL s.pc 4 = true) (hd : decL (wordM s.m s.pc 4) = none) :
    Calls Tryd.prog 11 #[rp R] w fun e w' => e = .returned (.int .i64 6) ∧ RAt w' R M s ∧ But [R, M] w.heap.size w w' := by
  have bpc := h.ok.pc
  have hpc := h.pc
  have hL := rLoad_yes h s.pc 4 bpc (by decide) hf
  have hD := fun W => rdec_any (wordM s.m s.pc 4) (wordM_bd h.ok.m _ _) W
  rw [hd, show wordO (wordM s.m s.pc 4) none = .tuple #[wordV 0 0 0 0 0, .bool false] from rfl] at hD
  generalize wordM s.m s.pc 4 = x at *
  go_enter Tryd.func11, Tryd.ntmps11
  go_wp2_with fail
  refine hL.mono ?_
  rintro e w1 ⟨rfl, k1⟩
  go_wp2_with fail
  refine (hD _).mono ?_
  rintro e w2 ⟨rfl, k2⟩
  have h1 := h.below k1 h.lt h.ltm
  have h2 := h1.below k2 h1.lt h1.ltm
  have kb := (But.of k1 [R, M]).trans (But.of (k2.mono k1.size) [R, M])
  go_wp2_with fail
  go_ret
  exact ⟨rfl, h2.alloc _, kb.alloc kb.size _⟩
/-- Where a word was decoded, and lies. -/
structure Mid (w W : World) (R M L : Nat) (s : St) (op d a b i : Int) : Prop where
  h : RAt W R M s
  k : But [R, M] w.heap.size w W
  c0 : W.cell? ⟨L, 0, none⟩ = some (.int .i64 op)
  c1 : W.cell? ⟨L, 1, none⟩ = some (.int .i64 d)
  c2 : W.cell? ⟨L, 2, none⟩ = some (.int .i64 a)
  c3 : W.cell? ⟨L, 3, none⟩ = some (.int .i64 b)
  c4 : W.cell? ⟨L, 4, none⟩ = some (.int .i32 i)
  l : w.heap.size ≤ L
theorem Mid.drewN {w W : World} {R M L : Nat} {s : St} {op d a b i : Int} (m : Mid w W R M L s op d a b i) (n : Nat) : Mid w (W.drewN n) R M L s op d a b i :=
  ⟨m.h.drewN n, ⟨m.k.os, m.k.tape, m.k.output, m.k.size, m.k.block⟩, m.c0, m.c1, m.c2, m.c3, m.c4, m.l⟩
theorem Mid.alloc {w W : World} {R M L : Nat} {s : St} {op d a b i : Int} (m : Mid w W R M L s op d a b i) (o : Obj) : Mid w (W.alloc o) R M L s op d a b i := by
  have hL := size_of_cell m.c0
  have e : ∀ j : Nat, (W.alloc o).cell? ⟨L, j, none⟩ = W.cell? ⟨L, j, none⟩ := fun j => Below.cell ((Below.refl W.heap.size W).alloc (Nat.le_refl _) o) (p := ⟨L, j, none⟩) hL
  exact ⟨m.h.alloc _, m.k.alloc m.k.size _, (e 0).trans m.c0, (e 1).trans m.c1, (e 2).trans m.c2, (e 3).trans m.c3, (e 4).trans m.c4, m.l⟩
end Go.Proofs.YtbalnlodkiejcaaDoor
