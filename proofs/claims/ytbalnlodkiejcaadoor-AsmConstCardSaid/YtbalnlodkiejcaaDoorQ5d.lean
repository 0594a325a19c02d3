/- A step of the document's host, some of the words. -/
import Derived.Test.YtbalnlodkiejcaaDoorQ4
namespace Go.Proofs.YtbalnlodkiejcaaDoor
open Go.RowKit
set_option linter.unusedVariables false
set_option linter.unusedSimpArgs false
set_option linter.unusedSectionVars false

set_option maxHeartbeats 4000000 in
set_option maxRecDepth 20000 in
theorem rStep_Q5d {R M : Nat} {s : St} {w : World} (h : RAt w R M s) (hf : fitsL s.pc 4 = true) (op d a b i : Int) (he : wordO (wordM s.m s.pc 4) (decL (wordM s.m s.pc 4)) = .tuple #[wordV op d a b i, .bool true]) (hl : isL op d a b i = true) (hg : (28 ≤ op ∧ op ≤ 45)) (k : Int) (s' : St) (ht : (doL s op d a b i).told s = (k, s')) :
    Calls Tryd.prog 11 #[rp R] w fun e w' => e = .returned (.int .i64 k) ∧ RAt w' R M s' ∧ But [R, M] w.heap.size w w' := by
  have bpc := h.ok.pc
  have hpc := h.pc
  have hL := rLoad_yes h s.pc 4 bpc (by decide) hf
  have hD := fun W => rdec_any (wordM s.m s.pc 4) (wordM_bd h.ok.m _ _) W
  rw [he] at hD
  generalize wordM s.m s.pc 4 = x at hL hD
  clear he
  obtain ⟨bop, bd, ba, bb, bi⟩ := isL_regs hl
  obtain ⟨hb0, hi0⟩ := isL_split hl
  replace hb0 := hid hb0
  replace hi0 := hid hi0
  clear hl
  have bxa := h.ok.x a
  have bxb := h.ok.x b
  go_enter Tryd.func11, Tryd.ntmps11
  go_wp2_with fail
  refine hL.mono ?_
  rintro e w1 ⟨rfl, k1⟩
  go_wp2_with fail
  refine (hD _).mono ?_
  rintro e w2 ⟨rfl, k2⟩
  have h1 := h.below k1 h.lt h.ltm
  have h2 := h1.below k2 h1.lt h1.ltm
  have kb := (But.of k1 [R, M]).trans (But.of (k2.mono k1.size) [R, M])
  go_wp2_with fail
  have m : Mid w (w2.alloc (.cells #[.int .i64 op, .int .i64 d, .int .i64 a, .int .i64 b, .int .i32 i] 37)) R M w2.heap.size s op d a b i :=
    ⟨h2.alloc _, kb.alloc kb.size _, by simp, by simp, by simp, by simp, by simp, kb.size⟩
  generalize w2.alloc (.cells #[.int .i64 op, .int .i64 d, .int .i64 a, .int .i64 b, .int .i32 i] 37) = w3 at *
  generalize w2.heap.size = L at *
  clear k1 k2 h1 h2 kb hL hD hpc
  have c2 := m.c2
  have c3 := m.c3
  have c4 := m.c4
  obtain ⟨ra, rfl⟩ := Int.eq_ofNat_of_zero_le ba.1
  obtain ⟨rb, rfl⟩ := Int.eq_ofNat_of_zero_le bb.1
  have xa := m.h.x ra (by omega)
  have xb := m.h.x rb (by omega)
  go_quiet (fail)
  replace m := m.drewN nq
  generalize w3.drewN nq = w4 at *
  clear c2 c3 c4 xa xb
  have hap := hid (show fitsL s.pc 4 = true from hf)
  have hpc4 : s.pc % 4 = 0 := by
    have := hf
    rw [fits_4] at this
    simp at this
    exact this.1
  have p4 := m.h.pc
  have f32 := m.h.fr 32
  have f34 := m.h.fr 34
  have w34 := m.h.why
  have hlR : ¬ L = R := by have := m.l; have := h.lt; omega
  have c0 := m.c0
  have c1 := m.c1
  have c2 := m.c2
  have c3 := m.c3
  have c4 := m.c4
  have c0' : ∀ (j : Nat) (v : Value), (w4.setCell ⟨R, j, none⟩ v).cell? ⟨L, 0, none⟩ = some (.int .i64 op) := fun j v => (World.cell?_of_block (w := w4) (Below.heap_setCell _ _ _ _ hlR)).trans m.c0
  have eA : (s.x (ra : Int) + i % 4294967296) % 4294967296 = (s.x (ra : Int) + i) % 4294967296 := by omega
  have eB : (s.x (rb : Int) + i % 4294967296) % 4294967296 = (s.x (rb : Int) + i) % 4294967296 := by omega
  have eP : (s.pc + i % 4294967296) % 4294967296 = (s.pc + i) % 4294967296 := by omega
  have bV : 0 ≤ i % 4294967296 ∧ i % 4294967296 ≤ 4294967295 := by omega
  have hn4 : (s.pc + 4) % 4294967296 % 4 = 0 := by omega
  have bn4 : 0 ≤ (s.pc + 4) % 4294967296 ∧ (s.pc + 4) % 4294967296 ≤ 4294967295 := by omega
  have hle : w.heap.size ≤ w4.heap.size := m.k.size
  obtain ⟨V, hV⟩ : ∃ V, V = i % 4294967296 := ⟨_, rfl⟩
  rw [← hV] at eA eB eP bV ⊢
  have hop := hg
  rw [doL_alu _ _ _ _ _ _ (.inr (by omega)), hi0.out hop, show (s.x (rb : Int) + 0) % 4294967296 = s.x (rb : Int) by omega] at ht
  cases ht
  have bal := aluL_bd (op := op) bxa bxb
  have hA := fun w => (rAlu_any op (s.x (ra : Int)) (s.x (rb : Int)) hop bxa bxb w).mono fun e w' h => (⟨h.1, h.2.symm⟩ : e = .returned (.int .u32 (aluL op (s.x (ra : Int)) (s.x (rb : Int)))) ∧ w' = w)
  clear eA eB eP hV hpc4 hn4 c0' hi0
  have n1 : ¬ op = 1 := by omega
  have n2 : ¬ op = 2 := by omega
  have n3 : ¬ op = 3 := by omega
  have n4 : ¬ op = 4 := by omega
  have n46 : ¬ op = 46 := by omega
  have n47 : ¬ op = 47 := by omega
  have g5 : 5 ≤ op := by omega
  have g11 : 11 ≤ op := by omega
  have g16 : 16 ≤ op := by omega
  have g19 : 19 ≤ op := by omega
  have l10 : 10 < op := by omega
  have l15 : 15 < op := by omega
  have l18 : 18 < op := by omega
  have l27 : 27 < op := by omega
  clear hop
  go_wp2_with fail
  go_still_tail 8, (by kernel_rfl)
  still_call (hA _)
  repeat still_step
  refine wpStill_nil ?_
  change wpList _ _ _ _ _ w4.drew
  have m5 : Mid w w4.drew R M L s op d ra rb i := m.drewN 1
  generalize w4.drew = w5 at *
  go_wp2_with fail
  refine (rset_any m5.h d _ bd bal).mono ?_
  rintro e w7 ⟨rfl, h7, k7⟩
  have p7 := h7.pc
  have f7 := h7.fr 32
  go_wp2_with fail
  go_ret
  exact ⟨rfl, h7.set_pc bn4, (m5.k.trans (k7.mono m5.k.size (by simp))).setCell (by simp) _⟩
end Go.Proofs.YtbalnlodkiejcaaDoor
