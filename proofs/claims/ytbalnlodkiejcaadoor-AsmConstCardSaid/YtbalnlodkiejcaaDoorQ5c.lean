/- A step of the document's host, some of the words. -/
import Derived.Test.YtbalnlodkiejcaaDoorQ4
namespace Go.Proofs.YtbalnlodkiejcaaDoor
open Go.RowKit
set_option linter.unusedVariables false
set_option linter.unusedSimpArgs false
set_option linter.unusedSectionVars false

set_option maxHeartbeats 4000000 in
set_option maxRecDepth 20000 in
theorem rStep_Q5c {R M : Nat} {s : St} {w : World} (h : RAt w R M s) (hf : fitsL s.pc 4 = true) (op d a b i : Int) (he : wordO (wordM s.m s.pc 4) (decL (wordM s.m s.pc 4)) = .tuple #[wordV op d a b i, .bool true]) (hl : isL op d a b i = true) (hg : (19 ≤ op ∧ op ≤ 27)) (k : Int) (s' : St) (ht : (doL s op d a b i).told s = (k, s')) :
    Calls Tryd.prog 11 #[rp R] w fun e w' => e = .returned (.int .i64 k) ∧ RAt w' R M s' ∧ But [R, M] w.heap.size w w' := by
  have bpc := h.ok.pc
  have hpc := h.pc
  have hL := rLoad_yes h s.pc 4 bpc (by decide) hf
  have hD := fun W => rdec_any (wordM s.m s.pc 4) (wordM_bd h.ok.m _ _) W
  rw [he] at hD
  generalize wordM s.m s.pc 4 = x at hL hD
  clear he
  obtain ⟨bop, bd, ba, bb, bi⟩ := isL_regs hl
  obtain ⟨hb0, hi0⟩ := isL_split hl
  replace hb0 := hid hb0
  replace hi0 := hid hi0
  clear hl
  have bxa := h.ok.x a
  have bxb := h.ok.x b
  go_enter Tryd.func11, Tryd.ntmps11
  go_wp2_with fail
  refine hL.mono ?_
  rintro e w1 ⟨rfl, k1⟩
  go_wp2_with fail
  refine (hD _).mono ?_
  rintro e w2 ⟨rfl, k2⟩
  have h1 := h.below k1 h.lt h.ltm
  have h2 := h1.below k2 h1.lt h1.ltm
  have kb := (But.of k1 [R, M]).trans (But.of (k2.mono k1.size) [R, M])
  go_wp2_with fail
  have m : Mid w (w2.alloc (.cells #[.int .i64 op, .int .i64 d, .int .i64 a, .int .i64 b, .int .i32 i] 37)) R M w2.heap.size s op d a b i :=
    ⟨h2.alloc _, kb.alloc kb.size _, by simp, by simp, by simp, by simp, by simp, kb.size⟩
  generalize w2.alloc (.cells #[.int .i64 op, .int .i64 d, .int .i64 a, .int .i64 b, .int .i32 i] 37) = w3 at *
  generalize w2.heap.size = L at *
  clear k1 k2 h1 h2 kb hL hD hpc
  have c2 := m.c2
  have c3 := m.c3
  have c4 := m.c4
  obtain ⟨ra, rfl⟩ := Int.eq_ofNat_of_zero_le ba.1
  obtain ⟨rb, rfl⟩ := Int.eq_ofNat_of_zero_le bb.1
  have xa := m.h.x ra (by omega)
  have xb := m.h.x rb (by omega)
  go_quiet (fail)
  replace m := m.drewN nq
  generalize w3.drewN nq = w4 at *
  clear c2 c3 c4 xa xb
  have hap := hid (show fitsL s.pc 4 = true from hf)
  have hpc4 : s.pc % 4 = 0 := by
    have := hf
    rw [fits_4] at this
    simp at this
    exact this.1
  have p4 := m.h.pc
  have f32 := m.h.fr 32
  have f34 := m.h.fr 34
  have w34 := m.h.why
  have hlR : ¬ L = R := by have := m.l; have := h.lt; omega
  have c0 := m.c0
  have c1 := m.c1
  have c2 := m.c2
  have c3 := m.c3
  have c4 := m.c4
  have c0' : ∀ (j : Nat) (v : Value), (w4.setCell ⟨R, j, none⟩ v).cell? ⟨L, 0, none⟩ = some (.int .i64 op) := fun j v => (World.cell?_of_block (w := w4) (Below.heap_setCell _ _ _ _ hlR)).trans m.c0
  have eA : (s.x (ra : Int) + i % 4294967296) % 4294967296 = (s.x (ra : Int) + i) % 4294967296 := by omega
  have eB : (s.x (rb : Int) + i % 4294967296) % 4294967296 = (s.x (rb : Int) + i) % 4294967296 := by omega
  have eP : (s.pc + i % 4294967296) % 4294967296 = (s.pc + i) % 4294967296 := by omega
  have bV : 0 ≤ i % 4294967296 ∧ i % 4294967296 ≤ 4294967295 := by omega
  have hn4 : (s.pc + 4) % 4294967296 % 4 = 0 := by omega
  have bn4 : 0 ≤ (s.pc + 4) % 4294967296 ∧ (s.pc + 4) % 4294967296 ≤ 4294967295 := by omega
  have hle : w.heap.size ≤ w4.heap.size := m.k.size
  obtain ⟨V, hV⟩ : ∃ V, V = i % 4294967296 := ⟨_, rfl⟩
  rw [← hV] at eA eB eP bV ⊢
  have hop := hg
  have hx0 : s.x (rb : Int) = 0 := by rw [hb0.out (.inr hop)]; exact h.ok.x0
  rw [doL_alu _ _ _ _ _ _ (by omega), ← eB, hx0, show (0 + V) % 4294967296 = V by omega] at ht
  cases ht
  have bal := aluL_bd (op := op) bxa bV
  have hA := fun (o : Int) (ho : 28 ≤ o ∧ o ≤ 45) (he : aluL o (s.x (ra : Int)) V = aluL op (s.x (ra : Int)) V) w => (rAlu_any o (s.x (ra : Int)) V ho bxa bV w).mono fun e w' h => (⟨he ▸ h.1, h.2.symm⟩ : e = .returned (.int .u32 (aluL op (s.x (ra : Int)) V)) ∧ w' = w)
  clear eA eB eP hV hpc4 hn4 c0' hi0
  have hc : ∃ o : Int, (op = 19 ∧ o = 28 ∨ op = 20 ∧ o = 31 ∨ op = 21 ∧ o = 32 ∨ op = 22 ∧ o = 33 ∨ op = 23 ∧ o = 36 ∨ op = 24 ∧ o = 37 ∨ op = 25 ∧ o = 30 ∨ op = 26 ∧ o = 34 ∨ op = 27 ∧ o = 35) := by
    rcases (by omega : op = 19 ∨ op = 20 ∨ op = 21 ∨ op = 22 ∨ op = 23 ∨ op = 24 ∨ op = 25 ∨ op = 26 ∨ op = 27) with rfl | rfl | rfl | rfl | rfl | rfl | rfl | rfl | rfl
    · exact ⟨28, by omega⟩
    · exact ⟨31, by omega⟩
    · exact ⟨32, by omega⟩
    · exact ⟨33, by omega⟩
    · exact ⟨36, by omega⟩
    · exact ⟨37, by omega⟩
    · exact ⟨30, by omega⟩
    · exact ⟨34, by omega⟩
    · exact ⟨35, by omega⟩
  obtain ⟨o, hc⟩ := hc
  have hA' := hA o (by omega) (by rcases hc with ⟨rfl, rfl⟩ | ⟨rfl, rfl⟩ | ⟨rfl, rfl⟩ | ⟨rfl, rfl⟩ | ⟨rfl, rfl⟩ | ⟨rfl, rfl⟩ | ⟨rfl, rfl⟩ | ⟨rfl, rfl⟩ | ⟨rfl, rfl⟩ <;> rfl)
  clear hA hop
  rcases hc with ⟨rfl, rfl⟩ | ⟨rfl, rfl⟩ | ⟨rfl, rfl⟩ | ⟨rfl, rfl⟩ | ⟨rfl, rfl⟩ | ⟨rfl, rfl⟩ | ⟨rfl, rfl⟩ | ⟨rfl, rfl⟩ | ⟨rfl, rfl⟩
  all_goals
    (go_wp2_with fail
     have m5 := m.alloc (.cells #[.int .i64 28, .int .i64 31, .int .i64 32, .int .i64 33, .int .i64 36, .int .i64 37, .int .i64 30, .int .i64 34, .int .i64 35] 61)
     have q0 : (w4.alloc (.cells #[.int .i64 28, .int .i64 31, .int .i64 32, .int .i64 33, .int .i64 36, .int .i64 37, .int .i64 30, .int .i64 34, .int .i64 35] 61)).cell? ⟨w4.heap.size, 0, none⟩ = some (.int .i64 28) := by simp
     have q1 : (w4.alloc (.cells #[.int .i64 28, .int .i64 31, .int .i64 32, .int .i64 33, .int .i64 36, .int .i64 37, .int .i64 30, .int .i64 34, .int .i64 35] 61)).cell? ⟨w4.heap.size, 1, none⟩ = some (.int .i64 31) := by simp
     have q2 : (w4.alloc (.cells #[.int .i64 28, .int .i64 31, .int .i64 32, .int .i64 33, .int .i64 36, .int .i64 37, .int .i64 30, .int .i64 34, .int .i64 35] 61)).cell? ⟨w4.heap.size, 2, none⟩ = some (.int .i64 32) := by simp
     have q3 : (w4.alloc (.cells #[.int .i64 28, .int .i64 31, .int .i64 32, .int .i64 33, .int .i64 36, .int .i64 37, .int .i64 30, .int .i64 34, .int .i64 35] 61)).cell? ⟨w4.heap.size, 3, none⟩ = some (.int .i64 33) := by simp
     have q4 : (w4.alloc (.cells #[.int .i64 28, .int .i64 31, .int .i64 32, .int .i64 33, .int .i64 36, .int .i64 37, .int .i64 30, .int .i64 34, .int .i64 35] 61)).cell? ⟨w4.heap.size, 4, none⟩ = some (.int .i64 36) := by simp
     have q5 : (w4.alloc (.cells #[.int .i64 28, .int .i64 31, .int .i64 32, .int .i64 33, .int .i64 36, .int .i64 37, .int .i64 30, .int .i64 34, .int .i64 35] 61)).cell? ⟨w4.heap.size, 5, none⟩ = some (.int .i64 37) := by simp
     have q6 : (w4.alloc (.cells #[.int .i64 28, .int .i64 31, .int .i64 32, .int .i64 33, .int .i64 36, .int .i64 37, .int .i64 30, .int .i64 34, .int .i64 35] 61)).cell? ⟨w4.heap.size, 6, none⟩ = some (.int .i64 30) := by simp
     have q7 : (w4.alloc (.cells #[.int .i64 28, .int .i64 31, .int .i64 32, .int .i64 33, .int .i64 36, .int .i64 37, .int .i64 30, .int .i64 34, .int .i64 35] 61)).cell? ⟨w4.heap.size, 7, none⟩ = some (.int .i64 34) := by simp
     have q8 : (w4.alloc (.cells #[.int .i64 28, .int .i64 31, .int .i64 32, .int .i64 33, .int .i64 36, .int .i64 37, .int .i64 30, .int .i64 34, .int .i64 35] 61)).cell? ⟨w4.heap.size, 8, none⟩ = some (.int .i64 35) := by simp
     clear hle c0 c1 c2 c3 c4 p4 f32 f34 w34
     generalize w4.alloc (.cells #[.int .i64 28, .int .i64 31, .int .i64 32, .int .i64 33, .int .i64 36, .int .i64 37, .int .i64 30, .int .i64 34, .int .i64 35] 61) = w5 at *
     generalize w4.heap.size = L2 at *
     have c0 := m5.c0
     have c1 := m5.c1
     have z0 : IntKind.i64.wrap 0 = 0 := by decide
     have z1 : IntKind.i64.wrap 1 = 1 := by decide
     have z2 : IntKind.i64.wrap 2 = 2 := by decide
     have z3 : IntKind.i64.wrap 3 = 3 := by decide
     have z4 : IntKind.i64.wrap 4 = 4 := by decide
     have z5 : IntKind.i64.wrap 5 = 5 := by decide
     have z6 : IntKind.i64.wrap 6 = 6 := by decide
     have z7 : IntKind.i64.wrap 7 = 7 := by decide
     have z8 : IntKind.i64.wrap 8 = 8 := by decide
     go_still_tail 11, (by kernel_rfl)
     still_call (hA' _)
     repeat still_step
     refine wpStill_nil ?_
     change wpList _ _ _ _ _ w5.drew
     have m6 := m5.drewN 1
     change Mid w w5.drew R M L s _ d ra rb i at m6
     generalize w5.drew = w6 at *
     go_wp2_with fail
     refine (rset_any m6.h d _ bd bal).mono ?_
     rintro e w7 ⟨rfl, h7, k7⟩
     have p7 := h7.pc
     have f7 := h7.fr 32
     go_wp2_with fail
     go_ret
     exact ⟨rfl, h7.set_pc bn4, (m6.k.trans (k7.mono m6.k.size (by simp))).setCell (by simp) _⟩)
end Go.Proofs.YtbalnlodkiejcaaDoor
