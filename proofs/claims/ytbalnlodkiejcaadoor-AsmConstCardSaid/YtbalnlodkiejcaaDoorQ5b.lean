/- A step of the document's host, some of the words. -/
import Derived.Test.YtbalnlodkiejcaaDoorQ4
namespace Go.Proofs.YtbalnlodkiejcaaDoor
open Go.RowKit
set_option linter.unusedVariables false
set_option linter.unusedSimpArgs false
set_option linter.unusedSectionVars false

set_option maxHeartbeats 4000000 in
set_option maxRecDepth 20000 in
theorem rStep_Q5b {R M : Nat} {s : St} {w : World} (h : RAt w R M s) (hf : fitsL s.pc 4 = true) (op d a b i : Int) (he : wordO (wordM s.m s.pc 4) (decL (wordM s.m s.pc 4)) = .tuple #[wordV op d a b i, .bool true]) (hl : isL op d a b i = true) (hg : (op = 11 ∨ op = 12 ∨ op = 13 ∨ op = 14 ∨ op = 15) ∨ (op = 16 ∨ op = 17 ∨ op = 18) ∨ op = 2 ∨ op = 1) (k : Int) (s' : St) (ht : (doL s op d a b i).told s = (k, s')) :
    Calls Tryd.prog 11 #[rp R] w fun e w' => e = .returned (.int .i64 k) ∧ RAt w' R M s' ∧ But [R, M] w.heap.size w w' := by
  have bpc := h.ok.pc
  have hpc := h.pc
  have hL := rLoad_yes h s.pc 4 bpc (by decide) hf
  have hD := fun W => rdec_any (wordM s.m s.pc 4) (wordM_bd h.ok.m _ _) W
  rw [he] at hD
  generalize wordM s.m s.pc 4 = x at hL hD
  clear he
  obtain ⟨bop, bd, ba, bb, bi⟩ := isL_regs hl
  obtain ⟨hb0, hi0⟩ := isL_split hl
  replace hb0 := hid hb0
  replace hi0 := hid hi0
  clear hl
  have bxa := h.ok.x a
  have bxb := h.ok.x b
  go_enter Tryd.func11, Tryd.ntmps11
  go_wp2_with fail
  refine hL.mono ?_
  rintro e w1 ⟨rfl, k1⟩
  go_wp2_with fail
  refine (hD _).mono ?_
  rintro e w2 ⟨rfl, k2⟩
  have h1 := h.below k1 h.lt h.ltm
  have h2 := h1.below k2 h1.lt h1.ltm
  have kb := (But.of k1 [R, M]).trans (But.of (k2.mono k1.size) [R, M])
  go_wp2_with fail
  have m : Mid w (w2.alloc (.cells #[.int .i64 op, .int .i64 d, .int .i64 a, .int .i64 b, .int .i32 i] 37)) R M w2.heap.size s op d a b i :=
    ⟨h2.alloc _, kb.alloc kb.size _, by simp, by simp, by simp, by simp, by simp, kb.size⟩
  generalize w2.alloc (.cells #[.int .i64 op, .int .i64 d, .int .i64 a, .int .i64 b, .int .i32 i] 37) = w3 at *
  generalize w2.heap.size = L at *
  clear k1 k2 h1 h2 kb hL hD hpc
  have c2 := m.c2
  have c3 := m.c3
  have c4 := m.c4
  obtain ⟨ra, rfl⟩ := Int.eq_ofNat_of_zero_le ba.1
  obtain ⟨rb, rfl⟩ := Int.eq_ofNat_of_zero_le bb.1
  have xa := m.h.x ra (by omega)
  have xb := m.h.x rb (by omega)
  go_quiet (fail)
  replace m := m.drewN nq
  generalize w3.drewN nq = w4 at *
  clear c2 c3 c4 xa xb
  have hap := hid (show fitsL s.pc 4 = true from hf)
  have hpc4 : s.pc % 4 = 0 := by
    have := hf
    rw [fits_4] at this
    simp at this
    exact this.1
  have p4 := m.h.pc
  have f32 := m.h.fr 32
  have f34 := m.h.fr 34
  have w34 := m.h.why
  have hlR : ¬ L = R := by have := m.l; have := h.lt; omega
  have c0 := m.c0
  have c1 := m.c1
  have c2 := m.c2
  have c3 := m.c3
  have c4 := m.c4
  have c0' : ∀ (j : Nat) (v : Value), (w4.setCell ⟨R, j, none⟩ v).cell? ⟨L, 0, none⟩ = some (.int .i64 op) := fun j v => (World.cell?_of_block (w := w4) (Below.heap_setCell _ _ _ _ hlR)).trans m.c0
  have eA : (s.x (ra : Int) + i % 4294967296) % 4294967296 = (s.x (ra : Int) + i) % 4294967296 := by omega
  have eB : (s.x (rb : Int) + i % 4294967296) % 4294967296 = (s.x (rb : Int) + i) % 4294967296 := by omega
  have eP : (s.pc + i % 4294967296) % 4294967296 = (s.pc + i) % 4294967296 := by omega
  have bV : 0 ≤ i % 4294967296 ∧ i % 4294967296 ≤ 4294967295 := by omega
  have hn4 : (s.pc + 4) % 4294967296 % 4 = 0 := by omega
  have bn4 : 0 ≤ (s.pc + 4) % 4294967296 ∧ (s.pc + 4) % 4294967296 ≤ 4294967295 := by omega
  have hle : w.heap.size ≤ w4.heap.size := m.k.size
  obtain ⟨V, hV⟩ : ∃ V, V = i % 4294967296 := ⟨_, rfl⟩
  rw [← hV] at eA eB eP bV ⊢
  rcases hg with hop | hop | rfl | rfl
  · rw [doL_ld _ _ _ _ _ _ hop, ← eA] at ht
    have bq : 0 ≤ (s.x (ra : Int) + V) % 4294967296 ∧ (s.x (ra : Int) + V) % 4294967296 ≤ 4294967295 := by omega
    have hr : (if fitsL ((s.x (ra : Int) + V) % 4294967296) (sizeL op) = true then ((0 : Int), ({ s with x := setX s.x d (widenL op (wordM s.m ((s.x (ra : Int) + V) % 4294967296) (sizeL op))), pc := (s.pc + 4) % 4294967296 } : St)) else (3, { s with why := (s.x (ra : Int) + V) % 4294967296 })) = (k, s') := by
      rw [← ht]
      cases fitsL ((s.x (ra : Int) + V) % 4294967296) (sizeL op) <;> rfl
    have hL := rload_any m.h op d ra rb i _ hop bd bq k s' hr
    clear eA eB eP hV hpc4 hn4 ht hr c0'
    rcases hop with rfl | rfl | rfl | rfl | rfl
    all_goals
      (go_wp2_with fail
       refine hL.mono ?_
       rintro e w5 ⟨rfl, h5, k5⟩
       go_wp2_with fail
       go_ret
       exact ⟨rfl, h5, m.k.trans (k5.mono hle (fun j hj => .inl hj))⟩)
  · rw [doL_st _ _ _ _ _ _ hop, ← eA] at ht
    have bq : 0 ≤ (s.x (ra : Int) + V) % 4294967296 ∧ (s.x (ra : Int) + V) % 4294967296 ≤ 4294967295 := by omega
    have y0 : ∀ W, (Instr.index 58 (.agg #[.int .i64 1, .int .i64 2, .int .i64 4]) (.int .i64 0)).run Tryd.prog W = .ok (.int .i64 1) W := fun W => by kernel_rfl
    have y1 : ∀ W, (Instr.index 58 (.agg #[.int .i64 1, .int .i64 2, .int .i64 4]) (.int .i64 1)).run Tryd.prog W = .ok (.int .i64 2) W := fun W => by kernel_rfl
    have y2 : ∀ W, (Instr.index 58 (.agg #[.int .i64 1, .int .i64 2, .int .i64 4]) (.int .i64 2)).run Tryd.prog W = .ok (.int .i64 4) W := fun W => by kernel_rfl
    have bsz : -9223372036854775808 ≤ sizeL op ∧ sizeL op ≤ 9223372036854775807 := by rcases hop with rfl | rfl | rfl <;> decide
    cases hft : fitsL ((s.x (ra : Int) + V) % 4294967296) (sizeL op) with
    | true =>
      rw [hft, if_pos rfl] at ht
      cases ht
      have hS := rStore_yes m.h _ (sizeL op) (s.x (rb : Int)) bq bsz bxb hft
      clear eA eB eP hV hpc4 hn4 hft c0'
      rcases hop with rfl | rfl | rfl
      all_goals
        (go_wp2_with fail
         refine hS.mono ?_
         rintro e w5 ⟨rfl, h5, k5⟩
         have p5 := h5.pc
         have f5 := h5.fr 32
         go_wp2_with fail
         go_ret
         exact ⟨rfl, h5.set_pc bn4, (m.k.trans (k5.mono hle (by simp))).setCell (by simp) _⟩)
    | false =>
      rw [hft, if_neg (by decide)] at ht
      cases ht
      have hS := rStore_no m.h _ (sizeL op) (s.x (rb : Int)) bq bsz hft
      clear eA eB eP hV hpc4 hn4 hft c0'
      rcases hop with rfl | rfl | rfl
      all_goals
        (go_wp2_with fail
         refine hS.mono ?_
         rintro e w5 ⟨rfl, rfl⟩
         go_wp2_with fail
         go_ret
         exact ⟨rfl, m.h.set_why bq, m.k.setCell (by simp) _⟩)
  · rw [doL_2, ← eP] at ht
    cases ht
    have bt : 0 ≤ (s.pc + V) % 4294967296 ∧ (s.pc + V) % 4294967296 ≤ 4294967295 := by omega
    clear eA eB eP hV hpc4 hn4 c0'
    go_wp2_with fail
    go_still_tail 9, (by kernel_rfl)
    change wpList _ _ _ _ _ w4.drew
    have m5 : Mid w w4.drew R M L s 2 d ra rb i := m.drewN 1
    have z5 : w.heap.size ≤ w4.drew.heap.size := m5.k.size
    generalize w4.drew = w5 at *
    go_wp2_with fail
    refine (rset_any m5.h d _ bd bt).mono ?_
    rintro e w7 ⟨rfl, h7, k7⟩
    have p7 := h7.pc
    have f7 := h7.fr 32
    go_wp2_with fail
    go_ret
    exact ⟨rfl, h7.set_pc bn4, (m5.k.trans (k7.mono z5 (by simp))).setCell (by simp) _⟩
  · have hx0 : s.x (rb : Int) = 0 := by rw [hb0.out (.inl rfl)]; exact h.ok.x0
    rw [doL_alu _ _ _ _ _ _ (.inl rfl), ← eB, hx0, show aluL 1 (s.x (ra : Int)) ((0 + V) % 4294967296) = V by show (0 + V) % 4294967296 = V; omega] at ht
    cases ht
    clear eA eB eP hV hpc4 hn4 c0'
    go_wp2_with fail
    refine (rset_any m.h d _ bd bV).mono ?_
    rintro e w7 ⟨rfl, h7, k7⟩
    have p7 := h7.pc
    have f7 := h7.fr 32
    go_wp2_with fail
    go_ret
    exact ⟨rfl, h7.set_pc bn4, (m.k.trans (k7.mono hle (by simp))).setCell (by simp) _⟩
end Go.Proofs.YtbalnlodkiejcaaDoor
