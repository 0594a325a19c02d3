/- The document's host loads by a word. -/
import Derived.Test.YtbalnlodkiejcaaDoorQ2
import Derived.Deep.QuietTactic
import Derived.BigQuiet
import Derived.StillTailTactics
namespace Go.Proofs.YtbalnlodkiejcaaDoor
open Go.RowKit
set_option linter.unusedVariables false
set_option linter.unusedSimpArgs false
set_option linter.unusedSectionVars false

theorem But.of1 {S T : List Nat} {n n' : Nat} {w w' : World} (h : But S n' w w') (hn : n ≤ n') (hS : ∀ k, k ∈ S → k ∈ T ∨ n ≤ k) : But T n w w' := h.mono hn hS
theorem sgn8 (v : Int) (hv : 0 ≤ v ∧ v ≤ 4294967295) : sgn 8 v % 4294967296 = IntKind.i8.wrap v % 4294967296 := by
  unfold sgn wrap32
  rw [show (2 : Int) ^ (32 - 8) = 16777216 by decide, IntKind.wrap]
  simp [IntKind.bits, IntKind.signed]
  split <;> omega
theorem RAt.set_pcB {S : List Nat} {n : Nat} {w0 w : World} {R M : Nat} {s : St} (h : RAt w R M s) (k : But S n w0 w) (hS : R ∈ S) {v : Int} (hv : 0 ≤ v ∧ v ≤ 4294967295) :
    RAt (w.setCell ⟨R, 32, none⟩ (.int .u32 v)) R M { s with pc := v } ∧ But S n w0 (w.setCell ⟨R, 32, none⟩ (.int .u32 v)) := ⟨h.set_pc hv, k.setCell hS _⟩
set_option maxHeartbeats 1000000 in
theorem rload_any {R M : Nat} {s : St} {w : World} (h : RAt w R M s) (op d a b i p : Int) (ho : op = 11 ∨ op = 12 ∨ op = 13 ∨ op = 14 ∨ op = 15) (hd : 0 ≤ d ∧ d < 32) (hp : 0 ≤ p ∧ p ≤ 4294967295) (k : Int) (s' : St)
    (hr : (if fitsL p (sizeL op) = true then ((0 : Int), ({ s with x := setX s.x d (widenL op (wordM s.m p (sizeL op))), pc := (s.pc + 4) % 4294967296 } : St)) else (3, { s with why := p })) = (k, s')) :
    Calls Tryd.prog 24 #[rp R, wordV op d a b i, .int .u32 p] w fun e w' => e = .returned (.int .i64 k) ∧ RAt w' R M s' ∧ But [R, M] w.heap.size w w' := by
  have hlt := h.lt
  have hltm := h.ltm
  have x0 : ∀ W, (Instr.index 72 (.agg #[.int .i64 1, .int .i64 2, .int .i64 4, .int .i64 1, .int .i64 2]) (.int .i64 0)).run Tryd.prog W = .ok (.int .i64 1) W := fun W => by kernel_rfl
  have x1 : ∀ W, (Instr.index 72 (.agg #[.int .i64 1, .int .i64 2, .int .i64 4, .int .i64 1, .int .i64 2]) (.int .i64 1)).run Tryd.prog W = .ok (.int .i64 2) W := fun W => by kernel_rfl
  have x2 : ∀ W, (Instr.index 72 (.agg #[.int .i64 1, .int .i64 2, .int .i64 4, .int .i64 1, .int .i64 2]) (.int .i64 2)).run Tryd.prog W = .ok (.int .i64 4) W := fun W => by kernel_rfl
  have x3 : ∀ W, (Instr.index 72 (.agg #[.int .i64 1, .int .i64 2, .int .i64 4, .int .i64 1, .int .i64 2]) (.int .i64 3)).run Tryd.prog W = .ok (.int .i64 1) W := fun W => by kernel_rfl
  have x4 : ∀ W, (Instr.index 72 (.agg #[.int .i64 1, .int .i64 2, .int .i64 4, .int .i64 1, .int .i64 2]) (.int .i64 4)).run Tryd.prog W = .ok (.int .i64 2) W := fun W => by kernel_rfl
  have kb0 : But [R, M] w.heap.size w (w.alloc (.cells #[.int .i64 op, .int .i64 d, .int .i64 a, .int .i64 b, .int .i32 i] 37)) := (But.refl _ _ _).alloc (Nat.le_refl _) _
  have h0 := h.alloc (.cells #[.int .i64 op, .int .i64 d, .int .i64 a, .int .i64 b, .int .i32 i] 37)
  have bsz : -9223372036854775808 ≤ sizeL op ∧ sizeL op ≤ 9223372036854775807 := by rcases ho with rfl | rfl | rfl | rfl | rfl <;> decide
  cases hf : fitsL p (sizeL op) with
  | false =>
    rw [hf, if_neg (by decide)] at hr
    cases hr
    have hL := fun W (hW : RAt W R M s) => rLoad_no hW p (sizeL op) hp bsz hf
    have hw1 := h0.why
    have hf1 := h0.fr 34
    have hset := h0.set_why hp
    rcases ho with rfl | rfl | rfl | rfl | rfl
    all_goals
      (go_enter Tryd.func24, Tryd.ntmps24
       go_wp2_with fail
       refine (hL _ h0).mono ?_
       rintro e w1 ⟨rfl, rfl⟩
       go_wp2_with fail
       go_ret
       first | exact ⟨rfl, hset, kb0.setCell (by simp) _⟩ | exact ⟨rfl, (h.set_why hp).alloc _, ((But.refl _ _ _).setCell (by simp) _).alloc (by simp [World.setCell]) _⟩)
  | true =>
    rw [hf, if_pos rfl] at hr
    cases hr
    have bw := wordM_bd h.ok.m p (sizeL op)
    have bV := widenL_bd (op := op) bw
    have hL := fun W (hW : RAt W R M s) => rLoad_yes hW p (sizeL op) hp bsz hf
    generalize wordM s.m p (sizeL op) = v at hL bV bw ⊢
    have hsg := fun (n : Int) W => rsigned_any v n bw W
    rcases ho with rfl | rfl | rfl | rfl | rfl
    all_goals
      (go_enter Tryd.func24, Tryd.ntmps24
       go_wp2_with fail
       refine (hL _ h0).mono ?_
       rintro e w1 ⟨rfl, k1⟩
       have c0 := own_cell k1 0 _ rfl
       have c1 := own_cell k1 1 _ rfl
       have h1 := h0.below k1 h0.lt h0.ltm
       have kb1 := kb0.trans (But.of (k1.mono (by simp)) _)
       clear x0 x1 x2 x3 x4
       go_wp2_with fail)
    · refine (hsg 8 _).mono ?_
      rintro e w' ⟨rfl, rfl⟩
      rw [show held 8 = 8 from rfl]
      have e8 := sgn8 v bw
      go_wp2_with fail
      refine (rset_any h1 d _ hd bV).mono ?_
      rintro e w2 ⟨rfl, h2, k2⟩
      have p2 := h2.pc
      have f2 := h2.fr 32
      have hres := h2.set_pc (v := (s.pc + 4) % 4294967296) (by omega)
      go_wp2_with fail
      go_ret
      exact ⟨rfl, hres, (kb1.trans (k2.mono kb1.size (by simp))).setCell (by simp) _⟩
    · refine (hsg 16 _).mono ?_
      rintro e w' ⟨rfl, rfl⟩
      rw [show held 16 = 16 from rfl]
      go_wp2_with fail
      refine (rset_any h1 d _ hd bV).mono ?_
      rintro e w2 ⟨rfl, h2, k2⟩
      have p2 := h2.pc
      have f2 := h2.fr 32
      have hres := h2.set_pc (v := (s.pc + 4) % 4294967296) (by omega)
      go_wp2_with fail
      go_ret
      exact ⟨rfl, hres, (kb1.trans (k2.mono kb1.size (by simp))).setCell (by simp) _⟩
    · refine (rset_any h1 d _ hd bV).mono ?_
      rintro e w2 ⟨rfl, h2, k2⟩
      have p2 := h2.pc
      have f2 := h2.fr 32
      have hres := h2.set_pc (v := (s.pc + 4) % 4294967296) (by omega)
      go_wp2_with fail
      go_ret
      exact ⟨rfl, hres, (kb1.trans (k2.mono kb1.size (by simp))).setCell (by simp) _⟩
    · refine (rset_any h1 d _ hd bV).mono ?_
      rintro e w2 ⟨rfl, h2, k2⟩
      have p2 := h2.pc
      have f2 := h2.fr 32
      have hres := h2.set_pc (v := (s.pc + 4) % 4294967296) (by omega)
      go_wp2_with fail
      go_ret
      exact ⟨rfl, hres, (kb1.trans (k2.mono kb1.size (by simp))).setCell (by simp) _⟩
    · refine (rset_any h1 d _ hd bV).mono ?_
      rintro e w2 ⟨rfl, h2, k2⟩
      have p2 := h2.pc
      have f2 := h2.fr 32
      have hres := h2.set_pc (v := (s.pc + 4) % 4294967296) (by omega)
      go_wp2_with fail
      go_ret
      exact ⟨rfl, hres, (kb1.trans (k2.mono kb1.size (by simp))).setCell (by simp) _⟩
end Go.Proofs.YtbalnlodkiejcaaDoor
