/- Put, Get: a state in the host's memory. -/
import Derived.Test.YtgamghmeefoopaaDoorT2
import Derived.Test.YtgamghmeefoopaaDoorH1
namespace Go.Proofs.YtgamghmeefoopaaDoor
open Go.RowKit
set_option linter.unusedVariables false
set_option linter.unusedSimpArgs false
set_option linter.unusedSectionVars false

/-- The memory behind the first k words of a state. -/
def putM (m : Int → Int) (l : Nat → Int) : Nat → Int → Int
  | 0 => m
  | k + 1 => storeM (putM m l k) (64 + 4 * (k : Int)) 4 (l k)
/-- The words that lie there. -/
def getL (m : Int → Int) : Nat → Int := fun i => wordM m (64 + 4 * (i : Int)) 4
def getK (m : Int → Int) (k : Nat) : Nat → Int := fun i => if i < k then getL m i else 0
theorem putM_lie (m : Int → Int) (l : Nat → Int) (hl : ∀ i, 0 ≤ l i ∧ l i ≤ 4294967295) : ∀ (k i : Nat), i < k → wordM (putM m l k) (64 + 4 * (i : Int)) 4 = l i
  | k + 1, i, h => by
    unfold putM
    by_cases e : i = k
    · subst e; exact load_store (hl _)
    · rw [load_other (by omega)]; exact putM_lie m l hl k i (by omega)
theorem putM_other (m : Int → Int) (l : Nat → Int) (a : Int) : ∀ (k : Nat), (a + 4 ≤ 64 ∨ 64 + 4 * (k : Int) ≤ a) → wordM (putM m l k) a 4 = wordM m a 4
  | 0, _ => rfl
  | k + 1, h => by
    unfold putM
    rw [load_other (by omega)]; exact putM_other m l a k (by omega)
def putS (s : St) (l : Nat → Int) (k : Nat) : St := { s with m := putM s.m l k }
theorem putS_next (s : St) (l : Nat → Int) (k : Nat) : storeS (putS s l k) (64 + 4 * (k : Int)) 4 (l k) = putS s l (k + 1) := rfl
theorem at18 (l : Nat → Int) (k : Nat) (h : k < 18) : (arr18 l)[k]? = some (.int .u32 (l k)) := by
  rcases (by omega : k = 0 ∨ k = 1 ∨ k = 2 ∨ k = 3 ∨ k = 4 ∨ k = 5 ∨ k = 6 ∨ k = 7 ∨ k = 8 ∨ k = 9 ∨ k = 10 ∨ k = 11 ∨ k = 12 ∨ k = 13 ∨ k = 14 ∨ k = 15 ∨ k = 16 ∨ k = 17) with rfl | rfl | rfl | rfl | rfl | rfl | rfl | rfl | rfl | rfl | rfl | rfl | rfl | rfl | rfl | rfl | rfl | rfl <;> rfl
theorem get_next (m : Int → Int) (k : Nat) (h : k < 18) : (arr18 (getK m k)).setIfInBounds k (.int .u32 (getL m k)) = arr18 (getK m (k + 1)) := by
  rcases (by omega : k = 0 ∨ k = 1 ∨ k = 2 ∨ k = 3 ∨ k = 4 ∨ k = 5 ∨ k = 6 ∨ k = 7 ∨ k = 8 ∨ k = 9 ∨ k = 10 ∨ k = 11 ∨ k = 12 ∨ k = 13 ∨ k = 14 ∨ k = 15 ∨ k = 16 ∨ k = 17) with rfl | rfl | rfl | rfl | rfl | rfl | rfl | rfl | rfl | rfl | rfl | rfl | rfl | rfl | rfl | rfl | rfl | rfl <;> simp [arr18, getK]
theorem ix18 (l : Nat → Int) (k : Nat) (h : k < 18) (W : World) : (Instr.index 72 (wsV l) (.int .i64 (k : Int))).run Tryd.prog W = .ok (.int .u32 (l k)) W := by
  rcases (by omega : k = 0 ∨ k = 1 ∨ k = 2 ∨ k = 3 ∨ k = 4 ∨ k = 5 ∨ k = 6 ∨ k = 7 ∨ k = 8 ∨ k = 9 ∨ k = 10 ∨ k = 11 ∨ k = 12 ∨ k = 13 ∨ k = 14 ∨ k = 15 ∨ k = 16 ∨ k = 17) with rfl | rfl | rfl | rfl | rfl | rfl | rfl | rfl | rfl | rfl | rfl | rfl | rfl | rfl | rfl | rfl | rfl | rfl <;> kernel_rfl
theorem fits_word (k : Nat) (h : k < 18) : fitsL (64 + 4 * (k : Int)) 4 = true := by
  rw [fits_4]; simp; omega

theorem Put_any {B : Nat} {s : St} {w : World} (h : HAt w B s) (g : Gs) (hg : g.ok) : Calls Tryd.prog 21 #[hp B, stV g] w fun e w' => e = .returned (.tuple #[]) ∧ HAt w' B (putS s (wordsL g) 18) ∧ But [B] w.heap.size w w' := by
  have hl := wordsL_bd hg
  go_enter Tryd.func21, Tryd.ntmps21
  go_wp2_with fail
  refine (packed_any g hg _).mono ?_
  rintro e w1 ⟨rfl, b1⟩
  have kb : Below w.heap.size w w1 := ((Below.refl _ _).alloc (Nat.le_refl _) _).trans (b1.mono (by simp))
  have h1 : HAt w1 B s := h.below kb h.lt
  have kB : But [B] w.heap.size w w1 := But.of kb _
  clear kb b1 h
  generalize hN : w.heap.size = N at *
  go_wp2_with fail
  go_loopw [8] (fun ii W => ∃ k : Nat, k ≤ 18 ∧ ii = .int .i64 k ∧ HAt W B (putS s (wordsL g) k) ∧ But [B] N w W) (fun ii _ => (18 - intOf ii).toNat)
  case atStart => exact ⟨0, by omega, rfl, h1, kB⟩
  case round =>
    clear h1 kB
    obtain ⟨k, hk, hi, h1, kB⟩ := hrel
    obtain rfl : _ = Value.int .i64 (k : Int) := hi
    by_cases h18 : k < 18
    · have hix := ix18 (wordsL g) k h18 wr
      have hfit := fits_word k h18
      have hp := fun w => wordAt_any (k : Int) (by omega) w
      have hlk := hl k
      have hz : ((k : Int) < 18) = True := eq_true (by omega)
      clear hl
      go_wp2_with (first | (go_at_call 38; refine (hp _).mono ?_; rintro e w' ⟨rfl, rfl⟩) | (with_reducible refine (Store_yes h1 _ 4 (wordsL g k) (by omega) hlk hfit).mono ?_; rintro e w' ⟨rfl, h2, kB2⟩))
      go_roundw
      case rel => exact ⟨k + 1, by omega, by go_num, h2, kB.trans (kB2.mono (by have := kB.size; omega) (by simp))⟩
      case measure => simp [intOf]; omega
    · obtain rfl : k = 18 := by omega
      go_wp2_with fail
      exact bodyPost_end (v := .tuple #[]) (by simp [results, Tryd.results21, go_sem]) rfl ⟨rfl, h1, by rw [hN]; exact kB⟩
theorem Get_any {B : Nat} {s : St} {w : World} (h : HAt w B s) : Calls Tryd.prog 23 #[hp B] w fun e w' => e = .returned (stV (unL (getL s.m))) ∧ Below w.heap.size w w' := by
  have hl : ∀ i, 0 ≤ getL s.m i ∧ getL s.m i ≤ 4294967295 := fun i => wordM_bd h.ok.m _ _
  go_enter Tryd.func23, Tryd.ntmps23
  go_wp2_with fail
  have kR : Blk ((w.alloc (.cells z17 28)).alloc (.cells (arr18 (getK s.m 0)) 72)) w.heap.size 28 z17 := (Blk.new w _ _).alloc _
  have kL : Blk ((w.alloc (.cells z17 28)).alloc (.cells (arr18 (getK s.m 0)) 72)) (w.heap.size + 1) 72 (arr18 (getK s.m 0)) := by
    have := Blk.new (w.alloc (.cells z17 28)) 72 (arr18 (getK s.m 0))
    rwa [World.size_alloc] at this
  have kb : Below w.heap.size w ((w.alloc (.cells z17 28)).alloc (.cells (arr18 (getK s.m 0)) 72)) := ((Below.refl _ _).alloc (Nat.le_refl _) _).alloc (by simp) _
  have hlt := h.lt
  generalize hN : w.heap.size = N at *
  go_loopw [5] (fun ii W => ∃ k : Nat, k ≤ 18 ∧ ii = .int .i64 k ∧ Blk W N 28 z17 ∧ Blk W (N + 1) 72 (arr18 (getK s.m k)) ∧ Below N w W) (fun ii _ => (18 - intOf ii).toNat)
  case atStart => exact ⟨0, by omega, rfl, kR, kL, kb⟩
  case round =>
    clear kR kL kb
    obtain ⟨k, hk, hi, kR, kL, kb⟩ := hrel
    obtain rfl : _ = Value.int .i64 (k : Int) := hi
    by_cases h18 : k < 18
    · have hfit := fits_word k h18
      have hp := fun w => wordAt_any (k : Int) (by omega) w
      have hlk := hl k
      have hz : ((k : Int) < 18) = True := eq_true (by omega)
      have hB := h.below kb hlt
      have hload := Load_yes hB (64 + 4 * (k : Int)) 4 (by omega) hfit
      have e : wordM s.m (64 + 4 * (k : Int)) 4 = getL s.m k := rfl
      rw [e] at hload
      clear hl e hB
      go_wp2_with (first | (go_at_call 38; refine (hp _).mono ?_; rintro e w' ⟨rfl, rfl⟩) | (with_reducible refine hload.mono ?_; rintro e w2 ⟨rfl, b2⟩; replace kR := kR.below b2 kR.lt; replace kb := kb.trans (b2.mono (by have := kL.lt; omega)); replace kL := kL.below b2 kL.lt; have q := kL.cell (at18 _ k h18); have fr := kL.fr k; clear hload))
      go_roundw
      case rel =>
        have kG := kL.set k (.int .u32 (getL s.m k))
        rw [get_next _ _ h18] at kG
        exact ⟨k + 1, by omega, by go_num, kR.other _ _ (by omega), kG, kb.setCell (by simp) _⟩
      case measure => simp [intOf]; omega
    · obtain rfl : k = 18 := by omega
      have hgl : arr18 (getK s.m 18) = arr18 (getL s.m) := by simp [getK]
      rw [hgl] at kL
      have hgv : Value.agg (arr18 (getL s.m)) = wsV (getL s.m) := rfl
      have hE : wr.heap[N + 1]? = some (.cells (arr18 (getL s.m)) 72 (0, 0)) := kL.h
      have hs2 : (Tryd.prog.info? 72).map (·.size) = some (arr18 (getL s.m)).size := sz18
      have hun := unpacked_any (getL s.m) hl wr
      rw [← hgv] at hun
      have hs3 : (Tryd.prog.info? 28).map (·.size) = some (stA (unL (getL s.m))).size := sz17
      have hold : z17.size = (stA (unL (getL s.m))).size := rfl
      have hcell : (stA (unL (getL s.m))).all (·.oneCell') = true := by simp [stA, Value.oneCell']
      have hag : stV (unL (getL s.m)) = Value.agg (stA (unL (getL s.m))) := rfl
      rw [hag] at hun
      generalize stA (unL (getL s.m)) = Z at *
      generalize arr18 (getL s.m) = Y at *
      generalize z17 = Z0 at *
      clear hgl hgv hl
      go_wp2_with (first | with_reducible refine wpList_load_row rfl 72 _ rfl (N + 1) rfl 72 _ (0, 0) _ hE Tryd.underlying72 rfl hs2 ?_ | (with_reducible refine hun.mono ?_; rintro e w2 ⟨rfl, b2⟩; have kR2 := kR.below b2 kR.lt; have kG := kR2.row Z; have kH := below_rowNew (kb.trans (b2.mono (by have := kL.lt; omega))) (Nat.le_refl N) Z) | with_reducible refine wpList_store_row rfl 28 _ _ rfl N _ rfl rfl 28 _ kR2.h hs3 hold hcell ?_)
      exact bodyPost_ret (v := Value.agg Z) (results_cell_row rfl _ _ N 28 _ (0, 0) _ rfl kG.h Tryd.underlying28 rfl hs3) rfl ⟨by rw [hag], by rw [hN]; exact kH⟩
end Go.Proofs.YtgamghmeefoopaaDoor
