/- The document's memory: pages. -/
import Derived.Test.YtmlaancmacipoaaP5
import Derived.BigQuiet
namespace Go.Proofs.Ytmlaancmacipoaa
open Go.RowKit
set_option linter.unusedVariables false
set_option linter.unusedSimpArgs false
set_option linter.unusedSectionVars false

abbrev RAt (w : World) (B : Nat) (m : Mm) : Prop := MAt 64 w B m
theorem rthere (p n : Int) (hp : I64 p) (w : World) : Calls Try.prog 54 #[.int .i64 p, .int .i64 n] w fun e w' => e = .returned (.bool (thereL p n)) ∧ w = w' := by
  unfold thereL
  go_enter Try.func54, Try.ntmps54
  go_wp2
  all_goals (go_ret; refine ⟨ret_bool ?_, rfl⟩; first | (simp_all; done) | (simp_all; omega) | (simp; omega))
theorem ix64 (b j : Nat) (h : j < 64) (k : IntKind) (W : World) : (Instr.indexAt 61 (.pointer (some ⟨b, 0, none⟩)) (.int k (j : Int))).run Try.prog W = .ok (.pointer (some ⟨b, j, none⟩)) W := by
  have s1 : ∀ W, (sizeOf 3).run Try.prog W = .ok 1 W := fun W => by kernel_rfl
  have hj : (j : Int) < 64 := by omega
  simp [Instr.indexAt, run_underlying Try.underlying61, s1, go_sem, hj, h, Instr.sureAddr]
theorem ixB (b j : Nat) (h : j < 16384) (k : IntKind) (W : World) : (Instr.indexAt 62 (.pointer (some ⟨b, 64, none⟩)) (.int k (j : Int))).run Try.prog W = .ok (.pointer (some ⟨b, 64 + j, none⟩)) W := by
  have s1 : ∀ W, (sizeOf 5).run Try.prog W = .ok 1 W := fun W => by kernel_rfl
  have hj : (j : Int) < 16384 := by omega
  simp [Instr.indexAt, run_underlying Try.underlying62, s1, go_sem, hj, h, Instr.sureAddr]
set_option maxHeartbeats 2000000 in
theorem rmapped {R : Nat} {m : Mm} {w : World} (h : RAt w R m) (p n : Nat) (hle : p + n ≤ 64) :
    Calls Try.prog 55 #[mp R, .int .i64 p, .int .i64 n] w fun e w' => e = .returned (.tuple #[.bool (allL m true p n), .bool (!allL m false p n)]) ∧ Below w.heap.size w w' := by
  go_enter Try.func55, Try.ntmps55
  go_wp2_with fail
  go_loopw [8, 9, 10] (fun aa yy ii W => ∃ k : Nat, k ≤ n ∧ ii = .int .i64 ((p : Int) + k) ∧ aa = .bool (allL m true p k) ∧ yy = .bool (!allL m false p k) ∧ Below w.heap.size w W) (fun _ _ ii _ => ((p : Int) + n - intOf ii).toNat)
  case atStart => exact ⟨0, by omega, by simp, rfl, rfl, Below.refl _ _⟩
  case round =>
    obtain ⟨k, hk, rfl, rfl, rfl, kb⟩ := hrel
    by_cases hlt : k < n
    · have hx := h.below kb h.lt
      have hc := hx.r (p + k) (by omega)
      have hix := ix64 R (p + k) (by omega) .i64
      rw [show ((p + k : Nat) : Int) = (p : Int) + k by omega] at hix
      have eA : Hid (allL m true p (k + 1) = (allL m true p k && (true == (m.r (p + k) != 0)))) := hid rfl
      have eF : Hid (allL m false p (k + 1) = (allL m false p k && (false == (m.r (p + k) != 0)))) := hid rfl
      cases hA : allL m true p k <;> cases hY : allL m false p k <;> cases hz : (m.r (p + k) != 0)
      all_goals
        have eA' := eA.out
        have eF' := eF.out
        rw [hA, hz] at eA'
        rw [hY, hz] at eF'
        have eA2 := hid eA'
        have eF2 := hid eF'
        clear eA eF eA' eF' hA hY
        simp only [Bool.not_true, Bool.not_false]
        go_wp2_with fail
        go_quiet (fail)
        have kq : Below w.heap.size w (wr.drewN nq) := ⟨kb.os, kb.tape, kb.output, kb.size, kb.block⟩
        go_wp2_with fail
        go_roundw
        case rel => exact ⟨k + 1, by omega, by go_num, by rw [eA2.out]; rfl, by rw [eF2.out]; rfl, kq⟩
        case measure => simp [intOf]; omega
    · obtain rfl : k = n := by omega
      go_wp2_with fail
      go_ret2
      exact ⟨rfl, kb⟩
theorem ok_zero {m : Mm} (ok : m.ok) {p n : Nat} (v : Int) (h : allL m false p n = true) : zeroB (setR m p n v) (p * 256) (n * 256) = setR m p n v := by
  unfold zeroB setR
  congr 1
  funext i
  dsimp only
  split
  · rename_i hi
    have := all_at h (i / 256 - p) (by omega)
    rw [show p + (i / 256 - p) = i / 256 by omega] at this
    exact (ok.z i (by simpa using this.symm)).symm
  · rfl
theorem zeroB_zero (m : Mm) (a : Nat) : zeroB m a 0 = m := by unfold zeroB; congr 1; funext i; rw [if_neg (by omega)]
set_option maxHeartbeats 1000000 in
set_option maxRecDepth 8000 in
theorem rset_fresh {R : Nat} {m : Mm} {w : World} (h : RAt w R m) (p n : Nat) (hle : p + n ≤ 64) (v : Int) :
    Calls Try.prog 56 #[mp R, .int .i64 p, .int .i64 n, .int .i64 v, .bool true] w fun e w' => e = .returned (.tuple #[]) ∧ RAt w' R (zeroB (setR m p n v) (p * 256) (n * 256)) ∧ But [R] w.heap.size w w' := by
  go_enter Try.func56, Try.ntmps56
  go_wp2_with fail
  go_loopw [10] (fun ii W => ∃ k : Nat, k ≤ n ∧ ii = .int .i64 ((p : Int) + k) ∧ RAt W R (zeroB (setR m p k v) (p * 256) (k * 256)) ∧ But [R] w.heap.size w W) (fun ii _ => ((p : Int) + n - intOf ii).toNat)
  case atStart => exact ⟨0, by omega, by simp, by rw [setR_zero, Nat.zero_mul, zeroB_zero]; exact h, But.refl _ _ _⟩
  case round =>
    obtain ⟨k, hk, rfl, hk2, kb⟩ := hrel
    by_cases hlt : k < n
    · have hc := hk2.r (p + k) (by omega)
      have hf := hk2.fr (p + k)
      have hix := ix64 R (p + k) (by omega) .i64
      rw [show ((p + k : Nat) : Int) = (p : Int) + k by omega] at hix
      have hx : RAt (wr.setCell ⟨R, p + k, none⟩ (.int .i64 v)) R (zeroB (setR m p (k + 1) v) (p * 256) (k * 256 + 0)) := hk2.set (p + k) _ _ fun cs c => c.set_r (p + k) (by omega) v _ (fun j => by
        dsimp only [setR, zeroB]
        by_cases h1 : j = p + k
        · simp only [h1, ite_true]; split <;> first | rfl | (exfalso; omega)
        · simp only [h1, ite_false]; split <;> split <;> first | rfl | (exfalso; omega)) rfl
      have kx := kb.setCell (p := ⟨R, p + k, none⟩) (by simp) (.int .i64 v)
      clear hk2 kb
      go_wp2_with fail
      generalize wr.setCell ⟨R, p + k, none⟩ (.int .i64 v) = w1 at *
      go_loopw [11] (fun jj W => ∃ q : Nat, q ≤ 256 ∧ jj = .int .i64 q ∧ RAt W R (zeroB (setR m p (k + 1) v) (p * 256) (k * 256 + q)) ∧ But [R] w.heap.size w W) (fun jj _ => (256 - intOf jj).toNat)
      case atStart => exact ⟨0, by omega, rfl, hx, kx⟩
      case round =>
        clear hx kx hc hf
        obtain ⟨q, hq, rfl, hx, kx⟩ := hrel
        by_cases hq2 : q < 256
        · have hc := hx.b ((p + k) * 256 + q) (by omega)
          have hf := hx.fr (64 + ((p + k) * 256 + q))
          have hixb := ixB R ((p + k) * 256 + q) (by omega) .i64
          rw [show (((p + k) * 256 + q : Nat) : Int) = ((p : Int) + k) * 256 + q by omega] at hixb
          have hy : RAt (wr.setCell ⟨R, 64 + ((p + k) * 256 + q), none⟩ (.int .u8 0)) R (zeroB (setR m p (k + 1) v) (p * 256) (k * 256 + (q + 1))) := hx.set (64 + ((p + k) * 256 + q)) _ _ fun cs c => c.set_b ((p + k) * 256 + q) (by omega) 0 _ rfl (fun j => by
            dsimp only [setR, zeroB]
            by_cases h1 : j = (p + k) * 256 + q
            · rw [if_pos (by omega), if_pos h1]
            · rw [if_neg h1]
              by_cases h2 : p * 256 ≤ j ∧ j < p * 256 + (k * 256 + q)
              · rw [if_pos (by omega), if_pos h2]
              · rw [if_neg (by omega), if_neg h2])
          have ky := kx.setCell (p := ⟨R, 64 + ((p + k) * 256 + q), none⟩) (by simp) (.int .u8 0)
          clear hx kx
          go_wp2_with fail
          go_roundw
          case rel => exact ⟨q + 1, by omega, by go_num, hy, ky⟩
          case measure => simp [intOf]; omega
        · obtain rfl : q = 256 := by omega
          rw [show k * 256 + 256 = (k + 1) * 256 by omega] at hx
          go_wp2_with fail
          go_roundw
          case rel => exact ⟨k + 1, by omega, by go_num, hx, kx⟩
          case measure => simp [intOf]; omega
    · obtain rfl : k = n := by omega
      go_wp2_with fail
      exact bodyPost_end (v := .tuple #[]) (by simp [results, Try.results56, go_sem]) rfl ⟨rfl, hk2, kb⟩
set_option maxRecDepth 8000 in
theorem rset_keep {R : Nat} {m : Mm} {w : World} (h : RAt w R m) (p n : Nat) (hle : p + n ≤ 64) (v : Int) :
    Calls Try.prog 56 #[mp R, .int .i64 p, .int .i64 n, .int .i64 v, .bool false] w fun e w' => e = .returned (.tuple #[]) ∧ RAt w' R (setR m p n v) ∧ But [R] w.heap.size w w' := by
  go_enter Try.func56, Try.ntmps56
  go_wp2_with fail
  go_loopw [10] (fun ii W => ∃ k : Nat, k ≤ n ∧ ii = .int .i64 ((p : Int) + k) ∧ RAt W R (setR m p k v) ∧ But [R] w.heap.size w W) (fun ii _ => ((p : Int) + n - intOf ii).toNat)
  case atStart => exact ⟨0, by omega, by simp, by rw [setR_zero]; exact h, But.refl _ _ _⟩
  case round =>
    obtain ⟨k, hk, rfl, hk2, kb⟩ := hrel
    by_cases hlt : k < n
    · have hc := hk2.r (p + k) (by omega)
      have hf := hk2.fr (p + k)
      have hix := ix64 R (p + k) (by omega) .i64
      rw [show ((p + k : Nat) : Int) = (p : Int) + k by omega] at hix
      have hx : RAt (wr.setCell ⟨R, p + k, none⟩ (.int .i64 v)) R (setR m p (k + 1) v) := hk2.set (p + k) _ _ fun cs c => c.set_r (p + k) (by omega) v _ (fun j => by
        dsimp only [setR]
        by_cases h1 : j = p + k
        · simp only [h1, ite_true]; split <;> first | rfl | (exfalso; omega)
        · simp only [h1, ite_false]; split <;> split <;> first | rfl | (exfalso; omega)) rfl
      have kx := kb.setCell (p := ⟨R, p + k, none⟩) (by simp) (.int .i64 v)
      clear hk2 kb
      go_wp2_with fail
      generalize wr.setCell ⟨R, p + k, none⟩ (.int .i64 v) = w1 at *
      go_loopw [11] (fun jj W => jj = .int .i64 0 ∧ W = w1) (fun jj _ => 0)
      case atStart => exact ⟨rfl, rfl⟩
      case round =>
        obtain ⟨rfl, rfl⟩ := hrel
        go_wp2_with fail
        go_roundw
        case rel => exact ⟨k + 1, by omega, by go_num, hx, kx⟩
        case measure => simp [intOf]; omega
    · obtain rfl : k = n := by omega
      go_wp2_with fail
      exact bodyPost_end (v := .tuple #[]) (by simp [results, Try.results56, go_sem]) rfl ⟨rfl, hk2, kb⟩
end Go.Proofs.Ytmlaancmacipoaa
