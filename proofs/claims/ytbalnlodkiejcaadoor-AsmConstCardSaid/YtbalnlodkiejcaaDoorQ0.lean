/- The document's host: made, loaded, stored. -/
import Derived.Test.YtbalnlodkiejcaaDoorG1
import Derived.Test.YtbalnlodkiejcaaDoorS1
import Derived.Deep.OwnRows
namespace Go.Proofs.YtbalnlodkiejcaaDoor
open Go.RowKit
set_option linter.unusedVariables false
set_option linter.unusedSimpArgs false
set_option linter.unusedSectionVars false

theorem rfits_any (a n : Int) (ha : 0 ≤ a ∧ a ≤ 4294967295) (hn : -9223372036854775808 ≤ n ∧ n ≤ 9223372036854775807) (w : World) : Calls Tryd.prog 22 #[.int .u32 a, .int .i64 n] w fun e w' => e = .returned (.bool (fitsL a n)) ∧ w = w' := by
  rcases (by omega : n = 1 ∨ n = 2 ∨ n = 4 ∨ (¬ n = 1 ∧ ¬ n = 2 ∧ ¬ n = 4)) with rfl | rfl | rfl | ⟨h1, h2, h4⟩
  · rw [fits_1]
    go_enter Tryd.func22, Tryd.ntmps22
    go_wp2
    all_goals (go_ret; refine ⟨ret_bool ?_, rfl⟩; first | (simp_all; done) | (simp_all; omega) | (simp; omega))
  · rw [fits_2]
    go_enter Tryd.func22, Tryd.ntmps22
    go_wp2
    all_goals (go_ret; refine ⟨ret_bool ?_, rfl⟩; first | (simp_all; done) | (simp_all; omega) | (simp; omega))
  · rw [fits_4]
    go_enter Tryd.func22, Tryd.ntmps22
    go_wp2
    all_goals (go_ret; refine ⟨ret_bool ?_, rfl⟩; first | (simp_all; done) | (simp_all; omega) | (simp; omega))
  · rw [fits_no h1 h2 h4]
    go_enter Tryd.func22, Tryd.ntmps22
    go_wp2
    all_goals (go_ret; refine ⟨ret_bool ?_, rfl⟩; first | (simp_all; done) | (simp_all; omega) | (simp; omega))
abbrev rp (R : Nat) : Value := .pointer (some ⟨R, 0, none⟩)
theorem make_bytes : ∃ Z : Array Value, Z.size = 32768 ∧ (∀ i : Nat, i < 32768 → Z[i]? = some (.int .u8 0)) ∧
    ∀ W, (Instr.makeSlice 30 (.int .i64 32768) (.int .i64 32768)).run Tryd.prog W = .ok (.slice (some ⟨W.heap.size, 0, none⟩) 32768 32768) (W.alloc (.cells Z 5)) := by
  refine ⟨madeCells #[.int .u8 0] 32768, size_madeCells _ _, fun i hi => ?_, fun W => ?_⟩
  · simp [madeCells, hi, show i % 1 = 0 from by omega]
  · exact run_make_row' 30 5 (.int .u8 0) 1 (by kernel_rfl) (by kernel_rfl) rfl .i64 .i64 32768 (by decide) (by decide) W
set_option maxRecDepth 20000 in
theorem rNew_any (w : World) (tabs : Tabs w) : Calls Tryd.prog 9 #[] w fun e w' => e = .returned (rp (w.heap.size + 1)) ∧ RAt w' (w.heap.size + 1) w.heap.size newS ∧ Below w.heap.size w w' := by
  obtain ⟨Z, z1, z2, z3⟩ := make_bytes
  have hx : RAt ((w.alloc (.cells Z 5)).alloc (.cells #[.int .u32 0, .int .u32 0, .int .u32 0, .int .u32 0, .int .u32 0, .int .u32 0, .int .u32 0, .int .u32 0, .int .u32 0, .int .u32 0, .int .u32 0, .int .u32 0, .int .u32 0, .int .u32 0, .int .u32 0, .int .u32 0, .int .u32 0, .int .u32 0, .int .u32 0, .int .u32 0, .int .u32 0, .int .u32 0, .int .u32 0, .int .u32 0, .int .u32 0, .int .u32 0, .int .u32 0, .int .u32 0, .int .u32 0, .int .u32 0, .int .u32 0, .int .u32 0, .int .u32 1024, .slice (some ⟨w.heap.size, 0, none⟩) 32768 32768, .int .u32 0] 32)) (w.heap.size + 1) w.heap.size newS := by
    have hm : (w.alloc (.cells Z 5)).heap[w.heap.size]? = some (.cells Z 5 (0, 0)) := alloc_new _ _
    have hr := alloc_new (w.alloc (.cells Z 5)) (.cells #[.int .u32 0, .int .u32 0, .int .u32 0, .int .u32 0, .int .u32 0, .int .u32 0, .int .u32 0, .int .u32 0, .int .u32 0, .int .u32 0, .int .u32 0, .int .u32 0, .int .u32 0, .int .u32 0, .int .u32 0, .int .u32 0, .int .u32 0, .int .u32 0, .int .u32 0, .int .u32 0, .int .u32 0, .int .u32 0, .int .u32 0, .int .u32 0, .int .u32 0, .int .u32 0, .int .u32 0, .int .u32 0, .int .u32 0, .int .u32 0, .int .u32 0, .int .u32 0, .int .u32 1024, .slice (some ⟨w.heap.size, 0, none⟩) 32768 32768, .int .u32 0] 32)
    rw [World.size_alloc] at hr
    refine ⟨Nat.le_succ_of_le tabs.1, tabs.1, by omega, ⟨_, hr, ?_⟩, ⟨Z, ?_, ⟨z1, z2⟩⟩, newS_ok⟩
    · refine ⟨rfl, fun i hi => ?_, rfl, rfl, rfl⟩
      show ((List.replicate 32 (Value.int .u32 0) ++ ([.int .u32 1024, .slice (some ⟨w.heap.size, 0, none⟩) 32768 32768, .int .u32 0] : List Value)).toArray)[i]? = _
      rw [List.getElem?_toArray, List.getElem?_append_left (by simpa using hi), List.getElem?_replicate, if_pos hi]
      rfl
    · rw [Below.heap_alloc _ _ _ (by simp)]; exact hm
  have kx : Below w.heap.size w ((w.alloc (.cells Z 5)).alloc (.cells #[.int .u32 0, .int .u32 0, .int .u32 0, .int .u32 0, .int .u32 0, .int .u32 0, .int .u32 0, .int .u32 0, .int .u32 0, .int .u32 0, .int .u32 0, .int .u32 0, .int .u32 0, .int .u32 0, .int .u32 0, .int .u32 0, .int .u32 0, .int .u32 0, .int .u32 0, .int .u32 0, .int .u32 0, .int .u32 0, .int .u32 0, .int .u32 0, .int .u32 0, .int .u32 0, .int .u32 0, .int .u32 0, .int .u32 0, .int .u32 0, .int .u32 0, .int .u32 0, .int .u32 1024, .slice (some ⟨w.heap.size, 0, none⟩) 32768 32768, .int .u32 0] 32)) :=
    ((Below.refl _ _).alloc (Nat.le_refl _) _).alloc (by simp) _
  go_enter Tryd.func9, Tryd.ntmps9
  go_wp2_with fail
  go_ret
  exact ⟨rfl, hx, kx⟩
theorem storeM_zero (m : Int → Int) (a v : Int) : storeM m a 0 v = m := by funext j; unfold storeM; rw [if_neg (by omega)]
theorem storeM_succ (m : Int → Int) (a v : Int) (k : Nat) : (fun j => if j = a + k then v / 256 ^ k % 256 else storeM m a k v j) = storeM m a ((k : Int) + 1) v := by
  funext j
  unfold storeM
  by_cases h : j = a + k
  · rw [if_pos h, if_pos (by omega), show (j - a).toNat = k by omega]
  · rw [if_neg h]
    by_cases h2 : a ≤ j ∧ j < a + k
    · rw [if_pos h2, if_pos (by omega)]
    · rw [if_neg h2, if_neg (by omega)]
set_option maxHeartbeats 1000000 in
theorem rStore_yes {R M : Nat} {s : St} {w : World} (h : RAt w R M s) (a n v : Int) (ha : 0 ≤ a ∧ a ≤ 4294967295) (hn : -9223372036854775808 ≤ n ∧ n ≤ 9223372036854775807) (hv : 0 ≤ v ∧ v ≤ 4294967295) (hf : fitsL a n = true) :
    Calls Tryd.prog 10 #[rp R, .int .u32 a, .int .i64 n, .int .u32 v] w fun e w' => e = .returned (.bool true) ∧ RAt w' R M (storeS s a n v) ∧ But [M] w.heap.size w w' := by
  obtain ⟨hn2, hle⟩ := fits_nat hf
  have hp := fun w => rfits_any a n ha hn w
  rw [hf] at hp
  obtain ⟨A, rfl⟩ := Int.eq_ofNat_of_zero_le ha.1
  have hltm := h.ltm
  go_enter Tryd.func10, Tryd.ntmps10
  go_wp2_with (first | (go_at_call 22; refine (hp _).mono ?_; rintro e w' ⟨rfl, rfl⟩))
  clear hf hp
  go_loopw [9] (fun ii W => ∃ k : Nat, (k : Int) ≤ n ∧ ii = .int .i64 k ∧ RAt W R M (storeS s A k v) ∧ But [M] w.heap.size w W) (fun ii _ => (n - intOf ii).toNat)
  case atStart => exact ⟨0, by omega, rfl, by unfold storeS; rw [show ((0 : Nat) : Int) = 0 from rfl, storeM_zero]; exact h, But.refl _ _ _⟩
  case round =>
    obtain ⟨k, hk, rfl, hr, kb⟩ := hrel
    by_cases hlt : (k : Int) < n
    · have hsl := hr.sl
      have hm := hr.m (A + k) (by omega)
      have hfm := hr.frm (A + k)
      have hset := hr.set_m (A + k) (by omega) (v := v / 256 ^ k % 256) (by omega)
      rw [show ({ storeS s A k v with m := fun j => if j = ((A + k : Nat) : Int) then v / 256 ^ k % 256 else (storeS s A k v).m j } : St) = storeS s A (k + 1) v by unfold storeS; simp only []; rw [← storeM_succ]; simp] at hset
      rcases (by omega : k = 0 ∨ k = 1 ∨ k = 2 ∨ k = 3) with rfl | rfl | rfl | rfl
      · have hm' : wr.cell? ⟨M, A, none⟩ = some (.int .u8 ((storeS s A ((0 : Nat) : Int) v).m ((A + 0 : Nat) : Int))) := hm
        have hfm' : wr.frozen? ⟨M, A, none⟩ = false := hfm
        have hset' : RAt (wr.setCell ⟨M, A, none⟩ (.int .u8 (v % 256))) R M (storeS s A ((1 : Nat) : Int) v) := by
          have := hset
          rw [show v / 256 ^ 0 % 256 = v % 256 by simp] at this
          exact this
        clear hm hfm hset
        go_wp2_with fail
        go_roundw
        case rel => exact ⟨1, by omega, by go_num, by first | exact hset' | (simpa using hset'), kb.setCell (by simp) _⟩
        case measure => simp [intOf]; omega
      · have hm' : wr.cell? ⟨M, A + 1, none⟩ = some (.int .u8 ((storeS s A ((1 : Nat) : Int) v).m ((A + 1 : Nat) : Int))) := hm
        have hfm' : wr.frozen? ⟨M, A + 1, none⟩ = false := hfm
        have hset' : RAt (wr.setCell ⟨M, A + 1, none⟩ (.int .u8 (v / 256 % 256))) R M (storeS s A ((2 : Nat) : Int) v) := by
          have := hset
          rw [show v / 256 ^ 1 % 256 = v / 256 % 256 by simp] at this
          exact this
        clear hm hfm hset
        go_wp2_with fail
        go_roundw
        case rel => exact ⟨2, by omega, by go_num, by first | exact hset' | (simpa using hset'), kb.setCell (by simp) _⟩
        case measure => simp [intOf]; omega
      · have hm' : wr.cell? ⟨M, A + 2, none⟩ = some (.int .u8 ((storeS s A ((2 : Nat) : Int) v).m ((A + 2 : Nat) : Int))) := hm
        have hfm' : wr.frozen? ⟨M, A + 2, none⟩ = false := hfm
        have hset' : RAt (wr.setCell ⟨M, A + 2, none⟩ (.int .u8 (v / 65536 % 256))) R M (storeS s A ((3 : Nat) : Int) v) := by
          have := hset
          rw [show v / 256 ^ 2 % 256 = v / 65536 % 256 by simp] at this
          exact this
        clear hm hfm hset
        go_wp2_with fail
        go_roundw
        case rel => exact ⟨3, by omega, by go_num, by first | exact hset' | (simpa using hset'), kb.setCell (by simp) _⟩
        case measure => simp [intOf]; omega
      · have hm' : wr.cell? ⟨M, A + 3, none⟩ = some (.int .u8 ((storeS s A ((3 : Nat) : Int) v).m ((A + 3 : Nat) : Int))) := hm
        have hfm' : wr.frozen? ⟨M, A + 3, none⟩ = false := hfm
        have hset' : RAt (wr.setCell ⟨M, A + 3, none⟩ (.int .u8 (v / 16777216))) R M (storeS s A ((4 : Nat) : Int) v) := by
          have := hset
          rw [show v / 256 ^ 3 % 256 = v / 16777216 by simp; omega] at this
          exact this
        clear hm hfm hset
        go_wp2_with fail
        go_roundw
        case rel => exact ⟨4, by omega, by go_num, by first | exact hset' | (simpa using hset'), kb.setCell (by simp) _⟩
        case measure => simp [intOf]; omega
    · obtain rfl : n = k := by omega
      go_wp2_with fail
      go_ret
      exact ⟨rfl, hr, kb⟩
theorem rStore_no {R M : Nat} {s : St} {w : World} (h : RAt w R M s) (a n v : Int) (ha : 0 ≤ a ∧ a ≤ 4294967295) (hn : -9223372036854775808 ≤ n ∧ n ≤ 9223372036854775807) (hf : fitsL a n = false) :
    Calls Tryd.prog 10 #[rp R, .int .u32 a, .int .i64 n, .int .u32 v] w fun e w' => e = .returned (.bool false) ∧ w = w' := by
  have hp := fun w => rfits_any a n ha hn w
  rw [hf] at hp
  clear hf
  go_enter Tryd.func10, Tryd.ntmps10
  go_wp2_with (first | (go_at_call 22; refine (hp _).mono ?_; rintro e w' ⟨rfl, rfl⟩))
  all_goals (go_ret; exact ⟨rfl, rfl⟩)
theorem row_r {R M : Nat} {s : St} {w : World} (h : RAt w R M s) (a n : Nat) (hn : a + n ≤ 32768) : Row8 w (some ⟨M, a, none⟩) n (bytesM s.m a n) := by
  refine ⟨by simp [bytesM], bytesM_bd h.ok.m _ _, .inr ⟨M, a, rfl, h.ltm, fun i hi => ?_⟩⟩
  have := h.m (a + i) (by omega)
  rw [this]
  simp [bytesM, hi]
theorem rLoad_yes {R M : Nat} {s : St} {w : World} (h : RAt w R M s) (a n : Int) (ha : 0 ≤ a ∧ a ≤ 4294967295) (hn : -9223372036854775808 ≤ n ∧ n ≤ 9223372036854775807) (hf : fitsL a n = true) :
    Calls Tryd.prog 23 #[rp R, .int .u32 a, .int .i64 n] w fun e w' => e = .returned (.tuple #[.int .u32 (wordM s.m a n), .bool true]) ∧ Below w.heap.size w w' := by
  obtain ⟨hn2, hle⟩ := fits_nat hf
  have hp := fun w => rfits_any a n ha hn w
  rw [hf] at hp
  obtain ⟨A, rfl⟩ := Int.eq_ofNat_of_zero_le ha.1
  obtain ⟨N, rfl⟩ := Int.eq_ofNat_of_zero_le (show 0 ≤ n by omega)
  have hr := row_r h A N (by omega)
  have hw : wordM s.m (A : Int) (N : Int) = wordS (bytesM s.m A N) := by unfold wordM; rw [Int.toNat_natCast]
  rw [hw]
  clear hf hw
  have hsl := h.sl
  have hword := fun w h => rword_any (some ⟨M, A, none⟩) N (32768 - A) (bytesM s.m A N) w h
  go_enter Tryd.func23, Tryd.ntmps23
  go_wp2_with (first | (go_at_call 22; refine (hp _).mono ?_; rintro e w' ⟨rfl, rfl⟩) | (refine (hword _ hr).mono ?_; rintro e w' ⟨rfl, hb⟩))
  all_goals (go_ret2; exact ⟨rfl, hb⟩)
theorem rLoad_no {R M : Nat} {s : St} {w : World} (h : RAt w R M s) (a n : Int) (ha : 0 ≤ a ∧ a ≤ 4294967295) (hn : -9223372036854775808 ≤ n ∧ n ≤ 9223372036854775807) (hf : fitsL a n = false) :
    Calls Tryd.prog 23 #[rp R, .int .u32 a, .int .i64 n] w fun e w' => e = .returned (.tuple #[.int .u32 0, .bool false]) ∧ w = w' := by
  have hp := fun w => rfits_any a n ha hn w
  rw [hf] at hp
  clear hf
  go_enter Tryd.func23, Tryd.ntmps23
  go_wp2_with (first | (go_at_call 22; refine (hp _).mono ?_; rintro e w' ⟨rfl, rfl⟩))
  all_goals (go_ret2; exact ⟨rfl, rfl⟩)
end Go.Proofs.YtbalnlodkiejcaaDoor
