/- The document's memory: bytes read and written. -/
import Derived.Test.YtmlaancmacipoaaR1
namespace Go.Proofs.Ytmlaancmacipoaa
open Go.RowKit
set_option linter.unusedVariables false
set_option linter.unusedSimpArgs false
set_option linter.unusedSectionVars false

theorem miss_eq {x r : Int} (hx : 0 ≤ x ∧ x ≤ 7) (hr : r = 1 ∨ r = 2 ∨ r = 4) : bits .andNot .i64 r x = if x / r % 2 = 0 then r else 0 := by
  rcases (by omega : x = 0 ∨ x = 1 ∨ x = 2 ∨ x = 3 ∨ x = 4 ∨ x = 5 ∨ x = 6 ∨ x = 7) with rfl | rfl | rfl | rfl | rfl | rfl | rfl | rfl <;> rcases hr with rfl | rfl | rfl <;> rfl
theorem low_eq {r : Int} (hr : r = 1 ∨ r = 2 ∨ r = 4) : bits .and .i64 r (-r) = r := by
  rcases hr with rfl | rfl | rfl <;> rfl
set_option maxRecDepth 8000 in
theorem rLacks_none {R : Nat} {m : Mm} {w : World} (h : RAt w R m) (ok : m.ok) (A n : Nat) (hA : A ≤ 4294967295) (r : Int) (hr : r = 1 ∨ r = 2 ∨ r = 4) (h4 : n ≤ 100) (hl : lackL m A r n = none) :
    Calls Try.prog 10 #[mp R, .int .u32 A, .int .i64 n, .int .i64 r] w fun e w' => e = .returned (.tuple #[fltV 0 0 0 0, .bool false]) ∧ Below w.heap.size w w' := by
  have kF := (Below.refl w.heap.size w).alloc (Nat.le_refl _) (.cells #[.int .i64 0, .int .u32 0, .int .u32 0, .int .i64 0] 32)
  have A4 := Four.begun w 0 0 0 0 32
  have zF := size_of_cell A4.c0
  have hF := h.alloc (.cells #[.int .i64 0, .int .u32 0, .int .u32 0, .int .i64 0] 32)
  have hne := Nat.ne_of_lt h.lt
  go_enter Try.func10, Try.ntmps10
  go_wp2_with fail
  generalize w.alloc (.cells #[.int .i64 0, .int .u32 0, .int .u32 0, .int .i64 0] 32) = wF at *
  generalize hFs : w.heap.size = F at *
  have hFs' := hid hFs
  clear hFs
  go_loopw [10] (fun ii W => ∃ k : Nat, k ≤ n ∧ ii = .int .i64 k ∧ W = wF) (fun ii _ => (n - intOf ii).toNat)
  case atStart => exact ⟨0, by omega, rfl, rfl⟩
  case round =>
    obtain ⟨k, hk, rfl, rfl⟩ := hrel
    by_cases hlt : k < n
    · have ha := rRight hF ok (((A : Int) + k) % 4294967296) (by omega)
      have hp : ¬ placeL m (((A : Int) + k) % 4294967296) / r % 2 = 0 := by have := lack_none hl k hlt; rw [lackP_eq] at this; simpa using this
      have hx := ok.r ((((A : Int) + k) % 4294967296) / 256).toNat
      change 0 ≤ placeL m (((A : Int) + k) % 4294967296) ∧ placeL m (((A : Int) + k) % 4294967296) ≤ 7 at hx
      have hm := miss_eq hx hr
      rw [if_neg hp] at hm
      generalize placeL m (((A : Int) + k) % 4294967296) = x at *
      clear hp hx
      go_wp2_with fail
      go_at_call 23
      refine ha.mono ?_
      rintro e w' ⟨rfl, rfl⟩
      go_wp2_with fail
      go_roundw
      case rel => exact ⟨k + 1, by omega, by go_num, trivial⟩
      case measure => simp [intOf]; omega
    · obtain rfl : k = n := by omega
      have hst := A4.stored 0 0 0 0
      have kS := (But.of kF [F]).stored4 (K := F) (by simp) (.int .i64 0) (.int .u32 0) (.int .u32 0) (.int .i64 0)
      obtain ⟨c0, c1, c2, c3, f⟩ := A4
      have f0 := f 0
      have f1 := f 1
      have f2 := f 2
      have f3 := f 3
      clear f
      go_wp2_with fail
      clear c0 c1 c2 c3 f0 f1 f2 f3
      generalize ((((wr.setCell ⟨F, 0, none⟩ (.int .i64 0)).setCell ⟨F, 1, none⟩ (.int .u32 0)).setCell ⟨F, 2, none⟩ (.int .u32 0)).setCell ⟨F, 3, none⟩ (.int .i64 0)) = w7 at *
      obtain ⟨d0, d1, d2, d3, -⟩ := hst
      exact bodyPost_ret (v := .tuple #[fltV 0 0 0 0, .bool false]) (by simp [results, Try.results10, go_sem, d0, d1, d2, d3]) rfl ⟨rfl, by rw [hFs'.out]; exact kS.below (Nat.le_refl _) (by simp)⟩
set_option maxRecDepth 8000 in
theorem rLacks_some {R : Nat} {m : Mm} {w : World} (h : RAt w R m) (ok : m.ok) (A n j : Nat) (hA : A ≤ 4294967295) (r : Int) (hr : r = 1 ∨ r = 2 ∨ r = 4) (h4 : n ≤ 100) (hl : lackL m A r n = some j) :
    Calls Try.prog 10 #[mp R, .int .u32 A, .int .i64 n, .int .i64 r] w fun e w' => e = .returned (.tuple #[fltV 1 0 ((A + j) % 4294967296) r, .bool true]) ∧ Below w.heap.size w w' := by
  have kF := (Below.refl w.heap.size w).alloc (Nat.le_refl _) (.cells #[.int .i64 0, .int .u32 0, .int .u32 0, .int .i64 0] 32)
  have A4 := Four.begun w 0 0 0 0 32
  have zF := size_of_cell A4.c0
  have hF := h.alloc (.cells #[.int .i64 0, .int .u32 0, .int .u32 0, .int .i64 0] 32)
  obtain ⟨hj, hj2', hj3'⟩ := lack_some hl
  have hj2 := hid hj2'
  have hj3 := hid hj3'
  clear hj2' hj3' hl
  go_enter Try.func10, Try.ntmps10
  go_wp2_with fail
  generalize w.alloc (.cells #[.int .i64 0, .int .u32 0, .int .u32 0, .int .i64 0] 32) = wF at *
  generalize hFs : w.heap.size = F at *
  have hFs' := hid hFs
  clear hFs
  go_loopw [10] (fun ii W => ∃ k : Nat, k ≤ j ∧ ii = .int .i64 k ∧ W = wF) (fun ii _ => (n - intOf ii).toNat)
  case atStart => exact ⟨0, by omega, rfl, rfl⟩
  case round =>
    obtain ⟨k, hk, rfl, rfl⟩ := hrel
    have hlt : k < n := by omega
    have ha := rRight hF ok (((A : Int) + k) % 4294967296) (by omega)
    have hx := ok.r ((((A : Int) + k) % 4294967296) / 256).toNat
    change 0 ≤ placeL m (((A : Int) + k) % 4294967296) ∧ placeL m (((A : Int) + k) % 4294967296) ≤ 7 at hx
    have hm := miss_eq hx hr
    by_cases hkj : k < j
    · have hp : ¬ placeL m (((A : Int) + k) % 4294967296) / r % 2 = 0 := by have := hj3.out k hkj; rw [lackP_eq] at this; simpa using this
      rw [if_neg hp] at hm
      generalize placeL m (((A : Int) + k) % 4294967296) = x at *
      clear hp hx
      go_wp2_with fail
      go_at_call 23
      refine ha.mono ?_
      rintro e w' ⟨rfl, rfl⟩
      go_wp2_with fail
      go_roundw
      case rel => exact ⟨k + 1, by omega, by go_num, trivial⟩
      case measure => simp [intOf]; omega
    · obtain rfl : k = j := by omega
      have hp : placeL m (((A : Int) + k) % 4294967296) / r % 2 = 0 := by have := hj2.out; rw [lackP_eq] at this; simpa using this
      rw [if_pos hp] at hm
      generalize placeL m (((A : Int) + k) % 4294967296) = x at *
      have hlow := low_eq hr
      have hr0 : (r == 0) = false := by rcases hr with rfl | rfl | rfl <;> rfl
      have hb : 1 ≤ r ∧ r ≤ 4 := by omega
      have hst := A4.stored 1 0 (((A : Int) + k) % 4294967296) r
      have kS := (But.of kF [F]).stored4 (K := F) (by simp) (.int .i64 1) (.int .u32 0) (.int .u32 (((A : Int) + k) % 4294967296)) (.int .i64 r)
      obtain ⟨c0, c1, c2, c3, f⟩ := A4
      have f0 := f 0
      have f1 := f 1
      have f2 := f 2
      have f3 := f 3
      clear f hp hx hj3 hj2
      go_wp2_with fail
      go_at_call 23
      refine ha.mono ?_
      rintro e w' ⟨rfl, rfl⟩
      go_wp2_with fail
      clear c0 c1 c2 c3 f0 f1 f2 f3
      generalize ((((wr.setCell ⟨F, 0, none⟩ (.int .i64 1)).setCell ⟨F, 1, none⟩ (.int .u32 0)).setCell ⟨F, 2, none⟩ (.int .u32 (((A : Int) + k) % 4294967296))).setCell ⟨F, 3, none⟩ (.int .i64 r)) = w7 at *
      obtain ⟨d0, d1, d2, d3, -⟩ := hst
      exact bodyPost_ret (v := .tuple #[fltV 1 0 (((A : Int) + k) % 4294967296) r, .bool true]) (by simp [results, Try.results10, go_sem, d0, d1, d2, d3]) rfl ⟨rfl, by rw [hFs'.out]; exact kS.below (Nat.le_refl _) (by simp)⟩
end Go.Proofs.Ytmlaancmacipoaa
