/- Pages mapped, unmapped, other rights. -/
import Derived.Test.YtmlaancmacipoaaP0
namespace Go.Proofs.Ytmlaancmacipoaa
open Go.RowKit
set_option linter.unusedVariables false
set_option linter.unusedSimpArgs false
set_option linter.unusedSectionVars false

set_option maxRecDepth 8000 in
theorem set_any {B : Nat} {m : Mm} {w : World} (h : PAt w B m) (p n : Nat) (hle : p + n ≤ 64) (v : Int) :
    Calls Try.prog 41 #[mp B, .int .i64 p, .int .i64 n, .int .i64 v] w fun e w' => e = .returned (.tuple #[]) ∧ PAt w' B (setR m p n v) ∧ But [B] w.heap.size w w' := by
  go_enter Try.func41, Try.ntmps41
  go_wp2_with fail
  go_loopw [10] (fun ii W => ∃ k : Nat, k ≤ n ∧ ii = .int .i64 k ∧ PAt W B (setR m p k v) ∧ But [B] w.heap.size w W) (fun ii _ => (n - intOf ii).toNat)
  case atStart => exact ⟨0, by omega, rfl, by rw [setR_zero]; exact h, But.refl _ _ _⟩
  case round =>
    obtain ⟨k, hk, rfl, hk2, kb⟩ := hrel
    by_cases hlt : k < n
    · have hc := hk2.r (p + k) (by omega)
      have hf := hk2.fr (p + k)
      have hx : PAt (wr.setCell ⟨B, p + k, none⟩ (.int .i64 v)) B (setR m p (k + 1) v) := hk2.set (p + k) _ _ fun cs c => c.set_r (p + k) (by omega) v _ (fun j => by
        dsimp only [setR]
        by_cases h1 : j = p + k
        · simp only [h1, ite_true]; split <;> first | rfl | (exfalso; omega)
        · simp only [h1, ite_false]; split <;> split <;> first | rfl | (exfalso; omega)) rfl
      have kx := kb.setCell (p := ⟨B, p + k, none⟩) (by simp) (.int .i64 v)
      go_wp2_with fail
      go_roundw
      case rel => exact ⟨k + 1, by omega, by go_num, hx, kx⟩
      case measure => simp [intOf]; omega
    · obtain rfl : k = n := by omega
      go_wp2_with fail
      exact bodyPost_end (v := .tuple #[]) (by simp [results, Try.results41, go_sem]) rfl ⟨rfl, hk2, kb⟩
set_option maxRecDepth 8000 in
theorem can_in {B : Nat} {m : Mm} {w : World} (h : PAt w B m) (p n : Nat) (q : Bool) (hp : p < 64) (hn : 0 < n) (hle : p + n ≤ 64) :
    Calls Try.prog 40 #[mp B, .int .i64 p, .int .i64 n, .bool q] w fun e w' => e = .returned (.bool (allL m q p n)) ∧ w = w' := by
  have hi := fun w => isPage_any p w
  rw [show (decide (0 ≤ (p : Int)) && decide ((p : Int) < 64)) = true by simp; omega] at hi
  have hcut := cutR B p n hp hle
  go_enter Try.func40, Try.ntmps40
  go_wp2_with (first | (go_at_call 47; refine (hi _).mono ?_; rintro e w' ⟨rfl, rfl⟩))
  go_loopw [33] (fun ii W => ∃ k : Nat, k ≤ n ∧ ii = .int .i64 k ∧ allL m q p k = true ∧ w = W) (fun ii _ => (n - intOf ii).toNat)
  case atStart => exact ⟨0, by omega, rfl, rfl, rfl⟩
  case round =>
    obtain ⟨k, hk, rfl, ha, rfl⟩ := hrel
    have ha' := hid ha
    clear ha
    by_cases hlt : k < n
    · have hc := h.r (p + k) (by omega)
      by_cases hz : q = (m.r (p + k) != 0)
      · have hg : Hid (allL m q p (k + 1) = true) := hid (by simp [allL, ha'.out, ← hz])
        have hz2 : (q == (m.r (p + k) != 0)) = true := by simp [← hz]
        clear hz
        go_wp2_with fail
        go_roundw
        case rel => exact ⟨k + 1, by omega, by go_num, hg.out, trivial⟩
        case measure => simp [intOf]; omega
      · have hg : Hid (allL m q p n = false) := hid (all_no k hlt hz)
        have hz2 : (q == (m.r (p + k) != 0)) = false := by simpa using hz
        clear hz
        go_wp2_with fail
        go_ret
        exact ⟨ret_bool hg.out.symm, rfl⟩
    · obtain rfl : k = n := by omega
      go_wp2_with fail
      go_ret
      exact ⟨ret_bool ha'.out.symm, rfl⟩
theorem can_out {B : Nat} {m : Mm} {w : World} (p n : Int) (q : Bool) (hp : -9223372036854775808 ≤ p ∧ p ≤ 9223372036854775807) (h : thereL p n = false) :
    Calls Try.prog 40 #[mp B, .int .i64 p, .int .i64 n, .bool q] w fun e w' => e = .returned (.bool false) ∧ w = w' := by
  have hi := fun w => isPage_any p w
  have hn : ¬ (0 ≤ p ∧ p < 64 ∧ 0 < n ∧ n ≤ 64 - p) := fun hh => by rw [there_iff.2 hh] at h; cases h
  clear h
  by_cases h1 : 0 ≤ p ∧ p < 64
  · rw [show (decide (0 ≤ p) && decide (p < 64)) = true by simp; omega] at hi
    by_cases h2 : 0 < n
    · have h3 : 64 - p < n := by omega
      go_enter Try.func40, Try.ntmps40
      go_wp2_with (first | (go_at_call 47; refine (hi _).mono ?_; rintro e w' ⟨rfl, rfl⟩))
      go_ret
      exact ⟨rfl, rfl⟩
    · go_enter Try.func40, Try.ntmps40
      go_wp2_with (first | (go_at_call 47; refine (hi _).mono ?_; rintro e w' ⟨rfl, rfl⟩))
      go_ret
      exact ⟨rfl, rfl⟩
  · rw [show (decide (0 ≤ p) && decide (p < 64)) = false by simp; omega] at hi
    go_enter Try.func40, Try.ntmps40
    go_wp2_with (first | (go_at_call 47; refine (hi _).mono ?_; rintro e w' ⟨rfl, rfl⟩))
    go_ret
    exact ⟨rfl, rfl⟩
abbrev I64 (p : Int) : Prop := -9223372036854775808 ≤ p ∧ p ≤ 9223372036854775807
theorem can_any {B : Nat} {m : Mm} {w : World} (h : PAt w B m) (p n : Int) (q : Bool) (hp : I64 p) :
    Calls Try.prog 40 #[mp B, .int .i64 p, .int .i64 n, .bool q] w fun e w' => e = .returned (.bool (canL m p n q)) ∧ w = w' := by
  unfold canL
  cases ht : thereL p n with
  | false => exact can_out (m := m) p n q hp ht
  | true =>
    obtain ⟨h1, h2, h3, h4⟩ := there_iff.1 ht
    obtain ⟨P, rfl⟩ := Int.eq_ofNat_of_zero_le h1
    obtain ⟨N, rfl⟩ := Int.eq_ofNat_of_zero_le (show 0 ≤ n by omega)
    rw [Bool.true_and, Int.toNat_natCast, Int.toNat_natCast]
    exact can_in h P N q (by omega) (by omega) (by omega)
theorem Map_any {B : Nat} {m : Mm} {w : World} (h : PAt w B m) (p n v : Int) (hp : I64 p) :
    Calls Try.prog 18 #[mp B, .int .i64 p, .int .i64 n, .int .i64 v] w fun e w' => e = .returned (.int .i64 (errM (mapE m p n v))) ∧ PAt w' B (mapS m p n v) ∧ But [B] w.heap.size w w' := by
  have hc := fun w (h : PAt w B m) => can_any h p n false hp
  have ha := fun w => areR_any v w
  unfold mapS mapE
  cases h1 : areL v with
  | false =>
    rw [h1] at ha
    rw [Bool.false_and, if_neg (by decide)]
    go_enter Try.func18, Try.ntmps18
    go_wp2_with (first | (go_at_call 39; refine (ha _).mono ?_; rintro e w' ⟨rfl, rfl⟩))
    go_ret
    exact ⟨rfl, h, But.refl _ _ _⟩
  | true =>
    rw [h1] at ha
    rw [Bool.true_and]
    cases h2 : canL m p n false with
    | false =>
      rw [h2] at hc
      rw [if_neg (by decide)]
      go_enter Try.func18, Try.ntmps18
      go_wp2_with (first | (go_at_call 39; refine (ha _).mono ?_; rintro e w' ⟨rfl, rfl⟩) | (go_at_call 40; refine (hc _ h).mono ?_; rintro e w' ⟨rfl, rfl⟩))
      go_ret
      exact ⟨rfl, h, But.refl _ _ _⟩
    | true =>
      rw [h2] at hc
      rw [if_pos rfl]
      obtain ⟨⟨p0, p1, p2, p3⟩, -⟩ := can_iff.1 h2
      obtain ⟨P, rfl⟩ := Int.eq_ofNat_of_zero_le p0
      obtain ⟨N, rfl⟩ := Int.eq_ofNat_of_zero_le (show 0 ≤ n by omega)
      have hs := set_any h P N (by omega) v
      clear h1 h2
      go_enter Try.func18, Try.ntmps18
      go_wp2_with (first | (go_at_call 39; refine (ha _).mono ?_; rintro e w' ⟨rfl, rfl⟩) | (go_at_call 40; refine (hc _ h).mono ?_; rintro e w' ⟨rfl, rfl⟩))
      go_at_call 41
      refine hs.mono ?_
      rintro e w' ⟨rfl, hx, kx⟩
      go_wp2_with fail
      go_ret
      exact ⟨rfl, hx, kx⟩
theorem zero_u8 (w : World) : (zeroValue 5).run Try.prog w = .ok (.int .u8 0) w := by kernel_rfl
end Go.Proofs.Ytmlaancmacipoaa
