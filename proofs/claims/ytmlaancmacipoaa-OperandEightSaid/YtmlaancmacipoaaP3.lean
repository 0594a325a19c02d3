/- Bytes poked; what isn't there panics with a fault; bytes reached. -/
import Derived.Test.YtmlaancmacipoaaP2
namespace Go.Proofs.Ytmlaancmacipoaa
open Go.RowKit
set_option linter.unusedVariables false
set_option linter.unusedSimpArgs false
set_option linter.unusedSectionVars false

def pokeE (m : Mm) (a : Int) (zs : List Int) : Bool := decide (mappedL m a zs.length = zs.length)
def pokeS (m : Mm) (a : Int) (zs : List Int) : Mm := if pokeE m a zs = true then putB m a.toNat zs else m
theorem pokeS_ok {m : Mm} (ok : m.ok) (a : Int) (ha : 0 ≤ a ∧ a ≤ 4294967295) (zs : List Int) (hz : ∀ z ∈ zs, 0 ≤ z ∧ z ≤ 255) : (pokeS m a zs).ok := by
  unfold pokeS
  split
  · rename_i h
    unfold pokeE at h
    rw [decide_eq_true_eq] at h
    by_cases h0 : zs.length = 0
    · rw [List.length_eq_zero_iff.1 h0, putB_nil]; exact ok
    · have he := mapped_end ok ha h (by omega)
      refine putB_ok ok _ _ hz fun i hi => ?_
      have := mapped_all h i hi
      rw [Int.emod_eq_of_lt (by omega) (by omega)] at this
      rw [show (a.toNat + i) / 256 = ((a + i) / 256).toNat by omega]
      exact this
  · exact ok
/-- A fault; what is panicked with. -/
abbrev fltV (k p a wt : Int) : Value := .agg #[.int .i64 k, .int .u32 p, .int .u32 a, .int .i64 wt]
abbrev fltP (a wt : Int) : List PanicEntry := [{ v := .iface 32 (fltV 1 0 a wt), recovered := false }]
theorem and_right {x r : Int} (hx : 0 ≤ x ∧ x ≤ 7) (hr : r = 1 ∨ r = 2 ∨ r = 4) : (bits .and .i64 x r == 0) = decide (x / r % 2 = 0) := by
  rcases (by omega : x = 0 ∨ x = 1 ∨ x = 2 ∨ x = 3 ∨ x = 4 ∨ x = 5 ∨ x = 6 ∨ x = 7) with rfl | rfl | rfl | rfl | rfl | rfl | rfl | rfl <;> rcases hr with rfl | rfl | rfl <;> rfl
theorem ask_any {B : Nat} {m : Mm} {w : World} (h : PAt w B m) (ok : m.ok) (a : Int) (ha : 0 ≤ a ∧ a ≤ 4294967295) (r : Int) (hr : r = 1 ∨ r = 2 ∨ r = 4) :
    Calls Try.prog 69 #[mp B, .int .u32 a, .int .i64 r] w fun e w' => e = (if placeL m a / r % 2 = 0 then .panicked (fltP a r) else .returned (.tuple #[])) ∧ w = w' := by
  have hp := rightsAt_any h ok a ha
  have hx := ok.r (a / 256).toNat
  change 0 ≤ placeL m a ∧ placeL m a ≤ 7 at hx
  have hb := and_right hx hr
  generalize placeL m a = x at *
  cases hd : decide (x / r % 2 = 0) with
  | true =>
    rw [hd] at hb
    rw [decide_eq_true_eq] at hd
    rw [if_pos hd]
    clear hd hx
    go_enter Try.func69, Try.ntmps69
    go_wp2_with fail
    go_at_call 61
    refine hp.mono ?_
    rintro e w' ⟨rfl, rfl⟩
    go_wp2_with fail
    exact ⟨rfl, rfl, rfl⟩
  | false =>
    rw [hd] at hb
    rw [decide_eq_false_iff_not] at hd
    rw [if_neg hd]
    clear hd hx
    go_enter Try.func69, Try.ntmps69
    go_wp2_with fail
    go_at_call 61
    refine hp.mono ?_
    rintro e w' ⟨rfl, rfl⟩
    go_wp2_with fail
    exact bodyPost_end (v := .tuple #[]) (by simp [results, Try.results69, go_sem]) rfl ⟨rfl, rfl⟩
theorem lackP_eq {m : Mm} {a r : Int} {i : Nat} : lackP m a r i = decide (placeL m ((a + i) % 4294967296) / r % 2 = 0) := rfl
set_option maxRecDepth 8000 in
theorem reached_yes {B : Nat} {m : Mm} {w : World} (h : PAt w B m) (ok : m.ok) (A n : Nat) (hA : A ≤ 4294967295) (r : Int) (hr : r = 1 ∨ r = 2 ∨ r = 4) (h0 : 0 < n) (h4 : n ≤ 4) (hl : lackL m A r n = none) :
    Calls Try.prog 59 #[mp B, .int .u32 A, .int .i64 n, .int .i64 r] w fun e w' => e = .returned (.slice (some ⟨B, 64 + A, none⟩) n (16384 - A)) ∧ w = w' := by
  have he := lack_end ok (a := A) (by omega) h4 hl h0
  have hcut := cutB .u32 B A n (by omega) (by omega)
  go_enter Try.func59, Try.ntmps59
  go_wp2_with fail
  go_loopw [11] (fun ii W => ∃ k : Nat, k ≤ n ∧ ii = .int .i64 k ∧ W = w) (fun ii _ => (n - intOf ii).toNat)
  case atStart => exact ⟨0, by omega, rfl, rfl⟩
  case round =>
    obtain ⟨k, hk, rfl, rfl⟩ := hrel
    by_cases hlt : k < n
    · have ha := ask_any h ok (((A : Int) + k) % 4294967296) (by omega) r hr
      rw [if_neg (by have := lack_none hl k hlt; rw [lackP_eq] at this; simpa using this), Int.emod_eq_of_lt (by omega) (by omega)] at ha
      go_wp2_with fail
      go_at_call 69
      refine ha.mono ?_
      rintro e w' ⟨rfl, rfl⟩
      go_wp2_with fail
      go_roundw
      case rel => exact ⟨k + 1, by omega, by go_num, trivial⟩
      case measure => simp [intOf]; omega
    · obtain rfl : k = n := by omega
      go_wp2_with fail
      go_ret
      exact ⟨rfl, rfl⟩
set_option maxRecDepth 8000 in
theorem reached_no {B : Nat} {m : Mm} {w : World} (h : PAt w B m) (ok : m.ok) (A n j : Nat) (hA : A ≤ 4294967295) (r : Int) (hr : r = 1 ∨ r = 2 ∨ r = 4) (h4 : n ≤ 4) (hl : lackL m A r n = some j) :
    Calls Try.prog 59 #[mp B, .int .u32 A, .int .i64 n, .int .i64 r] w fun e w' => e = .panicked (fltP ((A + j) % 4294967296) r) ∧ w = w' := by
  obtain ⟨hj, hj2', hj3'⟩ := lack_some hl
  have hj2 := hid hj2'
  have hj3 := hid hj3'
  clear hj2' hj3' hl
  go_enter Try.func59, Try.ntmps59
  go_wp2_with fail
  go_loopw [11] (fun ii W => ∃ k : Nat, k ≤ j ∧ ii = .int .i64 k ∧ W = w) (fun ii _ => (n - intOf ii).toNat)
  case atStart => exact ⟨0, by omega, rfl, rfl⟩
  case round =>
    obtain ⟨k, hk, rfl, rfl⟩ := hrel
    have hlt : k < n := by omega
    have ha := ask_any h ok (((A : Int) + k) % 4294967296) (by omega) r hr
    by_cases hkj : k < j
    · rw [if_neg (by have := hj3.out k hkj; rw [lackP_eq] at this; simpa using this)] at ha
      go_wp2_with fail
      go_at_call 69
      refine ha.mono ?_
      rintro e w' ⟨rfl, rfl⟩
      go_wp2_with fail
      go_roundw
      case rel => exact ⟨k + 1, by omega, by go_num, trivial⟩
      case measure => simp [intOf]; omega
    · obtain rfl : k = j := by omega
      rw [if_pos (by have := hj2.out; rw [lackP_eq] at this; simpa using this)] at ha
      clear hj hj2 hj3
      go_wp2_with fail
      go_at_call 69
      refine ha.mono ?_
      rintro e w' ⟨rfl, rfl⟩
      go_wp2_with fail
      exact ⟨rfl, rfl, rfl⟩
end Go.Proofs.Ytmlaancmacipoaa
