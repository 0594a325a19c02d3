/- PageWrongs. -/
import Derived.Test.YtohkfkojheecoaaL0
namespace Go.Proofs.Ytohkfkojheecoaa
open Go.RowKit
set_option linter.unusedVariables false
set_option linter.unusedSimpArgs false
set_option linter.unusedSectionVars false

theorem new_no (p n : Int) : canL Mm.new p n true = false := by
  cases h : canL Mm.new p n true with
  | false => rfl
  | true =>
    obtain ⟨⟨p0, p1, p2, p3⟩, ha⟩ := can_iff.1 h
    have := all_at ha 0 (by omega)
    exact absurd this (by simp [Mm.new])
theorem new_all (p n : Nat) : allL Mm.new false p n = true := by
  induction n with
  | zero => rfl
  | succ n ih => rw [allL, ih]; rfl
theorem new_map (p n v : Int) : mapE Mm.new p n v = (areL v && thereL p n) := by
  unfold mapE canL
  rw [new_all, Bool.and_true]
theorem allL_of {m : Mm} {p n : Nat} (h : ∀ i, i < n → m.r (p + i) ≠ 0) : allL m true p n = true := by
  induction n with
  | zero => rfl
  | succ n ih => simp [allL, ih (fun i hi => h i (by omega)), h n (by omega)]
/-- How many of the pages below k are among n from p on. -/
def cntL (p n k : Nat) : Nat := if k ≤ p then 0 else if k ≤ p + n then k - p else n
theorem cnt_zero (p n : Nat) : cntL p n 0 = 0 := by unfold cntL; rw [if_pos (by omega)]
theorem cnt_yes {p n k : Nat} (h : p ≤ k ∧ k < p + n) : cntL p n (k + 1) = cntL p n k + 1 := by
  unfold cntL; split <;> split <;> (try split) <;> (try split) <;> omega
theorem cnt_no {p n k : Nat} (h : ¬ (p ≤ k ∧ k < p + n)) : cntL p n (k + 1) = cntL p n k := by
  unfold cntL; split <;> split <;> (try split) <;> (try split) <;> omega
theorem cnt_end {p n : Nat} (h : p < 64) (h2 : p + n ≤ 64) : cntL p n 64 = n := by
  unfold cntL; rw [if_neg (by omega)]; split <;> omega
theorem cnt_bd (p n k : Nat) : cntL p n k ≤ n := by
  unfold cntL; split
  · omega
  · split <;> omega
theorem rights_at (m : Mm) (k : Nat) (h : k < 64) : rightsL m k = m.r k := by unfold rightsL; rw [if_pos (by omega), Int.toNat_natCast]
theorem un_new (p n : Nat) (v : Int) (hv : areL v = true) (hp : p < 64) (hn : 0 < n) (hle : p + n ≤ 64) : unmapS (setR Mm.new p n v) p n = Mm.new ∧ canL (setR Mm.new p n v) p n true = true ∧ protE (setR Mm.new p n v) p n v = true ∧ protS (setR Mm.new p n v) p n v = setR Mm.new p n v := by
  have hv' := are_iff.1 hv
  have hc : canL (setR Mm.new p n v) p n true = true := by
    refine can_iff.2 ⟨by omega, ?_⟩
    rw [Int.toNat_natCast, Int.toNat_natCast]
    refine allL_of fun i hi => ?_
    dsimp only [setR]
    rw [if_pos (by omega)]; omega
  have hpr : protE (setR Mm.new p n v) p n v = true := by unfold protE; rw [hv, hc]; rfl
  refine ⟨?_, hc, hpr, ?_⟩
  · unfold unmapS
    rw [if_pos hc, Int.toNat_natCast, Int.toNat_natCast]
    unfold zeroB setR Mm.new
    congr 1
    · funext i; dsimp only; split <;> (try split) <;> rfl
    · funext i; dsimp only; split <;> rfl
  · unfold protS
    rw [if_pos hpr, Int.toNat_natCast, Int.toNat_natCast]
    unfold setR
    congr 1
    funext i
    dsimp only
    split
    · rfl
    · rfl
set_option maxRecDepth 8000 in
theorem wrongs_fine (p n : Nat) (v : Int) (hv : areL v = true) (hp : p < 64) (hn : 0 < n) (hle : p + n ≤ 64) (w : World) :
    Calls Try.prog 7 #[.int .i64 p, .int .i64 n, .int .i64 v] w fun e w' => e = .returned (.bool true) ∧ Below w.heap.size w w' := by
  obtain ⟨v0, v7⟩ := are_iff.1 hv
  obtain ⟨u1, u2, u3, u4⟩ := un_new p n v hv hp hn hle
  have hm : mapE Mm.new p n v = true := by rw [new_map, hv, there_iff.2 (by omega)]; rfl
  have hms : mapS Mm.new p n v = setR Mm.new p n v := by unfold mapS; rw [if_pos hm, Int.toNat_natCast, Int.toNat_natCast]
  have eT : errM true = 0 := rfl
  have hr : ∀ k, (setR Mm.new p n v).r k = if p ≤ k ∧ k < p + n then v else 0 := fun k => rfl
  generalize setR Mm.new p n v = m1 at *
  go_enter Try.func7, Try.ntmps7
  go_wp2_with fail
  refine (known_any _).mono ?_
  rintro e w0 ⟨rfl, b0⟩
  have s0 := b0.size
  go_wp2_with fail
  refine (pNew _).mono ?_
  rintro e w1 ⟨rfl, p1⟩
  go_wp2_with fail
  have q := pMap p1 p n v (by omega)
  rw [hm, hms] at q
  refine q.mono ?_
  rintro e w2 ⟨rfl, p2, -⟩
  clear q p1 hm hms
  have u1' := hid u1
  have u2' := hid u2
  have u3' := hid u3
  have u4' := hid u4
  have hr' := hid hr
  clear u1 u2 u3 u4 hr hv
  go_wp2_with fail
  go_loopw [10, 11] (fun nn ii W => ∃ k : Nat, k ≤ 64 ∧ ii = .int .i64 k ∧ nn = .int .i64 (cntL p n k : Nat) ∧ W = w2) (fun _ ii _ => (64 - intOf ii).toNat)
  case atStart => exact ⟨0, by omega, rfl, by rw [cnt_zero]; rfl, rfl⟩
  case round =>
    obtain ⟨k, hk, rfl, rfl, rfl⟩ := hrel
    by_cases hlt : k < 64
    · have q := pRights p2 k
      rw [rights_at _ k hlt, hr'.out k] at q
      by_cases hin : p ≤ k ∧ k < p + n
      · rw [if_pos hin] at q
        have hc := hid (cnt_yes hin)
        have hb := cnt_bd p n k
        generalize cntL p n k = c at *
        clear hin
        have hv1 : (v == 0) = false := by simp; omega
        go_wp2_with fail
        refine q.mono ?_
        rintro e w3 ⟨rfl, rfl⟩
        go_wp2_with fail
        go_roundw
        case rel => exact ⟨k + 1, by omega, by go_num, by rw [hc.out]; go_num, trivial⟩
        case measure => simp [intOf]; omega
      · rw [if_neg hin] at q
        have hc := hid (cnt_no hin)
        have hb := cnt_bd p n k
        generalize cntL p n k = c at *
        clear hin
        go_wp2_with fail
        refine q.mono ?_
        rintro e w3 ⟨rfl, rfl⟩
        go_wp2_with fail
        go_roundw
        case rel => exact ⟨k + 1, by omega, by go_num, by rw [hc.out], trivial⟩
        case measure => simp [intOf]; omega
    · obtain rfl : k = 64 := by omega
      rw [cnt_end hp hle]
      go_wp2_with fail
      have q := pProtect p2 p n v (by omega)
      rw [u3'.out, u4'.out] at q
      refine q.mono ?_
      rintro e w3 ⟨rfl, p3, -⟩
      clear q p2
      go_wp2_with fail
      have q := pUnmap p3 p n (by omega)
      rw [u2'.out, u1'.out] at q
      refine q.mono ?_
      rintro e w4 ⟨rfl, p4, -⟩
      clear q p3
      go_wp2_with fail
      refine (New_any _).mono ?_
      rintro e w5 ⟨rfl, h5, k5⟩
      have p5 := p4.below k5
      go_wp2_with fail
      refine (Same_any p5.h h5).mono ?_
      rintro e w6 ⟨rfl, k6⟩
      have d := b0.trans ((p5.below k6).done.mono s0)
      go_wp2_with fail
      go_ret
      exact ⟨rfl, d⟩
set_option maxRecDepth 8000 in
theorem wrongs_not (p n v : Int) (hp : I64 p) (hf : (areL v && thereL p n) = false) (w : World) :
    Calls Try.prog 7 #[.int .i64 p, .int .i64 n, .int .i64 v] w fun e w' => e = .returned (.bool true) ∧ Below w.heap.size w w' := by
  have hm : mapE Mm.new p n v = false := by rw [new_map, hf]
  have hms : mapS Mm.new p n v = Mm.new := by unfold mapS; rw [hm]; rfl
  have hpr : protE Mm.new p n v = false := by unfold protE; rw [new_no, Bool.and_false]
  have hps : protS Mm.new p n v = Mm.new := by unfold protS; rw [hpr]; rfl
  have hun : unmapS Mm.new p n = Mm.new := by unfold unmapS; rw [new_no]; rfl
  have eF : errM false = 61 := rfl
  have hfine : ¬ (0 ≤ p ∧ 0 < n ∧ p < 64 ∧ n ≤ 64 - p ∧ 1 ≤ v ∧ v ≤ 7) := by
    rintro ⟨h1, h2, h3, h4, h5, h6⟩
    rw [are_iff.2 (by omega), there_iff.2 (by omega)] at hf
    cases hf
  clear hf
  have hm' := hid hm
  have hms' := hid hms
  have hpr' := hid hpr
  have hps' := hid hps
  have hun' := hid hun
  clear hm hms hpr hps hun
  rcases (by omega : p < 0 ∨ (0 ≤ p ∧ n ≤ 0) ∨ (0 ≤ p ∧ 0 < n ∧ 64 ≤ p) ∨ (0 ≤ p ∧ 0 < n ∧ p < 64 ∧ 64 - p < n) ∨ (0 ≤ p ∧ 0 < n ∧ p < 64 ∧ n ≤ 64 - p ∧ v < 1) ∨ (0 ≤ p ∧ 0 < n ∧ p < 64 ∧ n ≤ 64 - p ∧ 1 ≤ v ∧ 7 < v)) with h | ⟨h1, h2⟩ | ⟨h1, h2, h3⟩ | ⟨h1, h2, h3, h4⟩ | ⟨h1, h2, h3, h4, h5⟩ | ⟨h1, h2, h3, h4, h5, h6⟩
  all_goals
    clear hfine
    first | have hv7 : decide (v ≤ 7) = false := decide_eq_false (by omega) | skip
    go_enter Try.func7, Try.ntmps7
    go_wp2_with fail
    refine (known_any _).mono ?_
    rintro e w0 ⟨rfl, b0⟩
    have s0 := b0.size
    go_wp2_with fail
    refine (pNew _).mono ?_
    rintro e w1 ⟨rfl, p1⟩
    go_wp2_with fail
    have q := pMap p1 p n v hp
    rw [hm'.out, hms'.out] at q
    refine q.mono ?_
    rintro e w2 ⟨rfl, p2, -⟩
    clear q p1
    go_wp2_with fail
    go_loopw [10, 11] (fun nn ii W => ∃ k : Nat, k ≤ 64 ∧ ii = .int .i64 k ∧ nn = .int .i64 0 ∧ W = w2) (fun _ ii _ => (64 - intOf ii).toNat)
    case atStart => exact ⟨0, by omega, rfl, rfl, rfl⟩
    case round =>
      obtain ⟨k, hk, rfl, rfl, rfl⟩ := hrel
      by_cases hlt : k < 64
      · have q := pRights p2 k
        rw [rights_at _ k hlt, show Mm.new.r k = 0 from rfl] at q
        go_wp2_with fail
        refine q.mono ?_
        rintro e w3 ⟨rfl, rfl⟩
        go_wp2_with fail
        go_roundw
        case rel => exact ⟨k + 1, by omega, by go_num, rfl, trivial⟩
        case measure => simp [intOf]; omega
      · obtain rfl : k = 64 := by omega
        go_wp2_with fail
        have q := pProtect p2 p n v hp
        rw [hpr'.out, hps'.out] at q
        refine q.mono ?_
        rintro e w3 ⟨rfl, p3, -⟩
        clear q p2
        go_wp2_with fail
        have q := pUnmap p3 p n hp
        rw [new_no, hun'.out] at q
        refine q.mono ?_
        rintro e w4 ⟨rfl, p4, -⟩
        clear q p3
        have d := b0.trans (p4.done.mono s0)
        go_wp2_with fail
        go_ret
        exact ⟨rfl, d⟩
theorem wrongs_walk (p n v : Int) (hp : (Lit.int .i64 p).wf = true) (w : World) :
    Calls Try.prog 7 #[.int .i64 p, .int .i64 n, .int .i64 v] w fun e w' => e = .returned (.bool true) ∧ Below w.heap.size w w' := by
  have hp := wfb_i64 hp
  cases hf : (areL v && thereL p n) with
  | false => exact wrongs_not p n v hp hf w
  | true =>
    rw [Bool.and_eq_true] at hf
    obtain ⟨h1, h2, h3, h4⟩ := there_iff.1 hf.2
    obtain ⟨P, rfl⟩ := Int.eq_ofNat_of_zero_le h1
    obtain ⟨N, rfl⟩ := Int.eq_ofNat_of_zero_le (show 0 ≤ n by omega)
    exact wrongs_fine P N v hf.1 (by omega) (by omega) (by omega) w
end Go.Proofs.Ytohkfkojheecoaa
