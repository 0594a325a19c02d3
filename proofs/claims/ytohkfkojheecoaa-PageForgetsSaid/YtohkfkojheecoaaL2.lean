/- PageForgets. -/
import Derived.Test.YtohkfkojheecoaaL1
namespace Go.Proofs.Ytohkfkojheecoaa
open Go.RowKit
set_option linter.unusedVariables false
set_option linter.unusedSimpArgs false
set_option linter.unusedSectionVars false

/-- All pages with right v, in the first n of them the number x at 8. -/
def allM (n : Nat) (x : Int) : Mm := ⟨fun i => if i < 64 then 3 else 0, fun j => if j / 256 < n ∧ 8 ≤ j % 256 ∧ j % 256 < 12 then x / 2 ^ (8 * (j % 256 - 8)) % 256 else 0⟩
/-- The same, pages from p on given back and asked for again. -/
def goneM (p k : Nat) (x : Int) : Mm := ⟨fun i => if p ≤ i ∧ i < p + k then 5 else (allM 64 x).r i, fun j => if p ≤ j / 256 ∧ j / 256 < p + k then 0 else (allM 64 x).b j⟩
theorem all_new (x : Int) : mapE Mm.new 0 64 3 = true ∧ mapS Mm.new 0 64 3 = allM 0 x := by
  have h : mapE Mm.new 0 64 3 = true := by kernel_rfl
  refine ⟨h, ?_⟩
  unfold mapS
  rw [if_pos h]
  unfold setR allM Mm.new
  congr 1
  · funext i; dsimp only; rw [show (0 : Int).toNat = 0 from rfl, show (64 : Int).toNat = 64 from rfl]; split <;> split <;> first | rfl | (exfalso; omega)
theorem all_lack (n : Nat) (x : Int) (i : Nat) (hi : i < 64) (r : Int) (hr : r = 1 ∨ r = 2) : lackL (allM n x) ((256 * i + 8 : Nat) : Int) r (numL 4) = none := by
  refine lack_here (by omega) (by omega) (by rw [num4]; omega) fun j hj => ?_
  rw [num4] at hj
  show (if _ < 64 then (3 : Int) else 0) / r % 2 = 1
  rw [if_pos (by omega)]
  rcases hr with rfl | rfl <;> rfl
theorem all_write (n : Nat) (x : Int) (hn : n < 64) : wroteM (allM n x) ((256 * n + 8 : Nat) : Int) 4 x = allM (n + 1) x := by
  rw [wrote_here (all_lack n x n hn 2 (by omega)), Int.toNat_natCast]
  have hin := fun i h => wrote_in (allM n x) (256 * n + 8) 4 x i h
  have hout := fun j h => wrote_out (allM n x) (256 * n + 8) 4 x j h
  rw [num4] at hin hout
  have e : wroteS (allM n x) (256 * n + 8) 4 x = ⟨(allM n x).r, (wroteS (allM n x) (256 * n + 8) 4 x).b⟩ := rfl
  rw [e]
  unfold allM at *
  congr 1
  funext j
  by_cases h : 256 * n + 8 ≤ j ∧ j < 256 * n + 12
  · obtain ⟨i, rfl⟩ : ∃ i, j = 256 * n + 8 + i := ⟨j - (256 * n + 8), by omega⟩
    rw [hin i (by omega)]
    try dsimp only
    rw [if_pos (by omega), show (256 * n + 8 + i) % 256 - 8 = i by omega]
  · rw [hout j (by omega)]
    try dsimp only
    by_cases h2 : j / 256 < n ∧ 8 ≤ j % 256 ∧ j % 256 < 12
    · rw [if_pos h2, if_pos (by omega)]
    · rw [if_neg h2, if_neg (by omega)]
theorem four_bytes (x : Int) (hx : U32 x) : x % 256 + x / 256 % 256 * 256 + x / 65536 % 256 * 65536 + x / 16777216 % 256 * 16777216 = x := by omega
theorem gone_lack (p k : Nat) (x : Int) (i : Nat) (hi : i < 64) : lackL (goneM p k x) ((256 * i + 8 : Nat) : Int) (singleL 1) (numL 4) = none := by
  refine lack_here (by omega) (by rw [sing1]; omega) (by rw [num4]; omega) fun j hj => ?_
  rw [num4] at hj
  rw [sing1, Int.toNat_natCast]
  dsimp only [goneM, allM]
  split
  · rfl
  · rw [if_pos (by omega)]; rfl
theorem gone_read (p k : Nat) (x : Int) (hx : U32 x) (i : Nat) (hi : i < 64) : readM (goneM p k x) ((256 * i + 8 : Nat) : Int) 4 1 = if p ≤ i ∧ i < p + k then 0 else x := by
  rw [read_here (gone_lack p k x i hi), Int.toNat_natCast, num4, read_4]
  have hb : ∀ q, q < 4 → (goneM p k x).b (256 * i + 8 + q) = if p ≤ i ∧ i < p + k then 0 else x / 2 ^ (8 * q) % 256 := fun q hq => by
    dsimp only [goneM, allM]
    rw [show (256 * i + 8 + q) / 256 = i by omega, show (256 * i + 8 + q) % 256 = 8 + q by omega]
    by_cases h : p ≤ i ∧ i < p + k
    · rw [if_pos h, if_pos h]
    · rw [if_neg h, if_neg h, if_pos (by omega), Nat.add_sub_cancel_left]
  have h0 := hb 0 (by decide)
  have h1 := hb 1 (by decide)
  have h2 := hb 2 (by decide)
  have h3 := hb 3 (by decide)
  rw [Nat.add_zero] at h0
  rw [h0, h1, h2, h3]
  split
  · rfl
  · have := four_bytes x hx
    simpa using this
theorem gone_steps (p k : Nat) (x : Int) (hk : 0 < k) (hle : p + k ≤ 64) :
    canL (allM 64 x) p k true = true ∧ canL (unmapS (allM 64 x) p k) p 1 true = false ∧ unmapS (unmapS (allM 64 x) p k) p 1 = unmapS (allM 64 x) p k ∧
    mapE (unmapS (allM 64 x) p k) p k 5 = true ∧ mapS (unmapS (allM 64 x) p k) p k 5 = goneM p k x ∧ mapE (goneM p k x) p 1 5 = false ∧ mapS (goneM p k x) p 1 5 = goneM p k x := by
  have h1 : canL (allM 64 x) p k true = true := by
    refine can_iff.2 ⟨by omega, ?_⟩
    rw [Int.toNat_natCast, Int.toNat_natCast]
    refine allL_of fun i hi => ?_
    dsimp only [allM]
    rw [if_pos (by omega)]; decide
  have hr : ∀ i, (unmapS (allM 64 x) p k).r i = if p ≤ i ∧ i < p + k then 0 else (allM 64 x).r i := fun i => by
    unfold unmapS; rw [if_pos h1, Int.toNat_natCast, Int.toNat_natCast]; rfl
  have hb : ∀ j, (unmapS (allM 64 x) p k).b j = if p ≤ j / 256 ∧ j / 256 < p + k then 0 else (allM 64 x).b j := fun j => by
    unfold unmapS; rw [if_pos h1, Int.toNat_natCast, Int.toNat_natCast]
    dsimp only [zeroB, setR]
    by_cases h : p * 256 ≤ j ∧ j < p * 256 + k * 256
    · rw [if_pos h, if_pos (by omega)]
    · rw [if_neg h, if_neg (by omega)]
  generalize unmapS (allM 64 x) p k = m at *
  have h2 : canL m p 1 true = false := by
    unfold canL
    rw [Int.toNat_natCast, show (1 : Int).toNat = 1 from rfl, all_no 0 (by decide) (by rw [Nat.add_zero, hr, if_pos (by omega)]; decide), Bool.and_false]
  have h4 : mapE m p k 5 = true := by
    unfold mapE canL
    rw [are_iff.2 (by decide), there_iff.2 (by omega), Int.toNat_natCast, Int.toNat_natCast]
    have : ∀ n, n ≤ k → allL m false p n = true := by
      intro n
      induction n with
      | zero => intro _; rfl
      | succ n ih => intro hn; rw [allL, ih (by omega), hr, if_pos (by omega)]; rfl
    rw [this k (Nat.le_refl _)]; rfl
  have h5 : mapS m p k 5 = goneM p k x := by
    unfold mapS
    rw [if_pos h4, Int.toNat_natCast, Int.toNat_natCast]
    unfold setR goneM
    congr 1
    · funext i
      rw [hr]
      by_cases h : p ≤ i ∧ i < p + k
      · rw [if_pos h, if_pos h]
      · rw [if_neg h, if_neg h, if_neg h]
    · funext j; exact hb j
  have h6 : mapE (goneM p k x) p 1 5 = false := by
    unfold mapE canL
    rw [Int.toNat_natCast, show (1 : Int).toNat = 1 from rfl, all_no 0 (by decide) (by dsimp only [goneM]; rw [Nat.add_zero, if_pos (by omega)]; decide), Bool.and_false, Bool.and_false]
  refine ⟨h1, h2, ?_, h4, h5, h6, ?_⟩
  · unfold unmapS; rw [h2]; rfl
  · unfold mapS; rw [h6]; rfl
set_option maxRecDepth 8000 in
theorem forgets_walk (a n v : Int) (ha : (Lit.int .u8 a).wf = true) (hn : (Lit.int .u8 n).wf = true) (hv : (Lit.int .u32 v).wf = true) (w : World) :
    Calls Try.prog 6 #[.int .u8 a, .int .u8 n, .int .u32 v] w fun e w' => e = .returned (.bool true) ∧ Below w.heap.size w w' := by
  replace ha := wfb_u8 ha
  replace hn := wfb_u8 hn
  replace hv := wfb_u32 hv
  obtain ⟨p, hp, hp1⟩ : ∃ p : Nat, a % 50 = p ∧ p < 50 := ⟨(a % 50).toNat, by omega, by omega⟩
  obtain ⟨k, hk, hk1, hk2⟩ : ∃ k : Nat, n % 4 + 1 = k ∧ 0 < k ∧ k ≤ 4 := ⟨(n % 4 + 1).toNat, by omega, by omega, by omega⟩
  obtain ⟨g1, g2, g3, g4, g5, g6, g7⟩ := gone_steps p k v hk1 (by omega)
  replace g1 := hid g1
  replace g2 := hid g2
  replace g3 := hid g3
  replace g4 := hid g4
  replace g5 := hid g5
  replace g6 := hid g6
  replace g7 := hid g7
  have eT : errM true = 0 := rfl
  have eF : errM false = 61 := rfl
  go_enter Try.func6, Try.ntmps6
  go_wp2_with fail
  refine (known_any _).mono ?_
  rintro e w0 ⟨rfl, b0⟩
  have s0 := b0.size
  go_wp2_with fail
  refine (pNew _).mono ?_
  rintro e w1 ⟨rfl, p1⟩
  go_wp2_with fail
  have q := pMap p1 0 64 3 (by decide)
  rw [(all_new v).1, (all_new v).2] at q
  refine q.mono ?_
  rintro e w2 ⟨rfl, p2, -⟩
  clear q p1
  generalize w0.heap.size = B at *
  go_wp2_with fail
  go_loopw [10] (fun ii W => ∃ j : Nat, j ≤ 64 ∧ ii = .int .i64 j ∧ Pg B w0 W B (allM j v)) (fun ii _ => (64 - intOf ii).toNat)
  case atStart => exact ⟨0, by omega, rfl, p2⟩
  case round =>
    obtain ⟨j, hj, rfl, pj⟩ := hrel
    by_cases hlt : j < 64
    · have q := pWrite pj ((256 * j + 8 : Nat) : Int) 4 v (by omega) hv
      rw [all_write j v hlt, show (((256 * j + 8 : Nat) : Nat) : Int) = 256 * (j : Int) + 8 by omega] at q
      go_wp2_with fail
      refine q.mono ?_
      rintro e w3 ⟨rfl, p3, -⟩
      clear q
      go_wp2_with fail
      go_roundw
      case rel => exact ⟨j + 1, by omega, by go_num, p3⟩
      case measure => simp [intOf]; omega
    · obtain rfl : j = 64 := by omega
      go_wp2_with fail
      have q := pUnmap pj p k (by omega)
      rw [g1.out] at q
      refine q.mono ?_
      rintro e w3 ⟨rfl, p3, -⟩
      clear q pj
      go_wp2_with fail
      have q := pUnmap p3 p 1 (by omega)
      rw [g2.out, g3.out] at q
      refine q.mono ?_
      rintro e w4 ⟨rfl, p4, -⟩
      clear q p3
      go_wp2_with fail
      have q := pMap p4 p k 5 (by omega)
      rw [g4.out, g5.out] at q
      refine q.mono ?_
      rintro e w5 ⟨rfl, p5, -⟩
      clear q p4
      go_wp2_with fail
      have q := pMap p5 p 1 5 (by omega)
      rw [g6.out, g7.out] at q
      refine q.mono ?_
      rintro e w6 ⟨rfl, p6, -⟩
      clear q p5 g1 g2 g3 g4 g5 g6 g7
      go_wp2_with fail
      go_loopw [11] (fun ii W => ∃ j : Nat, j ≤ 64 ∧ ii = .int .i64 j ∧ Pg B w0 W B (goneM p k v)) (fun ii _ => (64 - intOf ii).toNat)
      case atStart => exact ⟨0, by omega, rfl, p6⟩
      case round =>
        obtain ⟨j, hj, rfl, pj⟩ := hrel
        by_cases hlt : j < 64
        · have q := pRead pj ((256 * j + 8 : Nat) : Int) 4 1 (by omega)
          rw [gone_read p k v hv j hlt, gone_lack p k v j hlt, show (((256 * j + 8 : Nat) : Nat) : Int) = 256 * (j : Int) + 8 by omega, show fltOf none (256 * (j : Int) + 8) (singleL 1) = fltV 0 0 0 0 from rfl] at q
          go_wp2_with fail
          refine q.mono ?_
          rintro e w7 ⟨rfl, p7, -⟩
          clear q pj
          replace p7 := p7.below ((Below.refl w7.heap.size w7).alloc (Nat.le_refl _) (.cells #[.int .i64 0, .int .u32 0, .int .u32 0, .int .i64 0] 51))
          have q := pRights p7 j
          rw [rights_at _ j hlt] at q
          by_cases hin : p ≤ j ∧ j < p + k
          · rw [if_pos hin]
            rw [show (goneM p k v).r j = 5 by dsimp only [goneM]; rw [if_pos hin]] at q
            obtain ⟨i1, i2⟩ := hin
            go_wp2_with fail
            refine q.mono ?_
            rintro e w8 ⟨rfl, rfl⟩
            clear q
            go_wp2_with fail
            go_roundw
            case rel => exact ⟨j + 1, by omega, by go_num, p7⟩
            case measure => simp [intOf]; omega
          · rw [if_neg hin]
            rw [show (goneM p k v).r j = 3 by dsimp only [goneM, allM]; rw [if_neg hin, if_pos hlt]] at q
            rcases (by omega : j < p ∨ (p ≤ j ∧ p + k ≤ j)) with hi | ⟨hi, hi2⟩
            all_goals
              clear hin
              go_wp2_with fail
              refine q.mono ?_
              rintro e w8 ⟨rfl, rfl⟩
              clear q
              go_wp2_with fail
              go_roundw
              case rel => exact ⟨j + 1, by omega, by go_num, p7⟩
              case measure => simp [intOf]; omega
        · obtain rfl : j = 64 := by omega
          have d := b0.trans (pj.done.mono s0)
          go_wp2_with fail
          go_ret
          exact ⟨rfl, d⟩
end Go.Proofs.Ytohkfkojheecoaa
