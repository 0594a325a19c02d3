/- PageBytes. -/
import Derived.Test.YtohkfkojheecoaaK0
namespace Go.Proofs.Ytohkfkojheecoaa
open Go.RowKit
set_option linter.unusedVariables false
set_option linter.unusedSimpArgs false
set_option linter.unusedSectionVars false

theorem lack_all {m : Mm} {a r : Int} {n : Nat} (h : ∀ i, i < n → lackP m a r i = false) : lackL m a r n = none := by
  induction n with
  | zero => rfl
  | succ n ih =>
    unfold lackL
    rw [ih (fun i hi => h i (by omega))]
    simp [h n (by omega)]
theorem lack_here {m : Mm} {a r : Int} {n : Nat} (ha : 0 ≤ a) (hr : r = 1 ∨ r = 2 ∨ r = 4) (he : a + n ≤ 4294967296) (h : ∀ i, i < n → m.r ((a.toNat + i) / 256) / r % 2 = 1) : lackL m a r n = none := by
  refine lack_all fun i hi => ?_
  unfold lackP
  have e : (a + i) % 4294967296 = a + i := Int.emod_eq_of_lt (by omega) (by omega)
  rw [e, show ((a + i) / 256).toNat = (a.toNat + i) / 256 by omega, h i hi]
  rfl
theorem mapped_full {m : Mm} {a : Int} {n : Nat} (ha : 0 ≤ a) (he : a + n ≤ 4294967296) (h : ∀ i, i < n → m.r ((a.toNat + i) / 256) ≠ 0) : mappedL m a n = n := by
  induction n with
  | zero => rfl
  | succ n ih =>
    have := ih (by omega) (fun i hi => h i (by omega))
    refine mapped_go this ?_
    have e : (a + n) % 4294967296 = a + n := Int.emod_eq_of_lt (by omega) (by omega)
    rw [e, show ((a + n) / 256).toNat = (a.toNat + n) / 256 by omega]
    exact h n (by omega)
theorem read_4 (m : Mm) (a : Nat) : readL m a 4 = m.b a + m.b (a + 1) * 256 + m.b (a + 2) * 65536 + m.b (a + 3) * 16777216 := by
  simp [readL]
theorem mfield (x k n : Nat) : x &&& ((2 ^ n - 1) * 2 ^ k) = x / 2 ^ k % 2 ^ n * 2 ^ k := by
  apply Nat.eq_of_testBit_eq
  intro i
  rw [Nat.testBit_and, Nat.testBit_mul_two_pow, Nat.testBit_mul_two_pow, Nat.testBit_two_pow_sub_one, Nat.testBit_mod_two_pow, Nat.testBit_div_two_pow]
  by_cases h : k ≤ i
  · simp [h, show k + (i - k) = i by omega, Bool.and_comm]
  · simp [h]
theorem want_eq (v w : Int) (hv : U32 v) (hw : U32 w) : bits .or .u32 (bits .and .u32 v 4278190335) (bits .and .u32 w 65535 * 256 % 4294967296) = v % 256 + w % 65536 * 256 + v / 16777216 * 16777216 := by
  obtain ⟨V, rfl⟩ := Int.eq_ofNat_of_zero_le hv.1
  obtain ⟨W, rfl⟩ := Int.eq_ofNat_of_zero_le hw.1
  have hV : V < 4294967296 := by omega
  have hW : W < 4294967296 := by omega
  rw [show (4278190335 : Int) = ((4278190335 : Nat) : Int) from rfl, show (65535 : Int) = ((65535 : Nat) : Int) from rfl, u32_and_nat' V _ hV (by decide), u32_and_nat' W _ hW (by decide)]
  have e1 : V &&& 4278190335 = V % 256 ||| V / 2 ^ 24 % 2 ^ 8 * 2 ^ 24 := by
    rw [show 4278190335 = (2 ^ 8 - 1) ||| (2 ^ 8 - 1) * 2 ^ 24 by decide, Nat.and_or_distrib_left, mfield, Nat.and_two_pow_sub_one_eq_mod]
  have e2 : W &&& 65535 = W % 65536 := by rw [show 65535 = 2 ^ 16 - 1 by decide, Nat.and_two_pow_sub_one_eq_mod]
  rw [e2, show ((W % 65536 : Nat) : Int) * 256 % 4294967296 = ((W % 65536 * 2 ^ 8 : Nat) : Int) by omega, e1]
  have h1 : V % 256 ||| W % 65536 * 2 ^ 8 = V % 256 + W % 65536 * 2 ^ 8 := or_add 8 (by omega)
  have h2 : (V % 256 + W % 65536 * 2 ^ 8) ||| V / 2 ^ 24 % 2 ^ 8 * 2 ^ 24 = V % 256 + W % 65536 * 2 ^ 8 + V / 2 ^ 24 % 2 ^ 8 * 2 ^ 24 := or_add 24 (by omega)
  have h3 : (V % 256 ||| V / 2 ^ 24 % 2 ^ 8 * 2 ^ 24) ||| W % 65536 * 2 ^ 8 = V % 256 + W % 65536 * 2 ^ 8 + V / 2 ^ 24 % 2 ^ 8 * 2 ^ 24 := by
    rw [Nat.or_assoc, Nat.or_comm (V / 2 ^ 24 % 2 ^ 8 * 2 ^ 24), ← Nat.or_assoc, h1, h2]
  rw [u32_or_nat' _ _ (by have := Nat.or_lt_two_pow (n := 32) (show V % 256 < 2 ^ 32 by omega) (show V / 2 ^ 24 % 2 ^ 8 * 2 ^ 24 < 2 ^ 32 by omega); omega) (by omega), h3]
  omega
/-- Memories with pages that can be read and written. -/
def rw8 : Mm := mapS Mm.new 0 8 3
theorem rw8_r (i : Nat) (h : i < 8) : rw8.r i = 3 := by
  show (setR Mm.new 0 8 3).r i = 3
  dsimp only [setR]
  rw [if_pos (by omega)]
theorem rw8_map : mapE Mm.new 0 8 3 = true := by kernel_rfl
theorem rw8_b (i : Nat) : rw8.b i = 0 := rfl
theorem wrote_here {m : Mm} {a n v : Int} (h : lackL m a 2 (numL n) = none) : wroteM m a n v = wroteS m a.toNat n v := by unfold wroteM; rw [h]; rfl
theorem read_here {m : Mm} {a n r : Int} (h : lackL m a (singleL r) (numL n) = none) : readM m a n r = readL m a.toNat (numL n) := by unfold readM; rw [h]; rfl
theorem wrote_in (m : Mm) (A : Nat) (n v : Int) (i : Nat) (h : i < numL n) : (wroteS m A n v).b (A + i) = v / 2 ^ (8 * i) % 256 := by
  unfold wroteS putB
  rw [bytesV_len]
  dsimp only
  rw [if_pos (by omega), Nat.add_sub_cancel_left, bytesV_at v h]
theorem wrote_out (m : Mm) (A : Nat) (n v : Int) (j : Nat) (h : j < A ∨ A + numL n ≤ j) : (wroteS m A n v).b j = m.b j := by
  unfold wroteS putB
  rw [bytesV_len]
  dsimp only
  rw [if_neg (by omega)]
theorem num4 : numL 4 = 4 := rfl
theorem num2 : numL 2 = 2 := rfl
theorem sing1 : singleL 1 = 1 := rfl
theorem peek_at {m : Mm} {a : Int} {n : Nat} (i : Nat) (h : i < mappedL m a n) : (peekL m a n).getD i 0 = m.b (a.toNat + i) := by
  unfold peekL
  simp [List.getD_eq_getElem?_getD, h]
theorem row_at {w : World} {x : Option Addr} {len : Nat} {zs : List Int} (h : Row8 w x len zs) (h0 : 0 < len) : ∃ b off, x = some ⟨b, off, none⟩ ∧ b < w.heap.size ∧ ∀ i, i < len → w.cell? ⟨b, off + i, none⟩ = some (.int .u8 (zs.getD i 0)) := by
  obtain ⟨h1, -, h3⟩ := h
  rcases h3 with h3 | h3
  · subst h3; simp at h1; omega
  · exact h3
set_option maxRecDepth 8000 in
theorem bytes_walk (at_ v x : Int) (hat : (Lit.int .u16 at_).wf = true) (hv' : (Lit.int .u32 v).wf = true) (hx' : (Lit.int .u32 x).wf = true) (w : World) :
    Calls Try.prog 5 #[.int .u16 at_, .int .u32 v, .int .u32 x] w fun e w' => e = .returned (.bool true) ∧ Below w.heap.size w w' := by
  have hv := wfb_u32 hv'
  have hx := wfb_u32 hx'
  have ha : 0 ≤ at_ ∧ at_ ≤ 65535 := by
    simp [Lit.wf, IntKind.min, IntKind.max, IntKind.signed] at hat
    obtain ⟨h0, h1⟩ := hat
    exact ⟨h0, h1⟩
  clear hv' hx' hat
  have eT : errM true = 0 := rfl
  have hw := want_eq v x hv hx
  obtain ⟨A, hA, hA1, hA2⟩ : ∃ A : Nat, at_ % 1000 + 8 = A ∧ 8 ≤ A ∧ A ≤ 1007 := ⟨(at_ % 1000 + 8).toNat, by omega, by omega, by omega⟩
  go_enter Try.func5, Try.ntmps5
  go_wp2_with fail
  go_at_call 9
  refine (known_any _).mono ?_
  rintro e w0 ⟨rfl, b0⟩
  go_wp2_with fail
  go_at_call 10
  refine (pNew _).mono ?_
  rintro e w1 ⟨rfl, p1⟩
  have s0 := b0.size
  go_wp2_with fail
  have q := pMap p1 0 8 3 (by decide)
  rw [rw8_map, show mapS Mm.new 0 8 3 = rw8 from rfl] at q
  refine q.mono ?_
  rintro e w2 ⟨rfl, p2, -⟩
  clear q p1
  go_wp2_with fail
  have l1 : lackL rw8 A 2 (numL 4) = none := lack_here (by omega) (by omega) (by rw [num4]; omega) (fun i hi => by rw [num4] at hi; rw [rw8_r _ (by omega)]; rfl)
  have q := pWrite p2 A 4 v (by omega) hv
  rw [wrote_here l1, l1, Int.toNat_natCast, show fltOf none A 2 = fltV 0 0 0 0 from rfl] at q
  refine q.mono ?_
  rintro e w3 ⟨rfl, p3, -⟩
  clear q p2 l1
  go_wp2_with fail
  replace p3 := p3.below ((Below.refl w3.heap.size w3).alloc (Nat.le_refl _) (.cells #[.int .i64 0, .int .u32 0, .int .u32 0, .int .i64 0] 51))
  have r1 : ∀ i, i < 8 → (wroteS rw8 A 4 v).r i = 3 := rw8_r
  have g1 := fun i h => wrote_in rw8 A 4 v i h
  have g1o := fun j h => wrote_out rw8 A 4 v j h
  rw [num4] at g1 g1o
  generalize wroteS rw8 A 4 v = m1 at *
  have l2 : lackL m1 ((A : Int) + 1) 2 (numL 2) = none := lack_here (by omega) (by omega) (by rw [num2]; omega) (fun i hi => by rw [num2] at hi; rw [r1 _ (by omega)]; rfl)
  have q := pWrite p3 ((A : Int) + 1) 2 x (by omega) hx
  rw [wrote_here l2, l2, show ((A : Int) + 1).toNat = A + 1 by omega, show fltOf none ((A : Int) + 1) 2 = fltV 0 0 0 0 from rfl] at q
  refine q.mono ?_
  rintro e w4 ⟨rfl, p4, -⟩
  clear q p3 l2
  go_wp2_with fail
  replace p4 := p4.below ((Below.refl w4.heap.size w4).alloc (Nat.le_refl _) (.cells #[.int .i64 0, .int .u32 0, .int .u32 0, .int .i64 0] 51))
  have r2 : ∀ i, i < 8 → (wroteS m1 (A + 1) 2 x).r i = 3 := r1
  have g2 := fun i h => wrote_in m1 (A + 1) 2 x i h
  have g2o := fun j h => wrote_out m1 (A + 1) 2 x j h
  rw [num2] at g2 g2o
  have ok2 := p4.ok
  generalize wroteS m1 (A + 1) 2 x = m2 at *
  have c0 : m2.b A = v % 256 := by rw [g2o A (by omega)]; have := g1 0 (by omega); simpa using this
  have c1 : m2.b (A + 1) = x % 256 := by have := g2 0 (by omega); simpa using this
  have c2 : m2.b (A + 2) = x / 256 % 256 := by have := g2 1 (by omega); simpa using this
  have c3 : m2.b (A + 3) = v / 16777216 % 256 := by rw [g2o (A + 3) (by omega)]; have := g1 3 (by omega); simpa using this
  have c4 : m2.b (A + 4) = 0 := by rw [g2o (A + 4) (by omega), g1o (A + 4) (by omega)]; rfl
  have c5 : m2.b (A - 1) = 0 := by rw [g2o (A - 1) (by omega), g1o (A - 1) (by omega)]; rfl
  clear g1 g1o g2 g2o r1
  have l3 : lackL m2 A (singleL 1) (numL 4) = none := lack_here (by omega) (by rw [sing1]; omega) (by rw [num4]; omega) (fun i hi => by rw [num4] at hi; rw [r2 _ (by omega)]; rfl)
  have q := pRead p4 A 4 1 (by omega)
  rw [read_here l3, l3, Int.toNat_natCast, num4, read_4, c0, c1, c2, c3, show v % 256 + x % 256 * 256 + x / 256 % 256 * 65536 + v / 16777216 % 256 * 16777216 = v % 256 + x % 65536 * 256 + v / 16777216 * 16777216 by omega, show fltOf none A (singleL 1) = fltV 0 0 0 0 from rfl] at q
  refine q.mono ?_
  rintro e w5 ⟨rfl, p5, -⟩
  clear q p4 l3
  go_wp2_with fail
  replace p5 := p5.below ((Below.refl w5.heap.size w5).alloc (Nat.le_refl _) (.cells #[.int .i64 0, .int .u32 0, .int .u32 0, .int .i64 0] 51))
  have hm : mappedL m2 ((A : Int) - 4) 12 = 12 := mapped_full (by omega) (by omega) (fun i hi => by rw [r2 _ (by omega)]; decide)
  have q := pPeek p5 ((A : Int) - 4) 12 (by omega) (by decide)
  rw [show (12 : Int).toNat = 12 from rfl, hm] at q
  refine q.mono ?_
  rintro e w6 ⟨⟨X, cap, rfl, hrow⟩, p6, -⟩
  clear q p5
  obtain ⟨b, off, rfl, hb, hc⟩ := row_at hrow (by decide)
  have d3 := hc 3 (by decide)
  have d4 := hc 4 (by decide)
  have d7 := hc 7 (by decide)
  have d8 := hc 8 (by decide)
  rw [peek_at 3 (by rw [hm]; decide), show ((A : Int) - 4).toNat + 3 = A - 1 by omega, c5] at d3
  rw [peek_at 4 (by rw [hm]; decide), show ((A : Int) - 4).toNat + 4 = A by omega, c0] at d4
  rw [peek_at 7 (by rw [hm]; decide), show ((A : Int) - 4).toNat + 7 = A + 3 by omega, c3] at d7
  rw [peek_at 8 (by rw [hm]; decide), show ((A : Int) - 4).toNat + 8 = A + 4 by omega, c4] at d8
  have dn := b0.trans (p6.done.mono s0)
  clear hm hc hrow p6 c0 c1 c2 c3 c4 c5 r2 ok2 hb b0
  have e1 : (v % 256 + x % 65536 * 256 + v / 16777216 * 16777216) % 256 = v % 256 := by omega
  have e2 : (v % 256 + x % 65536 * 256 + v / 16777216 * 16777216) / 16777216 % 256 = v / 16777216 % 256 := by omega
  generalize v % 256 + x % 65536 * 256 + v / 16777216 * 16777216 = W at *
  clear ha hA
  go_wp2_with fail
  go_ret
  exact ⟨rfl, dn⟩
end Go.Proofs.Ytohkfkojheecoaa
