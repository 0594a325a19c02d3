import Derived.Test.YtbalnlodkiejcaaDoorC6
import Derived.Test.YtbalnlodkiejcaaDoorR4
namespace Go.Proofs.YtbalnlodkiejcaaDoor
open Go.RowKit
set_option linter.unusedVariables false
set_option linter.unusedSimpArgs false
set_option linter.unusedSectionVars false

/-- Is, of the kinds that are there. -/
theorem rIs_in (k : Nat) (h1 : 1 ≤ k) (h2 : k ≤ 47) (d s t i : Int) (hi : -2147483648 ≤ i ∧ i ≤ 2147483647) (w : World) :
    Calls Tryd.prog 33 #[wordV k d s t i] w fun e w' => e = .returned (.bool (okF (formN k) d s t i)) ∧ Below w.heap.size w w' := by
  rcases opCases h1 h2 with hf | hf | hf | hf | hf | hf | hf | hf | hf <;> rw [hf]
  · exact rIs1 k h1 h2 hf d s t i hi w
  · exact rIs2 k h1 h2 hf d s t i hi w
  · exact rIs3 k h1 h2 hf d s t i hi w
  · exact rIs4 k h1 h2 hf d s t i hi w
  · exact rIs5 k h1 h2 hf d s t i hi w
  · exact rIs6 k h1 h2 hf d s t i hi w
  · exact rIs7 k h1 h2 hf d s t i hi w
  · exact rIs8 k h1 h2 hf d s t i hi w
  · exact rIs9 k h1 h2 hf d s t i hi w
set_option maxRecDepth 10000 in
theorem rIs_out (op d s t i : Int) (h : op < 1 ∨ 47 < op) (w : World) :
    Calls Tryd.prog 33 #[wordV op d s t i] w fun e w' => e = .returned (.bool false) ∧ Below w.heap.size w w' := by
  have ho := fun w => of_out op h w
  go_enter Tryd.func33, Tryd.ntmps33
  go_wp2_with fail
  go_region
  go_wp2_with fail
  refine (ho _).mono ?_
  rintro e w1 ⟨rfl, b1⟩
  have b1' : Below (w.drew.alloc (.cells #[.int .i64 op, .int .i64 d, .int .i64 s, .int .i64 t, .int .i32 i] 37)).heap.size (w.drew.alloc (.cells #[.int .i64 op, .int .i64 d, .int .i64 s, .int .i64 t, .int .i32 i] 37)) w1 := b1
  have hb := fun o => (((Below.refl w.heap.size w).drew.alloc (Nat.le_refl _) _).trans (b1'.mono (by simp))).alloc (Nat.le_trans (by simp) b1'.size) o
  go_wp2_with fail
  go_ret
  exact ⟨rfl, hb _⟩
theorem rIs_any (op d s t i : Int) (hi : -2147483648 ≤ i ∧ i ≤ 2147483647) (w : World) :
    Calls Tryd.prog 33 #[wordV op d s t i] w fun e w' => e = .returned (.bool (isL op d s t i)) ∧ Below w.heap.size w w' := by
  unfold isL
  by_cases h : op < 1 ∨ 47 < op
  · have e : (decide (1 ≤ op) && decide (op ≤ 47) && okF (formN op.toNat) d s t i) = false := by
      rcases h with h | h
      · simp [show ¬ 1 ≤ op by omega]
      · simp [show ¬ op ≤ 47 by omega]
    rw [e]
    exact rIs_out op d s t i h w
  · obtain ⟨k, rfl⟩ : ∃ k : Nat, op = k := ⟨op.toNat, by omega⟩
    rw [Int.toNat_natCast, decide_eq_true (show 1 ≤ (k : Int) by omega), decide_eq_true (show (k : Int) ≤ 47 by omega)]
    exact rIs_in k (by omega) (by omega) d s t i hi w
theorem rf_g (x : Int) (h : 0 ≤ x ∧ x ≤ 4294967295) (A N : Int) (ha : 0 ≤ A ∧ A ≤ 32) (hn : 0 ≤ N ∧ N ≤ 32) (w : World) :
    Calls Tryd.prog 40 #[.int .u32 x, .int .i64 A, .int .i64 N] w fun e w' => e = .returned (.int .u32 (x / 2 ^ A.toNat % 2 ^ N.toNat)) ∧ w = w' := by
  refine (rfield_any x A N h w).mono ?_
  rintro e w' ⟨rfl, rfl⟩
  refine ⟨ret_int ?_, rfl⟩
  unfold fieldS mov held0
  rw [if_pos ha.1, if_neg (by omega), if_neg (by omega), Nat.min_eq_left (by omega)]
theorem piece_g (x : Int) (h : 0 ≤ x ∧ x ≤ 4294967295) (A N T : Int) (ha : 0 ≤ A ∧ A ≤ 32) (hn : 0 ≤ N ∧ N ≤ 32) (ht : 0 ≤ T ∧ T ≤ 31) (hnt : N + T ≤ 32) (w : World) :
    Calls Tryd.prog 29 #[.int .u32 x, .int .i64 A, .int .i64 N, .int .i64 T] w fun e w' => e = .returned (.int .u32 (x / 2 ^ A.toNat % 2 ^ N.toNat * 2 ^ T.toNat)) ∧ w = w' := by
  obtain ⟨a, rfl⟩ := Int.eq_ofNat_of_zero_le ha.1
  obtain ⟨n, rfl⟩ := Int.eq_ofNat_of_zero_le hn.1
  obtain ⟨t, rfl⟩ := Int.eq_ofNat_of_zero_le ht.1
  go_enter Tryd.func29, Tryd.ntmps29
  go_wp2_with fail
  refine (rf_g x h _ _ ha hn _).mono ?_
  rintro e w1 ⟨rfl, rfl⟩
  go_wp2_with fail
  go_ret
  refine ⟨ret_int ?_, rfl⟩
  simp only [Int.toNat_natCast]
  have p1 := two_pow_pos a
  have p2 := two_pow_pos n
  have p3 := two_pow_pos t
  have m0 : 0 ≤ x / 2 ^ a % 2 ^ n := Int.emod_nonneg _ (by omega)
  have m1 : x / 2 ^ a % 2 ^ n < 2 ^ n := Int.emod_lt_of_pos _ (by omega)
  have m2 : (x / 2 ^ a % 2 ^ n + 1) * 2 ^ t ≤ (2 : Int) ^ n * 2 ^ t := Int.mul_le_mul_of_nonneg_right (by omega) (by omega)
  have m3 : (2 : Int) ^ n * 2 ^ t ≤ 4294967296 := by
    rw [← Int.pow_add]
    have := two_pow_le (k := n + t) (n := 32) (by omega)
    simpa using this
  refine Int.emod_eq_of_lt (Int.mul_nonneg m0 (by omega)) ?_
  rw [Int.add_mul] at m2
  omega
theorem rEnc_not (op d s t i : Int) (hi : -2147483648 ≤ i ∧ i ≤ 2147483647) (h : isL op d s t i = false) (w : World) :
    Calls Tryd.prog 15 #[wordV op d s t i] w fun e w' => e = .returned (.tuple #[.int .u32 0, .bool false]) ∧ Below w.heap.size w w' := by
  go_enter Tryd.func15, Tryd.ntmps15
  go_wp2_with fail
  refine (rIs_any op d s t i hi _).mono ?_
  rintro e w1 ⟨rfl, b1⟩
  have hb := ((Below.refl w.heap.size w).alloc (Nat.le_refl _) _).trans (b1.mono (by simp))
  go_wp2_with fail
  go_ret2
  exact ⟨rfl, hb⟩
theorem ret_ib {k : IntKind} {a b : Int} {c : Bool} (h : a = b) : Ending.returned (.tuple #[.int k a, .bool c]) = .returned (.tuple #[.int k b, .bool c]) := by rw [h]
theorem f3_low {k : Nat} (h : formN k = 1 ∨ formN k = 2) : f3S k = 0 := by unfold f3S; rw [if_pos h]
theorem f3_val {k : Nat} (h : ¬ (formN k = 1 ∨ formN k = 2)) : ((f3S k : Nat) : Int) = (bitsN k : Int) / 4096 % 8 := by unfold f3S; rw [if_neg h]; simp
theorem f7_val {k : Nat} (h : formN k = 7 ∨ formN k = 8) : ((f7S k : Nat) : Int) = (bitsN k : Int) / 33554432 := by unfold f7S; rw [if_pos h]; simp
end Go.Proofs.YtbalnlodkiejcaaDoor
