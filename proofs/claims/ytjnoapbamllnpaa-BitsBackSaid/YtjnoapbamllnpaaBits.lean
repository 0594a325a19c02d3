import Derived.Test.YtjnoapbamllnpaaRows
import Derived.Test.YtjnoapbamllnpaaKit
import Derived.Laws.CopyOwn
namespace Go.Proofs.Ytjnoapbamllnpaa
open Go.RowKit
set_option linter.unusedVariables false

theorem one_any (c : Bool) (w : World) : Calls Try.prog 32 #[.bool c] w fun e w' => e = .returned (.int .i64 (c01 c)) ∧ w = w' := by
  cases c <;>
  · go_enter Try.func32, Try.ntmps32
    go_wp2
    go_ret
    exact ⟨rfl, rfl⟩
theorem rone_any (c : Bool) (w : World) : Calls Try.prog 34 #[.bool c] w fun e w' => e = .returned (.int .u64 (c01 c)) ∧ w = w' := by
  cases c <;>
  · go_enter Try.func34, Try.ntmps34
    go_wp2
    go_ret
    exact ⟨rfl, rfl⟩
theorem beyond_any (p s : Int) (w : World) : Calls Try.prog 33 #[.int .i64 p, .int .i64 s] w fun e w' => e = .returned (.tuple #[.int .u32 (p % 4294967296), .bool (p != p % 4294967296), .bool (s != wrap32 s)]) ∧ w = w' := by
  have h32 := bd32 s
  go_enter Try.func33, Try.ntmps33
  go_wp2
  go_ret3
  exact ⟨rfl, rfl⟩
theorem addC_any (a b : Int) (c : Bool) (h : 0 ≤ a ∧ a ≤ 4294967295) (hb : 0 ≤ b ∧ b ≤ 4294967295) (w : World) : Calls Try.prog 22 #[.int .u32 a, .int .u32 b, .bool c] w fun e w' =>
    e = .returned (.tuple #[.int .u32 ((a + b + c01 c) % 4294967296), .bool (a + b + c01 c != (a + b + c01 c) % 4294967296), .bool (wrap32 a + wrap32 b + c01 c != wrap32 (wrap32 a + wrap32 b + c01 c))]) ∧ w = w' := by
  have h1 := bd32 a
  have h2 := bd32 b
  have h3 := bd01 c
  go_enter Try.func22, Try.ntmps22
  go_wp2_with (first | (go_at_call 32; refine (one_any _ _).mono ?_; rintro e w' ⟨rfl, rfl⟩) | (go_at_call 33; refine (beyond_any _ _ _).mono ?_; rintro e w' ⟨rfl, rfl⟩))
  go_ret3
  exact ⟨rfl, rfl⟩
theorem subC_any (a b : Int) (c : Bool) (h : 0 ≤ a ∧ a ≤ 4294967295) (hb : 0 ≤ b ∧ b ≤ 4294967295) (w : World) : Calls Try.prog 24 #[.int .u32 a, .int .u32 b, .bool c] w fun e w' =>
    e = .returned (.tuple #[.int .u32 ((a - b - c01 c) % 4294967296), .bool (a - b - c01 c != (a - b - c01 c) % 4294967296), .bool (wrap32 a - wrap32 b - c01 c != wrap32 (wrap32 a - wrap32 b - c01 c))]) ∧ w = w' := by
  have h1 := bd32 a
  have h2 := bd32 b
  have h3 := bd01 c
  go_enter Try.func24, Try.ntmps24
  go_wp2_with (first | (go_at_call 32; refine (one_any _ _).mono ?_; rintro e w' ⟨rfl, rfl⟩) | (go_at_call 33; refine (beyond_any _ _ _).mono ?_; rintro e w' ⟨rfl, rfl⟩))
  go_ret3
  exact ⟨rfl, rfl⟩
theorem rsign_any (a : Int) (w : World) : Calls Try.prog 35 #[.int .u32 a] w fun e w' => e = .returned (.int .i64 (wrap32 a)) ∧ w = w' := by
  have h1 := bd32 a
  go_enter Try.func35, Try.ntmps35
  go_wp2
  go_ret
  exact ⟨rfl, rfl⟩
theorem raddC_any (a b : Int) (c : Bool) (h : 0 ≤ a ∧ a ≤ 4294967295) (hb : 0 ≤ b ∧ b ≤ 4294967295) (w : World) : Calls Try.prog 23 #[.int .u32 a, .int .u32 b, .bool c] w fun e w' =>
    e = .returned (.tuple #[.int .u32 ((a + b + c01 c) % 4294967296), .bool (a + b + c01 c != (a + b + c01 c) % 4294967296), .bool (wrap32 a + wrap32 b + c01 c != wrap32 (wrap32 a + wrap32 b + c01 c))]) ∧ w = w' := by
  have h1 := bd32 a
  have h2 := bd32 b
  have h3 := bd01 c
  go_enter Try.func23, Try.ntmps23
  go_wp2_with (first | (go_at_call 34; refine (rone_any _ _).mono ?_; rintro e w' ⟨rfl, rfl⟩) | (go_at_call 35; refine (rsign_any _ _).mono ?_; rintro e w' ⟨rfl, rfl⟩))
  go_ret3
  refine ⟨ret_ibb rfl (over_eq (by omega)) ?_, rfl⟩
  rw [wrap32_mod ((a + b + c01 c) % 4294967296) (wrap32 a + wrap32 b + c01 c) (by unfold wrap32; omega)]
theorem rsubC_any (a b : Int) (c : Bool) (h : 0 ≤ a ∧ a ≤ 4294967295) (hb : 0 ≤ b ∧ b ≤ 4294967295) (w : World) : Calls Try.prog 25 #[.int .u32 a, .int .u32 b, .bool c] w fun e w' =>
    e = .returned (.tuple #[.int .u32 ((a - b - c01 c) % 4294967296), .bool (a - b - c01 c != (a - b - c01 c) % 4294967296), .bool (wrap32 a - wrap32 b - c01 c != wrap32 (wrap32 a - wrap32 b - c01 c))]) ∧ w = w' := by
  have h1 := bd32 a
  have h2 := bd32 b
  have h3 := bd01 c
  go_enter Try.func25, Try.ntmps25
  go_wp2_with (first | (go_at_call 34; refine (rone_any _ _).mono ?_; rintro e w' ⟨rfl, rfl⟩) | (go_at_call 35; refine (rsign_any _ _).mono ?_; rintro e w' ⟨rfl, rfl⟩))
  go_ret3
  refine ⟨ret_ibb rfl (below_eq (by omega)) ?_, rfl⟩
  rw [wrap32_mod ((a - b - c01 c) % 4294967296) (wrap32 a - wrap32 b - c01 c) (by unfold wrap32; omega)]
theorem halves_any (p : Int) (hp : 0 ≤ p ∧ p ≤ 18446744073709551615) (w : World) : Calls Try.prog 36 #[.int .u64 p] w fun e w' => e = .returned (.tuple #[.int .u32 (p % 4294967296), .int .u32 (p / 4294967296)]) ∧ w = w' := by
  go_enter Try.func36, Try.ntmps36
  go_wp2
  go_ret2
  exact ⟨rfl, rfl⟩
theorem mulU_any (a b : Int) (h : 0 ≤ a ∧ a ≤ 4294967295) (hb : 0 ≤ b ∧ b ≤ 4294967295) (w : World) : Calls Try.prog 26 #[.int .u32 a, .int .u32 b] w fun e w' => e = .returned (.tuple #[.int .u32 (a * b % 4294967296), .int .u32 (a * b / 4294967296)]) ∧ w = w' := by
  have hab := mul_bd h hb
  go_enter Try.func26, Try.ntmps26
  go_wp2_with (first | (go_at_call 36; refine (halves_any _ (by omega) _).mono ?_; rintro e w' ⟨rfl, rfl⟩))
  go_ret2
  exact ⟨rfl, rfl⟩
theorem rmulU_any (a b : Int) (h : 0 ≤ a ∧ a ≤ 4294967295) (hb : 0 ≤ b ∧ b ≤ 4294967295) (w : World) : Calls Try.prog 27 #[.int .u32 a, .int .u32 b] w fun e w' => e = .returned (.tuple #[.int .u32 (a * b % 4294967296), .int .u32 (a * b / 4294967296)]) ∧ w = w' := by
  have hab := mul_bd h hb
  go_enter Try.func27, Try.ntmps27
  go_wp2
  go_ret2
  exact ⟨rfl, rfl⟩
theorem mulS_any (a b : Int) (w : World) : Calls Try.prog 28 #[.int .u32 a, .int .u32 b] w fun e w' => e = .returned (.tuple #[.int .u32 (wrap32 a * wrap32 b % 4294967296), .int .u32 (wrap32 a * wrap32 b / 4294967296 % 4294967296)]) ∧ w = w' := by
  have h1 := bd32 a
  have h2 := bd32 b
  have hab := mul_sbd h1 h2
  go_enter Try.func28, Try.ntmps28
  go_wp2_with (first | (go_at_call 36; refine (halves_any _ (u64_bd _) _).mono ?_; rintro e w' ⟨rfl, rfl⟩))
  go_ret2
  exact ⟨ret_ii (wrap64_low _) (wrap64_high _), rfl⟩
theorem rmulS_any (a b : Int) (w : World) : Calls Try.prog 29 #[.int .u32 a, .int .u32 b] w fun e w' => e = .returned (.tuple #[.int .u32 (wrap32 a * wrap32 b % 4294967296), .int .u32 (wrap32 a * wrap32 b / 4294967296 % 4294967296)]) ∧ w = w' := by
  have h1 := bd32 a
  have h2 := bd32 b
  have hab := mul_sbd h1 h2
  have hu := u64_bd (wrap32 a * wrap32 b)
  go_enter Try.func29, Try.ntmps29
  go_wp2_with (first | (go_at_call 35; refine (rsign_any _ _).mono ?_; rintro e w' ⟨rfl, rfl⟩))
  go_ret2
  exact ⟨ret_ii rfl (wrap64_high _), rfl⟩
theorem sign8_any (x : Int) (w : World) : Calls Try.prog 12 #[.int .u32 x] w fun e w' => e = .returned (.int .u32 (IntKind.i8.wrap x % 4294967296)) ∧ w = w' := by
  go_enter Try.func12, Try.ntmps12
  go_wp2
  go_ret
  exact ⟨rfl, rfl⟩
theorem signed_any (x n : Int) (h : 0 ≤ x ∧ x ≤ 4294967295) (w : World) : Calls Try.prog 15 #[.int .u32 x, .int .i64 n] w fun e w' => e = .returned (.int .i32 (sgn (held n) x)) ∧ w = w' := by
  by_cases c1 : n < 1
  · go_enter Try.func15, Try.ntmps15
    go_wp2
    go_ret
    exact ⟨ret_int (sgn_lo c1), rfl⟩
  · by_cases c2 : 32 < n
    · go_enter Try.func15, Try.ntmps15
      go_wp2
      go_ret
      exact ⟨ret_int (sgn_hi c2 h), rfl⟩
    · obtain ⟨k, rfl⟩ := Int.eq_ofNat_of_zero_le (show 0 ≤ n by omega)
      go_enter Try.func15, Try.ntmps15
      go_wp2
      go_ret
      exact ⟨ret_int (sgn_mid (by omega) (by omega)), rfl⟩
theorem rsigned_any (x n : Int) (h : 0 ≤ x ∧ x ≤ 4294967295) (w : World) : Calls Try.prog 13 #[.int .u32 x, .int .i64 n] w fun e w' => e = .returned (.int .i32 (sgn (held n) x)) ∧ w = w' := by
  by_cases c1 : n < 1
  · go_enter Try.func13, Try.ntmps13
    go_wp2
    go_ret
    exact ⟨ret_int (sgn_lo c1), rfl⟩
  · by_cases c2 : 32 < n
    · go_enter Try.func13, Try.ntmps13
      go_wp2
      go_ret
      exact ⟨ret_int (sgn_hi c2 h), rfl⟩
    · obtain ⟨k, rfl⟩ := Int.eq_ofNat_of_zero_le (show 0 ≤ n by omega)
      by_cases c3 : (1 : Int) < k
      · go_enter Try.func13, Try.ntmps13
        go_wp2
        go_ret
        exact ⟨ret_int (sgn_mid (by omega) (by omega)), rfl⟩
      · go_enter Try.func13, Try.ntmps13
        go_wp2
        go_ret
        exact ⟨ret_int (sgn_one (by omega) (by omega)), rfl⟩
theorem sign12_any (x : Int) (h : 0 ≤ x ∧ x ≤ 4294967295) (w : World) : Calls Try.prog 14 #[.int .u32 x] w fun e w' => e = .returned (.int .u32 (sgn 12 x % 4294967296)) ∧ w = w' := by
  go_enter Try.func14, Try.ntmps14
  go_wp2_with (first | (go_at_call 15; refine (signed_any _ _ h _).mono ?_; rintro e w' ⟨rfl, rfl⟩))
  go_ret
  exact ⟨rfl, rfl⟩
theorem lowest_any (n : Nat) (h : n ≤ 32) (w : World) : Calls Try.prog 31 #[.int .i64 n] w fun e w' => e = .returned (.int .u32 (2 ^ n - 1)) ∧ w = w' := by
  go_enter Try.func31, Try.ntmps31
  go_wp2
  go_ret
  exact ⟨ret_int (low_mask h), rfl⟩
theorem moved_any (x n : Int) (h : 0 ≤ x ∧ x ≤ 4294967295) (hn : -9223372036854775808 ≤ n ∧ n ≤ 9223372036854775807) (w : World) : Calls Try.prog 30 #[.int .u32 x, .int .i64 n] w fun e w' => e = .returned (.int .u32 (mov x n)) ∧ w = w' := by
  by_cases c1 : 0 ≤ n
  · obtain ⟨k, rfl⟩ := Int.eq_ofNat_of_zero_le c1
    go_enter Try.func30, Try.ntmps30
    go_wp2
    go_ret
    exact ⟨ret_int mov_up, rfl⟩
  · by_cases c2 : n < -32
    · go_enter Try.func30, Try.ntmps30
      go_wp2
      go_ret
      exact ⟨ret_int (mov_far c2), rfl⟩
    · go_enter Try.func30, Try.ntmps30
      go_wp2
      go_ret
      exact ⟨ret_int (mov_down (by omega) (by omega)), rfl⟩
theorem parity_any (x : Int) (h : 0 ≤ x ∧ x ≤ 4294967295) (w : World) : Calls Try.prog 18 #[.int .u32 x] w fun e w' => e = .returned (.bool (evenS x.toNat 8)) ∧ w = w' := by
  obtain ⟨X, rfl⟩ := Int.eq_ofNat_of_zero_le h.1
  rw [Int.toNat_natCast]
  go_enter Try.func18, Try.ntmps18
  go_wp2
  go_ret
  exact ⟨ret_bool (fold_even X (by omega)), rfl⟩
theorem field_any (x n k : Int) (h : 0 ≤ x ∧ x ≤ 4294967295) (hn : -9223372036854775808 ≤ n ∧ n ≤ 9223372036854775807) (w : World) : Calls Try.prog 16 #[.int .u32 x, .int .i64 n, .int .i64 k] w fun e w' => e = .returned (.int .u32 (fieldS x n k)) ∧ w = w' := by
  have hm := mov_bd x n h
  by_cases c1 : k < 0
  · go_enter Try.func16, Try.ntmps16
    go_wp2_with (first | (go_at_call 30; refine (moved_any _ _ h hn _).mono ?_; rintro e w' ⟨rfl, rfl⟩) | (go_at_call 31; refine (lowest_any 0 (by omega) _).mono ?_; rintro e w' ⟨rfl, rfl⟩))
    go_ret
    exact ⟨ret_int (field_lo hm c1), rfl⟩
  · by_cases c2 : 32 < k
    · go_enter Try.func16, Try.ntmps16
      go_wp2_with (first | (go_at_call 30; refine (moved_any _ _ h hn _).mono ?_; rintro e w' ⟨rfl, rfl⟩) | (go_at_call 31; refine (lowest_any 32 (by omega) _).mono ?_; rintro e w' ⟨rfl, rfl⟩))
      go_ret
      exact ⟨ret_int (field_hi hm c2), rfl⟩
    · obtain ⟨K, rfl⟩ := Int.eq_ofNat_of_zero_le (show 0 ≤ k by omega)
      go_enter Try.func16, Try.ntmps16
      go_wp2_with (first | (go_at_call 30; refine (moved_any _ _ h hn _).mono ?_; rintro e w' ⟨rfl, rfl⟩) | (go_at_call 31; refine (lowest_any _ (by omega) _).mono ?_; rintro e w' ⟨rfl, rfl⟩))
      go_ret
      exact ⟨ret_int (field_mid hm (by omega)), rfl⟩
theorem rparity_any (x : Int) (h : 0 ≤ x ∧ x ≤ 4294967295) (w : World) : Calls Try.prog 19 #[.int .u32 x] w fun e w' => e = .returned (.bool (evenS x.toNat 8)) ∧ w = w' := by
  obtain ⟨X, rfl⟩ := Int.eq_ofNat_of_zero_le h.1
  rw [Int.toNat_natCast]
  go_enter Try.func19, Try.ntmps19
  go_wp2
  go_loop [3, 4] (fun t i => ∃ k : Nat, k ≤ 8 ∧ i = .int .i64 k ∧ t = .bool (evenS X k)) (fun _ i => 8 - (intOf i).toNat)
  case atStart => exact ⟨0, by omega, rfl, rfl⟩
  case round =>
    obtain ⟨k, hk, rfl, rfl⟩ := hrel
    have hb := div_pow_bd (x := X) k h
    have ht := bit_test _ hb
    have hs := Lib.hid (evenS_succ X k)
    by_cases hlt : k < 8
    · by_cases hbit : X / 2 ^ k % 2 = 1
      · rw [decide_eq_true ((bit_nat X k).2 hbit)] at ht
        go_wp2
        go_round
        case rel => exact ⟨k + 1, by omega, by go_num, by rw [hs.out, if_pos hbit]⟩
        case measure => simp [intOf]; omega
      · rw [decide_eq_false (fun h => hbit ((bit_nat X k).1 h))] at ht
        go_wp2
        go_round
        case rel => exact ⟨k + 1, by omega, by go_num, by rw [hs.out, if_neg hbit]⟩
        case measure => simp [intOf]; omega
    · obtain rfl : k = 8 := by omega
      go_wp2
      go_ret
      exact ⟨rfl, rfl⟩
theorem bytes_any (x : Int) (h : 0 ≤ x ∧ x ≤ 4294967295) (w : World) : Calls Try.prog 11 #[.int .u32 x] w fun e w' =>
    e = .returned (.agg #[.int .u8 (x % 256), .int .u8 (x / 256 % 256), .int .u8 (x / 65536 % 256), .int .u8 (x / 16777216)]) ∧
    w.alloc (.cells #[.int .u8 (x % 256), .int .u8 (x / 256 % 256), .int .u8 (x / 65536 % 256), .int .u8 (x / 16777216)] 25) = w' := by
  go_enter Try.func11, Try.ntmps11
  go_wp2
  exact bodyPost_ret (v := .agg #[.int .u8 (x % 256), .int .u8 (x / 256 % 256), .int .u8 (x / 65536 % 256), .int .u8 (x / 16777216)]) (by simp [results, Try.results11, go_sem]) rfl ⟨rfl, rfl⟩
theorem word_any (a : Option Addr) (len cap : Nat) (zs : List Int) (w : World) (h : Row8 w a len zs) : Calls Try.prog 20 #[.slice a len cap] w fun e w' => e = .returned (.int .u32 (wordS zs)) ∧ Below w.heap.size w w' := by
  obtain ⟨rfl, hz, h3⟩ := h
  have b0 := getD_bd hz 0
  have b1 := getD_bd hz 1
  have b2 := getD_bd hz 2
  have b3 := getD_bd hz 3
  have hsp := splice4 zs
  have hw : wordS zs = zs.getD 0 0 + zs.getD 1 0 * 256 + zs.getD 2 0 * 65536 + zs.getD 3 0 * 16777216 := rfl
  generalize zs.getD 0 0 = z0 at hsp hw b0
  generalize zs.getD 1 0 = z1 at hsp hw b1
  generalize zs.getD 2 0 = z2 at hsp hw b2
  generalize zs.getD 3 0 = z3 at hsp hw b3
  have Hsp := Lib.hid hsp
  have Hw := Lib.hid hw
  clear hsp hw
  have hcs : ((zs.take 4).map (Value.int .u8)).length = Nat.min zs.length 4 := by simp [Nat.min_comm]
  go_enter Try.func20, Try.ntmps20
  go_wp2_with (refine wpList_copy_splice rfl _ _ _ _ rfl 5 rfl (by kernel_rfl) _ _ _ _ _ _ rfl rfl w.heap.size 0 [.int .u8 0, .int .u8 0, .int .u8 0, .int .u8 0] 25 ?hg ((zs.take 4).map (Value.int .u8)) hcs ?hpos ?hfit ?h1 w.heap.size w ?hb ?hBg ?h)
  case hg => exact alloc_new _ _
  case hpos =>
    intro hp
    rcases h3 with rfl | ⟨b, off, rfl, hlt, hc⟩
    · simp at hp
    · refine ⟨_, rfl, fun j v hv => ?_⟩
      have hj : j < 4 ∧ j < zs.length := by
        have := (List.getElem?_eq_some_iff.1 hv).1
        simp at this; omega
      have := hc j hj.2
      rw [List.getD_eq_getElem?_getD, List.getElem?_eq_getElem hj.2, Option.getD_some] at this
      simp [hj.1, hj.2] at hv
      subst hv
      rw [← this]
      rw [show (⟨b, off, none⟩ : Addr).add j = ⟨b, off + j, none⟩ by simp [Addr.add]]
      exact World.cell?_alloc_lt w _ ⟨b, off + j, none⟩ hlt
  case hfit => simp; omega
  case h1 => exact fun v hv => by obtain ⟨z, _, rfl⟩ := List.mem_map.1 hv; rfl
  case hb => exact (Below.refl _ _).alloc (Nat.le_refl _) _
  case hBg => exact Nat.le_refl _
  intro w2 HG hB2
  have HG' := HG.out
  rw [Hsp.out] at HG'
  obtain ⟨c0, c1, c2, c3⟩ := cells4 HG'
  clear HG HG'
  go_wp2
  go_ret
  exact ⟨ret_int ((or_bytes _ _ _ _ b0 b1 b2 b3).trans Hw.out.symm), hB2⟩
theorem rword_any (a : Option Addr) (len cap : Nat) (zs : List Int) (w : World) (h : Row8 w a len zs) : Calls Try.prog 21 #[.slice a len cap] w fun e w' => e = .returned (.int .u32 (wordS zs)) ∧ Below w.heap.size w w' := by
  obtain ⟨rfl, hz, h3⟩ := h
  go_enter Try.func21, Try.ntmps21
  go_wp2
  go_loop [3, 4] (fun t i => ∃ k : Nat, k ≤ 4 ∧ k ≤ zs.length ∧ i = .int .i64 k ∧ t = .int .u32 (wordS (zs.take k))) (fun _ i => 4 - (intOf i).toNat)
  case atStart => exact ⟨0, by omega, by omega, rfl, rfl⟩
  case round =>
    obtain ⟨k, hk, hk2, rfl, rfl⟩ := hrel
    by_cases hlt : k < 4 ∧ k < zs.length
    · rcases h3 with rfl | ⟨b, off, rfl, hlt2, hc⟩
      · simp at hlt
      · have hcell := hc k hlt.2
        have bk := getD_bd hz k
        have hsn := wordS_snoc hz k hlt.2 hlt.1
        clear hc
        generalize zs.getD k 0 = z at *
        have hor := or_byte _ z k hlt.1 hsn.2 bk
        have Hsn := Lib.hid hsn
        have Hor := Lib.hid hor
        clear hsn hor
        go_wp2
        go_round
        case rel => exact ⟨k + 1, by omega, by omega, by go_num, by rw [Hor.out, Hsn.out.1]⟩
        case measure => simp [intOf]; omega
    · go_wp2
      all_goals (go_ret; exact ⟨ret_int (by rw [wordS_take zs k (by omega)]), Below.refl _ _⟩)
theorem rfield_mid (x n k : Int) (M : Nat) (hM : k = (M : Int)) (hM32 : M ≤ 32) (h0 : (0 : Int) < M) (h : 0 ≤ x ∧ x ≤ 4294967295) (h1 : -32 ≤ n) (h2 : n ≤ 31) (w : World) : Calls Try.prog 17 #[.int .u32 x, .int .i64 n, .int .i64 k] w fun e w' => e = .returned (.int .u32 (mov x n % 2 ^ M)) ∧ w = w' := by
  subst hM
  go_enter Try.func17, Try.ntmps17
  go_wp2
  go_loop [8, 9, 10] (fun y i q => ∃ j : Nat, j ≤ M ∧ i = .int .i64 j ∧ y = .int .u32 (mov x n % 2 ^ j)) (fun _ i _ => M - (intOf i).toNat)
  case atStart => exact ⟨0, by omega, rfl, by simp [Int.emod_one]⟩
  case round =>
    obtain ⟨j, hj, rfl, rfl⟩ := hrel
    by_cases hlt : j < M
    · by_cases hin : 0 ≤ n + j ∧ n + j < 32
      · obtain ⟨q, hq⟩ := Int.eq_ofNat_of_zero_le hin.1
        have hb := div_pow_bd (x := x) q h
        have ht := bit_test _ hb
        have g1 : 0 ≤ n + (j : Int) := hin.1
        have g2 : n + (j : Int) < 32 := hin.2
        have hm := Lib.hid (mov_bit_in h h1 h2 (by omega) hq (by omega))
        have hqn : (n + (j : Int)).toNat = q := by omega
        rw [← hqn] at ht
        by_cases hone : x / 2 ^ q % 2 = 1
        · rw [hqn, decide_eq_true hone, ← hqn] at ht
          have hs := Lib.hid (fstep_yes (m := mov x n) (j := j) (by omega) (by rw [hm.out]; exact hone))
          clear hin hb hq hqn hone
          go_wp2
          go_round
          case rel => exact ⟨j + 1, by omega, by go_num, by rw [hs.out]⟩
          case measure => simp [intOf]; omega
        · rw [hqn, decide_eq_false hone, ← hqn] at ht
          have hs := Lib.hid (fstep_no (m := mov x n) (j := j) (by rw [hm.out]; exact bit_no hone))
          clear hin hb hq hqn hone
          go_wp2
          go_round
          case rel => exact ⟨j + 1, by omega, by go_num, by rw [← hs.out]⟩
          case measure => simp [intOf]; omega
      · have hs := Lib.hid (fstep_no (m := mov x n) (j := j) (mov_bit_out h h1 h2 (by omega) hin))
        by_cases hneg : n + j < 0
        · go_wp2
          go_round
          case rel => exact ⟨j + 1, by omega, by go_num, by rw [← hs.out]⟩
          case measure => simp [intOf]; omega
        · have g1 : 0 ≤ n + (j : Int) := by omega
          have g2 : ¬ n + (j : Int) < 32 := by omega
          go_wp2
          go_round
          case rel => exact ⟨j + 1, by omega, by go_num, by rw [← hs.out]⟩
          case measure => simp [intOf]; omega
    · obtain rfl : j = M := by omega
      go_wp2
      go_ret
      exact ⟨rfl, rfl⟩
theorem rfield_hi (x n k : Int) (hk : 32 < k) (h : 0 ≤ x ∧ x ≤ 4294967295) (h1 : -32 ≤ n) (h2 : n ≤ 31) (w : World) : Calls Try.prog 17 #[.int .u32 x, .int .i64 n, .int .i64 k] w fun e w' => e = .returned (.int .u32 (mov x n % 2 ^ 32)) ∧ w = w' := by
  go_enter Try.func17, Try.ntmps17
  go_wp2
  go_loop [8, 9, 10] (fun y i q => ∃ j : Nat, j ≤ 32 ∧ i = .int .i64 j ∧ y = .int .u32 (mov x n % 2 ^ j)) (fun _ i _ => 32 - (intOf i).toNat)
  case atStart => exact ⟨0, by omega, rfl, by simp [Int.emod_one]⟩
  case round =>
    obtain ⟨j, hj, rfl, rfl⟩ := hrel
    by_cases hlt : j < 32
    · by_cases hin : 0 ≤ n + j ∧ n + j < 32
      · obtain ⟨q, hq⟩ := Int.eq_ofNat_of_zero_le hin.1
        have hb := div_pow_bd (x := x) q h
        have ht := bit_test _ hb
        have g1 : 0 ≤ n + (j : Int) := hin.1
        have g2 : n + (j : Int) < 32 := hin.2
        have hm := Lib.hid (mov_bit_in h h1 h2 (by omega) hq (by omega))
        have hqn : (n + (j : Int)).toNat = q := by omega
        rw [← hqn] at ht
        by_cases hone : x / 2 ^ q % 2 = 1
        · rw [hqn, decide_eq_true hone, ← hqn] at ht
          have hs := Lib.hid (fstep_yes (m := mov x n) (j := j) (by omega) (by rw [hm.out]; exact hone))
          clear hin hb hq hqn hone
          go_wp2
          go_round
          case rel => exact ⟨j + 1, by omega, by go_num, by rw [hs.out]⟩
          case measure => simp [intOf]; omega
        · rw [hqn, decide_eq_false hone, ← hqn] at ht
          have hs := Lib.hid (fstep_no (m := mov x n) (j := j) (by rw [hm.out]; exact bit_no hone))
          clear hin hb hq hqn hone
          go_wp2
          go_round
          case rel => exact ⟨j + 1, by omega, by go_num, by rw [← hs.out]⟩
          case measure => simp [intOf]; omega
      · have hs := Lib.hid (fstep_no (m := mov x n) (j := j) (mov_bit_out h h1 h2 (by omega) hin))
        by_cases hneg : n + j < 0
        · go_wp2
          go_round
          case rel => exact ⟨j + 1, by omega, by go_num, by rw [← hs.out]⟩
          case measure => simp [intOf]; omega
        · have g1 : 0 ≤ n + (j : Int) := by omega
          have g2 : ¬ n + (j : Int) < 32 := by omega
          go_wp2
          go_round
          case rel => exact ⟨j + 1, by omega, by go_num, by rw [← hs.out]⟩
          case measure => simp [intOf]; omega
    · obtain rfl : j = 32 := by omega
      go_wp2
      go_ret
      exact ⟨rfl, rfl⟩
theorem rfield_lo (x n k : Int) (hk : k ≤ 0) (w : World) : Calls Try.prog 17 #[.int .u32 x, .int .i64 n, .int .i64 k] w fun e w' => e = .returned (.int .u32 0) ∧ w = w' := by
  by_cases h3 : k < 0
  · go_enter Try.func17, Try.ntmps17
    go_wp2
    refine wp_loop_rounds 1 ?_
    rw [rounds_succ]
    go_wp2
    go_ret
    exact ⟨rfl, rfl⟩
  · obtain rfl : k = 0 := by omega
    clear h3 hk
    go_enter Try.func17, Try.ntmps17
    go_wp2
    refine wp_loop_rounds 1 ?_
    rw [rounds_succ]
    go_wp2
    go_ret
    exact ⟨rfl, rfl⟩
theorem rfield_out (x n k : Int) (hk : 0 < k) (hn : n < -32 ∨ 31 < n) (w : World) : Calls Try.prog 17 #[.int .u32 x, .int .i64 n, .int .i64 k] w fun e w' => e = .returned (.int .u32 0) ∧ w = w' := by
  by_cases h32 : 32 < k
  · by_cases c : n < -32
    · go_enter Try.func17, Try.ntmps17
      go_wp2
      refine wp_loop_rounds 1 ?_
      rw [rounds_succ]
      go_wp2
      go_ret
      exact ⟨rfl, rfl⟩
    · have c1 : -32 ≤ n := by omega
      have c2 : 31 < n := by omega
      clear hn
      go_enter Try.func17, Try.ntmps17
      go_wp2
      refine wp_loop_rounds 1 ?_
      rw [rounds_succ]
      go_wp2
      go_ret
      exact ⟨rfl, rfl⟩
  · by_cases c : n < -32
    · go_enter Try.func17, Try.ntmps17
      go_wp2
      refine wp_loop_rounds 1 ?_
      rw [rounds_succ]
      go_wp2
      go_ret
      exact ⟨rfl, rfl⟩
    · have c1 : -32 ≤ n := by omega
      have c2 : 31 < n := by omega
      clear hn
      go_enter Try.func17, Try.ntmps17
      go_wp2
      refine wp_loop_rounds 1 ?_
      rw [rounds_succ]
      go_wp2
      go_ret
      exact ⟨rfl, rfl⟩
theorem rfield_any (x n k : Int) (h : 0 ≤ x ∧ x ≤ 4294967295) (w : World) : Calls Try.prog 17 #[.int .u32 x, .int .i64 n, .int .i64 k] w fun e w' => e = .returned (.int .u32 (fieldS x n k)) ∧ w = w' := by
  by_cases c0 : k ≤ 0
  · refine (rfield_lo x n k c0 w).mono fun e w' he => ⟨?_, he.2⟩
    rw [he.1]; refine ret_int ?_
    unfold fieldS
    rw [show held0 k = 0 by unfold held0; split <;> (try split) <;> omega, Int.pow_zero, Int.emod_one]
  · by_cases c1 : n < -32 ∨ 31 < n
    · refine (rfield_out x n k (by omega) c1 w).mono fun e w' he => ⟨?_, he.2⟩
      rw [he.1]; exact ret_int (field_zero h c1).symm
    · by_cases c2 : 32 < k
      · refine (rfield_hi x n k c2 h (by omega) (by omega) w).mono fun e w' he => ⟨?_, he.2⟩
        rw [he.1]; refine ret_int ?_
        unfold fieldS
        rw [show held0 k = 32 by unfold held0; split <;> (try split) <;> omega]
      · obtain ⟨M, rfl⟩ := Int.eq_ofNat_of_zero_le (show 0 ≤ k by omega)
        refine (rfield_mid x n M M rfl (by omega) (by omega) h (by omega) (by omega) w).mono fun e w' he => ⟨?_, he.2⟩
        rw [he.1]; refine ret_int ?_
        unfold fieldS
        rw [show held0 (M : Int) = M by unfold held0; split <;> (try split) <;> omega]
theorem k_add (w : World) : Calls Try.prog 22 #[.int .u32 4294967295, .int .u32 1, .bool false] w fun e w' => e = .returned (.tuple #[.int .u32 0, .bool true, .bool false]) ∧ w = w' :=
  (addC_any 4294967295 1 false (by decide) (by decide) w).mono fun e w' h => ⟨h.1.trans (by kernel_rfl), h.2⟩
theorem k_mul (w : World) : Calls Try.prog 28 #[.int .u32 4294967295, .int .u32 2] w fun e w' => e = .returned (.tuple #[.int .u32 4294967294, .int .u32 4294967295]) ∧ w = w' :=
  (mulS_any 4294967295 2 w).mono fun e w' h => ⟨h.1.trans (by kernel_rfl), h.2⟩
theorem k_sign8 (w : World) : Calls Try.prog 12 #[.int .u32 128] w fun e w' => e = .returned (.int .u32 4294967168) ∧ w = w' :=
  (sign8_any 128 w).mono fun e w' h => ⟨h.1.trans (by kernel_rfl), h.2⟩
theorem k_sign12 (w : World) : Calls Try.prog 14 #[.int .u32 2047] w fun e w' => e = .returned (.int .u32 2047) ∧ w = w' :=
  (sign12_any 2047 (by decide) w).mono fun e w' h => ⟨h.1.trans (by kernel_rfl), h.2⟩
theorem k_signed (w : World) : Calls Try.prog 15 #[.int .u32 4095, .int .i64 12] w fun e w' => e = .returned (.int .i32 (-1)) ∧ w = w' :=
  (signed_any 4095 12 (by decide) w).mono fun e w' h => ⟨h.1.trans (by kernel_rfl), h.2⟩
theorem k_field (w : World) : Calls Try.prog 16 #[.int .u32 240, .int .i64 4, .int .i64 4] w fun e w' => e = .returned (.int .u32 15) ∧ w = w' :=
  (field_any 240 4 4 (by decide) (by decide) w).mono fun e w' h => ⟨h.1.trans (by kernel_rfl), h.2⟩
theorem k_parity (w : World) : Calls Try.prog 18 #[.int .u32 768] w fun e w' => e = .returned (.bool true) ∧ w = w' :=
  (parity_any 768 (by decide) w).mono fun e w' h => ⟨h.1.trans (by kernel_rfl), h.2⟩
theorem k_same (w : World) : Sem.run Try.prog (Op.equalIn 10000 25 (.agg #[.int .u8 1, .int .u8 2, .int .u8 0, .int .u8 0]) (.agg #[.int .u8 1, .int .u8 2, .int .u8 0, .int .u8 0])) w = .ok true w := by kernel_rfl
set_option maxRecDepth 100000 in
theorem known_any (w : World) : Calls Try.prog 10 #[] w fun e w' => e = .returned (.bool true) ∧ Below w.heap.size w w' := by
  have hsame := k_same
  go_enter Try.func10, Try.ntmps10
  go_wp2_with (first | (go_at_call 22; refine (k_add _).mono ?_; rintro e w' ⟨rfl, rfl⟩) | (go_at_call 28; refine (k_mul _).mono ?_; rintro e w' ⟨rfl, rfl⟩) | (go_at_call 12; refine (k_sign8 _).mono ?_; rintro e w' ⟨rfl, rfl⟩) | (go_at_call 14; refine (k_sign12 _).mono ?_; rintro e w' ⟨rfl, rfl⟩) | (go_at_call 15; refine (k_signed _).mono ?_; rintro e w' ⟨rfl, rfl⟩) | (go_at_call 16; refine (k_field _).mono ?_; rintro e w' ⟨rfl, rfl⟩) | (go_at_call 18; refine (k_parity _).mono ?_; rintro e w' ⟨rfl, rfl⟩))
  refine (word_any _ _ _ [1, 2] _ ⟨rfl, by decide, .inr ⟨w.heap.size, 0, rfl, by simp, fun i hi => ?_⟩⟩).mono ?_
  · have h2 : i = 0 ∨ i = 1 := by simp at hi; omega
    rcases h2 with rfl | rfl <;> simp
  rintro e w1 ⟨rfl, hb⟩
  rw [show wordS [1, 2] = 513 by decide]
  go_wp2_with (first | (go_at_call 11; refine (bytes_any _ (by omega) _).mono ?_; rintro e w' ⟨rfl, rfl⟩))
  go_ret
  have hb0 : Below w.heap.size w w1 := ((Below.refl _ _).alloc (Nat.le_refl _) _).trans (hb.mono (by simp))
  exact ⟨rfl, hb0.alloc (by have := hb0.size; omega) _⟩
end Go.Proofs.Ytjnoapbamllnpaa
