import Derived.Test.YtmlaancmacipoaaRows
import Derived.Test.YtmlaancmacipoaaKit
import Derived.Laws.CopyOwn
namespace Go.Proofs.Ytmlaancmacipoaa
open Go.RowKit
set_option linter.unusedVariables false

theorem lowest_any (n : Nat) (h : n ≤ 32) (w : World) : Calls Try.prog 67 #[.int .i64 n] w fun e w' => e = .returned (.int .u32 (2 ^ n - 1)) ∧ w = w' := by
  go_enter Try.func67, Try.ntmps67
  go_wp2
  go_ret
  exact ⟨ret_int (low_mask h), rfl⟩
theorem moved_any (x n : Int) (h : 0 ≤ x ∧ x ≤ 4294967295) (hn : -9223372036854775808 ≤ n ∧ n ≤ 9223372036854775807) (w : World) : Calls Try.prog 66 #[.int .u32 x, .int .i64 n] w fun e w' => e = .returned (.int .u32 (mov x n)) ∧ w = w' := by
  by_cases c1 : 0 ≤ n
  · obtain ⟨k, rfl⟩ := Int.eq_ofNat_of_zero_le c1
    go_enter Try.func66, Try.ntmps66
    go_wp2
    go_ret
    exact ⟨ret_int mov_up, rfl⟩
  · by_cases c2 : n < -32
    · go_enter Try.func66, Try.ntmps66
      go_wp2
      go_ret
      exact ⟨ret_int (mov_far c2), rfl⟩
    · go_enter Try.func66, Try.ntmps66
      go_wp2
      go_ret
      exact ⟨ret_int (mov_down (by omega) (by omega)), rfl⟩
theorem field_any (x n k : Int) (h : 0 ≤ x ∧ x ≤ 4294967295) (hn : -9223372036854775808 ≤ n ∧ n ≤ 9223372036854775807) (w : World) : Calls Try.prog 52 #[.int .u32 x, .int .i64 n, .int .i64 k] w fun e w' => e = .returned (.int .u32 (fieldS x n k)) ∧ w = w' := by
  have hm := mov_bd x n h
  by_cases c1 : k < 0
  · go_enter Try.func52, Try.ntmps52
    go_wp2_with (first | (go_at_call 66; refine (moved_any _ _ h hn _).mono ?_; rintro e w' ⟨rfl, rfl⟩) | (go_at_call 67; refine (lowest_any 0 (by omega) _).mono ?_; rintro e w' ⟨rfl, rfl⟩))
    go_ret
    exact ⟨ret_int (field_lo hm c1), rfl⟩
  · by_cases c2 : 32 < k
    · go_enter Try.func52, Try.ntmps52
      go_wp2_with (first | (go_at_call 66; refine (moved_any _ _ h hn _).mono ?_; rintro e w' ⟨rfl, rfl⟩) | (go_at_call 67; refine (lowest_any 32 (by omega) _).mono ?_; rintro e w' ⟨rfl, rfl⟩))
      go_ret
      exact ⟨ret_int (field_hi hm c2), rfl⟩
    · obtain ⟨K, rfl⟩ := Int.eq_ofNat_of_zero_le (show 0 ≤ k by omega)
      go_enter Try.func52, Try.ntmps52
      go_wp2_with (first | (go_at_call 66; refine (moved_any _ _ h hn _).mono ?_; rintro e w' ⟨rfl, rfl⟩) | (go_at_call 67; refine (lowest_any _ (by omega) _).mono ?_; rintro e w' ⟨rfl, rfl⟩))
      go_ret
      exact ⟨ret_int (field_mid hm (by omega)), rfl⟩
theorem bytes_any (x : Int) (h : 0 ≤ x ∧ x ≤ 4294967295) (w : World) : Calls Try.prog 71 #[.int .u32 x] w fun e w' =>
    e = .returned (.agg #[.int .u8 (x % 256), .int .u8 (x / 256 % 256), .int .u8 (x / 65536 % 256), .int .u8 (x / 16777216)]) ∧
    w.alloc (.cells #[.int .u8 (x % 256), .int .u8 (x / 256 % 256), .int .u8 (x / 65536 % 256), .int .u8 (x / 16777216)] 105) = w' := by
  go_enter Try.func71, Try.ntmps71
  go_wp2
  exact bodyPost_ret (v := .agg #[.int .u8 (x % 256), .int .u8 (x / 256 % 256), .int .u8 (x / 65536 % 256), .int .u8 (x / 16777216)]) (by simp [results, Try.results71, go_sem]) rfl ⟨rfl, rfl⟩
set_option maxRecDepth 100000 in
theorem word_any (a : Option Addr) (len cap : Nat) (zs : List Int) (w : World) (h : Row8 w a len zs) : Calls Try.prog 72 #[.slice a len cap] w fun e w' => e = .returned (.int .u32 (wordS zs)) ∧ Below w.heap.size w w' := by
  obtain ⟨rfl, hz, h3⟩ := h
  have b0 := getD_bd hz 0
  have b1 := getD_bd hz 1
  have b2 := getD_bd hz 2
  have b3 := getD_bd hz 3
  have hsp := splice4 zs
  have hw : wordS zs = zs.getD 0 0 + zs.getD 1 0 * 256 + zs.getD 2 0 * 65536 + zs.getD 3 0 * 16777216 := rfl
  generalize zs.getD 0 0 = z0 at hsp hw b0
  generalize zs.getD 1 0 = z1 at hsp hw b1
  generalize zs.getD 2 0 = z2 at hsp hw b2
  generalize zs.getD 3 0 = z3 at hsp hw b3
  have Hsp := Lib.hid hsp
  have Hw := Lib.hid hw
  clear hsp hw
  have hcs : ((zs.take 4).map (Value.int .u8)).length = Nat.min zs.length 4 := by simp [Nat.min_comm]
  go_enter Try.func72, Try.ntmps72
  go_wp2_with (refine wpList_copy_splice rfl _ _ _ _ rfl 5 rfl (by kernel_rfl) _ _ _ _ _ _ rfl rfl w.heap.size 0 [.int .u8 0, .int .u8 0, .int .u8 0, .int .u8 0] 105 ?hg ((zs.take 4).map (Value.int .u8)) hcs ?hpos ?hfit ?h1 w.heap.size w ?hb ?hBg ?h)
  case hg => exact alloc_new _ _
  case hpos =>
    intro hp
    rcases h3 with rfl | ⟨b, off, rfl, hlt, hc⟩
    · simp at hp
    · refine ⟨_, rfl, fun j v hv => ?_⟩
      have hj : j < 4 ∧ j < zs.length := by
        have := (List.getElem?_eq_some_iff.1 hv).1
        simp at this; omega
      have := hc j hj.2
      rw [List.getD_eq_getElem?_getD, List.getElem?_eq_getElem hj.2, Option.getD_some] at this
      simp [hj.1, hj.2] at hv
      subst hv
      rw [← this]
      rw [show (⟨b, off, none⟩ : Addr).add j = ⟨b, off + j, none⟩ by simp [Addr.add]]
      exact World.cell?_alloc_lt w _ ⟨b, off + j, none⟩ hlt
  case hfit => simp; omega
  case h1 => exact fun v hv => by obtain ⟨z, _, rfl⟩ := List.mem_map.1 hv; rfl
  case hb => exact (Below.refl _ _).alloc (Nat.le_refl _) _
  case hBg => exact Nat.le_refl _
  intro w2 HG hB2
  have HG' := HG.out
  rw [Hsp.out] at HG'
  obtain ⟨c0, c1, c2, c3⟩ := cells4 HG'
  clear HG HG'
  go_wp2
  go_ret
  exact ⟨ret_int ((or_bytes _ _ _ _ b0 b1 b2 b3).trans Hw.out.symm), hB2⟩
theorem k_field (w : World) : Calls Try.prog 52 #[.int .u32 240, .int .i64 4, .int .i64 4] w fun e w' => e = .returned (.int .u32 15) ∧ w = w' :=
  (field_any 240 4 4 (by decide) (by decide) w).mono fun e w' h => ⟨h.1.trans (by kernel_rfl), h.2⟩
theorem k_same (w : World) : Sem.run Try.prog (Op.equalIn 10000 105 (.agg #[.int .u8 1, .int .u8 2, .int .u8 0, .int .u8 0]) (.agg #[.int .u8 1, .int .u8 2, .int .u8 0, .int .u8 0])) w = .ok true w := by kernel_rfl
end Go.Proofs.Ytmlaancmacipoaa
