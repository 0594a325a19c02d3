/- Contracts of bits and of the document's bits that the host's walks call. -/
import Derived.Test.YtcddhlepkmbkcaaDoorB3
import Derived.Laws.CopyOwn
namespace Go.Proofs.YtcddhlepkmbkcaaDoor
open Go.RowKit
set_option linter.unusedVariables false
set_option linter.unusedSimpArgs false
set_option linter.unusedSectionVars false

theorem rsign_any (a : Int) (w : World) : Calls Tryd.prog 77 #[.int .u32 a] w fun e w' => e = .returned (.int .i64 (wrap32 a)) ∧ w = w' := by
  have h1 := bd32 a
  go_enter Tryd.func77, Tryd.ntmps77
  go_wp2
  go_ret
  exact ⟨rfl, rfl⟩
theorem halves_any (p : Int) (hp : 0 ≤ p ∧ p ≤ 18446744073709551615) (w : World) : Calls Tryd.prog 78 #[.int .u64 p] w fun e w' => e = .returned (.tuple #[.int .u32 (p % 4294967296), .int .u32 (p / 4294967296)]) ∧ w = w' := by
  go_enter Tryd.func78, Tryd.ntmps78
  go_wp2
  go_ret2
  exact ⟨rfl, rfl⟩
theorem mulU_any (a b : Int) (h : 0 ≤ a ∧ a ≤ 4294967295) (hb : 0 ≤ b ∧ b ≤ 4294967295) (w : World) : Calls Tryd.prog 75 #[.int .u32 a, .int .u32 b] w fun e w' => e = .returned (.tuple #[.int .u32 (a * b % 4294967296), .int .u32 (a * b / 4294967296)]) ∧ w = w' := by
  have hab := mul_bd h hb
  go_enter Tryd.func75, Tryd.ntmps75
  go_wp2_with (first | (go_at_call 78; refine (halves_any _ (by omega) _).mono ?_; rintro e w' ⟨rfl, rfl⟩))
  go_ret2
  exact ⟨rfl, rfl⟩
theorem rmulU_any (a b : Int) (h : 0 ≤ a ∧ a ≤ 4294967295) (hb : 0 ≤ b ∧ b ≤ 4294967295) (w : World) : Calls Tryd.prog 71 #[.int .u32 a, .int .u32 b] w fun e w' => e = .returned (.tuple #[.int .u32 (a * b % 4294967296), .int .u32 (a * b / 4294967296)]) ∧ w = w' := by
  have hab := mul_bd h hb
  go_enter Tryd.func71, Tryd.ntmps71
  go_wp2
  go_ret2
  exact ⟨rfl, rfl⟩
theorem mulS_any (a b : Int) (w : World) : Calls Tryd.prog 76 #[.int .u32 a, .int .u32 b] w fun e w' => e = .returned (.tuple #[.int .u32 (wrap32 a * wrap32 b % 4294967296), .int .u32 (wrap32 a * wrap32 b / 4294967296 % 4294967296)]) ∧ w = w' := by
  have h1 := bd32 a
  have h2 := bd32 b
  have hab := mul_sbd h1 h2
  go_enter Tryd.func76, Tryd.ntmps76
  go_wp2_with (first | (go_at_call 78; refine (halves_any _ (u64_bd _) _).mono ?_; rintro e w' ⟨rfl, rfl⟩))
  go_ret2
  exact ⟨ret_ii (wrap64_low _) (wrap64_high _), rfl⟩
theorem rmulS_any (a b : Int) (w : World) : Calls Tryd.prog 72 #[.int .u32 a, .int .u32 b] w fun e w' => e = .returned (.tuple #[.int .u32 (wrap32 a * wrap32 b % 4294967296), .int .u32 (wrap32 a * wrap32 b / 4294967296 % 4294967296)]) ∧ w = w' := by
  have h1 := bd32 a
  have h2 := bd32 b
  have hab := mul_sbd h1 h2
  have hu := u64_bd (wrap32 a * wrap32 b)
  go_enter Tryd.func72, Tryd.ntmps72
  go_wp2_with (first | (go_at_call 77; refine (rsign_any _ _).mono ?_; rintro e w' ⟨rfl, rfl⟩))
  go_ret2
  exact ⟨ret_ii rfl (wrap64_high _), rfl⟩
theorem sign8_any (x : Int) (w : World) : Calls Tryd.prog 66 #[.int .u32 x] w fun e w' => e = .returned (.int .u32 (IntKind.i8.wrap x % 4294967296)) ∧ w = w' := by
  go_enter Tryd.func66, Tryd.ntmps66
  go_wp2
  go_ret
  exact ⟨rfl, rfl⟩
theorem bytes_any (x : Int) (h : 0 ≤ x ∧ x ≤ 4294967295) (w : World) : Calls Tryd.prog 36 #[.int .u32 x] w fun e w' =>
    e = .returned (.agg #[.int .u8 (x % 256), .int .u8 (x / 256 % 256), .int .u8 (x / 65536 % 256), .int .u8 (x / 16777216)]) ∧
    w.alloc (.cells #[.int .u8 (x % 256), .int .u8 (x / 256 % 256), .int .u8 (x / 65536 % 256), .int .u8 (x / 16777216)] 70) = w' := by
  go_enter Tryd.func36, Tryd.ntmps36
  go_wp2
  exact bodyPost_ret (v := .agg #[.int .u8 (x % 256), .int .u8 (x / 256 % 256), .int .u8 (x / 65536 % 256), .int .u8 (x / 16777216)]) (by simp [results, Tryd.results36, go_sem]) rfl ⟨rfl, rfl⟩
set_option maxRecDepth 8000 in
theorem word_any (a : Option Addr) (len cap : Nat) (zs : List Int) (w : World) (h : Row8 w a len zs) : Calls Tryd.prog 48 #[.slice a len cap] w fun e w' => e = .returned (.int .u32 (wordS zs)) ∧ Below w.heap.size w w' := by
  obtain ⟨rfl, hz, h3⟩ := h
  have b0 := getD_bd hz 0
  have b1 := getD_bd hz 1
  have b2 := getD_bd hz 2
  have b3 := getD_bd hz 3
  have hsp := splice4 zs
  have hw : wordS zs = zs.getD 0 0 + zs.getD 1 0 * 256 + zs.getD 2 0 * 65536 + zs.getD 3 0 * 16777216 := rfl
  generalize zs.getD 0 0 = z0 at hsp hw b0
  generalize zs.getD 1 0 = z1 at hsp hw b1
  generalize zs.getD 2 0 = z2 at hsp hw b2
  generalize zs.getD 3 0 = z3 at hsp hw b3
  have Hsp := Lib.hid hsp
  have Hw := Lib.hid hw
  clear hsp hw
  have hcs : ((zs.take 4).map (Value.int .u8)).length = Nat.min zs.length 4 := by simp [Nat.min_comm]
  go_enter Tryd.func48, Tryd.ntmps48
  go_wp2_with (refine wpList_copy_splice rfl _ _ _ _ rfl 5 rfl (by kernel_rfl) _ _ _ _ _ _ rfl rfl w.heap.size 0 [.int .u8 0, .int .u8 0, .int .u8 0, .int .u8 0] 70 ?hg ((zs.take 4).map (Value.int .u8)) hcs ?hpos ?hfit ?h1 w.heap.size w ?hb ?hBg ?h)
  case hg => exact alloc_new _ _
  case hpos =>
    intro hp
    rcases h3 with rfl | ⟨b, off, rfl, hlt, hc⟩
    · simp at hp
    · refine ⟨_, rfl, fun j v hv => ?_⟩
      have hj : j < 4 ∧ j < zs.length := by
        have := (List.getElem?_eq_some_iff.1 hv).1
        simp at this; omega
      have := hc j hj.2
      rw [List.getD_eq_getElem?_getD, List.getElem?_eq_getElem hj.2, Option.getD_some] at this
      simp [hj.1, hj.2] at hv
      subst hv
      rw [← this]
      rw [show (⟨b, off, none⟩ : Addr).add j = ⟨b, off + j, none⟩ by simp [Addr.add]]
      exact World.cell?_alloc_lt w _ ⟨b, off + j, none⟩ hlt
  case hfit => simp; omega
  case h1 => exact fun v hv => by obtain ⟨z, _, rfl⟩ := List.mem_map.1 hv; rfl
  case hb => exact (Below.refl _ _).alloc (Nat.le_refl _) _
  case hBg => exact Nat.le_refl _
  intro w2 HG hB2
  have HG' := HG.out
  rw [Hsp.out] at HG'
  obtain ⟨c0, c1, c2, c3⟩ := cells4 HG'
  clear HG HG'
  go_wp2
  go_ret
  exact ⟨ret_int ((or_bytes _ _ _ _ b0 b1 b2 b3).trans Hw.out.symm), hB2⟩
theorem rword_any (a : Option Addr) (len cap : Nat) (zs : List Int) (w : World) (h : Row8 w a len zs) : Calls Tryd.prog 49 #[.slice a len cap] w fun e w' => e = .returned (.int .u32 (wordS zs)) ∧ Below w.heap.size w w' := by
  obtain ⟨rfl, hz, h3⟩ := h
  go_enter Tryd.func49, Tryd.ntmps49
  go_wp2
  go_loop [3, 4] (fun t i => ∃ k : Nat, k ≤ 4 ∧ k ≤ zs.length ∧ i = .int .i64 k ∧ t = .int .u32 (wordS (zs.take k))) (fun _ i => 4 - (intOf i).toNat)
  case atStart => exact ⟨0, by omega, by omega, rfl, rfl⟩
  case round =>
    obtain ⟨k, hk, hk2, rfl, rfl⟩ := hrel
    by_cases hlt : k < 4 ∧ k < zs.length
    · rcases h3 with rfl | ⟨b, off, rfl, hlt2, hc⟩
      · simp at hlt
      · have hcell := hc k hlt.2
        have bk := getD_bd hz k
        have hsn := wordS_snoc hz k hlt.2 hlt.1
        clear hc
        generalize zs.getD k 0 = z at *
        have hor := or_byte _ z k hlt.1 hsn.2 bk
        have Hsn := Lib.hid hsn
        have Hor := Lib.hid hor
        clear hsn hor
        go_wp2
        go_round
        case rel => exact ⟨k + 1, by omega, by omega, by go_num, by rw [Hor.out, Hsn.out.1]⟩
        case measure => simp [intOf]; omega
    · go_wp2
      all_goals (go_ret; exact ⟨ret_int (by rw [wordS_take zs k (by omega)]), Below.refl _ _⟩)
end Go.Proofs.YtcddhlepkmbkcaaDoor
