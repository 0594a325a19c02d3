/- Contracts of bits and of the document's bits that the host's walks call. -/
import Derived.Test.YtbalnlodkiejcaaDoorB3
import Derived.Laws.CopyOwn
namespace Go.Proofs.YtbalnlodkiejcaaDoor
open Go.RowKit
set_option linter.unusedVariables false
set_option linter.unusedSimpArgs false
set_option linter.unusedSectionVars false

theorem rsign_any (a : Int) (w : World) : Calls Tryd.prog 53 #[.int .u32 a] w fun e w' => e = .returned (.int .i64 (wrap32 a)) ∧ w = w' := by
  have h1 := bd32 a
  go_enter Tryd.func53, Tryd.ntmps53
  go_wp2
  go_ret
  exact ⟨rfl, rfl⟩
theorem rmulU_any (a b : Int) (h : 0 ≤ a ∧ a ≤ 4294967295) (hb : 0 ≤ b ∧ b ≤ 4294967295) (w : World) : Calls Tryd.prog 47 #[.int .u32 a, .int .u32 b] w fun e w' => e = .returned (.tuple #[.int .u32 (a * b % 4294967296), .int .u32 (a * b / 4294967296)]) ∧ w = w' := by
  have hab := mul_bd h hb
  go_enter Tryd.func47, Tryd.ntmps47
  go_wp2
  go_ret2
  exact ⟨rfl, rfl⟩
theorem rmulS_any (a b : Int) (w : World) : Calls Tryd.prog 48 #[.int .u32 a, .int .u32 b] w fun e w' => e = .returned (.tuple #[.int .u32 (wrap32 a * wrap32 b % 4294967296), .int .u32 (wrap32 a * wrap32 b / 4294967296 % 4294967296)]) ∧ w = w' := by
  have h1 := bd32 a
  have h2 := bd32 b
  have hab := mul_sbd h1 h2
  have hu := u64_bd (wrap32 a * wrap32 b)
  go_enter Tryd.func48, Tryd.ntmps48
  go_wp2_with (first | (go_at_call 53; refine (rsign_any _ _).mono ?_; rintro e w' ⟨rfl, rfl⟩))
  go_ret2
  exact ⟨ret_ii rfl (wrap64_high _), rfl⟩
theorem rword_any (a : Option Addr) (len cap : Nat) (zs : List Int) (w : World) (h : Row8 w a len zs) : Calls Tryd.prog 36 #[.slice a len cap] w fun e w' => e = .returned (.int .u32 (wordS zs)) ∧ Below w.heap.size w w' := by
  obtain ⟨rfl, hz, h3⟩ := h
  go_enter Tryd.func36, Tryd.ntmps36
  go_wp2
  go_loop [3, 4] (fun t i => ∃ k : Nat, k ≤ 4 ∧ k ≤ zs.length ∧ i = .int .i64 k ∧ t = .int .u32 (wordS (zs.take k))) (fun _ i => 4 - (intOf i).toNat)
  case atStart => exact ⟨0, by omega, by omega, rfl, rfl⟩
  case round =>
    obtain ⟨k, hk, hk2, rfl, rfl⟩ := hrel
    by_cases hlt : k < 4 ∧ k < zs.length
    · rcases h3 with rfl | ⟨b, off, rfl, hlt2, hc⟩
      · simp at hlt
      · have hcell := hc k hlt.2
        have bk := getD_bd hz k
        have hsn := wordS_snoc hz k hlt.2 hlt.1
        clear hc
        generalize zs.getD k 0 = z at *
        have hor := or_byte _ z k hlt.1 hsn.2 bk
        have Hsn := Lib.hid hsn
        have Hor := Lib.hid hor
        clear hsn hor
        go_wp2
        go_round
        case rel => exact ⟨k + 1, by omega, by omega, by go_num, by rw [Hor.out, Hsn.out.1]⟩
        case measure => simp [intOf]; omega
    · go_wp2
      all_goals (go_ret; exact ⟨ret_int (by rw [wordS_take zs k (by omega)]), Below.refl _ _⟩)
end Go.Proofs.YtbalnlodkiejcaaDoor
