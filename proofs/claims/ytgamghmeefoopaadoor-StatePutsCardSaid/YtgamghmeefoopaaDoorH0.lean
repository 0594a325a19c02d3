/- Contracts of bits and of the document's bits that the host's walks call. -/
import Derived.Test.YtgamghmeefoopaaDoorB3
import Derived.Laws.CopyOwn
namespace Go.Proofs.YtgamghmeefoopaaDoor
open Go.RowKit
set_option linter.unusedVariables false
set_option linter.unusedSimpArgs false
set_option linter.unusedSectionVars false

theorem bytes_any (x : Int) (h : 0 ≤ x ∧ x ≤ 4294967295) (w : World) : Calls Tryd.prog 28 #[.int .u32 x] w fun e w' =>
    e = .returned (.agg #[.int .u8 (x % 256), .int .u8 (x / 256 % 256), .int .u8 (x / 65536 % 256), .int .u8 (x / 16777216)]) ∧
    w.alloc (.cells #[.int .u8 (x % 256), .int .u8 (x / 256 % 256), .int .u8 (x / 65536 % 256), .int .u8 (x / 16777216)] 56) = w' := by
  go_enter Tryd.func28, Tryd.ntmps28
  go_wp2
  exact bodyPost_ret (v := .agg #[.int .u8 (x % 256), .int .u8 (x / 256 % 256), .int .u8 (x / 65536 % 256), .int .u8 (x / 16777216)]) (by simp [results, Tryd.results28, go_sem]) rfl ⟨rfl, rfl⟩
set_option maxRecDepth 8000 in
theorem word_any (a : Option Addr) (len cap : Nat) (zs : List Int) (w : World) (h : Row8 w a len zs) : Calls Tryd.prog 29 #[.slice a len cap] w fun e w' => e = .returned (.int .u32 (wordS zs)) ∧ Below w.heap.size w w' := by
  obtain ⟨rfl, hz, h3⟩ := h
  have b0 := getD_bd hz 0
  have b1 := getD_bd hz 1
  have b2 := getD_bd hz 2
  have b3 := getD_bd hz 3
  have hsp := splice4 zs
  have hw : wordS zs = zs.getD 0 0 + zs.getD 1 0 * 256 + zs.getD 2 0 * 65536 + zs.getD 3 0 * 16777216 := rfl
  generalize zs.getD 0 0 = z0 at hsp hw b0
  generalize zs.getD 1 0 = z1 at hsp hw b1
  generalize zs.getD 2 0 = z2 at hsp hw b2
  generalize zs.getD 3 0 = z3 at hsp hw b3
  have Hsp := Lib.hid hsp
  have Hw := Lib.hid hw
  clear hsp hw
  have hcs : ((zs.take 4).map (Value.int .u8)).length = Nat.min zs.length 4 := by simp [Nat.min_comm]
  go_enter Tryd.func29, Tryd.ntmps29
  go_wp2_with (refine wpList_copy_splice rfl _ _ _ _ rfl 5 rfl (by kernel_rfl) _ _ _ _ _ _ rfl rfl w.heap.size 0 [.int .u8 0, .int .u8 0, .int .u8 0, .int .u8 0] 56 ?hg ((zs.take 4).map (Value.int .u8)) hcs ?hpos ?hfit ?h1 w.heap.size w ?hb ?hBg ?h)
  case hg => exact alloc_new _ _
  case hpos =>
    intro hp
    rcases h3 with rfl | ⟨b, off, rfl, hlt, hc⟩
    · simp at hp
    · refine ⟨_, rfl, fun j v hv => ?_⟩
      have hj : j < 4 ∧ j < zs.length := by
        have := (List.getElem?_eq_some_iff.1 hv).1
        simp at this; omega
      have := hc j hj.2
      rw [List.getD_eq_getElem?_getD, List.getElem?_eq_getElem hj.2, Option.getD_some] at this
      simp [hj.1, hj.2] at hv
      subst hv
      rw [← this]
      rw [show (⟨b, off, none⟩ : Addr).add j = ⟨b, off + j, none⟩ by simp [Addr.add]]
      exact World.cell?_alloc_lt w _ ⟨b, off + j, none⟩ hlt
  case hfit => simp; omega
  case h1 => exact fun v hv => by obtain ⟨z, _, rfl⟩ := List.mem_map.1 hv; rfl
  case hb => exact (Below.refl _ _).alloc (Nat.le_refl _) _
  case hBg => exact Nat.le_refl _
  intro w2 HG hB2
  have HG' := HG.out
  rw [Hsp.out] at HG'
  obtain ⟨c0, c1, c2, c3⟩ := cells4 HG'
  clear HG HG'
  go_wp2
  go_ret
  exact ⟨ret_int ((or_bytes _ _ _ _ b0 b1 b2 b3).trans Hw.out.symm), hB2⟩
end Go.Proofs.YtgamghmeefoopaaDoor
