import Derived.Test.YtbnocincfecmpaaDoorT1
import Derived.Test.YtbnocincfecmpaaDoorC2
import Derived.Laws.IdiomStrings
import Derived.Deep.WholeRow
namespace Go.Proofs.YtbnocincfecmpaaDoor
open Go.RowKit
set_option linter.unusedVariables false
set_option linter.unusedSimpArgs false
set_option linter.unusedSectionVars false

theorem hidT {p : Prop} (h : p) : RowKit.Hid p := h
theorem conv1 (w : World) (x : Int) (hx : 0 ≤ x ∧ x ≤ 255) : Sem.run Tryd.prog (convert 30 9 (.slice (some ⟨w.heap.size, 0, none⟩) 1 1)) (w.alloc (.cells #[.int .u8 x] 5)) = .ok (.string (bs [UInt8.ofNat x.toNat])) (w.alloc (.cells #[.int .u8 x] 5)) := by
  rw [run_convert_bytes_string _ _ _ 5 _ _ _ (by kernel_rfl) (by kernel_rfl) (by kernel_rfl)]
  have hld := run_loadCells_list (P := Tryd.prog) (w.alloc (.cells #[.int .u8 x] 5)) ⟨w.heap.size, 0, none⟩ [.int .u8 x] (fun j v hj => by
    cases j with
    | zero =>
      have := own_cell (Below.refl (w.alloc (.cells #[.int .u8 x] 5)).heap.size (w.alloc (.cells #[.int .u8 x] 5))) 0 _ rfl
      simp at hj
      rw [← hj]
      exact this
    | succ j => simp at hj)
  have hld : Sem.run Tryd.prog (loadCells ⟨w.heap.size, 0, none⟩ 1) (w.alloc (.cells #[.int .u8 x] 5)) = .ok #[.int .u8 x] (w.alloc (.cells #[.int .u8 x] 5)) := hld
  rw [run_bytesToString _ _ _ _ [x] hld]
  rfl
/-- The last digit, as a byte. -/
def dg8 (v : Nat) : UInt8 := UInt8.ofNat (48 + v % 10)
theorem dec_lo {v : Nat} (h : v < 10) : Lib.decDigits v = [dg8 v] := by
  rw [Lib.decDigits_one h]
  unfold dg8
  rw [Nat.mod_eq_of_lt h]
theorem dec_hi {v : Nat} (h : ¬ v < 10) : Lib.decDigits v = Lib.decDigits (v / 10) ++ [dg8 v] := by
  rw [Lib.decDigits, dif_neg h]
  rfl
theorem dig_pos (n : Nat) (hn : (n : Int) ≤ 9223372036854775807) (w : World) :
    Calls Tryd.prog 49 #[.int .i64 n] w fun e w' => e = .returned (.string (bs (Lib.itoa n))) ∧ Below w.heap.size w w' := by
  have hcv := conv1
  have hdn := hidT (Lib.itoa_nonneg n)
  go_enter Tryd.func49, Tryd.ntmps49
  go_wp2_with fail
  go_loopw [0, 4] (fun nn ss W => ∃ (v : Nat) (l : List UInt8), nn = .int .i64 v ∧ ss = .string (bs l) ∧ Lib.decDigits n = Lib.decDigits v ++ l ∧ v ≤ n ∧ l.length + Lib.nDigits v ≤ 20 ∧ Below w.heap.size w W) (fun nn _ _ => (intOf nn).toNat)
  case atStart => exact ⟨n, [], rfl, rfl, by simp, Nat.le_refl _, by simpa using Lib.nDigits_le20 n (by omega), Below.refl _ _⟩
  case round =>
    obtain ⟨v, l, rfl, rfl, hd, hv, hl, hb⟩ := hrel
    have hd' := hidT hd
    clear hd
    have hs := bs_size l
    have hp := Lib.nDigits_pos v
    have hs1 := bs_size [dg8 v]
    have hap := bs_append [dg8 v] l
    have hs2 := bs_size ([dg8 v] ++ l)
    have hcx : ∀ w : World, Sem.run Tryd.prog (convert 30 9 (.slice (some ⟨w.heap.size, 0, none⟩) 1 1)) (w.alloc (.cells #[.int .u8 (48 + (v : Int) % 10)] 5)) = .ok (.string (bs [dg8 v])) (w.alloc (.cells #[.int .u8 (48 + (v : Int) % 10)] 5)) := fun w => by
      have := conv1 w (48 + (v : Int) % 10) (by omega)
      rw [show (48 + (v : Int) % 10).toNat = 48 + v % 10 by omega] at this
      exact this
    have hap2 : (⟨#[]⟩ : ByteArray) ++ bs ([dg8 v] ++ l) = bs ([dg8 v] ++ l) := bs_append [] _
    have hlen : ([dg8 v] ++ l).length = l.length + 1 := by simp
    rw [hlen] at hs2
    clear hcv hlen
    obtain ⟨L2, hL2⟩ : ∃ L2, L2 = [dg8 v] ++ l := ⟨_, rfl⟩
    rw [← hL2] at hs2 hap hap2
    have hL2' := hidT hL2
    clear hL2
    go_wp2_with fail
    · have h9 : v < 10 := by have h := (by assumption : ((v : Int) / 10 == 0) = true); simp at h; omega
      go_ret
      refine ⟨?_, hb.alloc hb.size _⟩
      rw [hdn.out, hd'.out, dec_lo h9, ← hL2'.out]
      rfl
    · have h10 : ¬ v < 10 := by have h := (by assumption : ((v : Int) / 10 == 0) = false); simp at h; omega
      have hnd := Lib.nDigits_big h10
      have e1 := hL2'.out
      refine ⟨⟨v / 10, L2, by simp, rfl, ?_, by omega, ?_, hb.alloc hb.size _⟩, by simp [intOf]; omega⟩
      · rw [hd'.out, dec_hi h10, hL2'.out, List.append_assoc]
      · have := congrArg List.length e1
        simp at this
        omega
set_option maxHeartbeats 1000000 in
theorem dig_neg (n : Nat) (h1 : 1 ≤ n) (hn : (n : Int) ≤ 9223372036854775807) (w : World) :
    Calls Tryd.prog 49 #[.int .i64 (-(n : Int))] w fun e w' => e = .returned (.string (bs (Lib.itoa (-(n : Int))))) ∧ Below w.heap.size w w' := by
  have hcv := conv1
  have hdn := hidT (Lib.itoa_neg n h1)
  go_enter Tryd.func49, Tryd.ntmps49
  go_wp2_with fail
  go_loopw [0, 4] (fun nn ss W => ∃ (v : Nat) (l : List UInt8), nn = .int .i64 (-(v : Int)) ∧ ss = .string (bs l) ∧ Lib.decDigits n = Lib.decDigits v ++ l ∧ v ≤ n ∧ l.length + Lib.nDigits v ≤ 20 ∧ Below w.heap.size w W) (fun nn _ _ => (-(intOf nn)).toNat)
  case atStart => exact ⟨n, [], rfl, rfl, by simp, Nat.le_refl _, by simpa using Lib.nDigits_le20 n (by omega), Below.refl _ _⟩
  case round =>
    obtain ⟨v, l, rfl, rfl, hd, hv, hl, hb⟩ := hrel
    have hd' := hidT hd
    clear hd
    have hs := bs_size l
    have hp := Lib.nDigits_pos v
    have hs1 := bs_size [dg8 v]
    have hap := bs_append [dg8 v] l
    have hs2 := bs_size ([dg8 v] ++ l)
    have hcx : ∀ w : World, Sem.run Tryd.prog (convert 30 9 (.slice (some ⟨w.heap.size, 0, none⟩) 1 1)) (w.alloc (.cells #[.int .u8 (48 + (v : Int) % 10)] 5)) = .ok (.string (bs [dg8 v])) (w.alloc (.cells #[.int .u8 (48 + (v : Int) % 10)] 5)) := fun w => by
      have := conv1 w (48 + (v : Int) % 10) (by omega)
      rw [show (48 + (v : Int) % 10).toNat = 48 + v % 10 by omega] at this
      exact this
    have hap2 : (⟨#[45]⟩ : ByteArray) ++ bs ([dg8 v] ++ l) = bs (45 :: ([dg8 v] ++ l)) := bs_append [45] _
    have hlen : ([dg8 v] ++ l).length = l.length + 1 := by simp
    rw [hlen] at hs2
    clear hcv hlen
    obtain ⟨L2, hL2⟩ : ∃ L2, L2 = [dg8 v] ++ l := ⟨_, rfl⟩
    rw [← hL2] at hs2 hap hap2
    have hL2' := hidT hL2
    clear hL2
    by_cases hz : v % 10 = 0
    · have hcy : ∀ w : World, Sem.run Tryd.prog (convert 30 9 (.slice (some ⟨w.heap.size, 0, none⟩) 1 1)) (w.alloc (.cells #[.int .u8 (48 + -((v : Int) % 10))] 5)) = .ok (.string (bs [dg8 v])) (w.alloc (.cells #[.int .u8 (48 + -((v : Int) % 10))] 5)) := fun w => by
        have := hcx w
        rw [show (48 + (v : Int) % 10) = 48 + -((v : Int) % 10) by omega] at this
        exact this
      have hz' : (v : Int) % 10 ≤ 0 := by omega
      clear hcx hz
      go_wp2_with fail
      · have h9 : v < 10 := by have h := (by assumption : (-((v : Int) / 10) == 0) = true); simp at h; omega
        go_ret
        refine ⟨?_, hb.alloc hb.size _⟩
        rw [hdn.out, hd'.out, dec_lo h9, ← hL2'.out]
        rfl
      · have h10 : ¬ v < 10 := by have h := (by assumption : (-((v : Int) / 10) == 0) = false); simp at h; omega
        have hnd := Lib.nDigits_big h10
        have e1 := hL2'.out
        refine ⟨⟨v / 10, L2, by simp, rfl, ?_, by omega, ?_, hb.alloc hb.size _⟩, by simp [intOf]; omega⟩
        · rw [hd'.out, dec_hi h10, hL2'.out, List.append_assoc]
        · have := congrArg List.length e1
          simp at this
          omega
    · have hz' : 0 < (v : Int) % 10 := by omega
      clear hz
      go_wp2_with fail
      · have h9 : v < 10 := by have h := (by assumption : (-((v : Int) / 10) == 0) = true); simp at h; omega
        go_ret
        refine ⟨?_, hb.alloc hb.size _⟩
        rw [hdn.out, hd'.out, dec_lo h9, ← hL2'.out]
        rfl
      · have h10 : ¬ v < 10 := by have h := (by assumption : (-((v : Int) / 10) == 0) = false); simp at h; omega
        have hnd := Lib.nDigits_big h10
        have e1 := hL2'.out
        refine ⟨⟨v / 10, L2, by simp, rfl, ?_, by omega, ?_, hb.alloc hb.size _⟩, by simp [intOf]; omega⟩
        · rw [hd'.out, dec_hi h10, hL2'.out, List.append_assoc]
        · have := congrArg List.length e1
          simp at this
          omega
theorem digits_any (n : Int) (h0 : -9223372036854775808 < n) (h1 : n ≤ 9223372036854775807) (w : World) :
    Calls Tryd.prog 49 #[.int .i64 n] w fun e w' => e = .returned (.string (bs (Lib.itoa n))) ∧ Below w.heap.size w w' := by
  by_cases h : 0 ≤ n
  · obtain ⟨k, rfl⟩ := Int.eq_ofNat_of_zero_le h
    exact dig_pos k (by omega) w
  · obtain ⟨k, rfl⟩ : ∃ k : Nat, n = -(k : Int) := ⟨n.natAbs, by omega⟩
    exact dig_neg k (by omega) (by omega) w
end Go.Proofs.YtbnocincfecmpaaDoor
