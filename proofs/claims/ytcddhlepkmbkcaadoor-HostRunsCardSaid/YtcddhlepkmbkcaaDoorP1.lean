/- The host's own calls: registers, the place, bytes. -/
import Derived.Test.YtcddhlepkmbkcaaDoorP0
import Derived.Test.YtcddhlepkmbkcaaDoorS2
namespace Go.Proofs.YtcddhlepkmbkcaaDoor
open Go.RowKit
set_option linter.unusedVariables false
set_option linter.unusedSimpArgs false
set_option linter.unusedSectionVars false

abbrev hp (B : Nat) : Value := .pointer (some ⟨B, 0, none⟩)
def getX (s : St) (i : Int) : Int := if 0 < i ∧ i < 32 then s.x i else 0
theorem X_any {B : Nat} {s : St} {w : World} (h : HAt w B s) (i : Int) : Calls Tryd.prog 27 #[hp B, .int .i64 i] w fun e w' => e = .returned (.int .u32 (getX s i)) ∧ w = w' := by
  unfold getX
  by_cases hi : 0 < i ∧ i < 32
  · obtain ⟨k, rfl⟩ := Int.eq_ofNat_of_zero_le (show 0 ≤ i by omega)
    rw [if_pos hi]
    have hk : k < 32 := by omega
    have hc := h.x k hk
    have hr := fun w => (isReg_any k w)
    rw [show (decide (0 < (k : Int)) && decide ((k : Int) < 32)) = true by simpa using hi] at hr
    go_enter Tryd.func27, Tryd.ntmps27
    go_wp2_with (first | (go_at_call 47; refine (hr _).mono ?_; rintro e w' ⟨rfl, rfl⟩))
    all_goals (go_ret; exact ⟨rfl, rfl⟩)
  · rw [if_neg hi]
    have hd : (decide (0 < i) && decide (i < 32)) = false := by simpa using hi
    have hr := fun w => (isReg_any i w)
    rw [hd] at hr
    go_enter Tryd.func27, Tryd.ntmps27
    go_wp2_with (first | (go_at_call 47; refine (hr _).mono ?_; rintro e w' ⟨rfl, rfl⟩))
    all_goals (go_ret; exact ⟨rfl, rfl⟩)
theorem PC_any {B : Nat} {s : St} {w : World} (h : HAt w B s) : Calls Tryd.prog 29 #[hp B] w fun e w' => e = .returned (.int .u32 s.pc) ∧ w = w' := by
  have hc := h.pc
  go_enter Tryd.func29, Tryd.ntmps29
  go_wp2
  go_ret
  exact ⟨rfl, rfl⟩
theorem Why_any {B : Nat} {s : St} {w : World} (h : HAt w B s) : Calls Tryd.prog 30 #[hp B] w fun e w' => e = .returned (.int .u32 s.why) ∧ w = w' := by
  have hc := h.why
  go_enter Tryd.func30, Tryd.ntmps30
  go_wp2
  go_ret
  exact ⟨rfl, rfl⟩
theorem SetPC_any {B : Nat} {s : St} {w : World} (h : HAt w B s) (v : Int) (hv : 0 ≤ v ∧ v ≤ 4294967295) : Calls Tryd.prog 34 #[hp B, .int .u32 v] w fun e w' => e = .returned (.tuple #[]) ∧ w.setCell ⟨B, 32, none⟩ (.int .u32 v) = w' := by
  have hc := h.pc
  have hf := h.fr 32
  go_enter Tryd.func34, Tryd.ntmps34
  go_wp2
  exact bodyPost_end (v := .tuple #[]) (by simp [results, Tryd.results34, go_sem]) rfl ⟨rfl, rfl⟩
def setS (s : St) (i v : Int) : St := { s with x := setX s.x i v }
theorem setX_out {x : Int → Int} {i v : Int} (h : ¬ (0 < i ∧ i < 32)) : setX x i v = x := by funext j; unfold setX; rw [if_neg (by omega)]
theorem SetX_any {B : Nat} {s : St} {w : World} (h : HAt w B s) (i v : Int) (hv : 0 ≤ v ∧ v ≤ 4294967295) :
    Calls Tryd.prog 22 #[hp B, .int .i64 i, .int .u32 v] w fun e w' => e = .returned (.tuple #[]) ∧ HAt w' B (setS s i v) ∧ But [B] w.heap.size w w' := by
  by_cases hi : 0 < i ∧ i < 32
  · obtain ⟨k, rfl⟩ := Int.eq_ofNat_of_zero_le (show 0 ≤ i by omega)
    have hk : k < 32 := by omega
    have hc := h.x k hk
    have hf := h.fr k
    have hr := fun w => (isReg_any k w)
    rw [show (decide (0 < (k : Int)) && decide ((k : Int) < 32)) = true by simpa using hi] at hr
    go_enter Tryd.func22, Tryd.ntmps22
    go_wp2_with (first | (go_at_call 47; refine (hr _).mono ?_; rintro e w' ⟨rfl, rfl⟩))
    all_goals (exact bodyPost_end (v := .tuple #[]) (by simp [results, Tryd.results22, go_sem]) rfl ⟨rfl, h.set_x k (by omega) hk hv, (But.refl _ _ _).setCell (by simp) _⟩)
  · have hd : (decide (0 < i) && decide (i < 32)) = false := by simpa using hi
    have hr := fun w => (isReg_any i w)
    rw [hd] at hr
    have hs : setS s i v = s := by unfold setS; rw [setX_out hi]
    rw [hs]
    go_enter Tryd.func22, Tryd.ntmps22
    go_wp2_with (first | (go_at_call 47; refine (hr _).mono ?_; rintro e w' ⟨rfl, rfl⟩))
    all_goals (exact bodyPost_end (v := .tuple #[]) (by simp [results, Tryd.results22, go_sem]) rfl ⟨rfl, h, But.refl _ _ _⟩)
theorem row_m {B : Nat} {s : St} {w : World} (h : HAt w B s) (a n : Nat) (hn : a + n ≤ 32768) : Row8 w (some ⟨B, 34 + a, none⟩) n (bytesM s.m a n) := by
  refine ⟨by simp [bytesM], bytesM_bd h.ok.m _ _, .inr ⟨B, 34 + a, rfl, h.lt, fun i hi => ?_⟩⟩
  have := h.m (a + i) (by omega)
  rw [show 34 + a + i = 34 + (a + i) by omega, this]
  simp [bytesM, hi]
theorem fits_nat {a n : Int} (h : fitsL a n = true) : (n = 1 ∨ n = 2 ∨ n = 4) ∧ a ≤ 32768 - n := by
  unfold fitsL at h
  simp at h
  omega
set_option maxRecDepth 8000 in
theorem cut_lh (B A N : Nat) (hle : A + N ≤ 32768) (h0 : 0 < N) (W : World) : (Instr.sliceAt 72 (.pointer (some ⟨B, 34, none⟩)) (some (.int .u32 (A : Int))) (some (.int .u32 ((A : Int) + N))) none).run Tryd.prog W = .ok (.slice (some ⟨B, 34 + A, none⟩) N (32768 - A)) W := by
  have hl : Tryd.prog.arrayLen 72 = 32768 := by kernel_rfl
  have hs : (sizeOf (Tryd.prog.elem 72)).run Tryd.prog W = .ok 1 W := by kernel_rfl
  rw [run_sliceAt_array_lh W _ _ (by kernel_rfl) _ _ _ _ (by omega) (by omega) (by rw [hl]; omega), hs, hl]
  have e : ((A : Int)).toNat = A := by omega
  have e2 : ((A : Int) + N).toNat = A + N := by omega
  simp only [Result.andThen, slicedAt, e, e2]
  rw [if_neg (by omega)]
  simp [Addr.add]
set_option maxRecDepth 8000 in
theorem cut_l (B A : Nat) (hle : A < 32768) (W : World) : (Instr.sliceAt 72 (.pointer (some ⟨B, 34, none⟩)) (some (.int .u32 (A : Int))) none none).run Tryd.prog W = .ok (.slice (some ⟨B, 34 + A, none⟩) (32768 - A) (32768 - A)) W := by
  have hl : Tryd.prog.arrayLen 72 = 32768 := by kernel_rfl
  have hs : (sizeOf (Tryd.prog.elem 72)).run Tryd.prog W = .ok 1 W := by kernel_rfl
  rw [run_sliceAt_array_l W _ _ (by kernel_rfl) _ _ (by omega) (by rw [hl]; omega), hs, hl]
  have e : ((A : Int)).toNat = A := by omega
  simp only [Result.andThen, slicedAt, e]
  rw [if_neg (by omega)]
  simp [Addr.add]
theorem cut4 (B N : Nat) (hle : N ≤ 4) (W : World) : (Instr.sliceAt 70 (.pointer (some ⟨B, 0, none⟩)) none (some (.int .i64 (N : Int))) none).run Tryd.prog W = .ok (.slice (some ⟨B, 0, none⟩) N 4) W := by
  have hl : Tryd.prog.arrayLen 70 = 4 := by kernel_rfl
  have hs : (sizeOf (Tryd.prog.elem 70)).run Tryd.prog W = .ok 1 W := by kernel_rfl
  rw [run_sliceAt_array_h W _ _ (by kernel_rfl) _ _ (by omega) (by rw [hl]; omega), hs, hl]
  have e : ((N : Int)).toNat = N := by omega
  simp only [Result.andThen, slicedAt, e]
  rw [if_neg (by omega)]
  simp [Addr.add]
theorem Load_yes {B : Nat} {s : St} {w : World} (h : HAt w B s) (a n : Int) (ha : 0 ≤ a ∧ a ≤ 4294967295) (hf : fitsL a n = true) :
    Calls Tryd.prog 25 #[hp B, .int .u32 a, .int .i64 n] w fun e w' => e = .returned (.tuple #[.int .u32 (wordM s.m a n), .bool true]) ∧ Below w.heap.size w w' := by
  obtain ⟨hn, hle⟩ := fits_nat hf
  obtain ⟨A, rfl⟩ := Int.eq_ofNat_of_zero_le ha.1
  obtain ⟨N, rfl⟩ := Int.eq_ofNat_of_zero_le (show 0 ≤ n by omega)
  have hr := row_m h A N (by omega)
  have hp := fun w => isPlace_any A N ha w
  rw [hf] at hp
  have hw : wordM s.m (A : Int) (N : Int) = wordS (bytesM s.m A N) := by unfold wordM; rw [Int.toNat_natCast]
  rw [hw]
  clear hf hw
  have hcut := cut_lh B A N (by omega) (by omega)
  have hword := fun w h => word_any (some ⟨B, 34 + A, none⟩) N (32768 - A) (bytesM s.m A N) w h
  go_enter Tryd.func25, Tryd.ntmps25
  set_option maxRecDepth 8000 in
  go_wp2_with (first | (go_at_call 35; refine (hp _).mono ?_; rintro e w' ⟨rfl, rfl⟩) | (refine (hword _ hr).mono ?_; rintro e w' ⟨rfl, hb⟩))
  all_goals (go_ret2; exact ⟨rfl, hb⟩)
theorem Load_no {B : Nat} {s : St} {w : World} (h : HAt w B s) (a n : Int) (ha : 0 ≤ a ∧ a ≤ 4294967295) (hf : fitsL a n = false) :
    Calls Tryd.prog 25 #[hp B, .int .u32 a, .int .i64 n] w fun e w' => e = .returned (.tuple #[.int .u32 0, .bool false]) ∧ w = w' := by
  have hp := fun w => isPlace_any a n ha w
  rw [hf] at hp
  clear hf
  go_enter Tryd.func25, Tryd.ntmps25
  go_wp2_with (first | (go_at_call 35; refine (hp _).mono ?_; rintro e w' ⟨rfl, rfl⟩))
  all_goals (go_ret2; exact ⟨rfl, rfl⟩)
end Go.Proofs.YtcddhlepkmbkcaaDoor
