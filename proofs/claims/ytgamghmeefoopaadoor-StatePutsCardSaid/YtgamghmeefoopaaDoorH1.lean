/- The host in memory: made, stored into, loaded from. -/
import Derived.Test.YtgamghmeefoopaaDoorH0
import Derived.Test.YtgamghmeefoopaaDoorLaid
import Derived.Laws.CopyRow
import Derived.Lib.Hide
namespace Go.Proofs.YtgamghmeefoopaaDoor
open Go.RowKit
set_option linter.unusedVariables false
set_option linter.unusedSimpArgs false
set_option linter.unusedSectionVars false
/-- Registers, the place, what Why tells, bytes. -/
structure St where
  x : Int → Int
  pc : Int
  why : Int
  m : Int → Int
structure St.ok (s : St) : Prop where
  x : ∀ i, 0 ≤ s.x i ∧ s.x i ≤ 4294967295
  x0 : s.x 0 = 0
  pc : 0 ≤ s.pc ∧ s.pc ≤ 4294967295
  why : 0 ≤ s.why ∧ s.why ≤ 4294967295
  m : ∀ i, 0 ≤ s.m i ∧ s.m i ≤ 255
def storeM (m : Int → Int) (at_ n v : Int) : Int → Int := fun k => if at_ ≤ k ∧ k < at_ + n then v / 256 ^ (k - at_).toNat % 256 else m k
def bytesM (m : Int → Int) (at_ : Int) (n : Nat) : List Int := (List.range n).map fun (i : Nat) => m (at_ + (i : Int))
def wordM (m : Int → Int) (at_ n : Int) : Int := wordS (bytesM m at_ n.toNat)
def fitsL (at_ n : Int) : Bool := (n == 1 || n == 2 || n == 4) && decide (at_ % n = 0) && decide (at_ ≤ 32768 - n)
structure Cells (cs : Array Value) (s : St) : Prop where
  size : cs.size = 32802
  x : ∀ i : Nat, i < 32 → cs[i]? = some (.int .u32 (s.x i))
  pc : cs[32]? = some (.int .u32 s.pc)
  why : cs[33]? = some (.int .u32 s.why)
  m : ∀ i : Nat, i < 32768 → cs[34 + i]? = some (.int .u8 (s.m i))
structure HAt (w : World) (B : Nat) (s : St) : Prop where
  gl : 1 ≤ B
  blk : ∃ cs, w.heap[B]? = some (.cells cs 71 (0, 0)) ∧ Cells cs s
  ok : s.ok
theorem HAt.lt {w : World} {B : Nat} {s : St} (h : HAt w B s) : B < w.heap.size := by
  obtain ⟨cs, hc, -⟩ := h.blk
  exact (Array.getElem?_eq_some_iff.1 hc).1
theorem HAt.but {S : List Nat} {w w' : World} {B n : Nat} {s : St} (h : HAt w B s) (hb : But S n w w') (hn : B < n) (hS : B ∉ S) : HAt w' B s := by
  obtain ⟨cs, hc, hcs⟩ := h.blk
  exact ⟨h.gl, ⟨cs, (hb.block B hn hS).trans hc, hcs⟩, h.ok⟩
theorem HAt.below {w w' : World} {B n : Nat} {s : St} (h : HAt w B s) (hb : Below n w w') (hn : B < n) : HAt w' B s := h.but (But.of hb []) hn (by simp)
theorem HAt.alloc {w : World} {B : Nat} {s : St} (h : HAt w B s) (o : Obj) : HAt (w.alloc o) B s := h.below ((Below.refl w.heap.size w).alloc (Nat.le_refl _) o) h.lt
theorem HAt.drew {w : World} {B : Nat} {s : St} (h : HAt w B s) : HAt w.drew B s := ⟨h.gl, h.blk, h.ok⟩
theorem HAt.fr {w : World} {B : Nat} {s : St} (h : HAt w B s) (i : Nat) : w.frozen? ⟨B, i, none⟩ = false := by
  obtain ⟨cs, hc, -⟩ := h.blk
  simp only [World.frozen?, hc]; simp
theorem HAt.cell {w : World} {B : Nat} {s : St} (h : HAt w B s) {i : Nat} {v : Value} (hv : ∀ cs, Cells cs s → cs[i]? = some v) : w.cell? ⟨B, i, none⟩ = some v := by
  obtain ⟨cs, hc, hcs⟩ := h.blk
  simp only [World.cell?, hc]; simpa using hv cs hcs
theorem HAt.x {w : World} {B : Nat} {s : St} (h : HAt w B s) (i : Nat) (hi : i < 32) : w.cell? ⟨B, i, none⟩ = some (.int .u32 (s.x i)) := h.cell fun _ c => c.x i hi
theorem HAt.pc {w : World} {B : Nat} {s : St} (h : HAt w B s) : w.cell? ⟨B, 32, none⟩ = some (.int .u32 s.pc) := h.cell fun _ c => c.pc
theorem HAt.why {w : World} {B : Nat} {s : St} (h : HAt w B s) : w.cell? ⟨B, 33, none⟩ = some (.int .u32 s.why) := h.cell fun _ c => c.why
theorem HAt.m {w : World} {B : Nat} {s : St} (h : HAt w B s) (i : Nat) (hi : i < 32768) : w.cell? ⟨B, 34 + i, none⟩ = some (.int .u8 (s.m i)) := h.cell fun _ c => c.m i hi
theorem storeM_bd {m : Int → Int} {at_ n v : Int} (hm : ∀ j, 0 ≤ m j ∧ m j ≤ 255) (j : Int) : 0 ≤ storeM m at_ n v j ∧ storeM m at_ n v j ≤ 255 := by
  unfold storeM; split
  · omega
  · exact hm j
theorem ok_m {s : St} (h : s.ok) (a n v : Int) : ({ s with m := storeM s.m a n v } : St).ok := ⟨h.x, h.x0, h.pc, h.why, storeM_bd h.m⟩
theorem wordM_1 (m : Int → Int) (a : Int) : wordM m a 1 = m a := by
  simp [wordM, bytesM, wordS, List.range_succ, show Int.toNat 1 = 1 from rfl]
theorem wordM_2 (m : Int → Int) (a : Int) : wordM m a 2 = m a + m (a + 1) * 256 := by
  simp [wordM, bytesM, wordS, List.range_succ, show Int.toNat 2 = 2 from rfl]
theorem wordM_4 (m : Int → Int) (a : Int) : wordM m a 4 = m a + m (a + 1) * 256 + m (a + 2) * 65536 + m (a + 3) * 16777216 := by
  simp [wordM, bytesM, wordS, List.range_succ, show Int.toNat 4 = 4 from rfl]
theorem wordS_bd {zs : List Int} (hz : ∀ z ∈ zs, 0 ≤ z ∧ z ≤ 255) : 0 ≤ wordS zs ∧ wordS zs ≤ 4294967295 := by
  have g0 := getD_bd hz 0
  have g1 := getD_bd hz 1
  have g2 := getD_bd hz 2
  have g3 := getD_bd hz 3
  unfold wordS; omega
theorem bytesM_bd {m : Int → Int} (h : ∀ i, 0 ≤ m i ∧ m i ≤ 255) (a : Int) (n : Nat) : ∀ z ∈ bytesM m a n, 0 ≤ z ∧ z ≤ 255 := by
  intro z hz
  obtain ⟨i, -, rfl⟩ := List.mem_map.1 hz
  exact h _
theorem wordM_bd {m : Int → Int} (h : ∀ i, 0 ≤ m i ∧ m i ≤ 255) (a n : Int) : 0 ≤ wordM m a n ∧ wordM m a n ≤ 4294967295 := wordS_bd (bytesM_bd h a _)
theorem storeM_in {m : Int → Int} {a n v : Int} (j : Nat) (h : (j : Int) < n) : storeM m a n v (a + j) = v / 256 ^ j % 256 := by
  unfold storeM
  rw [if_pos (by omega), show (a + (j : Int) - a).toNat = j by omega]
theorem storeM_out {m : Int → Int} {a n v k : Int} (h : k < a ∨ a + n ≤ k) : storeM m a n v k = m k := by
  unfold storeM
  rw [if_neg (by omega)]
theorem load_store {m : Int → Int} {a v : Int} (hv : 0 ≤ v ∧ v ≤ 4294967295) : wordM (storeM m a 4 v) a 4 = v := by
  have h0 := storeM_in (m := m) (a := a) (n := 4) (v := v) 0 (by decide)
  have h1 := storeM_in (m := m) (a := a) (n := 4) (v := v) 1 (by decide)
  have h2 := storeM_in (m := m) (a := a) (n := 4) (v := v) 2 (by decide)
  have h3 := storeM_in (m := m) (a := a) (n := 4) (v := v) 3 (by decide)
  rw [show a + ((0 : Nat) : Int) = a by omega] at h0
  rw [show a + ((1 : Nat) : Int) = a + 1 by omega] at h1
  rw [show a + ((2 : Nat) : Int) = a + 2 by omega] at h2
  rw [show a + ((3 : Nat) : Int) = a + 3 by omega] at h3
  rw [wordM_4, h0, h1, h2, h3]
  simp only [Int.pow_zero, Int.pow_one, show (256 : Int) ^ 2 = 65536 by decide, show (256 : Int) ^ 3 = 16777216 by decide]
  omega
theorem load_other {m : Int → Int} {a b v : Int} (h : b + 4 ≤ a ∨ a + 4 ≤ b) : wordM (storeM m a 4 v) b 4 = wordM m b 4 := by
  rw [wordM_4, wordM_4, storeM_out (by omega), storeM_out (by omega), storeM_out (by omega), storeM_out (by omega)]
theorem fits_1 (a : Int) : fitsL a 1 = decide (a ≤ 32767) := by
  unfold fitsL; simp
theorem fits_2 (a : Int) : fitsL a 2 = (decide (a % 2 = 0) && decide (a ≤ 32766)) := by
  unfold fitsL; simp
theorem fits_4 (a : Int) : fitsL a 4 = (decide (a % 4 = 0) && decide (a ≤ 32764)) := by
  unfold fitsL; simp
theorem fits_no {a n : Int} (h1 : ¬ n = 1) (h2 : ¬ n = 2) (h4 : ¬ n = 4) : fitsL a n = false := by
  unfold fitsL; simp [h1, h2, h4]
theorem isPlace_any (a n : Int) (ha : 0 ≤ a ∧ a ≤ 4294967295) (w : World) : Calls Tryd.prog 39 #[.int .u32 a, .int .i64 n] w fun e w' => e = .returned (.bool (fitsL a n)) ∧ w = w' := by
  rcases (by omega : n = 1 ∨ n = 2 ∨ n = 4 ∨ (¬ n = 1 ∧ ¬ n = 2 ∧ ¬ n = 4)) with rfl | rfl | rfl | ⟨h1, h2, h4⟩
  · rw [fits_1]
    go_enter Tryd.func39, Tryd.ntmps39
    go_wp2
    all_goals (go_ret; refine ⟨ret_bool ?_, rfl⟩; first | (simp_all; done) | (simp_all; omega) | (simp; omega))
  · rw [fits_2]
    go_enter Tryd.func39, Tryd.ntmps39
    go_wp2
    all_goals (go_ret; refine ⟨ret_bool ?_, rfl⟩; first | (simp_all; done) | (simp_all; omega) | (simp; omega))
  · rw [fits_4]
    go_enter Tryd.func39, Tryd.ntmps39
    go_wp2
    all_goals (go_ret; refine ⟨ret_bool ?_, rfl⟩; first | (simp_all; done) | (simp_all; omega) | (simp; omega))
  · rw [fits_no h1 h2 h4]
    go_enter Tryd.func39, Tryd.ntmps39
    go_wp2
    all_goals (go_ret; refine ⟨ret_bool ?_, rfl⟩; first | (simp_all; done) | (simp_all; omega) | (simp; omega))
abbrev hp (B : Nat) : Value := .pointer (some ⟨B, 0, none⟩)
theorem row_m {B : Nat} {s : St} {w : World} (h : HAt w B s) (a n : Nat) (hn : a + n ≤ 32768) : Row8 w (some ⟨B, 34 + a, none⟩) n (bytesM s.m a n) := by
  refine ⟨by simp [bytesM], bytesM_bd h.ok.m _ _, .inr ⟨B, 34 + a, rfl, h.lt, fun i hi => ?_⟩⟩
  have := h.m (a + i) (by omega)
  rw [show 34 + a + i = 34 + (a + i) by omega, this]
  simp [bytesM, hi]
theorem fits_nat {a n : Int} (h : fitsL a n = true) : (n = 1 ∨ n = 2 ∨ n = 4) ∧ a ≤ 32768 - n := by
  unfold fitsL at h
  simp at h
  omega
set_option maxRecDepth 8000 in
theorem cut_lh (B A N : Nat) (hle : A + N ≤ 32768) (h0 : 0 < N) (W : World) : (Instr.sliceAt 69 (.pointer (some ⟨B, 34, none⟩)) (some (.int .u32 (A : Int))) (some (.int .u32 ((A : Int) + N))) none).run Tryd.prog W = .ok (.slice (some ⟨B, 34 + A, none⟩) N (32768 - A)) W := by
  have hl : Tryd.prog.arrayLen 69 = 32768 := by kernel_rfl
  have hs : (sizeOf (Tryd.prog.elem 69)).run Tryd.prog W = .ok 1 W := by kernel_rfl
  rw [run_sliceAt_array_lh W _ _ (by kernel_rfl) _ _ _ _ (by omega) (by omega) (by rw [hl]; omega), hs, hl]
  have e : ((A : Int)).toNat = A := by omega
  have e2 : ((A : Int) + N).toNat = A + N := by omega
  simp only [Result.andThen, slicedAt, e, e2]
  rw [if_neg (by omega)]
  simp [Addr.add]
set_option maxRecDepth 8000 in
theorem cut_l (B A : Nat) (hle : A < 32768) (W : World) : (Instr.sliceAt 69 (.pointer (some ⟨B, 34, none⟩)) (some (.int .u32 (A : Int))) none none).run Tryd.prog W = .ok (.slice (some ⟨B, 34 + A, none⟩) (32768 - A) (32768 - A)) W := by
  have hl : Tryd.prog.arrayLen 69 = 32768 := by kernel_rfl
  have hs : (sizeOf (Tryd.prog.elem 69)).run Tryd.prog W = .ok 1 W := by kernel_rfl
  rw [run_sliceAt_array_l W _ _ (by kernel_rfl) _ _ (by omega) (by rw [hl]; omega), hs, hl]
  have e : ((A : Int)).toNat = A := by omega
  simp only [Result.andThen, slicedAt, e]
  rw [if_neg (by omega)]
  simp [Addr.add]
theorem cut4 (B N : Nat) (hle : N ≤ 4) (W : World) : (Instr.sliceAt 56 (.pointer (some ⟨B, 0, none⟩)) none (some (.int .i64 (N : Int))) none).run Tryd.prog W = .ok (.slice (some ⟨B, 0, none⟩) N 4) W := by
  have hl : Tryd.prog.arrayLen 56 = 4 := by kernel_rfl
  have hs : (sizeOf (Tryd.prog.elem 56)).run Tryd.prog W = .ok 1 W := by kernel_rfl
  rw [run_sliceAt_array_h W _ _ (by kernel_rfl) _ _ (by omega) (by rw [hl]; omega), hs, hl]
  have e : ((N : Int)).toNat = N := by omega
  simp only [Result.andThen, slicedAt, e]
  rw [if_neg (by omega)]
  simp [Addr.add]
theorem Load_yes {B : Nat} {s : St} {w : World} (h : HAt w B s) (a n : Int) (ha : 0 ≤ a ∧ a ≤ 4294967295) (hf : fitsL a n = true) :
    Calls Tryd.prog 24 #[hp B, .int .u32 a, .int .i64 n] w fun e w' => e = .returned (.tuple #[.int .u32 (wordM s.m a n), .bool true]) ∧ Below w.heap.size w w' := by
  obtain ⟨hn, hle⟩ := fits_nat hf
  obtain ⟨A, rfl⟩ := Int.eq_ofNat_of_zero_le ha.1
  obtain ⟨N, rfl⟩ := Int.eq_ofNat_of_zero_le (show 0 ≤ n by omega)
  have hr := row_m h A N (by omega)
  have hp := fun w => isPlace_any A N ha w
  rw [hf] at hp
  have hw : wordM s.m (A : Int) (N : Int) = wordS (bytesM s.m A N) := by unfold wordM; rw [Int.toNat_natCast]
  rw [hw]
  clear hf hw
  have hcut := cut_lh B A N (by omega) (by omega)
  have hword := fun w h => word_any (some ⟨B, 34 + A, none⟩) N (32768 - A) (bytesM s.m A N) w h
  go_enter Tryd.func24, Tryd.ntmps24
  set_option maxRecDepth 8000 in
  go_wp2_with (first | (go_at_call 39; refine (hp _).mono ?_; rintro e w' ⟨rfl, rfl⟩) | (refine (hword _ hr).mono ?_; rintro e w' ⟨rfl, hb⟩))
  all_goals (go_ret2; exact ⟨rfl, hb⟩)
theorem Load_no {B : Nat} {s : St} {w : World} (h : HAt w B s) (a n : Int) (ha : 0 ≤ a ∧ a ≤ 4294967295) (hf : fitsL a n = false) :
    Calls Tryd.prog 24 #[hp B, .int .u32 a, .int .i64 n] w fun e w' => e = .returned (.tuple #[.int .u32 0, .bool false]) ∧ w = w' := by
  have hp := fun w => isPlace_any a n ha w
  rw [hf] at hp
  clear hf
  go_enter Tryd.func24, Tryd.ntmps24
  go_wp2_with (first | (go_at_call 39; refine (hp _).mono ?_; rintro e w' ⟨rfl, rfl⟩))
  all_goals (go_ret2; exact ⟨rfl, rfl⟩)
def storeS (s : St) (a n v : Int) : St := { s with m := storeM s.m a n v }
def bytes4 (v : Int) : List Value := [.int .u8 (v % 256), .int .u8 (v / 256 % 256), .int .u8 (v / 65536 % 256), .int .u8 (v / 16777216)]
theorem bytes4_at (v : Int) (hv : 0 ≤ v ∧ v ≤ 4294967295) (j : Nat) (hj : j < 4) : (bytes4 v)[j]? = some (.int .u8 (v / 256 ^ j % 256)) := by
  rcases (by omega : j = 0 ∨ j = 1 ∨ j = 2 ∨ j = 3) with rfl | rfl | rfl | rfl
  · simp [bytes4]
  · simp [bytes4]
  · simp [bytes4, show (256 : Int) ^ 2 = 65536 by decide]
  · simp [bytes4, show (256 : Int) ^ 3 = 16777216 by decide]; omega
abbrev rowAt (cs : Array Value) (A N : Nat) (v : Int) : Array Value := (cs.toList.take (34 + A) ++ (bytes4 v).take N ++ cs.toList.drop (34 + A + ((bytes4 v).take N).length)).toArray
theorem cells_copy {cs : Array Value} {s : St} (c : Cells cs s) (A N : Nat) (hN : N ≤ 4) (hle : A + N ≤ 32768) (v : Int) (hv : 0 ≤ v ∧ v ≤ 4294967295) : Cells (rowAt cs A N v) (storeS s A N v) := by
  have hl : ((bytes4 v).take N).length = N := by simp [bytes4]; omega
  have e := splice_at cs (34 + A) ((bytes4 v).take N) (by rw [hl, c.size]; omega)
  rw [hl] at e
  unfold rowAt
  rw [hl]
  refine ⟨?_, fun i hi => ?_, ?_, ?_, fun i hi => ?_⟩
  · simp [hl, c.size, bytes4]; omega
  · rw [e, if_pos (by omega)]; exact c.x i hi
  · rw [e, if_pos (by omega)]; exact c.pc
  · rw [e, if_pos (by omega)]; exact c.why
  · rw [e]
    by_cases h1 : i < A
    · rw [if_pos (by omega)]; dsimp only [storeS]; rw [storeM_out (by omega)]; exact c.m i hi
    · rw [if_neg (by omega)]
      by_cases h2 : i < A + N
      · rw [if_pos (by omega), List.getElem?_take, if_pos (by omega), bytes4_at v hv _ (by omega)]
        dsimp only [storeS]
        have := storeM_in (m := s.m) (a := A) (n := N) (v := v) (34 + i - (34 + A)) (by omega)
        rw [← this, show (A : Int) + ((34 + i - (34 + A) : Nat) : Int) = i by omega]
      · rw [if_neg (by omega)]; dsimp only [storeS]; rw [storeM_out (by omega)]; exact c.m i hi
set_option maxRecDepth 8000 in
theorem Store_yes {B : Nat} {s : St} {w : World} (h : HAt w B s) (a n v : Int) (ha : 0 ≤ a ∧ a ≤ 4294967295) (hv : 0 ≤ v ∧ v ≤ 4294967295) (hf : fitsL a n = true) :
    Calls Tryd.prog 22 #[hp B, .int .u32 a, .int .i64 n, .int .u32 v] w fun e w' => e = .returned (.bool true) ∧ HAt w' B (storeS s a n v) ∧ But [B] w.heap.size w w' := by
  obtain ⟨hn, hle⟩ := fits_nat hf
  obtain ⟨A, rfl⟩ := Int.eq_ofNat_of_zero_le ha.1
  obtain ⟨N, rfl⟩ := Int.eq_ofNat_of_zero_le (show 0 ≤ n by omega)
  have hp := fun w => isPlace_any A N ha w
  rw [hf] at hp
  clear hf
  have hcut := cut_l B A (by omega)
  have hcut4 := fun b => cut4 b N (by omega)
  obtain ⟨cs, hblk, hcs⟩ := h.blk
  have hB := h.lt
  have hX : ∀ o : Obj, ((w.alloc o).alloc o).drew.heap[B]? = some (.cells cs 71 (0, 0)) := fun o => by
    show ((w.alloc o).alloc o).heap[B]? = _
    rw [Below.heap_alloc _ _ _ (by simp; omega), Below.heap_alloc _ _ _ hB]; exact hblk
  have hl : ((bytes4 v).take N).length = N := by simp [bytes4]; omega
  have hcopy := run_copy_row (P := Tryd.prog) ((w.alloc (.cells #[.int .u8 (v % 256), .int .u8 (v / 256 % 256), .int .u8 (v / 65536 % 256), .int .u8 (v / 16777216)] 56)).alloc (.cells #[.int .u8 (v % 256), .int .u8 (v / 256 % 256), .int .u8 (v / 65536 % 256), .int .u8 (v / 16777216)] 56)).drew
    49 49 3 5 B (34 + A) (32768 - A) (32768 - A) ⟨w.heap.size + 1, 0, none⟩ N 4 cs 71 ((bytes4 v).take N) (by kernel_rfl) (by kernel_rfl) (hX _) (by rw [hl]; exact (Nat.min_eq_left (by omega)).symm)
    (fun j x hj => by
      have hj4 : j < 4 := by
        have := (List.getElem?_eq_some_iff.1 hj).1
        rw [hl] at this; omega
      have hjN : j < N := by
        have := (List.getElem?_eq_some_iff.1 hj).1
        rw [hl] at this; omega
      rw [List.getElem?_take, if_pos hjN] at hj
      rw [World.cell?_drew, show (⟨w.heap.size + 1, 0, none⟩ : Addr).add j = ⟨w.heap.size + 1, j, none⟩ by simp [Addr.add]; omega]
      have := World.cell?_alloc_new (w := w.alloc (.cells #[.int .u8 (v % 256), .int .u8 (v / 256 % 256), .int .u8 (v / 65536 % 256), .int .u8 (v / 16777216)] 56)) #[.int .u8 (v % 256), .int .u8 (v / 256 % 256), .int .u8 (v / 65536 % 256), .int .u8 (v / 16777216)] 56 j
      rw [World.size_alloc] at this
      rw [this, ← hj]
      simp [bytes4]) (by rw [hl, hcs.size]; omega) (fun x hx => by
        have := List.mem_of_mem_take hx
        simp only [bytes4, List.mem_cons, List.not_mem_nil, or_false] at this
        rcases this with rfl | rfl | rfl | rfl <;> rfl)
  have hres : HAt (((w.alloc (.cells #[.int .u8 (v % 256), .int .u8 (v / 256 % 256), .int .u8 (v / 65536 % 256), .int .u8 (v / 16777216)] 56)).alloc (.cells #[.int .u8 (v % 256), .int .u8 (v / 256 % 256), .int .u8 (v / 65536 % 256), .int .u8 (v / 16777216)] 56)).drew.setRow B (rowAt cs A N v)) B (storeS s A N v) :=
    ⟨h.gl, ⟨_, setRow_heap _ _ _ _ _ _ (hX _), cells_copy hcs A N (by omega) (by omega) v hv⟩, ok_m h.ok _ _ _⟩
  generalize hrow : rowAt cs A N v = row at hres
  unfold rowAt at hrow
  rw [hrow] at hcopy
  clear hrow
  have hbut : But [B] w.heap.size w (((w.alloc (.cells #[.int .u8 (v % 256), .int .u8 (v / 256 % 256), .int .u8 (v / 65536 % 256), .int .u8 (v / 16777216)] 56)).alloc (.cells #[.int .u8 (v % 256), .int .u8 (v / 256 % 256), .int .u8 (v / 65536 % 256), .int .u8 (v / 16777216)] 56)).drew.setRow B row) :=
    ((((But.refl [B] w.heap.size w).alloc (Nat.le_refl _) _).alloc (by simp) _).drew).setRow (by simp) _
  go_enter Tryd.func22, Tryd.ntmps22
  go_wp2_with (first | (go_at_call 39; refine (hp _).mono ?_; rintro e w' ⟨rfl, rfl⟩) | (go_at_call 28; refine (bytes_any _ hv _).mono ?_; rintro e w' ⟨rfl, rfl⟩))
  go_region
  go_wp2
  go_ret
  exact ⟨rfl, hres, hbut⟩
theorem Store_no {B : Nat} {s : St} {w : World} (h : HAt w B s) (a n v : Int) (ha : 0 ≤ a ∧ a ≤ 4294967295) (hf : fitsL a n = false) :
    Calls Tryd.prog 22 #[hp B, .int .u32 a, .int .i64 n, .int .u32 v] w fun e w' => e = .returned (.bool false) ∧ w = w' := by
  have hp := fun w => isPlace_any a n ha w
  rw [hf] at hp
  clear hf
  go_enter Tryd.func22, Tryd.ntmps22
  go_wp2_with (first | (go_at_call 39; refine (hp _).mono ?_; rintro e w' ⟨rfl, rfl⟩))
  all_goals (go_ret; exact ⟨rfl, rfl⟩)
def allK (k : IntKind) : List Value → Bool
  | [] => true
  | v :: l => (match v with | .int k' n => k' == k && n == 0 | _ => false) && allK k l
theorem allK_at {k : IntKind} : ∀ {l : List Value}, allK k l = true → ∀ i, i < l.length → l[i]? = some (.int k 0)
  | [], _, i, hi => by simp at hi
  | v :: l, h, i, hi => by
    unfold allK at h
    rw [Bool.and_eq_true] at h
    cases i with
    | zero =>
      cases v <;> simp at h
      simp [h.1.1, h.1.2]
    | succ i => simpa using allK_at h.2 i (by simpa using hi)
def chkH : Option Value → Bool
  | some (.agg cs) => cs.size == 32802 && (allK .u32 (cs.toList.take 34) && allK .u8 (cs.toList.drop 34))
  | _ => false
def zcells (P : Program) (t : TypeId) : Array Value := match (P.info? t).bind (·.zero) with | some (.agg cs) => cs | _ => #[]
theorem chk_host : chkH (some (.agg (zcells Tryd.prog 71))) = true := by kernel_rfl
theorem chk_out {cs : Array Value} (h : chkH (some (.agg cs)) = true) : cs.size = 32802 ∧ (∀ i : Nat, i < 34 → cs[i]? = some (.int .u32 0)) ∧ (∀ i : Nat, i < 32768 → cs[34 + i]? = some (.int .u8 0)) := by
  unfold chkH at h
  simp only [Bool.and_eq_true, beq_iff_eq] at h
  obtain ⟨h1, h2, h3⟩ := h
  refine ⟨h1, fun i hi => ?_, fun i hi => ?_⟩
  · have := allK_at h2 i (by simp [h1]; omega)
    simpa [List.getElem?_take, hi] using this
  · have := allK_at h3 i (by simp [h1]; omega)
    simpa [List.getElem?_drop] using this
theorem zero_host : ∃ Z : Array Value, (∀ w, (zeroValue 71).run Tryd.prog w = .ok (.agg Z) w) ∧ (Z.size = 32802 ∧ (∀ i : Nat, i < 34 → Z[i]? = some (.int .u32 0)) ∧ (∀ i : Nat, i < 32768 → Z[34 + i]? = some (.int .u8 0))) :=
  ⟨zcells Tryd.prog 71, fun w => by kernel_rfl, chk_out chk_host⟩
/-- A new host. -/
def newS : St := ⟨fun _ => 0, 1024, 0, fun _ => 0⟩
theorem newS_ok : newS.ok := ⟨fun _ => by simp [newS], rfl, by simp [newS], by simp [newS], fun _ => by simp [newS]⟩
theorem New_any (w : World) (tabs : Tabs w) : Calls Tryd.prog 20 #[] w fun e w' => e = .returned (hp w.heap.size) ∧ HAt w' w.heap.size newS ∧ Below w.heap.size w w' := by
  obtain ⟨Z, hz, h1, h2, h3⟩ := zero_host
  have hx : HAt (w.alloc (.cells (Z.setIfInBounds 32 (.int .u32 1024)) 71)) w.heap.size newS := by
    have e := fun j => set_at (cs := Z) (i := 32) (j := j) (v := .int .u32 1024) (by rw [h1]; decide)
    refine ⟨tabs.1, ⟨Z.setIfInBounds 32 (.int .u32 1024), alloc_new _ _, ⟨by rw [Array.size_setIfInBounds, h1], fun i hi => ?_, by rw [e, if_pos rfl]; rfl, by rw [e, if_neg (by decide)]; exact h2 33 (by decide), fun i hi => by rw [e, if_neg (by omega)]; exact h3 i hi⟩⟩, newS_ok⟩
    rw [e, if_neg (by omega)]
    exact h2 i (by omega)
  have kx : Below w.heap.size w (w.alloc (.cells (Z.setIfInBounds 32 (.int .u32 1024)) 71)) := (Below.refl _ _).alloc (Nat.le_refl _) _
  clear h2 h3
  go_enter Tryd.func20, Tryd.ntmps20
  go_wp2_with fail
  go_ret
  exact ⟨rfl, hx, kx⟩

/-- Since w0 nothing below B has turned; the host lies at B. -/
structure At (w0 w : World) (B : Nat) (s : St) : Prop where
  h : HAt w B s
  k : But [B] B w0 w
  t : Tabs w
theorem At.but {w0 w w' : World} {B : Nat} {s s' : St} (a : At w0 w B s) (h : HAt w' B s') (k : But [B] w.heap.size w w') : At w0 w' B s' :=
  ⟨h, a.k.trans (k.mono (Nat.le_of_lt a.h.lt) (by simp)), a.t.but k (by simpa using a.h.gl)⟩
theorem At.below {w0 w w' : World} {B : Nat} {s : St} (a : At w0 w B s) (k : Below w.heap.size w w') : At w0 w' B s :=
  a.but (a.h.below k a.h.lt) (But.of k _)
theorem At.done {w w' : World} {B : Nat} {s : St} (a : At w w' B s) : Below B w w' := a.k.below (Nat.le_refl _) (by simp)
theorem At.drew {w0 w : World} {B : Nat} {s : St} (a : At w0 w B s) : At w0 w.drew B s := ⟨a.h.drew, a.k.drew, a.t⟩
theorem At.alloc {w0 w : World} {B : Nat} {s : St} (a : At w0 w B s) (o : Obj) : At w0 (w.alloc o) B s := a.below ((Below.refl _ _).alloc (Nat.le_refl _) o)
theorem aNew (w : World) (tabs : Tabs w) : Calls Tryd.prog 20 #[] w fun e w' => e = .returned (hp w.heap.size) ∧ At w w' w.heap.size newS :=
  (New_any w tabs).mono fun e w' h => ⟨h.1, h.2.1, But.of h.2.2 _, tabs.below h.2.2⟩
theorem aStore {w0 w : World} {B : Nat} {s : St} (a : At w0 w B s) (p n v : Int) (ha : 0 ≤ p ∧ p ≤ 4294967295) (hv : 0 ≤ v ∧ v ≤ 4294967295) (hf : fitsL p n = true) :
    Calls Tryd.prog 22 #[hp B, .int .u32 p, .int .i64 n, .int .u32 v] w fun e w' => e = .returned (.bool true) ∧ At w0 w' B (storeS s p n v) :=
  (Store_yes a.h p n v ha hv hf).mono fun e w' h => ⟨h.1, a.but h.2.1 h.2.2⟩
theorem aLoad {w0 w : World} {B : Nat} {s : St} (a : At w0 w B s) (p n v : Int) (ha : 0 ≤ p ∧ p ≤ 4294967295) (hf : fitsL p n = true) (hv : wordM s.m p n = v) :
    Calls Tryd.prog 24 #[hp B, .int .u32 p, .int .i64 n] w fun e w' => e = .returned (.tuple #[.int .u32 v, .bool true]) ∧ At w0 w' B s :=
  (Load_yes a.h p n ha hf).mono fun e w' h => ⟨hv ▸ h.1, a.below h.2⟩
end Go.Proofs.YtgamghmeefoopaaDoor
