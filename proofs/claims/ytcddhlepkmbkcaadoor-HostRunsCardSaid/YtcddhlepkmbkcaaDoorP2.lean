/- The host stores; what can't be, panics. -/
import Derived.Test.YtcddhlepkmbkcaaDoorP1
namespace Go.Proofs.YtcddhlepkmbkcaaDoor
open Go.RowKit
set_option linter.unusedVariables false
set_option linter.unusedSimpArgs false
set_option linter.unusedSectionVars false

def storeS (s : St) (a n v : Int) : St := { s with m := storeM s.m a n v }
def bytes4 (v : Int) : List Value := [.int .u8 (v % 256), .int .u8 (v / 256 % 256), .int .u8 (v / 65536 % 256), .int .u8 (v / 16777216)]
theorem splice_at (cs : Array Value) (o : Nat) (l : List Value) (h : o + l.length ≤ cs.size) (j : Nat) :
    ((cs.toList.take o ++ l ++ cs.toList.drop (o + l.length)).toArray)[j]? = if j < o then cs[j]? else if j < o + l.length then l[j - o]? else cs[j]? := by
  have ho : min o cs.size = o := by omega
  by_cases h1 : j < o
  · rw [if_pos h1]; simp [List.getElem?_append, List.getElem?_take, h1, ho, show j < o + l.length by omega]
  · rw [if_neg h1]
    by_cases h2 : j < o + l.length
    · rw [if_pos h2]; simp [List.getElem?_append, List.getElem?_take, h1, h2, ho]; intro hh; omega
    · rw [if_neg h2]; simp [List.getElem?_append, List.getElem?_take, h1, h2, ho]
      rw [if_neg (by omega), show o + l.length + (j - o - l.length) = j by omega]
theorem bytes4_at (v : Int) (hv : 0 ≤ v ∧ v ≤ 4294967295) (j : Nat) (hj : j < 4) : (bytes4 v)[j]? = some (.int .u8 (v / 256 ^ j % 256)) := by
  rcases (by omega : j = 0 ∨ j = 1 ∨ j = 2 ∨ j = 3) with rfl | rfl | rfl | rfl
  · simp [bytes4]
  · simp [bytes4]
  · simp [bytes4, show (256 : Int) ^ 2 = 65536 by decide]
  · simp [bytes4, show (256 : Int) ^ 3 = 16777216 by decide]; omega
abbrev rowAt (cs : Array Value) (A N : Nat) (v : Int) : Array Value := (cs.toList.take (34 + A) ++ (bytes4 v).take N ++ cs.toList.drop (34 + A + ((bytes4 v).take N).length)).toArray
theorem cells_copy {cs : Array Value} {s : St} (c : Cells cs s) (A N : Nat) (hN : N ≤ 4) (hle : A + N ≤ 32768) (v : Int) (hv : 0 ≤ v ∧ v ≤ 4294967295) : Cells (rowAt cs A N v) (storeS s A N v) := by
  have hl : ((bytes4 v).take N).length = N := by simp [bytes4]; omega
  have e := splice_at cs (34 + A) ((bytes4 v).take N) (by rw [hl, c.size]; omega)
  rw [hl] at e
  unfold rowAt
  rw [hl]
  refine ⟨?_, fun i hi => ?_, ?_, ?_, fun i hi => ?_⟩
  · simp [hl, c.size, bytes4]; omega
  · rw [e, if_pos (by omega)]; exact c.x i hi
  · rw [e, if_pos (by omega)]; exact c.pc
  · rw [e, if_pos (by omega)]; exact c.why
  · rw [e]
    by_cases h1 : i < A
    · rw [if_pos (by omega)]; dsimp only [storeS]; rw [storeM_out (by omega)]; exact c.m i hi
    · rw [if_neg (by omega)]
      by_cases h2 : i < A + N
      · rw [if_pos (by omega), List.getElem?_take, if_pos (by omega), bytes4_at v hv _ (by omega)]
        dsimp only [storeS]
        have := storeM_in (m := s.m) (a := A) (n := N) (v := v) (34 + i - (34 + A)) (by omega)
        rw [← this, show (A : Int) + ((34 + i - (34 + A) : Nat) : Int) = i by omega]
      · rw [if_neg (by omega)]; dsimp only [storeS]; rw [storeM_out (by omega)]; exact c.m i hi
set_option maxRecDepth 8000 in
theorem Store_yes {B : Nat} {s : St} {w : World} (h : HAt w B s) (a n v : Int) (ha : 0 ≤ a ∧ a ≤ 4294967295) (hv : 0 ≤ v ∧ v ≤ 4294967295) (hf : fitsL a n = true) :
    Calls Tryd.prog 13 #[hp B, .int .u32 a, .int .i64 n, .int .u32 v] w fun e w' => e = .returned (.bool true) ∧ HAt w' B (storeS s a n v) ∧ But [B] w.heap.size w w' := by
  obtain ⟨hn, hle⟩ := fits_nat hf
  obtain ⟨A, rfl⟩ := Int.eq_ofNat_of_zero_le ha.1
  obtain ⟨N, rfl⟩ := Int.eq_ofNat_of_zero_le (show 0 ≤ n by omega)
  have hp := fun w => isPlace_any A N ha w
  rw [hf] at hp
  clear hf
  have hcut := cut_l B A (by omega)
  have hcut4 := fun b => cut4 b N (by omega)
  obtain ⟨cs, hblk, hcs⟩ := h.blk
  have hB := h.lt
  have hX : ∀ o : Obj, ((w.alloc o).alloc o).drew.heap[B]? = some (.cells cs 74 (0, 0)) := fun o => by
    show ((w.alloc o).alloc o).heap[B]? = _
    rw [Below.heap_alloc _ _ _ (by simp; omega), Below.heap_alloc _ _ _ hB]; exact hblk
  have hl : ((bytes4 v).take N).length = N := by simp [bytes4]; omega
  have hcopy := run_copy_row (P := Tryd.prog) ((w.alloc (.cells #[.int .u8 (v % 256), .int .u8 (v / 256 % 256), .int .u8 (v / 65536 % 256), .int .u8 (v / 16777216)] 70)).alloc (.cells #[.int .u8 (v % 256), .int .u8 (v / 256 % 256), .int .u8 (v / 65536 % 256), .int .u8 (v / 16777216)] 70)).drew
    65 65 3 5 B (34 + A) (32768 - A) (32768 - A) ⟨w.heap.size + 1, 0, none⟩ N 4 cs 74 ((bytes4 v).take N) (by kernel_rfl) (by kernel_rfl) (hX _) (by rw [hl]; exact (Nat.min_eq_left (by omega)).symm)
    (fun j x hj => by
      have hj4 : j < 4 := by
        have := (List.getElem?_eq_some_iff.1 hj).1
        rw [hl] at this; omega
      have hjN : j < N := by
        have := (List.getElem?_eq_some_iff.1 hj).1
        rw [hl] at this; omega
      rw [List.getElem?_take, if_pos hjN] at hj
      rw [World.cell?_drew, show (⟨w.heap.size + 1, 0, none⟩ : Addr).add j = ⟨w.heap.size + 1, j, none⟩ by simp [Addr.add]; omega]
      have := World.cell?_alloc_new (w := w.alloc (.cells #[.int .u8 (v % 256), .int .u8 (v / 256 % 256), .int .u8 (v / 65536 % 256), .int .u8 (v / 16777216)] 70)) #[.int .u8 (v % 256), .int .u8 (v / 256 % 256), .int .u8 (v / 65536 % 256), .int .u8 (v / 16777216)] 70 j
      rw [World.size_alloc] at this
      rw [this, ← hj]
      simp [bytes4]) (by rw [hl, hcs.size]; omega) (fun x hx => by
        have := List.mem_of_mem_take hx
        simp only [bytes4, List.mem_cons, List.not_mem_nil, or_false] at this
        rcases this with rfl | rfl | rfl | rfl <;> rfl)
  have hres : HAt (((w.alloc (.cells #[.int .u8 (v % 256), .int .u8 (v / 256 % 256), .int .u8 (v / 65536 % 256), .int .u8 (v / 16777216)] 70)).alloc (.cells #[.int .u8 (v % 256), .int .u8 (v / 256 % 256), .int .u8 (v / 65536 % 256), .int .u8 (v / 16777216)] 70)).drew.setRow B (rowAt cs A N v)) B (storeS s A N v) :=
    ⟨h.gl, ⟨_, setRow_heap _ _ _ _ _ _ (hX _), cells_copy hcs A N (by omega) (by omega) v hv⟩, ok_m h.ok _ _ _⟩
  generalize hrow : rowAt cs A N v = row at hres
  unfold rowAt at hrow
  rw [hrow] at hcopy
  clear hrow
  have hbut : But [B] w.heap.size w (((w.alloc (.cells #[.int .u8 (v % 256), .int .u8 (v / 256 % 256), .int .u8 (v / 65536 % 256), .int .u8 (v / 16777216)] 70)).alloc (.cells #[.int .u8 (v % 256), .int .u8 (v / 256 % 256), .int .u8 (v / 65536 % 256), .int .u8 (v / 16777216)] 70)).drew.setRow B row) :=
    ((((But.refl [B] w.heap.size w).alloc (Nat.le_refl _) _).alloc (by simp) _).drew).setRow (by simp) _
  go_enter Tryd.func13, Tryd.ntmps13
  go_wp2_with (first | (go_at_call 35; refine (hp _).mono ?_; rintro e w' ⟨rfl, rfl⟩) | (go_at_call 36; refine (bytes_any _ hv _).mono ?_; rintro e w' ⟨rfl, rfl⟩))
  go_region
  go_wp2
  go_ret
  exact ⟨rfl, hres, hbut⟩
theorem Store_no {B : Nat} {s : St} {w : World} (h : HAt w B s) (a n v : Int) (ha : 0 ≤ a ∧ a ≤ 4294967295) (hf : fitsL a n = false) :
    Calls Tryd.prog 13 #[hp B, .int .u32 a, .int .i64 n, .int .u32 v] w fun e w' => e = .returned (.bool false) ∧ w = w' := by
  have hp := fun w => isPlace_any a n ha w
  rw [hf] at hp
  clear hf
  go_enter Tryd.func13, Tryd.ntmps13
  go_wp2_with (first | (go_at_call 35; refine (hp _).mono ?_; rintro e w' ⟨rfl, rfl⟩))
  all_goals (go_ret; exact ⟨rfl, rfl⟩)
/-- What a step that stops panics with. -/
abbrev haltP (k a : Int) : List PanicEntry := [{ v := .iface 76 (.agg #[.int .i64 k, .int .u32 a]), recovered := false }]
theorem target_yes (a : Int) (ha : 0 ≤ a ∧ a ≤ 4294967295) (h : a % 4 = 0) (w : World) : Calls Tryd.prog 55 #[.int .u32 a] w fun e w' => e = .returned (.int .u32 a) ∧ w = w' := by
  go_enter Tryd.func55, Tryd.ntmps55
  go_wp2
  all_goals (go_ret; exact ⟨rfl, rfl⟩)
theorem target_no (a : Int) (ha : 0 ≤ a ∧ a ≤ 4294967295) (h : ¬ a % 4 = 0) (w : World) : Calls Tryd.prog 55 #[.int .u32 a] w fun e w' => e = .panicked (haltP 5 a) ∧ w = w' := by
  go_enter Tryd.func55, Tryd.ntmps55
  go_wp2
  exact ⟨rfl, rfl, rfl⟩
theorem loaded_yes {B : Nat} {s : St} {w : World} (h : HAt w B s) (k a n : Int) (ha : 0 ≤ a ∧ a ≤ 4294967295) (hf : fitsL a n = true) :
    Calls Tryd.prog 40 #[hp B, .int .i64 k, .int .u32 a, .int .i64 n] w fun e w' => e = .returned (.int .u32 (wordM s.m a n)) ∧ Below w.heap.size w w' := by
  have hl := Load_yes h a n ha hf
  go_enter Tryd.func40, Tryd.ntmps40
  go_wp2_with (first | (refine hl.mono ?_; rintro e w' ⟨rfl, hb⟩))
  go_ret
  exact ⟨rfl, hb⟩
theorem loaded_no {B : Nat} {s : St} {w : World} (h : HAt w B s) (k a n : Int) (ha : 0 ≤ a ∧ a ≤ 4294967295) (hf : fitsL a n = false) :
    Calls Tryd.prog 40 #[hp B, .int .i64 k, .int .u32 a, .int .i64 n] w fun e w' => e = .panicked (haltP k a) ∧ w = w' := by
  have hl := Load_no h a n ha hf
  go_enter Tryd.func40, Tryd.ntmps40
  go_wp2_with (first | (refine hl.mono ?_; rintro e w' ⟨rfl, rfl⟩))
  exact ⟨rfl, rfl, rfl⟩
theorem stored_yes {B : Nat} {s : St} {w : World} (h : HAt w B s) (a n v : Int) (ha : 0 ≤ a ∧ a ≤ 4294967295) (hv : 0 ≤ v ∧ v ≤ 4294967295) (hf : fitsL a n = true) :
    Calls Tryd.prog 59 #[hp B, .int .u32 a, .int .i64 n, .int .u32 v] w fun e w' => e = .returned (.tuple #[]) ∧ HAt w' B (storeS s a n v) ∧ But [B] w.heap.size w w' := by
  have hl := Store_yes h a n v ha hv hf
  go_enter Tryd.func59, Tryd.ntmps59
  go_wp2_with (first | (refine hl.mono ?_; rintro e w' ⟨rfl, hb, hc⟩))
  exact bodyPost_end (v := .tuple #[]) (by simp [results, Tryd.results59, go_sem]) rfl ⟨rfl, hb, hc⟩
theorem stored_no {B : Nat} {s : St} {w : World} (h : HAt w B s) (a n v : Int) (ha : 0 ≤ a ∧ a ≤ 4294967295) (hf : fitsL a n = false) :
    Calls Tryd.prog 59 #[hp B, .int .u32 a, .int .i64 n, .int .u32 v] w fun e w' => e = .panicked (haltP 4 a) ∧ w = w' := by
  have hl := Store_no h a n v ha hf
  go_enter Tryd.func59, Tryd.ntmps59
  go_wp2_with (first | (refine hl.mono ?_; rintro e w' ⟨rfl, rfl⟩))
  exact ⟨rfl, rfl, rfl⟩
end Go.Proofs.YtcddhlepkmbkcaaDoor
