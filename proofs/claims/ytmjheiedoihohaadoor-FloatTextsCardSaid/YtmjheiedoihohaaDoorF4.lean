import Derived.Test.YtmjheiedoihohaaDoorF3
import Derived.Laws.BytesString
namespace Go.Proofs.YtmjheiedoihohaaDoor
open Go.RowKit
set_option linter.unusedVariables false

def zero65 : Array Value := Array.replicate 65 (.int .u8 0)
theorem zero_run (W : World) : (zeroValue 57).run Tryd.prog W = .ok (.agg zero65) W := by kernel_rfl

theorem tz_any (w : World) (h : w.cell? ⟨4, 15, none⟩ = some (.int .u8 4)) : Calls Tryd.prog 46 #[.int .u64 16] w fun e w' => e = .returned (.int .i64 4) ∧ w = w' := by
  have h1 : IntKind.u64.wrap (-16) = 18446744073709551600 := by decide
  have h2 : bits .and .u64 16 18446744073709551600 = 16 := by decide
  have h3 : IntKind.u64.wrap (16 * 285870213051353865) = 4573923408821661840 := by decide
  go_enter Tryd.func46, Tryd.ntmps46
  go_wp2
  go_ret
  exact ⟨rfl, rfl⟩
theorem tz2_any (w : World) (h : w.cell? ⟨4, 15, none⟩ = some (.int .u8 4)) : Calls Tryd.prog 44 #[.int .u64 16] w fun e w' => e = .returned (.int .i64 4) ∧ w = w' := by
  go_enter Tryd.func44, Tryd.ntmps44
  go_wp2_with (first | (go_at_call 46; refine (tz_any _ h).mono ?_; rintro e w' ⟨rfl, rfl⟩))
  go_ret
  exact ⟨rfl, rfl⟩
theorem pow2_any (w : World) : Calls Tryd.prog 43 #[.int .i64 16] w fun e w' => e = .returned (.bool true) ∧ w = w' := by
  have h2 : bits .and .i64 16 15 = 0 := by decide
  go_enter Tryd.func43, Tryd.ntmps43
  go_wp2
  go_ret
  exact ⟨rfl, rfl⟩
theorem alloc_new (w : World) (o : Obj) : (w.alloc o).heap[w.heap.size]? = some o := by
  show (w.heap.push o)[w.heap.size]? = some o
  simp

def dig (d : Nat) : Nat := if d < 10 then 48 + d else 87 + d
def hexL (m : Nat) : List Nat := if m < 16 then [dig m] else hexL (m / 16) ++ [dig (m % 16)]
termination_by m
def row (W : World) (B : Nat) (cs : List Int) : Prop := W.heap[B]? = some (.cells (cs.map (Value.int .u8)).toArray 57 (0, 0))
theorem row.cell {W : World} {B : Nat} {cs : List Int} (h : row W B cs) (i : Nat) (hi : i < cs.length) : W.cell? ⟨B, i, none⟩ = some (.int .u8 (cs.getD i 0)) := by
  unfold row at h
  simp [World.cell?, h, hi]
theorem row.frozen {W : World} {B : Nat} {cs : List Int} (h : row W B cs) (i : Nat) : W.frozen? ⟨B, i, none⟩ = false := by
  unfold row at h
  simp [World.frozen?, h]
theorem row.set {W : World} {B : Nat} {cs : List Int} (h : row W B cs) (i : Nat) (d : Int) : row (W.setCell ⟨B, i, none⟩ (.int .u8 d)) B (cs.set i d) := by
  unfold row at *
  simp only [World.setCell, Array.getElem?_modify, h]
  simp

def digits36 : ByteArray := ⟨#[48, 49, 50, 51, 52, 53, 54, 55, 56, 57, 97, 98, 99, 100, 101, 102, 103, 104, 105, 106, 107, 108, 109, 110, 111, 112, 113, 114, 115, 116, 117, 118, 119, 120, 121, 122]⟩
theorem dig_fin : ∀ i : Fin 16, (digits36.data.getD i.val 0).toNat = dig i.val := by decide
theorem dig_at (i : Nat) (h : i < 16) (hs : i < digits36.size) : (digits36[i]'hs).toNat = dig i := by
  rw [← dig_fin ⟨i, h⟩]
  show (digits36.data[i]).toNat = _
  rw [Array.getD_eq_getD_getElem?, Array.getElem?_eq_getElem (show i < digits36.data.size from hs)]
  rfl
theorem dig_lit (i : Nat) (h : i < 16) (hs : i < (⟨#[48, 49, 50, 51, 52, 53, 54, 55, 56, 57, 97, 98, 99, 100, 101, 102, 103, 104, 105, 106, 107, 108, 109, 110, 111, 112, 113, 114, 115, 116, 117, 118, 119, 120, 121, 122]⟩ : ByteArray).size) :
    ((⟨#[48, 49, 50, 51, 52, 53, 54, 55, 56, 57, 97, 98, 99, 100, 101, 102, 103, 104, 105, 106, 107, 108, 109, 110, 111, 112, 113, 114, 115, 116, 117, 118, 119, 120, 121, 122]⟩ : ByteArray)[i]'hs).toNat = dig i := dig_at i h hs
def bytesOf (l : List Nat) : ByteArray := ⟨(l.map UInt8.ofNat).toArray⟩
theorem fold_push (ns : List Int) : ∀ s : ByteArray, ns.foldl (fun r n => r.push (UInt8.ofNat n.toNat)) s = ⟨s.data ++ (ns.map fun n => UInt8.ofNat n.toNat).toArray⟩ := by
  induction ns with
  | nil => intro s; simp
  | cons n ns ih =>
    intro s
    rw [List.foldl_cons, ih]
    congr 1
    simp [ByteArray.push]
theorem slice_run (B k : Nat) (h1 : 1 ≤ k) (h2 : k ≤ 65) (W : World) : (Instr.sliceAt 57 (.pointer (some ⟨B, 0, none⟩)) (some (.int .i64 ((k : Int) - 1))) none none).run Tryd.prog W = .ok (.slice (some ⟨B, k - 1, none⟩) (66 - k) (66 - k)) W := by
  have hl : Tryd.prog.arrayLen 57 = 65 := by kernel_rfl
  have hs : (sizeOf (Tryd.prog.elem 57)).run Tryd.prog W = .ok 1 W := by kernel_rfl
  rw [run_sliceAt_array_l W _ _ (by kernel_rfl) _ _ (by omega) (by rw [hl]; omega), hs, hl]
  have e : ((k : Int) - 1).toNat = k - 1 := by omega
  simp only [Result.andThen, slicedAt, e]
  rw [show 65 - (k - 1) = 66 - k by omega, if_neg (by omega)]
  simp [Addr.add]
  omega
theorem conv_run {W : World} {B k : Nat} {cs : List Int} (h : row W B cs) (hl : cs.length = 65) (h1 : 1 ≤ k) (h2 : k ≤ 65) (l : List Nat) (hx : cs.drop (k - 1) = l.map Int.ofNat) :
    (convert 51 9 (.slice (some ⟨B, k - 1, none⟩) (66 - k) (66 - k))).run Tryd.prog W = .ok (.string (bytesOf l)) W := by
  rw [run_convert_bytes_string W _ _ 5 _ _ _ (by kernel_rfl) (by kernel_rfl) (by kernel_rfl)]
  have hn : ((cs.drop (k - 1)).map (Value.int .u8)).length = 66 - k := by simp; omega
  have hld := run_loadCells_list (P := Tryd.prog) W ⟨B, k - 1, none⟩ ((cs.drop (k - 1)).map (Value.int .u8)) (fun j v hj => by
    have hj' : j < cs.length - (k - 1) := by
      rcases Nat.lt_or_ge j (cs.length - (k - 1)) with h | h
      · exact h
      · rw [List.getElem?_eq_none (by simp; omega)] at hj; cases hj
    have hc := h.cell (k - 1 + j) (by omega)
    rw [show (Addr.add ⟨B, k - 1, none⟩ j) = ⟨B, k - 1 + j, none⟩ by simp [Addr.add], hc]
    rw [← hj, List.getElem?_map, List.getElem?_drop, List.getElem?_eq_getElem (by omega)]
    simp [List.getD, show k - 1 + j < cs.length by omega])
  rw [hn] at hld
  rw [run_bytesToString W _ _ _ _ hld, fold_push, hx]
  unfold bytesOf
  simp [Function.comp_def]
theorem and15 (v : Nat) (h : v < 18446744073709551616) : bits .and .u64 v 15 = ((v % 16 : Nat) : Int) := by
  rw [show (15 : Int) = ((15 : Nat) : Int) from rfl, u64_and_nat _ _ h (by decide), show 15 = 2 ^ 4 - 1 from rfl, Nat.and_two_pow_sub_one_eq_mod]
theorem pow16 (k : Nat) (h : k ≤ 65) : 16 ^ (k - 49) ≤ 18446744073709551616 := Nat.le_trans (Nat.pow_le_pow_right (by decide) (show k - 49 ≤ 16 by omega)) (by decide)
theorem drop_set (cs : List Int) (k : Nat) (d : Int) (h1 : 1 ≤ k) (h : k ≤ cs.length) : (cs.set (k - 1) d).drop (k - 1) = d :: cs.drop k := by
  rw [List.drop_set, if_neg (by omega), Nat.sub_self, show cs.drop (k - 1) = cs[k - 1] :: cs.drop k by
    rw [List.drop_eq_getElem_cons (by omega)]; congr 2; omega]
  rfl
theorem hexL_lo {v : Nat} (h : v < 16) : hexL v = [dig v] := by rw [hexL, if_pos h]
theorem hexL_hi {v : Nat} (h : 16 ≤ v) : hexL v = hexL (v / 16) ++ [dig (v % 16)] := by rw [hexL, if_neg (by omega)]

theorem fmtBits_any (u : Nat) (hu : u < 18446744073709551616) (w : World) (tabs : Tabs w) : Calls Tryd.prog 39 #[.slice none 0 0, .int .u64 u, .int .i64 16, .bool false, .bool false] w fun e w' =>
    e = .returned (.tuple #[.slice none 0 0, .string (bytesOf (hexL u))]) ∧ Below w.heap.size w w' := by
  have hz := fun W => zero_run W
  obtain ⟨t0, t1, t2, t3, t4, t5⟩ := tabs
  have hc : (w.alloc (.cells zero65 57)).cell? ⟨4, 15, none⟩ = some (.int .u8 4) := by
    rw [(Below.alloc (Below.refl w.heap.size w) (Nat.le_refl _) _).cell (Nat.lt_of_lt_of_le (by decide) t0)]; exact t5
  have hb : Below w.heap.size w (w.alloc (.cells zero65 57)) := Below.alloc (Below.refl w.heap.size w) (Nat.le_refl _) _
  have hh : (w.alloc (.cells zero65 57)).heap[w.heap.size]? = some (.cells zero65 57 (0, 0)) := alloc_new _ _
  go_enter Tryd.func39, Tryd.ntmps39
  go_wp2_with (first | (go_at_call 43; refine (pow2_any _).mono ?_; rintro e w' ⟨rfl, rfl⟩) | (go_at_call 44; refine (tz2_any _ hc).mono ?_; rintro e w' ⟨rfl, rfl⟩))
  have hr : row (w.alloc (.cells zero65 57)) w.heap.size (List.replicate 65 0) := hh
  clear hh hz hc t0 t1 t2 t3 t4 t5
  generalize (w.alloc (.cells zero65 57)) = W1 at *
  have hB : w.heap.size ≤ w.heap.size := Nat.le_refl _
  revert hB
  generalize hBe : w.heap.size = B at *
  intro hB
  go_loopw [1, 13] (fun uu ii W => ∃ (v k : Nat) (cs : List Int), cs.length = 65 ∧ 50 ≤ k ∧ k ≤ 65 ∧ uu = .int .u64 v ∧ ii = .int .i64 k ∧ Below B w W ∧ row W B cs ∧ v < 16 ^ (k - 49) ∧ (hexL u).map Int.ofNat = (hexL v).map Int.ofNat ++ cs.drop k) (fun _ ii _ => (intOf ii).toNat)
  case atStart => exact ⟨u, 65, _, by simp, by omega, by omega, rfl, rfl, hb, hr, hu, by simp⟩
  case round =>
    obtain ⟨v, k, cs, hl, hk, hk2, rfl, rfl, hbw, hrow, hv, hx⟩ := hrel
    have hand := and15 v (Nat.lt_of_lt_of_le hv (pow16 k hk2))
    have hcell := hrow.cell (k - 1) (by omega)
    have hfr := hrow.frozen (k - 1)
    have hsl := slice_run B k (by omega) hk2
    have hx' := hid hx
    clear hx
    go_wp2
    · have h16 : 16 ≤ v := by omega
      simp only [dig_lit (v % 16) (by omega)]
      have hk51 : 51 ≤ k := by
        rcases Nat.lt_or_ge k 51 with h | h
        · rw [show k - 49 = 1 by omega] at hv; omega
        · exact h
      refine ⟨⟨v / 16, k - 1, cs.set (k - 1) (dig (v % 16)), by simp [hl], by omega, by omega, by simp, by go_num, Below.setCell hbw (by simp) _, hrow.set _ _, ?_, ?_⟩, ?_⟩
      · rw [show k - 49 = k - 1 - 49 + 1 by omega, Nat.pow_succ] at hv
        omega
      · rw [drop_set _ _ _ (by omega) (by omega), hx'.out, hexL_hi h16]
        simp
      · simp [intOf]; omega
    · have h16 : v < 16 := by omega
      simp only [dig_lit v h16]
      have hcv := conv_run (hrow.set (k - 1) (dig v)) (by simp [hl]) (by omega) hk2 (hexL u) (by
        rw [drop_set _ _ _ (by omega) (by omega), hx'.out, hexL_lo h16]
        rfl)
      have hbb := Below.setCell (p := ⟨B, k - 1, none⟩) hbw (by simp) (.int .u8 (dig v))
      generalize wr.setCell ⟨B, k - 1, none⟩ (.int .u8 (dig v)) = W9 at *
      rw [hcv]
      simp only [Result.andThen_ok, Oper.upon]
      go_wp2
      go_ret2
      exact ⟨rfl, by rw [hBe]; exact hbb⟩

theorem fmtI_any (u : Nat) (hu : u < 18446744073709551616) (w : World) (tabs : Tabs w) : Calls Tryd.prog 35 #[.int .u64 u, .int .i64 16] w fun e w' =>
    e = .returned (.string (bytesOf (hexL u))) ∧ Below w.heap.size w w' := by
  go_enter Tryd.func35, Tryd.ntmps35
  go_wp2_with fail
  refine (fmtBits_any u hu _ tabs).mono ?_
  rintro e w' ⟨rfl, hb⟩
  go_wp2_with fail
  go_ret
  exact ⟨rfl, hb⟩
theorem fmt_any (u : Nat) (hu : u < 18446744073709551616) (w : World) (tabs : Tabs w) : Calls Tryd.prog 32 #[.int .u64 u, .int .i64 16] w fun e w' =>
    e = .returned (.string (bytesOf (hexL u))) ∧ Below w.heap.size w w' := by
  go_enter Tryd.func32, Tryd.ntmps32
  go_wp2_with fail
  refine (fmtI_any u hu _ tabs).mono ?_
  rintro e w' ⟨rfl, hb⟩
  go_wp2_with fail
  go_ret
  exact ⟨rfl, hb⟩
def minusN (a : Nat) : ByteArray := ⟨if a < 9223372036854775808 then #[] else #[45]⟩
def textN (a : Nat) : ByteArray :=
  if isNan a then ⟨#[110, 97, 110]⟩
  else minusN a ++ (if kindN a = 3 then (⟨#[105, 110, 102]⟩ : ByteArray) else bytesOf (hexL (absN a)))
theorem hexL_len (k : Nat) : ∀ m, m < 16 ^ (k + 1) → (hexL m).length ≤ k + 1 := by
  induction k with
  | zero => intro m h; rw [hexL_lo (by simpa using h)]; simp
  | succ k ih =>
    intro m h
    rcases Nat.lt_or_ge m 16 with h16 | h16
    · rw [hexL_lo h16]; simp
    · rw [hexL_hi h16, List.length_append]
      have := ih (m / 16) (by rw [Nat.pow_succ] at h; omega)
      simp; omega
theorem bytesOf_size (l : List Nat) : (bytesOf l).size = l.length := by simp [bytesOf, ByteArray.size]
theorem minusN_size (a : Nat) : (minusN a).size ≤ 1 := by unfold minusN; split <;> decide
theorem ret_string {a b : ByteArray} (h : a = b) : Ending.returned (.string a) = .returned (.string b) := by rw [h]
theorem textN_nan {a : Nat} (h : isNan a = true) : textN a = ⟨#[110, 97, 110]⟩ := by unfold textN; rw [if_pos h]
theorem textN_inf {a : Nat} (h : isNan a = false) (h3 : ((kindN a : Int) == 3) = true) : textN a = minusN a ++ ⟨#[105, 110, 102]⟩ := by
  unfold textN; rw [if_neg (by simp [h]), if_pos (by simp at h3; omega)]
theorem textN_fin {a : Nat} (h : isNan a = false) (h3 : ((kindN a : Int) == 3) = false) : textN a = minusN a ++ bytesOf (hexL (absN a)) := by
  unfold textN; rw [if_neg (by simp [h]), if_neg (by simp at h3; omega)]

theorem text_any (a : Nat) (ha : a < 18446744073709551616) (w : World) (tabs : Tabs w) : Calls Tryd.prog 23 #[.int .u64 a] w fun e w' =>
    e = .returned (.string (textN a)) ∧ Below w.heap.size w w' := by
  have hk := kind4 a
  have hm : ∀ w, Calls Tryd.prog 31 #[.int .u64 a] w fun e w' => e = .returned (.string (minusN a)) ∧ w = w' := fun w => minus_any a ha w
  have hms := minusN_size a
  have hl : (bytesOf (hexL (absN a))).size ≤ 16 := by
    rw [bytesOf_size]
    exact hexL_len 15 _ (Nat.lt_trans (absN_lt a) (by decide))
  have hf : ∀ w, Tabs w → Calls Tryd.prog 32 #[.int .u64 (absN a), .int .i64 16] w fun e w' => e = .returned (.string (bytesOf (hexL (absN a)))) ∧ Below w.heap.size w w' := fun w ht => fmt_any (absN a) (Nat.lt_trans (absN_lt a) (by decide)) w ht
  have x1 := hid (textN_nan (a := a))
  have x2 := hid (textN_inf (a := a))
  have x3 := hid (textN_fin (a := a))
  generalize textN a = X at *
  generalize minusN a = M at *
  generalize bytesOf (hexL (absN a)) = H at *
  go_enter Tryd.func23, Tryd.ntmps23
  go_wp2_with fail
  refine (kind_any a ha _ tabs).mono ?_
  rintro e w' ⟨rfl, b1⟩
  go_wp2_with fail
  · rename_i h4
    rw [x1.out h4]
    go_ret
    exact ⟨rfl, b1⟩
  · have x9 := hid (x2.out (by assumption) (by assumption))
    refine (hm _).mono ?_
    rintro e w' ⟨rfl, rfl⟩
    go_wp2_with fail
    · go_ret
      exact ⟨ret_string x9.out.symm, b1⟩
  · have x9 := hid (x3.out (by assumption) (by assumption))
    refine (hm _).mono ?_
    rintro e w' ⟨rfl, rfl⟩
    go_wp2_with fail
    refine (abs_any a ha _).mono ?_
    rintro e w' ⟨rfl, rfl⟩
    go_wp2_with fail
    refine (hf _ (tabs.below b1)).mono ?_
    rintro e w' ⟨rfl, b2⟩
    go_wp2_with fail
    · go_ret
      exact ⟨ret_string x9.out.symm, b1.trans (b2.mono b1.size)⟩
end Go.Proofs.YtmjheiedoihohaaDoor
