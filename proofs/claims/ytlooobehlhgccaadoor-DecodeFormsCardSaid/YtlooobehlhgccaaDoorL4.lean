/- DecodeForms. -/
import Derived.Test.YtlooobehlhgccaaDoorQ6
import Derived.Test.YtlooobehlhgccaaDoorQ2
import Derived.Deep.CutRange
namespace Go.Proofs.YtlooobehlhgccaaDoor
open Go.RowKit
set_option linter.unusedVariables false
set_option linter.unusedSimpArgs false
set_option linter.unusedSectionVars false

theorem sx_mod3 (v : Int) : IntKind.u32.wrap (IntKind.i32.wrap (IntKind.i8.wrap v)) = IntKind.i8.wrap v % 4294967296 := by
  have : ∀ n : Int, IntKind.i8.wrap n = (n + 128) % 256 - 128 := fun n => by
    simp only [IntKind.wrap, IntKind.bits, IntKind.signed]
    simp
    split <;> omega
  rw [IntKind.wrap_u32, IntKind.wrap_i32, this]
  omega
theorem sx_mod4 (v : Int) : wrap32 (IntKind.i8.wrap v) % 4294967296 = IntKind.i8.wrap v % 4294967296 := by
  have : ∀ n : Int, IntKind.i8.wrap n = (n + 128) % 256 - 128 := fun n => by
    simp only [IntKind.wrap, IntKind.bits, IntKind.signed]
    simp
    split <;> omega
  rw [this]
  unfold wrap32
  omega
theorem Ba.but {W W' : World} {b off n c : Nat} {zs : List Int} {S : List Nat} (h : Ba W (some ⟨b, off, none⟩) n c zs) (k : But S W.heap.size W W') (hS : b ∉ S) : Ba W' (some ⟨b, off, none⟩) n c zs := by
  obtain ⟨⟨h1, h2, h3⟩, h4, h5, h6⟩ := h
  refine ⟨⟨h1, h2, ?_⟩, h4, h5, h6⟩
  rcases h3 with h3 | ⟨b', off', e, hlt, hc⟩
  · exact .inl h3
  · obtain ⟨rfl, rfl⟩ : b = b' ∧ off = off' := by simpa using e
    refine .inr ⟨b, off, rfl, Nat.lt_of_lt_of_le hlt k.size, fun i hi => ?_⟩
    have hb := k.block b hlt hS
    have := hc i hi
    simp only [World.cell?, hb] at this ⊢
    exact this
theorem Ba.new (W : World) {cells : Array Value} {zs : List Int} {n : Nat} (L : LitB cells zs n) : Ba (W.alloc (.cells cells 5)) (some ⟨W.heap.size, 0, none⟩) n n zs := by
  obtain ⟨hc, hz, rfl, hl⟩ := L
  obtain ⟨a, cap, e, h⟩ := (Own.new W W.heap.size (Nat.le_refl _) zs hz (by omega) hc).ba
  simp only [Value.slice.injEq, true_and] at e
  obtain ⟨rfl, rfl⟩ := e
  exact h
theorem Own.cell {W : World} {N : Nat} {v : Value} {zs : List Int} (h : Own W N v zs) {K : Nat} (hK : K < N) (i : Nat) (u : Value) : Own (W.setCell ⟨K, i, none⟩ u) N v zs := by
  obtain ⟨hb, hl, h | ⟨g, cap, cur, rfl, hN, hg, rest⟩⟩ := h
  · exact ⟨hb, hl, .inl h⟩
  · exact ⟨hb, hl, .inr ⟨g, cap, cur, rfl, hN, (Below.heap_setCell _ _ _ _ (by show g ≠ K; omega)).trans hg, rest⟩⟩
theorem and7_u8 (s : Int) (hs : 0 ≤ s ∧ s ≤ 255) : bits .and .u8 s 7 = s % 8 := by
  obtain ⟨n, rfl⟩ := Int.eq_ofNat_of_zero_le hs.1
  have : ∀ n : Nat, n < 256 → bits .and .u8 (n : Int) 7 = (n : Int) % 8 := of_decide_eq_true (by kernel_rfl)
  exact this n (by omega)
theorem scale_fits (s : Int) (hs : 0 ≤ s ∧ s ≤ 255) : IntKind.u32.wrap (2 ^ (s / 64).toNat) = 2 ^ (s / 64).toNat := by
  rw [IntKind.wrap_u32]
  exact pow_scale (s / 64) (by omega)
theorem or_k216 (k : Int) (hk : 0 ≤ k ∧ k < 8) : bits .or .u8 216 k = 216 + k := by
  obtain ⟨n, rfl⟩ := Int.eq_ofNat_of_zero_le hk.1
  have : ∀ n : Nat, n < 8 → bits .or .u8 216 (n : Int) = 216 + (n : Int) := of_decide_eq_true (by kernel_rfl)
  exact this n (by omega)
theorem or_k88 (k : Int) (hk : 0 ≤ k ∧ k < 8) : bits .or .u8 88 k = 88 + k := by
  obtain ⟨n, rfl⟩ := Int.eq_ofNat_of_zero_le hk.1
  have : ∀ n : Nat, n < 8 → bits .or .u8 88 (n : Int) = 88 + (n : Int) := of_decide_eq_true (by kernel_rfl)
  exact this n (by omega)
theorem or_k152 (k : Int) (hk : 0 ≤ k ∧ k < 8) : bits .or .u8 152 k = 152 + k := by
  obtain ⟨n, rfl⟩ := Int.eq_ofNat_of_zero_le hk.1
  have : ∀ n : Nat, n < 8 → bits .or .u8 152 (n : Int) = 152 + (n : Int) := of_decide_eq_true (by kernel_rfl)
  exact this n (by omega)
theorem or_k24 (k : Int) (hk : 0 ≤ k ∧ k < 8) : bits .or .u8 24 k = 24 + k := by
  obtain ⟨n, rfl⟩ := Int.eq_ofNat_of_zero_le hk.1
  have : ∀ n : Nat, n < 8 → bits .or .u8 24 (n : Int) = 24 + (n : Int) := of_decide_eq_true (by kernel_rfl)
  exact this n (by omega)
set_option maxHeartbeats 4000000 in
set_option maxRecDepth 100000 in
theorem form_N3 (mo rm s d : Int) (hmo : 0 ≤ mo ∧ mo ≤ 255) (hrm : 0 ≤ rm ∧ rm ≤ 255) (hs : 0 ≤ s ∧ s ≤ 255) (hd : 0 ≤ d ∧ d ≤ 4294967295) (hm : mo % 4 = 3) (k : Int) (hk : 0 ≤ k ∧ k < 8) (hkr : rm % 8 = k) (w : World) (tabs : Tabs w) :
    Calls Tryd.prog 5 #[.int .u8 mo, .int .u8 rm, .int .u8 s, .int .u32 d] w fun e w' => e = .returned (.bool true) ∧ Below w.heap.size w w' := by
  have hK := Lib.hid (known_any w tabs)
  have e0 := dec_i (form_reg k hk)
  have hor := or_k216 k hk
  have hor0 : bits .or .u8 192 24 = 216 := by kernel_rfl
  have l0 : LitB #[.int .u8 139, .int .u8 (216 + k)] [139, (216 + k)] 2 := ⟨rfl, by intro u hu; simp at hu; omega, rfl, by decide⟩
  go_enter Tryd.func5, Tryd.ntmps5
  go_upto_region 4 with ((with_reducible refine hK.out.mono ?_); rintro e W1 ⟨rfl, b1⟩)
  simp only [hm, hkr]
  clear hm hkr
  go_upto_region 5 with fail
  have hB0 := Ba.new W1 l0
  have k0 := b1.alloc b1.size (.cells #[.int .u8 139, .int .u8 (216 + k)] 5)
  have hBW : W1.heap.size < (W1.alloc (.cells #[.int .u8 139, .int .u8 (216 + k)] 5)).heap.size := by simp
  generalize W1.alloc (.cells #[.int .u8 139, .int .u8 (216 + k)] 5) = W2 at *
  generalize W1.heap.size = B at *
  go_upto_region 6 with ((with_reducible refine store_op_as rfl _ _ rfl (op6 (onMem 0 k (-1) 1)) (op6_size _) (op6_one _) rfl rfl ?_); intro W3 kO c3)
  have hB := hB0.below c3
  have hwk := k0.size
  have k3 := k0.trans (c3.mono k0.size)
  have hK3 := kO.lt
  generalize W2.heap.size = K at *
  clear hB0 k0 c3 b1
  go_upto_region 11 with fail
  have hwK : w.heap.size ≤ K := hwk
  go_upto_region 21 with ((with_reducible refine store_opR rfl _ _ rfl K (op6 (onReg k)) _ rfl rfl kO (op6_size _) (op6_size _) (op6_one _) ?_); intro W8 kW b8 s8)
  have k8 := k3.trans (b8.below k3.size (by simpa using hwK))
  have hBv := hB.but b8 (by simp; omega)
  have hD := Lib.hid (Decode_any hBv (tabs.below k8))
  replace hD := Lib.hid (show Calls Tryd.prog 10 _ W8 (fun e w' => e = .returned (.tuple #[inV ⟨1, 0, onReg 3, onReg k, false, 2⟩, .int .i64 2, .int .i64 0]) ∧ Below W8.heap.size W8 w') from e0.1 ▸ e0.2 ▸ hD.out)
  go_upto_region 22 with (first | ((with_reducible refine hD.out.mono ?_); rintro e U1 ⟨rfl, p1⟩) | ((with_reducible refine store_in_as rfl _ _ rfl (in16 ⟨1, 0, onReg 3, onReg k, false, 2⟩) (in16_size _) (in16_one _) rfl rfl ?_); intro U2 kI p2))
  have kW2 := (kW.below p1 kW.lt).below p2 (Nat.lt_of_lt_of_le kW.lt p1.size)
  have k9 := (k8.trans (p1.mono k8.size)).trans (p2.mono (Nat.le_trans k8.size p1.size))
  have i0 := kI.cell (i := 0) (v := .int .i64 1) rfl
  have i2 := kI.cell (i := 2) (v := .int .i64 1) rfl
  have i3 := kI.cell (i := 3) (v := .int .i64 3) rfl
  have i4 := kI.cell (i := 4) (v := .int .u32 0) rfl
  have i5 := kI.cell (i := 5) (v := .int .i64 0) rfl
  have i6 := kI.cell (i := 6) (v := .int .i64 0) rfl
  have i7 := kI.cell (i := 7) (v := .int .u32 0) rfl
  have i8 := kI.cell (i := 8) (v := .int .i64 1) rfl
  have q0 := kW2.cell (i := 0) (v := .int .i64 1) rfl
  have i9 := kI.cell (i := 9) (v := .int .i64 k) rfl
  have q1 := kW2.cell (i := 1) (v := .int .i64 k) rfl
  have i10 := kI.cell (i := 10) (v := .int .u32 0) rfl
  have q2 := kW2.cell (i := 2) (v := .int .u32 0) rfl
  have i11 := kI.cell (i := 11) (v := .int .i64 0) rfl
  have q3 := kW2.cell (i := 3) (v := .int .i64 0) rfl
  have i12 := kI.cell (i := 12) (v := .int .i64 0) rfl
  have q4 := kW2.cell (i := 4) (v := .int .i64 0) rfl
  have i13 := kI.cell (i := 13) (v := .int .u32 0) rfl
  have q5 := kW2.cell (i := 5) (v := .int .u32 0) rfl
  go_wp2_with fail
  go_ret
  exact ⟨rfl, k9⟩
set_option maxHeartbeats 4000000 in
set_option maxRecDepth 100000 in
theorem form_N1 (mo rm s d : Int) (hmo : 0 ≤ mo ∧ mo ≤ 255) (hrm : 0 ≤ rm ∧ rm ≤ 255) (hs : 0 ≤ s ∧ s ≤ 255) (hd : 0 ≤ d ∧ d ≤ 4294967295) (hm : mo % 4 = 1) (k : Int) (hk : 0 ≤ k ∧ k < 8) (hkr : rm % 8 = k) (h4 : ¬ k = 4) (w : World) (tabs : Tabs w) :
    Calls Tryd.prog 5 #[.int .u8 mo, .int .u8 rm, .int .u8 s, .int .u32 d] w fun e w' => e = .returned (.bool true) ∧ Below w.heap.size w w' := by
  have hK := Lib.hid (known_any w tabs)
  have e0 := dec_i (form_near k hk h4 (d % 256))
  rw [sx_mod] at e0
  have hsx := sx_mod3 d
  generalize hsx0 : IntKind.i8.wrap d % 4294967296 = sv at *
  have hsx' : wrap32 (IntKind.i8.wrap d) % 4294967296 = sv := (sx_mod4 d).trans hsx0
  have hor := or_k88 k hk
  have hor0 : bits .or .u8 64 24 = 88 := by kernel_rfl
  have l0 : LitB #[.int .u8 139, .int .u8 (88 + k)] [139, (88 + k)] 2 := ⟨rfl, by intro u hu; simp at hu; omega, rfl, by decide⟩
  have l2 : LitB #[.int .u8 (d % 256)] [d % 256] 1 := ⟨rfl, by intro u hu; simp at hu; omega, rfl, by decide⟩
  go_enter Tryd.func5, Tryd.ntmps5
  go_upto_region 4 with ((with_reducible refine hK.out.mono ?_); rintro e W1 ⟨rfl, b1⟩)
  simp only [hm, hkr]
  clear hm hkr
  go_upto_region 5 with fail
  have hB0 := Ba.new W1 l0
  have k0 := b1.alloc b1.size (.cells #[.int .u8 139, .int .u8 (88 + k)] 5)
  have hBW : W1.heap.size < (W1.alloc (.cells #[.int .u8 139, .int .u8 (88 + k)] 5)).heap.size := by simp
  generalize W1.alloc (.cells #[.int .u8 139, .int .u8 (88 + k)] 5) = W2 at *
  generalize W1.heap.size = B at *
  go_upto_region 6 with ((with_reducible refine store_op_as rfl _ _ rfl (op6 (onMem 0 k (-1) 1)) (op6_size _) (op6_one _) rfl rfl ?_); intro W3 kO c3)
  have hB := hB0.below c3
  have hwk := k0.size
  have k3 := k0.trans (c3.mono k0.size)
  have hK3 := kO.lt
  generalize W2.heap.size = K at *
  clear hB0 k0 c3 b1
  go_upto_region 11 with fail
  have hwK : w.heap.size ≤ K := hwk
  have d3 := kO.cell (i := 3) (v := .int .i64 (k)) rfl
  have g6 := (Below.refl W3.heap.size W3).alloc (Nat.le_refl _) (.cells #[.int .u8 (d % 256)] 5)
  have hS6 := Ba.new W3 l2
  have hA6 := hB.below g6
  go_upto_region 15 with ((with_reducible refine append_full rfl _ _ rfl B 0 2 ([139, (88 + k)]) ([d % 256]) rfl hA6 W3.heap.size 0 1 1 rfl hS6 (by decide) (by decide) ?_); intro v2 W6 o7 a6)
  have c6 := g6.trans (a6.mono g6.size)
  have kO6 := kO.below c6 hK3
  have k6 := k3.trans (c6.mono k3.size)
  have hN1 : K < (W3.alloc (.cells #[.int .u8 (d % 256)] 5)).heap.size := Nat.lt_of_lt_of_le hK3 g6.size
  have d2 := kO6.cell (i := 2) (v := .int .u32 0) rfl
  have f2 := kO6.fr 2
  have d3' := kO6.cell (i := 3) (v := .int .i64 (k)) rfl
  have f3 := kO6.fr 3
  clear d3
  go_upto_region 21 with fail
  have kW : Blk _ _ _ (op6 (onMem sv (k) (-1) 1)) := kO6.setM sv
  have o8 := o7.cell hN1 2 (.int .u32 sv)
  have k8 := ((But.of k6 [K]).setCell (p := ⟨K, 2, none⟩) (by simp) (.int .u32 sv)).below (Nat.le_refl _) (by simpa using hwK)
  clear d2 f2 d3' f3
  generalize W6.setCell ⟨K, 2, none⟩ (.int .u32 sv) = W8 at *
  obtain ⟨va, vc, rfl, hBv⟩ := o8.ba
  replace hBv : Ba W8 va 3 vc ([139, (88 + k), d % 256]) := hBv
  have hD := Lib.hid (Decode_any hBv (tabs.below k8))
  replace hD := Lib.hid (show Calls Tryd.prog 10 _ W8 (fun e w' => e = .returned (.tuple #[inV ⟨1, 0, onReg 3, onMem sv (k) (-1) 1, false, 3⟩, .int .i64 3, .int .i64 0]) ∧ Below W8.heap.size W8 w') from e0.1 ▸ e0.2 ▸ hD.out)
  go_upto_region 22 with (first | ((with_reducible refine hD.out.mono ?_); rintro e U1 ⟨rfl, p1⟩) | ((with_reducible refine store_in_as rfl _ _ rfl (in16 ⟨1, 0, onReg 3, onMem sv (k) (-1) 1, false, 3⟩) (in16_size _) (in16_one _) rfl rfl ?_); intro U2 kI p2))
  have kW2 := (kW.below p1 kW.lt).below p2 (Nat.lt_of_lt_of_le kW.lt p1.size)
  have k9 := (k8.trans (p1.mono k8.size)).trans (p2.mono (Nat.le_trans k8.size p1.size))
  have i0 := kI.cell (i := 0) (v := .int .i64 1) rfl
  have i2 := kI.cell (i := 2) (v := .int .i64 1) rfl
  have i3 := kI.cell (i := 3) (v := .int .i64 3) rfl
  have i4 := kI.cell (i := 4) (v := .int .u32 0) rfl
  have i5 := kI.cell (i := 5) (v := .int .i64 0) rfl
  have i6 := kI.cell (i := 6) (v := .int .i64 0) rfl
  have i7 := kI.cell (i := 7) (v := .int .u32 0) rfl
  have i8 := kI.cell (i := 8) (v := .int .i64 3) rfl
  have q0 := kW2.cell (i := 0) (v := .int .i64 3) rfl
  have i9 := kI.cell (i := 9) (v := .int .i64 0) rfl
  have q1 := kW2.cell (i := 1) (v := .int .i64 0) rfl
  have i10 := kI.cell (i := 10) (v := .int .u32 sv) rfl
  have q2 := kW2.cell (i := 2) (v := .int .u32 sv) rfl
  have i11 := kI.cell (i := 11) (v := .int .i64 (k)) rfl
  have q3 := kW2.cell (i := 3) (v := .int .i64 (k)) rfl
  have i12 := kI.cell (i := 12) (v := .int .i64 (-1)) rfl
  have q4 := kW2.cell (i := 4) (v := .int .i64 (-1)) rfl
  have i13 := kI.cell (i := 13) (v := .int .u32 1) rfl
  have q5 := kW2.cell (i := 5) (v := .int .u32 1) rfl
  go_wp2_with fail
  go_ret
  exact ⟨rfl, k9⟩
set_option maxHeartbeats 4000000 in
set_option maxRecDepth 100000 in
theorem form_N2 (mo rm s d : Int) (hmo : 0 ≤ mo ∧ mo ≤ 255) (hrm : 0 ≤ rm ∧ rm ≤ 255) (hs : 0 ≤ s ∧ s ≤ 255) (hd : 0 ≤ d ∧ d ≤ 4294967295) (hm : mo % 4 = 2) (k : Int) (hk : 0 ≤ k ∧ k < 8) (hkr : rm % 8 = k) (h4 : ¬ k = 4) (w : World) (tabs : Tabs w) :
    Calls Tryd.prog 5 #[.int .u8 mo, .int .u8 rm, .int .u8 s, .int .u32 d] w fun e w' => e = .returned (.bool true) ∧ Below w.heap.size w w' := by
  have hK := Lib.hid (known_any w tabs)
  have e0 := dec_i (form_far k d hk hd h4)
  have hor := or_k152 k hk
  have hor0 : bits .or .u8 128 24 = 152 := by kernel_rfl
  have l0 : LitB #[.int .u8 139, .int .u8 (152 + k)] [139, (152 + k)] 2 := ⟨rfl, by intro u hu; simp at hu; omega, rfl, by decide⟩
  have hwl : (wB d).length = 4 := rfl
  have l2 : LitB #[.int .u8 (d % 256), .int .u8 (d / 256 % 256), .int .u8 (d / 65536 % 256), .int .u8 (d / 16777216)] (wB d) 4 := ⟨rfl, wB_bd d hd, rfl, by decide⟩
  go_enter Tryd.func5, Tryd.ntmps5
  go_upto_region 4 with ((with_reducible refine hK.out.mono ?_); rintro e W1 ⟨rfl, b1⟩)
  simp only [hm, hkr]
  clear hm hkr
  go_upto_region 5 with fail
  have hB0 := Ba.new W1 l0
  have k0 := b1.alloc b1.size (.cells #[.int .u8 139, .int .u8 (152 + k)] 5)
  have hBW : W1.heap.size < (W1.alloc (.cells #[.int .u8 139, .int .u8 (152 + k)] 5)).heap.size := by simp
  generalize W1.alloc (.cells #[.int .u8 139, .int .u8 (152 + k)] 5) = W2 at *
  generalize W1.heap.size = B at *
  go_upto_region 6 with ((with_reducible refine store_op_as rfl _ _ rfl (op6 (onMem 0 k (-1) 1)) (op6_size _) (op6_one _) rfl rfl ?_); intro W3 kO c3)
  have hB := hB0.below c3
  have hwk := k0.size
  have k3 := k0.trans (c3.mono k0.size)
  have hK3 := kO.lt
  generalize W2.heap.size = K at *
  clear hB0 k0 c3 b1
  go_upto_region 11 with fail
  have hwK : w.heap.size ≤ K := hwk
  have d3 := kO.cell (i := 3) (v := .int .i64 (k)) rfl
  have g6 := (Below.refl W3.heap.size W3).alloc (Nat.le_refl _) (.cells #[.int .u8 (d % 256), .int .u8 (d / 256 % 256), .int .u8 (d / 65536 % 256), .int .u8 (d / 16777216)] 5)
  have hS6 := Ba.new W3 l2
  have hA6 := hB.below g6
  go_upto_region 18 with ((with_reducible refine append_full rfl _ _ rfl B 0 2 ([139, (152 + k)]) (wB d) rfl hA6 W3.heap.size 0 4 4 rfl hS6 (by decide) (by decide) ?_); intro v2 W6 o7 a6)
  have c6 := g6.trans (a6.mono g6.size)
  have kO6 := kO.below c6 hK3
  have k6 := k3.trans (c6.mono k3.size)
  have hN1 : K < (W3.alloc (.cells #[.int .u8 (d % 256), .int .u8 (d / 256 % 256), .int .u8 (d / 65536 % 256), .int .u8 (d / 16777216)] 5)).heap.size := Nat.lt_of_lt_of_le hK3 g6.size
  have d2 := kO6.cell (i := 2) (v := .int .u32 0) rfl
  have f2 := kO6.fr 2
  have d3' := kO6.cell (i := 3) (v := .int .i64 (k)) rfl
  have f3 := kO6.fr 3
  clear d3
  go_upto_region 21 with fail
  have kW : Blk _ _ _ (op6 (onMem d (k) (-1) 1)) := kO6.setM d
  have o8 := o7.cell hN1 2 (.int .u32 d)
  have k8 := ((But.of k6 [K]).setCell (p := ⟨K, 2, none⟩) (by simp) (.int .u32 d)).below (Nat.le_refl _) (by simpa using hwK)
  clear d2 f2 d3' f3
  generalize W6.setCell ⟨K, 2, none⟩ (.int .u32 d) = W8 at *
  obtain ⟨va, vc, rfl, hBv⟩ := o8.ba
  replace hBv : Ba W8 va 6 vc (139 :: (152 + k) :: wB d) := hBv
  have hD := Lib.hid (Decode_any hBv (tabs.below k8))
  replace hD := Lib.hid (show Calls Tryd.prog 10 _ W8 (fun e w' => e = .returned (.tuple #[inV ⟨1, 0, onReg 3, onMem d (k) (-1) 1, false, 6⟩, .int .i64 6, .int .i64 0]) ∧ Below W8.heap.size W8 w') from e0.1 ▸ e0.2 ▸ hD.out)
  go_upto_region 22 with (first | ((with_reducible refine hD.out.mono ?_); rintro e U1 ⟨rfl, p1⟩) | ((with_reducible refine store_in_as rfl _ _ rfl (in16 ⟨1, 0, onReg 3, onMem d (k) (-1) 1, false, 6⟩) (in16_size _) (in16_one _) rfl rfl ?_); intro U2 kI p2))
  have kW2 := (kW.below p1 kW.lt).below p2 (Nat.lt_of_lt_of_le kW.lt p1.size)
  have k9 := (k8.trans (p1.mono k8.size)).trans (p2.mono (Nat.le_trans k8.size p1.size))
  have i0 := kI.cell (i := 0) (v := .int .i64 1) rfl
  have i2 := kI.cell (i := 2) (v := .int .i64 1) rfl
  have i3 := kI.cell (i := 3) (v := .int .i64 3) rfl
  have i4 := kI.cell (i := 4) (v := .int .u32 0) rfl
  have i5 := kI.cell (i := 5) (v := .int .i64 0) rfl
  have i6 := kI.cell (i := 6) (v := .int .i64 0) rfl
  have i7 := kI.cell (i := 7) (v := .int .u32 0) rfl
  have i8 := kI.cell (i := 8) (v := .int .i64 3) rfl
  have q0 := kW2.cell (i := 0) (v := .int .i64 3) rfl
  have i9 := kI.cell (i := 9) (v := .int .i64 0) rfl
  have q1 := kW2.cell (i := 1) (v := .int .i64 0) rfl
  have i10 := kI.cell (i := 10) (v := .int .u32 d) rfl
  have q2 := kW2.cell (i := 2) (v := .int .u32 d) rfl
  have i11 := kI.cell (i := 11) (v := .int .i64 (k)) rfl
  have q3 := kW2.cell (i := 3) (v := .int .i64 (k)) rfl
  have i12 := kI.cell (i := 12) (v := .int .i64 (-1)) rfl
  have q4 := kW2.cell (i := 4) (v := .int .i64 (-1)) rfl
  have i13 := kI.cell (i := 13) (v := .int .u32 1) rfl
  have q5 := kW2.cell (i := 5) (v := .int .u32 1) rfl
  go_wp2_with fail
  go_ret
  exact ⟨rfl, k9⟩
set_option maxHeartbeats 4000000 in
set_option maxRecDepth 100000 in
theorem form_Na (mo rm s d : Int) (hmo : 0 ≤ mo ∧ mo ≤ 255) (hrm : 0 ≤ rm ∧ rm ≤ 255) (hs : 0 ≤ s ∧ s ≤ 255) (hd : 0 ≤ d ∧ d ≤ 4294967295) (hm : mo % 4 = 0) (hkr : rm % 8 = 5) (w : World) (tabs : Tabs w) :
    Calls Tryd.prog 5 #[.int .u8 mo, .int .u8 rm, .int .u8 s, .int .u32 d] w fun e w' => e = .returned (.bool true) ∧ Below w.heap.size w w' := by
  have hK := Lib.hid (known_any w tabs)
  have e0 := dec_i (form_abs d hd)
  have hor : bits .or .u8 24 5 = 29 := by kernel_rfl
  have hor0 : bits .or .u8 0 24 = 24 := by kernel_rfl
  have l0 : LitB #[.int .u8 139, .int .u8 29] [139, 29] 2 := ⟨rfl, by intro u hu; simp at hu; omega, rfl, by decide⟩
  have hwl : (wB d).length = 4 := rfl
  have l2 : LitB #[.int .u8 (d % 256), .int .u8 (d / 256 % 256), .int .u8 (d / 65536 % 256), .int .u8 (d / 16777216)] (wB d) 4 := ⟨rfl, wB_bd d hd, rfl, by decide⟩
  go_enter Tryd.func5, Tryd.ntmps5
  go_upto_region 4 with ((with_reducible refine hK.out.mono ?_); rintro e W1 ⟨rfl, b1⟩)
  simp only [hm, hkr]
  clear hm hkr
  go_upto_region 5 with fail
  have hB0 := Ba.new W1 l0
  have k0 := b1.alloc b1.size (.cells #[.int .u8 139, .int .u8 29] 5)
  have hBW : W1.heap.size < (W1.alloc (.cells #[.int .u8 139, .int .u8 29] 5)).heap.size := by simp
  generalize W1.alloc (.cells #[.int .u8 139, .int .u8 29] 5) = W2 at *
  generalize W1.heap.size = B at *
  go_upto_region 6 with ((with_reducible refine store_op_as rfl _ _ rfl (op6 (onMem 0 5 (-1) 1)) (op6_size _) (op6_one _) rfl rfl ?_); intro W3 kO c3)
  have hB := hB0.below c3
  have hwk := k0.size
  have k3 := k0.trans (c3.mono k0.size)
  have hK3 := kO.lt
  generalize W2.heap.size = K at *
  clear hB0 k0 c3 b1
  go_upto_region 11 with fail
  have hwK : w.heap.size ≤ K := hwk
  have d3 := kO.cell (i := 3) (v := .int .i64 (5)) rfl
  have g6 := (Below.refl W3.heap.size W3).alloc (Nat.le_refl _) (.cells #[.int .u8 (d % 256), .int .u8 (d / 256 % 256), .int .u8 (d / 65536 % 256), .int .u8 (d / 16777216)] 5)
  have hS6 := Ba.new W3 l2
  have hA6 := hB.below g6
  go_upto_region 18 with ((with_reducible refine append_full rfl _ _ rfl B 0 2 ([139, 29]) (wB d) rfl hA6 W3.heap.size 0 4 4 rfl hS6 (by decide) (by decide) ?_); intro v2 W6 o7 a6)
  have c6 := g6.trans (a6.mono g6.size)
  have kO6 := kO.below c6 hK3
  have k6 := k3.trans (c6.mono k3.size)
  have hN1 : K < (W3.alloc (.cells #[.int .u8 (d % 256), .int .u8 (d / 256 % 256), .int .u8 (d / 65536 % 256), .int .u8 (d / 16777216)] 5)).heap.size := Nat.lt_of_lt_of_le hK3 g6.size
  have d2 := kO6.cell (i := 2) (v := .int .u32 0) rfl
  have f2 := kO6.fr 2
  have d3' := kO6.cell (i := 3) (v := .int .i64 (5)) rfl
  have f3 := kO6.fr 3
  clear d3
  go_upto_region 21 with fail
  have kW : Blk _ _ _ (op6 (onMem d (-1) (-1) 1)) := (kO6.setM d).setB (-1)
  have o8 := (o7.cell hN1 2 (.int .u32 d)).cell hN1 3 (.int .i64 (-1))
  have k8 := ((But.of (((But.of k6 [K]).setCell (p := ⟨K, 2, none⟩) (by simp) (.int .u32 d)).below (Nat.le_refl _) (by simpa using hwK)) [K]).setCell (p := ⟨K, 3, none⟩) (by simp) (.int .i64 (-1))).below (Nat.le_refl _) (by simpa using hwK)
  clear d2 f2 d3' f3
  generalize (W6.setCell ⟨K, 2, none⟩ (.int .u32 d)).setCell ⟨K, 3, none⟩ (.int .i64 (-1)) = W8 at *
  obtain ⟨va, vc, rfl, hBv⟩ := o8.ba
  replace hBv : Ba W8 va 6 vc (139 :: 29 :: wB d) := hBv
  have hD := Lib.hid (Decode_any hBv (tabs.below k8))
  replace hD := Lib.hid (show Calls Tryd.prog 10 _ W8 (fun e w' => e = .returned (.tuple #[inV ⟨1, 0, onReg 3, onMem d (-1) (-1) 1, false, 6⟩, .int .i64 6, .int .i64 0]) ∧ Below W8.heap.size W8 w') from e0.1 ▸ e0.2 ▸ hD.out)
  go_upto_region 22 with (first | ((with_reducible refine hD.out.mono ?_); rintro e U1 ⟨rfl, p1⟩) | ((with_reducible refine store_in_as rfl _ _ rfl (in16 ⟨1, 0, onReg 3, onMem d (-1) (-1) 1, false, 6⟩) (in16_size _) (in16_one _) rfl rfl ?_); intro U2 kI p2))
  have kW2 := (kW.below p1 kW.lt).below p2 (Nat.lt_of_lt_of_le kW.lt p1.size)
  have k9 := (k8.trans (p1.mono k8.size)).trans (p2.mono (Nat.le_trans k8.size p1.size))
  have i0 := kI.cell (i := 0) (v := .int .i64 1) rfl
  have i2 := kI.cell (i := 2) (v := .int .i64 1) rfl
  have i3 := kI.cell (i := 3) (v := .int .i64 3) rfl
  have i4 := kI.cell (i := 4) (v := .int .u32 0) rfl
  have i5 := kI.cell (i := 5) (v := .int .i64 0) rfl
  have i6 := kI.cell (i := 6) (v := .int .i64 0) rfl
  have i7 := kI.cell (i := 7) (v := .int .u32 0) rfl
  have i8 := kI.cell (i := 8) (v := .int .i64 3) rfl
  have q0 := kW2.cell (i := 0) (v := .int .i64 3) rfl
  have i9 := kI.cell (i := 9) (v := .int .i64 0) rfl
  have q1 := kW2.cell (i := 1) (v := .int .i64 0) rfl
  have i10 := kI.cell (i := 10) (v := .int .u32 d) rfl
  have q2 := kW2.cell (i := 2) (v := .int .u32 d) rfl
  have i11 := kI.cell (i := 11) (v := .int .i64 (-1)) rfl
  have q3 := kW2.cell (i := 3) (v := .int .i64 (-1)) rfl
  have i12 := kI.cell (i := 12) (v := .int .i64 (-1)) rfl
  have q4 := kW2.cell (i := 4) (v := .int .i64 (-1)) rfl
  have i13 := kI.cell (i := 13) (v := .int .u32 1) rfl
  have q5 := kW2.cell (i := 5) (v := .int .u32 1) rfl
  go_wp2_with fail
  go_ret
  exact ⟨rfl, k9⟩
set_option maxHeartbeats 4000000 in
set_option maxRecDepth 100000 in
theorem form_Nb (mo rm s d : Int) (hmo : 0 ≤ mo ∧ mo ≤ 255) (hrm : 0 ≤ rm ∧ rm ≤ 255) (hs : 0 ≤ s ∧ s ≤ 255) (hd : 0 ≤ d ∧ d ≤ 4294967295) (hm : mo % 4 = 0) (k : Int) (hk : 0 ≤ k ∧ k < 8) (hkr : rm % 8 = k) (h4 : ¬ k = 4) (h5 : ¬ k = 5) (w : World) (tabs : Tabs w) :
    Calls Tryd.prog 5 #[.int .u8 mo, .int .u8 rm, .int .u8 s, .int .u32 d] w fun e w' => e = .returned (.bool true) ∧ Below w.heap.size w w' := by
  have hK := Lib.hid (known_any w tabs)
  have e0 := dec_i (form_here k hk h4 h5)
  have hor := or_k24 k hk
  have hor0 : bits .or .u8 0 24 = 24 := by kernel_rfl
  have l0 : LitB #[.int .u8 139, .int .u8 (24 + k)] [139, (24 + k)] 2 := ⟨rfl, by intro u hu; simp at hu; omega, rfl, by decide⟩
  go_enter Tryd.func5, Tryd.ntmps5
  go_upto_region 4 with ((with_reducible refine hK.out.mono ?_); rintro e W1 ⟨rfl, b1⟩)
  simp only [hm, hkr]
  clear hm hkr
  go_upto_region 5 with fail
  have hB0 := Ba.new W1 l0
  have k0 := b1.alloc b1.size (.cells #[.int .u8 139, .int .u8 (24 + k)] 5)
  have hBW : W1.heap.size < (W1.alloc (.cells #[.int .u8 139, .int .u8 (24 + k)] 5)).heap.size := by simp
  generalize W1.alloc (.cells #[.int .u8 139, .int .u8 (24 + k)] 5) = W2 at *
  generalize W1.heap.size = B at *
  go_upto_region 6 with ((with_reducible refine store_op_as rfl _ _ rfl (op6 (onMem 0 k (-1) 1)) (op6_size _) (op6_one _) rfl rfl ?_); intro W3 kO c3)
  have hB := hB0.below c3
  have hwk := k0.size
  have k3 := k0.trans (c3.mono k0.size)
  have hK3 := kO.lt
  generalize W2.heap.size = K at *
  clear hB0 k0 c3 b1
  go_upto_region 11 with fail
  have hwK : w.heap.size ≤ K := hwk
  have d3 := kO.cell (i := 3) (v := .int .i64 (k)) rfl
  go_upto_region 21 with fail
  have kW := kO
  have k8 := k3
  have hBv := hB
  have hD := Lib.hid (Decode_any hBv (tabs.below k8))
  replace hD := Lib.hid (show Calls Tryd.prog 10 _ W3 (fun e w' => e = .returned (.tuple #[inV ⟨1, 0, onReg 3, onMem 0 (k) (-1) 1, false, 2⟩, .int .i64 2, .int .i64 0]) ∧ Below W3.heap.size W3 w') from e0.1 ▸ e0.2 ▸ hD.out)
  go_upto_region 22 with (first | ((with_reducible refine hD.out.mono ?_); rintro e U1 ⟨rfl, p1⟩) | ((with_reducible refine store_in_as rfl _ _ rfl (in16 ⟨1, 0, onReg 3, onMem 0 (k) (-1) 1, false, 2⟩) (in16_size _) (in16_one _) rfl rfl ?_); intro U2 kI p2))
  have kW2 := (kW.below p1 kW.lt).below p2 (Nat.lt_of_lt_of_le kW.lt p1.size)
  have k9 := (k8.trans (p1.mono k8.size)).trans (p2.mono (Nat.le_trans k8.size p1.size))
  have i0 := kI.cell (i := 0) (v := .int .i64 1) rfl
  have i2 := kI.cell (i := 2) (v := .int .i64 1) rfl
  have i3 := kI.cell (i := 3) (v := .int .i64 3) rfl
  have i4 := kI.cell (i := 4) (v := .int .u32 0) rfl
  have i5 := kI.cell (i := 5) (v := .int .i64 0) rfl
  have i6 := kI.cell (i := 6) (v := .int .i64 0) rfl
  have i7 := kI.cell (i := 7) (v := .int .u32 0) rfl
  have i8 := kI.cell (i := 8) (v := .int .i64 3) rfl
  have q0 := kW2.cell (i := 0) (v := .int .i64 3) rfl
  have i9 := kI.cell (i := 9) (v := .int .i64 0) rfl
  have q1 := kW2.cell (i := 1) (v := .int .i64 0) rfl
  have i10 := kI.cell (i := 10) (v := .int .u32 0) rfl
  have q2 := kW2.cell (i := 2) (v := .int .u32 0) rfl
  have i11 := kI.cell (i := 11) (v := .int .i64 (k)) rfl
  have q3 := kW2.cell (i := 3) (v := .int .i64 (k)) rfl
  have i12 := kI.cell (i := 12) (v := .int .i64 (-1)) rfl
  have q4 := kW2.cell (i := 4) (v := .int .i64 (-1)) rfl
  have i13 := kI.cell (i := 13) (v := .int .u32 1) rfl
  have q5 := kW2.cell (i := 5) (v := .int .u32 1) rfl
  go_wp2_with fail
  go_ret
  exact ⟨rfl, k9⟩
set_option maxHeartbeats 4000000 in
set_option maxRecDepth 100000 in
theorem form_I1 (mo rm s d : Int) (hmo : 0 ≤ mo ∧ mo ≤ 255) (hrm : 0 ≤ rm ∧ rm ≤ 255) (hs : 0 ≤ s ∧ s ≤ 255) (hd : 0 ≤ d ∧ d ≤ 4294967295) (hm : mo % 4 = 1) (hkr : rm % 8 = 4) (hx : s / 8 % 8 = 4) (w : World) (tabs : Tabs w) :
    Calls Tryd.prog 5 #[.int .u8 mo, .int .u8 rm, .int .u8 s, .int .u32 d] w fun e w' => e = .returned (.bool true) ∧ Below w.heap.size w w' := by
  have hK := Lib.hid (known_any w tabs)
  have e0 := dec_i (sib_near s (d % 256))
  rw [sx_mod] at e0
  have hsx := sx_mod3 d
  generalize hsx0 : IntKind.i8.wrap d % 4294967296 = sv at *
  have hsx' : wrap32 (IntKind.i8.wrap d) % 4294967296 = sv := (sx_mod4 d).trans hsx0
  rw [show ixM s = -1 from if_pos hx, show scM s = 1 from if_pos hx] at e0
  have a7 := and7_u8 s hs
  have a8 := and7_u8 (s / 8) (by omega)
  have hor : bits .or .u8 88 4 = 92 := by kernel_rfl
  have hor0 : bits .or .u8 64 24 = 88 := by kernel_rfl
  have l0 : LitB #[.int .u8 139, .int .u8 92] [139, 92] 2 := ⟨rfl, by intro u hu; simp at hu; omega, rfl, by decide⟩
  have l1 : LitB #[.int .u8 s] [s] 1 := ⟨rfl, by intro u hu; simp at hu; omega, rfl, by decide⟩
  have l2 : LitB #[.int .u8 (d % 256)] [d % 256] 1 := ⟨rfl, by intro u hu; simp at hu; omega, rfl, by decide⟩
  go_enter Tryd.func5, Tryd.ntmps5
  go_upto_region 4 with ((with_reducible refine hK.out.mono ?_); rintro e W1 ⟨rfl, b1⟩)
  simp only [hm, hkr]
  clear hm hkr
  go_upto_region 5 with fail
  have hB0 := Ba.new W1 l0
  have k0 := b1.alloc b1.size (.cells #[.int .u8 139, .int .u8 92] 5)
  have hBW : W1.heap.size < (W1.alloc (.cells #[.int .u8 139, .int .u8 92] 5)).heap.size := by simp
  generalize W1.alloc (.cells #[.int .u8 139, .int .u8 92] 5) = W2 at *
  generalize W1.heap.size = B at *
  go_upto_region 6 with ((with_reducible refine store_op_as rfl _ _ rfl (op6 (onMem 0 4 (-1) 1)) (op6_size _) (op6_one _) rfl rfl ?_); intro W3 kO c3)
  have hB := hB0.below c3
  have hwk := k0.size
  have k3 := k0.trans (c3.mono k0.size)
  have hK3 := kO.lt
  generalize W2.heap.size = K at *
  clear hB0 k0 c3 b1
  have hA1 := hB.below ((Below.refl _ _).alloc (Nat.le_refl _) (.cells #[.int .u8 s] 5))
  have hS1 := Ba.new W3 l1
  have g3 := (Below.refl W3.heap.size W3).alloc (Nat.le_refl _) (.cells #[.int .u8 s] 5)
  go_upto_region 8 with ((with_reducible refine append_full rfl _ _ rfl B 0 2 [139, 92] [s] rfl hA1 W3.heap.size 0 1 1 rfl hS1 (by decide) (by decide) ?_); intro v1 W4 o1 a4)
  have c4 := g3.trans (a4.mono g3.size)
  have k4 := k3.trans (c4.mono k3.size)
  have kO4 := kO.below c4 kO.lt
  have hN1 : K < (W3.alloc (.cells #[.int .u8 s] 5)).heap.size := Nat.lt_of_lt_of_le hK3 g3.size
  have hN2 := a4.size
  generalize (W3.alloc (.cells #[.int .u8 s] 5)).heap.size = N1 at *
  have d3 := kO4.cell (i := 3) (v := .int .i64 4) rfl
  have d4 := kO4.cell (i := 4) (v := .int .i64 (-1)) rfl
  have d5 := kO4.cell (i := 5) (v := .int .u32 1) rfl
  have f3 := kO4.fr 3
  have f4 := kO4.fr 4
  have f5 := kO4.fr 5
  have hwK : w.heap.size ≤ K := hwk
  clear hA1 hS1 g3 a4 c4 hB
  go_upto_region 11 with fail
  have kO5 : Blk _ _ _ (op6 (onMem 0 (s % 8) (-1) 1)) := (kO4).setB (s % 8)
  have o5 := (o1).cell hN1 3 (.int .i64 (s % 8))
  have k5 := ((But.of (k4) [K]).setCell (p := ⟨K, 3, none⟩) (by simp) (.int .i64 (s % 8))).below (Nat.le_refl _) (by simpa using hwK)
  have hN3 : N1 ≤ ((W4).setCell ⟨K, 3, none⟩ (.int .i64 (s % 8))).heap.size := by simpa [World.setCell] using hN2
  clear d3 d4 d5 f3 f4 f5 kO4 o1 k4 hN2
  generalize (W4).setCell ⟨K, 3, none⟩ (.int .i64 (s % 8)) = W5 at *
  have d3 := kO5.cell (i := 3) (v := .int .i64 (s % 8)) rfl
  have g6 := (Below.refl W5.heap.size W5).alloc (Nat.le_refl _) (.cells #[.int .u8 (d % 256)] 5)
  have hS6 := Ba.new W5 l2
  have hlen : ([139, 92] ++ [s]).length + ([d % 256]).length ≤ 100 := by simp [wB]
  have o6 := o5.below g6
  go_upto_region 15 with ((with_reducible refine append_bytes rfl _ _ rfl N1 v1 ([139, 92] ++ [s]) ([d % 256]) rfl o6 (Nat.le_trans hN3 g6.size) (some ⟨W5.heap.size, 0, none⟩) 1 1 rfl hS6 hlen ?_); intro v2 W6 o7 a6)
  have c6 : Below N1 W5 W6 := (g6.mono hN3).trans a6
  have hz6 := Nat.le_trans g6.size a6.size
  have kO6 := kO5.below c6 hN1
  have k6 := k5.trans (c6.mono (Nat.le_trans hwK (Nat.le_of_lt hN1)))
  have d2 := kO6.cell (i := 2) (v := .int .u32 0) rfl
  have f2 := kO6.fr 2
  have d3' := kO6.cell (i := 3) (v := .int .i64 (s % 8)) rfl
  have f3 := kO6.fr 3
  clear d3
  go_upto_region 21 with fail
  have kW : Blk _ _ _ (op6 (onMem sv (s % 8) (-1) 1)) := kO6.setM sv
  have o8 := o7.cell hN1 2 (.int .u32 sv)
  have k8 := ((But.of k6 [K]).setCell (p := ⟨K, 2, none⟩) (by simp) (.int .u32 sv)).below (Nat.le_refl _) (by simpa using hwK)
  clear d2 f2 d3' f3
  generalize W6.setCell ⟨K, 2, none⟩ (.int .u32 sv) = W8 at *
  obtain ⟨va, vc, rfl, hBv⟩ := o8.ba
  replace hBv : Ba W8 va 4 vc ([139, 92, s, d % 256]) := hBv
  have hD := Lib.hid (Decode_any hBv (tabs.below k8))
  replace hD := Lib.hid (show Calls Tryd.prog 10 _ W8 (fun e w' => e = .returned (.tuple #[inV ⟨1, 0, onReg 3, onMem sv (s % 8) (-1) 1, false, 4⟩, .int .i64 4, .int .i64 0]) ∧ Below W8.heap.size W8 w') from e0.1 ▸ e0.2 ▸ hD.out)
  go_upto_region 22 with (first | ((with_reducible refine hD.out.mono ?_); rintro e U1 ⟨rfl, p1⟩) | ((with_reducible refine store_in_as rfl _ _ rfl (in16 ⟨1, 0, onReg 3, onMem sv (s % 8) (-1) 1, false, 4⟩) (in16_size _) (in16_one _) rfl rfl ?_); intro U2 kI p2))
  have kW2 := (kW.below p1 kW.lt).below p2 (Nat.lt_of_lt_of_le kW.lt p1.size)
  have k9 := (k8.trans (p1.mono k8.size)).trans (p2.mono (Nat.le_trans k8.size p1.size))
  have i0 := kI.cell (i := 0) (v := .int .i64 1) rfl
  have i2 := kI.cell (i := 2) (v := .int .i64 1) rfl
  have i3 := kI.cell (i := 3) (v := .int .i64 3) rfl
  have i4 := kI.cell (i := 4) (v := .int .u32 0) rfl
  have i5 := kI.cell (i := 5) (v := .int .i64 0) rfl
  have i6 := kI.cell (i := 6) (v := .int .i64 0) rfl
  have i7 := kI.cell (i := 7) (v := .int .u32 0) rfl
  have i8 := kI.cell (i := 8) (v := .int .i64 3) rfl
  have q0 := kW2.cell (i := 0) (v := .int .i64 3) rfl
  have i9 := kI.cell (i := 9) (v := .int .i64 0) rfl
  have q1 := kW2.cell (i := 1) (v := .int .i64 0) rfl
  have i10 := kI.cell (i := 10) (v := .int .u32 sv) rfl
  have q2 := kW2.cell (i := 2) (v := .int .u32 sv) rfl
  have i11 := kI.cell (i := 11) (v := .int .i64 (s % 8)) rfl
  have q3 := kW2.cell (i := 3) (v := .int .i64 (s % 8)) rfl
  have i12 := kI.cell (i := 12) (v := .int .i64 (-1)) rfl
  have q4 := kW2.cell (i := 4) (v := .int .i64 (-1)) rfl
  have i13 := kI.cell (i := 13) (v := .int .u32 1) rfl
  have q5 := kW2.cell (i := 5) (v := .int .u32 1) rfl
  go_wp2_with fail
  go_ret
  exact ⟨rfl, k9⟩
set_option maxHeartbeats 4000000 in
set_option maxRecDepth 100000 in
theorem form_I2 (mo rm s d : Int) (hmo : 0 ≤ mo ∧ mo ≤ 255) (hrm : 0 ≤ rm ∧ rm ≤ 255) (hs : 0 ≤ s ∧ s ≤ 255) (hd : 0 ≤ d ∧ d ≤ 4294967295) (hm : mo % 4 = 2) (hkr : rm % 8 = 4) (hx : s / 8 % 8 = 4) (w : World) (tabs : Tabs w) :
    Calls Tryd.prog 5 #[.int .u8 mo, .int .u8 rm, .int .u8 s, .int .u32 d] w fun e w' => e = .returned (.bool true) ∧ Below w.heap.size w w' := by
  have hK := Lib.hid (known_any w tabs)
  have e0 := dec_i (sib_far s d hd)
  rw [show ixM s = -1 from if_pos hx, show scM s = 1 from if_pos hx] at e0
  have a7 := and7_u8 s hs
  have a8 := and7_u8 (s / 8) (by omega)
  have hor : bits .or .u8 152 4 = 156 := by kernel_rfl
  have hor0 : bits .or .u8 128 24 = 152 := by kernel_rfl
  have l0 : LitB #[.int .u8 139, .int .u8 156] [139, 156] 2 := ⟨rfl, by intro u hu; simp at hu; omega, rfl, by decide⟩
  have l1 : LitB #[.int .u8 s] [s] 1 := ⟨rfl, by intro u hu; simp at hu; omega, rfl, by decide⟩
  have hwl : (wB d).length = 4 := rfl
  have l2 : LitB #[.int .u8 (d % 256), .int .u8 (d / 256 % 256), .int .u8 (d / 65536 % 256), .int .u8 (d / 16777216)] (wB d) 4 := ⟨rfl, wB_bd d hd, rfl, by decide⟩
  go_enter Tryd.func5, Tryd.ntmps5
  go_upto_region 4 with ((with_reducible refine hK.out.mono ?_); rintro e W1 ⟨rfl, b1⟩)
  simp only [hm, hkr]
  clear hm hkr
  go_upto_region 5 with fail
  have hB0 := Ba.new W1 l0
  have k0 := b1.alloc b1.size (.cells #[.int .u8 139, .int .u8 156] 5)
  have hBW : W1.heap.size < (W1.alloc (.cells #[.int .u8 139, .int .u8 156] 5)).heap.size := by simp
  generalize W1.alloc (.cells #[.int .u8 139, .int .u8 156] 5) = W2 at *
  generalize W1.heap.size = B at *
  go_upto_region 6 with ((with_reducible refine store_op_as rfl _ _ rfl (op6 (onMem 0 4 (-1) 1)) (op6_size _) (op6_one _) rfl rfl ?_); intro W3 kO c3)
  have hB := hB0.below c3
  have hwk := k0.size
  have k3 := k0.trans (c3.mono k0.size)
  have hK3 := kO.lt
  generalize W2.heap.size = K at *
  clear hB0 k0 c3 b1
  have hA1 := hB.below ((Below.refl _ _).alloc (Nat.le_refl _) (.cells #[.int .u8 s] 5))
  have hS1 := Ba.new W3 l1
  have g3 := (Below.refl W3.heap.size W3).alloc (Nat.le_refl _) (.cells #[.int .u8 s] 5)
  go_upto_region 8 with ((with_reducible refine append_full rfl _ _ rfl B 0 2 [139, 156] [s] rfl hA1 W3.heap.size 0 1 1 rfl hS1 (by decide) (by decide) ?_); intro v1 W4 o1 a4)
  have c4 := g3.trans (a4.mono g3.size)
  have k4 := k3.trans (c4.mono k3.size)
  have kO4 := kO.below c4 kO.lt
  have hN1 : K < (W3.alloc (.cells #[.int .u8 s] 5)).heap.size := Nat.lt_of_lt_of_le hK3 g3.size
  have hN2 := a4.size
  generalize (W3.alloc (.cells #[.int .u8 s] 5)).heap.size = N1 at *
  have d3 := kO4.cell (i := 3) (v := .int .i64 4) rfl
  have d4 := kO4.cell (i := 4) (v := .int .i64 (-1)) rfl
  have d5 := kO4.cell (i := 5) (v := .int .u32 1) rfl
  have f3 := kO4.fr 3
  have f4 := kO4.fr 4
  have f5 := kO4.fr 5
  have hwK : w.heap.size ≤ K := hwk
  clear hA1 hS1 g3 a4 c4 hB
  go_upto_region 11 with fail
  have kO5 : Blk _ _ _ (op6 (onMem 0 (s % 8) (-1) 1)) := (kO4).setB (s % 8)
  have o5 := (o1).cell hN1 3 (.int .i64 (s % 8))
  have k5 := ((But.of (k4) [K]).setCell (p := ⟨K, 3, none⟩) (by simp) (.int .i64 (s % 8))).below (Nat.le_refl _) (by simpa using hwK)
  have hN3 : N1 ≤ ((W4).setCell ⟨K, 3, none⟩ (.int .i64 (s % 8))).heap.size := by simpa [World.setCell] using hN2
  clear d3 d4 d5 f3 f4 f5 kO4 o1 k4 hN2
  generalize (W4).setCell ⟨K, 3, none⟩ (.int .i64 (s % 8)) = W5 at *
  have d3 := kO5.cell (i := 3) (v := .int .i64 (s % 8)) rfl
  have g6 := (Below.refl W5.heap.size W5).alloc (Nat.le_refl _) (.cells #[.int .u8 (d % 256), .int .u8 (d / 256 % 256), .int .u8 (d / 65536 % 256), .int .u8 (d / 16777216)] 5)
  have hS6 := Ba.new W5 l2
  have hlen : ([139, 156] ++ [s]).length + (wB d).length ≤ 100 := by simp [wB]
  have o6 := o5.below g6
  go_upto_region 18 with ((with_reducible refine append_bytes rfl _ _ rfl N1 v1 ([139, 156] ++ [s]) (wB d) rfl o6 (Nat.le_trans hN3 g6.size) (some ⟨W5.heap.size, 0, none⟩) 4 4 rfl hS6 hlen ?_); intro v2 W6 o7 a6)
  have c6 : Below N1 W5 W6 := (g6.mono hN3).trans a6
  have hz6 := Nat.le_trans g6.size a6.size
  have kO6 := kO5.below c6 hN1
  have k6 := k5.trans (c6.mono (Nat.le_trans hwK (Nat.le_of_lt hN1)))
  have d2 := kO6.cell (i := 2) (v := .int .u32 0) rfl
  have f2 := kO6.fr 2
  have d3' := kO6.cell (i := 3) (v := .int .i64 (s % 8)) rfl
  have f3 := kO6.fr 3
  clear d3
  go_upto_region 21 with fail
  have kW : Blk _ _ _ (op6 (onMem d (s % 8) (-1) 1)) := kO6.setM d
  have o8 := o7.cell hN1 2 (.int .u32 d)
  have k8 := ((But.of k6 [K]).setCell (p := ⟨K, 2, none⟩) (by simp) (.int .u32 d)).below (Nat.le_refl _) (by simpa using hwK)
  clear d2 f2 d3' f3
  generalize W6.setCell ⟨K, 2, none⟩ (.int .u32 d) = W8 at *
  obtain ⟨va, vc, rfl, hBv⟩ := o8.ba
  replace hBv : Ba W8 va 7 vc (139 :: 156 :: s :: wB d) := hBv
  have hD := Lib.hid (Decode_any hBv (tabs.below k8))
  replace hD := Lib.hid (show Calls Tryd.prog 10 _ W8 (fun e w' => e = .returned (.tuple #[inV ⟨1, 0, onReg 3, onMem d (s % 8) (-1) 1, false, 7⟩, .int .i64 7, .int .i64 0]) ∧ Below W8.heap.size W8 w') from e0.1 ▸ e0.2 ▸ hD.out)
  go_upto_region 22 with (first | ((with_reducible refine hD.out.mono ?_); rintro e U1 ⟨rfl, p1⟩) | ((with_reducible refine store_in_as rfl _ _ rfl (in16 ⟨1, 0, onReg 3, onMem d (s % 8) (-1) 1, false, 7⟩) (in16_size _) (in16_one _) rfl rfl ?_); intro U2 kI p2))
  have kW2 := (kW.below p1 kW.lt).below p2 (Nat.lt_of_lt_of_le kW.lt p1.size)
  have k9 := (k8.trans (p1.mono k8.size)).trans (p2.mono (Nat.le_trans k8.size p1.size))
  have i0 := kI.cell (i := 0) (v := .int .i64 1) rfl
  have i2 := kI.cell (i := 2) (v := .int .i64 1) rfl
  have i3 := kI.cell (i := 3) (v := .int .i64 3) rfl
  have i4 := kI.cell (i := 4) (v := .int .u32 0) rfl
  have i5 := kI.cell (i := 5) (v := .int .i64 0) rfl
  have i6 := kI.cell (i := 6) (v := .int .i64 0) rfl
  have i7 := kI.cell (i := 7) (v := .int .u32 0) rfl
  have i8 := kI.cell (i := 8) (v := .int .i64 3) rfl
  have q0 := kW2.cell (i := 0) (v := .int .i64 3) rfl
  have i9 := kI.cell (i := 9) (v := .int .i64 0) rfl
  have q1 := kW2.cell (i := 1) (v := .int .i64 0) rfl
  have i10 := kI.cell (i := 10) (v := .int .u32 d) rfl
  have q2 := kW2.cell (i := 2) (v := .int .u32 d) rfl
  have i11 := kI.cell (i := 11) (v := .int .i64 (s % 8)) rfl
  have q3 := kW2.cell (i := 3) (v := .int .i64 (s % 8)) rfl
  have i12 := kI.cell (i := 12) (v := .int .i64 (-1)) rfl
  have q4 := kW2.cell (i := 4) (v := .int .i64 (-1)) rfl
  have i13 := kI.cell (i := 13) (v := .int .u32 1) rfl
  have q5 := kW2.cell (i := 5) (v := .int .u32 1) rfl
  go_wp2_with fail
  go_ret
  exact ⟨rfl, k9⟩
set_option maxHeartbeats 4000000 in
set_option maxRecDepth 100000 in
theorem form_Ia (mo rm s d : Int) (hmo : 0 ≤ mo ∧ mo ≤ 255) (hrm : 0 ≤ rm ∧ rm ≤ 255) (hs : 0 ≤ s ∧ s ≤ 255) (hd : 0 ≤ d ∧ d ≤ 4294967295) (hm : mo % 4 = 0) (hkr : rm % 8 = 4) (hx : s / 8 % 8 = 4) (h5 : s % 8 = 5) (w : World) (tabs : Tabs w) :
    Calls Tryd.prog 5 #[.int .u8 mo, .int .u8 rm, .int .u8 s, .int .u32 d] w fun e w' => e = .returned (.bool true) ∧ Below w.heap.size w w' := by
  have hK := Lib.hid (known_any w tabs)
  have e0 := dec_i (sib_abs s d hd h5)
  rw [show ixM s = -1 from if_pos hx, show scM s = 1 from if_pos hx] at e0
  have a7 := and7_u8 s hs
  have a8 := and7_u8 (s / 8) (by omega)
  have hor : bits .or .u8 24 4 = 28 := by kernel_rfl
  have hor0 : bits .or .u8 0 24 = 24 := by kernel_rfl
  have l0 : LitB #[.int .u8 139, .int .u8 28] [139, 28] 2 := ⟨rfl, by intro u hu; simp at hu; omega, rfl, by decide⟩
  have l1 : LitB #[.int .u8 s] [s] 1 := ⟨rfl, by intro u hu; simp at hu; omega, rfl, by decide⟩
  have hwl : (wB d).length = 4 := rfl
  have l2 : LitB #[.int .u8 (d % 256), .int .u8 (d / 256 % 256), .int .u8 (d / 65536 % 256), .int .u8 (d / 16777216)] (wB d) 4 := ⟨rfl, wB_bd d hd, rfl, by decide⟩
  go_enter Tryd.func5, Tryd.ntmps5
  go_upto_region 4 with ((with_reducible refine hK.out.mono ?_); rintro e W1 ⟨rfl, b1⟩)
  simp only [hm, hkr]
  clear hm hkr
  go_upto_region 5 with fail
  have hB0 := Ba.new W1 l0
  have k0 := b1.alloc b1.size (.cells #[.int .u8 139, .int .u8 28] 5)
  have hBW : W1.heap.size < (W1.alloc (.cells #[.int .u8 139, .int .u8 28] 5)).heap.size := by simp
  generalize W1.alloc (.cells #[.int .u8 139, .int .u8 28] 5) = W2 at *
  generalize W1.heap.size = B at *
  go_upto_region 6 with ((with_reducible refine store_op_as rfl _ _ rfl (op6 (onMem 0 4 (-1) 1)) (op6_size _) (op6_one _) rfl rfl ?_); intro W3 kO c3)
  have hB := hB0.below c3
  have hwk := k0.size
  have k3 := k0.trans (c3.mono k0.size)
  have hK3 := kO.lt
  generalize W2.heap.size = K at *
  clear hB0 k0 c3 b1
  have hA1 := hB.below ((Below.refl _ _).alloc (Nat.le_refl _) (.cells #[.int .u8 s] 5))
  have hS1 := Ba.new W3 l1
  have g3 := (Below.refl W3.heap.size W3).alloc (Nat.le_refl _) (.cells #[.int .u8 s] 5)
  go_upto_region 8 with ((with_reducible refine append_full rfl _ _ rfl B 0 2 [139, 28] [s] rfl hA1 W3.heap.size 0 1 1 rfl hS1 (by decide) (by decide) ?_); intro v1 W4 o1 a4)
  have c4 := g3.trans (a4.mono g3.size)
  have k4 := k3.trans (c4.mono k3.size)
  have kO4 := kO.below c4 kO.lt
  have hN1 : K < (W3.alloc (.cells #[.int .u8 s] 5)).heap.size := Nat.lt_of_lt_of_le hK3 g3.size
  have hN2 := a4.size
  generalize (W3.alloc (.cells #[.int .u8 s] 5)).heap.size = N1 at *
  have d3 := kO4.cell (i := 3) (v := .int .i64 4) rfl
  have d4 := kO4.cell (i := 4) (v := .int .i64 (-1)) rfl
  have d5 := kO4.cell (i := 5) (v := .int .u32 1) rfl
  have f3 := kO4.fr 3
  have f4 := kO4.fr 4
  have f5 := kO4.fr 5
  have hwK : w.heap.size ≤ K := hwk
  clear hA1 hS1 g3 a4 c4 hB
  go_upto_region 11 with fail
  have kO5 : Blk _ _ _ (op6 (onMem 0 (5) (-1) 1)) := (kO4).setB (5)
  have o5 := (o1).cell hN1 3 (.int .i64 (5))
  have k5 := ((But.of (k4) [K]).setCell (p := ⟨K, 3, none⟩) (by simp) (.int .i64 (5))).below (Nat.le_refl _) (by simpa using hwK)
  have hN3 : N1 ≤ ((W4).setCell ⟨K, 3, none⟩ (.int .i64 (5))).heap.size := by simpa [World.setCell] using hN2
  clear d3 d4 d5 f3 f4 f5 kO4 o1 k4 hN2
  generalize (W4).setCell ⟨K, 3, none⟩ (.int .i64 (5)) = W5 at *
  have d3 := kO5.cell (i := 3) (v := .int .i64 (5)) rfl
  have g6 := (Below.refl W5.heap.size W5).alloc (Nat.le_refl _) (.cells #[.int .u8 (d % 256), .int .u8 (d / 256 % 256), .int .u8 (d / 65536 % 256), .int .u8 (d / 16777216)] 5)
  have hS6 := Ba.new W5 l2
  have hlen : ([139, 28] ++ [s]).length + (wB d).length ≤ 100 := by simp [wB]
  have o6 := o5.below g6
  go_upto_region 18 with ((with_reducible refine append_bytes rfl _ _ rfl N1 v1 ([139, 28] ++ [s]) (wB d) rfl o6 (Nat.le_trans hN3 g6.size) (some ⟨W5.heap.size, 0, none⟩) 4 4 rfl hS6 hlen ?_); intro v2 W6 o7 a6)
  have c6 : Below N1 W5 W6 := (g6.mono hN3).trans a6
  have hz6 := Nat.le_trans g6.size a6.size
  have kO6 := kO5.below c6 hN1
  have k6 := k5.trans (c6.mono (Nat.le_trans hwK (Nat.le_of_lt hN1)))
  have d2 := kO6.cell (i := 2) (v := .int .u32 0) rfl
  have f2 := kO6.fr 2
  have d3' := kO6.cell (i := 3) (v := .int .i64 (5)) rfl
  have f3 := kO6.fr 3
  clear d3
  go_upto_region 21 with fail
  have kW : Blk _ _ _ (op6 (onMem d (-1) (-1) 1)) := (kO6.setM d).setB (-1)
  have o8 := (o7.cell hN1 2 (.int .u32 d)).cell hN1 3 (.int .i64 (-1))
  have k8 := ((But.of (((But.of k6 [K]).setCell (p := ⟨K, 2, none⟩) (by simp) (.int .u32 d)).below (Nat.le_refl _) (by simpa using hwK)) [K]).setCell (p := ⟨K, 3, none⟩) (by simp) (.int .i64 (-1))).below (Nat.le_refl _) (by simpa using hwK)
  clear d2 f2 d3' f3
  generalize (W6.setCell ⟨K, 2, none⟩ (.int .u32 d)).setCell ⟨K, 3, none⟩ (.int .i64 (-1)) = W8 at *
  obtain ⟨va, vc, rfl, hBv⟩ := o8.ba
  replace hBv : Ba W8 va 7 vc (139 :: 28 :: s :: wB d) := hBv
  have hD := Lib.hid (Decode_any hBv (tabs.below k8))
  replace hD := Lib.hid (show Calls Tryd.prog 10 _ W8 (fun e w' => e = .returned (.tuple #[inV ⟨1, 0, onReg 3, onMem d (-1) (-1) 1, false, 7⟩, .int .i64 7, .int .i64 0]) ∧ Below W8.heap.size W8 w') from e0.1 ▸ e0.2 ▸ hD.out)
  go_upto_region 22 with (first | ((with_reducible refine hD.out.mono ?_); rintro e U1 ⟨rfl, p1⟩) | ((with_reducible refine store_in_as rfl _ _ rfl (in16 ⟨1, 0, onReg 3, onMem d (-1) (-1) 1, false, 7⟩) (in16_size _) (in16_one _) rfl rfl ?_); intro U2 kI p2))
  have kW2 := (kW.below p1 kW.lt).below p2 (Nat.lt_of_lt_of_le kW.lt p1.size)
  have k9 := (k8.trans (p1.mono k8.size)).trans (p2.mono (Nat.le_trans k8.size p1.size))
  have i0 := kI.cell (i := 0) (v := .int .i64 1) rfl
  have i2 := kI.cell (i := 2) (v := .int .i64 1) rfl
  have i3 := kI.cell (i := 3) (v := .int .i64 3) rfl
  have i4 := kI.cell (i := 4) (v := .int .u32 0) rfl
  have i5 := kI.cell (i := 5) (v := .int .i64 0) rfl
  have i6 := kI.cell (i := 6) (v := .int .i64 0) rfl
  have i7 := kI.cell (i := 7) (v := .int .u32 0) rfl
  have i8 := kI.cell (i := 8) (v := .int .i64 3) rfl
  have q0 := kW2.cell (i := 0) (v := .int .i64 3) rfl
  have i9 := kI.cell (i := 9) (v := .int .i64 0) rfl
  have q1 := kW2.cell (i := 1) (v := .int .i64 0) rfl
  have i10 := kI.cell (i := 10) (v := .int .u32 d) rfl
  have q2 := kW2.cell (i := 2) (v := .int .u32 d) rfl
  have i11 := kI.cell (i := 11) (v := .int .i64 (-1)) rfl
  have q3 := kW2.cell (i := 3) (v := .int .i64 (-1)) rfl
  have i12 := kI.cell (i := 12) (v := .int .i64 (-1)) rfl
  have q4 := kW2.cell (i := 4) (v := .int .i64 (-1)) rfl
  have i13 := kI.cell (i := 13) (v := .int .u32 1) rfl
  have q5 := kW2.cell (i := 5) (v := .int .u32 1) rfl
  go_wp2_with fail
  go_ret
  exact ⟨rfl, k9⟩
set_option maxHeartbeats 4000000 in
set_option maxRecDepth 100000 in
theorem form_Ib (mo rm s d : Int) (hmo : 0 ≤ mo ∧ mo ≤ 255) (hrm : 0 ≤ rm ∧ rm ≤ 255) (hs : 0 ≤ s ∧ s ≤ 255) (hd : 0 ≤ d ∧ d ≤ 4294967295) (hm : mo % 4 = 0) (hkr : rm % 8 = 4) (hx : s / 8 % 8 = 4) (h5 : ¬ s % 8 = 5) (w : World) (tabs : Tabs w) :
    Calls Tryd.prog 5 #[.int .u8 mo, .int .u8 rm, .int .u8 s, .int .u32 d] w fun e w' => e = .returned (.bool true) ∧ Below w.heap.size w w' := by
  have hK := Lib.hid (known_any w tabs)
  have e0 := dec_i (sib_here s h5)
  rw [show ixM s = -1 from if_pos hx, show scM s = 1 from if_pos hx] at e0
  have a7 := and7_u8 s hs
  have a8 := and7_u8 (s / 8) (by omega)
  have hor : bits .or .u8 24 4 = 28 := by kernel_rfl
  have hor0 : bits .or .u8 0 24 = 24 := by kernel_rfl
  have l0 : LitB #[.int .u8 139, .int .u8 28] [139, 28] 2 := ⟨rfl, by intro u hu; simp at hu; omega, rfl, by decide⟩
  have l1 : LitB #[.int .u8 s] [s] 1 := ⟨rfl, by intro u hu; simp at hu; omega, rfl, by decide⟩
  go_enter Tryd.func5, Tryd.ntmps5
  go_upto_region 4 with ((with_reducible refine hK.out.mono ?_); rintro e W1 ⟨rfl, b1⟩)
  simp only [hm, hkr]
  clear hm hkr
  go_upto_region 5 with fail
  have hB0 := Ba.new W1 l0
  have k0 := b1.alloc b1.size (.cells #[.int .u8 139, .int .u8 28] 5)
  have hBW : W1.heap.size < (W1.alloc (.cells #[.int .u8 139, .int .u8 28] 5)).heap.size := by simp
  generalize W1.alloc (.cells #[.int .u8 139, .int .u8 28] 5) = W2 at *
  generalize W1.heap.size = B at *
  go_upto_region 6 with ((with_reducible refine store_op_as rfl _ _ rfl (op6 (onMem 0 4 (-1) 1)) (op6_size _) (op6_one _) rfl rfl ?_); intro W3 kO c3)
  have hB := hB0.below c3
  have hwk := k0.size
  have k3 := k0.trans (c3.mono k0.size)
  have hK3 := kO.lt
  generalize W2.heap.size = K at *
  clear hB0 k0 c3 b1
  have hA1 := hB.below ((Below.refl _ _).alloc (Nat.le_refl _) (.cells #[.int .u8 s] 5))
  have hS1 := Ba.new W3 l1
  have g3 := (Below.refl W3.heap.size W3).alloc (Nat.le_refl _) (.cells #[.int .u8 s] 5)
  go_upto_region 8 with ((with_reducible refine append_full rfl _ _ rfl B 0 2 [139, 28] [s] rfl hA1 W3.heap.size 0 1 1 rfl hS1 (by decide) (by decide) ?_); intro v1 W4 o1 a4)
  have c4 := g3.trans (a4.mono g3.size)
  have k4 := k3.trans (c4.mono k3.size)
  have kO4 := kO.below c4 kO.lt
  have hN1 : K < (W3.alloc (.cells #[.int .u8 s] 5)).heap.size := Nat.lt_of_lt_of_le hK3 g3.size
  have hN2 := a4.size
  generalize (W3.alloc (.cells #[.int .u8 s] 5)).heap.size = N1 at *
  have d3 := kO4.cell (i := 3) (v := .int .i64 4) rfl
  have d4 := kO4.cell (i := 4) (v := .int .i64 (-1)) rfl
  have d5 := kO4.cell (i := 5) (v := .int .u32 1) rfl
  have f3 := kO4.fr 3
  have f4 := kO4.fr 4
  have f5 := kO4.fr 5
  have hwK : w.heap.size ≤ K := hwk
  clear hA1 hS1 g3 a4 c4 hB
  go_upto_region 11 with fail
  have kO5 : Blk _ _ _ (op6 (onMem 0 (s % 8) (-1) 1)) := (kO4).setB (s % 8)
  have o5 := (o1).cell hN1 3 (.int .i64 (s % 8))
  have k5 := ((But.of (k4) [K]).setCell (p := ⟨K, 3, none⟩) (by simp) (.int .i64 (s % 8))).below (Nat.le_refl _) (by simpa using hwK)
  have hN3 : N1 ≤ ((W4).setCell ⟨K, 3, none⟩ (.int .i64 (s % 8))).heap.size := by simpa [World.setCell] using hN2
  clear d3 d4 d5 f3 f4 f5 kO4 o1 k4 hN2
  generalize (W4).setCell ⟨K, 3, none⟩ (.int .i64 (s % 8)) = W5 at *
  have d3 := kO5.cell (i := 3) (v := .int .i64 (s % 8)) rfl
  go_upto_region 21 with fail
  have kW := kO5
  have k8 := k5
  obtain ⟨va, vc, rfl, hBv⟩ := o5.ba
  replace hBv : Ba W5 va 3 vc ([139, 28, s]) := hBv
  have hD := Lib.hid (Decode_any hBv (tabs.below k8))
  replace hD := Lib.hid (show Calls Tryd.prog 10 _ W5 (fun e w' => e = .returned (.tuple #[inV ⟨1, 0, onReg 3, onMem 0 (s % 8) (-1) 1, false, 3⟩, .int .i64 3, .int .i64 0]) ∧ Below W5.heap.size W5 w') from e0.1 ▸ e0.2 ▸ hD.out)
  go_upto_region 22 with (first | ((with_reducible refine hD.out.mono ?_); rintro e U1 ⟨rfl, p1⟩) | ((with_reducible refine store_in_as rfl _ _ rfl (in16 ⟨1, 0, onReg 3, onMem 0 (s % 8) (-1) 1, false, 3⟩) (in16_size _) (in16_one _) rfl rfl ?_); intro U2 kI p2))
  have kW2 := (kW.below p1 kW.lt).below p2 (Nat.lt_of_lt_of_le kW.lt p1.size)
  have k9 := (k8.trans (p1.mono k8.size)).trans (p2.mono (Nat.le_trans k8.size p1.size))
  have i0 := kI.cell (i := 0) (v := .int .i64 1) rfl
  have i2 := kI.cell (i := 2) (v := .int .i64 1) rfl
  have i3 := kI.cell (i := 3) (v := .int .i64 3) rfl
  have i4 := kI.cell (i := 4) (v := .int .u32 0) rfl
  have i5 := kI.cell (i := 5) (v := .int .i64 0) rfl
  have i6 := kI.cell (i := 6) (v := .int .i64 0) rfl
  have i7 := kI.cell (i := 7) (v := .int .u32 0) rfl
  have i8 := kI.cell (i := 8) (v := .int .i64 3) rfl
  have q0 := kW2.cell (i := 0) (v := .int .i64 3) rfl
  have i9 := kI.cell (i := 9) (v := .int .i64 0) rfl
  have q1 := kW2.cell (i := 1) (v := .int .i64 0) rfl
  have i10 := kI.cell (i := 10) (v := .int .u32 0) rfl
  have q2 := kW2.cell (i := 2) (v := .int .u32 0) rfl
  have i11 := kI.cell (i := 11) (v := .int .i64 (s % 8)) rfl
  have q3 := kW2.cell (i := 3) (v := .int .i64 (s % 8)) rfl
  have i12 := kI.cell (i := 12) (v := .int .i64 (-1)) rfl
  have q4 := kW2.cell (i := 4) (v := .int .i64 (-1)) rfl
  have i13 := kI.cell (i := 13) (v := .int .u32 1) rfl
  have q5 := kW2.cell (i := 5) (v := .int .u32 1) rfl
  go_wp2_with fail
  go_ret
  exact ⟨rfl, k9⟩
set_option maxHeartbeats 4000000 in
set_option maxRecDepth 100000 in
theorem form_X1 (mo rm s d : Int) (hmo : 0 ≤ mo ∧ mo ≤ 255) (hrm : 0 ≤ rm ∧ rm ≤ 255) (hs : 0 ≤ s ∧ s ≤ 255) (hd : 0 ≤ d ∧ d ≤ 4294967295) (hm : mo % 4 = 1) (hkr : rm % 8 = 4) (hx : ¬ s / 8 % 8 = 4) (w : World) (tabs : Tabs w) :
    Calls Tryd.prog 5 #[.int .u8 mo, .int .u8 rm, .int .u8 s, .int .u32 d] w fun e w' => e = .returned (.bool true) ∧ Below w.heap.size w w' := by
  have hK := Lib.hid (known_any w tabs)
  have e0 := dec_i (sib_near s (d % 256))
  rw [sx_mod] at e0
  have hsx := sx_mod3 d
  generalize hsx0 : IntKind.i8.wrap d % 4294967296 = sv at *
  have hsx' : wrap32 (IntKind.i8.wrap d) % 4294967296 = sv := (sx_mod4 d).trans hsx0
  rw [show ixM s = s / 8 % 8 from if_neg hx, show scM s = 2 ^ (s / 64).toNat from (if_neg hx).trans (by rw [show s / 64 % 4 = s / 64 by omega])] at e0
  have hp := scale_fits s hs
  have a7 := and7_u8 s hs
  have a8 := and7_u8 (s / 8) (by omega)
  have hor : bits .or .u8 88 4 = 92 := by kernel_rfl
  have hor0 : bits .or .u8 64 24 = 88 := by kernel_rfl
  have l0 : LitB #[.int .u8 139, .int .u8 92] [139, 92] 2 := ⟨rfl, by intro u hu; simp at hu; omega, rfl, by decide⟩
  have l1 : LitB #[.int .u8 s] [s] 1 := ⟨rfl, by intro u hu; simp at hu; omega, rfl, by decide⟩
  have l2 : LitB #[.int .u8 (d % 256)] [d % 256] 1 := ⟨rfl, by intro u hu; simp at hu; omega, rfl, by decide⟩
  go_enter Tryd.func5, Tryd.ntmps5
  go_upto_region 4 with ((with_reducible refine hK.out.mono ?_); rintro e W1 ⟨rfl, b1⟩)
  simp only [hm, hkr]
  clear hm hkr
  go_upto_region 5 with fail
  have hB0 := Ba.new W1 l0
  have k0 := b1.alloc b1.size (.cells #[.int .u8 139, .int .u8 92] 5)
  have hBW : W1.heap.size < (W1.alloc (.cells #[.int .u8 139, .int .u8 92] 5)).heap.size := by simp
  generalize W1.alloc (.cells #[.int .u8 139, .int .u8 92] 5) = W2 at *
  generalize W1.heap.size = B at *
  go_upto_region 6 with ((with_reducible refine store_op_as rfl _ _ rfl (op6 (onMem 0 4 (-1) 1)) (op6_size _) (op6_one _) rfl rfl ?_); intro W3 kO c3)
  have hB := hB0.below c3
  have hwk := k0.size
  have k3 := k0.trans (c3.mono k0.size)
  have hK3 := kO.lt
  generalize W2.heap.size = K at *
  clear hB0 k0 c3 b1
  have hA1 := hB.below ((Below.refl _ _).alloc (Nat.le_refl _) (.cells #[.int .u8 s] 5))
  have hS1 := Ba.new W3 l1
  have g3 := (Below.refl W3.heap.size W3).alloc (Nat.le_refl _) (.cells #[.int .u8 s] 5)
  go_upto_region 8 with ((with_reducible refine append_full rfl _ _ rfl B 0 2 [139, 92] [s] rfl hA1 W3.heap.size 0 1 1 rfl hS1 (by decide) (by decide) ?_); intro v1 W4 o1 a4)
  have c4 := g3.trans (a4.mono g3.size)
  have k4 := k3.trans (c4.mono k3.size)
  have kO4 := kO.below c4 kO.lt
  have hN1 : K < (W3.alloc (.cells #[.int .u8 s] 5)).heap.size := Nat.lt_of_lt_of_le hK3 g3.size
  have hN2 := a4.size
  generalize (W3.alloc (.cells #[.int .u8 s] 5)).heap.size = N1 at *
  have d3 := kO4.cell (i := 3) (v := .int .i64 4) rfl
  have d4 := kO4.cell (i := 4) (v := .int .i64 (-1)) rfl
  have d5 := kO4.cell (i := 5) (v := .int .u32 1) rfl
  have f3 := kO4.fr 3
  have f4 := kO4.fr 4
  have f5 := kO4.fr 5
  have hwK : w.heap.size ≤ K := hwk
  clear hA1 hS1 g3 a4 c4 hB
  go_upto_region 11 with fail
  have kO5 : Blk _ _ _ (op6 (onMem 0 (s % 8) ((s / 8 % 8)) (2 ^ (s / 64).toNat))) := (((kO4).setB (s % 8)).setX (s / 8 % 8)).setS (2 ^ (s / 64).toNat)
  have o5 := (((o1).cell hN1 3 (.int .i64 (s % 8))).cell hN1 4 (.int .i64 (s / 8 % 8))).cell hN1 5 (.int .u32 (2 ^ (s / 64).toNat))
  have k5 := ((But.of (((But.of (((But.of (k4) [K]).setCell (p := ⟨K, 3, none⟩) (by simp) (.int .i64 (s % 8))).below (Nat.le_refl _) (by simpa using hwK)) [K]).setCell (p := ⟨K, 4, none⟩) (by simp) (.int .i64 (s / 8 % 8))).below (Nat.le_refl _) (by simpa using hwK)) [K]).setCell (p := ⟨K, 5, none⟩) (by simp) (.int .u32 (2 ^ (s / 64).toNat))).below (Nat.le_refl _) (by simpa using hwK)
  have hN3 : N1 ≤ ((((W4).setCell ⟨K, 3, none⟩ (.int .i64 (s % 8))).setCell ⟨K, 4, none⟩ (.int .i64 (s / 8 % 8))).setCell ⟨K, 5, none⟩ (.int .u32 (2 ^ (s / 64).toNat))).heap.size := by simpa [World.setCell] using hN2
  clear d3 d4 d5 f3 f4 f5 kO4 o1 k4 hN2
  generalize (((W4).setCell ⟨K, 3, none⟩ (.int .i64 (s % 8))).setCell ⟨K, 4, none⟩ (.int .i64 (s / 8 % 8))).setCell ⟨K, 5, none⟩ (.int .u32 (2 ^ (s / 64).toNat)) = W5 at *
  have d3 := kO5.cell (i := 3) (v := .int .i64 (s % 8)) rfl
  have g6 := (Below.refl W5.heap.size W5).alloc (Nat.le_refl _) (.cells #[.int .u8 (d % 256)] 5)
  have hS6 := Ba.new W5 l2
  have hlen : ([139, 92] ++ [s]).length + ([d % 256]).length ≤ 100 := by simp [wB]
  have o6 := o5.below g6
  go_upto_region 15 with ((with_reducible refine append_bytes rfl _ _ rfl N1 v1 ([139, 92] ++ [s]) ([d % 256]) rfl o6 (Nat.le_trans hN3 g6.size) (some ⟨W5.heap.size, 0, none⟩) 1 1 rfl hS6 hlen ?_); intro v2 W6 o7 a6)
  have c6 : Below N1 W5 W6 := (g6.mono hN3).trans a6
  have hz6 := Nat.le_trans g6.size a6.size
  have kO6 := kO5.below c6 hN1
  have k6 := k5.trans (c6.mono (Nat.le_trans hwK (Nat.le_of_lt hN1)))
  have d2 := kO6.cell (i := 2) (v := .int .u32 0) rfl
  have f2 := kO6.fr 2
  have d3' := kO6.cell (i := 3) (v := .int .i64 (s % 8)) rfl
  have f3 := kO6.fr 3
  clear d3
  go_upto_region 21 with fail
  have kW : Blk _ _ _ (op6 (onMem sv (s % 8) ((s / 8 % 8)) (2 ^ (s / 64).toNat))) := kO6.setM sv
  have o8 := o7.cell hN1 2 (.int .u32 sv)
  have k8 := ((But.of k6 [K]).setCell (p := ⟨K, 2, none⟩) (by simp) (.int .u32 sv)).below (Nat.le_refl _) (by simpa using hwK)
  clear d2 f2 d3' f3
  generalize W6.setCell ⟨K, 2, none⟩ (.int .u32 sv) = W8 at *
  obtain ⟨va, vc, rfl, hBv⟩ := o8.ba
  replace hBv : Ba W8 va 4 vc ([139, 92, s, d % 256]) := hBv
  have hD := Lib.hid (Decode_any hBv (tabs.below k8))
  replace hD := Lib.hid (show Calls Tryd.prog 10 _ W8 (fun e w' => e = .returned (.tuple #[inV ⟨1, 0, onReg 3, onMem sv (s % 8) ((s / 8 % 8)) (2 ^ (s / 64).toNat), false, 4⟩, .int .i64 4, .int .i64 0]) ∧ Below W8.heap.size W8 w') from e0.1 ▸ e0.2 ▸ hD.out)
  go_upto_region 22 with (first | ((with_reducible refine hD.out.mono ?_); rintro e U1 ⟨rfl, p1⟩) | ((with_reducible refine store_in_as rfl _ _ rfl (in16 ⟨1, 0, onReg 3, onMem sv (s % 8) ((s / 8 % 8)) (2 ^ (s / 64).toNat), false, 4⟩) (in16_size _) (in16_one _) rfl rfl ?_); intro U2 kI p2))
  have kW2 := (kW.below p1 kW.lt).below p2 (Nat.lt_of_lt_of_le kW.lt p1.size)
  have k9 := (k8.trans (p1.mono k8.size)).trans (p2.mono (Nat.le_trans k8.size p1.size))
  have i0 := kI.cell (i := 0) (v := .int .i64 1) rfl
  have i2 := kI.cell (i := 2) (v := .int .i64 1) rfl
  have i3 := kI.cell (i := 3) (v := .int .i64 3) rfl
  have i4 := kI.cell (i := 4) (v := .int .u32 0) rfl
  have i5 := kI.cell (i := 5) (v := .int .i64 0) rfl
  have i6 := kI.cell (i := 6) (v := .int .i64 0) rfl
  have i7 := kI.cell (i := 7) (v := .int .u32 0) rfl
  have i8 := kI.cell (i := 8) (v := .int .i64 3) rfl
  have q0 := kW2.cell (i := 0) (v := .int .i64 3) rfl
  have i9 := kI.cell (i := 9) (v := .int .i64 0) rfl
  have q1 := kW2.cell (i := 1) (v := .int .i64 0) rfl
  have i10 := kI.cell (i := 10) (v := .int .u32 sv) rfl
  have q2 := kW2.cell (i := 2) (v := .int .u32 sv) rfl
  have i11 := kI.cell (i := 11) (v := .int .i64 (s % 8)) rfl
  have q3 := kW2.cell (i := 3) (v := .int .i64 (s % 8)) rfl
  have i12 := kI.cell (i := 12) (v := .int .i64 ((s / 8 % 8))) rfl
  have q4 := kW2.cell (i := 4) (v := .int .i64 ((s / 8 % 8))) rfl
  have i13 := kI.cell (i := 13) (v := .int .u32 (2 ^ (s / 64).toNat)) rfl
  have q5 := kW2.cell (i := 5) (v := .int .u32 (2 ^ (s / 64).toNat)) rfl
  go_wp2_with fail
  go_ret
  exact ⟨rfl, k9⟩
set_option maxHeartbeats 4000000 in
set_option maxRecDepth 100000 in
theorem form_X2 (mo rm s d : Int) (hmo : 0 ≤ mo ∧ mo ≤ 255) (hrm : 0 ≤ rm ∧ rm ≤ 255) (hs : 0 ≤ s ∧ s ≤ 255) (hd : 0 ≤ d ∧ d ≤ 4294967295) (hm : mo % 4 = 2) (hkr : rm % 8 = 4) (hx : ¬ s / 8 % 8 = 4) (w : World) (tabs : Tabs w) :
    Calls Tryd.prog 5 #[.int .u8 mo, .int .u8 rm, .int .u8 s, .int .u32 d] w fun e w' => e = .returned (.bool true) ∧ Below w.heap.size w w' := by
  have hK := Lib.hid (known_any w tabs)
  have e0 := dec_i (sib_far s d hd)
  rw [show ixM s = s / 8 % 8 from if_neg hx, show scM s = 2 ^ (s / 64).toNat from (if_neg hx).trans (by rw [show s / 64 % 4 = s / 64 by omega])] at e0
  have hp := scale_fits s hs
  have a7 := and7_u8 s hs
  have a8 := and7_u8 (s / 8) (by omega)
  have hor : bits .or .u8 152 4 = 156 := by kernel_rfl
  have hor0 : bits .or .u8 128 24 = 152 := by kernel_rfl
  have l0 : LitB #[.int .u8 139, .int .u8 156] [139, 156] 2 := ⟨rfl, by intro u hu; simp at hu; omega, rfl, by decide⟩
  have l1 : LitB #[.int .u8 s] [s] 1 := ⟨rfl, by intro u hu; simp at hu; omega, rfl, by decide⟩
  have hwl : (wB d).length = 4 := rfl
  have l2 : LitB #[.int .u8 (d % 256), .int .u8 (d / 256 % 256), .int .u8 (d / 65536 % 256), .int .u8 (d / 16777216)] (wB d) 4 := ⟨rfl, wB_bd d hd, rfl, by decide⟩
  go_enter Tryd.func5, Tryd.ntmps5
  go_upto_region 4 with ((with_reducible refine hK.out.mono ?_); rintro e W1 ⟨rfl, b1⟩)
  simp only [hm, hkr]
  clear hm hkr
  go_upto_region 5 with fail
  have hB0 := Ba.new W1 l0
  have k0 := b1.alloc b1.size (.cells #[.int .u8 139, .int .u8 156] 5)
  have hBW : W1.heap.size < (W1.alloc (.cells #[.int .u8 139, .int .u8 156] 5)).heap.size := by simp
  generalize W1.alloc (.cells #[.int .u8 139, .int .u8 156] 5) = W2 at *
  generalize W1.heap.size = B at *
  go_upto_region 6 with ((with_reducible refine store_op_as rfl _ _ rfl (op6 (onMem 0 4 (-1) 1)) (op6_size _) (op6_one _) rfl rfl ?_); intro W3 kO c3)
  have hB := hB0.below c3
  have hwk := k0.size
  have k3 := k0.trans (c3.mono k0.size)
  have hK3 := kO.lt
  generalize W2.heap.size = K at *
  clear hB0 k0 c3 b1
  have hA1 := hB.below ((Below.refl _ _).alloc (Nat.le_refl _) (.cells #[.int .u8 s] 5))
  have hS1 := Ba.new W3 l1
  have g3 := (Below.refl W3.heap.size W3).alloc (Nat.le_refl _) (.cells #[.int .u8 s] 5)
  go_upto_region 8 with ((with_reducible refine append_full rfl _ _ rfl B 0 2 [139, 156] [s] rfl hA1 W3.heap.size 0 1 1 rfl hS1 (by decide) (by decide) ?_); intro v1 W4 o1 a4)
  have c4 := g3.trans (a4.mono g3.size)
  have k4 := k3.trans (c4.mono k3.size)
  have kO4 := kO.below c4 kO.lt
  have hN1 : K < (W3.alloc (.cells #[.int .u8 s] 5)).heap.size := Nat.lt_of_lt_of_le hK3 g3.size
  have hN2 := a4.size
  generalize (W3.alloc (.cells #[.int .u8 s] 5)).heap.size = N1 at *
  have d3 := kO4.cell (i := 3) (v := .int .i64 4) rfl
  have d4 := kO4.cell (i := 4) (v := .int .i64 (-1)) rfl
  have d5 := kO4.cell (i := 5) (v := .int .u32 1) rfl
  have f3 := kO4.fr 3
  have f4 := kO4.fr 4
  have f5 := kO4.fr 5
  have hwK : w.heap.size ≤ K := hwk
  clear hA1 hS1 g3 a4 c4 hB
  go_upto_region 11 with fail
  have kO5 : Blk _ _ _ (op6 (onMem 0 (s % 8) ((s / 8 % 8)) (2 ^ (s / 64).toNat))) := (((kO4).setB (s % 8)).setX (s / 8 % 8)).setS (2 ^ (s / 64).toNat)
  have o5 := (((o1).cell hN1 3 (.int .i64 (s % 8))).cell hN1 4 (.int .i64 (s / 8 % 8))).cell hN1 5 (.int .u32 (2 ^ (s / 64).toNat))
  have k5 := ((But.of (((But.of (((But.of (k4) [K]).setCell (p := ⟨K, 3, none⟩) (by simp) (.int .i64 (s % 8))).below (Nat.le_refl _) (by simpa using hwK)) [K]).setCell (p := ⟨K, 4, none⟩) (by simp) (.int .i64 (s / 8 % 8))).below (Nat.le_refl _) (by simpa using hwK)) [K]).setCell (p := ⟨K, 5, none⟩) (by simp) (.int .u32 (2 ^ (s / 64).toNat))).below (Nat.le_refl _) (by simpa using hwK)
  have hN3 : N1 ≤ ((((W4).setCell ⟨K, 3, none⟩ (.int .i64 (s % 8))).setCell ⟨K, 4, none⟩ (.int .i64 (s / 8 % 8))).setCell ⟨K, 5, none⟩ (.int .u32 (2 ^ (s / 64).toNat))).heap.size := by simpa [World.setCell] using hN2
  clear d3 d4 d5 f3 f4 f5 kO4 o1 k4 hN2
  generalize (((W4).setCell ⟨K, 3, none⟩ (.int .i64 (s % 8))).setCell ⟨K, 4, none⟩ (.int .i64 (s / 8 % 8))).setCell ⟨K, 5, none⟩ (.int .u32 (2 ^ (s / 64).toNat)) = W5 at *
  have d3 := kO5.cell (i := 3) (v := .int .i64 (s % 8)) rfl
  have g6 := (Below.refl W5.heap.size W5).alloc (Nat.le_refl _) (.cells #[.int .u8 (d % 256), .int .u8 (d / 256 % 256), .int .u8 (d / 65536 % 256), .int .u8 (d / 16777216)] 5)
  have hS6 := Ba.new W5 l2
  have hlen : ([139, 156] ++ [s]).length + (wB d).length ≤ 100 := by simp [wB]
  have o6 := o5.below g6
  go_upto_region 18 with ((with_reducible refine append_bytes rfl _ _ rfl N1 v1 ([139, 156] ++ [s]) (wB d) rfl o6 (Nat.le_trans hN3 g6.size) (some ⟨W5.heap.size, 0, none⟩) 4 4 rfl hS6 hlen ?_); intro v2 W6 o7 a6)
  have c6 : Below N1 W5 W6 := (g6.mono hN3).trans a6
  have hz6 := Nat.le_trans g6.size a6.size
  have kO6 := kO5.below c6 hN1
  have k6 := k5.trans (c6.mono (Nat.le_trans hwK (Nat.le_of_lt hN1)))
  have d2 := kO6.cell (i := 2) (v := .int .u32 0) rfl
  have f2 := kO6.fr 2
  have d3' := kO6.cell (i := 3) (v := .int .i64 (s % 8)) rfl
  have f3 := kO6.fr 3
  clear d3
  go_upto_region 21 with fail
  have kW : Blk _ _ _ (op6 (onMem d (s % 8) ((s / 8 % 8)) (2 ^ (s / 64).toNat))) := kO6.setM d
  have o8 := o7.cell hN1 2 (.int .u32 d)
  have k8 := ((But.of k6 [K]).setCell (p := ⟨K, 2, none⟩) (by simp) (.int .u32 d)).below (Nat.le_refl _) (by simpa using hwK)
  clear d2 f2 d3' f3
  generalize W6.setCell ⟨K, 2, none⟩ (.int .u32 d) = W8 at *
  obtain ⟨va, vc, rfl, hBv⟩ := o8.ba
  replace hBv : Ba W8 va 7 vc (139 :: 156 :: s :: wB d) := hBv
  have hD := Lib.hid (Decode_any hBv (tabs.below k8))
  replace hD := Lib.hid (show Calls Tryd.prog 10 _ W8 (fun e w' => e = .returned (.tuple #[inV ⟨1, 0, onReg 3, onMem d (s % 8) ((s / 8 % 8)) (2 ^ (s / 64).toNat), false, 7⟩, .int .i64 7, .int .i64 0]) ∧ Below W8.heap.size W8 w') from e0.1 ▸ e0.2 ▸ hD.out)
  go_upto_region 22 with (first | ((with_reducible refine hD.out.mono ?_); rintro e U1 ⟨rfl, p1⟩) | ((with_reducible refine store_in_as rfl _ _ rfl (in16 ⟨1, 0, onReg 3, onMem d (s % 8) ((s / 8 % 8)) (2 ^ (s / 64).toNat), false, 7⟩) (in16_size _) (in16_one _) rfl rfl ?_); intro U2 kI p2))
  have kW2 := (kW.below p1 kW.lt).below p2 (Nat.lt_of_lt_of_le kW.lt p1.size)
  have k9 := (k8.trans (p1.mono k8.size)).trans (p2.mono (Nat.le_trans k8.size p1.size))
  have i0 := kI.cell (i := 0) (v := .int .i64 1) rfl
  have i2 := kI.cell (i := 2) (v := .int .i64 1) rfl
  have i3 := kI.cell (i := 3) (v := .int .i64 3) rfl
  have i4 := kI.cell (i := 4) (v := .int .u32 0) rfl
  have i5 := kI.cell (i := 5) (v := .int .i64 0) rfl
  have i6 := kI.cell (i := 6) (v := .int .i64 0) rfl
  have i7 := kI.cell (i := 7) (v := .int .u32 0) rfl
  have i8 := kI.cell (i := 8) (v := .int .i64 3) rfl
  have q0 := kW2.cell (i := 0) (v := .int .i64 3) rfl
  have i9 := kI.cell (i := 9) (v := .int .i64 0) rfl
  have q1 := kW2.cell (i := 1) (v := .int .i64 0) rfl
  have i10 := kI.cell (i := 10) (v := .int .u32 d) rfl
  have q2 := kW2.cell (i := 2) (v := .int .u32 d) rfl
  have i11 := kI.cell (i := 11) (v := .int .i64 (s % 8)) rfl
  have q3 := kW2.cell (i := 3) (v := .int .i64 (s % 8)) rfl
  have i12 := kI.cell (i := 12) (v := .int .i64 ((s / 8 % 8))) rfl
  have q4 := kW2.cell (i := 4) (v := .int .i64 ((s / 8 % 8))) rfl
  have i13 := kI.cell (i := 13) (v := .int .u32 (2 ^ (s / 64).toNat)) rfl
  have q5 := kW2.cell (i := 5) (v := .int .u32 (2 ^ (s / 64).toNat)) rfl
  go_wp2_with fail
  go_ret
  exact ⟨rfl, k9⟩
set_option maxHeartbeats 4000000 in
set_option maxRecDepth 100000 in
theorem form_Xa (mo rm s d : Int) (hmo : 0 ≤ mo ∧ mo ≤ 255) (hrm : 0 ≤ rm ∧ rm ≤ 255) (hs : 0 ≤ s ∧ s ≤ 255) (hd : 0 ≤ d ∧ d ≤ 4294967295) (hm : mo % 4 = 0) (hkr : rm % 8 = 4) (hx : ¬ s / 8 % 8 = 4) (h5 : s % 8 = 5) (w : World) (tabs : Tabs w) :
    Calls Tryd.prog 5 #[.int .u8 mo, .int .u8 rm, .int .u8 s, .int .u32 d] w fun e w' => e = .returned (.bool true) ∧ Below w.heap.size w w' := by
  have hK := Lib.hid (known_any w tabs)
  have e0 := dec_i (sib_abs s d hd h5)
  rw [show ixM s = s / 8 % 8 from if_neg hx, show scM s = 2 ^ (s / 64).toNat from (if_neg hx).trans (by rw [show s / 64 % 4 = s / 64 by omega])] at e0
  have hp := scale_fits s hs
  have a7 := and7_u8 s hs
  have a8 := and7_u8 (s / 8) (by omega)
  have hor : bits .or .u8 24 4 = 28 := by kernel_rfl
  have hor0 : bits .or .u8 0 24 = 24 := by kernel_rfl
  have l0 : LitB #[.int .u8 139, .int .u8 28] [139, 28] 2 := ⟨rfl, by intro u hu; simp at hu; omega, rfl, by decide⟩
  have l1 : LitB #[.int .u8 s] [s] 1 := ⟨rfl, by intro u hu; simp at hu; omega, rfl, by decide⟩
  have hwl : (wB d).length = 4 := rfl
  have l2 : LitB #[.int .u8 (d % 256), .int .u8 (d / 256 % 256), .int .u8 (d / 65536 % 256), .int .u8 (d / 16777216)] (wB d) 4 := ⟨rfl, wB_bd d hd, rfl, by decide⟩
  go_enter Tryd.func5, Tryd.ntmps5
  go_upto_region 4 with ((with_reducible refine hK.out.mono ?_); rintro e W1 ⟨rfl, b1⟩)
  simp only [hm, hkr]
  clear hm hkr
  go_upto_region 5 with fail
  have hB0 := Ba.new W1 l0
  have k0 := b1.alloc b1.size (.cells #[.int .u8 139, .int .u8 28] 5)
  have hBW : W1.heap.size < (W1.alloc (.cells #[.int .u8 139, .int .u8 28] 5)).heap.size := by simp
  generalize W1.alloc (.cells #[.int .u8 139, .int .u8 28] 5) = W2 at *
  generalize W1.heap.size = B at *
  go_upto_region 6 with ((with_reducible refine store_op_as rfl _ _ rfl (op6 (onMem 0 4 (-1) 1)) (op6_size _) (op6_one _) rfl rfl ?_); intro W3 kO c3)
  have hB := hB0.below c3
  have hwk := k0.size
  have k3 := k0.trans (c3.mono k0.size)
  have hK3 := kO.lt
  generalize W2.heap.size = K at *
  clear hB0 k0 c3 b1
  have hA1 := hB.below ((Below.refl _ _).alloc (Nat.le_refl _) (.cells #[.int .u8 s] 5))
  have hS1 := Ba.new W3 l1
  have g3 := (Below.refl W3.heap.size W3).alloc (Nat.le_refl _) (.cells #[.int .u8 s] 5)
  go_upto_region 8 with ((with_reducible refine append_full rfl _ _ rfl B 0 2 [139, 28] [s] rfl hA1 W3.heap.size 0 1 1 rfl hS1 (by decide) (by decide) ?_); intro v1 W4 o1 a4)
  have c4 := g3.trans (a4.mono g3.size)
  have k4 := k3.trans (c4.mono k3.size)
  have kO4 := kO.below c4 kO.lt
  have hN1 : K < (W3.alloc (.cells #[.int .u8 s] 5)).heap.size := Nat.lt_of_lt_of_le hK3 g3.size
  have hN2 := a4.size
  generalize (W3.alloc (.cells #[.int .u8 s] 5)).heap.size = N1 at *
  have d3 := kO4.cell (i := 3) (v := .int .i64 4) rfl
  have d4 := kO4.cell (i := 4) (v := .int .i64 (-1)) rfl
  have d5 := kO4.cell (i := 5) (v := .int .u32 1) rfl
  have f3 := kO4.fr 3
  have f4 := kO4.fr 4
  have f5 := kO4.fr 5
  have hwK : w.heap.size ≤ K := hwk
  clear hA1 hS1 g3 a4 c4 hB
  go_upto_region 11 with fail
  have kO5 : Blk _ _ _ (op6 (onMem 0 (5) ((s / 8 % 8)) (2 ^ (s / 64).toNat))) := (((kO4).setB (5)).setX (s / 8 % 8)).setS (2 ^ (s / 64).toNat)
  have o5 := (((o1).cell hN1 3 (.int .i64 (5))).cell hN1 4 (.int .i64 (s / 8 % 8))).cell hN1 5 (.int .u32 (2 ^ (s / 64).toNat))
  have k5 := ((But.of (((But.of (((But.of (k4) [K]).setCell (p := ⟨K, 3, none⟩) (by simp) (.int .i64 (5))).below (Nat.le_refl _) (by simpa using hwK)) [K]).setCell (p := ⟨K, 4, none⟩) (by simp) (.int .i64 (s / 8 % 8))).below (Nat.le_refl _) (by simpa using hwK)) [K]).setCell (p := ⟨K, 5, none⟩) (by simp) (.int .u32 (2 ^ (s / 64).toNat))).below (Nat.le_refl _) (by simpa using hwK)
  have hN3 : N1 ≤ ((((W4).setCell ⟨K, 3, none⟩ (.int .i64 (5))).setCell ⟨K, 4, none⟩ (.int .i64 (s / 8 % 8))).setCell ⟨K, 5, none⟩ (.int .u32 (2 ^ (s / 64).toNat))).heap.size := by simpa [World.setCell] using hN2
  clear d3 d4 d5 f3 f4 f5 kO4 o1 k4 hN2
  generalize (((W4).setCell ⟨K, 3, none⟩ (.int .i64 (5))).setCell ⟨K, 4, none⟩ (.int .i64 (s / 8 % 8))).setCell ⟨K, 5, none⟩ (.int .u32 (2 ^ (s / 64).toNat)) = W5 at *
  have d3 := kO5.cell (i := 3) (v := .int .i64 (5)) rfl
  have g6 := (Below.refl W5.heap.size W5).alloc (Nat.le_refl _) (.cells #[.int .u8 (d % 256), .int .u8 (d / 256 % 256), .int .u8 (d / 65536 % 256), .int .u8 (d / 16777216)] 5)
  have hS6 := Ba.new W5 l2
  have hlen : ([139, 28] ++ [s]).length + (wB d).length ≤ 100 := by simp [wB]
  have o6 := o5.below g6
  go_upto_region 18 with ((with_reducible refine append_bytes rfl _ _ rfl N1 v1 ([139, 28] ++ [s]) (wB d) rfl o6 (Nat.le_trans hN3 g6.size) (some ⟨W5.heap.size, 0, none⟩) 4 4 rfl hS6 hlen ?_); intro v2 W6 o7 a6)
  have c6 : Below N1 W5 W6 := (g6.mono hN3).trans a6
  have hz6 := Nat.le_trans g6.size a6.size
  have kO6 := kO5.below c6 hN1
  have k6 := k5.trans (c6.mono (Nat.le_trans hwK (Nat.le_of_lt hN1)))
  have d2 := kO6.cell (i := 2) (v := .int .u32 0) rfl
  have f2 := kO6.fr 2
  have d3' := kO6.cell (i := 3) (v := .int .i64 (5)) rfl
  have f3 := kO6.fr 3
  clear d3
  go_upto_region 21 with fail
  have kW : Blk _ _ _ (op6 (onMem d (-1) ((s / 8 % 8)) (2 ^ (s / 64).toNat))) := (kO6.setM d).setB (-1)
  have o8 := (o7.cell hN1 2 (.int .u32 d)).cell hN1 3 (.int .i64 (-1))
  have k8 := ((But.of (((But.of k6 [K]).setCell (p := ⟨K, 2, none⟩) (by simp) (.int .u32 d)).below (Nat.le_refl _) (by simpa using hwK)) [K]).setCell (p := ⟨K, 3, none⟩) (by simp) (.int .i64 (-1))).below (Nat.le_refl _) (by simpa using hwK)
  clear d2 f2 d3' f3
  generalize (W6.setCell ⟨K, 2, none⟩ (.int .u32 d)).setCell ⟨K, 3, none⟩ (.int .i64 (-1)) = W8 at *
  obtain ⟨va, vc, rfl, hBv⟩ := o8.ba
  replace hBv : Ba W8 va 7 vc (139 :: 28 :: s :: wB d) := hBv
  have hD := Lib.hid (Decode_any hBv (tabs.below k8))
  replace hD := Lib.hid (show Calls Tryd.prog 10 _ W8 (fun e w' => e = .returned (.tuple #[inV ⟨1, 0, onReg 3, onMem d (-1) ((s / 8 % 8)) (2 ^ (s / 64).toNat), false, 7⟩, .int .i64 7, .int .i64 0]) ∧ Below W8.heap.size W8 w') from e0.1 ▸ e0.2 ▸ hD.out)
  go_upto_region 22 with (first | ((with_reducible refine hD.out.mono ?_); rintro e U1 ⟨rfl, p1⟩) | ((with_reducible refine store_in_as rfl _ _ rfl (in16 ⟨1, 0, onReg 3, onMem d (-1) ((s / 8 % 8)) (2 ^ (s / 64).toNat), false, 7⟩) (in16_size _) (in16_one _) rfl rfl ?_); intro U2 kI p2))
  have kW2 := (kW.below p1 kW.lt).below p2 (Nat.lt_of_lt_of_le kW.lt p1.size)
  have k9 := (k8.trans (p1.mono k8.size)).trans (p2.mono (Nat.le_trans k8.size p1.size))
  have i0 := kI.cell (i := 0) (v := .int .i64 1) rfl
  have i2 := kI.cell (i := 2) (v := .int .i64 1) rfl
  have i3 := kI.cell (i := 3) (v := .int .i64 3) rfl
  have i4 := kI.cell (i := 4) (v := .int .u32 0) rfl
  have i5 := kI.cell (i := 5) (v := .int .i64 0) rfl
  have i6 := kI.cell (i := 6) (v := .int .i64 0) rfl
  have i7 := kI.cell (i := 7) (v := .int .u32 0) rfl
  have i8 := kI.cell (i := 8) (v := .int .i64 3) rfl
  have q0 := kW2.cell (i := 0) (v := .int .i64 3) rfl
  have i9 := kI.cell (i := 9) (v := .int .i64 0) rfl
  have q1 := kW2.cell (i := 1) (v := .int .i64 0) rfl
  have i10 := kI.cell (i := 10) (v := .int .u32 d) rfl
  have q2 := kW2.cell (i := 2) (v := .int .u32 d) rfl
  have i11 := kI.cell (i := 11) (v := .int .i64 (-1)) rfl
  have q3 := kW2.cell (i := 3) (v := .int .i64 (-1)) rfl
  have i12 := kI.cell (i := 12) (v := .int .i64 ((s / 8 % 8))) rfl
  have q4 := kW2.cell (i := 4) (v := .int .i64 ((s / 8 % 8))) rfl
  have i13 := kI.cell (i := 13) (v := .int .u32 (2 ^ (s / 64).toNat)) rfl
  have q5 := kW2.cell (i := 5) (v := .int .u32 (2 ^ (s / 64).toNat)) rfl
  go_wp2_with fail
  go_ret
  exact ⟨rfl, k9⟩
set_option maxHeartbeats 4000000 in
set_option maxRecDepth 100000 in
theorem form_Xb (mo rm s d : Int) (hmo : 0 ≤ mo ∧ mo ≤ 255) (hrm : 0 ≤ rm ∧ rm ≤ 255) (hs : 0 ≤ s ∧ s ≤ 255) (hd : 0 ≤ d ∧ d ≤ 4294967295) (hm : mo % 4 = 0) (hkr : rm % 8 = 4) (hx : ¬ s / 8 % 8 = 4) (h5 : ¬ s % 8 = 5) (w : World) (tabs : Tabs w) :
    Calls Tryd.prog 5 #[.int .u8 mo, .int .u8 rm, .int .u8 s, .int .u32 d] w fun e w' => e = .returned (.bool true) ∧ Below w.heap.size w w' := by
  have hK := Lib.hid (known_any w tabs)
  have e0 := dec_i (sib_here s h5)
  rw [show ixM s = s / 8 % 8 from if_neg hx, show scM s = 2 ^ (s / 64).toNat from (if_neg hx).trans (by rw [show s / 64 % 4 = s / 64 by omega])] at e0
  have hp := scale_fits s hs
  have a7 := and7_u8 s hs
  have a8 := and7_u8 (s / 8) (by omega)
  have hor : bits .or .u8 24 4 = 28 := by kernel_rfl
  have hor0 : bits .or .u8 0 24 = 24 := by kernel_rfl
  have l0 : LitB #[.int .u8 139, .int .u8 28] [139, 28] 2 := ⟨rfl, by intro u hu; simp at hu; omega, rfl, by decide⟩
  have l1 : LitB #[.int .u8 s] [s] 1 := ⟨rfl, by intro u hu; simp at hu; omega, rfl, by decide⟩
  go_enter Tryd.func5, Tryd.ntmps5
  go_upto_region 4 with ((with_reducible refine hK.out.mono ?_); rintro e W1 ⟨rfl, b1⟩)
  simp only [hm, hkr]
  clear hm hkr
  go_upto_region 5 with fail
  have hB0 := Ba.new W1 l0
  have k0 := b1.alloc b1.size (.cells #[.int .u8 139, .int .u8 28] 5)
  have hBW : W1.heap.size < (W1.alloc (.cells #[.int .u8 139, .int .u8 28] 5)).heap.size := by simp
  generalize W1.alloc (.cells #[.int .u8 139, .int .u8 28] 5) = W2 at *
  generalize W1.heap.size = B at *
  go_upto_region 6 with ((with_reducible refine store_op_as rfl _ _ rfl (op6 (onMem 0 4 (-1) 1)) (op6_size _) (op6_one _) rfl rfl ?_); intro W3 kO c3)
  have hB := hB0.below c3
  have hwk := k0.size
  have k3 := k0.trans (c3.mono k0.size)
  have hK3 := kO.lt
  generalize W2.heap.size = K at *
  clear hB0 k0 c3 b1
  have hA1 := hB.below ((Below.refl _ _).alloc (Nat.le_refl _) (.cells #[.int .u8 s] 5))
  have hS1 := Ba.new W3 l1
  have g3 := (Below.refl W3.heap.size W3).alloc (Nat.le_refl _) (.cells #[.int .u8 s] 5)
  go_upto_region 8 with ((with_reducible refine append_full rfl _ _ rfl B 0 2 [139, 28] [s] rfl hA1 W3.heap.size 0 1 1 rfl hS1 (by decide) (by decide) ?_); intro v1 W4 o1 a4)
  have c4 := g3.trans (a4.mono g3.size)
  have k4 := k3.trans (c4.mono k3.size)
  have kO4 := kO.below c4 kO.lt
  have hN1 : K < (W3.alloc (.cells #[.int .u8 s] 5)).heap.size := Nat.lt_of_lt_of_le hK3 g3.size
  have hN2 := a4.size
  generalize (W3.alloc (.cells #[.int .u8 s] 5)).heap.size = N1 at *
  have d3 := kO4.cell (i := 3) (v := .int .i64 4) rfl
  have d4 := kO4.cell (i := 4) (v := .int .i64 (-1)) rfl
  have d5 := kO4.cell (i := 5) (v := .int .u32 1) rfl
  have f3 := kO4.fr 3
  have f4 := kO4.fr 4
  have f5 := kO4.fr 5
  have hwK : w.heap.size ≤ K := hwk
  clear hA1 hS1 g3 a4 c4 hB
  go_upto_region 11 with fail
  have kO5 : Blk _ _ _ (op6 (onMem 0 (s % 8) ((s / 8 % 8)) (2 ^ (s / 64).toNat))) := (((kO4).setB (s % 8)).setX (s / 8 % 8)).setS (2 ^ (s / 64).toNat)
  have o5 := (((o1).cell hN1 3 (.int .i64 (s % 8))).cell hN1 4 (.int .i64 (s / 8 % 8))).cell hN1 5 (.int .u32 (2 ^ (s / 64).toNat))
  have k5 := ((But.of (((But.of (((But.of (k4) [K]).setCell (p := ⟨K, 3, none⟩) (by simp) (.int .i64 (s % 8))).below (Nat.le_refl _) (by simpa using hwK)) [K]).setCell (p := ⟨K, 4, none⟩) (by simp) (.int .i64 (s / 8 % 8))).below (Nat.le_refl _) (by simpa using hwK)) [K]).setCell (p := ⟨K, 5, none⟩) (by simp) (.int .u32 (2 ^ (s / 64).toNat))).below (Nat.le_refl _) (by simpa using hwK)
  have hN3 : N1 ≤ ((((W4).setCell ⟨K, 3, none⟩ (.int .i64 (s % 8))).setCell ⟨K, 4, none⟩ (.int .i64 (s / 8 % 8))).setCell ⟨K, 5, none⟩ (.int .u32 (2 ^ (s / 64).toNat))).heap.size := by simpa [World.setCell] using hN2
  clear d3 d4 d5 f3 f4 f5 kO4 o1 k4 hN2
  generalize (((W4).setCell ⟨K, 3, none⟩ (.int .i64 (s % 8))).setCell ⟨K, 4, none⟩ (.int .i64 (s / 8 % 8))).setCell ⟨K, 5, none⟩ (.int .u32 (2 ^ (s / 64).toNat)) = W5 at *
  have d3 := kO5.cell (i := 3) (v := .int .i64 (s % 8)) rfl
  go_upto_region 21 with fail
  have kW := kO5
  have k8 := k5
  obtain ⟨va, vc, rfl, hBv⟩ := o5.ba
  replace hBv : Ba W5 va 3 vc ([139, 28, s]) := hBv
  have hD := Lib.hid (Decode_any hBv (tabs.below k8))
  replace hD := Lib.hid (show Calls Tryd.prog 10 _ W5 (fun e w' => e = .returned (.tuple #[inV ⟨1, 0, onReg 3, onMem 0 (s % 8) ((s / 8 % 8)) (2 ^ (s / 64).toNat), false, 3⟩, .int .i64 3, .int .i64 0]) ∧ Below W5.heap.size W5 w') from e0.1 ▸ e0.2 ▸ hD.out)
  go_upto_region 22 with (first | ((with_reducible refine hD.out.mono ?_); rintro e U1 ⟨rfl, p1⟩) | ((with_reducible refine store_in_as rfl _ _ rfl (in16 ⟨1, 0, onReg 3, onMem 0 (s % 8) ((s / 8 % 8)) (2 ^ (s / 64).toNat), false, 3⟩) (in16_size _) (in16_one _) rfl rfl ?_); intro U2 kI p2))
  have kW2 := (kW.below p1 kW.lt).below p2 (Nat.lt_of_lt_of_le kW.lt p1.size)
  have k9 := (k8.trans (p1.mono k8.size)).trans (p2.mono (Nat.le_trans k8.size p1.size))
  have i0 := kI.cell (i := 0) (v := .int .i64 1) rfl
  have i2 := kI.cell (i := 2) (v := .int .i64 1) rfl
  have i3 := kI.cell (i := 3) (v := .int .i64 3) rfl
  have i4 := kI.cell (i := 4) (v := .int .u32 0) rfl
  have i5 := kI.cell (i := 5) (v := .int .i64 0) rfl
  have i6 := kI.cell (i := 6) (v := .int .i64 0) rfl
  have i7 := kI.cell (i := 7) (v := .int .u32 0) rfl
  have i8 := kI.cell (i := 8) (v := .int .i64 3) rfl
  have q0 := kW2.cell (i := 0) (v := .int .i64 3) rfl
  have i9 := kI.cell (i := 9) (v := .int .i64 0) rfl
  have q1 := kW2.cell (i := 1) (v := .int .i64 0) rfl
  have i10 := kI.cell (i := 10) (v := .int .u32 0) rfl
  have q2 := kW2.cell (i := 2) (v := .int .u32 0) rfl
  have i11 := kI.cell (i := 11) (v := .int .i64 (s % 8)) rfl
  have q3 := kW2.cell (i := 3) (v := .int .i64 (s % 8)) rfl
  have i12 := kI.cell (i := 12) (v := .int .i64 ((s / 8 % 8))) rfl
  have q4 := kW2.cell (i := 4) (v := .int .i64 ((s / 8 % 8))) rfl
  have i13 := kI.cell (i := 13) (v := .int .u32 (2 ^ (s / 64).toNat)) rfl
  have q5 := kW2.cell (i := 5) (v := .int .u32 (2 ^ (s / 64).toNat)) rfl
  go_wp2_with fail
  go_ret
  exact ⟨rfl, k9⟩
theorem forms_walk (mo rm s d : Int) (hmo : 0 ≤ mo ∧ mo ≤ 255) (hrm : 0 ≤ rm ∧ rm ≤ 255) (hs : 0 ≤ s ∧ s ≤ 255) (hd : 0 ≤ d ∧ d ≤ 4294967295) (w : World) (tabs : Tabs w) :
    Calls Tryd.prog 5 #[.int .u8 mo, .int .u8 rm, .int .u8 s, .int .u32 d] w fun e w' => e = .returned (.bool true) ∧ Below w.heap.size w w' := by
  have hk : 0 ≤ rm % 8 ∧ rm % 8 < 8 := by omega
  rcases (by omega : mo % 4 = 0 ∨ mo % 4 = 1 ∨ mo % 4 = 2 ∨ mo % 4 = 3) with hm | hm | hm | hm
  · by_cases h4 : rm % 8 = 4
    · by_cases hx : s / 8 % 8 = 4
      · by_cases h5 : s % 8 = 5
        · exact form_Ia mo rm s d hmo hrm hs hd hm h4 hx h5 w tabs
        · exact form_Ib mo rm s d hmo hrm hs hd hm h4 hx h5 w tabs
      · by_cases h5 : s % 8 = 5
        · exact form_Xa mo rm s d hmo hrm hs hd hm h4 hx h5 w tabs
        · exact form_Xb mo rm s d hmo hrm hs hd hm h4 hx h5 w tabs
    · by_cases h5 : rm % 8 = 5
      · exact form_Na mo rm s d hmo hrm hs hd hm h5 w tabs
      · exact form_Nb mo rm s d hmo hrm hs hd hm _ hk rfl h4 h5 w tabs
  · by_cases h4 : rm % 8 = 4
    · by_cases hx : s / 8 % 8 = 4
      · exact form_I1 mo rm s d hmo hrm hs hd hm h4 hx w tabs
      · exact form_X1 mo rm s d hmo hrm hs hd hm h4 hx w tabs
    · exact form_N1 mo rm s d hmo hrm hs hd hm _ hk rfl h4 w tabs
  · by_cases h4 : rm % 8 = 4
    · by_cases hx : s / 8 % 8 = 4
      · exact form_I2 mo rm s d hmo hrm hs hd hm h4 hx w tabs
      · exact form_X2 mo rm s d hmo hrm hs hd hm h4 hx w tabs
    · exact form_N2 mo rm s d hmo hrm hs hd hm _ hk rfl h4 w tabs
  · exact form_N3 mo rm s d hmo hrm hs hd hm _ hk rfl w tabs
end Go.Proofs.YtlooobehlhgccaaDoor
