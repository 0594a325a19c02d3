/- Calls at bytes of one's own; what is known. -/
import Derived.Test.YtlooobehlhgccaaDoorQ1
namespace Go.Proofs.YtlooobehlhgccaaDoor
open Go.RowKit
set_option linter.unusedVariables false
set_option linter.unusedSimpArgs false
set_option linter.unusedSectionVars false

theorem Decode_own {w : World} {N : Nat} {v : Value} {zs : List Int} (h : Own w N v zs) (tabs : Tabs w) :
    Calls Tryd.prog 10 #[v] w fun e w' => e = .returned (.tuple #[inV (decI zs), .int .i64 (decI zs).len, .int .i64 (decE zs)]) ∧ Below w.heap.size w w' := by
  obtain ⟨a, cap, rfl, A⟩ := h.ba
  exact Decode_any A tabs
theorem Kind_own {w : World} {N : Nat} {v : Value} {zs : List Int} (h : Own w N v zs) (tabs : Tabs w) :
    Calls Tryd.prog 12 #[v] w fun e w' => e = .returned (.int .i64 (kindM zs)) ∧ Below w.heap.size w w' := by
  obtain ⟨a, cap, rfl, A⟩ := h.ba
  exact Kind_any A tabs
theorem Decode_lit (w : World) (tabs : Tabs w) (zs : List Int) {cells : Array Value} (hc : cells = (zs.map (Value.int .u8)).toArray) (hz : ∀ z ∈ zs, 0 ≤ z ∧ z ≤ 255) (hl : zs.length ≤ 100) {n : Nat} (hn : zs.length = n) {i : In} {x l : Int} (hi : decI zs = i) (hx : decE zs = x) (hil : i.len = l) :
    Calls Tryd.prog 10 #[.slice (some ⟨w.heap.size, 0, none⟩) n n] (w.alloc (.cells cells 5)) fun e w' => e = .returned (.tuple #[inV i, .int .i64 l, .int .i64 x]) ∧ Below w.heap.size w w' := by
  subst hn hi hx hil
  have k := (Below.refl w.heap.size w).alloc (Nat.le_refl _) (.cells cells 5)
  refine (Decode_own (Own.new w w.heap.size (Nat.le_refl _) zs hz hl hc) (tabs.below k)).mono ?_
  rintro e w' ⟨rfl, b⟩
  exact ⟨rfl, k.trans (b.mono k.size)⟩
theorem Kind_lit (w : World) (tabs : Tabs w) (zs : List Int) {cells : Array Value} (hc : cells = (zs.map (Value.int .u8)).toArray) (hz : ∀ z ∈ zs, 0 ≤ z ∧ z ≤ 255) (hl : zs.length ≤ 100) {n : Nat} (hn : zs.length = n) {x : Int} (hx : kindM zs = x) :
    Calls Tryd.prog 12 #[.slice (some ⟨w.heap.size, 0, none⟩) n n] (w.alloc (.cells cells 5)) fun e w' => e = .returned (.int .i64 x) ∧ Below w.heap.size w w' := by
  subst hn hx
  have k := (Below.refl w.heap.size w).alloc (Nat.le_refl _) (.cells cells 5)
  refine (Kind_own (Own.new w w.heap.size (Nat.le_refl _) zs hz hl hc) (tabs.below k)).mono ?_
  rintro e w' ⟨rfl, b⟩
  exact ⟨rfl, k.trans (b.mono k.size)⟩
set_option maxHeartbeats 2000000 in
theorem known_any (w : World) (tabs : Tabs w) : Calls Tryd.prog 9 #[] w fun e w' => e = .returned (.bool true) ∧ Below w.heap.size w w' := by
  have d1 := Lib.hid (fun W (t : Tabs W) => Decode_lit W t [1, 216, 144] (cells := #[.int .u8 1, .int .u8 216, .int .u8 144]) rfl (by decide) (by decide) (n := 3) rfl (i := ⟨3, 0, onReg 0, onReg 3, false, 2⟩) (x := 0) (l := 2) (by kernel_rfl) (by kernel_rfl) rfl)
  have d2 := Lib.hid (fun W (t : Tabs W) => Decode_lit W t [129] (cells := #[.int .u8 129]) rfl (by decide) (by decide) (n := 1) rfl (i := inZ) (x := 10) (l := 0) (by kernel_rfl) (by kernel_rfl) rfl)
  have d3 := Lib.hid (fun W (t : Tabs W) => Decode_lit W t [15, 11] (cells := #[.int .u8 15, .int .u8 11]) rfl (by decide) (by decide) (n := 2) rfl (i := inZ) (x := 90) (l := 0) (by kernel_rfl) (by kernel_rfl) rfl)
  have d4 := Lib.hid (fun W (t : Tabs W) => Decode_lit W t [244] (cells := #[.int .u8 244]) rfl (by decide) (by decide) (n := 1) rfl (i := inZ) (x := 12) (l := 0) (by kernel_rfl) (by kernel_rfl) rfl)
  have k1' := Lib.hid (fun W (t : Tabs W) => Kind_lit W t [15, 11] (cells := #[.int .u8 15, .int .u8 11]) rfl (by decide) (by decide) (n := 2) rfl (x := 3) (by kernel_rfl))
  have k2' := Lib.hid (fun W (t : Tabs W) => Kind_lit W t [244] (cells := #[.int .u8 244]) rfl (by decide) (by decide) (n := 1) rfl (x := 4) (by kernel_rfl))
  have k3' := Lib.hid (fun W (t : Tabs W) => Kind_lit W t [144] (cells := #[.int .u8 144]) rfl (by decide) (by decide) (n := 1) rfl (x := 0) (by kernel_rfl))
  have t0 := tabs
  have k0 := Below.refl w.heap.size w
  go_enter Tryd.func9, Tryd.ntmps9
  go_upto_region 2 with (first | ((with_reducible refine (d1.out _ t0).mono ?_); rintro e U1 ⟨rfl, b1⟩) | ((with_reducible refine store_in_as rfl _ _ rfl (in16 ⟨3, 0, onReg 0, onReg 3, false, 2⟩) (in16_size _) (in16_one _) rfl rfl ?_); intro V1 kI1 c1))
  have k1 := (k0.trans (b1.mono k0.size)).trans (c1.mono (Nat.le_trans k0.size b1.size))
  have t1 := tabs.below k1
  go_upto_region 3 with (first | ((with_reducible refine (d2.out _ t1).mono ?_); rintro e U2 ⟨rfl, b2⟩) | ((with_reducible refine store_in_as rfl _ _ rfl (in16 inZ) (in16_size _) (in16_one _) rfl rfl ?_); intro V2 kI2 c2))
  have k2 := (k1.trans (b2.mono k1.size)).trans (c2.mono (Nat.le_trans k1.size b2.size))
  have t2 := tabs.below k2
  replace kI1 := (kI1.below b2 kI1.lt).below c2 (Nat.lt_of_lt_of_le kI1.lt b2.size)
  go_upto_region 4 with (first | ((with_reducible refine (d3.out _ t2).mono ?_); rintro e U3 ⟨rfl, b3⟩) | ((with_reducible refine store_in_as rfl _ _ rfl (in16 inZ) (in16_size _) (in16_one _) rfl rfl ?_); intro V3 kI3 c3))
  have k3 := (k2.trans (b3.mono k2.size)).trans (c3.mono (Nat.le_trans k2.size b3.size))
  have t3 := tabs.below k3
  replace kI1 := (kI1.below b3 kI1.lt).below c3 (Nat.lt_of_lt_of_le kI1.lt b3.size)
  go_upto_region 5 with (first | ((with_reducible refine (d4.out _ t3).mono ?_); rintro e U4 ⟨rfl, b4⟩) | ((with_reducible refine store_in_as rfl _ _ rfl (in16 inZ) (in16_size _) (in16_one _) rfl rfl ?_); intro V4 kI4 c4))
  have k4 := (k3.trans (b4.mono k3.size)).trans (c4.mono (Nat.le_trans k3.size b4.size))
  have t4 := tabs.below k4
  replace kI1 := (kI1.below b4 kI1.lt).below c4 (Nat.lt_of_lt_of_le kI1.lt b4.size)
  have e0 := kI1.cell (i := 0) (v := .int .i64 3) rfl
  have e3 := kI1.cell (i := 3) (v := .int .i64 0) rfl
  have e9 := kI1.cell (i := 9) (v := .int .i64 3) rfl
  have e15 := kI1.cell (i := 15) (v := .int .i64 2) rfl
  go_wp2_with (first | ((with_reducible refine (k1'.out _ t4).mono ?_); rintro e W1 ⟨rfl, b5⟩; have k5 := k4.trans (b5.mono k4.size); have t5 := tabs.below k5) | ((with_reducible refine (k2'.out _ t5).mono ?_); rintro e W2 ⟨rfl, b6⟩; have k6 := k5.trans (b6.mono k5.size); have t6 := tabs.below k6) | ((with_reducible refine (k3'.out _ t6).mono ?_); rintro e W3 ⟨rfl, b7⟩; have k7 := k6.trans (b7.mono k6.size)))
  go_ret
  exact ⟨rfl, k7⟩
end Go.Proofs.YtlooobehlhgccaaDoor
