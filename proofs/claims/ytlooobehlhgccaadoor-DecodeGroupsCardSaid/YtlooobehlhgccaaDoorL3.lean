/- DecodeGroups. -/
import Derived.Test.YtlooobehlhgccaaDoorQ5
import Derived.Test.YtlooobehlhgccaaDoorQ2
import Derived.Deep.CutRange
namespace Go.Proofs.YtlooobehlhgccaaDoor
open Go.RowKit
set_option linter.unusedVariables false
set_option linter.unusedSimpArgs false
set_option linter.unusedSectionVars false

theorem lawregL (r : Int) (hr : 0 ≤ r ∧ r ≤ 255) (w : World) : Calls Tryd.prog 13 #[.int .u8 r] w fun e w' => e = .returned (.agg #[.int .i64 1, .int .i64 r, .int .u32 0, .int .i64 0, .int .i64 0, .int .u32 0]) ∧ Below w.heap.size w w' := by
  have kx := (Below.refl w.heap.size w).alloc (Nat.le_refl _) (.cells #[.int .i64 1, .int .i64 r, .int .u32 0, .int .i64 0, .int .i64 0, .int .u32 0] 26)
  go_enter Tryd.func13, Tryd.ntmps13
  go_wp2
  exact bodyPost_ret (v := .agg #[.int .i64 1, .int .i64 r, .int .u32 0, .int .i64 0, .int .i64 0, .int .u32 0]) (by simp [results, Tryd.results13, go_sem]) rfl ⟨rfl, kx⟩
theorem sx_mod3 (v : Int) : IntKind.u32.wrap (IntKind.i32.wrap (IntKind.i8.wrap v)) = IntKind.i8.wrap v % 4294967296 := by
  have : ∀ n : Int, IntKind.i8.wrap n = (n + 128) % 256 - 128 := fun n => by
    simp only [IntKind.wrap, IntKind.bits, IntKind.signed]
    simp
    split <;> omega
  rw [IntKind.wrap_u32, IntKind.wrap_i32, this]
  omega
abbrev ops8 : Array Value := #[.int .i64 3, .int .i64 4, .int .i64 5, .int .i64 6, .int .i64 7, .int .i64 8, .int .i64 9, .int .i64 10]
theorem ops8_at (k : Nat) (hk : k < 8) : ops8[k]? = some (.int .i64 (3 + k)) := by
  rcases (by omega : k = 0 ∨ k = 1 ∨ k = 2 ∨ k = 3 ∨ k = 4 ∨ k = 5 ∨ k = 6 ∨ k = 7) with rfl | rfl | rfl | rfl | rfl | rfl | rfl | rfl <;> rfl
theorem ix_ops8 (b k : Nat) (h : k < 8) (W : World) : (Instr.indexAt 40 (.pointer (some ⟨b, 0, none⟩)) (.int .u8 (k : Int))).run Tryd.prog W = .ok (.pointer (some ⟨b, k, none⟩)) W := by
  have s1 : ∀ W, (sizeOf 3).run Tryd.prog W = .ok 1 W := fun W => by kernel_rfl
  have hj : (k : Int) < 8 := by omega
  simp [Instr.indexAt, run_underlying Tryd.underlying40, s1, go_sem, hj, h, Instr.sureAddr]
theorem or_c (a : Nat) (x y : Int) (hx : 0 ≤ x ∧ x < 8) (hy : 0 ≤ y ∧ y < 8) : bits .or .u8 (bits .or .u8 192 (y * 8)) x = 192 + 8 * y + x := by
  obtain ⟨n, rfl⟩ := Int.eq_ofNat_of_zero_le hx.1
  obtain ⟨m, rfl⟩ := Int.eq_ofNat_of_zero_le hy.1
  have : ∀ m : Nat, m < 8 → ∀ n : Nat, n < 8 → bits .or .u8 (bits .or .u8 192 ((m : Int) * 8)) (n : Int) = 192 + 8 * (m : Int) + n := of_decide_eq_true (by kernel_rfl)
  exact this m (by omega) n (by omega)
/-- The blocks of the law: the eight operations, what the four calls gave. -/
structure GS (w W : World) (O D1 D2 D3 D4 : Nat) (I1 I2 I3 I4 : In) : Prop where
  k : Below w.heap.size w W
  o : Blk W O 40 ops8
  i1 : Blk W D1 28 (in16 I1)
  i2 : Blk W D2 28 (in16 I2)
  i3 : Blk W D3 28 (in16 I3)
  i4 : Blk W D4 28 (in16 I4)
section
variable {w W W' : World} {O D1 D2 D3 D4 : Nat} {I1 I2 I3 I4 : In}
theorem GS.below (h : GS w W O D1 D2 D3 D4 I1 I2 I3 I4) (b : Below W.heap.size W W') : GS w W' O D1 D2 D3 D4 I1 I2 I3 I4 :=
  ⟨h.k.trans (b.mono h.k.size), h.o.below b h.o.lt, h.i1.below b h.i1.lt, h.i2.below b h.i2.lt, h.i3.below b h.i3.lt, h.i4.below b h.i4.lt⟩
theorem GS.drew (h : GS w W O D1 D2 D3 D4 I1 I2 I3 I4) : GS w W.drew O D1 D2 D3 D4 I1 I2 I3 I4 := ⟨⟨h.k.os, h.k.tape, h.k.output, h.k.size, h.k.block⟩, h.o.drew, h.i1.drew, h.i2.drew, h.i3.drew, h.i4.drew⟩
/-- A block that came later is written. -/
theorem GS.row (h : GS w W O D1 D2 D3 D4 I1 I2 I3 I4) {D : Nat} (hN : w.heap.size ≤ D) (h0 : O < D) (h1 : D1 < D) (h2 : D2 < D) (h3 : D3 < D) (h4 : D4 < D) (cs : Array Value) : GS w (W.setRow D cs) O D1 D2 D3 D4 I1 I2 I3 I4 :=
  ⟨below_rowNew h.k hN cs, h.o.rowOther cs (by omega), h.i1.rowOther cs (by omega), h.i2.rowOther cs (by omega), h.i3.rowOther cs (by omega), h.i4.rowOther cs (by omega)⟩
end
set_option maxHeartbeats 4000000 in
set_option maxRecDepth 100000 in
theorem groups_walk (op a b v : Int) (ho : 0 ≤ op ∧ op ≤ 255) (ha : 0 ≤ a ∧ a ≤ 255) (hb : 0 ≤ b ∧ b ≤ 255) (hv : 0 ≤ v ∧ v ≤ 4294967295) (w : World) (tabs : Tabs w) :
    Calls Tryd.prog 6 #[.int .u8 op, .int .u8 a, .int .u8 b, .int .u32 v] w fun e w' => e = .returned (.bool true) ∧ Below w.heap.size w w' := by
  have hK := Lib.hid (known_any w tabs)
  obtain ⟨k, hk⟩ := Int.eq_ofNat_of_zero_le (show 0 ≤ op % 8 by omega)
  have hk8 : k < 8 := by omega
  have hx8 : 0 ≤ a % 8 ∧ a % 8 < 8 := by omega
  have hy8 : 0 ≤ b % 8 ∧ b % 8 < 8 := by omega
  have hk8' : 0 ≤ (k : Int) ∧ (k : Int) < 8 := by omega
  generalize hx : a % 8 = x at *
  generalize hy : b % 8 = y at *
  have oM := or_c 192 x y hx8 hy8
  have oN := or_c 192 x (k : Int) hx8 hk8'
  have e1 := dec_i (grp_one k hk8 x y hx8 hy8)
  have e2 := dec_i (grp_three k hk8 x y hx8 hy8)
  have e3 := dec_i (grp_five k hk8 v hv)
  have e4 := dec_i (grp_imm k hk8 x hx8 (v % 256))
  have hwb := wB_bd v hv
  rw [sx_mod] at e4
  have hsx := sx_mod3 v
  generalize IntKind.i8.wrap v % 4294967296 = sv at *
  have l1 : LitB #[.int .u8 (8 * (k : Int) + 1), .int .u8 (192 + 8 * y + x)] [8 * (k : Int) + 1, 192 + 8 * y + x] 2 := ⟨rfl, by intro u hu; simp at hu; omega, rfl, by decide⟩
  have l2 : LitB #[.int .u8 (8 * (k : Int) + 3), .int .u8 (192 + 8 * y + x)] [8 * (k : Int) + 3, 192 + 8 * y + x] 2 := ⟨rfl, by intro u hu; simp at hu; omega, rfl, by decide⟩
  have l3 : LitB #[.int .u8 (8 * (k : Int) + 5), .int .u8 (v % 256), .int .u8 (v / 256 % 256), .int .u8 (v / 65536 % 256), .int .u8 (v / 16777216)] ((8 * (k : Int) + 5) :: wB v) 5 := ⟨rfl, by intro u hu; rcases List.mem_cons.1 hu with rfl | h; omega; exact hwb u h, rfl, by decide⟩
  have l4 : LitB #[.int .u8 131, .int .u8 (192 + 8 * (k : Int) + x), .int .u8 (v % 256)] [131, 192 + 8 * (k : Int) + x, v % 256] 3 := ⟨rfl, by intro u hu; simp at hu; omega, rfl, by decide⟩
  have hat := ops8_at k hk8
  have hix := fun O => ix_ops8 O k hk8
  have hRx := fun W => lawregL x (by omega) W
  have hRy := fun W => lawregL y (by omega) W
  have hR0 := fun W => lawregL 0 (by omega) W
  generalize hop : 3 + (k : Int) = p at *
  have d1 := Lib.hid (fun W (b : Below w.heap.size w W) => Decode_litB (tabs.below b) l1 e1 (l := 2) rfl)
  have d2 := Lib.hid (fun W (b : Below w.heap.size w W) => Decode_litB (tabs.below b) l2 e2 (l := 2) rfl)
  have d3 := Lib.hid (fun W (b : Below w.heap.size w W) => Decode_litB (tabs.below b) l3 e3 (l := 5) rfl)
  have d4 := Lib.hid (fun W (b : Below w.heap.size w W) => Decode_litB (tabs.below b) l4 e4 (l := 3) rfl)
  have hk0 : (0 : Int) ≤ k := hk8'.1
  have hk7 : (k : Int) ≤ 7 := by omega
  clear e1 e2 e3 e4 l1 l2 l3 l4 hop
  go_enter Tryd.func6, Tryd.ntmps6
  go_upto_region 4 with ((with_reducible refine hK.out.mono ?_); rintro e W0 ⟨rfl, b0⟩)
  have kO := Blk.new W0 40 ops8
  have k0 := b0.alloc b0.size (.cells ops8 40)
  replace hix := hix W0.heap.size
  generalize W0.alloc (.cells ops8 40) = V0 at *
  generalize W0.heap.size = O at *
  go_upto_region 6 with fail
  go_upto_region 7 with (first | ((with_reducible refine (d1.out _ k0).mono ?_); rintro e U1 ⟨rfl, b1⟩) | ((with_reducible refine store_in_as rfl _ _ rfl (in16 ⟨p, 0, onReg x, onReg y, false, 2⟩) (in16_size _) (in16_one _) rfl rfl ?_); intro V1 kI1 c1))
  have g1 : Below V0.heap.size V0 V1 := b1.trans (c1.mono b1.size)
  have k1 := k0.trans (g1.mono k0.size)
  replace kO := kO.below g1 kO.lt
  clear b1 c1
  go_upto_region 8 with (first | ((with_reducible refine (d2.out _ k1).mono ?_); rintro e U2 ⟨rfl, b2⟩) | ((with_reducible refine store_in_as rfl _ _ rfl (in16 ⟨p, 0, onReg y, onReg x, false, 2⟩) (in16_size _) (in16_one _) rfl rfl ?_); intro V2 kI2 c2))
  have g2 : Below V1.heap.size V1 V2 := b2.trans (c2.mono b2.size)
  have k2 := k1.trans (g2.mono k1.size)
  replace kO := kO.below g2 kO.lt
  replace kI1 := kI1.below g2 kI1.lt
  clear b2 c2
  go_upto_region 9 with (first | ((with_reducible refine (d3.out _ k2).mono ?_); rintro e U3 ⟨rfl, b3⟩) | ((with_reducible refine store_in_as rfl _ _ rfl (in16 ⟨p, 0, onReg 0, onImm v, false, 5⟩) (in16_size _) (in16_one _) rfl rfl ?_); intro V3 kI3 c3))
  have g3 : Below V2.heap.size V2 V3 := b3.trans (c3.mono b3.size)
  have k3 := k2.trans (g3.mono k2.size)
  replace kO := kO.below g3 kO.lt
  replace kI1 := kI1.below g3 kI1.lt
  replace kI2 := kI2.below g3 kI2.lt
  clear b3 c3
  go_upto_region 10 with (first | ((with_reducible refine (d4.out _ k3).mono ?_); rintro e U4 ⟨rfl, b4⟩) | ((with_reducible refine store_in_as rfl _ _ rfl (in16 ⟨p, 0, onReg x, onImm sv, false, 3⟩) (in16_size _) (in16_one _) rfl rfl ?_); intro V4 kI4 c4))
  have g4 : Below V3.heap.size V3 V4 := b4.trans (c4.mono b4.size)
  have k4 := k3.trans (g4.mono k3.size)
  replace kO := kO.below g4 kO.lt
  replace kI1 := kI1.below g4 kI1.lt
  replace kI2 := kI2.below g4 kI2.lt
  replace kI3 := kI3.below g4 kI3.lt
  clear b4 c4
  have F : GS w V4 O U1.heap.size U2.heap.size U3.heap.size U4.heap.size ⟨p, 0, onReg x, onReg y, false, 2⟩ ⟨p, 0, onReg y, onReg x, false, 2⟩ ⟨p, 0, onReg 0, onImm v, false, 5⟩ ⟨p, 0, onReg x, onImm sv, false, 3⟩ := ⟨k4, kO, kI1, kI2, kI3, kI4⟩
  clear g1 g2 g3 g4 k1 k2 k3 k4 kO kI1 kI2 kI3 kI4 d1 d2 d3 d4 k0
  generalize U1.heap.size = D1 at *
  generalize U2.heap.size = D2 at *
  generalize U3.heap.size = D3 at *
  generalize U4.heap.size = D4 at *
  go_cut [26] from 26 to 102 (fun t26 W => ∃ E, t26 = .pointer (some ⟨E, 0, none⟩) ∧ Blk W E 28 (in16 ⟨p, 0, onReg x, onReg y, false, 2⟩) ∧ GS w W O D1 D2 D3 D4 ⟨p, 0, onReg x, onReg y, false, 2⟩ ⟨p, 0, onReg y, onReg x, false, 2⟩ ⟨p, 0, onReg 0, onImm v, false, 5⟩ ⟨p, 0, onReg x, onImm sv, false, 3⟩)
  case first =>
    refine wp_region_held_drew (S := fun W => GS w W O D1 D2 D3 D4 ⟨p, 0, onReg x, onReg y, false, 2⟩ ⟨p, 0, onReg y, onReg x, false, 2⟩ ⟨p, 0, onReg 0, onImm v, false, 5⟩ ⟨p, 0, onReg x, onImm sv, false, 3⟩) (by kernel_rfl) F.drew (fun hH0 => ?_)
    refine wpAnyH_take (i := 0) (v := .int .u8 k) rfl (by kernel_rfl) (by kernel_rfl) (by kernel_rfl) (fun _ _ _ h => h) (Or.inl ⟨by kernel_rfl, ?_⟩) hH0 ?_
    · intro W hS
      go_simp
    try simp only [Act.put, List.setIfInBounds_toArray, List.set_cons_zero, List.set_cons_succ, List.getElem_toArray, List.getElem_cons_succ, List.getElem_cons_zero]
    refine wpAnyH_take (i := 1) (v := .pointer (some ⟨O, k, none⟩)) rfl (by kernel_rfl) (by kernel_rfl) (by kernel_rfl) (fun _ _ _ h => h) (Or.inl ⟨by kernel_rfl, ?_⟩) hH0 ?_
    · intro W hS
      go_simp
    try simp only [Act.put, List.setIfInBounds_toArray, List.set_cons_zero, List.set_cons_succ, List.getElem_toArray, List.getElem_cons_succ, List.getElem_cons_zero]
    refine wpAnyH_take (i := 2) (v := .int .i64 p) rfl (by kernel_rfl) (by kernel_rfl) (by kernel_rfl) (fun _ _ _ h => h) (Or.inl ⟨by kernel_rfl, ?_⟩) hH0 ?_
    · intro W hS
      have cO := hS.o.cell hat
      go_simp
    try simp only [Act.put, List.setIfInBounds_toArray, List.set_cons_zero, List.set_cons_succ, List.getElem_toArray, List.getElem_cons_succ, List.getElem_cons_zero]
    refine wpAnyH_take (i := 3) (v := .int .u8 x) rfl (by kernel_rfl) (by kernel_rfl) (by kernel_rfl) (fun _ _ _ h => h) (Or.inl ⟨by kernel_rfl, ?_⟩) hH0 ?_
    · intro W hS
      go_simp
    try simp only [Act.put, List.setIfInBounds_toArray, List.set_cons_zero, List.set_cons_succ, List.getElem_toArray, List.getElem_cons_succ, List.getElem_cons_zero]
    refine wpAnyH_take (i := 5) (v := .int .u8 y) rfl (by kernel_rfl) (by kernel_rfl) (by kernel_rfl) (fun _ _ _ h => h) (Or.inl ⟨by kernel_rfl, ?_⟩) hH0 ?_
    · intro W hS
      go_simp
    try simp only [Act.put, List.setIfInBounds_toArray, List.set_cons_zero, List.set_cons_succ, List.getElem_toArray, List.getElem_cons_succ, List.getElem_cons_zero]
    refine wpAnyH_ready (rs := [4, 8]) (by kernel_rfl) (by simp) ?_
    refine AllReadyH.cons rfl (fun K hK => ?_) (AllReadyH.cons rfl (fun K hK => ?_) AllReadyH.nil)
    · go_simp
      with_reducible refine (hRx _).mono ?_
      rintro e u1 ⟨rfl, bb1⟩
      have hZ1 := (show GS w u1 O D1 D2 D3 D4 ⟨p, 0, onReg x, onReg y, false, 2⟩ ⟨p, 0, onReg y, onReg x, false, 2⟩ ⟨p, 0, onReg 0, onImm v, false, 5⟩ ⟨p, 0, onReg x, onImm sv, false, 3⟩ from hH0.below bb1)
      refine hK.out _ _ hZ1 (fun _ => ?_)
      clear hK K
      try simp only [Act.put, List.setIfInBounds_toArray, List.set_cons_zero, List.set_cons_succ, List.getElem_toArray, List.getElem_cons_succ, List.getElem_cons_zero]
      refine wpAnyH_ready (rs := [6, 8]) (by kernel_rfl) (by simp) ?_
      refine AllReadyH.cons rfl (fun K hK => ?_) (AllReadyH.cons rfl (fun K hK => ?_) AllReadyH.nil)
      · go_simp
        with_reducible refine (hRy _).mono ?_
        rintro e u2 ⟨rfl, bb2⟩
        have hZ2 := (show GS w u2 O D1 D2 D3 D4 ⟨p, 0, onReg x, onReg y, false, 2⟩ ⟨p, 0, onReg y, onReg x, false, 2⟩ ⟨p, 0, onReg 0, onImm v, false, 5⟩ ⟨p, 0, onReg x, onImm sv, false, 3⟩ from hZ1.below bb2)
        refine hK.out _ _ hZ2 (fun _ => ?_)
        clear hK K
        try simp only [Act.put, List.setIfInBounds_toArray, List.set_cons_zero, List.set_cons_succ, List.getElem_toArray, List.getElem_cons_succ, List.getElem_cons_zero]
        refine wpAnyH_take (i := 7) (v := inV ⟨p, 0, onReg x, onReg y, false, 2⟩) rfl (by kernel_rfl) (by kernel_rfl) (by kernel_rfl) (fun _ _ _ h => h) (Or.inl ⟨by kernel_rfl, ?_⟩) hZ2 ?_
        · intro W hS
          kernel_rfl
        try simp only [Act.put, List.setIfInBounds_toArray, List.set_cons_zero, List.set_cons_succ, List.getElem_toArray, List.getElem_cons_succ, List.getElem_cons_zero]
        refine wpAnyH_ready (rs := [8]) (by kernel_rfl) (by simp) ?_
        refine AllReadyH.cons rfl (fun K hK => ?_) AllReadyH.nil
        go_simp
        have kD := Blk.new u2 28 z16
        have bA := (Below.refl u2.heap.size u2).alloc (Nat.le_refl _) (.cells z16 28)
        have hZ3 := (show GS w (u2.alloc (.cells z16 28)) O D1 D2 D3 D4 ⟨p, 0, onReg x, onReg y, false, 2⟩ ⟨p, 0, onReg y, onReg x, false, 2⟩ ⟨p, 0, onReg 0, onImm v, false, 5⟩ ⟨p, 0, onReg x, onImm sv, false, 3⟩ from hZ2.below bA)
        have hD : w.heap.size ≤ u2.heap.size ∧ O < u2.heap.size ∧ D1 < u2.heap.size ∧ D2 < u2.heap.size ∧ D3 < u2.heap.size ∧ D4 < u2.heap.size ∧ True := ⟨hZ2.k.size, hZ2.o.lt, hZ2.i1.lt, hZ2.i2.lt, hZ2.i3.lt, hZ2.i4.lt, trivial⟩
        generalize u2.heap.size = D at *
        refine hK.out _ _ hZ3 (fun _ => ?_)
        clear hK K bA
        generalize u2.alloc (.cells z16 28) = w3 at *
        try simp only [Act.put, List.setIfInBounds_toArray, List.set_cons_zero, List.set_cons_succ, List.getElem_toArray, List.getElem_cons_succ, List.getElem_cons_zero]
        refine wpAnyH_ready (rs := [9]) (by kernel_rfl) (by simp) ?_
        refine AllReadyH.cons rfl (fun K hK => ?_) AllReadyH.nil
        rw [if_pos (by kernel_rfl)]
        refine wp_store_row 28 _ _ rfl D (in16 ⟨p, 0, onReg x, onReg y, false, 2⟩) rfl rfl 28 z16 kD.h (szIn ⟨p, 0, onReg x, onReg y, false, 2⟩) rfl (in16_one ⟨p, 0, onReg x, onReg y, false, 2⟩) ?_
        have kA := kD.row (in16 ⟨p, 0, onReg x, onReg y, false, 2⟩)
        have hF := hZ3.row hD.1 hD.2.1 hD.2.2.1 hD.2.2.2.1 hD.2.2.2.2.1 hD.2.2.2.2.2.1 (in16 ⟨p, 0, onReg x, onReg y, false, 2⟩)
        refine hK.out _ _ hF (fun _ => ?_)
        clear hK K
        refine wpAnyH_done (by kernel_rfl) ?_ _
        go_wp2_with fail
        go_meet
        exact ⟨D, rfl, kA, hF⟩
      · go_simp
        have kD := Blk.new u1 28 z16
        have bA := (Below.refl u1.heap.size u1).alloc (Nat.le_refl _) (.cells z16 28)
        have hZ4 := (show GS w (u1.alloc (.cells z16 28)) O D1 D2 D3 D4 ⟨p, 0, onReg x, onReg y, false, 2⟩ ⟨p, 0, onReg y, onReg x, false, 2⟩ ⟨p, 0, onReg 0, onImm v, false, 5⟩ ⟨p, 0, onReg x, onImm sv, false, 3⟩ from hZ1.below bA)
        have hD : w.heap.size ≤ u1.heap.size ∧ O < u1.heap.size ∧ D1 < u1.heap.size ∧ D2 < u1.heap.size ∧ D3 < u1.heap.size ∧ D4 < u1.heap.size ∧ True := ⟨hZ1.k.size, hZ1.o.lt, hZ1.i1.lt, hZ1.i2.lt, hZ1.i3.lt, hZ1.i4.lt, trivial⟩
        generalize u1.heap.size = D at *
        refine hK.out _ _ hZ4 (fun _ => ?_)
        clear hK K bA
        generalize u1.alloc (.cells z16 28) = w3 at *
        try simp only [Act.put, List.setIfInBounds_toArray, List.set_cons_zero, List.set_cons_succ, List.getElem_toArray, List.getElem_cons_succ, List.getElem_cons_zero]
        refine wpAnyH_ready (rs := [6]) (by kernel_rfl) (by simp) ?_
        refine AllReadyH.cons rfl (fun K hK => ?_) AllReadyH.nil
        go_simp
        with_reducible refine (hRy _).mono ?_
        rintro e u5 ⟨rfl, bb5⟩
        have hZ5 := (show GS w u5 O D1 D2 D3 D4 ⟨p, 0, onReg x, onReg y, false, 2⟩ ⟨p, 0, onReg y, onReg x, false, 2⟩ ⟨p, 0, onReg 0, onImm v, false, 5⟩ ⟨p, 0, onReg x, onImm sv, false, 3⟩ from hZ4.below bb5)
        replace kD := kD.below bb5 kD.lt
        refine hK.out _ _ hZ5 (fun _ => ?_)
        clear hK K
        try simp only [Act.put, List.setIfInBounds_toArray, List.set_cons_zero, List.set_cons_succ, List.getElem_toArray, List.getElem_cons_succ, List.getElem_cons_zero]
        refine wpAnyH_take (i := 7) (v := inV ⟨p, 0, onReg x, onReg y, false, 2⟩) rfl (by kernel_rfl) (by kernel_rfl) (by kernel_rfl) (fun _ _ _ h => h) (Or.inl ⟨by kernel_rfl, ?_⟩) hZ5 ?_
        · intro W hS
          kernel_rfl
        try simp only [Act.put, List.setIfInBounds_toArray, List.set_cons_zero, List.set_cons_succ, List.getElem_toArray, List.getElem_cons_succ, List.getElem_cons_zero]
        refine wpAnyH_ready (rs := [9]) (by kernel_rfl) (by simp) ?_
        refine AllReadyH.cons rfl (fun K hK => ?_) AllReadyH.nil
        rw [if_pos (by kernel_rfl)]
        refine wp_store_row 28 _ _ rfl D (in16 ⟨p, 0, onReg x, onReg y, false, 2⟩) rfl rfl 28 z16 kD.h (szIn ⟨p, 0, onReg x, onReg y, false, 2⟩) rfl (in16_one ⟨p, 0, onReg x, onReg y, false, 2⟩) ?_
        have kA := kD.row (in16 ⟨p, 0, onReg x, onReg y, false, 2⟩)
        have hF := hZ5.row hD.1 hD.2.1 hD.2.2.1 hD.2.2.2.1 hD.2.2.2.2.1 hD.2.2.2.2.2.1 (in16 ⟨p, 0, onReg x, onReg y, false, 2⟩)
        refine hK.out _ _ hF (fun _ => ?_)
        clear hK K
        refine wpAnyH_done (by kernel_rfl) ?_ _
        go_wp2_with fail
        go_meet
        exact ⟨D, rfl, kA, hF⟩
    · go_simp
      have kD : Blk (V4.alloc (.cells z16 28)).drew V4.heap.size 28 z16 := Blk.new V4.drew 28 z16
      have bA : Below V4.drew.heap.size V4.drew (V4.alloc (.cells z16 28)).drew := (Below.refl _ _).alloc (Nat.le_refl _) (.cells z16 28)
      have hZ6 : GS w (V4.alloc (.cells z16 28)).drew O D1 D2 D3 D4 ⟨p, 0, onReg x, onReg y, false, 2⟩ ⟨p, 0, onReg y, onReg x, false, 2⟩ ⟨p, 0, onReg 0, onImm v, false, 5⟩ ⟨p, 0, onReg x, onImm sv, false, 3⟩ := hH0.below bA
      have hD : w.heap.size ≤ V4.heap.size ∧ O < V4.heap.size ∧ D1 < V4.heap.size ∧ D2 < V4.heap.size ∧ D3 < V4.heap.size ∧ D4 < V4.heap.size ∧ True := ⟨hH0.k.size, hH0.o.lt, hH0.i1.lt, hH0.i2.lt, hH0.i3.lt, hH0.i4.lt, trivial⟩
      change K _ (V4.alloc (.cells z16 28)).drew
      generalize V4.heap.size = D at *
      refine hK.out _ _ hZ6 (fun _ => ?_)
      clear hK K bA
      generalize (V4.alloc (.cells z16 28)).drew = w3 at *
      try simp only [Act.put, List.setIfInBounds_toArray, List.set_cons_zero, List.set_cons_succ, List.getElem_toArray, List.getElem_cons_succ, List.getElem_cons_zero]
      refine wpAnyH_ready (rs := [4]) (by kernel_rfl) (by simp) ?_
      refine AllReadyH.cons rfl (fun K hK => ?_) AllReadyH.nil
      go_simp
      with_reducible refine (hRx _).mono ?_
      rintro e u7 ⟨rfl, bb7⟩
      have hZ7 := (show GS w u7 O D1 D2 D3 D4 ⟨p, 0, onReg x, onReg y, false, 2⟩ ⟨p, 0, onReg y, onReg x, false, 2⟩ ⟨p, 0, onReg 0, onImm v, false, 5⟩ ⟨p, 0, onReg x, onImm sv, false, 3⟩ from hZ6.below bb7)
      replace kD := kD.below bb7 kD.lt
      refine hK.out _ _ hZ7 (fun _ => ?_)
      clear hK K
      try simp only [Act.put, List.setIfInBounds_toArray, List.set_cons_zero, List.set_cons_succ, List.getElem_toArray, List.getElem_cons_succ, List.getElem_cons_zero]
      refine wpAnyH_ready (rs := [6]) (by kernel_rfl) (by simp) ?_
      refine AllReadyH.cons rfl (fun K hK => ?_) AllReadyH.nil
      go_simp
      with_reducible refine (hRy _).mono ?_
      rintro e u8 ⟨rfl, bb8⟩
      have hZ8 := (show GS w u8 O D1 D2 D3 D4 ⟨p, 0, onReg x, onReg y, false, 2⟩ ⟨p, 0, onReg y, onReg x, false, 2⟩ ⟨p, 0, onReg 0, onImm v, false, 5⟩ ⟨p, 0, onReg x, onImm sv, false, 3⟩ from hZ7.below bb8)
      replace kD := kD.below bb8 kD.lt
      refine hK.out _ _ hZ8 (fun _ => ?_)
      clear hK K
      try simp only [Act.put, List.setIfInBounds_toArray, List.set_cons_zero, List.set_cons_succ, List.getElem_toArray, List.getElem_cons_succ, List.getElem_cons_zero]
      refine wpAnyH_take (i := 7) (v := inV ⟨p, 0, onReg x, onReg y, false, 2⟩) rfl (by kernel_rfl) (by kernel_rfl) (by kernel_rfl) (fun _ _ _ h => h) (Or.inl ⟨by kernel_rfl, ?_⟩) hZ8 ?_
      · intro W hS
        kernel_rfl
      try simp only [Act.put, List.setIfInBounds_toArray, List.set_cons_zero, List.set_cons_succ, List.getElem_toArray, List.getElem_cons_succ, List.getElem_cons_zero]
      refine wpAnyH_ready (rs := [9]) (by kernel_rfl) (by simp) ?_
      refine AllReadyH.cons rfl (fun K hK => ?_) AllReadyH.nil
      rw [if_pos (by kernel_rfl)]
      refine wp_store_row 28 _ _ rfl D (in16 ⟨p, 0, onReg x, onReg y, false, 2⟩) rfl rfl 28 z16 kD.h (szIn ⟨p, 0, onReg x, onReg y, false, 2⟩) rfl (in16_one ⟨p, 0, onReg x, onReg y, false, 2⟩) ?_
      have kA := kD.row (in16 ⟨p, 0, onReg x, onReg y, false, 2⟩)
      have hF := hZ8.row hD.1 hD.2.1 hD.2.2.1 hD.2.2.2.1 hD.2.2.2.2.1 hD.2.2.2.2.2.1 (in16 ⟨p, 0, onReg x, onReg y, false, 2⟩)
      refine hK.out _ _ hF (fun _ => ?_)
      clear hK K
      refine wpAnyH_done (by kernel_rfl) ?_ _
      go_wp2_with fail
      go_meet
      exact ⟨D, rfl, kA, hF⟩
  clear F
  obtain ⟨E, rfl, kX, F⟩ := hcut
  go_upto_region 11 with fail
  go_cut [27] from 27 to 110 (fun t27 W => ∃ G, t27 = .pointer (some ⟨G, 0, none⟩) ∧ Blk W G 28 (in16 ⟨p, 0, onReg y, onReg x, false, 2⟩) ∧ Blk W E 28 (in16 ⟨p, 0, onReg x, onReg y, false, 2⟩) ∧ GS w W O D1 D2 D3 D4 ⟨p, 0, onReg x, onReg y, false, 2⟩ ⟨p, 0, onReg y, onReg x, false, 2⟩ ⟨p, 0, onReg 0, onImm v, false, 5⟩ ⟨p, 0, onReg x, onImm sv, false, 3⟩)
  case first =>
    refine wp_region_held_drew (S := fun W => GS w W O D1 D2 D3 D4 ⟨p, 0, onReg x, onReg y, false, 2⟩ ⟨p, 0, onReg y, onReg x, false, 2⟩ ⟨p, 0, onReg 0, onImm v, false, 5⟩ ⟨p, 0, onReg x, onImm sv, false, 3⟩ ∧ Blk W E 28 (in16 ⟨p, 0, onReg x, onReg y, false, 2⟩)) (by kernel_rfl) ⟨F.drew, kX.drew⟩ (fun hH0 => ?_)
    refine wpAnyH_take (i := 0) (v := .int .u8 k) rfl (by kernel_rfl) (by kernel_rfl) (by kernel_rfl) (fun _ _ _ h => h) (Or.inl ⟨by kernel_rfl, ?_⟩) hH0 ?_
    · intro W hS
      go_simp
    try simp only [Act.put, List.setIfInBounds_toArray, List.set_cons_zero, List.set_cons_succ, List.getElem_toArray, List.getElem_cons_succ, List.getElem_cons_zero]
    refine wpAnyH_take (i := 1) (v := .pointer (some ⟨O, k, none⟩)) rfl (by kernel_rfl) (by kernel_rfl) (by kernel_rfl) (fun _ _ _ h => h) (Or.inl ⟨by kernel_rfl, ?_⟩) hH0 ?_
    · intro W hS
      go_simp
    try simp only [Act.put, List.setIfInBounds_toArray, List.set_cons_zero, List.set_cons_succ, List.getElem_toArray, List.getElem_cons_succ, List.getElem_cons_zero]
    refine wpAnyH_take (i := 2) (v := .int .i64 p) rfl (by kernel_rfl) (by kernel_rfl) (by kernel_rfl) (fun _ _ _ h => h) (Or.inl ⟨by kernel_rfl, ?_⟩) hH0 ?_
    · intro W hS
      have cO := hS.1.o.cell hat
      go_simp
    try simp only [Act.put, List.setIfInBounds_toArray, List.set_cons_zero, List.set_cons_succ, List.getElem_toArray, List.getElem_cons_succ, List.getElem_cons_zero]
    refine wpAnyH_take (i := 3) (v := .int .u8 y) rfl (by kernel_rfl) (by kernel_rfl) (by kernel_rfl) (fun _ _ _ h => h) (Or.inl ⟨by kernel_rfl, ?_⟩) hH0 ?_
    · intro W hS
      go_simp
    try simp only [Act.put, List.setIfInBounds_toArray, List.set_cons_zero, List.set_cons_succ, List.getElem_toArray, List.getElem_cons_succ, List.getElem_cons_zero]
    refine wpAnyH_take (i := 5) (v := .int .u8 x) rfl (by kernel_rfl) (by kernel_rfl) (by kernel_rfl) (fun _ _ _ h => h) (Or.inl ⟨by kernel_rfl, ?_⟩) hH0 ?_
    · intro W hS
      go_simp
    try simp only [Act.put, List.setIfInBounds_toArray, List.set_cons_zero, List.set_cons_succ, List.getElem_toArray, List.getElem_cons_succ, List.getElem_cons_zero]
    refine wpAnyH_ready (rs := [4, 8]) (by kernel_rfl) (by simp) ?_
    refine AllReadyH.cons rfl (fun K hK => ?_) (AllReadyH.cons rfl (fun K hK => ?_) AllReadyH.nil)
    · go_simp
      with_reducible refine (hRy _).mono ?_
      rintro e u1 ⟨rfl, bb1⟩
      have hZ1 := (show GS w u1 O D1 D2 D3 D4 ⟨p, 0, onReg x, onReg y, false, 2⟩ ⟨p, 0, onReg y, onReg x, false, 2⟩ ⟨p, 0, onReg 0, onImm v, false, 5⟩ ⟨p, 0, onReg x, onImm sv, false, 3⟩ ∧ Blk u1 E 28 (in16 ⟨p, 0, onReg x, onReg y, false, 2⟩) from ⟨hH0.1.below bb1, hH0.2.below bb1 hH0.2.lt⟩)
      refine hK.out _ _ hZ1 (fun _ => ?_)
      clear hK K
      try simp only [Act.put, List.setIfInBounds_toArray, List.set_cons_zero, List.set_cons_succ, List.getElem_toArray, List.getElem_cons_succ, List.getElem_cons_zero]
      refine wpAnyH_ready (rs := [6, 8]) (by kernel_rfl) (by simp) ?_
      refine AllReadyH.cons rfl (fun K hK => ?_) (AllReadyH.cons rfl (fun K hK => ?_) AllReadyH.nil)
      · go_simp
        with_reducible refine (hRx _).mono ?_
        rintro e u2 ⟨rfl, bb2⟩
        have hZ2 := (show GS w u2 O D1 D2 D3 D4 ⟨p, 0, onReg x, onReg y, false, 2⟩ ⟨p, 0, onReg y, onReg x, false, 2⟩ ⟨p, 0, onReg 0, onImm v, false, 5⟩ ⟨p, 0, onReg x, onImm sv, false, 3⟩ ∧ Blk u2 E 28 (in16 ⟨p, 0, onReg x, onReg y, false, 2⟩) from ⟨hZ1.1.below bb2, hZ1.2.below bb2 hZ1.2.lt⟩)
        refine hK.out _ _ hZ2 (fun _ => ?_)
        clear hK K
        try simp only [Act.put, List.setIfInBounds_toArray, List.set_cons_zero, List.set_cons_succ, List.getElem_toArray, List.getElem_cons_succ, List.getElem_cons_zero]
        refine wpAnyH_take (i := 7) (v := inV ⟨p, 0, onReg y, onReg x, false, 2⟩) rfl (by kernel_rfl) (by kernel_rfl) (by kernel_rfl) (fun _ _ _ h => h) (Or.inl ⟨by kernel_rfl, ?_⟩) hZ2 ?_
        · intro W hS
          kernel_rfl
        try simp only [Act.put, List.setIfInBounds_toArray, List.set_cons_zero, List.set_cons_succ, List.getElem_toArray, List.getElem_cons_succ, List.getElem_cons_zero]
        refine wpAnyH_ready (rs := [8]) (by kernel_rfl) (by simp) ?_
        refine AllReadyH.cons rfl (fun K hK => ?_) AllReadyH.nil
        go_simp
        have kD := Blk.new u2 28 z16
        have bA := (Below.refl u2.heap.size u2).alloc (Nat.le_refl _) (.cells z16 28)
        have hZ3 := (show GS w (u2.alloc (.cells z16 28)) O D1 D2 D3 D4 ⟨p, 0, onReg x, onReg y, false, 2⟩ ⟨p, 0, onReg y, onReg x, false, 2⟩ ⟨p, 0, onReg 0, onImm v, false, 5⟩ ⟨p, 0, onReg x, onImm sv, false, 3⟩ ∧ Blk (u2.alloc (.cells z16 28)) E 28 (in16 ⟨p, 0, onReg x, onReg y, false, 2⟩) from ⟨hZ2.1.below bA, hZ2.2.below bA hZ2.2.lt⟩)
        have hD : w.heap.size ≤ u2.heap.size ∧ O < u2.heap.size ∧ D1 < u2.heap.size ∧ D2 < u2.heap.size ∧ D3 < u2.heap.size ∧ D4 < u2.heap.size ∧ E < u2.heap.size := ⟨hZ2.1.k.size, hZ2.1.o.lt, hZ2.1.i1.lt, hZ2.1.i2.lt, hZ2.1.i3.lt, hZ2.1.i4.lt, hZ2.2.lt⟩
        generalize u2.heap.size = D at *
        refine hK.out _ _ hZ3 (fun _ => ?_)
        clear hK K bA
        generalize u2.alloc (.cells z16 28) = w3 at *
        try simp only [Act.put, List.setIfInBounds_toArray, List.set_cons_zero, List.set_cons_succ, List.getElem_toArray, List.getElem_cons_succ, List.getElem_cons_zero]
        refine wpAnyH_ready (rs := [9]) (by kernel_rfl) (by simp) ?_
        refine AllReadyH.cons rfl (fun K hK => ?_) AllReadyH.nil
        rw [if_pos (by kernel_rfl)]
        refine wp_store_row 28 _ _ rfl D (in16 ⟨p, 0, onReg y, onReg x, false, 2⟩) rfl rfl 28 z16 kD.h (szIn ⟨p, 0, onReg y, onReg x, false, 2⟩) rfl (in16_one ⟨p, 0, onReg y, onReg x, false, 2⟩) ?_
        have kA := kD.row (in16 ⟨p, 0, onReg y, onReg x, false, 2⟩)
        have hF := (show GS w _ O D1 D2 D3 D4 ⟨p, 0, onReg x, onReg y, false, 2⟩ ⟨p, 0, onReg y, onReg x, false, 2⟩ ⟨p, 0, onReg 0, onImm v, false, 5⟩ ⟨p, 0, onReg x, onImm sv, false, 3⟩ ∧ Blk _ E 28 (in16 ⟨p, 0, onReg x, onReg y, false, 2⟩) from ⟨hZ3.1.row hD.1 hD.2.1 hD.2.2.1 hD.2.2.2.1 hD.2.2.2.2.1 hD.2.2.2.2.2.1 (in16 ⟨p, 0, onReg y, onReg x, false, 2⟩), hZ3.2.rowOther (M := D) (in16 ⟨p, 0, onReg y, onReg x, false, 2⟩) (by omega)⟩)
        refine hK.out _ _ hF (fun _ => ?_)
        clear hK K
        refine wpAnyH_done (by kernel_rfl) ?_ _
        go_wp2_with fail
        go_meet
        exact ⟨D, rfl, kA, hF.2, hF.1⟩
      · go_simp
        have kD := Blk.new u1 28 z16
        have bA := (Below.refl u1.heap.size u1).alloc (Nat.le_refl _) (.cells z16 28)
        have hZ4 := (show GS w (u1.alloc (.cells z16 28)) O D1 D2 D3 D4 ⟨p, 0, onReg x, onReg y, false, 2⟩ ⟨p, 0, onReg y, onReg x, false, 2⟩ ⟨p, 0, onReg 0, onImm v, false, 5⟩ ⟨p, 0, onReg x, onImm sv, false, 3⟩ ∧ Blk (u1.alloc (.cells z16 28)) E 28 (in16 ⟨p, 0, onReg x, onReg y, false, 2⟩) from ⟨hZ1.1.below bA, hZ1.2.below bA hZ1.2.lt⟩)
        have hD : w.heap.size ≤ u1.heap.size ∧ O < u1.heap.size ∧ D1 < u1.heap.size ∧ D2 < u1.heap.size ∧ D3 < u1.heap.size ∧ D4 < u1.heap.size ∧ E < u1.heap.size := ⟨hZ1.1.k.size, hZ1.1.o.lt, hZ1.1.i1.lt, hZ1.1.i2.lt, hZ1.1.i3.lt, hZ1.1.i4.lt, hZ1.2.lt⟩
        generalize u1.heap.size = D at *
        refine hK.out _ _ hZ4 (fun _ => ?_)
        clear hK K bA
        generalize u1.alloc (.cells z16 28) = w3 at *
        try simp only [Act.put, List.setIfInBounds_toArray, List.set_cons_zero, List.set_cons_succ, List.getElem_toArray, List.getElem_cons_succ, List.getElem_cons_zero]
        refine wpAnyH_ready (rs := [6]) (by kernel_rfl) (by simp) ?_
        refine AllReadyH.cons rfl (fun K hK => ?_) AllReadyH.nil
        go_simp
        with_reducible refine (hRx _).mono ?_
        rintro e u5 ⟨rfl, bb5⟩
        have hZ5 := (show GS w u5 O D1 D2 D3 D4 ⟨p, 0, onReg x, onReg y, false, 2⟩ ⟨p, 0, onReg y, onReg x, false, 2⟩ ⟨p, 0, onReg 0, onImm v, false, 5⟩ ⟨p, 0, onReg x, onImm sv, false, 3⟩ ∧ Blk u5 E 28 (in16 ⟨p, 0, onReg x, onReg y, false, 2⟩) from ⟨hZ4.1.below bb5, hZ4.2.below bb5 hZ4.2.lt⟩)
        replace kD := kD.below bb5 kD.lt
        refine hK.out _ _ hZ5 (fun _ => ?_)
        clear hK K
        try simp only [Act.put, List.setIfInBounds_toArray, List.set_cons_zero, List.set_cons_succ, List.getElem_toArray, List.getElem_cons_succ, List.getElem_cons_zero]
        refine wpAnyH_take (i := 7) (v := inV ⟨p, 0, onReg y, onReg x, false, 2⟩) rfl (by kernel_rfl) (by kernel_rfl) (by kernel_rfl) (fun _ _ _ h => h) (Or.inl ⟨by kernel_rfl, ?_⟩) hZ5 ?_
        · intro W hS
          kernel_rfl
        try simp only [Act.put, List.setIfInBounds_toArray, List.set_cons_zero, List.set_cons_succ, List.getElem_toArray, List.getElem_cons_succ, List.getElem_cons_zero]
        refine wpAnyH_ready (rs := [9]) (by kernel_rfl) (by simp) ?_
        refine AllReadyH.cons rfl (fun K hK => ?_) AllReadyH.nil
        rw [if_pos (by kernel_rfl)]
        refine wp_store_row 28 _ _ rfl D (in16 ⟨p, 0, onReg y, onReg x, false, 2⟩) rfl rfl 28 z16 kD.h (szIn ⟨p, 0, onReg y, onReg x, false, 2⟩) rfl (in16_one ⟨p, 0, onReg y, onReg x, false, 2⟩) ?_
        have kA := kD.row (in16 ⟨p, 0, onReg y, onReg x, false, 2⟩)
        have hF := (show GS w _ O D1 D2 D3 D4 ⟨p, 0, onReg x, onReg y, false, 2⟩ ⟨p, 0, onReg y, onReg x, false, 2⟩ ⟨p, 0, onReg 0, onImm v, false, 5⟩ ⟨p, 0, onReg x, onImm sv, false, 3⟩ ∧ Blk _ E 28 (in16 ⟨p, 0, onReg x, onReg y, false, 2⟩) from ⟨hZ5.1.row hD.1 hD.2.1 hD.2.2.1 hD.2.2.2.1 hD.2.2.2.2.1 hD.2.2.2.2.2.1 (in16 ⟨p, 0, onReg y, onReg x, false, 2⟩), hZ5.2.rowOther (M := D) (in16 ⟨p, 0, onReg y, onReg x, false, 2⟩) (by omega)⟩)
        refine hK.out _ _ hF (fun _ => ?_)
        clear hK K
        refine wpAnyH_done (by kernel_rfl) ?_ _
        go_wp2_with fail
        go_meet
        exact ⟨D, rfl, kA, hF.2, hF.1⟩
    · go_simp
      have kD : Blk (wc.alloc (.cells z16 28)).drew wc.heap.size 28 z16 := Blk.new wc.drew 28 z16
      have bA : Below wc.drew.heap.size wc.drew (wc.alloc (.cells z16 28)).drew := (Below.refl _ _).alloc (Nat.le_refl _) (.cells z16 28)
      have hZ6 : GS w (wc.alloc (.cells z16 28)).drew O D1 D2 D3 D4 ⟨p, 0, onReg x, onReg y, false, 2⟩ ⟨p, 0, onReg y, onReg x, false, 2⟩ ⟨p, 0, onReg 0, onImm v, false, 5⟩ ⟨p, 0, onReg x, onImm sv, false, 3⟩ ∧ Blk (wc.alloc (.cells z16 28)).drew E 28 (in16 ⟨p, 0, onReg x, onReg y, false, 2⟩) := ⟨hH0.1.below bA, hH0.2.below bA hH0.2.lt⟩
      have hD : w.heap.size ≤ wc.heap.size ∧ O < wc.heap.size ∧ D1 < wc.heap.size ∧ D2 < wc.heap.size ∧ D3 < wc.heap.size ∧ D4 < wc.heap.size ∧ E < wc.heap.size := ⟨hH0.1.k.size, hH0.1.o.lt, hH0.1.i1.lt, hH0.1.i2.lt, hH0.1.i3.lt, hH0.1.i4.lt, hH0.2.lt⟩
      change K _ (wc.alloc (.cells z16 28)).drew
      generalize wc.heap.size = D at *
      refine hK.out _ _ hZ6 (fun _ => ?_)
      clear hK K bA
      generalize (wc.alloc (.cells z16 28)).drew = w3 at *
      try simp only [Act.put, List.setIfInBounds_toArray, List.set_cons_zero, List.set_cons_succ, List.getElem_toArray, List.getElem_cons_succ, List.getElem_cons_zero]
      refine wpAnyH_ready (rs := [4]) (by kernel_rfl) (by simp) ?_
      refine AllReadyH.cons rfl (fun K hK => ?_) AllReadyH.nil
      go_simp
      with_reducible refine (hRy _).mono ?_
      rintro e u7 ⟨rfl, bb7⟩
      have hZ7 := (show GS w u7 O D1 D2 D3 D4 ⟨p, 0, onReg x, onReg y, false, 2⟩ ⟨p, 0, onReg y, onReg x, false, 2⟩ ⟨p, 0, onReg 0, onImm v, false, 5⟩ ⟨p, 0, onReg x, onImm sv, false, 3⟩ ∧ Blk u7 E 28 (in16 ⟨p, 0, onReg x, onReg y, false, 2⟩) from ⟨hZ6.1.below bb7, hZ6.2.below bb7 hZ6.2.lt⟩)
      replace kD := kD.below bb7 kD.lt
      refine hK.out _ _ hZ7 (fun _ => ?_)
      clear hK K
      try simp only [Act.put, List.setIfInBounds_toArray, List.set_cons_zero, List.set_cons_succ, List.getElem_toArray, List.getElem_cons_succ, List.getElem_cons_zero]
      refine wpAnyH_ready (rs := [6]) (by kernel_rfl) (by simp) ?_
      refine AllReadyH.cons rfl (fun K hK => ?_) AllReadyH.nil
      go_simp
      with_reducible refine (hRx _).mono ?_
      rintro e u8 ⟨rfl, bb8⟩
      have hZ8 := (show GS w u8 O D1 D2 D3 D4 ⟨p, 0, onReg x, onReg y, false, 2⟩ ⟨p, 0, onReg y, onReg x, false, 2⟩ ⟨p, 0, onReg 0, onImm v, false, 5⟩ ⟨p, 0, onReg x, onImm sv, false, 3⟩ ∧ Blk u8 E 28 (in16 ⟨p, 0, onReg x, onReg y, false, 2⟩) from ⟨hZ7.1.below bb8, hZ7.2.below bb8 hZ7.2.lt⟩)
      replace kD := kD.below bb8 kD.lt
      refine hK.out _ _ hZ8 (fun _ => ?_)
      clear hK K
      try simp only [Act.put, List.setIfInBounds_toArray, List.set_cons_zero, List.set_cons_succ, List.getElem_toArray, List.getElem_cons_succ, List.getElem_cons_zero]
      refine wpAnyH_take (i := 7) (v := inV ⟨p, 0, onReg y, onReg x, false, 2⟩) rfl (by kernel_rfl) (by kernel_rfl) (by kernel_rfl) (fun _ _ _ h => h) (Or.inl ⟨by kernel_rfl, ?_⟩) hZ8 ?_
      · intro W hS
        kernel_rfl
      try simp only [Act.put, List.setIfInBounds_toArray, List.set_cons_zero, List.set_cons_succ, List.getElem_toArray, List.getElem_cons_succ, List.getElem_cons_zero]
      refine wpAnyH_ready (rs := [9]) (by kernel_rfl) (by simp) ?_
      refine AllReadyH.cons rfl (fun K hK => ?_) AllReadyH.nil
      rw [if_pos (by kernel_rfl)]
      refine wp_store_row 28 _ _ rfl D (in16 ⟨p, 0, onReg y, onReg x, false, 2⟩) rfl rfl 28 z16 kD.h (szIn ⟨p, 0, onReg y, onReg x, false, 2⟩) rfl (in16_one ⟨p, 0, onReg y, onReg x, false, 2⟩) ?_
      have kA := kD.row (in16 ⟨p, 0, onReg y, onReg x, false, 2⟩)
      have hF := (show GS w _ O D1 D2 D3 D4 ⟨p, 0, onReg x, onReg y, false, 2⟩ ⟨p, 0, onReg y, onReg x, false, 2⟩ ⟨p, 0, onReg 0, onImm v, false, 5⟩ ⟨p, 0, onReg x, onImm sv, false, 3⟩ ∧ Blk _ E 28 (in16 ⟨p, 0, onReg x, onReg y, false, 2⟩) from ⟨hZ8.1.row hD.1 hD.2.1 hD.2.2.1 hD.2.2.2.1 hD.2.2.2.2.1 hD.2.2.2.2.2.1 (in16 ⟨p, 0, onReg y, onReg x, false, 2⟩), hZ8.2.rowOther (M := D) (in16 ⟨p, 0, onReg y, onReg x, false, 2⟩) (by omega)⟩)
      refine hK.out _ _ hF (fun _ => ?_)
      clear hK K
      refine wpAnyH_done (by kernel_rfl) ?_ _
      go_wp2_with fail
      go_meet
      exact ⟨D, rfl, kA, hF.2, hF.1⟩
  clear F kX
  obtain ⟨G, rfl, kG, kX, F⟩ := hcut
  have heq1 := eq_in ⟨p, 0, onReg x, onReg y, false, 2⟩
  have heq2 := eq_in ⟨p, 0, onReg y, onReg x, false, 2⟩
  clear oM oN hRx hRy hwb
  go_wp2_with fail
  simp only [List.append_eq, List.cons_append, List.nil_append]
  refine wp_region_held_drew (S := fun W => GS w W O D1 D2 D3 D4 ⟨p, 0, onReg x, onReg y, false, 2⟩ ⟨p, 0, onReg y, onReg x, false, 2⟩ ⟨p, 0, onReg 0, onImm v, false, 5⟩ ⟨p, 0, onReg x, onImm sv, false, 3⟩ ∧ Blk W E 28 (in16 ⟨p, 0, onReg x, onReg y, false, 2⟩) ∧ Blk W G 28 (in16 ⟨p, 0, onReg y, onReg x, false, 2⟩)) (by kernel_rfl) ⟨F.drew, kX.drew, kG.drew⟩ (fun hH0 => ?_)
  refine wpAnyH_take (i := 0) (v := ?_) rfl (by kernel_rfl) (by kernel_rfl) (by kernel_rfl) (fun _ _ _ h => h) (Or.inl ⟨by kernel_rfl, ?_⟩) hH0 ?_
  rotate_left
  · intro W hS
    go_simp
    try rfl
  simp only [Act.put, List.setIfInBounds_toArray, List.set_cons_zero, List.set_cons_succ, List.getElem_toArray, List.getElem_cons_succ, List.getElem_cons_zero]
  refine wpAnyH_take (i := 1) (v := ?_) rfl (by kernel_rfl) (by kernel_rfl) (by kernel_rfl) (fun _ _ _ h => h) (Or.inl ⟨by kernel_rfl, ?_⟩) hH0 ?_
  rotate_left
  · intro W hS
    go_simp
    try rfl
  simp only [Act.put, List.setIfInBounds_toArray, List.set_cons_zero, List.set_cons_succ, List.getElem_toArray, List.getElem_cons_succ, List.getElem_cons_zero]
  refine wpAnyH_take (i := 2) (v := ?_) rfl (by kernel_rfl) (by kernel_rfl) (by kernel_rfl) (fun _ _ _ h => h) (Or.inl ⟨by kernel_rfl, ?_⟩) hH0 ?_
  rotate_left
  · intro W hS
    go_simp
    try rfl
  simp only [Act.put, List.setIfInBounds_toArray, List.set_cons_zero, List.set_cons_succ, List.getElem_toArray, List.getElem_cons_succ, List.getElem_cons_zero]
  refine wpAnyH_take (i := 3) (v := ?_) rfl (by kernel_rfl) (by kernel_rfl) (by kernel_rfl) (fun _ _ _ h => h) (Or.inl ⟨by kernel_rfl, ?_⟩) hH0 ?_
  rotate_left
  · intro W hS
    go_simp
    try rfl
  simp only [Act.put, List.setIfInBounds_toArray, List.set_cons_zero, List.set_cons_succ, List.getElem_toArray, List.getElem_cons_succ, List.getElem_cons_zero]
  refine wpAnyH_take (i := 4) (v := ?_) rfl (by kernel_rfl) (by kernel_rfl) (by kernel_rfl) (fun _ _ _ h => h) (Or.inl ⟨by kernel_rfl, ?_⟩) hH0 ?_
  rotate_left
  · intro W hS
    go_simp
    try rfl
  simp only [Act.put, List.setIfInBounds_toArray, List.set_cons_zero, List.set_cons_succ, List.getElem_toArray, List.getElem_cons_succ, List.getElem_cons_zero]
  refine wpAnyH_take (i := 5) (v := ?_) rfl (by kernel_rfl) (by kernel_rfl) (by kernel_rfl) (fun _ _ _ h => h) (Or.inl ⟨by kernel_rfl, ?_⟩) hH0 ?_
  rotate_left
  · intro W hS
    go_simp
    try rfl
  simp only [Act.put, List.setIfInBounds_toArray, List.set_cons_zero, List.set_cons_succ, List.getElem_toArray, List.getElem_cons_succ, List.getElem_cons_zero]
  refine wpAnyH_take (i := 6) (v := ?_) rfl (by kernel_rfl) (by kernel_rfl) (by kernel_rfl) (fun _ _ _ h => h) (Or.inl ⟨by kernel_rfl, ?_⟩) hH0 ?_
  rotate_left
  · intro W hS
    go_simp
    try rfl
  simp only [Act.put, List.setIfInBounds_toArray, List.set_cons_zero, List.set_cons_succ, List.getElem_toArray, List.getElem_cons_succ, List.getElem_cons_zero]
  refine wpAnyH_take (i := 7) (v := inV ⟨p, 0, onReg x, onReg y, false, 2⟩) rfl (by kernel_rfl) (by kernel_rfl) (by kernel_rfl) (fun _ _ _ h => h) (Or.inl ⟨by kernel_rfl, ?_⟩) hH0 ?_
  · intro W hS
    exact run_load_row (by rfl) (by rfl) 28 _ (0, 0) _ hS.1.i1.h Tryd.underlying28 rfl (szIn inZ)
  simp only [Act.put, List.setIfInBounds_toArray, List.set_cons_zero, List.set_cons_succ]
  refine wpAnyH_take (i := 8) (v := inV ⟨p, 0, onReg x, onReg y, false, 2⟩) rfl (by kernel_rfl) (by kernel_rfl) (by kernel_rfl) (fun _ _ _ h => h) (Or.inl ⟨by kernel_rfl, ?_⟩) hH0 ?_
  · intro W hS
    exact run_load_row (by rfl) (by rfl) 28 _ (0, 0) _ hS.2.1.h Tryd.underlying28 rfl (szIn inZ)
  simp only [Act.put, List.setIfInBounds_toArray, List.set_cons_zero, List.set_cons_succ]
  refine wpAnyH_take (i := 9) (v := ?_) rfl (by kernel_rfl) (by kernel_rfl) (by kernel_rfl) (fun _ _ _ h => h) (Or.inl ⟨by kernel_rfl, ?_⟩) hH0 ?_
  rotate_left
  · intro W hS
    go_simp
    try rfl
  simp only [Act.put, List.setIfInBounds_toArray, List.set_cons_zero, List.set_cons_succ, List.getElem_toArray, List.getElem_cons_succ, List.getElem_cons_zero]
  refine wpAnyH_take (i := 10) (v := ?_) rfl (by kernel_rfl) (by kernel_rfl) (by kernel_rfl) (fun _ _ _ h => h) (Or.inl ⟨by kernel_rfl, ?_⟩) hH0 ?_
  rotate_left
  · intro W hS
    go_simp
    try rfl
  simp only [Act.put, List.setIfInBounds_toArray, List.set_cons_zero, List.set_cons_succ, List.getElem_toArray, List.getElem_cons_succ, List.getElem_cons_zero]
  refine wpAnyH_take (i := 11) (v := ?_) rfl (by kernel_rfl) (by kernel_rfl) (by kernel_rfl) (fun _ _ _ h => h) (Or.inl ⟨by kernel_rfl, ?_⟩) hH0 ?_
  rotate_left
  · intro W hS
    go_simp
    try rfl
  simp only [Act.put, List.setIfInBounds_toArray, List.set_cons_zero, List.set_cons_succ, List.getElem_toArray, List.getElem_cons_succ, List.getElem_cons_zero]
  refine wpAnyH_take (i := 12) (v := ?_) rfl (by kernel_rfl) (by kernel_rfl) (by kernel_rfl) (fun _ _ _ h => h) (Or.inl ⟨by kernel_rfl, ?_⟩) hH0 ?_
  rotate_left
  · intro W hS
    go_simp
    try rfl
  simp only [Act.put, List.setIfInBounds_toArray, List.set_cons_zero, List.set_cons_succ, List.getElem_toArray, List.getElem_cons_succ, List.getElem_cons_zero]
  refine wpAnyH_take (i := 13) (v := ?_) rfl (by kernel_rfl) (by kernel_rfl) (by kernel_rfl) (fun _ _ _ h => h) (Or.inl ⟨by kernel_rfl, ?_⟩) hH0 ?_
  rotate_left
  · intro W hS
    go_simp
    try rfl
  simp only [Act.put, List.setIfInBounds_toArray, List.set_cons_zero, List.set_cons_succ, List.getElem_toArray, List.getElem_cons_succ, List.getElem_cons_zero]
  refine wpAnyH_take (i := 14) (v := ?_) rfl (by kernel_rfl) (by kernel_rfl) (by kernel_rfl) (fun _ _ _ h => h) (Or.inl ⟨by kernel_rfl, ?_⟩) hH0 ?_
  rotate_left
  · intro W hS
    go_simp
    try rfl
  simp only [Act.put, List.setIfInBounds_toArray, List.set_cons_zero, List.set_cons_succ, List.getElem_toArray, List.getElem_cons_succ, List.getElem_cons_zero]
  refine wpAnyH_take (i := 15) (v := ?_) rfl (by kernel_rfl) (by kernel_rfl) (by kernel_rfl) (fun _ _ _ h => h) (Or.inl ⟨by kernel_rfl, ?_⟩) hH0 ?_
  rotate_left
  · intro W hS
    go_simp
    try rfl
  simp only [Act.put, List.setIfInBounds_toArray, List.set_cons_zero, List.set_cons_succ, List.getElem_toArray, List.getElem_cons_succ, List.getElem_cons_zero]
  refine wpAnyH_take (i := 16) (v := ?_) rfl (by kernel_rfl) (by kernel_rfl) (by kernel_rfl) (fun _ _ _ h => h) (Or.inl ⟨by kernel_rfl, ?_⟩) hH0 ?_
  rotate_left
  · intro W hS
    go_simp
    try rfl
  simp only [Act.put, List.setIfInBounds_toArray, List.set_cons_zero, List.set_cons_succ, List.getElem_toArray, List.getElem_cons_succ, List.getElem_cons_zero]
  refine wpAnyH_take (i := 17) (v := ?_) rfl (by kernel_rfl) (by kernel_rfl) (by kernel_rfl) (fun _ _ _ h => h) (Or.inl ⟨by kernel_rfl, ?_⟩) hH0 ?_
  rotate_left
  · intro W hS
    go_simp
    try rfl
  simp only [Act.put, List.setIfInBounds_toArray, List.set_cons_zero, List.set_cons_succ, List.getElem_toArray, List.getElem_cons_succ, List.getElem_cons_zero]
  refine wpAnyH_take (i := 18) (v := ?_) rfl (by kernel_rfl) (by kernel_rfl) (by kernel_rfl) (fun _ _ _ h => h) (Or.inl ⟨by kernel_rfl, ?_⟩) hH0 ?_
  rotate_left
  · intro W hS
    go_simp
    try rfl
  simp only [Act.put, List.setIfInBounds_toArray, List.set_cons_zero, List.set_cons_succ, List.getElem_toArray, List.getElem_cons_succ, List.getElem_cons_zero]
  refine wpAnyH_take (i := 19) (v := ?_) rfl (by kernel_rfl) (by kernel_rfl) (by kernel_rfl) (fun _ _ _ h => h) (Or.inl ⟨by kernel_rfl, ?_⟩) hH0 ?_
  rotate_left
  · intro W hS
    go_simp
    try rfl
  simp only [Act.put, List.setIfInBounds_toArray, List.set_cons_zero, List.set_cons_succ, List.getElem_toArray, List.getElem_cons_succ, List.getElem_cons_zero]
  refine wpAnyH_take (i := 20) (v := inV ⟨p, 0, onReg y, onReg x, false, 2⟩) rfl (by kernel_rfl) (by kernel_rfl) (by kernel_rfl) (fun _ _ _ h => h) (Or.inl ⟨by kernel_rfl, ?_⟩) hH0 ?_
  · intro W hS
    exact run_load_row (by rfl) (by rfl) 28 _ (0, 0) _ hS.1.i2.h Tryd.underlying28 rfl (szIn inZ)
  simp only [Act.put, List.setIfInBounds_toArray, List.set_cons_zero, List.set_cons_succ]
  refine wpAnyH_take (i := 21) (v := inV ⟨p, 0, onReg y, onReg x, false, 2⟩) rfl (by kernel_rfl) (by kernel_rfl) (by kernel_rfl) (fun _ _ _ h => h) (Or.inl ⟨by kernel_rfl, ?_⟩) hH0 ?_
  · intro W hS
    exact run_load_row (by rfl) (by rfl) 28 _ (0, 0) _ hS.2.2.h Tryd.underlying28 rfl (szIn inZ)
  simp only [Act.put, List.setIfInBounds_toArray, List.set_cons_zero, List.set_cons_succ]
  refine wpAnyH_take (i := 22) (v := ?_) rfl (by kernel_rfl) (by kernel_rfl) (by kernel_rfl) (fun _ _ _ h => h) (Or.inl ⟨by kernel_rfl, ?_⟩) hH0 ?_
  rotate_left
  · intro W hS
    go_simp
    try rfl
  simp only [Act.put, List.setIfInBounds_toArray, List.set_cons_zero, List.set_cons_succ, List.getElem_toArray, List.getElem_cons_succ, List.getElem_cons_zero]
  refine wpAnyH_take (i := 23) (v := ?_) rfl (by kernel_rfl) (by kernel_rfl) (by kernel_rfl) (fun _ _ _ h => h) (Or.inl ⟨by kernel_rfl, ?_⟩) hH0 ?_
  rotate_left
  · intro W hS
    go_simp
    try rfl
  simp only [Act.put, List.setIfInBounds_toArray, List.set_cons_zero, List.set_cons_succ, List.getElem_toArray, List.getElem_cons_succ, List.getElem_cons_zero]
  refine wpAnyH_take (i := 24) (v := ?_) rfl (by kernel_rfl) (by kernel_rfl) (by kernel_rfl) (fun _ _ _ h => h) (Or.inl ⟨by kernel_rfl, ?_⟩) hH0 ?_
  rotate_left
  · intro W hS
    go_simp
    try rfl
  simp only [Act.put, List.setIfInBounds_toArray, List.set_cons_zero, List.set_cons_succ, List.getElem_toArray, List.getElem_cons_succ, List.getElem_cons_zero]
  refine wpAnyH_take (i := 25) (v := ?_) rfl (by kernel_rfl) (by kernel_rfl) (by kernel_rfl) (fun _ _ _ h => h) (Or.inl ⟨by kernel_rfl, ?_⟩) hH0 ?_
  rotate_left
  · intro W hS
    go_simp
    try rfl
  simp only [Act.put, List.setIfInBounds_toArray, List.set_cons_zero, List.set_cons_succ, List.getElem_toArray, List.getElem_cons_succ, List.getElem_cons_zero]
  refine wpAnyH_take (i := 26) (v := ?_) rfl (by kernel_rfl) (by kernel_rfl) (by kernel_rfl) (fun _ _ _ h => h) (Or.inl ⟨by kernel_rfl, ?_⟩) hH0 ?_
  rotate_left
  · intro W hS
    go_simp
    try rfl
  simp only [Act.put, List.setIfInBounds_toArray, List.set_cons_zero, List.set_cons_succ, List.getElem_toArray, List.getElem_cons_succ, List.getElem_cons_zero]
  refine wpAnyH_take (i := 27) (v := ?_) rfl (by kernel_rfl) (by kernel_rfl) (by kernel_rfl) (fun _ _ _ h => h) (Or.inl ⟨by kernel_rfl, ?_⟩) hH0 ?_
  rotate_left
  · intro W hS
    go_simp
    try rfl
  simp only [Act.put, List.setIfInBounds_toArray, List.set_cons_zero, List.set_cons_succ, List.getElem_toArray, List.getElem_cons_succ, List.getElem_cons_zero]
  refine wpAnyH_take (i := 28) (v := ?_) rfl (by kernel_rfl) (by kernel_rfl) (by kernel_rfl) (fun _ _ _ h => h) (Or.inl ⟨by kernel_rfl, ?_⟩) hH0 ?_
  rotate_left
  · intro W hS
    go_simp
    try rfl
  simp only [Act.put, List.setIfInBounds_toArray, List.set_cons_zero, List.set_cons_succ, List.getElem_toArray, List.getElem_cons_succ, List.getElem_cons_zero]
  refine wpAnyH_take (i := 29) (v := ?_) rfl (by kernel_rfl) (by kernel_rfl) (by kernel_rfl) (fun _ _ _ h => h) (Or.inl ⟨by kernel_rfl, ?_⟩) hH0 ?_
  rotate_left
  · intro W hS
    go_simp
    try rfl
  simp only [Act.put, List.setIfInBounds_toArray, List.set_cons_zero, List.set_cons_succ, List.getElem_toArray, List.getElem_cons_succ, List.getElem_cons_zero]
  refine wpAnyH_take (i := 30) (v := ?_) rfl (by kernel_rfl) (by kernel_rfl) (by kernel_rfl) (fun _ _ _ h => h) (Or.inl ⟨by kernel_rfl, ?_⟩) hH0 ?_
  rotate_left
  · intro W hS
    go_simp
    try rfl
  simp only [Act.put, List.setIfInBounds_toArray, List.set_cons_zero, List.set_cons_succ, List.getElem_toArray, List.getElem_cons_succ, List.getElem_cons_zero]
  refine wpAnyH_take (i := 31) (v := ?_) rfl (by kernel_rfl) (by kernel_rfl) (by kernel_rfl) (fun _ _ _ h => h) (Or.inl ⟨by kernel_rfl, ?_⟩) hH0 ?_
  rotate_left
  · intro W hS
    go_simp
    try rfl
  simp only [Act.put, List.setIfInBounds_toArray, List.set_cons_zero, List.set_cons_succ, List.getElem_toArray, List.getElem_cons_succ, List.getElem_cons_zero]
  refine wpAnyH_take (i := 32) (v := ?_) rfl (by kernel_rfl) (by kernel_rfl) (by kernel_rfl) (fun _ _ _ h => h) (Or.inl ⟨by kernel_rfl, ?_⟩) hH0 ?_
  rotate_left
  · intro W hS
    go_simp
    try rfl
  simp only [Act.put, List.setIfInBounds_toArray, List.set_cons_zero, List.set_cons_succ, List.getElem_toArray, List.getElem_cons_succ, List.getElem_cons_zero]
  refine wpAnyH_take (i := 33) (v := ?_) rfl (by kernel_rfl) (by kernel_rfl) (by kernel_rfl) (fun _ _ _ h => h) (Or.inl ⟨by kernel_rfl, ?_⟩) hH0 ?_
  rotate_left
  · intro W hS
    go_simp
    try rfl
  simp only [Act.put, List.setIfInBounds_toArray, List.set_cons_zero, List.set_cons_succ, List.getElem_toArray, List.getElem_cons_succ, List.getElem_cons_zero]
  refine wpAnyH_take (i := 34) (v := ?_) rfl (by kernel_rfl) (by kernel_rfl) (by kernel_rfl) (fun _ _ _ h => h) (Or.inl ⟨by kernel_rfl, ?_⟩) hH0 ?_
  rotate_left
  · intro W hS
    go_simp
    try rfl
  simp only [Act.put, List.setIfInBounds_toArray, List.set_cons_zero, List.set_cons_succ, List.getElem_toArray, List.getElem_cons_succ, List.getElem_cons_zero]
  refine wpAnyH_take (i := 35) (v := ?_) rfl (by kernel_rfl) (by kernel_rfl) (by kernel_rfl) (fun _ _ _ h => h) (Or.inl ⟨by kernel_rfl, ?_⟩) hH0 ?_
  rotate_left
  · intro W hS
    have cO := hS.1.i3.cell (i := 10) (v := .int .u32 v) rfl
    go_simp
    try rfl
  simp only [Act.put, List.setIfInBounds_toArray, List.set_cons_zero, List.set_cons_succ, List.getElem_toArray, List.getElem_cons_succ, List.getElem_cons_zero]
  refine wpAnyH_take (i := 36) (v := ?_) rfl (by kernel_rfl) (by kernel_rfl) (by kernel_rfl) (fun _ _ _ h => h) (Or.inl ⟨by kernel_rfl, ?_⟩) hH0 ?_
  rotate_left
  · intro W hS
    go_simp
    try rfl
  simp only [Act.put, List.setIfInBounds_toArray, List.set_cons_zero, List.set_cons_succ, List.getElem_toArray, List.getElem_cons_succ, List.getElem_cons_zero]
  refine wpAnyH_take (i := 37) (v := ?_) rfl (by kernel_rfl) (by kernel_rfl) (by kernel_rfl) (fun _ _ _ h => h) (Or.inl ⟨by kernel_rfl, ?_⟩) hH0 ?_
  rotate_left
  · intro W hS
    go_simp
    try rfl
  simp only [Act.put, List.setIfInBounds_toArray, List.set_cons_zero, List.set_cons_succ, List.getElem_toArray, List.getElem_cons_succ, List.getElem_cons_zero]
  refine wpAnyH_take (i := 38) (v := ?_) rfl (by kernel_rfl) (by kernel_rfl) (by kernel_rfl) (fun _ _ _ h => h) (Or.inl ⟨by kernel_rfl, ?_⟩) hH0 ?_
  rotate_left
  · intro W hS
    go_simp
    try rfl
  simp only [Act.put, List.setIfInBounds_toArray, List.set_cons_zero, List.set_cons_succ, List.getElem_toArray, List.getElem_cons_succ, List.getElem_cons_zero]
  refine wpAnyH_take (i := 39) (v := ?_) rfl (by kernel_rfl) (by kernel_rfl) (by kernel_rfl) (fun _ _ _ h => h) (Or.inl ⟨by kernel_rfl, ?_⟩) hH0 ?_
  rotate_left
  · intro W hS
    go_simp
    try rfl
  simp only [Act.put, List.setIfInBounds_toArray, List.set_cons_zero, List.set_cons_succ, List.getElem_toArray, List.getElem_cons_succ, List.getElem_cons_zero]
  refine wpAnyH_take (i := 40) (v := ?_) rfl (by kernel_rfl) (by kernel_rfl) (by kernel_rfl) (fun _ _ _ h => h) (Or.inl ⟨by kernel_rfl, ?_⟩) hH0 ?_
  rotate_left
  · intro W hS
    go_simp
    try rfl
  simp only [Act.put, List.setIfInBounds_toArray, List.set_cons_zero, List.set_cons_succ, List.getElem_toArray, List.getElem_cons_succ, List.getElem_cons_zero]
  refine wpAnyH_take (i := 41) (v := .agg #[.int .i64 1, .int .i64 0, .int .u32 0, .int .i64 0, .int .i64 0, .int .u32 0]) rfl (by kernel_rfl) (by kernel_rfl) (by kernel_rfl) (fun _ _ _ h => h) (Or.inl ⟨by kernel_rfl, ?_⟩) hH0 ?_
  · intro W hS
    (have c2 := hS.1.i3.cell (i := 2) (v := .int .i64 1) rfl; have c3 := hS.1.i3.cell (i := 3) (v := .int .i64 0) rfl; have c4 := hS.1.i3.cell (i := 4) (v := .int .u32 0) rfl; have c5 := hS.1.i3.cell (i := 5) (v := .int .i64 0) rfl; have c6 := hS.1.i3.cell (i := 6) (v := .int .i64 0) rfl; have c7 := hS.1.i3.cell (i := 7) (v := .int .u32 0) rfl; go_simp)
  simp only [Act.put, List.setIfInBounds_toArray, List.set_cons_zero, List.set_cons_succ]
  refine wpAnyH_ready (rs := [42]) (by kernel_rfl) (by simp) ?_
  refine AllReadyH.cons rfl (fun K hK => ?_) AllReadyH.nil
  go_simp
  with_reducible refine (hR0 _).mono ?_
  rintro e W6 ⟨rfl, b6⟩
  have hH1 : GS w W6 O D1 D2 D3 D4 ⟨p, 0, onReg x, onReg y, false, 2⟩ ⟨p, 0, onReg y, onReg x, false, 2⟩ ⟨p, 0, onReg 0, onImm v, false, 5⟩ ⟨p, 0, onReg x, onImm sv, false, 3⟩ ∧ Blk W6 E 28 (in16 ⟨p, 0, onReg x, onReg y, false, 2⟩) ∧ Blk W6 G 28 (in16 ⟨p, 0, onReg y, onReg x, false, 2⟩) := ⟨hH0.1.below b6, hH0.2.1.below b6 hH0.2.1.lt, hH0.2.2.below b6 hH0.2.2.lt⟩
  refine hK.out _ _ hH1 (fun _ => ?_)
  clear hK K
  try simp only [Act.put, List.setIfInBounds_toArray, List.set_cons_zero, List.set_cons_succ]
  refine wpAnyH_take (i := 43) (v := ?_) rfl (by kernel_rfl) (by kernel_rfl) (by kernel_rfl) (fun _ _ _ h => h) (Or.inl ⟨by kernel_rfl, ?_⟩) hH1 ?_
  rotate_left
  · intro W hS
    go_simp
    try rfl
  simp only [Act.put, List.setIfInBounds_toArray, List.set_cons_zero, List.set_cons_succ, List.getElem_toArray, List.getElem_cons_succ, List.getElem_cons_zero]
  refine wpAnyH_take (i := 44) (v := ?_) rfl (by kernel_rfl) (by kernel_rfl) (by kernel_rfl) (fun _ _ _ h => h) (Or.inl ⟨by kernel_rfl, ?_⟩) hH1 ?_
  rotate_left
  · intro W hS
    go_simp
    try rfl
  simp only [Act.put, List.setIfInBounds_toArray, List.set_cons_zero, List.set_cons_succ, List.getElem_toArray, List.getElem_cons_succ, List.getElem_cons_zero]
  refine wpAnyH_take (i := 45) (v := ?_) rfl (by kernel_rfl) (by kernel_rfl) (by kernel_rfl) (fun _ _ _ h => h) (Or.inl ⟨by kernel_rfl, ?_⟩) hH1 ?_
  rotate_left
  · intro W hS
    go_simp
    try rfl
  simp only [Act.put, List.setIfInBounds_toArray, List.set_cons_zero, List.set_cons_succ, List.getElem_toArray, List.getElem_cons_succ, List.getElem_cons_zero]
  refine wpAnyH_take (i := 46) (v := ?_) rfl (by kernel_rfl) (by kernel_rfl) (by kernel_rfl) (fun _ _ _ h => h) (Or.inl ⟨by kernel_rfl, ?_⟩) hH1 ?_
  rotate_left
  · intro W hS
    go_simp
    try rfl
  simp only [Act.put, List.setIfInBounds_toArray, List.set_cons_zero, List.set_cons_succ, List.getElem_toArray, List.getElem_cons_succ, List.getElem_cons_zero]
  refine wpAnyH_take (i := 47) (v := ?_) rfl (by kernel_rfl) (by kernel_rfl) (by kernel_rfl) (fun _ _ _ h => h) (Or.inl ⟨by kernel_rfl, ?_⟩) hH1 ?_
  rotate_left
  · intro W hS
    have cO := hS.1.i3.cell (i := 0) (v := .int .i64 p) rfl
    go_simp
    try rfl
  simp only [Act.put, List.setIfInBounds_toArray, List.set_cons_zero, List.set_cons_succ, List.getElem_toArray, List.getElem_cons_succ, List.getElem_cons_zero]
  refine wpAnyH_take (i := 48) (v := ?_) rfl (by kernel_rfl) (by kernel_rfl) (by kernel_rfl) (fun _ _ _ h => h) (Or.inl ⟨by kernel_rfl, ?_⟩) hH1 ?_
  rotate_left
  · intro W hS
    go_simp
    try rfl
  simp only [Act.put, List.setIfInBounds_toArray, List.set_cons_zero, List.set_cons_succ, List.getElem_toArray, List.getElem_cons_succ, List.getElem_cons_zero]
  refine wpAnyH_take (i := 49) (v := ?_) rfl (by kernel_rfl) (by kernel_rfl) (by kernel_rfl) (fun _ _ _ h => h) (Or.inl ⟨by kernel_rfl, ?_⟩) hH1 ?_
  rotate_left
  · intro W hS
    go_simp
    try rfl
  simp only [Act.put, List.setIfInBounds_toArray, List.set_cons_zero, List.set_cons_succ, List.getElem_toArray, List.getElem_cons_succ, List.getElem_cons_zero]
  refine wpAnyH_take (i := 50) (v := ?_) rfl (by kernel_rfl) (by kernel_rfl) (by kernel_rfl) (fun _ _ _ h => h) (Or.inl ⟨by kernel_rfl, ?_⟩) hH1 ?_
  rotate_left
  · intro W hS
    have cO := hS.1.o.cell hat
    go_simp
    try rfl
  simp only [Act.put, List.setIfInBounds_toArray, List.set_cons_zero, List.set_cons_succ, List.getElem_toArray, List.getElem_cons_succ, List.getElem_cons_zero]
  refine wpAnyH_take (i := 51) (v := ?_) rfl (by kernel_rfl) (by kernel_rfl) (by kernel_rfl) (fun _ _ _ h => h) (Or.inl ⟨by kernel_rfl, ?_⟩) hH1 ?_
  rotate_left
  · intro W hS
    go_simp
    try rfl
  simp only [Act.put, List.setIfInBounds_toArray, List.set_cons_zero, List.set_cons_succ, List.getElem_toArray, List.getElem_cons_succ, List.getElem_cons_zero]
  refine wpAnyH_take (i := 52) (v := ?_) rfl (by kernel_rfl) (by kernel_rfl) (by kernel_rfl) (fun _ _ _ h => h) (Or.inl ⟨by kernel_rfl, ?_⟩) hH1 ?_
  rotate_left
  · intro W hS
    go_simp
    try rfl
  simp only [Act.put, List.setIfInBounds_toArray, List.set_cons_zero, List.set_cons_succ, List.getElem_toArray, List.getElem_cons_succ, List.getElem_cons_zero]
  refine wpAnyH_take (i := 53) (v := ?_) rfl (by kernel_rfl) (by kernel_rfl) (by kernel_rfl) (fun _ _ _ h => h) (Or.inl ⟨by kernel_rfl, ?_⟩) hH1 ?_
  rotate_left
  · intro W hS
    go_simp
    try rfl
  simp only [Act.put, List.setIfInBounds_toArray, List.set_cons_zero, List.set_cons_succ, List.getElem_toArray, List.getElem_cons_succ, List.getElem_cons_zero]
  refine wpAnyH_take (i := 54) (v := ?_) rfl (by kernel_rfl) (by kernel_rfl) (by kernel_rfl) (fun _ _ _ h => h) (Or.inl ⟨by kernel_rfl, ?_⟩) hH1 ?_
  rotate_left
  · intro W hS
    go_simp
    try rfl
  simp only [Act.put, List.setIfInBounds_toArray, List.set_cons_zero, List.set_cons_succ, List.getElem_toArray, List.getElem_cons_succ, List.getElem_cons_zero]
  refine wpAnyH_take (i := 55) (v := ?_) rfl (by kernel_rfl) (by kernel_rfl) (by kernel_rfl) (fun _ _ _ h => h) (Or.inl ⟨by kernel_rfl, ?_⟩) hH1 ?_
  rotate_left
  · intro W hS
    go_simp
    try rfl
  simp only [Act.put, List.setIfInBounds_toArray, List.set_cons_zero, List.set_cons_succ, List.getElem_toArray, List.getElem_cons_succ, List.getElem_cons_zero]
  refine wpAnyH_take (i := 56) (v := ?_) rfl (by kernel_rfl) (by kernel_rfl) (by kernel_rfl) (fun _ _ _ h => h) (Or.inl ⟨by kernel_rfl, ?_⟩) hH1 ?_
  rotate_left
  · intro W hS
    go_simp
    try rfl
  simp only [Act.put, List.setIfInBounds_toArray, List.set_cons_zero, List.set_cons_succ, List.getElem_toArray, List.getElem_cons_succ, List.getElem_cons_zero]
  refine wpAnyH_take (i := 57) (v := ?_) rfl (by kernel_rfl) (by kernel_rfl) (by kernel_rfl) (fun _ _ _ h => h) (Or.inl ⟨by kernel_rfl, ?_⟩) hH1 ?_
  rotate_left
  · intro W hS
    go_simp
    try rfl
  simp only [Act.put, List.setIfInBounds_toArray, List.set_cons_zero, List.set_cons_succ, List.getElem_toArray, List.getElem_cons_succ, List.getElem_cons_zero]
  refine wpAnyH_take (i := 58) (v := ?_) rfl (by kernel_rfl) (by kernel_rfl) (by kernel_rfl) (fun _ _ _ h => h) (Or.inl ⟨by kernel_rfl, ?_⟩) hH1 ?_
  rotate_left
  · intro W hS
    go_simp
    try rfl
  simp only [Act.put, List.setIfInBounds_toArray, List.set_cons_zero, List.set_cons_succ, List.getElem_toArray, List.getElem_cons_succ, List.getElem_cons_zero]
  refine wpAnyH_take (i := 59) (v := ?_) rfl (by kernel_rfl) (by kernel_rfl) (by kernel_rfl) (fun _ _ _ h => h) (Or.inl ⟨by kernel_rfl, ?_⟩) hH1 ?_
  rotate_left
  · intro W hS
    go_simp
    try rfl
  simp only [Act.put, List.setIfInBounds_toArray, List.set_cons_zero, List.set_cons_succ, List.getElem_toArray, List.getElem_cons_succ, List.getElem_cons_zero]
  refine wpAnyH_take (i := 60) (v := ?_) rfl (by kernel_rfl) (by kernel_rfl) (by kernel_rfl) (fun _ _ _ h => h) (Or.inl ⟨by kernel_rfl, ?_⟩) hH1 ?_
  rotate_left
  · intro W hS
    go_simp
    try rfl
  simp only [Act.put, List.setIfInBounds_toArray, List.set_cons_zero, List.set_cons_succ, List.getElem_toArray, List.getElem_cons_succ, List.getElem_cons_zero]
  refine wpAnyH_take (i := 61) (v := ?_) rfl (by kernel_rfl) (by kernel_rfl) (by kernel_rfl) (fun _ _ _ h => h) (Or.inl ⟨by kernel_rfl, ?_⟩) hH1 ?_
  rotate_left
  · intro W hS
    go_simp
    try rfl
  simp only [Act.put, List.setIfInBounds_toArray, List.set_cons_zero, List.set_cons_succ, List.getElem_toArray, List.getElem_cons_succ, List.getElem_cons_zero]
  refine wpAnyH_take (i := 62) (v := ?_) rfl (by kernel_rfl) (by kernel_rfl) (by kernel_rfl) (fun _ _ _ h => h) (Or.inl ⟨by kernel_rfl, ?_⟩) hH1 ?_
  rotate_left
  · intro W hS
    go_simp
    try rfl
  simp only [Act.put, List.setIfInBounds_toArray, List.set_cons_zero, List.set_cons_succ, List.getElem_toArray, List.getElem_cons_succ, List.getElem_cons_zero]
  refine wpAnyH_take (i := 63) (v := ?_) rfl (by kernel_rfl) (by kernel_rfl) (by kernel_rfl) (fun _ _ _ h => h) (Or.inl ⟨by kernel_rfl, ?_⟩) hH1 ?_
  rotate_left
  · intro W hS
    go_simp
    try rfl
  simp only [Act.put, List.setIfInBounds_toArray, List.set_cons_zero, List.set_cons_succ, List.getElem_toArray, List.getElem_cons_succ, List.getElem_cons_zero]
  refine wpAnyH_take (i := 64) (v := ?_) rfl (by kernel_rfl) (by kernel_rfl) (by kernel_rfl) (fun _ _ _ h => h) (Or.inl ⟨by kernel_rfl, ?_⟩) hH1 ?_
  rotate_left
  · intro W hS
    have cO := hS.1.i4.cell (i := 10) (v := .int .u32 sv) rfl
    go_simp
    try rfl
  simp only [Act.put, List.setIfInBounds_toArray, List.set_cons_zero, List.set_cons_succ, List.getElem_toArray, List.getElem_cons_succ, List.getElem_cons_zero]
  refine wpAnyH_take (i := 65) (v := ?_) rfl (by kernel_rfl) (by kernel_rfl) (by kernel_rfl) (fun _ _ _ h => h) (Or.inl ⟨by kernel_rfl, ?_⟩) hH1 ?_
  rotate_left
  · intro W hS
    go_simp
    try rfl
  simp only [Act.put, List.setIfInBounds_toArray, List.set_cons_zero, List.set_cons_succ, List.getElem_toArray, List.getElem_cons_succ, List.getElem_cons_zero]
  refine wpAnyH_take (i := 66) (v := ?_) rfl (by kernel_rfl) (by kernel_rfl) (by kernel_rfl) (fun _ _ _ h => h) (Or.inl ⟨by kernel_rfl, ?_⟩) hH1 ?_
  rotate_left
  · intro W hS
    go_simp
    try rfl
  simp only [Act.put, List.setIfInBounds_toArray, List.set_cons_zero, List.set_cons_succ, List.getElem_toArray, List.getElem_cons_succ, List.getElem_cons_zero]
  refine wpAnyH_take (i := 67) (v := ?_) rfl (by kernel_rfl) (by kernel_rfl) (by kernel_rfl) (fun _ _ _ h => h) (Or.inl ⟨by kernel_rfl, ?_⟩) hH1 ?_
  rotate_left
  · intro W hS
    go_simp
    try rfl
  simp only [Act.put, List.setIfInBounds_toArray, List.set_cons_zero, List.set_cons_succ, List.getElem_toArray, List.getElem_cons_succ, List.getElem_cons_zero]
  refine wpAnyH_take (i := 68) (v := ?_) rfl (by kernel_rfl) (by kernel_rfl) (by kernel_rfl) (fun _ _ _ h => h) (Or.inl ⟨by kernel_rfl, ?_⟩) hH1 ?_
  rotate_left
  · intro W hS
    go_simp
    try rfl
  simp only [Act.put, List.setIfInBounds_toArray, List.set_cons_zero, List.set_cons_succ, List.getElem_toArray, List.getElem_cons_succ, List.getElem_cons_zero]
  refine wpAnyH_take (i := 69) (v := ?_) rfl (by kernel_rfl) (by kernel_rfl) (by kernel_rfl) (fun _ _ _ h => h) (Or.inl ⟨by kernel_rfl, ?_⟩) hH1 ?_
  rotate_left
  · intro W hS
    go_simp
    try rfl
  simp only [Act.put, List.setIfInBounds_toArray, List.set_cons_zero, List.set_cons_succ, List.getElem_toArray, List.getElem_cons_succ, List.getElem_cons_zero]
  refine wpAnyH_take (i := 70) (v := ?_) rfl (by kernel_rfl) (by kernel_rfl) (by kernel_rfl) (fun _ _ _ h => h) (Or.inl ⟨by kernel_rfl, ?_⟩) hH1 ?_
  rotate_left
  · intro W hS
    go_simp
    try rfl
  simp only [Act.put, List.setIfInBounds_toArray, List.set_cons_zero, List.set_cons_succ, List.getElem_toArray, List.getElem_cons_succ, List.getElem_cons_zero]
  refine wpAnyH_take (i := 71) (v := ?_) rfl (by kernel_rfl) (by kernel_rfl) (by kernel_rfl) (fun _ _ _ h => h) (Or.inl ⟨by kernel_rfl, ?_⟩) hH1 ?_
  rotate_left
  · intro W hS
    go_simp
    try rfl
  simp only [Act.put, List.setIfInBounds_toArray, List.set_cons_zero, List.set_cons_succ, List.getElem_toArray, List.getElem_cons_succ, List.getElem_cons_zero]
  refine wpAnyH_take (i := 72) (v := ?_) rfl (by kernel_rfl) (by kernel_rfl) (by kernel_rfl) (fun _ _ _ h => h) (Or.inl ⟨by kernel_rfl, ?_⟩) hH1 ?_
  rotate_left
  · intro W hS
    go_simp
    try rfl
  simp only [Act.put, List.setIfInBounds_toArray, List.set_cons_zero, List.set_cons_succ, List.getElem_toArray, List.getElem_cons_succ, List.getElem_cons_zero]
  refine wpAnyH_take (i := 73) (v := ?_) rfl (by kernel_rfl) (by kernel_rfl) (by kernel_rfl) (fun _ _ _ h => h) (Or.inl ⟨by kernel_rfl, ?_⟩) hH1 ?_
  rotate_left
  · intro W hS
    have cO := hS.1.i4.cell (i := 0) (v := .int .i64 p) rfl
    go_simp
    try rfl
  simp only [Act.put, List.setIfInBounds_toArray, List.set_cons_zero, List.set_cons_succ, List.getElem_toArray, List.getElem_cons_succ, List.getElem_cons_zero]
  refine wpAnyH_take (i := 74) (v := ?_) rfl (by kernel_rfl) (by kernel_rfl) (by kernel_rfl) (fun _ _ _ h => h) (Or.inl ⟨by kernel_rfl, ?_⟩) hH1 ?_
  rotate_left
  · intro W hS
    go_simp
    try rfl
  simp only [Act.put, List.setIfInBounds_toArray, List.set_cons_zero, List.set_cons_succ, List.getElem_toArray, List.getElem_cons_succ, List.getElem_cons_zero]
  refine wpAnyH_take (i := 75) (v := ?_) rfl (by kernel_rfl) (by kernel_rfl) (by kernel_rfl) (fun _ _ _ h => h) (Or.inl ⟨by kernel_rfl, ?_⟩) hH1 ?_
  rotate_left
  · intro W hS
    go_simp
    try rfl
  simp only [Act.put, List.setIfInBounds_toArray, List.set_cons_zero, List.set_cons_succ, List.getElem_toArray, List.getElem_cons_succ, List.getElem_cons_zero]
  refine wpAnyH_take (i := 76) (v := ?_) rfl (by kernel_rfl) (by kernel_rfl) (by kernel_rfl) (fun _ _ _ h => h) (Or.inl ⟨by kernel_rfl, ?_⟩) hH1 ?_
  rotate_left
  · intro W hS
    have cO := hS.1.o.cell hat
    go_simp
    try rfl
  simp only [Act.put, List.setIfInBounds_toArray, List.set_cons_zero, List.set_cons_succ, List.getElem_toArray, List.getElem_cons_succ, List.getElem_cons_zero]
  refine wpAnyH_take (i := 77) (v := ?_) rfl (by kernel_rfl) (by kernel_rfl) (by kernel_rfl) (fun _ _ _ h => h) (Or.inl ⟨by kernel_rfl, ?_⟩) hH1 ?_
  rotate_left
  · intro W hS
    go_simp
    try rfl
  simp only [Act.put, List.setIfInBounds_toArray, List.set_cons_zero, List.set_cons_succ, List.getElem_toArray, List.getElem_cons_succ, List.getElem_cons_zero]
  refine wpAnyH_take (i := 78) (v := ?_) rfl (by kernel_rfl) (by kernel_rfl) (by kernel_rfl) (fun _ _ _ h => h) (Or.inl ⟨by kernel_rfl, ?_⟩) hH1 ?_
  rotate_left
  · intro W hS
    go_simp
    try rfl
  simp only [Act.put, List.setIfInBounds_toArray, List.set_cons_zero, List.set_cons_succ, List.getElem_toArray, List.getElem_cons_succ, List.getElem_cons_zero]
  refine wpAnyH_take (i := 79) (v := ?_) rfl (by kernel_rfl) (by kernel_rfl) (by kernel_rfl) (fun _ _ _ h => h) (Or.inl ⟨by kernel_rfl, ?_⟩) hH1 ?_
  rotate_left
  · intro W hS
    go_simp
    try rfl
  simp only [Act.put, List.setIfInBounds_toArray, List.set_cons_zero, List.set_cons_succ, List.getElem_toArray, List.getElem_cons_succ, List.getElem_cons_zero]
  refine wpAnyH_done (by kernel_rfl) ?_ _
  go_wp2_with fail
  go_ret
  refine ⟨ret_bool ?_, hH1.1.k⟩
  simp
end Go.Proofs.YtlooobehlhgccaaDoor
