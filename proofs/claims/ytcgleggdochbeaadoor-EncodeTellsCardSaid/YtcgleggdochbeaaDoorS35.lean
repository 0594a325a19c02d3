import Derived.Test.YtcgleggdochbeaaDoorS33
import Derived.Test.YtcgleggdochbeaaDoorS34
namespace Go.Proofs.YtcgleggdochbeaaDoor
open Go.RowKit
set_option maxRecDepth 100000
set_option maxHeartbeats 8000000
set_option linter.unusedVariables false
set_option linter.unusedSimpArgs false
set_option linter.unusedSectionVars false
abbrev arr1 (z : Int) : Obj := .cells #[.int .u8 z] 5
abbrev arr2 (y z : Int) : Obj := .cells #[.int .u8 y, .int .u8 z] 5
theorem own_one (W : World) {z : Int} (hz : 0 ≤ z ∧ z ≤ 255) : Own (W.alloc (arr1 z)) W.heap.size (.slice (some ⟨W.heap.size, 0, none⟩) 1 1) [z] :=
 Own.new W W.heap.size (Nat.le_refl _) [z] (by simpa using hz) (by simp) rfl
theorem own_two (W : World) {y z : Int} (hy : 0 ≤ y ∧ y ≤ 255) (hz : 0 ≤ z ∧ z ≤ 255) : Own (W.alloc (arr2 y z)) W.heap.size (.slice (some ⟨W.heap.size, 0, none⟩) 2 2) [y, z] :=
 Own.new W W.heap.size (Nat.le_refl _) [y, z] (by simp; omega) (by simp) rfl
theorem bel1 {n : Nat} {w W w2 : World} {o : Obj} (b0 : Below n w W) (h : n ≤ W.heap.size) (b1 : Below (W.alloc o).heap.size (W.alloc o) w2) : Below n w w2 := by
 have k := (Below.refl W.heap.size W).alloc (Nat.le_refl _) o
 exact b0.trans ((k.trans (b1.mono k.size)).mono h)
theorem put_one (W : World) {z : Int} (hz : 0 ≤ z ∧ z ≤ 255) {m : Int} (hm : 0 ≤ m ∧ m ≤ 4294967295) :
  Calls Tryd.prog 49 #[.slice (some ⟨W.heap.size, 0, none⟩) 1 1, .int .u32 m] (W.alloc (arr1 z)) fun e w' => ∃ v', e = .returned v' ∧ Own w' W.heap.size v' ([z] ++ wB m) ∧ Below W.heap.size W w' := by
 have k := (Below.refl W.heap.size W).alloc (Nat.le_refl _) (arr1 z)
 refine (put_any W.heap.size _ [z] m hm _ (own_one W hz) k.size (by simp)).mono ?_
 rintro e w' ⟨v', rfl, O, g, -⟩
 exact ⟨_, rfl, O, k.trans (grown_below g k.size (fun b hb => by cases hb; exact Nat.le_refl _))⟩
theorem put_two (W : World) {y z : Int} (hy : 0 ≤ y ∧ y ≤ 255) (hz : 0 ≤ z ∧ z ≤ 255) {m : Int} (hm : 0 ≤ m ∧ m ≤ 4294967295) :
  Calls Tryd.prog 49 #[.slice (some ⟨W.heap.size, 0, none⟩) 2 2, .int .u32 m] (W.alloc (arr2 y z)) fun e w' => ∃ v', e = .returned v' ∧ Own w' W.heap.size v' ([y, z] ++ wB m) ∧ Below W.heap.size W w' := by
 have k := (Below.refl W.heap.size W).alloc (Nat.le_refl _) (arr2 y z)
 refine (put_any W.heap.size _ [y, z] m hm _ (own_two W hy hz) k.size (by simp)).mono ?_
 rintro e w' ⟨v', rfl, O, g, -⟩
 exact ⟨_, rfl, O, k.trans (grown_below g k.size (fun b hb => by cases hb; exact Nat.le_refl _))⟩
theorem mod_one (W : World) {z : Int} (hz : 0 ≤ z ∧ z ≤ 255) {o : On} (ho : RMb o) {n : Int} (hn : 0 ≤ n ∧ n < 8) :
  Calls Tryd.prog 52 #[.slice (some ⟨W.heap.size, 0, none⟩) 1 1, opV o, .int .i64 n] (W.alloc (arr1 z)) fun e w' => ∃ v vs, e = .returned v ∧ LR w' W.heap.size v (mW [z] o n) vs ∧ Below W.heap.size W w' := by
 have k := (Below.refl W.heap.size W).alloc (Nat.le_refl _) (arr1 z)
 refine (mod_any (bs_one W z hz) (by simp) (by simp) o ho hn).mono ?_
 rintro e w' ⟨v, vs, rfl, R, b⟩
 exact ⟨_, _, rfl, R.base k.size, k.trans (b.mono k.size)⟩
theorem mod_two (W : World) {y z : Int} (hy : 0 ≤ y ∧ y ≤ 255) (hz : 0 ≤ z ∧ z ≤ 255) {o : On} (ho : RMb o) {n : Int} (hn : 0 ≤ n ∧ n < 8) :
  Calls Tryd.prog 52 #[.slice (some ⟨W.heap.size, 0, none⟩) 2 2, opV o, .int .i64 n] (W.alloc (arr2 y z)) fun e w' => ∃ v vs, e = .returned v ∧ LR w' W.heap.size v (mW [y, z] o n) vs ∧ Below W.heap.size W w' := by
 have k := (Below.refl W.heap.size W).alloc (Nat.le_refl _) (arr2 y z)
 refine (mod_any (bs_two W y z hy hz) (by simp) (by simp) o ho hn).mono ?_
 rintro e w' ⟨v, vs, rfl, R, b⟩
 exact ⟨_, _, rfl, R.base k.size, k.trans (b.mono k.size)⟩
theorem LL.uni {W : World} {N : Nat} {u : Value} {zs : List Int} (hN : N ≤ W.heap.size) (h : Own W N u zs) (hz : zs ≠ []) : LL (W.alloc (.cells #[u] 28)) N (.slice (some ⟨W.heap.size, 0, none⟩) 1 1) [zs] :=
 (LR.one (Blk.new W 28 #[u]) hN (h.below ((Below.refl _ _).alloc (Nat.le_refl _) _)) hz (fun e => Nat.lt_irrefl _ (h.row.lt _ e).2)).ll
abbrev Gives (f : Nat) (k : In) (w : World) (L : List (List Int)) : Prop := Calls Tryd.prog f #[inV k] w fun e w' => ∃ v, e = .returned v ∧ LL w' w.heap.size v L ∧ Below w.heap.size w w'
theorem jp_30 (k : In) (ho : k.op = 30) (hk : (k.A.k == 2) = true) (hm : 0 ≤ k.A.m ∧ k.A.m ≤ 4294967295) (w : World) : Gives 74 k w ([[232] ++ wB k.A.m]) := by
 have hP := Lib.hid (fun W => put_one W (show 0 ≤ (232 : Int) ∧ (232 : Int) ≤ 255 by decide) hm)
 go_enter Tryd.func74, Tryd.ntmps74
 go_upto_region 1 with fail
 refine open_J rfl (fun _ _ _ _ _ h => h) (Blk.new _ _ _) (fun W pa pb F b na nb => ?_)
 have b0 : Below w.heap.size w W := bel1 (Below.refl _ _) (Nat.le_refl _) b
 have c0 := F.i.cell (i := 0) (v := .int .i64 k.op) rfl
 rw [ho] at c0
 have cA0 := F.a.cell (i := 0) (v := .int .i64 k.A.k) rfl
 go_upto_region 6 with fail
 have cm := (F.a.alloc (arr1 232)).cell (i := 2) (v := .int .u32 k.A.m) rfl
 go_wp2_with ((with_reducible refine (hP.out _).mono ?_); rintro e w2 ⟨v1, rfl, O1, b1⟩; obtain ⟨a1, q1, e1, -⟩ := id O1.ba; generalize List.length _ = l1 at e1; subst e1)
 go_ret
 refine ⟨.slice (some ⟨w2.heap.size, 0, none⟩) 1 1, rfl, ?_, ?_⟩
 ·exact LL.uni (Nat.le_trans b0.size b1.size) (O1.base b0.size) (by simp)
 ·exact (b0.trans (b1.mono b0.size)).alloc (Nat.le_trans b0.size b1.size) _
theorem jm_30 (k : In) (ho : k.op = 30) (hk : (k.A.k == 2) = false) (hX : RMb k.A) (w : World) : Gives 74 k w (mW [255] k.A 2) := by
 have hM := Lib.hid (fun W => mod_one W (show 0 ≤ (255 : Int) ∧ (255 : Int) ≤ 255 by decide) hX (show 0 ≤ (2 : Int) ∧ (2 : Int) < 8 by decide))
 go_enter Tryd.func74, Tryd.ntmps74
 go_upto_region 1 with fail
 refine open_J rfl (fun _ _ _ _ _ h => h) (Blk.new _ _ _) (fun W pa pb F b na nb => ?_)
 have b0 : Below w.heap.size w W := bel1 (Below.refl _ _) (Nat.le_refl _) b
 have c0 := F.i.cell (i := 0) (v := .int .i64 k.op) rfl
 rw [ho] at c0
 have cA0 := F.a.cell (i := 0) (v := .int .i64 k.A.k) rfl
 go_upto_region 7 with fail
 go_wp2_with (first | (with_reducible refine load_opR rfl _ rfl pa (op6 k.A) rfl (F.a.alloc _) rfl ?_) | ((with_reducible refine (hM.out _).mono ?_); rintro e w2 ⟨v1, vs1, rfl, R1, b1⟩))
 go_ret
 exact ⟨_, rfl, R1.ll.base b0.size, b0.trans (b1.mono b0.size)⟩
theorem jm_32 (k : In) (ho : k.op = 32) (hk : (k.A.k == 2) = false) (hX : RMb k.A) (w : World) : Gives 74 k w (mW [255] k.A 4) := by
 have hM := Lib.hid (fun W => mod_one W (show 0 ≤ (255 : Int) ∧ (255 : Int) ≤ 255 by decide) hX (show 0 ≤ (4 : Int) ∧ (4 : Int) < 8 by decide))
 go_enter Tryd.func74, Tryd.ntmps74
 go_upto_region 1 with fail
 refine open_J rfl (fun _ _ _ _ _ h => h) (Blk.new _ _ _) (fun W pa pb F b na nb => ?_)
 have b0 : Below w.heap.size w W := bel1 (Below.refl _ _) (Nat.le_refl _) b
 have c0 := F.i.cell (i := 0) (v := .int .i64 k.op) rfl
 rw [ho] at c0
 have cA0 := F.a.cell (i := 0) (v := .int .i64 k.A.k) rfl
 go_upto_region 10 with fail
 go_wp2_with (first | (with_reducible refine load_opR rfl _ rfl pa (op6 k.A) rfl (F.a.alloc _) rfl ?_) | ((with_reducible refine (hM.out _).mono ?_); rintro e w2 ⟨v1, vs1, rfl, R1, b1⟩))
 go_ret
 exact ⟨_, rfl, R1.ll.base b0.size, b0.trans (b1.mono b0.size)⟩
theorem jt_32 (k : In) (ho : k.op = 32) (hk : (k.A.k == 2) = true) (hf : fitI k.A.m = true) (hm : 0 ≤ k.A.m ∧ k.A.m ≤ 4294967295) (w : World) : Gives 74 k w ([[235, k.A.m % 256]] ++ [[233] ++ wB k.A.m]) := by
 have hP := Lib.hid (fun W => put_one W (show 0 ≤ (233 : Int) ∧ (233 : Int) ≤ 255 by decide) hm)
 have hF := Lib.hid (fun W => fits_any k.A.m hm W)
 rw [hf] at hF
 have hz : 0 ≤ k.A.m % 256 ∧ k.A.m % 256 ≤ 255 := by omega
 go_enter Tryd.func74, Tryd.ntmps74
 go_upto_region 1 with fail
 refine open_J rfl (fun _ _ _ _ _ h => h) (Blk.new _ _ _) (fun W pa pb F b na nb => ?_)
 have b0 : Below w.heap.size w W := bel1 (Below.refl _ _) (Nat.le_refl _) b
 have c0 := F.i.cell (i := 0) (v := .int .i64 k.op) rfl
 rw [ho] at c0
 have cA0 := F.a.cell (i := 0) (v := .int .i64 k.A.k) rfl
 go_upto_region 11 with fail
 have cm := F.a.cell (i := 2) (v := .int .u32 k.A.m) rfl
 go_upto_region 12 with (first | ((with_reducible refine (hF.out _).mono ?_); rintro e w1 ⟨rfl, rfl⟩))
 go_upto_region 13 with (first | (at_builtin; refine append_one rfl _ _ rfl W.heap.size (.slice none 0 0) [] rfl (LL.nil _ _) (by simp) (own_two W (show 0 ≤ (235 : Int) ∧ (235 : Int) ≤ 255 by decide) hz) (fun k hk => by cases hk) (by rw [World.size_alloc]; rfl) (by simp) ?_; intro v3 w3 L3 b3))
 have b03 : Below w.heap.size w w3 := b0.trans (((((Below.refl _ W).alloc (Nat.le_refl _) _)).trans b3).mono b0.size)
 have hW3 : W.heap.size ≤ w3.heap.size := Nat.le_trans (by simp) b3.size
 have F3 := F.below (((Below.refl _ W).alloc (Nat.le_refl _) _).trans b3)
 have cm4 := (F3.a.alloc (arr1 (233))).cell (i := 2) (v := .int .u32 k.A.m) rfl
 go_wp2_with (first | ((with_reducible refine (hP.out _).mono ?_); rintro e w4 ⟨v4, rfl, O4, b4⟩; have b4' : Below w3.heap.size w3 w4 := b4; obtain ⟨a4, q4, e4, -⟩ := id O4.ba; generalize List.length _ = l4 at e4; subst e4) | (at_builtin; refine append_one rfl _ _ rfl W.heap.size v3 ([] ++ [[235, k.A.m % 256]]) rfl (L3.below b4') (Nat.le_trans hW3 b4.size) O4 (fun k hk => (L3.lt hk).2) rfl (by simp) ?_; intro v5 w5 L5 b5))
 go_ret
 exact ⟨v5, rfl, by simpa using L5.base b0.size, b03.trans ((b4.mono b03.size).trans (b5.mono b0.size))⟩
theorem jf_32 (k : In) (ho : k.op = 32) (hk : (k.A.k == 2) = true) (hf : fitI k.A.m = false) (hm : 0 ≤ k.A.m ∧ k.A.m ≤ 4294967295) (w : World) : Gives 74 k w ([] ++ [[233] ++ wB k.A.m]) := by
 have hP := Lib.hid (fun W => put_one W (show 0 ≤ (233 : Int) ∧ (233 : Int) ≤ 255 by decide) hm)
 have hF := Lib.hid (fun W => fits_any k.A.m hm W)
 rw [hf] at hF
 have hz : 0 ≤ k.A.m % 256 ∧ k.A.m % 256 ≤ 255 := by omega
 go_enter Tryd.func74, Tryd.ntmps74
 go_upto_region 1 with fail
 refine open_J rfl (fun _ _ _ _ _ h => h) (Blk.new _ _ _) (fun W pa pb F b na nb => ?_)
 have b0 : Below w.heap.size w W := bel1 (Below.refl _ _) (Nat.le_refl _) b
 have c0 := F.i.cell (i := 0) (v := .int .i64 k.op) rfl
 rw [ho] at c0
 have cA0 := F.a.cell (i := 0) (v := .int .i64 k.A.k) rfl
 go_upto_region 11 with fail
 have cm := F.a.cell (i := 2) (v := .int .u32 k.A.m) rfl
 go_upto_region 13 with (first | ((with_reducible refine (hF.out _).mono ?_); rintro e w1 ⟨rfl, rfl⟩))
 have L3 := LL.nil W W.heap.size
 have cm4 := (F.a.alloc (arr1 (233))).cell (i := 2) (v := .int .u32 k.A.m) rfl
 go_wp2_with (first | ((with_reducible refine (hP.out _).mono ?_); rintro e w4 ⟨v4, rfl, O4, b4⟩; have b4' : Below W.heap.size W w4 := b4; obtain ⟨a4, q4, e4, -⟩ := id O4.ba; generalize List.length _ = l4 at e4; subst e4) | (at_builtin; refine append_one rfl _ _ rfl W.heap.size (.slice none 0 0) [] rfl (L3.below b4') (Nat.le_trans (Nat.le_refl _) b4.size) O4 (fun k hk => by cases hk) rfl (by simp) ?_; intro v5 w5 L5 b5))
 go_ret
 exact ⟨v5, rfl, by simpa using L5.base b0.size, b0.trans ((b4.mono b0.size).trans (b5.mono b0.size))⟩
theorem jt_33 (k : In) (ho : k.op = 33) (hf : fitI k.A.m = true) (hm : 0 ≤ k.A.m ∧ k.A.m ≤ 4294967295) (hc : 0 ≤ k.c ∧ k.c ≤ 15) (w : World) : Gives 74 k w ([[112 + k.c, k.A.m % 256]] ++ [[15, 128 + k.c] ++ wB k.A.m]) := by
 have hcc : k.c % 256 = k.c := by omega
 have hw : IntKind.u8.wrap (112 + k.c) = 112 + k.c := by rw [IntKind.wrap_u8]; omega
 have hb : 0 ≤ 112 + k.c ∧ 112 + k.c ≤ 255 := by omega
 have hw2 : IntKind.u8.wrap (128 + k.c) = 128 + k.c := by rw [IntKind.wrap_u8]; omega
 have hb2 : 0 ≤ 128 + k.c ∧ 128 + k.c ≤ 255 := by omega
 have hP := Lib.hid (fun W => put_two W (show 0 ≤ (15 : Int) ∧ (15 : Int) ≤ 255 by decide) hb2 hm)
 have hF := Lib.hid (fun W => fits_any k.A.m hm W)
 rw [hf] at hF
 have hz : 0 ≤ k.A.m % 256 ∧ k.A.m % 256 ≤ 255 := by omega
 go_enter Tryd.func74, Tryd.ntmps74
 go_upto_region 1 with fail
 refine open_J rfl (fun _ _ _ _ _ h => h) (Blk.new _ _ _) (fun W pa pb F b na nb => ?_)
 have b0 : Below w.heap.size w W := bel1 (Below.refl _ _) (Nat.le_refl _) b
 have c0 := F.i.cell (i := 0) (v := .int .i64 k.op) rfl
 rw [ho] at c0
 have cA0 := F.a.cell (i := 0) (v := .int .i64 k.A.k) rfl
 go_upto_region 15 with fail
 have cm := F.a.cell (i := 2) (v := .int .u32 k.A.m) rfl
 go_upto_region 16 with (first | ((with_reducible refine (hF.out _).mono ?_); rintro e w1 ⟨rfl, rfl⟩))
 go_upto_region 17 with (first | (at_builtin; refine append_one rfl _ _ rfl W.heap.size (.slice none 0 0) [] rfl (LL.nil _ _) (by simp) (own_two W hb hz) (fun k hk => by cases hk) (by rw [World.size_alloc]; rfl) (by simp) ?_; intro v3 w3 L3 b3))
 have b03 : Below w.heap.size w w3 := b0.trans (((((Below.refl _ W).alloc (Nat.le_refl _) _)).trans b3).mono b0.size)
 have hW3 : W.heap.size ≤ w3.heap.size := Nat.le_trans (by simp) b3.size
 have F3 := F.below (((Below.refl _ W).alloc (Nat.le_refl _) _).trans b3)
 have cm4 := (F3.a.alloc (arr2 (15) (128 + k.c))).cell (i := 2) (v := .int .u32 k.A.m) rfl
 go_wp2_with (first | ((with_reducible refine (hP.out _).mono ?_); rintro e w4 ⟨v4, rfl, O4, b4⟩; have b4' : Below w3.heap.size w3 w4 := b4; obtain ⟨a4, q4, e4, -⟩ := id O4.ba; generalize List.length _ = l4 at e4; subst e4) | (at_builtin; refine append_one rfl _ _ rfl W.heap.size v3 ([] ++ [[112 + k.c, k.A.m % 256]]) rfl (L3.below b4') (Nat.le_trans hW3 b4.size) O4 (fun k hk => (L3.lt hk).2) rfl (by simp) ?_; intro v5 w5 L5 b5))
 go_ret
 exact ⟨v5, rfl, by simpa using L5.base b0.size, b03.trans ((b4.mono b03.size).trans (b5.mono b0.size))⟩
theorem jf_33 (k : In) (ho : k.op = 33) (hf : fitI k.A.m = false) (hm : 0 ≤ k.A.m ∧ k.A.m ≤ 4294967295) (hc : 0 ≤ k.c ∧ k.c ≤ 15) (w : World) : Gives 74 k w ([] ++ [[15, 128 + k.c] ++ wB k.A.m]) := by
 have hcc : k.c % 256 = k.c := by omega
 have hw : IntKind.u8.wrap (112 + k.c) = 112 + k.c := by rw [IntKind.wrap_u8]; omega
 have hb : 0 ≤ 112 + k.c ∧ 112 + k.c ≤ 255 := by omega
 have hw2 : IntKind.u8.wrap (128 + k.c) = 128 + k.c := by rw [IntKind.wrap_u8]; omega
 have hb2 : 0 ≤ 128 + k.c ∧ 128 + k.c ≤ 255 := by omega
 have hP := Lib.hid (fun W => put_two W (show 0 ≤ (15 : Int) ∧ (15 : Int) ≤ 255 by decide) hb2 hm)
 have hF := Lib.hid (fun W => fits_any k.A.m hm W)
 rw [hf] at hF
 have hz : 0 ≤ k.A.m % 256 ∧ k.A.m % 256 ≤ 255 := by omega
 go_enter Tryd.func74, Tryd.ntmps74
 go_upto_region 1 with fail
 refine open_J rfl (fun _ _ _ _ _ h => h) (Blk.new _ _ _) (fun W pa pb F b na nb => ?_)
 have b0 : Below w.heap.size w W := bel1 (Below.refl _ _) (Nat.le_refl _) b
 have c0 := F.i.cell (i := 0) (v := .int .i64 k.op) rfl
 rw [ho] at c0
 have cA0 := F.a.cell (i := 0) (v := .int .i64 k.A.k) rfl
 go_upto_region 15 with fail
 have cm := F.a.cell (i := 2) (v := .int .u32 k.A.m) rfl
 go_upto_region 17 with (first | ((with_reducible refine (hF.out _).mono ?_); rintro e w1 ⟨rfl, rfl⟩))
 have L3 := LL.nil W W.heap.size
 have cm4 := (F.a.alloc (arr2 (15) (128 + k.c))).cell (i := 2) (v := .int .u32 k.A.m) rfl
 go_wp2_with (first | ((with_reducible refine (hP.out _).mono ?_); rintro e w4 ⟨v4, rfl, O4, b4⟩; have b4' : Below W.heap.size W w4 := b4; obtain ⟨a4, q4, e4, -⟩ := id O4.ba; generalize List.length _ = l4 at e4; subst e4) | (at_builtin; refine append_one rfl _ _ rfl W.heap.size (.slice none 0 0) [] rfl (L3.below b4') (Nat.le_trans (Nat.le_refl _) b4.size) O4 (fun k hk => by cases hk) rfl (by simp) ?_; intro v5 w5 L5 b5))
 go_ret
 exact ⟨v5, rfl, by simpa using L5.base b0.size, b0.trans ((b4.mono b0.size).trans (b5.mono b0.size))⟩
theorem jm_34 (k : In) (ho : k.op = 34) (hX : RMb k.A) (hc : 0 ≤ k.c ∧ k.c ≤ 15) (w : World) : Gives 74 k w (mW [15, 144 + k.c] k.A 0) := by
 have hcc : k.c % 256 = k.c := by omega
 have hw : IntKind.u8.wrap (144 + k.c) = 144 + k.c := by rw [IntKind.wrap_u8]; omega
 have hb : 0 ≤ 144 + k.c ∧ 144 + k.c ≤ 255 := by omega
 have hM := Lib.hid (fun W => mod_two W (show 0 ≤ (15 : Int) ∧ (15 : Int) ≤ 255 by decide) hb hX (show 0 ≤ (0 : Int) ∧ (0 : Int) < 8 by decide))
 go_enter Tryd.func74, Tryd.ntmps74
 go_upto_region 1 with fail
 refine open_J rfl (fun _ _ _ _ _ h => h) (Blk.new _ _ _) (fun W pa pb F b na nb => ?_)
 have b0 : Below w.heap.size w W := bel1 (Below.refl _ _) (Nat.le_refl _) b
 have c0 := F.i.cell (i := 0) (v := .int .i64 k.op) rfl
 rw [ho] at c0
 go_upto_region 19 with fail
 go_wp2_with (first | (with_reducible refine load_opR rfl _ rfl pa (op6 k.A) rfl (F.a.alloc _) rfl ?_) | ((with_reducible refine (hM.out _).mono ?_); rintro e w2 ⟨v1, vs1, rfl, R1, b1⟩))
 go_ret
 exact ⟨_, rfl, R1.ll.base b0.size, b0.trans (b1.mono b0.size)⟩
theorem jm_35 (k : In) (ho : k.op = 35) (hX : RMb k.B) (hr : 0 ≤ k.A.r ∧ k.A.r < 8) (hc : 0 ≤ k.c ∧ k.c ≤ 15) (w : World) : Gives 74 k w (mW [15, 64 + k.c] k.B (k.A.r)) := by
 have hcc : k.c % 256 = k.c := by omega
 have hw : IntKind.u8.wrap (64 + k.c) = 64 + k.c := by rw [IntKind.wrap_u8]; omega
 have hb : 0 ≤ 64 + k.c ∧ 64 + k.c ≤ 255 := by omega
 have hM := Lib.hid (fun W => mod_two W (show 0 ≤ (15 : Int) ∧ (15 : Int) ≤ 255 by decide) hb hX hr)
 go_enter Tryd.func74, Tryd.ntmps74
 go_upto_region 1 with fail
 refine open_J rfl (fun _ _ _ _ _ h => h) (Blk.new _ _ _) (fun W pa pb F b na nb => ?_)
 have b0 : Below w.heap.size w W := bel1 (Below.refl _ _) (Nat.le_refl _) b
 have c0 := F.i.cell (i := 0) (v := .int .i64 k.op) rfl
 rw [ho] at c0
 go_upto_region 21 with fail
 have cr := (F.a.alloc (arr2 (15) (64 + k.c))).cell (i := 1) (v := .int .i64 k.A.r) rfl
 go_wp2_with (first | (with_reducible refine load_opR rfl _ rfl pb (op6 k.B) rfl (F.b.alloc _) rfl ?_) | ((with_reducible refine (hM.out _).mono ?_); rintro e w2 ⟨v1, vs1, rfl, R1, b1⟩))
 go_ret
 exact ⟨_, rfl, R1.ll.base b0.size, b0.trans (b1.mono b0.size)⟩
theorem jm_18 (k : In) (ho : k.op = 18) (hX : RMb k.B) (hr : 0 ≤ k.A.r ∧ k.A.r < 8) (w : World) : Gives 74 k w (mW [15, 175] k.B (k.A.r)) := by
 have hM := Lib.hid (fun W => mod_two W (show 0 ≤ (15 : Int) ∧ (15 : Int) ≤ 255 by decide) (show 0 ≤ (175 : Int) ∧ (175 : Int) ≤ 255 by decide) hX hr)
 go_enter Tryd.func74, Tryd.ntmps74
 go_upto_region 1 with fail
 refine open_J rfl (fun _ _ _ _ _ h => h) (Blk.new _ _ _) (fun W pa pb F b na nb => ?_)
 have b0 : Below w.heap.size w W := bel1 (Below.refl _ _) (Nat.le_refl _) b
 have c0 := F.i.cell (i := 0) (v := .int .i64 k.op) rfl
 rw [ho] at c0
 go_upto_region 23 with fail
 have cr := (F.a.alloc (arr2 (15) (175))).cell (i := 1) (v := .int .i64 k.A.r) rfl
 go_wp2_with (first | (with_reducible refine load_opR rfl _ rfl pb (op6 k.B) rfl (F.b.alloc _) rfl ?_) | ((with_reducible refine (hM.out _).mono ?_); rintro e w2 ⟨v1, vs1, rfl, R1, b1⟩))
 go_ret
 exact ⟨_, rfl, R1.ll.base b0.size, b0.trans (b1.mono b0.size)⟩
theorem jm_36 (k : In) (ho : k.op = 36) (hX : RMb k.B) (hr : 0 ≤ k.A.r ∧ k.A.r < 8) (w : World) : Gives 74 k w (mW [15, 182] k.B (k.A.r)) := by
 have hM := Lib.hid (fun W => mod_two W (show 0 ≤ (15 : Int) ∧ (15 : Int) ≤ 255 by decide) (show 0 ≤ (182 : Int) ∧ (182 : Int) ≤ 255 by decide) hX hr)
 go_enter Tryd.func74, Tryd.ntmps74
 go_upto_region 1 with fail
 refine open_J rfl (fun _ _ _ _ _ h => h) (Blk.new _ _ _) (fun W pa pb F b na nb => ?_)
 have b0 : Below w.heap.size w W := bel1 (Below.refl _ _) (Nat.le_refl _) b
 have c0 := F.i.cell (i := 0) (v := .int .i64 k.op) rfl
 rw [ho] at c0
 go_upto_region 25 with fail
 have cr := (F.a.alloc (arr2 (15) (182))).cell (i := 1) (v := .int .i64 k.A.r) rfl
 go_wp2_with (first | (with_reducible refine load_opR rfl _ rfl pb (op6 k.B) rfl (F.b.alloc _) rfl ?_) | ((with_reducible refine (hM.out _).mono ?_); rintro e w2 ⟨v1, vs1, rfl, R1, b1⟩))
 go_ret
 exact ⟨_, rfl, R1.ll.base b0.size, b0.trans (b1.mono b0.size)⟩
theorem jm_37 (k : In) (ho : k.op = 37) (hX : RMb k.B) (hr : 0 ≤ k.A.r ∧ k.A.r < 8) (w : World) : Gives 74 k w (mW [15, 190] k.B (k.A.r)) := by
 have hM := Lib.hid (fun W => mod_two W (show 0 ≤ (15 : Int) ∧ (15 : Int) ≤ 255 by decide) (show 0 ≤ (190 : Int) ∧ (190 : Int) ≤ 255 by decide) hX hr)
 go_enter Tryd.func74, Tryd.ntmps74
 go_upto_region 1 with fail
 refine open_J rfl (fun _ _ _ _ _ h => h) (Blk.new _ _ _) (fun W pa pb F b na nb => ?_)
 have b0 : Below w.heap.size w W := bel1 (Below.refl _ _) (Nat.le_refl _) b
 have c0 := F.i.cell (i := 0) (v := .int .i64 k.op) rfl
 rw [ho] at c0
 go_upto_region 27 with fail
 have cr := (F.a.alloc (arr2 (15) (190))).cell (i := 1) (v := .int .i64 k.A.r) rfl
 go_wp2_with (first | (with_reducible refine load_opR rfl _ rfl pb (op6 k.B) rfl (F.b.alloc _) rfl ?_) | ((with_reducible refine (hM.out _).mono ?_); rintro e w2 ⟨v1, vs1, rfl, R1, b1⟩))
 go_ret
 exact ⟨_, rfl, R1.ll.base b0.size, b0.trans (b1.mono b0.size)⟩
theorem jm_45 (k : In) (ho : k.op = 45) (hX : RMb k.A) (w : World) : Gives 74 k w (mW [221] k.A 0) := by
 have hM := Lib.hid (fun W => mod_one W (show 0 ≤ (221 : Int) ∧ (221 : Int) ≤ 255 by decide) hX (show 0 ≤ (0 : Int) ∧ (0 : Int) < 8 by decide))
 go_enter Tryd.func74, Tryd.ntmps74
 go_upto_region 1 with fail
 refine open_J rfl (fun _ _ _ _ _ h => h) (Blk.new _ _ _) (fun W pa pb F b na nb => ?_)
 have b0 : Below w.heap.size w W := bel1 (Below.refl _ _) (Nat.le_refl _) b
 have c0 := F.i.cell (i := 0) (v := .int .i64 k.op) rfl
 rw [ho] at c0
 go_upto_region 29 with fail
 go_wp2_with (first | (with_reducible refine load_opR rfl _ rfl pa (op6 k.A) rfl (F.a.alloc _) rfl ?_) | ((with_reducible refine (hM.out _).mono ?_); rintro e w2 ⟨v1, vs1, rfl, R1, b1⟩))
 go_ret
 exact ⟨_, rfl, R1.ll.base b0.size, b0.trans (b1.mono b0.size)⟩
theorem jm_46 (k : In) (ho : k.op = 46) (hX : RMb k.A) (w : World) : Gives 74 k w (mW [221] k.A 3) := by
 have hM := Lib.hid (fun W => mod_one W (show 0 ≤ (221 : Int) ∧ (221 : Int) ≤ 255 by decide) hX (show 0 ≤ (3 : Int) ∧ (3 : Int) < 8 by decide))
 go_enter Tryd.func74, Tryd.ntmps74
 go_upto_region 1 with fail
 refine open_J rfl (fun _ _ _ _ _ h => h) (Blk.new _ _ _) (fun W pa pb F b na nb => ?_)
 have b0 : Below w.heap.size w W := bel1 (Below.refl _ _) (Nat.le_refl _) b
 have c0 := F.i.cell (i := 0) (v := .int .i64 k.op) rfl
 rw [ho] at c0
 go_upto_region 31 with fail
 go_wp2_with (first | (with_reducible refine load_opR rfl _ rfl pa (op6 k.A) rfl (F.a.alloc _) rfl ?_) | ((with_reducible refine (hM.out _).mono ?_); rintro e w2 ⟨v1, vs1, rfl, R1, b1⟩))
 go_ret
 exact ⟨_, rfl, R1.ll.base b0.size, b0.trans (b1.mono b0.size)⟩
theorem six_at : ∀ j : Nat, j < 6 → (#[.int .i64 2, .int .i64 3, .int .i64 4, .int .i64 5, .int .i64 6, .int .i64 7] : Array Value)[j]? = some (.int .i64 ((j : Int) + 2)) := by
 intro j hj
 match j, hj with
 | 0, _ | 1, _ | 2, _ | 3, _ | 4, _ | 5, _ => rfl
theorem jm_six (k : In) (ho : 14 ≤ k.op ∧ k.op ≤ 20 ∧ ¬ k.op = 18) (hX : RMb k.A) (j : Nat) (hj : j < 6) (hat : atN [14, 15, 16, 17, 19, 20] k.op 0 = (j : Int)) (w : World) : Gives 74 k w (mW [247] k.A ((j : Int) + 2)) := by
 have n30 : (k.op == 30) = false := by simp; omega
 have n32 : (k.op == 32) = false := by simp; omega
 have n33 : (k.op == 33) = false := by simp; omega
 have n34 : (k.op == 34) = false := by simp; omega
 have n35 : (k.op == 35) = false := by simp; omega
 have n18 : (k.op == 18) = false := by simp; omega
 have n36 : (k.op == 36) = false := by simp; omega
 have n37 : (k.op == 37) = false := by simp; omega
 have n45 : (k.op == 45) = false := by simp; omega
 have n46 : (k.op == 46) = false := by simp; omega
 have hM := Lib.hid (fun W => mod_one W (show 0 ≤ (247 : Int) ∧ (247 : Int) ≤ 255 by decide) hX (n := (j : Int) + 2) (by omega))
 have hA := Lib.hid (fun W B (h : Blk W B 108 #[.int .i64 14, .int .i64 15, .int .i64 16, .int .i64 17, .int .i64 19, .int .i64 20]) => at_any [14, 15, 16, 17, 19, 20] k.op W B 6 108 rfl (by decide) h)
 rw [hat] at hA
 clear ho hat
 have hsix := six_at j hj
 go_enter Tryd.func74, Tryd.ntmps74
 go_upto_region 1 with fail
 refine open_J rfl (fun _ _ _ _ _ h => h) (Blk.new _ _ _) (fun W pa pb F b na nb => ?_)
 have b0 : Below w.heap.size w W := bel1 (Below.refl _ _) (Nat.le_refl _) b
 have c0 := F.i.cell (i := 0) (v := .int .i64 k.op) rfl
 go_upto_region 34 with fail
 have k7 : Blk ((W.alloc (.cells #[.int .i64 2, .int .i64 3, .int .i64 4, .int .i64 5, .int .i64 6, .int .i64 7] 108)).alloc (.cells #[.int .i64 14, .int .i64 15, .int .i64 16, .int .i64 17, .int .i64 19, .int .i64 20] 108)) W.heap.size 108 #[.int .i64 2, .int .i64 3, .int .i64 4, .int .i64 5, .int .i64 6, .int .i64 7] := (Blk.new _ _ _).alloc _
 have k8 : Blk ((W.alloc (.cells #[.int .i64 2, .int .i64 3, .int .i64 4, .int .i64 5, .int .i64 6, .int .i64 7] 108)).alloc (.cells #[.int .i64 14, .int .i64 15, .int .i64 16, .int .i64 17, .int .i64 19, .int .i64 20] 108)) (W.heap.size + 1) 108 #[.int .i64 14, .int .i64 15, .int .i64 16, .int .i64 17, .int .i64 19, .int .i64 20] := by have := Blk.new (W.alloc (.cells #[.int .i64 2, .int .i64 3, .int .i64 4, .int .i64 5, .int .i64 6, .int .i64 7] 108)) 108 #[.int .i64 14, .int .i64 15, .int .i64 16, .int .i64 17, .int .i64 19, .int .i64 20]; rwa [World.size_alloc] at this
 have bb : Below W.heap.size W ((W.alloc (.cells #[.int .i64 2, .int .i64 3, .int .i64 4, .int .i64 5, .int .i64 6, .int .i64 7] 108)).alloc (.cells #[.int .i64 14, .int .i64 15, .int .i64 16, .int .i64 17, .int .i64 19, .int .i64 20] 108)) := ((Below.refl _ _).alloc (Nat.le_refl _) _).alloc (by simp) _
 have kF := F.below bb
 clear c0
 generalize (W.alloc (.cells #[.int .i64 2, .int .i64 3, .int .i64 4, .int .i64 5, .int .i64 6, .int .i64 7] 108)).alloc (.cells #[.int .i64 14, .int .i64 15, .int .i64 16, .int .i64 17, .int .i64 19, .int .i64 20] 108) = W2 at *
 have bd := bb.trans ((Below.refl W2.heap.size W2).drew.mono bb.size)
 refine wp_region_held_drew (S := fun V => Blk V w.heap.size 26 (in16 k) ∧ Blk V (W.heap.size + 1) 108 #[.int .i64 14, .int .i64 15, .int .i64 16, .int .i64 17, .int .i64 19, .int .i64 20]) (by kernel_rfl) ⟨kF.i.drew, k8.drew⟩ (fun hHeld => ?_)
 replace k7 := k7.drew
 have kA := kF.a.drew
 generalize W2.drew = W3 at *
 refine tk 0 ?_ ?_ hHeld ?_
 rotate_left
 ·intro W hS
  go_simp
  try rfl
 simp only [pT]
 refine tk 1 ?_ ?_ hHeld ?_
 rotate_left
 ·intro W hS
  go_simp
  try rfl
 simp only [pT]
 refine tk 2 ?_ ?_ hHeld ?_
 rotate_left
 ·intro W hS
  have c0 := hS.1.cell (i := 0) (v := .int .i64 k.op) rfl
  go_simp
  try rfl
 simp only [pT]
 refine rd 3 (fun K hK => ?_)
 go_simp
 with_reducible refine (hA.out _ _ hHeld.2).mono ?_
 rintro e wz ⟨rfl, hwz⟩
 replace hwz := hwz.symm
 subst hwz
 refine hK.out _ _ hHeld (fun _ => ?_)
 clear hK K
 try simp only [pS]
 refine tk 4 ?_ ?_ hHeld ?_
 rotate_left
 ·intro W hS
  go_simp
  try rfl
 simp only [pT]
 refine wpAnyH_done (by kernel_rfl) ?_ _
 have hz : ((j : Int) < 0) = False := eq_false (by omega)
 have hz6 : ((j : Int) < 6) = True := eq_true (by omega)
 go_upto_region 37 with fail
 have bd2 := bd.trans ((Below.refl W3.heap.size W3).drew.mono bd.size)
 refine wp_region_held_drew (S := fun V => Blk V pa 24 (op6 k.A) ∧ Blk V W.heap.size 108 #[.int .i64 2, .int .i64 3, .int .i64 4, .int .i64 5, .int .i64 6, .int .i64 7]) (by kernel_rfl) ⟨kA.drew, k7.drew⟩ (fun hHeld2 => ?_)
 generalize W3.drew = W4 at *
 refine tk 1 (opV k.A) ?_ hHeld2 ?_
 ·intro W hS
  exact run_load_row (by rfl) (by rfl) 24 _ (0, 0) _ hS.1.h Tryd.underlying24 rfl (szOp k.A)
 simp only [pS]
 refine tk 2 ?_ ?_ hHeld2 ?_
 rotate_left
 ·intro W hS
  go_simp
  try rfl
 simp only [pT]
 refine tk 3 ?_ ?_ hHeld2 ?_
 rotate_left
 ·intro W hS
  go_simp
  try rfl
 simp only [pT]
 refine tk 4 ?_ ?_ hHeld2 ?_
 rotate_left
 ·intro W hS
  have c7 := hS.2.cell hsix
  go_simp
  try rfl
 simp only [pT]
 refine rd 0 (fun K hK => ?_)
 go_simp
 have hH := And.intro (hHeld2.1.alloc (.cells #[.int .u8 247] 5)) (hHeld2.2.alloc (.cells #[.int .u8 247] 5))
 refine hK.out _ _ hH (fun _ => ?_)
 clear hK K
 try simp only [pT]
 refine rd 5 (fun K hK => ?_)
 go_simp
 with_reducible refine (hM.out _).mono ?_
 rintro e w2 ⟨v1, vs1, rfl, R1, b1⟩
 have hH2 := And.intro (hHeld2.1.below b1 hHeld2.1.lt) (hHeld2.2.below b1 hHeld2.2.lt)
 refine hK.out _ _ hH2 (fun _ => ?_)
 clear hK K
 try simp only [pS]
 refine tk 6 ?_ ?_ hH2 ?_
 rotate_left
 ·intro W hS
  go_simp
  try rfl
 simp only [pT]
 refine wpAnyH_done (by kernel_rfl) ?_ _
 go_wp2_with fail
 go_ret
 exact ⟨_, rfl, R1.ll.base (Nat.le_trans b0.size bd2.size), b0.trans ((bd2.trans (b1.mono bd2.size)).mono b0.size)⟩
end Go.Proofs.YtcgleggdochbeaaDoor
