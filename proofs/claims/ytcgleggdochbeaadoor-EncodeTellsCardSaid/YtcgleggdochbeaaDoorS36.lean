import Derived.Test.YtcgleggdochbeaaDoorS35
namespace Go.Proofs.YtcgleggdochbeaaDoor
open Go.RowKit
set_option maxRecDepth 100000
set_option maxHeartbeats 8000000
set_option linter.unusedVariables false
set_option linter.unusedSimpArgs false
set_option linter.unusedSectionVars false
theorem mW_short {o : On} (ho : RMb o) {n : Int} (hn : 0 ≤ n ∧ n < 8) {z : Int} (y : List Int) (hy : y ∈ mW [z] o n) : y.length ≤ 40 := by
 obtain ⟨t, ht, rfl⟩ := List.mem_map.1 hy
 have := (reads_mod hn ho ht).len.2
 simp; omega
theorem R0_parts {o : On} (h : isR0 o = true) : o.k = (onReg 0).k ∧ o.r = (onReg 0).r ∧ o.m = (onReg 0).m ∧ o.b = (onReg 0).b ∧ o.x = (onReg 0).x ∧ o.s = (onReg 0).s := by
 unfold isR0 at h
 simp only [Bool.and_eq_true, beq_iff_eq] at h
 exact ⟨h.1.1.1.1.1, h.1.1.1.1.2, h.1.1.1.2, h.1.1.2, h.1.2, h.2⟩
theorem R0_not {o : On} (h : isR0 o = false) : o.k = (onReg 0).k → o.r = (onReg 0).r → o.m = (onReg 0).m → o.b = (onReg 0).b → o.x = (onReg 0).x → ¬ o.s = (onReg 0).s := by
 intro a b c d e f
 unfold isR0 at h
 rw [a, b, c, d, e, f] at h
 cases h
theorem sb_1 (k : In) (ho : k.op = 1) (hk : (k.B.k != 2) = true) (hA : RMb k.A) (hB : RMb k.B) (h : k.A.k = 1 ∨ k.B.k = 1) (w : World) : Gives 54 k w (bothW 137 139 k.A k.B) := by
 have hT := Lib.hid (fun W => both_any 137 139 (by decide) (by decide) k.A k.B hA hB h W)
 go_enter Tryd.func54, Tryd.ntmps54
 go_upto_region 1 with fail
 refine open_S rfl (fun _ _ _ _ _ h => h) (Blk.new _ _ _) (fun W pa pb F b na nb => ?_)
 have b0 : Below w.heap.size w W := bel1 (Below.refl _ _) (Nat.le_refl _) b
 have c0 := F.i.cell (i := 0) (v := .int .i64 k.op) rfl
 rw [ho] at c0
 have cB0 := F.b.cell (i := 0) (v := .int .i64 k.B.k) rfl
 have bW := Below.refl W.heap.size W
 have pa_lt := F.a.lt
 have pb_lt := F.b.lt
 go_upto_region 6 with fail
 go_wp2_with (first | (with_reducible refine load_opR rfl _ rfl pa (op6 k.A) rfl F.a rfl ?_) | (with_reducible refine load_opR rfl _ rfl pb (op6 k.B) rfl F.b rfl ?_) | ((with_reducible refine (hT.out _).mono ?_); rintro e w1 ⟨v1, rfl, L1, x1⟩))
 go_ret
 exact ⟨v1, rfl, L1.base b0.size, b0.trans (x1.mono b0.size)⟩
theorem sb_2 (k : In) (ho : k.op = 2) (hk : (k.B.k != 2) = true) (hA : RMb k.A) (hB : RMb k.B) (h : k.A.k = 1 ∨ k.B.k = 1) (w : World) : Gives 54 k w (bothW 136 138 k.A k.B) := by
 have hT := Lib.hid (fun W => both_any 136 138 (by decide) (by decide) k.A k.B hA hB h W)
 go_enter Tryd.func54, Tryd.ntmps54
 go_upto_region 1 with fail
 refine open_S rfl (fun _ _ _ _ _ h => h) (Blk.new _ _ _) (fun W pa pb F b na nb => ?_)
 have b0 : Below w.heap.size w W := bel1 (Below.refl _ _) (Nat.le_refl _) b
 have c0 := F.i.cell (i := 0) (v := .int .i64 k.op) rfl
 rw [ho] at c0
 have cB0 := F.b.cell (i := 0) (v := .int .i64 k.B.k) rfl
 have bW := Below.refl W.heap.size W
 have pa_lt := F.a.lt
 have pb_lt := F.b.lt
 go_upto_region 12 with fail
 go_wp2_with (first | (with_reducible refine load_opR rfl _ rfl pa (op6 k.A) rfl F.a rfl ?_) | (with_reducible refine load_opR rfl _ rfl pb (op6 k.B) rfl F.b rfl ?_) | ((with_reducible refine (hT.out _).mono ?_); rintro e w1 ⟨v1, rfl, L1, x1⟩))
 go_ret
 exact ⟨v1, rfl, L1.base b0.size, b0.trans (x1.mono b0.size)⟩
theorem sr_1 (k : In) (ho : k.op = 1) (hk : (k.B.k != 2) = false) (ha : (k.A.k == 1) = true) (hX : RMb k.A) (hr : k.A.k = 1 → 0 ≤ k.A.r ∧ k.A.r < 8) (hm : 0 ≤ k.B.m ∧ k.B.m ≤ 4294967295) (w : World) : Gives 54 k w (([] ++ [[184 + k.A.r] ++ wB k.B.m]) ++ b4 (mW [199] k.A (0)) k.B.m) := by
 have hB := Lib.hid hm
 have hM := Lib.hid (fun W => mod_one W (show 0 ≤ (199 : Int) ∧ (199 : Int) ≤ 255 by decide) hX (show 0 ≤ (0 : Int) ∧ (0 : Int) < 8 by decide))
 have hr1 := hr (by simpa using ha)
 have hb1 : 0 ≤ 184 + k.A.r ∧ 184 + k.A.r ≤ 255 := by omega
 have hw0 : IntKind.i64.wrap (184 + k.A.r) = 184 + k.A.r := by rw [IntKind.wrap_i64]; omega
 have hw1 : IntKind.u8.wrap (184 + k.A.r) = 184 + k.A.r := by rw [IntKind.wrap_u8]; omega
 have hP := Lib.hid (fun W => put_one W hb1 hm)
 go_enter Tryd.func54, Tryd.ntmps54
 go_upto_region 1 with fail
 refine open_S rfl (fun _ _ _ _ _ h => h) (Blk.new _ _ _) (fun W pa pb F b na nb => ?_)
 have b0 : Below w.heap.size w W := bel1 (Below.refl _ _) (Nat.le_refl _) b
 have c0 := F.i.cell (i := 0) (v := .int .i64 k.op) rfl
 rw [ho] at c0
 have cA0 := F.a.cell (i := 0) (v := .int .i64 k.A.k) rfl
 have cB0 := F.b.cell (i := 0) (v := .int .i64 k.B.k) rfl
 have bW := Below.refl W.heap.size W
 have pa_lt := F.a.lt
 have pb_lt := F.b.lt
 go_upto_region 8 with fail
 have cr := F.a.cell (i := 1) (v := .int .i64 k.A.r) rfl
 have cm1 := (F.b.alloc (arr1 (184 + k.A.r))).cell (i := 2) (v := .int .u32 k.B.m) rfl
 go_upto_region 9 with (first | ((with_reducible refine (hP.out _).mono ?_); rintro e u1 ⟨p1, rfl, O1, x1⟩; obtain ⟨a1, q1, e1, -⟩ := id O1.ba; generalize List.length _ = l1 at e1; subst e1; have x1' : Below W.heap.size W u1 := x1) | (at_builtin; refine append_one rfl _ _ rfl W.heap.size (.slice none 0 0) ([]) rfl (LL.nil _ _) (Nat.le_trans bW.size x1.size) O1 (fun k hk => by cases hk) rfl (by simp) ?_; intro v1 w1 L1 g1))
 have z1 : Below W.heap.size W w1 := (bW.trans (x1.mono bW.size)).trans g1
 have F1 := F.below z1
 have k2 : Blk w1.drew pa 24 (op6 k.A) ∧ Blk w1.drew pb 24 (op6 k.B) := ⟨F1.a.drew, F1.b.drew⟩
 refine wp_region_held_drew (S := fun V => Blk V pa 24 (op6 k.A) ∧ Blk V pb 24 (op6 k.B)) (by kernel_rfl) k2 (fun hH2 => ?_)
 clear k2
 have d2 := (Below.refl w1.heap.size w1).drew
 have LD2 := L1.below d2
 have hsz2 : w1.heap.size = w1.drew.heap.size := rfl
 generalize w1.drew = D2 at *
 refine tk 0 ?_ ?_ hH2 ?_
 rotate_left
 ·intro W hS
  go_simp
  try rfl
 simp only [pT]
 refine tk 2 (opV k.A) ?_ hH2 ?_
 ·intro W hS
  exact run_load_row (by rfl) (by rfl) 24 _ (0, 0) _ hS.1.h Tryd.underlying24 rfl (szOp k.A)
 simp only [pS]
 refine tk 4 ?_ ?_ hH2 ?_
 rotate_left
 ·intro W hS
  go_simp
  try rfl
 simp only [pT]
 refine tk 5 ?_ ?_ hH2 ?_
 rotate_left
 ·intro W hS
  have c2 := hS.2.cell (i := 2) (v := .int .u32 k.B.m) rfl
  go_simp
  try rfl
 simp only [pT]
 refine rd 1 (fun K hK => ?_)
 go_simp
 have hA2 := And.intro (hH2.1.alloc (arr1 (199))) (hH2.2.alloc (arr1 (199)))
 refine hK.out _ _ hA2 (fun _ => ?_)
 clear hK K
 try simp only [pT]
 refine rd 3 (fun K hK => ?_)
 go_simp
 with_reducible refine (hM.out _).mono ?_
 rintro e u2 ⟨p2, vs2, rfl, R2, x2⟩
 have hB2 := And.intro (hH2.1.below x2 hH2.1.lt) (hH2.2.below x2 hH2.2.lt)
 refine hK.out _ _ hB2 (fun _ => ?_)
 clear hK K
 try simp only [pS]
 refine rd 6 (fun K hK => ?_)
 go_simp
 with_reducible refine (behind_four _ _ _ _ k.B.m hB.out _ R2 x2.size (fun y hy => mW_short hX (show 0 ≤ (0 : Int) ∧ (0 : Int) < 8 by decide) y hy) (by have := mW_len [199] k.A (0); omega)).mono ?_
 rintro e t2 ⟨rfl, ⟨us2, S2⟩, y2⟩
 have y2' := (Below.mono y2 (Nat.le_refl _))
 have hC2 := And.intro (hB2.1.below y2 hH2.1.lt) (hB2.2.below y2 hH2.2.lt)
 refine hK.out _ _ hC2 (fun _ => ?_)
 clear hK K
 try simp only [pS]
 refine rd 7 (fun K hK => ?_)
 rw [if_pos (by kernel_rfl)]
 refine append_lsK _ _ rfl W.heap.size _ v1 _ ([] ++ [[184 + k.A.r] ++ wB k.B.m]) _ us2 rfl (LD2.below (x2.trans y2')) (Nat.le_trans z1.size (Nat.le_trans (Nat.le_of_eq hsz2) (Nat.le_trans x2.size y2.size))) rfl S2 (fun k hk => (LD2.lt hk).2) (by simp [b4, mW_ne hX]) (by have := mW_len [199] k.A (0); simp [b4]; omega) (fun v2 w2 L2 g2 => ?_)
 have hE2 := And.intro ((hC2.1).below (g2.mono (Nat.le_refl _)) pa_lt) ((hC2.2).below g2 pb_lt)
 refine hK.out _ _ hE2 (fun _ => ?_)
 clear hK K
 try simp only [pT]
 refine tk 8 ?_ ?_ hE2 ?_
 rotate_left
 ·intro W hS
  go_simp
  try rfl
 simp only [pT]
 refine wpAnyH_done (by kernel_rfl) ?_ _
 have x2' : Below w1.heap.size w1 t2 := ((d2.trans (x2.mono (Nat.le_of_eq hsz2))).trans (y2.mono (Nat.le_of_eq hsz2)))
 replace x2 := x2'
 have z2 : Below W.heap.size W w2 := (z1.trans (x2.mono z1.size)).trans g2
 have F2 := F.below z2
 go_wp2_with fail
 go_ret
 exact ⟨v2, rfl, by simpa using L2.base b0.size, b0.trans (z2.mono b0.size)⟩
theorem sm_1 (k : In) (ho : k.op = 1) (hk : (k.B.k != 2) = false) (ha : (k.A.k == 1) = false) (hX : RMb k.A) (hr : k.A.k = 1 → 0 ≤ k.A.r ∧ k.A.r < 8) (hm : 0 ≤ k.B.m ∧ k.B.m ≤ 4294967295) (w : World) : Gives 54 k w (([]) ++ b4 (mW [199] k.A (0)) k.B.m) := by
 have hB := Lib.hid hm
 have hM := Lib.hid (fun W => mod_one W (show 0 ≤ (199 : Int) ∧ (199 : Int) ≤ 255 by decide) hX (show 0 ≤ (0 : Int) ∧ (0 : Int) < 8 by decide))
 go_enter Tryd.func54, Tryd.ntmps54
 go_upto_region 1 with fail
 refine open_S rfl (fun _ _ _ _ _ h => h) (Blk.new _ _ _) (fun W pa pb F b na nb => ?_)
 have b0 : Below w.heap.size w W := bel1 (Below.refl _ _) (Nat.le_refl _) b
 have c0 := F.i.cell (i := 0) (v := .int .i64 k.op) rfl
 rw [ho] at c0
 have cA0 := F.a.cell (i := 0) (v := .int .i64 k.A.k) rfl
 have cB0 := F.b.cell (i := 0) (v := .int .i64 k.B.k) rfl
 have bW := Below.refl W.heap.size W
 have pa_lt := F.a.lt
 have pb_lt := F.b.lt
 go_upto_region 9 with fail
 have k1 : Blk W.drew pa 24 (op6 k.A) ∧ Blk W.drew pb 24 (op6 k.B) := ⟨F.a.drew, F.b.drew⟩
 refine wp_region_held_drew (S := fun V => Blk V pa 24 (op6 k.A) ∧ Blk V pb 24 (op6 k.B)) (by kernel_rfl) k1 (fun hH1 => ?_)
 clear k1
 have d1 := (Below.refl W.heap.size W).drew
 have hsz1 : W.heap.size = W.drew.heap.size := rfl
 generalize W.drew = D1 at *
 refine tk 0 ?_ ?_ hH1 ?_
 rotate_left
 ·intro W hS
  go_simp
  try rfl
 simp only [pT]
 refine tk 2 (opV k.A) ?_ hH1 ?_
 ·intro W hS
  exact run_load_row (by rfl) (by rfl) 24 _ (0, 0) _ hS.1.h Tryd.underlying24 rfl (szOp k.A)
 simp only [pS]
 refine tk 4 ?_ ?_ hH1 ?_
 rotate_left
 ·intro W hS
  go_simp
  try rfl
 simp only [pT]
 refine tk 5 ?_ ?_ hH1 ?_
 rotate_left
 ·intro W hS
  have c2 := hS.2.cell (i := 2) (v := .int .u32 k.B.m) rfl
  go_simp
  try rfl
 simp only [pT]
 refine rd 1 (fun K hK => ?_)
 go_simp
 have hA1 := And.intro (hH1.1.alloc (arr1 (199))) (hH1.2.alloc (arr1 (199)))
 refine hK.out _ _ hA1 (fun _ => ?_)
 clear hK K
 try simp only [pT]
 refine rd 3 (fun K hK => ?_)
 go_simp
 with_reducible refine (hM.out _).mono ?_
 rintro e u1 ⟨p1, vs1, rfl, R1, x1⟩
 have hB1 := And.intro (hH1.1.below x1 hH1.1.lt) (hH1.2.below x1 hH1.2.lt)
 refine hK.out _ _ hB1 (fun _ => ?_)
 clear hK K
 try simp only [pS]
 refine rd 6 (fun K hK => ?_)
 go_simp
 with_reducible refine (behind_four _ _ _ _ k.B.m hB.out _ R1 x1.size (fun y hy => mW_short hX (show 0 ≤ (0 : Int) ∧ (0 : Int) < 8 by decide) y hy) (by have := mW_len [199] k.A (0); omega)).mono ?_
 rintro e t1 ⟨rfl, ⟨us1, S1⟩, y1⟩
 have y1' := (Below.mono y1 (Nat.le_refl _))
 have hC1 := And.intro (hB1.1.below y1 hH1.1.lt) (hB1.2.below y1 hH1.2.lt)
 refine hK.out _ _ hC1 (fun _ => ?_)
 clear hK K
 try simp only [pS]
 refine rd 7 (fun K hK => ?_)
 rw [if_pos (by kernel_rfl)]
 refine append_lsK _ _ rfl W.heap.size _ (.slice none 0 0) _ ([]) _ us1 rfl (LL.nil _ _) (Nat.le_trans bW.size (Nat.le_trans (Nat.le_of_eq hsz1) (Nat.le_trans x1.size y1.size))) rfl S1 (fun k hk => by cases hk) (by simp [b4, mW_ne hX]) (by have := mW_len [199] k.A (0); simp [b4]; omega) (fun v1 w1 L1 g1 => ?_)
 have hE1 := And.intro ((hC1.1).below (g1.mono (Nat.le_refl _)) pa_lt) ((hC1.2).below g1 pb_lt)
 refine hK.out _ _ hE1 (fun _ => ?_)
 clear hK K
 try simp only [pT]
 refine tk 8 ?_ ?_ hE1 ?_
 rotate_left
 ·intro W hS
  go_simp
  try rfl
 simp only [pT]
 refine wpAnyH_done (by kernel_rfl) ?_ _
 have x1' : Below W.heap.size W t1 := ((d1.trans (x1.mono (Nat.le_of_eq hsz1))).trans (y1.mono (Nat.le_of_eq hsz1)))
 replace x1 := x1'
 have z1 : Below W.heap.size W w1 := (bW.trans (x1.mono bW.size)).trans g1
 have F1 := F.below z1
 go_wp2_with fail
 go_ret
 exact ⟨v1, rfl, by simpa using L1.base b0.size, b0.trans (z1.mono b0.size)⟩
theorem sr_2 (k : In) (ho : k.op = 2) (hk : (k.B.k != 2) = false) (ha : (k.A.k == 1) = true) (hX : RMb k.A) (hr : k.A.k = 1 → 0 ≤ k.A.r ∧ k.A.r < 8) (hm : 0 ≤ k.B.m ∧ k.B.m ≤ 4294967295) (w : World) : Gives 54 k w (([] ++ [[176 + k.A.r, k.B.m % 256]]) ++ b1 (mW [198] k.A (0)) k.B.m) := by
 have hB := Lib.hid hm
 have hM := Lib.hid (fun W => mod_one W (show 0 ≤ (198 : Int) ∧ (198 : Int) ≤ 255 by decide) hX (show 0 ≤ (0 : Int) ∧ (0 : Int) < 8 by decide))
 have hr1 := hr (by simpa using ha)
 have hb1 : 0 ≤ 176 + k.A.r ∧ 176 + k.A.r ≤ 255 := by omega
 have hw0 : IntKind.i64.wrap (176 + k.A.r) = 176 + k.A.r := by rw [IntKind.wrap_i64]; omega
 have hw1 : IntKind.u8.wrap (176 + k.A.r) = 176 + k.A.r := by rw [IntKind.wrap_u8]; omega
 have hb2 : 0 ≤ k.B.m % 256 ∧ k.B.m % 256 ≤ 255 := by omega
 go_enter Tryd.func54, Tryd.ntmps54
 go_upto_region 1 with fail
 refine open_S rfl (fun _ _ _ _ _ h => h) (Blk.new _ _ _) (fun W pa pb F b na nb => ?_)
 have b0 : Below w.heap.size w W := bel1 (Below.refl _ _) (Nat.le_refl _) b
 have c0 := F.i.cell (i := 0) (v := .int .i64 k.op) rfl
 rw [ho] at c0
 have cA0 := F.a.cell (i := 0) (v := .int .i64 k.A.k) rfl
 have cB0 := F.b.cell (i := 0) (v := .int .i64 k.B.k) rfl
 have bW := Below.refl W.heap.size W
 have pa_lt := F.a.lt
 have pb_lt := F.b.lt
 go_upto_region 14 with fail
 have cr := F.a.cell (i := 1) (v := .int .i64 k.A.r) rfl
 have cbm := F.b.cell (i := 2) (v := .int .u32 k.B.m) rfl
 go_upto_region 15 with (first | (at_builtin; refine append_one rfl _ _ rfl W.heap.size (.slice none 0 0) ([]) rfl (LL.nil _ _) (Nat.le_trans bW.size (by simp)) (own_two W hb1 hb2) (fun k hk => by cases hk) (by rw [World.size_alloc]; rfl) (by simp) ?_; intro v1 w1 L1 g1))
 have x1 := (Below.refl W.heap.size W).alloc (Nat.le_refl _) (arr2 (176 + k.A.r) (k.B.m % 256))
 have z1 : Below W.heap.size W w1 := (bW.trans (x1.mono bW.size)).trans g1
 have F1 := F.below z1
 have k2 : Blk w1.drew pa 24 (op6 k.A) ∧ Blk w1.drew pb 24 (op6 k.B) := ⟨F1.a.drew, F1.b.drew⟩
 refine wp_region_held_drew (S := fun V => Blk V pa 24 (op6 k.A) ∧ Blk V pb 24 (op6 k.B)) (by kernel_rfl) k2 (fun hH2 => ?_)
 clear k2
 have d2 := (Below.refl w1.heap.size w1).drew
 have LD2 := L1.below d2
 have hsz2 : w1.heap.size = w1.drew.heap.size := rfl
 generalize w1.drew = D2 at *
 refine tk 0 ?_ ?_ hH2 ?_
 rotate_left
 ·intro W hS
  go_simp
  try rfl
 simp only [pT]
 refine tk 2 (opV k.A) ?_ hH2 ?_
 ·intro W hS
  exact run_load_row (by rfl) (by rfl) 24 _ (0, 0) _ hS.1.h Tryd.underlying24 rfl (szOp k.A)
 simp only [pS]
 refine tk 4 ?_ ?_ hH2 ?_
 rotate_left
 ·intro W hS
  go_simp
  try rfl
 simp only [pT]
 refine tk 5 ?_ ?_ hH2 ?_
 rotate_left
 ·intro W hS
  have c2 := hS.2.cell (i := 2) (v := .int .u32 k.B.m) rfl
  go_simp
  try rfl
 simp only [pT]
 refine rd 1 (fun K hK => ?_)
 go_simp
 have hA2 := And.intro (hH2.1.alloc (arr1 (198))) (hH2.2.alloc (arr1 (198)))
 refine hK.out _ _ hA2 (fun _ => ?_)
 clear hK K
 try simp only [pT]
 refine rd 3 (fun K hK => ?_)
 go_simp
 with_reducible refine (hM.out _).mono ?_
 rintro e u2 ⟨p2, vs2, rfl, R2, x2⟩
 have hB2 := And.intro (hH2.1.below x2 hH2.1.lt) (hH2.2.below x2 hH2.2.lt)
 refine hK.out _ _ hB2 (fun _ => ?_)
 clear hK K
 try simp only [pS]
 refine rd 6 (fun K hK => ?_)
 go_simp
 with_reducible refine (behind_one _ _ _ _ k.B.m hB.out _ R2 x2.size (fun y hy => mW_short hX (show 0 ≤ (0 : Int) ∧ (0 : Int) < 8 by decide) y hy) (by have := mW_len [198] k.A (0); omega)).mono ?_
 rintro e t2 ⟨rfl, ⟨us2, S2⟩, y2⟩
 have y2' := (Below.mono y2 (Nat.le_refl _))
 have hC2 := And.intro (hB2.1.below y2 hH2.1.lt) (hB2.2.below y2 hH2.2.lt)
 refine hK.out _ _ hC2 (fun _ => ?_)
 clear hK K
 try simp only [pS]
 refine rd 7 (fun K hK => ?_)
 rw [if_pos (by kernel_rfl)]
 refine append_lsK _ _ rfl W.heap.size _ v1 _ ([] ++ [[176 + k.A.r, k.B.m % 256]]) _ us2 rfl (LD2.below (x2.trans y2')) (Nat.le_trans z1.size (Nat.le_trans (Nat.le_of_eq hsz2) (Nat.le_trans x2.size y2.size))) rfl S2 (fun k hk => (LD2.lt hk).2) (by simp [b1, mW_ne hX]) (by have := mW_len [198] k.A (0); simp [b1]; omega) (fun v2 w2 L2 g2 => ?_)
 have hE2 := And.intro ((hC2.1).below (g2.mono (Nat.le_refl _)) pa_lt) ((hC2.2).below g2 pb_lt)
 refine hK.out _ _ hE2 (fun _ => ?_)
 clear hK K
 try simp only [pT]
 refine tk 8 ?_ ?_ hE2 ?_
 rotate_left
 ·intro W hS
  go_simp
  try rfl
 simp only [pT]
 refine wpAnyH_done (by kernel_rfl) ?_ _
 have x2' : Below w1.heap.size w1 t2 := ((d2.trans (x2.mono (Nat.le_of_eq hsz2))).trans (y2.mono (Nat.le_of_eq hsz2)))
 replace x2 := x2'
 have z2 : Below W.heap.size W w2 := (z1.trans (x2.mono z1.size)).trans g2
 have F2 := F.below z2
 go_wp2_with fail
 go_ret
 exact ⟨v2, rfl, by simpa using L2.base b0.size, b0.trans (z2.mono b0.size)⟩
theorem sm_2 (k : In) (ho : k.op = 2) (hk : (k.B.k != 2) = false) (ha : (k.A.k == 1) = false) (hX : RMb k.A) (hr : k.A.k = 1 → 0 ≤ k.A.r ∧ k.A.r < 8) (hm : 0 ≤ k.B.m ∧ k.B.m ≤ 4294967295) (w : World) : Gives 54 k w (([]) ++ b1 (mW [198] k.A (0)) k.B.m) := by
 have hB := Lib.hid hm
 have hM := Lib.hid (fun W => mod_one W (show 0 ≤ (198 : Int) ∧ (198 : Int) ≤ 255 by decide) hX (show 0 ≤ (0 : Int) ∧ (0 : Int) < 8 by decide))
 go_enter Tryd.func54, Tryd.ntmps54
 go_upto_region 1 with fail
 refine open_S rfl (fun _ _ _ _ _ h => h) (Blk.new _ _ _) (fun W pa pb F b na nb => ?_)
 have b0 : Below w.heap.size w W := bel1 (Below.refl _ _) (Nat.le_refl _) b
 have c0 := F.i.cell (i := 0) (v := .int .i64 k.op) rfl
 rw [ho] at c0
 have cA0 := F.a.cell (i := 0) (v := .int .i64 k.A.k) rfl
 have cB0 := F.b.cell (i := 0) (v := .int .i64 k.B.k) rfl
 have bW := Below.refl W.heap.size W
 have pa_lt := F.a.lt
 have pb_lt := F.b.lt
 go_upto_region 15 with fail
 have k1 : Blk W.drew pa 24 (op6 k.A) ∧ Blk W.drew pb 24 (op6 k.B) := ⟨F.a.drew, F.b.drew⟩
 refine wp_region_held_drew (S := fun V => Blk V pa 24 (op6 k.A) ∧ Blk V pb 24 (op6 k.B)) (by kernel_rfl) k1 (fun hH1 => ?_)
 clear k1
 have d1 := (Below.refl W.heap.size W).drew
 have hsz1 : W.heap.size = W.drew.heap.size := rfl
 generalize W.drew = D1 at *
 refine tk 0 ?_ ?_ hH1 ?_
 rotate_left
 ·intro W hS
  go_simp
  try rfl
 simp only [pT]
 refine tk 2 (opV k.A) ?_ hH1 ?_
 ·intro W hS
  exact run_load_row (by rfl) (by rfl) 24 _ (0, 0) _ hS.1.h Tryd.underlying24 rfl (szOp k.A)
 simp only [pS]
 refine tk 4 ?_ ?_ hH1 ?_
 rotate_left
 ·intro W hS
  go_simp
  try rfl
 simp only [pT]
 refine tk 5 ?_ ?_ hH1 ?_
 rotate_left
 ·intro W hS
  have c2 := hS.2.cell (i := 2) (v := .int .u32 k.B.m) rfl
  go_simp
  try rfl
 simp only [pT]
 refine rd 1 (fun K hK => ?_)
 go_simp
 have hA1 := And.intro (hH1.1.alloc (arr1 (198))) (hH1.2.alloc (arr1 (198)))
 refine hK.out _ _ hA1 (fun _ => ?_)
 clear hK K
 try simp only [pT]
 refine rd 3 (fun K hK => ?_)
 go_simp
 with_reducible refine (hM.out _).mono ?_
 rintro e u1 ⟨p1, vs1, rfl, R1, x1⟩
 have hB1 := And.intro (hH1.1.below x1 hH1.1.lt) (hH1.2.below x1 hH1.2.lt)
 refine hK.out _ _ hB1 (fun _ => ?_)
 clear hK K
 try simp only [pS]
 refine rd 6 (fun K hK => ?_)
 go_simp
 with_reducible refine (behind_one _ _ _ _ k.B.m hB.out _ R1 x1.size (fun y hy => mW_short hX (show 0 ≤ (0 : Int) ∧ (0 : Int) < 8 by decide) y hy) (by have := mW_len [198] k.A (0); omega)).mono ?_
 rintro e t1 ⟨rfl, ⟨us1, S1⟩, y1⟩
 have y1' := (Below.mono y1 (Nat.le_refl _))
 have hC1 := And.intro (hB1.1.below y1 hH1.1.lt) (hB1.2.below y1 hH1.2.lt)
 refine hK.out _ _ hC1 (fun _ => ?_)
 clear hK K
 try simp only [pS]
 refine rd 7 (fun K hK => ?_)
 rw [if_pos (by kernel_rfl)]
 refine append_lsK _ _ rfl W.heap.size _ (.slice none 0 0) _ ([]) _ us1 rfl (LL.nil _ _) (Nat.le_trans bW.size (Nat.le_trans (Nat.le_of_eq hsz1) (Nat.le_trans x1.size y1.size))) rfl S1 (fun k hk => by cases hk) (by simp [b1, mW_ne hX]) (by have := mW_len [198] k.A (0); simp [b1]; omega) (fun v1 w1 L1 g1 => ?_)
 have hE1 := And.intro ((hC1.1).below (g1.mono (Nat.le_refl _)) pa_lt) ((hC1.2).below g1 pb_lt)
 refine hK.out _ _ hE1 (fun _ => ?_)
 clear hK K
 try simp only [pT]
 refine tk 8 ?_ ?_ hE1 ?_
 rotate_left
 ·intro W hS
  go_simp
  try rfl
 simp only [pT]
 refine wpAnyH_done (by kernel_rfl) ?_ _
 have x1' : Below W.heap.size W t1 := ((d1.trans (x1.mono (Nat.le_of_eq hsz1))).trans (y1.mono (Nat.le_of_eq hsz1)))
 replace x1 := x1'
 have z1 : Below W.heap.size W w1 := (bW.trans (x1.mono bW.size)).trans g1
 have F1 := F.below z1
 go_wp2_with fail
 go_ret
 exact ⟨v1, rfl, by simpa using L1.base b0.size, b0.trans (z1.mono b0.size)⟩
theorem sm_11 (k : In) (ho : k.op = 11) (hk : (k.B.k == 1) = true) (hX : RMb k.A) (hr : 0 ≤ k.B.r ∧ k.B.r < 8) (w : World) : Gives 54 k w (mW [133] k.A (k.B.r)) := by
 have hM := Lib.hid (fun W => mod_one W (show 0 ≤ (133 : Int) ∧ (133 : Int) ≤ 255 by decide) hX hr)
 go_enter Tryd.func54, Tryd.ntmps54
 go_upto_region 1 with fail
 refine open_S rfl (fun _ _ _ _ _ h => h) (Blk.new _ _ _) (fun W pa pb F b na nb => ?_)
 have b0 : Below w.heap.size w W := bel1 (Below.refl _ _) (Nat.le_refl _) b
 have c0 := F.i.cell (i := 0) (v := .int .i64 k.op) rfl
 rw [ho] at c0
 have cB0 := F.b.cell (i := 0) (v := .int .i64 k.B.k) rfl
 go_upto_region 18 with fail
 have cr := (F.b.alloc (arr1 (133))).cell (i := 1) (v := .int .i64 k.B.r) rfl
 go_wp2_with (first | (with_reducible refine load_opR rfl _ rfl pa (op6 k.A) rfl (F.a.alloc _) rfl ?_) | ((with_reducible refine (hM.out _).mono ?_); rintro e w2 ⟨v1, vs1, rfl, R1, b1⟩))
 go_ret
 exact ⟨_, rfl, R1.ll.base b0.size, b0.trans (b1.mono b0.size)⟩
theorem stt_11 (k : In) (ho : k.op = 11) (hk : (k.B.k == 1) = false) (h0 : isR0 k.A = true) (hX : RMb k.A) (hm : 0 ≤ k.B.m ∧ k.B.m ≤ 4294967295) (w : World) : Gives 54 k w (([] ++ [[169] ++ wB k.B.m]) ++ b4 (mW [247] k.A (0)) k.B.m) := by
 have hB := Lib.hid hm
 have hM := Lib.hid (fun W => mod_one W (show 0 ≤ (247 : Int) ∧ (247 : Int) ≤ 255 by decide) hX (show 0 ≤ (0 : Int) ∧ (0 : Int) < 8 by decide))
 have hG := Lib.hid (fun W => reg_ref 0 W)
 have hP := Lib.hid (fun W => put_one W (show 0 ≤ (169 : Int) ∧ (169 : Int) ≤ 255 by decide) hm)
 go_enter Tryd.func54, Tryd.ntmps54
 go_upto_region 1 with fail
 refine open_S rfl (fun _ _ _ _ _ h => h) (Blk.new _ _ _) (fun W pa pb F b na nb => ?_)
 have b0 : Below w.heap.size w W := bel1 (Below.refl _ _) (Nat.le_refl _) b
 have c0 := F.i.cell (i := 0) (v := .int .i64 k.op) rfl
 rw [ho] at c0
 have cB0 := F.b.cell (i := 0) (v := .int .i64 k.B.k) rfl
 have bW0 := Below.refl W.heap.size W
 have pa_lt := F.a.lt
 have pb_lt := F.b.lt
 go_upto_region 19 with fail
 refine wp_region_held_drew (S := fun V => Blk V pa 24 (op6 k.A)) (by kernel_rfl) F.a.drew (fun hH => ?_)
 have bD := (Below.refl W.heap.size W).drew
 generalize W.drew = D at *
 refine tk 0 (opV k.A) ?_ hH ?_
 ·intro W hS
  exact run_load_row (by rfl) (by rfl) 24 _ (0, 0) _ hS.h Tryd.underlying24 rfl (szOp k.A)
 simp only [pS]
 refine rd 1 (fun K hK => ?_)
 go_simp
 with_reducible refine (hG.out _).mono ?_
 rintro e G ⟨rfl, xg⟩
 have hH1 := hH.below xg hH.lt
 refine hK.out _ _ hH1 (fun _ => ?_)
 clear hK K
 try simp only [pS]
 refine tk 2 (.bool true) ?_ hH1 ?_
 ·intro W hS
  go_simp
  obtain ⟨q1, q2, q3, q4, q5, q6⟩ := R0_parts h0
  rw [if_pos q1, if_pos q2, if_pos q3, if_pos q4, if_pos q5, if_pos q6]
 simp only [pS]
 refine wpAnyH_done (by kernel_rfl) ?_ _
 have bW : Below W.heap.size W G := bD.trans (xg.mono bD.size)
 have F0 := F.below bW
 go_upto_region 20 with fail
 have cm1 := (F0.b.alloc (arr1 (169))).cell (i := 2) (v := .int .u32 k.B.m) rfl
 go_upto_region 21 with (first | ((with_reducible refine (hP.out _).mono ?_); rintro e u1 ⟨p1, rfl, O1, x1⟩; obtain ⟨a1, q1, e1, -⟩ := id O1.ba; generalize List.length _ = l1 at e1; subst e1; have x1' : Below G.heap.size G u1 := x1) | (at_builtin; refine append_one rfl _ _ rfl W.heap.size (.slice none 0 0) ([]) rfl (LL.nil _ _) (Nat.le_trans bW.size x1.size) O1 (fun k hk => by cases hk) rfl (by simp) ?_; intro v1 w1 L1 g1))
 have z1 : Below W.heap.size W w1 := (bW.trans (x1.mono bW.size)).trans g1
 have F1 := F.below z1
 have k2 : Blk w1.drew pa 24 (op6 k.A) ∧ Blk w1.drew pb 24 (op6 k.B) := ⟨F1.a.drew, F1.b.drew⟩
 refine wp_region_held_drew (S := fun V => Blk V pa 24 (op6 k.A) ∧ Blk V pb 24 (op6 k.B)) (by kernel_rfl) k2 (fun hH2 => ?_)
 clear k2
 have d2 := (Below.refl w1.heap.size w1).drew
 have LD2 := L1.below d2
 have hsz2 : w1.heap.size = w1.drew.heap.size := rfl
 generalize w1.drew = D2 at *
 refine tk 0 ?_ ?_ hH2 ?_
 rotate_left
 ·intro W hS
  go_simp
  try rfl
 simp only [pT]
 refine tk 2 (opV k.A) ?_ hH2 ?_
 ·intro W hS
  exact run_load_row (by rfl) (by rfl) 24 _ (0, 0) _ hS.1.h Tryd.underlying24 rfl (szOp k.A)
 simp only [pS]
 refine tk 4 ?_ ?_ hH2 ?_
 rotate_left
 ·intro W hS
  go_simp
  try rfl
 simp only [pT]
 refine tk 5 ?_ ?_ hH2 ?_
 rotate_left
 ·intro W hS
  have c2 := hS.2.cell (i := 2) (v := .int .u32 k.B.m) rfl
  go_simp
  try rfl
 simp only [pT]
 refine rd 1 (fun K hK => ?_)
 go_simp
 have hA2 := And.intro (hH2.1.alloc (arr1 (247))) (hH2.2.alloc (arr1 (247)))
 refine hK.out _ _ hA2 (fun _ => ?_)
 clear hK K
 try simp only [pT]
 refine rd 3 (fun K hK => ?_)
 go_simp
 with_reducible refine (hM.out _).mono ?_
 rintro e u2 ⟨p2, vs2, rfl, R2, x2⟩
 have hB2 := And.intro (hH2.1.below x2 hH2.1.lt) (hH2.2.below x2 hH2.2.lt)
 refine hK.out _ _ hB2 (fun _ => ?_)
 clear hK K
 try simp only [pS]
 refine rd 6 (fun K hK => ?_)
 go_simp
 with_reducible refine (behind_four _ _ _ _ k.B.m hB.out _ R2 x2.size (fun y hy => mW_short hX (show 0 ≤ (0 : Int) ∧ (0 : Int) < 8 by decide) y hy) (by have := mW_len [247] k.A (0); omega)).mono ?_
 rintro e t2 ⟨rfl, ⟨us2, S2⟩, y2⟩
 have y2' := (Below.mono y2 (Nat.le_refl _))
 have hC2 := And.intro (hB2.1.below y2 hH2.1.lt) (hB2.2.below y2 hH2.2.lt)
 refine hK.out _ _ hC2 (fun _ => ?_)
 clear hK K
 try simp only [pS]
 refine rd 7 (fun K hK => ?_)
 rw [if_pos (by kernel_rfl)]
 refine append_lsK _ _ rfl W.heap.size _ v1 _ ([] ++ [[169] ++ wB k.B.m]) _ us2 rfl (LD2.below (x2.trans y2')) (Nat.le_trans z1.size (Nat.le_trans (Nat.le_of_eq hsz2) (Nat.le_trans x2.size y2.size))) rfl S2 (fun k hk => (LD2.lt hk).2) (by simp [b4, mW_ne hX]) (by have := mW_len [247] k.A (0); simp [b4]; omega) (fun v2 w2 L2 g2 => ?_)
 have hE2 := And.intro ((hC2.1).below (g2.mono (Nat.le_refl _)) pa_lt) ((hC2.2).below g2 pb_lt)
 refine hK.out _ _ hE2 (fun _ => ?_)
 clear hK K
 try simp only [pT]
 refine tk 8 ?_ ?_ hE2 ?_
 rotate_left
 ·intro W hS
  go_simp
  try rfl
 simp only [pT]
 refine wpAnyH_done (by kernel_rfl) ?_ _
 have x2' : Below w1.heap.size w1 t2 := ((d2.trans (x2.mono (Nat.le_of_eq hsz2))).trans (y2.mono (Nat.le_of_eq hsz2)))
 replace x2 := x2'
 have z2 : Below W.heap.size W w2 := (z1.trans (x2.mono z1.size)).trans g2
 have F2 := F.below z2
 go_wp2_with fail
 go_ret
 exact ⟨v2, rfl, by simpa using L2.base b0.size, b0.trans (z2.mono b0.size)⟩
theorem stf_11 (k : In) (ho : k.op = 11) (hk : (k.B.k == 1) = false) (h0 : isR0 k.A = false) (hX : RMb k.A) (hm : 0 ≤ k.B.m ∧ k.B.m ≤ 4294967295) (w : World) : Gives 54 k w (([]) ++ b4 (mW [247] k.A (0)) k.B.m) := by
 have hB := Lib.hid hm
 have hM := Lib.hid (fun W => mod_one W (show 0 ≤ (247 : Int) ∧ (247 : Int) ≤ 255 by decide) hX (show 0 ≤ (0 : Int) ∧ (0 : Int) < 8 by decide))
 have hG := Lib.hid (fun W => reg_ref 0 W)
 go_enter Tryd.func54, Tryd.ntmps54
 go_upto_region 1 with fail
 refine open_S rfl (fun _ _ _ _ _ h => h) (Blk.new _ _ _) (fun W pa pb F b na nb => ?_)
 have b0 : Below w.heap.size w W := bel1 (Below.refl _ _) (Nat.le_refl _) b
 have c0 := F.i.cell (i := 0) (v := .int .i64 k.op) rfl
 rw [ho] at c0
 have cB0 := F.b.cell (i := 0) (v := .int .i64 k.B.k) rfl
 have bW0 := Below.refl W.heap.size W
 have pa_lt := F.a.lt
 have pb_lt := F.b.lt
 go_upto_region 19 with fail
 refine wp_region_held_drew (S := fun V => Blk V pa 24 (op6 k.A)) (by kernel_rfl) F.a.drew (fun hH => ?_)
 have bD := (Below.refl W.heap.size W).drew
 generalize W.drew = D at *
 refine tk 0 (opV k.A) ?_ hH ?_
 ·intro W hS
  exact run_load_row (by rfl) (by rfl) 24 _ (0, 0) _ hS.h Tryd.underlying24 rfl (szOp k.A)
 simp only [pS]
 refine rd 1 (fun K hK => ?_)
 go_simp
 with_reducible refine (hG.out _).mono ?_
 rintro e G ⟨rfl, xg⟩
 have hH1 := hH.below xg hH.lt
 refine hK.out _ _ hH1 (fun _ => ?_)
 clear hK K
 try simp only [pS]
 refine tk 2 (.bool false) ?_ hH1 ?_
 ·intro W hS
  go_simp
  exact R0_not h0
 simp only [pS]
 refine wpAnyH_done (by kernel_rfl) ?_ _
 have bW : Below W.heap.size W G := bD.trans (xg.mono bD.size)
 have F0 := F.below bW
 go_upto_region 21 with fail
 have k1 : Blk G.drew pa 24 (op6 k.A) ∧ Blk G.drew pb 24 (op6 k.B) := ⟨F0.a.drew, F0.b.drew⟩
 refine wp_region_held_drew (S := fun V => Blk V pa 24 (op6 k.A) ∧ Blk V pb 24 (op6 k.B)) (by kernel_rfl) k1 (fun hH1 => ?_)
 clear k1
 have d1 := (Below.refl G.heap.size G).drew
 have hsz1 : G.heap.size = G.drew.heap.size := rfl
 generalize G.drew = D1 at *
 refine tk 0 ?_ ?_ hH1 ?_
 rotate_left
 ·intro W hS
  go_simp
  try rfl
 simp only [pT]
 refine tk 2 (opV k.A) ?_ hH1 ?_
 ·intro W hS
  exact run_load_row (by rfl) (by rfl) 24 _ (0, 0) _ hS.1.h Tryd.underlying24 rfl (szOp k.A)
 simp only [pS]
 refine tk 4 ?_ ?_ hH1 ?_
 rotate_left
 ·intro W hS
  go_simp
  try rfl
 simp only [pT]
 refine tk 5 ?_ ?_ hH1 ?_
 rotate_left
 ·intro W hS
  have c2 := hS.2.cell (i := 2) (v := .int .u32 k.B.m) rfl
  go_simp
  try rfl
 simp only [pT]
 refine rd 1 (fun K hK => ?_)
 go_simp
 have hA1 := And.intro (hH1.1.alloc (arr1 (247))) (hH1.2.alloc (arr1 (247)))
 refine hK.out _ _ hA1 (fun _ => ?_)
 clear hK K
 try simp only [pT]
 refine rd 3 (fun K hK => ?_)
 go_simp
 with_reducible refine (hM.out _).mono ?_
 rintro e u1 ⟨p1, vs1, rfl, R1, x1⟩
 have hB1 := And.intro (hH1.1.below x1 hH1.1.lt) (hH1.2.below x1 hH1.2.lt)
 refine hK.out _ _ hB1 (fun _ => ?_)
 clear hK K
 try simp only [pS]
 refine rd 6 (fun K hK => ?_)
 go_simp
 with_reducible refine (behind_four _ _ _ _ k.B.m hB.out _ R1 x1.size (fun y hy => mW_short hX (show 0 ≤ (0 : Int) ∧ (0 : Int) < 8 by decide) y hy) (by have := mW_len [247] k.A (0); omega)).mono ?_
 rintro e t1 ⟨rfl, ⟨us1, S1⟩, y1⟩
 have y1' := (Below.mono y1 (Nat.le_refl _))
 have hC1 := And.intro (hB1.1.below y1 hH1.1.lt) (hB1.2.below y1 hH1.2.lt)
 refine hK.out _ _ hC1 (fun _ => ?_)
 clear hK K
 try simp only [pS]
 refine rd 7 (fun K hK => ?_)
 rw [if_pos (by kernel_rfl)]
 refine append_lsK _ _ rfl W.heap.size _ (.slice none 0 0) _ ([]) _ us1 rfl (LL.nil _ _) (Nat.le_trans bW.size (Nat.le_trans (Nat.le_of_eq hsz1) (Nat.le_trans x1.size y1.size))) rfl S1 (fun k hk => by cases hk) (by simp [b4, mW_ne hX]) (by have := mW_len [247] k.A (0); simp [b4]; omega) (fun v1 w1 L1 g1 => ?_)
 have hE1 := And.intro ((hC1.1).below (g1.mono (Nat.le_refl _)) pa_lt) ((hC1.2).below g1 pb_lt)
 refine hK.out _ _ hE1 (fun _ => ?_)
 clear hK K
 try simp only [pT]
 refine tk 8 ?_ ?_ hE1 ?_
 rotate_left
 ·intro W hS
  go_simp
  try rfl
 simp only [pT]
 refine wpAnyH_done (by kernel_rfl) ?_ _
 have x1' : Below G.heap.size G t1 := ((d1.trans (x1.mono (Nat.le_of_eq hsz1))).trans (y1.mono (Nat.le_of_eq hsz1)))
 replace x1 := x1'
 have z1 : Below W.heap.size W w1 := (bW.trans (x1.mono bW.size)).trans g1
 have F1 := F.below z1
 go_wp2_with fail
 go_ret
 exact ⟨v1, rfl, by simpa using L1.base b0.size, b0.trans (z1.mono b0.size)⟩
theorem sm_27 (k : In) (ho : k.op = 27) (hX : RMb k.A) (hr : 0 ≤ k.B.r ∧ k.B.r < 8) (w : World) : Gives 54 k w (mW [135] k.A (k.B.r)) := by
 have hM := Lib.hid (fun W => mod_one W (show 0 ≤ (135 : Int) ∧ (135 : Int) ≤ 255 by decide) hX hr)
 go_enter Tryd.func54, Tryd.ntmps54
 go_upto_region 1 with fail
 refine open_S rfl (fun _ _ _ _ _ h => h) (Blk.new _ _ _) (fun W pa pb F b na nb => ?_)
 have b0 : Below w.heap.size w W := bel1 (Below.refl _ _) (Nat.le_refl _) b
 have c0 := F.i.cell (i := 0) (v := .int .i64 k.op) rfl
 rw [ho] at c0
 go_upto_region 23 with fail
 have cr := (F.b.alloc (arr1 (135))).cell (i := 1) (v := .int .i64 k.B.r) rfl
 go_wp2_with (first | (with_reducible refine load_opR rfl _ rfl pa (op6 k.A) rfl (F.a.alloc _) rfl ?_) | ((with_reducible refine (hM.out _).mono ?_); rintro e w2 ⟨v1, vs1, rfl, R1, b1⟩))
 go_ret
 exact ⟨_, rfl, R1.ll.base b0.size, b0.trans (b1.mono b0.size)⟩
theorem sm_26 (k : In) (ho : k.op = 26) (hX : RMb k.B) (hr : 0 ≤ k.A.r ∧ k.A.r < 8) (w : World) : Gives 54 k w (mW [141] k.B (k.A.r)) := by
 have hM := Lib.hid (fun W => mod_one W (show 0 ≤ (141 : Int) ∧ (141 : Int) ≤ 255 by decide) hX hr)
 go_enter Tryd.func54, Tryd.ntmps54
 go_upto_region 1 with fail
 refine open_S rfl (fun _ _ _ _ _ h => h) (Blk.new _ _ _) (fun W pa pb F b na nb => ?_)
 have b0 : Below w.heap.size w W := bel1 (Below.refl _ _) (Nat.le_refl _) b
 have c0 := F.i.cell (i := 0) (v := .int .i64 k.op) rfl
 rw [ho] at c0
 go_upto_region 25 with fail
 have cr := (F.a.alloc (arr1 (141))).cell (i := 1) (v := .int .i64 k.A.r) rfl
 go_wp2_with (first | (with_reducible refine load_opR rfl _ rfl pb (op6 k.B) rfl (F.b.alloc _) rfl ?_) | ((with_reducible refine (hM.out _).mono ?_); rintro e w2 ⟨v1, vs1, rfl, R1, b1⟩))
 go_ret
 exact ⟨_, rfl, R1.ll.base b0.size, b0.trans (b1.mono b0.size)⟩
theorem sir_12 (k : In) (ho : k.op = 12) (ha : (k.A.k == 1) = true) (hX : RMb k.A) (hr : k.A.k = 1 → 0 ≤ k.A.r ∧ k.A.r < 8) (w : World) : Gives 54 k w (([] ++ [[64 + k.A.r]]) ++ mW [255] k.A (0)) := by
 have hM := Lib.hid (fun W => mod_one W (show 0 ≤ (255 : Int) ∧ (255 : Int) ≤ 255 by decide) hX (show 0 ≤ (0 : Int) ∧ (0 : Int) < 8 by decide))
 have hr1 := hr (by simpa using ha)
 have hb1 : 0 ≤ 64 + k.A.r ∧ 64 + k.A.r ≤ 255 := by omega
 have hw0 : IntKind.i64.wrap (64 + k.A.r) = 64 + k.A.r := by rw [IntKind.wrap_i64]; omega
 have hw1 : IntKind.u8.wrap (64 + k.A.r) = 64 + k.A.r := by rw [IntKind.wrap_u8]; omega
 go_enter Tryd.func54, Tryd.ntmps54
 go_upto_region 1 with fail
 refine open_S rfl (fun _ _ _ _ _ h => h) (Blk.new _ _ _) (fun W pa pb F b na nb => ?_)
 have b0 : Below w.heap.size w W := bel1 (Below.refl _ _) (Nat.le_refl _) b
 have c0 := F.i.cell (i := 0) (v := .int .i64 k.op) rfl
 rw [ho] at c0
 have cA0 := F.a.cell (i := 0) (v := .int .i64 k.A.k) rfl
 have bW := Below.refl W.heap.size W
 have pa_lt := F.a.lt
 have pb_lt := F.b.lt
 go_upto_region 30 with fail
 have cr := F.a.cell (i := 1) (v := .int .i64 k.A.r) rfl
 go_upto_region 31 with (first | (at_builtin; refine append_one rfl _ _ rfl W.heap.size (.slice none 0 0) ([]) rfl (LL.nil _ _) (Nat.le_trans bW.size (by simp)) (own_one W hb1) (fun k hk => by cases hk) (by rw [World.size_alloc]; rfl) (by simp) ?_; intro v1 w1 L1 g1))
 have x1 := (Below.refl W.heap.size W).alloc (Nat.le_refl _) (arr1 (64 + k.A.r))
 have z1 : Below W.heap.size W w1 := (bW.trans (x1.mono bW.size)).trans g1
 have F1 := F.below z1
 go_wp2_with (first | (with_reducible refine load_opR rfl _ rfl pa (op6 k.A) rfl (F1.a.alloc _) rfl ?_) | ((with_reducible refine (hM.out _).mono ?_); rintro e u2 ⟨p2, vs2, rfl, R2, x2⟩; have x2' : Below w1.heap.size w1 u2 := x2) | (at_builtin; refine append_ls rfl _ _ rfl W.heap.size _ v1 _ ([] ++ [[64 + k.A.r]]) _ vs2 rfl (L1.below x2') (Nat.le_trans z1.size x2.size) rfl R2 (fun k hk => (L1.lt hk).2) (mW_ne hX _ _) (by have := mW_len [255] k.A (0); simp; omega) ?_; intro v2 w2 L2 g2))
 have z2 : Below W.heap.size W w2 := (z1.trans (x2.mono z1.size)).trans g2
 have F2 := F.below z2
 go_ret
 exact ⟨v2, rfl, by simpa using L2.base b0.size, b0.trans (z2.mono b0.size)⟩
theorem sim_12 (k : In) (ho : k.op = 12) (ha : (k.A.k == 1) = false) (hX : RMb k.A) (hr : k.A.k = 1 → 0 ≤ k.A.r ∧ k.A.r < 8) (w : World) : Gives 54 k w (([]) ++ mW [255] k.A (0)) := by
 have hM := Lib.hid (fun W => mod_one W (show 0 ≤ (255 : Int) ∧ (255 : Int) ≤ 255 by decide) hX (show 0 ≤ (0 : Int) ∧ (0 : Int) < 8 by decide))
 go_enter Tryd.func54, Tryd.ntmps54
 go_upto_region 1 with fail
 refine open_S rfl (fun _ _ _ _ _ h => h) (Blk.new _ _ _) (fun W pa pb F b na nb => ?_)
 have b0 : Below w.heap.size w W := bel1 (Below.refl _ _) (Nat.le_refl _) b
 have c0 := F.i.cell (i := 0) (v := .int .i64 k.op) rfl
 rw [ho] at c0
 have cA0 := F.a.cell (i := 0) (v := .int .i64 k.A.k) rfl
 have bW := Below.refl W.heap.size W
 have pa_lt := F.a.lt
 have pb_lt := F.b.lt
 go_upto_region 31 with fail
 go_wp2_with (first | (with_reducible refine load_opR rfl _ rfl pa (op6 k.A) rfl (F.a.alloc _) rfl ?_) | ((with_reducible refine (hM.out _).mono ?_); rintro e u1 ⟨p1, vs1, rfl, R1, x1⟩; have x1' : Below W.heap.size W u1 := x1) | (at_builtin; refine append_ls rfl _ _ rfl W.heap.size _ (.slice none 0 0) _ ([]) _ vs1 rfl (LL.nil _ _) (Nat.le_trans bW.size x1.size) rfl R1 (fun k hk => by cases hk) (mW_ne hX _ _) (by have := mW_len [255] k.A (0); simp; omega) ?_; intro v1 w1 L1 g1))
 have z1 : Below W.heap.size W w1 := (bW.trans (x1.mono bW.size)).trans g1
 have F1 := F.below z1
 go_ret
 exact ⟨v1, rfl, by simpa using L1.base b0.size, b0.trans (z1.mono b0.size)⟩
theorem sir_13 (k : In) (ho : k.op = 13) (ha : (k.A.k == 1) = true) (hX : RMb k.A) (hr : k.A.k = 1 → 0 ≤ k.A.r ∧ k.A.r < 8) (w : World) : Gives 54 k w (([] ++ [[72 + k.A.r]]) ++ mW [255] k.A (1)) := by
 have hM := Lib.hid (fun W => mod_one W (show 0 ≤ (255 : Int) ∧ (255 : Int) ≤ 255 by decide) hX (show 0 ≤ (1 : Int) ∧ (1 : Int) < 8 by decide))
 have hr1 := hr (by simpa using ha)
 have hb1 : 0 ≤ 72 + k.A.r ∧ 72 + k.A.r ≤ 255 := by omega
 have hw0 : IntKind.i64.wrap (72 + k.A.r) = 72 + k.A.r := by rw [IntKind.wrap_i64]; omega
 have hw1 : IntKind.u8.wrap (72 + k.A.r) = 72 + k.A.r := by rw [IntKind.wrap_u8]; omega
 go_enter Tryd.func54, Tryd.ntmps54
 go_upto_region 1 with fail
 refine open_S rfl (fun _ _ _ _ _ h => h) (Blk.new _ _ _) (fun W pa pb F b na nb => ?_)
 have b0 : Below w.heap.size w W := bel1 (Below.refl _ _) (Nat.le_refl _) b
 have c0 := F.i.cell (i := 0) (v := .int .i64 k.op) rfl
 rw [ho] at c0
 have cA0 := F.a.cell (i := 0) (v := .int .i64 k.A.k) rfl
 have bW := Below.refl W.heap.size W
 have pa_lt := F.a.lt
 have pb_lt := F.b.lt
 go_upto_region 30 with fail
 have cr := F.a.cell (i := 1) (v := .int .i64 k.A.r) rfl
 go_upto_region 31 with (first | (at_builtin; refine append_one rfl _ _ rfl W.heap.size (.slice none 0 0) ([]) rfl (LL.nil _ _) (Nat.le_trans bW.size (by simp)) (own_one W hb1) (fun k hk => by cases hk) (by rw [World.size_alloc]; rfl) (by simp) ?_; intro v1 w1 L1 g1))
 have x1 := (Below.refl W.heap.size W).alloc (Nat.le_refl _) (arr1 (72 + k.A.r))
 have z1 : Below W.heap.size W w1 := (bW.trans (x1.mono bW.size)).trans g1
 have F1 := F.below z1
 go_wp2_with (first | (with_reducible refine load_opR rfl _ rfl pa (op6 k.A) rfl (F1.a.alloc _) rfl ?_) | ((with_reducible refine (hM.out _).mono ?_); rintro e u2 ⟨p2, vs2, rfl, R2, x2⟩; have x2' : Below w1.heap.size w1 u2 := x2) | (at_builtin; refine append_ls rfl _ _ rfl W.heap.size _ v1 _ ([] ++ [[72 + k.A.r]]) _ vs2 rfl (L1.below x2') (Nat.le_trans z1.size x2.size) rfl R2 (fun k hk => (L1.lt hk).2) (mW_ne hX _ _) (by have := mW_len [255] k.A (1); simp; omega) ?_; intro v2 w2 L2 g2))
 have z2 : Below W.heap.size W w2 := (z1.trans (x2.mono z1.size)).trans g2
 have F2 := F.below z2
 go_ret
 exact ⟨v2, rfl, by simpa using L2.base b0.size, b0.trans (z2.mono b0.size)⟩
theorem sim_13 (k : In) (ho : k.op = 13) (ha : (k.A.k == 1) = false) (hX : RMb k.A) (hr : k.A.k = 1 → 0 ≤ k.A.r ∧ k.A.r < 8) (w : World) : Gives 54 k w (([]) ++ mW [255] k.A (1)) := by
 have hM := Lib.hid (fun W => mod_one W (show 0 ≤ (255 : Int) ∧ (255 : Int) ≤ 255 by decide) hX (show 0 ≤ (1 : Int) ∧ (1 : Int) < 8 by decide))
 go_enter Tryd.func54, Tryd.ntmps54
 go_upto_region 1 with fail
 refine open_S rfl (fun _ _ _ _ _ h => h) (Blk.new _ _ _) (fun W pa pb F b na nb => ?_)
 have b0 : Below w.heap.size w W := bel1 (Below.refl _ _) (Nat.le_refl _) b
 have c0 := F.i.cell (i := 0) (v := .int .i64 k.op) rfl
 rw [ho] at c0
 have cA0 := F.a.cell (i := 0) (v := .int .i64 k.A.k) rfl
 have bW := Below.refl W.heap.size W
 have pa_lt := F.a.lt
 have pb_lt := F.b.lt
 go_upto_region 31 with fail
 go_wp2_with (first | (with_reducible refine load_opR rfl _ rfl pa (op6 k.A) rfl (F.a.alloc _) rfl ?_) | ((with_reducible refine (hM.out _).mono ?_); rintro e u1 ⟨p1, vs1, rfl, R1, x1⟩; have x1' : Below W.heap.size W u1 := x1) | (at_builtin; refine append_ls rfl _ _ rfl W.heap.size _ (.slice none 0 0) _ ([]) _ vs1 rfl (LL.nil _ _) (Nat.le_trans bW.size x1.size) rfl R1 (fun k hk => by cases hk) (mW_ne hX _ _) (by have := mW_len [255] k.A (1); simp; omega) ?_; intro v1 w1 L1 g1))
 have z1 : Below W.heap.size W w1 := (bW.trans (x1.mono bW.size)).trans g1
 have F1 := F.below z1
 go_ret
 exact ⟨v1, rfl, by simpa using L1.base b0.size, b0.trans (z1.mono b0.size)⟩
theorem spt_28 (k : In) (ho : k.op = 28) (hk : (k.A.k == 2) = true) (hf : fitI k.A.m = true) (hm : 0 ≤ k.A.m ∧ k.A.m ≤ 4294967295) (w : World) : Gives 54 k w (([] ++ [[106, k.A.m % 256]]) ++ [[104] ++ wB k.A.m]) := by
 have hP := Lib.hid (fun W => put_one W (show 0 ≤ (104 : Int) ∧ (104 : Int) ≤ 255 by decide) hm)
 have hF := Lib.hid (fun W => fits_any k.A.m hm W)
 rw [hf] at hF
 have hz : 0 ≤ k.A.m % 256 ∧ k.A.m % 256 ≤ 255 := by omega
 go_enter Tryd.func54, Tryd.ntmps54
 go_upto_region 1 with fail
 refine open_S rfl (fun _ _ _ _ _ h => h) (Blk.new _ _ _) (fun W pa pb F b na nb => ?_)
 have b0 : Below w.heap.size w W := bel1 (Below.refl _ _) (Nat.le_refl _) b
 have c0 := F.i.cell (i := 0) (v := .int .i64 k.op) rfl
 rw [ho] at c0
 have cA0 := F.a.cell (i := 0) (v := .int .i64 k.A.k) rfl
 have bW := Below.refl W.heap.size W
 have pa_lt := F.a.lt
 have pb_lt := F.b.lt
 go_upto_region 34 with fail
 have cm := F.a.cell (i := 2) (v := .int .u32 k.A.m) rfl
 go_upto_region 35 with (first | ((with_reducible refine (hF.out _).mono ?_); rintro e w1 ⟨rfl, rfl⟩))
 go_upto_region 36 with (first | (at_builtin; refine append_one rfl _ _ rfl W.heap.size (.slice none 0 0) ([]) rfl (LL.nil _ _) (Nat.le_trans bW.size (by simp)) (own_two W (show 0 ≤ (106 : Int) ∧ (106 : Int) ≤ 255 by decide) hz) (fun k hk => by cases hk) (by rw [World.size_alloc]; rfl) (by simp) ?_; intro v1 w1 L1 g1))
 have x1 := (Below.refl W.heap.size W).alloc (Nat.le_refl _) (arr2 (106) (k.A.m % 256))
 have z1 : Below W.heap.size W w1 := (bW.trans (x1.mono bW.size)).trans g1
 have F1 := F.below z1
 have cm2 := (F1.a.alloc (arr1 (104))).cell (i := 2) (v := .int .u32 k.A.m) rfl
 go_wp2_with (first | ((with_reducible refine (hP.out _).mono ?_); rintro e u2 ⟨p2, rfl, O2, x2⟩; obtain ⟨a2, q2, e2, -⟩ := id O2.ba; generalize List.length _ = l2 at e2; subst e2; have x2' : Below w1.heap.size w1 u2 := x2) | (at_builtin; refine append_one rfl _ _ rfl W.heap.size v1 ([] ++ [[106, k.A.m % 256]]) rfl (L1.below x2') (Nat.le_trans z1.size x2.size) O2 (fun k hk => (L1.lt hk).2) rfl (by simp) ?_; intro v2 w2 L2 g2))
 have z2 : Below W.heap.size W w2 := (z1.trans (x2.mono z1.size)).trans g2
 have F2 := F.below z2
 go_ret
 exact ⟨v2, rfl, by simpa using L2.base b0.size, b0.trans (z2.mono b0.size)⟩
theorem spf_28 (k : In) (ho : k.op = 28) (hk : (k.A.k == 2) = true) (hf : fitI k.A.m = false) (hm : 0 ≤ k.A.m ∧ k.A.m ≤ 4294967295) (w : World) : Gives 54 k w (([]) ++ [[104] ++ wB k.A.m]) := by
 have hP := Lib.hid (fun W => put_one W (show 0 ≤ (104 : Int) ∧ (104 : Int) ≤ 255 by decide) hm)
 have hF := Lib.hid (fun W => fits_any k.A.m hm W)
 rw [hf] at hF
 have hz : 0 ≤ k.A.m % 256 ∧ k.A.m % 256 ≤ 255 := by omega
 go_enter Tryd.func54, Tryd.ntmps54
 go_upto_region 1 with fail
 refine open_S rfl (fun _ _ _ _ _ h => h) (Blk.new _ _ _) (fun W pa pb F b na nb => ?_)
 have b0 : Below w.heap.size w W := bel1 (Below.refl _ _) (Nat.le_refl _) b
 have c0 := F.i.cell (i := 0) (v := .int .i64 k.op) rfl
 rw [ho] at c0
 have cA0 := F.a.cell (i := 0) (v := .int .i64 k.A.k) rfl
 have bW := Below.refl W.heap.size W
 have pa_lt := F.a.lt
 have pb_lt := F.b.lt
 go_upto_region 34 with fail
 have cm := F.a.cell (i := 2) (v := .int .u32 k.A.m) rfl
 go_upto_region 36 with (first | ((with_reducible refine (hF.out _).mono ?_); rintro e w1 ⟨rfl, rfl⟩))
 have cm1 := (F.a.alloc (arr1 (104))).cell (i := 2) (v := .int .u32 k.A.m) rfl
 go_wp2_with (first | ((with_reducible refine (hP.out _).mono ?_); rintro e u1 ⟨p1, rfl, O1, x1⟩; obtain ⟨a1, q1, e1, -⟩ := id O1.ba; generalize List.length _ = l1 at e1; subst e1; have x1' : Below W.heap.size W u1 := x1) | (at_builtin; refine append_one rfl _ _ rfl W.heap.size (.slice none 0 0) ([]) rfl (LL.nil _ _) (Nat.le_trans bW.size x1.size) O1 (fun k hk => by cases hk) rfl (by simp) ?_; intro v1 w1 L1 g1))
 have z1 : Below W.heap.size W w1 := (bW.trans (x1.mono bW.size)).trans g1
 have F1 := F.below z1
 go_ret
 exact ⟨v1, rfl, by simpa using L1.base b0.size, b0.trans (z1.mono b0.size)⟩
theorem spr_28 (k : In) (ho : k.op = 28) (hk : (k.A.k == 2) = false) (ha : (k.A.k == 1) = true) (hX : RMb k.A) (hr : k.A.k = 1 → 0 ≤ k.A.r ∧ k.A.r < 8) (w : World) : Gives 54 k w (([] ++ [[80 + k.A.r]]) ++ mW [255] k.A (6)) := by
 have hM := Lib.hid (fun W => mod_one W (show 0 ≤ (255 : Int) ∧ (255 : Int) ≤ 255 by decide) hX (show 0 ≤ (6 : Int) ∧ (6 : Int) < 8 by decide))
 have hr1 := hr (by simpa using ha)
 have hb1 : 0 ≤ 80 + k.A.r ∧ 80 + k.A.r ≤ 255 := by omega
 have hw0 : IntKind.i64.wrap (80 + k.A.r) = 80 + k.A.r := by rw [IntKind.wrap_i64]; omega
 have hw1 : IntKind.u8.wrap (80 + k.A.r) = 80 + k.A.r := by rw [IntKind.wrap_u8]; omega
 go_enter Tryd.func54, Tryd.ntmps54
 go_upto_region 1 with fail
 refine open_S rfl (fun _ _ _ _ _ h => h) (Blk.new _ _ _) (fun W pa pb F b na nb => ?_)
 have b0 : Below w.heap.size w W := bel1 (Below.refl _ _) (Nat.le_refl _) b
 have c0 := F.i.cell (i := 0) (v := .int .i64 k.op) rfl
 rw [ho] at c0
 have cA0 := F.a.cell (i := 0) (v := .int .i64 k.A.k) rfl
 have bW := Below.refl W.heap.size W
 have pa_lt := F.a.lt
 have pb_lt := F.b.lt
 go_upto_region 38 with fail
 have cr := F.a.cell (i := 1) (v := .int .i64 k.A.r) rfl
 go_upto_region 39 with (first | (at_builtin; refine append_one rfl _ _ rfl W.heap.size (.slice none 0 0) ([]) rfl (LL.nil _ _) (Nat.le_trans bW.size (by simp)) (own_one W hb1) (fun k hk => by cases hk) (by rw [World.size_alloc]; rfl) (by simp) ?_; intro v1 w1 L1 g1))
 have x1 := (Below.refl W.heap.size W).alloc (Nat.le_refl _) (arr1 (80 + k.A.r))
 have z1 : Below W.heap.size W w1 := (bW.trans (x1.mono bW.size)).trans g1
 have F1 := F.below z1
 go_wp2_with (first | (with_reducible refine load_opR rfl _ rfl pa (op6 k.A) rfl (F1.a.alloc _) rfl ?_) | ((with_reducible refine (hM.out _).mono ?_); rintro e u2 ⟨p2, vs2, rfl, R2, x2⟩; have x2' : Below w1.heap.size w1 u2 := x2) | (at_builtin; refine append_ls rfl _ _ rfl W.heap.size _ v1 _ ([] ++ [[80 + k.A.r]]) _ vs2 rfl (L1.below x2') (Nat.le_trans z1.size x2.size) rfl R2 (fun k hk => (L1.lt hk).2) (mW_ne hX _ _) (by have := mW_len [255] k.A (6); simp; omega) ?_; intro v2 w2 L2 g2))
 have z2 : Below W.heap.size W w2 := (z1.trans (x2.mono z1.size)).trans g2
 have F2 := F.below z2
 go_ret
 exact ⟨v2, rfl, by simpa using L2.base b0.size, b0.trans (z2.mono b0.size)⟩
theorem spm_28 (k : In) (ho : k.op = 28) (hk : (k.A.k == 2) = false) (ha : (k.A.k == 1) = false) (hX : RMb k.A) (hr : k.A.k = 1 → 0 ≤ k.A.r ∧ k.A.r < 8) (w : World) : Gives 54 k w (([]) ++ mW [255] k.A (6)) := by
 have hM := Lib.hid (fun W => mod_one W (show 0 ≤ (255 : Int) ∧ (255 : Int) ≤ 255 by decide) hX (show 0 ≤ (6 : Int) ∧ (6 : Int) < 8 by decide))
 go_enter Tryd.func54, Tryd.ntmps54
 go_upto_region 1 with fail
 refine open_S rfl (fun _ _ _ _ _ h => h) (Blk.new _ _ _) (fun W pa pb F b na nb => ?_)
 have b0 : Below w.heap.size w W := bel1 (Below.refl _ _) (Nat.le_refl _) b
 have c0 := F.i.cell (i := 0) (v := .int .i64 k.op) rfl
 rw [ho] at c0
 have cA0 := F.a.cell (i := 0) (v := .int .i64 k.A.k) rfl
 have bW := Below.refl W.heap.size W
 have pa_lt := F.a.lt
 have pb_lt := F.b.lt
 go_upto_region 39 with fail
 go_wp2_with (first | (with_reducible refine load_opR rfl _ rfl pa (op6 k.A) rfl (F.a.alloc _) rfl ?_) | ((with_reducible refine (hM.out _).mono ?_); rintro e u1 ⟨p1, vs1, rfl, R1, x1⟩; have x1' : Below W.heap.size W u1 := x1) | (at_builtin; refine append_ls rfl _ _ rfl W.heap.size _ (.slice none 0 0) _ ([]) _ vs1 rfl (LL.nil _ _) (Nat.le_trans bW.size x1.size) rfl R1 (fun k hk => by cases hk) (mW_ne hX _ _) (by have := mW_len [255] k.A (6); simp; omega) ?_; intro v1 w1 L1 g1))
 have z1 : Below W.heap.size W w1 := (bW.trans (x1.mono bW.size)).trans g1
 have F1 := F.below z1
 go_ret
 exact ⟨v1, rfl, by simpa using L1.base b0.size, b0.trans (z1.mono b0.size)⟩
theorem sj (k : In) (L : List (List Int)) (hJ : ∀ w, Gives 74 k w L) (n1 : (k.op == 1) = false) (n2 : (k.op == 2) = false) (n11 : (k.op == 11) = false) (n27 : (k.op == 27) = false) (n26 : (k.op == 26) = false) (n12 : (k.op == 12) = false) (n13 : (k.op == 13) = false) (n28 : (k.op == 28) = false) (w : World) : Gives 54 k w L := by
 have hj := Lib.hid hJ
 clear hJ
 go_enter Tryd.func54, Tryd.ntmps54
 go_upto_region 1 with fail
 refine open_S rfl (fun _ _ _ _ _ h => h) (Blk.new _ _ _) (fun W pa pb F b na nb => ?_)
 have b0 : Below w.heap.size w W := bel1 (Below.refl _ _) (Nat.le_refl _) b
 have c0 := F.i.cell (i := 0) (v := .int .i64 k.op) rfl
 have bW := Below.refl W.heap.size W
 have pa_lt := F.a.lt
 have pb_lt := F.b.lt
 go_upto_region 40 with fail
 go_wp2_with (first | (with_reducible refine load_inR rfl _ rfl w.heap.size (in16 k) rfl F.i (in16_size _) ?_) | ((with_reducible refine (hj.out _).mono ?_); rintro e w1 ⟨v1, rfl, L1, x1⟩))
 go_ret
 exact ⟨v1, rfl, L1.base b0.size, b0.trans (x1.mono b0.size)⟩
end Go.Proofs.YtcgleggdochbeaaDoor
