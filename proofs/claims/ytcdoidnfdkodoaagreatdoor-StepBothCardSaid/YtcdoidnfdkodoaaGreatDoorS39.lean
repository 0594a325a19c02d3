import Derived.Test.YtcdoidnfdkodoaaGreatDoorS11
import Derived.Test.YtcdoidnfdkodoaaGreatDoorS14
import Derived.Deep.RegionHeld
import Derived.Test.YtcdoidnfdkodoaaGreatDoorS16
namespace Go.Proofs.YtcdoidnfdkodoaaGreatDoor
open Go.RowKit
set_option linter.unusedVariables false
set_option linter.unusedSimpArgs false
set_option linter.unusedSectionVars false
set_option maxRecDepth 20000 in
set_option maxHeartbeats 2000000 in
theorem oWrite_no {B : Nat} {m : Mm} {w : World} (h : PAt w B m) (g : Gs) (o : On) (n v : Int) (a t : Int) (hr : ∀ W, PAt W B m → Calls Tryz.prog 227 #[mp B, stV g, opV o, .int .i64 (numO n), .int .u32 v] W fun e w' => e = .panicked (fltP a t) ∧ Below W.heap.size W w') : Calls Tryz.prog 196 #[mp B, stV g, opV o, .int .i64 n, .int .u32 v] w fun e w' => e = .returned (.tuple #[.agg (stA g), fltV 1 0 a t, .bool false]) ∧ Below w.heap.size w w' := by
  have hmf : ∀ (fn : Fn) (first cap : Array Value) (w : World), (Instr.makeFunc fn first cap).run Tryz.prog w = .ok (.func fn first cap) w := fun _ _ _ _ => rfl
  obtain ⟨w5, e5, h5, hbx, k5, k6, b5, s5⟩ := wbx_new h g o n v
  have hR := Lib.hid hr
  have hBl := h.lt
  clear hr
  have E5 := Lib.hid e5
  go_enter Tryz.func196, Tryz.ntmps196
  go_upto_region 1 with fail
  have e5' := E5.out
  rw [show (((((((w.alloc (.cells #[mp B] 35)).alloc (.cells (stA g) 29)).alloc (.cells (op6 o) 31)).alloc (.cells #[.int .i64 n] 3)).alloc (.cells #[.int .u32 v] 23)).alloc (.cells z17 29)).alloc (.cells f0A 42)) = w5 from e5'.symm]
  clear e5' E5 e5
  have kS5 := hbx.s
  have hw := Lib.hid (show w5.heap.size = (w.heap.size + 1 + 1 + 1 + 1 + 1 + 1 + 1) from s5)
  clear s5
  go_upto_region 2 with (first | (with_reducible refine load_st rfl _ rfl (w.heap.size + 1) (stA g) rfl kS5 rfl ?_))
  have k7 := Blk.new w5 29 (stA g)
  rw [hw.out] at k7 ⊢
  have s5 : w5.heap.size = w.heap.size + 7 := hw.out
  replace h5 := h5.alloc (.cells (stA g) 29)
  replace hbx := hbx.but (But.of ((Below.refl w5.heap.size w5).alloc (Nat.le_refl _) (.cells (stA g) 29)) []) (OffW.nil ..)
  replace k5 := k5.alloc (.cells (stA g) 29)
  replace k6 := k6.alloc (.cells (stA g) 29)
  replace b5 := b5.alloc b5.size (.cells (stA g) 29)
  have s8 : (w5.alloc (.cells (stA g) 29)).heap.size = w.heap.size + 8 := by simp; omega
  clear kS5 hw s5
  have s5 := s8
  clear s8
  generalize w5.alloc (.cells (stA g) 29) = w9 at *
  clear w5
  generalize w9 = w5 at *
  go_wp2_with fail
  refine (otriedW_no _ 1 0 a t (fun W hW => owrite1_no (h5.below hW h5.lt) (hbx.but (But.of hW []) (OffW.nil ..)) a t hR.out)).mono ?_
  rintro e w6 ⟨rfl, r6⟩
  have r6' := But.of r6 [w.heap.size + 1 + 1 + 1 + 1 + 1 + 1 + 1]
  replace k5 := k5.below r6 k5.lt
  replace k6 := k6.below r6 k6.lt
  replace k7 := k7.below r6 k7.lt
  have z5 := k5.lt
  have z6 := k6.lt
  have z7 := k7.lt
  have kF := Blk.new w6 42 #[.int .i64 1, .int .u32 0, .int .u32 a, .int .i64 t]
  replace k5 := k5.alloc (.cells #[.int .i64 1, .int .u32 0, .int .u32 a, .int .i64 t] 42)
  replace k6 := k6.alloc (.cells #[.int .i64 1, .int .u32 0, .int .u32 a, .int .i64 t] 42)
  replace k7 := k7.alloc (.cells #[.int .i64 1, .int .u32 0, .int .u32 a, .int .i64 t] 42)
  have rz := ((But.of b5 [w.heap.size + 1 + 1 + 1 + 1 + 1 + 1 + 1]).trans (r6'.mono (S' := [w.heap.size + 1 + 1 + 1 + 1 + 1 + 1 + 1]) (by omega) (fun k hk => .inl hk))).alloc (by have := r6'.size; omega) (.cells #[.int .i64 1, .int .u32 0, .int .u32 a, .int .i64 t] 42)
  clear hmf hbx hR r6'
  go_wp2_with fail
  generalize w6.alloc (.cells #[.int .i64 1, .int .u32 0, .int .u32 a, .int .i64 t] 42) = w7 at *
  refine wp_region_held_drew (S := fun V => Blk V (w.heap.size + 1 + 1 + 1 + 1 + 1 + 1 + 1) 29 (stA g) ∧ Blk V w6.heap.size 42 #[.int .i64 1, .int .u32 0, .int .u32 a, .int .i64 t]) (by kernel_rfl) ⟨k7.drew, kF.drew⟩ (fun hH => ?_)
  replace k5 := k5.drew
  replace k6 := k6.drew
  replace rz := rz.drew
  have hsz := Lib.hid (show w6.heap.size = w6.heap.size from rfl)
  generalize w7.drew = w8 at *
  refine wpAnyH_take (i := 0) (v := .agg (stA g)) rfl (by kernel_rfl) (by kernel_rfl) (by kernel_rfl) (fun _ _ _ h => h) (Or.inl ⟨by kernel_rfl, ?_⟩) hH ?_
  · intro W hS
    exact run_load_row (by rfl) (by rfl) 29 _ (0, 0) _ hS.1.h Tryz.underlying29 rfl szS
  simp only [Act.put, List.setIfInBounds_toArray, List.set_cons_zero, List.set_cons_succ]
  refine wpAnyH_take (i := 1) (v := .agg #[.int .i64 1, .int .u32 0, .int .u32 a, .int .i64 t]) rfl (by kernel_rfl) (by kernel_rfl) (by kernel_rfl) (fun _ _ _ h => h) (Or.inl ⟨by kernel_rfl, ?_⟩) hH ?_
  · intro W hS
    exact run_load_row (by rfl) (by rfl) 42 _ (0, 0) _ hS.2.h Tryz.underlying42 rfl szF
  simp only [Act.put, List.setIfInBounds_toArray, List.set_cons_zero, List.set_cons_succ]
  refine wpAnyH_take (i := 2) (v := ?_) rfl (by kernel_rfl) (by kernel_rfl) (by kernel_rfl) (fun _ _ _ h => h) (Or.inl ⟨by kernel_rfl, ?_⟩) hH ?_
  rotate_left
  · intro W hS
    go_simp
    try rfl
  simp only [Act.put, List.setIfInBounds_toArray, List.set_cons_zero, List.set_cons_succ, List.getElem_toArray, List.getElem_cons_succ, List.getElem_cons_zero]
  refine wpAnyH_ready (rs := [3]) (by kernel_rfl) (by simp) ?_
  refine AllReadyH.cons rfl (fun K hK => ?_) AllReadyH.nil
  rw [if_pos (by kernel_rfl)]
  refine wp_store_row 29 _ _ rfl (w.heap.size + 1 + 1 + 1 + 1 + 1) (stA g) rfl rfl 29 z17 k5.h szS rfl (stA_one g) ?_
  replace k5 := k5.row (stA g)
  replace k6 := k6.rowOther (M := w.heap.size + 1 + 1 + 1 + 1 + 1) (stA g) (by omega)
  have hH2 := And.intro (hH.1.rowOther (M := w.heap.size + 1 + 1 + 1 + 1 + 1) (stA g) (by omega)) (hH.2.rowOther (M := w.heap.size + 1 + 1 + 1 + 1 + 1) (stA g) (by omega))
  replace rz := (rz.mono (S' := [w.heap.size + 1 + 1 + 1 + 1 + 1, w.heap.size + 1 + 1 + 1 + 1 + 1 + 1, w.heap.size + 1 + 1 + 1 + 1 + 1 + 1 + 1]) (Nat.le_refl _) (fun k hk => .inl (by simp at hk ⊢; omega))).setRow (g := w.heap.size + 1 + 1 + 1 + 1 + 1) (by simp) (stA g)
  refine hK.out _ _ hH2 (fun _ => ?_)
  clear hK K
  try simp only [Act.put, List.setIfInBounds_toArray, List.set_cons_zero, List.set_cons_succ, List.getElem_toArray, List.getElem_cons_succ, List.getElem_cons_zero]
  refine wpAnyH_ready (rs := [4]) (by kernel_rfl) (by simp) ?_
  refine AllReadyH.cons rfl (fun K hK => ?_) AllReadyH.nil
  rw [if_pos (by kernel_rfl)]
  refine wp_store_row 42 _ _ rfl (w.heap.size + 1 + 1 + 1 + 1 + 1 + 1) #[.int .i64 1, .int .u32 0, .int .u32 a, .int .i64 t] rfl rfl 42 f0A k6.h szF rfl (by simp [Value.oneCell']) ?_
  replace k6 := k6.row #[.int .i64 1, .int .u32 0, .int .u32 a, .int .i64 t]
  replace k5 := k5.rowOther (M := w.heap.size + 1 + 1 + 1 + 1 + 1 + 1) #[.int .i64 1, .int .u32 0, .int .u32 a, .int .i64 t] (by omega)
  have hH3 := And.intro (hH2.1.rowOther (M := w.heap.size + 1 + 1 + 1 + 1 + 1 + 1) #[.int .i64 1, .int .u32 0, .int .u32 a, .int .i64 t] (by omega)) (hH2.2.rowOther (M := w.heap.size + 1 + 1 + 1 + 1 + 1 + 1) #[.int .i64 1, .int .u32 0, .int .u32 a, .int .i64 t] (by omega))
  replace rz := rz.setRow (g := w.heap.size + 1 + 1 + 1 + 1 + 1 + 1) (by simp) #[.int .i64 1, .int .u32 0, .int .u32 a, .int .i64 t]
  refine hK.out _ _ hH3 (fun _ => ?_)
  clear hK K
  try simp only [Act.put, List.setIfInBounds_toArray, List.set_cons_zero, List.set_cons_succ, List.getElem_toArray, List.getElem_cons_succ, List.getElem_cons_zero]
  refine wpAnyH_take (i := 5) (v := ?_) rfl (by kernel_rfl) (by kernel_rfl) (by kernel_rfl) (fun _ _ _ h => h) (Or.inl ⟨by kernel_rfl, ?_⟩) hH3 ?_
  rotate_left
  · intro W hS
    go_simp
    try rfl
  simp only [Act.put, List.setIfInBounds_toArray, List.set_cons_zero, List.set_cons_succ, List.getElem_toArray, List.getElem_cons_succ, List.getElem_cons_zero]
  refine wpAnyH_done (by kernel_rfl) ?_ _
  have s20 := k5.cell (i := 0) rfl
  have s21 := k5.cell (i := 1) rfl
  have s22 := k5.cell (i := 2) rfl
  have s23 := k5.cell (i := 3) rfl
  have s24 := k5.cell (i := 4) rfl
  have s25 := k5.cell (i := 5) rfl
  have s26 := k5.cell (i := 6) rfl
  have s27 := k5.cell (i := 7) rfl
  have s28 := k5.cell (i := 8) rfl
  have s29 := k5.cell (i := 9) rfl
  have s30 := k5.cell (i := 10) rfl
  have s31 := k5.cell (i := 11) rfl
  have s32 := k5.cell (i := 12) rfl
  have s33 := k5.cell (i := 13) rfl
  have s34 := k5.cell (i := 14) rfl
  have s35 := k5.cell (i := 15) rfl
  have s36 := k5.cell (i := 16) rfl
  have d0 := k6.cell (i := 0) rfl
  have d1 := k6.cell (i := 1) rfl
  have d2 := k6.cell (i := 2) rfl
  have d3 := k6.cell (i := 3) rfl
  go_wp2_with fail
  exact bodyPost_ret (v := .tuple #[.agg (stA g), fltV 1 0 a t, .bool false]) (by simp [results, Tryz.results196, go_sem, s20, s21, s22, s23, s24, s25, s26, s27, s28, s29, s30, s31, s32, s33, s34, s35, s36, d0, d1, d2, d3]) rfl ⟨rfl, rz.below (Nat.le_refl _) (by simp; omega)⟩
set_option maxRecDepth 20000 in
theorem written_no {B : Nat} {m : Mm} {w : World} (h : PAt w B m) (ok : m.ok) (g : Gs) (o : On) (n v : Int) (hk : o.k = 3) (j : Nat) (hl : lackL m (plO g o) 2 (numL n) = some j) :
    Calls Tryz.prog 227 #[mp B, stV g, opV o, .int .i64 n, .int .u32 v] w fun e w' => e = .panicked (fltP ((plO g o + j) % 4294967296) 2) ∧ Below w.heap.size w w' := by
  obtain ⟨kS, kO, b0⟩ := stO w g o
  replace kS := kS.alloc (.cells z17 29)
  replace kO := kO.alloc (.cells z17 29)
  replace b0 := b0.alloc (by simp; omega) (.cells z17 29)
  have c0 := kO.cell (i := 0) (v := .int .i64 o.k) rfl
  rw [hk] at c0
  have hP := Lib.hid (fun W => Place_any g o W)
  have hbd := plO_bd g o
  generalize plO g o = A at *
  obtain ⟨A, rfl⟩ := Int.eq_ofNat_of_zero_le hbd.1
  have hL := Lib.hid (fun (W : World) (hW : PAt W B m) => store_no hW ok A j (by omega) n v hl)
  clear hl
  generalize ((A : Int) + j) % 4294967296 = a at *
  have h0 := h.below b0 h.lt
  go_enter Tryz.func227, Tryz.ntmps227
  go_wp2_with (first | (with_reducible refine load_st rfl _ rfl w.heap.size (stA g) rfl kS rfl ?_) | (with_reducible refine load_on rfl _ rfl (w.heap.size + 1) (op6 o) rfl kO rfl ?_) | ((with_reducible refine (hP.out _).mono ?_); rintro e w1 ⟨rfl, b1⟩; have h1 := h0.below b1 h0.lt; have b01 := b0.trans (b1.mono b0.size)) | ((with_reducible refine (hL.out _ h1).mono ?_); rintro e w2 ⟨rfl, b2⟩))
  exact ⟨rfl, rfl, b01.trans (b2.mono b01.size)⟩
end Go.Proofs.YtcdoidnfdkodoaaGreatDoor
namespace Go.Proofs.YtcdoidnfdkodoaaGreatDoor
open Go.RowKit
set_option linter.unusedVariables false
set_option maxRecDepth 20000
set_option linter.unusedSimpArgs false
set_option linter.unusedSectionVars false
theorem fl6_one (f : Nat → Bool) : (fl6 f).all (·.oneCell') = true := by simp [fl6, Value.oneCell']
abbrev ClassIs (op : Int) (k : Nat) : Prop := ∀ w, Calls Tryz.prog 238 #[.int .i64 op] w fun e w' => e = .returned (.int .i64 (k : Int)) ∧ w = w'
theorem TabsA.wr {W : World} (h : TabsA W) (k : Nat) (hk : k < 8) (i : Nat) (hi : i < 6) : W.cell? ⟨3, k * 12 + i, none⟩ = some (.bool (wrT k i)) := (h.2 k hk i hi).1
theorem TabsA.rd {W : World} (h : TabsA W) (k : Nat) (hk : k < 8) (i : Nat) (hi : i < 6) : W.cell? ⟨3, k * 12 + 6 + i, none⟩ = some (.bool (rdT k i)) := (h.2 k hk i hi).2
set_option maxHeartbeats 2000000 in
theorem written_any (op : Int) (k : Nat) (hk : k < 8) (hc : ClassIs op k) (f g : Nat → Bool) (w : World) (tabs : TabsA w) :
    Calls Tryz.prog 202 #[.int .i64 op, flV f, flV g] w fun e w' => e = .returned (flV (mixL (wrT k) f g)) ∧ Below w.heap.size w w' := by
  have hix := ix_ef 3 k hk
  have kb : Below w.heap.size w (((w.alloc (.cells (fl6 f) 26)).alloc (.cells (fl6 g) 26)).alloc (.cells (fl6 (fun _ => false)) 26)) := (((Below.refl _ _).alloc (Nat.le_refl _) _).alloc (by simp) _).alloc (by simp; omega) _
  have tabs2 := tabs.below kb
  obtain ⟨a1, a2, a3⟩ := alloc3 w (.cells (fl6 f) 26) (.cells (fl6 g) 26) (.cells (fl6 (fun _ => false)) 26)
  have kF : Blk _ w.heap.size 26 (fl6 f) := ⟨a1⟩
  have kG : Blk _ (w.heap.size + 1) 26 (fl6 g) := ⟨a2⟩
  have kR : Blk _ (w.heap.size + 1 + 1) 26 (fl6 (fun _ => false)) := ⟨a3⟩
  have qC := Lib.hid hc
  have qR := Lib.hid (fun W => replaced_any f g (wrT k) W)
  clear hc a1 a2 a3
  go_enter Tryz.func202, Tryz.ntmps202
  go_wp2_with fail
  generalize hN : w.heap.size = N at *
  have hSB := kb.size
  rw [hN] at hSB
  generalize (((w.alloc (.cells (fl6 f) 26)).alloc (.cells (fl6 g) 26)).alloc (.cells (fl6 (fun _ => false)) 26)) = w1 at kb kF kG kR hSB tabs2 ⊢
  have hS0 : Blk w1.drew N 26 (fl6 f) ∧ Blk w1.drew (N + 1) 26 (fl6 g) ∧ TabsA w1.drew := ⟨kF.drew, kG.drew, tabs2⟩
  replace kb := kb.drew
  replace kR := kR.drew
  replace hSB : N ≤ w1.drew.heap.size := hSB
  clear kF kG tabs2
  have hsF : (Tryz.prog.info? 26).map (·.size) = some (fl6 (mixL (wrT k) f g)).size := by kernel_rfl
  have hoF : (fl6 (fun _ => false)).size = (fl6 (mixL (wrT k) f g)).size := rfl
  have hcF := fl6_one (mixL (wrT k) f g)
  refine wp_region_held_drew (S := fun W => Blk W N 26 (fl6 f) ∧ Blk W (N + 1) 26 (fl6 g) ∧ TabsA W) (by kernel_rfl) hS0 (fun hH0 => ?_)
  refine wpAnyH_take (i := 0) (v := ?_) rfl (by kernel_rfl) (by kernel_rfl) (by kernel_rfl) (fun _ _ _ h => h) (Or.inl ⟨by kernel_rfl, ?_⟩) hH0 ?_
  rotate_left
  · intro W hS
    have c0 := hS.1.cell (i := 0) (v := .bool (f 0)) rfl
    have c1 := hS.1.cell (i := 1) (v := .bool (f 1)) rfl
    have c2 := hS.1.cell (i := 2) (v := .bool (f 2)) rfl
    have c3 := hS.1.cell (i := 3) (v := .bool (f 3)) rfl
    have c4 := hS.1.cell (i := 4) (v := .bool (f 4)) rfl
    have c5 := hS.1.cell (i := 5) (v := .bool (f 5)) rfl
    go_simp
    try rfl
  simp only [Act.put, List.setIfInBounds_toArray, List.set_cons_zero, List.set_cons_succ]
  refine wpAnyH_take (i := 1) (v := ?_) rfl (by kernel_rfl) (by kernel_rfl) (by kernel_rfl) (fun _ _ _ h => h) (Or.inl ⟨by kernel_rfl, ?_⟩) hH0 ?_
  rotate_left
  · intro W hS
    have c0 := hS.2.1.cell (i := 0) (v := .bool (g 0)) rfl
    have c1 := hS.2.1.cell (i := 1) (v := .bool (g 1)) rfl
    have c2 := hS.2.1.cell (i := 2) (v := .bool (g 2)) rfl
    have c3 := hS.2.1.cell (i := 3) (v := .bool (g 3)) rfl
    have c4 := hS.2.1.cell (i := 4) (v := .bool (g 4)) rfl
    have c5 := hS.2.1.cell (i := 5) (v := .bool (g 5)) rfl
    go_simp
    try rfl
  simp only [Act.put, List.setIfInBounds_toArray, List.set_cons_zero, List.set_cons_succ]
  refine wpAnyH_take (i := 2) (v := ?_) rfl (by kernel_rfl) (by kernel_rfl) (by kernel_rfl) (fun _ _ _ h => h) (Or.inl ⟨by kernel_rfl, ?_⟩) hH0 ?_
  rotate_left
  · intro W hS
    go_simp
    try rfl
  simp only [Act.put, List.setIfInBounds_toArray, List.set_cons_zero, List.set_cons_succ]
  refine wpAnyH_ready (rs := [3]) (by kernel_rfl) (by simp) ?_
  refine AllReadyH.cons rfl (fun K hK => ?_) AllReadyH.nil
  go_simp
  with_reducible refine (qC.out _).mono ?_
  rintro e w9 ⟨rfl, rfl⟩
  refine hK.out _ _ hH0 (fun _ => ?_)
  clear hK K
  try simp only [Act.put, List.setIfInBounds_toArray, List.set_cons_zero, List.set_cons_succ]
  refine wpAnyH_take (i := 4) (v := ?_) rfl (by kernel_rfl) (by kernel_rfl) (by kernel_rfl) (fun _ _ _ h => h) (Or.inl ⟨by kernel_rfl, ?_⟩) hH0 ?_
  rotate_left
  · intro W hS
    go_simp
    try rfl
  simp only [Act.put, List.setIfInBounds_toArray, List.set_cons_zero, List.set_cons_succ]
  refine wpAnyH_take (i := 5) (v := ?_) rfl (by kernel_rfl) (by kernel_rfl) (by kernel_rfl) (fun _ _ _ h => h) (Or.inl ⟨by kernel_rfl, ?_⟩) hH0 ?_
  rotate_left
  · intro W hS
    go_simp
    try rfl
  simp only [Act.put, List.setIfInBounds_toArray, List.set_cons_zero, List.set_cons_succ]
  refine wpAnyH_take (i := 6) (v := ?_) rfl (by kernel_rfl) (by kernel_rfl) (by kernel_rfl) (fun _ _ _ h => h) (Or.inl ⟨by kernel_rfl, ?_⟩) hH0 ?_
  rotate_left
  · intro W hS
    have c0 := hS.2.2.wr k hk 0 (by decide)
    have c1 := hS.2.2.wr k hk 1 (by decide)
    have c2 := hS.2.2.wr k hk 2 (by decide)
    have c3 := hS.2.2.wr k hk 3 (by decide)
    have c4 := hS.2.2.wr k hk 4 (by decide)
    have c5 := hS.2.2.wr k hk 5 (by decide)
    rw [Nat.add_zero] at c0
    go_simp
    try rfl
  simp only [Act.put, List.setIfInBounds_toArray, List.set_cons_zero, List.set_cons_succ]
  refine wpAnyH_ready (rs := [7]) (by kernel_rfl) (by simp) ?_
  refine AllReadyH.cons rfl (fun K hK => ?_) AllReadyH.nil
  go_simp
  with_reducible refine (qR.out _).mono ?_
  rintro e w2 ⟨rfl, bb⟩
  have hH1 := And.intro (hH0.1.below bb hH0.1.lt) (And.intro (hH0.2.1.below bb hH0.2.1.lt) (hH0.2.2.below bb))
  replace kb := kb.trans (bb.mono hSB)
  replace hSB := Nat.le_trans hSB bb.size
  replace kR := kR.below bb kR.lt
  clear bb
  refine hK.out _ _ hH1 (fun _ => ?_)
  clear hK K
  try simp only [Act.put, List.setIfInBounds_toArray, List.set_cons_zero, List.set_cons_succ]
  refine wpAnyH_ready (rs := [8]) (by kernel_rfl) (by simp) ?_
  refine AllReadyH.cons rfl (fun K hK => ?_) AllReadyH.nil
  rw [if_pos]
  rotate_left
  · kernel_rfl
  refine wp_store_row 26 _ _ rfl (N + 1 + 1) (fl6 (mixL (wrT k) f g)) rfl rfl 26 (fl6 (fun _ => false)) kR.h hsF hoF hcF ?_
  have kb2 := below_rowNew kb (N := N + 1 + 1) (by omega) (fl6 (mixL (wrT k) f g))
  have kR2 := kR.row (fl6 (mixL (wrT k) f g))
  have hH2 : Blk (w2.setRow (N + 1 + 1) (fl6 (mixL (wrT k) f g))) N 26 (fl6 f) ∧ Blk (w2.setRow (N + 1 + 1) (fl6 (mixL (wrT k) f g))) (N + 1) 26 (fl6 g) ∧ TabsA (w2.setRow (N + 1 + 1) (fl6 (mixL (wrT k) f g))) := ⟨hH1.1.rowOther _ (by omega), hH1.2.1.rowOther _ (by omega), tabs.below (hN ▸ kb2)⟩
  refine hK.out _ _ hH2 (fun _ => ?_)
  clear hK K
  try simp only [Act.put, List.setIfInBounds_toArray, List.set_cons_zero, List.set_cons_succ, List.getElem_toArray, List.getElem_cons_succ, List.getElem_cons_zero]
  refine wpAnyH_done (by kernel_rfl) ?_ _
  go_wp2_with fail
  exact bodyPost_ret (v := .agg (fl6 (mixL (wrT k) f g))) (results_cell_row rfl _ _ (N + 1 + 1) 26 _ (0, 0) _ rfl kR2.h Tryz.underlying26 rfl hsF) rfl ⟨rfl, hN ▸ kb2⟩
end Go.Proofs.YtcdoidnfdkodoaaGreatDoor
namespace Go.Proofs.YtcdoidnfdkodoaaGreatDoor
open Go.RowKit
set_option linter.unusedVariables false
set_option maxRecDepth 20000
set_option linter.unusedSimpArgs false
set_option linter.unusedSectionVars false
theorem szFA (g : Nat → Bool) : (Tryz.prog.info? 26).map (·.size) = some (fl6 g).size := by kernel_rfl
theorem store_fl {ops : Array Oper} {rest : List Oper} {o : Oper} {a : Act} {w : World} {Q : Exit → Act → World → Prop} (hgd : o.guard = none) (x y : Operand) (ho : o.op = .store 26 x y)
    (N : Nat) (g old : Nat → Bool) (hx : a.eval x = .pointer (some ⟨N, 0, none⟩)) (hy : a.eval y = flV g) (k : Blk w N 26 (fl6 old))
    (h : wpList Tryz.prog ops Q rest (a.put o.dst undef) (w.setRow N (fl6 g))) : wpList Tryz.prog ops Q (o :: rest) a w :=
  wpList_store_row hgd 26 x y ho N (fl6 g) hx hy 26 (fl6 old) k.h (szFA g) rfl (fl6_one g) h
theorem store_flv {ops : Array Oper} {rest : List Oper} {o : Oper} {a : Act} {w : World} {Q : Exit → Act → World → Prop} (hgd : o.guard = none) (x y : Operand) (ho : o.op = .store 26 x y)
    (N : Nat) (v : Value) (g old : Nat → Bool) (hx : a.eval x = .pointer (some ⟨N, 0, none⟩)) (hy : a.eval y = v) (hv : v = flV g) (k : Blk w N 26 (fl6 old))
    (h : wpList Tryz.prog ops Q rest (a.put o.dst undef) (w.setRow N (fl6 g))) : wpList Tryz.prog ops Q (o :: rest) a w :=
  store_fl hgd x y ho N g old hx (hy.trans hv) k h
theorem load_fl {ops : Array Oper} {rest : List Oper} {o : Oper} {a : Act} {w : World} {Q : Exit → Act → World → Prop} (hgd : o.guard = none) (x : Operand) (ho : o.op = .load 26 x)
    (N : Nat) (g : Nat → Bool) (hx : a.eval x = .pointer (some ⟨N, 0, none⟩)) (k : Blk w N 26 (fl6 g))
    (h : wpList Tryz.prog ops Q rest (a.put o.dst (flV g)) w) : wpList Tryz.prog ops Q (o :: rest) a w :=
  wpList_load_row hgd 26 x ho N hx 26 (fl6 g) (0, 0) _ k.h Tryz.underlying26 rfl (szFA g) h
theorem run_load_fl {N : Nat} {g : Nat → Bool} {w : World} (k : Blk w N 26 (fl6 g)) : (loadVar 26 ⟨N, 0, none⟩).run Tryz.prog w = .ok (flV g) w :=
  run_loadVar_row w N 26 26 (fl6 g) (0, 0) _ k.h Tryz.underlying26 rfl (szFA g)
theorem res_c {fn : Func} {p : Tmp} (h : fn.results = #[.cell p 26]) (tmps : Array Value) (w : World) (N : Nat) (g : Nat → Bool)
    (hp : tmps.getD p undef = .pointer (some ⟨N, 0, none⟩)) (k : Blk w N 26 (fl6 g)) : (results fn tmps).run Tryz.prog w = .ok (flV g) w := by
  have hp' : tmps[p]?.getD undef = .pointer (some ⟨N, 0, none⟩) := by simpa using hp
  simp [results, h, hp', asAddr, run_load_fl k]
theorem res_sc {fn : Func} {q p : Tmp} (h : fn.results = #[.tmp q, .cell p 26]) (tmps : Array Value) (w : World) (N : Nat) (g : Nat → Bool) (v : Value)
    (hq : tmps.getD q undef = v) (hp : tmps.getD p undef = .pointer (some ⟨N, 0, none⟩)) (k : Blk w N 26 (fl6 g)) : (results fn tmps).run Tryz.prog w = .ok (.tuple #[v, flV g]) w := by
  have hp' : tmps[p]?.getD undef = .pointer (some ⟨N, 0, none⟩) := by simpa using hp
  have hq' : tmps[q]?.getD undef = v := by simpa using hq
  simp [results, h, hp', hq', asAddr, run_load_fl k]
end Go.Proofs.YtcdoidnfdkodoaaGreatDoor
namespace Go.Proofs.YtcdoidnfdkodoaaGreatDoor
open Go.RowKit
set_option linter.unusedVariables false
set_option maxRecDepth 20000
set_option linter.unusedSimpArgs false
set_option linter.unusedSectionVars false
def bitB (x : Int) (k : Nat) : Bool := x / 2 ^ k % 2 != 0
theorem bit_any (x : Int) (k : Nat) (h : 0 ≤ x ∧ x ≤ 4294967295) (hk : k ≤ 32) (w : World) : Calls Tryz.prog 234 #[.int .u32 x, .int .i64 (k : Int)] w fun e w' => e = .returned (.bool (bitB x k)) ∧ w = w' := by
  have hf := fun w => field_any x k 1 h (by omega) w
  rw [field_one x k hk] at hf
  go_enter Tryz.func234, Tryz.ntmps234
  go_wp2_with (first | (go_at_call 251; refine (hf _).mono ?_; rintro e w' ⟨rfl, rfl⟩))
  go_ret
  exact ⟨rfl, rfl⟩
theorem bit_4 (x : Int) (h : 0 ≤ x ∧ x ≤ 4294967295) (w : World) : Calls Tryz.prog 234 #[.int .u32 x, .int .i64 4] w fun e w' => e = .returned (.bool (bitB x 4)) ∧ w = w' := bit_any x 4 h (by decide) w
theorem bit_31 (x : Int) (h : 0 ≤ x ∧ x ≤ 4294967295) (w : World) : Calls Tryz.prog 234 #[.int .u32 x, .int .i64 31] w fun e w' => e = .returned (.bool (bitB x 31)) ∧ w = w' := bit_any x 31 h (by decide) w
def resF (r : Int) : Nat → Bool
  | 1 => evenS r.toNat 8 | 3 => r == 0 | 4 => bitB r 31 | _ => false
theorem byResult_any (r : Int) (h : 0 ≤ r ∧ r ≤ 4294967295) (w : World) : Calls Tryz.prog 233 #[.int .u32 r] w fun e w' => e = .returned (flV (resF r)) ∧ Below w.heap.size w w' := by
  have hp := fun w => parity_any r h w
  have hb := fun w => bit_31 r h w
  rw [show flV (resF r) = .agg #[.bool false, .bool (evenS r.toNat 8), .bool false, .bool (r == 0), .bool (bitB r 31), .bool false] from rfl]
  generalize evenS r.toNat 8 = p at *
  generalize bitB r 31 = q at *
  go_enter Tryz.func233, Tryz.ntmps233
  go_wp2_with (first | (go_at_call 234; refine (hb _).mono ?_; rintro e w' ⟨rfl, rfl⟩) | (go_at_call 252; refine (hp _).mono ?_; rintro e w' ⟨rfl, rfl⟩))
  refine bodyPost_ret (v := .agg #[.bool false, .bool p, .bool false, .bool (r == 0), .bool q, .bool false]) (by simp [results, Tryz.results233, go_sem]) rfl ⟨rfl, ?_⟩
  exact (Below.refl _ _).alloc (Nat.le_refl _) _
def sumF (x r : Int) (c o : Bool) : Nat → Bool
  | 0 => c | 1 => evenS r.toNat 8 | 2 => !(bitB x 4 == bitB r 4) | 3 => r == 0 | 4 => bitB r 31 | _ => o
theorem byCarries_any (x r : Int) (c o : Bool) (hx : 0 ≤ x ∧ x ≤ 4294967295) (h : 0 ≤ r ∧ r ≤ 4294967295) (w : World) :
    Calls Tryz.prog 254 #[.int .u32 x, .int .u32 r, .bool c, .bool o] w fun e w' => e = .returned (flV (sumF x r c o)) ∧ Below w.heap.size w w' := by
  have hr := fun w => byResult_any r h w
  rw [show flV (resF r) = .agg #[.bool false, .bool (evenS r.toNat 8), .bool false, .bool (r == 0), .bool (bitB r 31), .bool false] from rfl] at hr
  rw [show flV (sumF x r c o) = .agg #[.bool c, .bool (evenS r.toNat 8), .bool (!(bitB x 4 == bitB r 4)), .bool (r == 0), .bool (bitB r 31), .bool o] from rfl]
  have h4 := fun w => bit_4 r h w
  have x4 := fun w => bit_4 x hx w
  obtain ⟨g, hg⟩ : ∃ g : Nat → Bool, g = sumF x r c o := ⟨_, rfl⟩
  rw [show (Value.agg #[.bool c, .bool (evenS r.toNat 8), .bool (!(bitB x 4 == bitB r 4)), .bool (r == 0), .bool (bitB r 31), .bool o]) = flV g from by rw [hg]; rfl]
  have hv := Lib.hid (show flV g = (Value.agg #[.bool c, .bool (evenS r.toNat 8), .bool (!(bitB x 4 == bitB r 4)), .bool (r == 0), .bool (bitB r 31), .bool o]) from by rw [hg]; rfl)
  clear hg
  generalize evenS r.toNat 8 = p at *
  generalize bitB r 31 = q at *
  generalize bitB r 4 = q4 at *
  generalize bitB x 4 = p4 at *
  generalize (r == 0) = z at *
  replace hr := Lib.hid hr
  have kR := Blk.new w 26 (fl6 fun _ => false)
  go_enter Tryz.func254, Tryz.ntmps254
  go_wp2_with fail
  refine (hr.out _).mono ?_
  rintro e w1 ⟨rfl, bb⟩
  replace kR := kR.below bb (by simp)
  have kb : Below w.heap.size w w1 := ((Below.refl _ _).alloc (Nat.le_refl _) _).trans (bb.mono (by simp))
  clear bb
  have hSB := kb.size
  generalize hN : w.heap.size = N at *
  go_wp2_with (first | (go_at_call 234; refine (h4 _).mono ?_; rintro e w' ⟨rfl, rfl⟩) | (go_at_call 234; refine (x4 _).mono ?_; rintro e w' ⟨rfl, rfl⟩) | (with_reducible refine store_flv rfl _ _ rfl N (.agg #[.bool c, .bool p, .bool (!(p4 == q4)), .bool z, .bool q, .bool o]) g (fun _ => false) rfl rfl hv.out.symm (kR.alloc _) ?_))
  exact bodyPost_ret (v := flV g) (res_c rfl _ _ N g rfl ((kR.alloc _).row _)) rfl ⟨rfl, by rw [hN]; exact below_rowNew (kb.alloc hSB _) (N := N) (by omega) _⟩
def addR (a b : Int) (c : Bool) : Int := (a + b + c01 c) % 4294967296
def addK (a b : Int) (c : Bool) : Bool := a + b + c01 c != (a + b + c01 c) % 4294967296
def addO (a b : Int) (c : Bool) : Bool := wrap32 a + wrap32 b + c01 c != wrap32 (wrap32 a + wrap32 b + c01 c)
def addF (a b : Int) (c : Bool) : Nat → Bool := sumF (bits .xor .u32 a b) (addR a b c) (addK a b c) (addO a b c)
theorem addR_bd (a b : Int) (c : Bool) : 0 ≤ addR a b c ∧ addR a b c ≤ 4294967295 := by unfold addR; omega
theorem xor_bd {a b : Int} (h : 0 ≤ a ∧ a ≤ 4294967295) (hb : 0 ≤ b ∧ b ≤ 4294967295) : 0 ≤ bits .xor .u32 a b ∧ bits .xor .u32 a b ≤ 4294967295 := by
  obtain ⟨A, rfl⟩ := Int.eq_ofNat_of_zero_le h.1
  obtain ⟨B, rfl⟩ := Int.eq_ofNat_of_zero_le hb.1
  rw [u32_xor_nat' A B (by omega) (by omega)]
  have := xor_lt32 (a := A) (b := B) (by omega) (by omega)
  omega
theorem sum_any (a b : Int) (c : Bool) (h : 0 ≤ a ∧ a ≤ 4294967295) (hb : 0 ≤ b ∧ b ≤ 4294967295) (w : World) :
    Calls Tryz.prog 235 #[.int .u32 a, .int .u32 b, .bool c] w fun e w' => e = .returned (.tuple #[.int .u32 (addR a b c), flV (addF a b c)]) ∧ Below w.heap.size w w' := by
  have hx := xor_bd h hb
  have qA : ∀ w, Calls Tryz.prog 253 #[.int .u32 a, .int .u32 b, .bool c] w fun e w' => e = .returned (.tuple #[.int .u32 (addR a b c), .bool (addK a b c), .bool (addO a b c)]) ∧ w = w' := fun w => addC_any a b c h hb w
  have qB := fun w => byCarries_any (bits .xor .u32 a b) (addR a b c) (addK a b c) (addO a b c) hx (addR_bd a b c) w
  rw [show sumF (bits .xor .u32 a b) (addR a b c) (addK a b c) (addO a b c) = addF a b c from rfl] at qB
  have hR := addR_bd a b c
  generalize addF a b c = g at *
  generalize addR a b c = R at *
  generalize addK a b c = K at *
  generalize addO a b c = O at *
  obtain ⟨X, hX⟩ : ∃ X, bits .xor .u32 a b = X := ⟨_, rfl⟩
  rw [hX] at qB hx
  replace qA := Lib.hid qA
  replace qB := Lib.hid qB
  have kR := Blk.new w 26 (fl6 fun _ => false)
  go_enter Tryz.func235, Tryz.ntmps235
  go_wp2_with (first | (with_reducible refine (qA.out _).mono ?_; rintro e w1 ⟨rfl, rfl⟩) | (with_reducible refine (qB.out _).mono ?_; rintro e w2 ⟨rfl, bb⟩) | (with_reducible refine store_fl rfl _ _ rfl w.heap.size g (fun _ => false) rfl rfl (kR.below bb (by simp)) ?_))
  refine bodyPost_ret (v := .tuple #[.int .u32 R, flV g]) (res_sc rfl _ _ w.heap.size g _ rfl rfl ((kR.below bb (by simp)).row _)) rfl ⟨rfl, ?_⟩
  exact below_rowNew (((Below.refl _ _).alloc (Nat.le_refl _) _).trans (bb.mono (by simp))) (N := w.heap.size) (Nat.le_refl _) _
end Go.Proofs.YtcdoidnfdkodoaaGreatDoor
