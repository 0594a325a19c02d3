/- EncodeShort. -/
import Derived.Test.YtbfkgakkkibejaaDoorZW
import Derived.Test.YtbfkgakkkibejaaDoorW8
import Derived.Deep.CutRange
namespace Go.Proofs.YtbfkgakkkibejaaDoor
open Go.RowKit
set_option linter.unusedVariables false
set_option linter.unusedSimpArgs false
set_option linter.unusedSectionVars false

theorem lreg_any (r : Int) (w : World) : Calls Tryd.prog 15 #[.int .i64 r] w fun e w' => e = .returned (opV (onReg r)) ∧ Below w.heap.size w w' := by
  have kx := (Below.refl w.heap.size w).alloc (Nat.le_refl _) (.cells (op6 (onReg r)) 24)
  go_enter Tryd.func15, Tryd.ntmps15
  go_wp2
  exact bodyPost_ret (v := opV (onReg r)) (by simp [results, Tryd.results15, go_sem, onReg]) rfl ⟨rfl, kx⟩
theorem limm_any (n : Int) (w : World) : Calls Tryd.prog 16 #[.int .u32 n] w fun e w' => e = .returned (opV (onImm n)) ∧ Below w.heap.size w w' := by
  have kx := (Below.refl w.heap.size w).alloc (Nat.le_refl _) (.cells (op6 (onImm n)) 24)
  go_enter Tryd.func16, Tryd.ntmps16
  go_wp2
  exact bodyPost_ret (v := opV (onImm n)) (by simp [results, Tryd.results16, go_sem, onImm]) rfl ⟨rfl, kx⟩
theorem wd_ri {op r v : Int} (hv : 0 ≤ v ∧ v ≤ 4294967295) : Wd ⟨op, 0, onReg r, onImm v, false, 0⟩ := ⟨by simp [onReg], hv⟩
theorem wd_i {op c v : Int} (hv : 0 ≤ v ∧ v ≤ 4294967295) : Wd ⟨op, c, onImm v, onZ, false, 0⟩ := ⟨hv, by simp [onZ]⟩
theorem len_of {k : In} {n : Nat} (hi : isB (withLen k 0) = true) (h : (encM k).length = n) : lenE k = n := by
  unfold lenE
  rw [if_pos (show isE k = true from hi), h]
theorem lenA {m : Nat} (hm : m < 8) {r v : Int} (hr : 1 ≤ r ∧ r < 8) (hv : 0 ≤ v ∧ v ≤ 4294967295) : lenE ⟨3 + (m : Int), 0, onReg r, onImm v, false, 0⟩ = ((if fitI v = true then 3 else 6 : Nat) : Int) := by
  have hi : isB ⟨3 + (m : Int), 0, onReg r, onImm v, false, 0⟩ = true := by
    rcases (by omega : m = 0 ∨ m = 1 ∨ m = 2 ∨ m = 3 ∨ m = 4 ∨ m = 5 ∨ m = 6 ∨ m = 7) with rfl | rfl | rfl | rfl | rfl | rfl | rfl | rfl <;>
      exact isB_sets (SA := [2, 6]) (SB := [16, 48, 112]) (by kernel_rfl) (mem_reg ⟨by omega, hr.2⟩) (mem_imm _) rfl rfl (by decide)
  refine len_of hi ?_
  rcases (by omega : m = 0 ∨ m = 1 ∨ m = 2 ∨ m = 3 ∨ m = 4 ∨ m = 5 ∨ m = 6 ∨ m = 7) with rfl | rfl | rfl | rfl | rfl | rfl | rfl | rfl
  · exact shorta_3 hr hv
  · exact shorta_4 hr hv
  · exact shorta_5 hr hv
  · exact shorta_6 hr hv
  · exact shorta_7 hr hv
  · exact shorta_8 hr hv
  · exact shorta_9 hr hv
  · exact shorta_10 hr hv
theorem lenB {m : Nat} (hm : m < 8) {v : Int} (hv : 0 ≤ v ∧ v ≤ 4294967295) : lenE ⟨3 + (m : Int), 0, onReg 0, onImm v, false, 0⟩ = ((if fitI v = true then 3 else 5 : Nat) : Int) := by
  have hi : isB ⟨3 + (m : Int), 0, onReg 0, onImm v, false, 0⟩ = true := by
    rcases (by omega : m = 0 ∨ m = 1 ∨ m = 2 ∨ m = 3 ∨ m = 4 ∨ m = 5 ∨ m = 6 ∨ m = 7) with rfl | rfl | rfl | rfl | rfl | rfl | rfl | rfl <;>
      exact isB_sets (SA := [2, 6]) (SB := [16, 48, 112]) (by kernel_rfl) (mem_reg (by decide)) (mem_imm _) rfl rfl (by decide)
  refine len_of hi ?_
  rcases (by omega : m = 0 ∨ m = 1 ∨ m = 2 ∨ m = 3 ∨ m = 4 ∨ m = 5 ∨ m = 6 ∨ m = 7) with rfl | rfl | rfl | rfl | rfl | rfl | rfl | rfl
  · exact shortb_3 hv
  · exact shortb_4 hv
  · exact shortb_5 hv
  · exact shortb_6 hv
  · exact shortb_7 hv
  · exact shortb_8 hv
  · exact shortb_9 hv
  · exact shortb_10 hv
theorem lenC {v : Int} (hv : 0 ≤ v ∧ v ≤ 4294967295) : lenE ⟨28, 0, onImm v, onZ, false, 0⟩ = ((if fitI v = true then 2 else 5 : Nat) : Int) :=
  len_of (isB_sets (SA := [16, 48, 112]) (SB := [1]) (by kernel_rfl) (mem_imm _) mem_z rfl rfl (by decide)) (shortc hv)
theorem lenD {v : Int} (hv : 0 ≤ v ∧ v ≤ 4294967295) : lenE ⟨32, 0, onImm v, onZ, false, 0⟩ = ((if fitI v = true then 2 else 5 : Nat) : Int) :=
  len_of (isB_sets (SA := [16, 48, 112]) (SB := [1]) (by kernel_rfl) (mem_imm _) mem_z rfl rfl (by decide)) (shortd hv)
theorem lenF {c v : Int} (hc : 0 ≤ c ∧ c ≤ 15) (hv : 0 ≤ v ∧ v ≤ 4294967295) : lenE ⟨33, c, onImm v, onZ, false, 0⟩ = ((if fitI v = true then 2 else 6 : Nat) : Int) :=
  len_of (isB_sets (SA := [16, 48, 112]) (SB := [1]) (by kernel_rfl) (mem_imm _) mem_z rfl (knows_cw hc) (by decide)) (shorte hc hv)
abbrev ops8 : Array Value := #[.int .i64 3, .int .i64 4, .int .i64 5, .int .i64 6, .int .i64 7, .int .i64 8, .int .i64 9, .int .i64 10]
theorem ops8_at {W : World} {B m : Nat} (h : Blk W B 43 ops8) (hm : m < 8) : W.cell? ⟨B, m, none⟩ = some (.int .i64 (3 + (m : Int))) := by
  rcases (by omega : m = 0 ∨ m = 1 ∨ m = 2 ∨ m = 3 ∨ m = 4 ∨ m = 5 ∨ m = 6 ∨ m = 7) with rfl | rfl | rfl | rfl | rfl | rfl | rfl | rfl <;> exact h.cell rfl
set_option maxRecDepth 20000 in
set_option maxHeartbeats 8000000 in
theorem short_fit (w : World) (tabs : Tabs w) {op r v : Int} (hop : 0 ≤ op ∧ op ≤ 255) (hr : 0 ≤ r ∧ r ≤ 255) (hv : 0 ≤ v ∧ v ≤ 4294967295) (hf : fitI v = true) (q1 : ((-128 : Int) ≤ wrap32 v) = True) (q2 : (wrap32 v < 128) = True) :
    Calls Tryd.prog 6 #[.int .u8 op, .int .u8 r, .int .u32 v] w fun e w' => e = .returned (.bool true) ∧ Below w.heap.size w w' := by
  obtain ⟨m, hm⟩ := Int.eq_ofNat_of_zero_le (show 0 ≤ op % 8 by omega)
  have hm8 : m < 8 := by omega
  have hm2 : op.tmod 8 = (m : Int) := by rw [Int.tmod_eq_emod_of_nonneg hop.1]; exact hm
  have hb2 : (0 : Int) ≤ (m : Int) ∧ (m : Int) < 8 := by omega
  have hk : 1 ≤ r % 7 + 1 ∧ r % 7 + 1 < 8 := by omega
  have hc : 0 ≤ op % 16 ∧ op % 16 ≤ 15 := by omega
  have hA := lenA hm8 hk hv
  have hB := lenB hm8 hv
  have hC := lenC hv
  have hD := lenD hv
  have hF := lenF hc hv
  rw [hf] at hA hB hC hD hF
  have cA := Lib.hid (fun W t => Len_at (wd_ri hv) hA W t)
  have cB := Lib.hid (fun W t => Len_at (wd_ri hv) hB W t)
  have cC := Lib.hid (fun W t => Len_at (wd_i hv) hC W t)
  have cD := Lib.hid (fun W t => Len_at (wd_i hv) hD W t)
  have cF := Lib.hid (fun W t => Len_at (wd_i hv) hF W t)
  have hR := Lib.hid (fun n W => lreg_any n W)
  have hI := Lib.hid (fun n W => limm_any n W)
  have hK := Lib.hid (known_any w tabs)
  clear hA hB hC hD hF hf
  go_enter Tryd.func6, Tryd.ntmps6
  go_upto_region 6 with (first | ((with_reducible refine hK.out.mono ?_); rintro e W1 ⟨rfl, b1⟩))
  have kB := Blk.new W1 43 ops8
  have b2 := b1.alloc b1.size (.cells ops8 43)
  generalize W1.alloc (.cells ops8 43) = W2 at *
  generalize W1.heap.size = B at *
  have hB2 := kB.lt
  refine wp_region_held_drew (S := fun W => Blk W B 43 ops8) (by kernel_rfl) kB.drew (fun hHeld => ?_)
  refine wpAnyH_take (i := 0) (v := ?_) rfl (by kernel_rfl) (by kernel_rfl) (by kernel_rfl) (fun _ _ _ h => h) (Or.inl ⟨by kernel_rfl, ?_⟩) hHeld ?_
  rotate_left
  · intro W hS
    go_simp
    try rfl
  simp only [Act.put, List.setIfInBounds_toArray, List.set_cons_zero, List.set_cons_succ, List.getElem_toArray, List.getElem_cons_succ, List.getElem_cons_zero]
  refine wpAnyH_take (i := 1) (v := ?_) rfl (by kernel_rfl) (by kernel_rfl) (by kernel_rfl) (fun _ _ _ h => h) (Or.inl ⟨by kernel_rfl, ?_⟩) hHeld ?_
  rotate_left
  · intro W hS
    go_simp
    try rfl
  simp only [Act.put, List.setIfInBounds_toArray, List.set_cons_zero, List.set_cons_succ, List.getElem_toArray, List.getElem_cons_succ, List.getElem_cons_zero]
  refine wpAnyH_take (i := 2) (v := ?_) rfl (by kernel_rfl) (by kernel_rfl) (by kernel_rfl) (fun _ _ _ h => h) (Or.inl ⟨by kernel_rfl, ?_⟩) hHeld ?_
  rotate_left
  · intro W hS
    go_simp
    try rfl
  simp only [Act.put, List.setIfInBounds_toArray, List.set_cons_zero, List.set_cons_succ, List.getElem_toArray, List.getElem_cons_succ, List.getElem_cons_zero]
  refine wpAnyH_take (i := 3) (v := ?_) rfl (by kernel_rfl) (by kernel_rfl) (by kernel_rfl) (fun _ _ _ h => h) (Or.inl ⟨by kernel_rfl, ?_⟩) hHeld ?_
  rotate_left
  · intro W hS
    have cm := ops8_at hS hm8
    go_simp
    try rfl
  simp only [Act.put, List.setIfInBounds_toArray, List.set_cons_zero, List.set_cons_succ, List.getElem_toArray, List.getElem_cons_succ, List.getElem_cons_zero]
  refine wpAnyH_take (i := 4) (v := ?_) rfl (by kernel_rfl) (by kernel_rfl) (by kernel_rfl) (fun _ _ _ h => h) (Or.inl ⟨by kernel_rfl, ?_⟩) hHeld ?_
  rotate_left
  · intro W hS
    go_simp
    try rfl
  simp only [Act.put, List.setIfInBounds_toArray, List.set_cons_zero, List.set_cons_succ, List.getElem_toArray, List.getElem_cons_succ, List.getElem_cons_zero]
  refine wpAnyH_take (i := 6) (v := ?_) rfl (by kernel_rfl) (by kernel_rfl) (by kernel_rfl) (fun _ _ _ h => h) (Or.inl ⟨by kernel_rfl, ?_⟩) hHeld ?_
  rotate_left
  · intro W hS
    go_simp
    try rfl
  simp only [Act.put, List.setIfInBounds_toArray, List.set_cons_zero, List.set_cons_succ, List.getElem_toArray, List.getElem_cons_succ, List.getElem_cons_zero]
  refine wpAnyH_ready (rs := [5]) (by kernel_rfl) (by simp) ?_
  refine AllReadyH.cons rfl (fun K hK => ?_) AllReadyH.nil
  go_simp
  with_reducible refine (hR.out _ _).mono ?_
  rintro e w3 ⟨rfl, b3⟩
  have hH3 := hHeld.below b3 hHeld.lt
  refine hK.out _ _ hH3 (fun _ => ?_)
  clear hK K
  try simp only [Act.put, List.setIfInBounds_toArray, List.set_cons_zero, List.set_cons_succ]
  refine wpAnyH_ready (rs := [7]) (by kernel_rfl) (by simp) ?_
  refine AllReadyH.cons rfl (fun K hK => ?_) AllReadyH.nil
  go_simp
  with_reducible refine (hI.out _ _).mono ?_
  rintro e w4 ⟨rfl, b4⟩
  have hH4 := hH3.below b4 hH3.lt
  have b24 : Below w.heap.size w w4 := ((b2.trans (drew_below _ b2.size)).trans (b3.mono b2.size)).trans (b4.mono (Nat.le_trans b2.size b3.size))
  refine hK.out _ _ hH4 (fun _ => ?_)
  clear hK K
  try simp only [Act.put, List.setIfInBounds_toArray, List.set_cons_zero, List.set_cons_succ]
  refine wpAnyH_take (i := 8) (v := ?_) rfl (by kernel_rfl) (by kernel_rfl) (by kernel_rfl) (fun _ _ _ h => h) (Or.inl ⟨by kernel_rfl, ?_⟩) hH4 ?_
  rotate_left
  · intro W hS
    go_simp
    try rfl
  simp only [Act.put, List.setIfInBounds_toArray, List.set_cons_zero, List.set_cons_succ, List.getElem_toArray, List.getElem_cons_succ, List.getElem_cons_zero]
  refine wpAnyH_ready (rs := [9]) (by kernel_rfl) (by simp) ?_
  refine AllReadyH.cons rfl (fun K hK => ?_) AllReadyH.nil
  go_simp
  with_reducible refine (cA.out _ (tabs.below b24)).mono ?_
  rintro e w5 ⟨rfl, b5⟩
  have hH5 := hH4.below b5 hH4.lt
  have b25 := b24.trans (b5.mono b24.size)
  refine hK.out _ _ hH5 (fun _ => ?_)
  clear hK K
  try simp only [Act.put, List.setIfInBounds_toArray, List.set_cons_zero, List.set_cons_succ]
  refine wpAnyH_take (i := 10) (v := ?_) rfl (by kernel_rfl) (by kernel_rfl) (by kernel_rfl) (fun _ _ _ h => h) (Or.inl ⟨by kernel_rfl, ?_⟩) hH5 ?_
  rotate_left
  · intro W hS
    go_simp
    try rfl
  simp only [Act.put, List.setIfInBounds_toArray, List.set_cons_zero, List.set_cons_succ, List.getElem_toArray, List.getElem_cons_succ, List.getElem_cons_zero]
  refine wpAnyH_done (by kernel_rfl) ?_ _
  go_upto_region 7 with fail
  refine wp_region_held_drew (S := fun W => Blk W B 43 ops8) (by kernel_rfl) hH5.drew (fun hHeld => ?_)
  refine wpAnyH_take (i := 0) (v := ?_) rfl (by kernel_rfl) (by kernel_rfl) (by kernel_rfl) (fun _ _ _ h => h) (Or.inl ⟨by kernel_rfl, ?_⟩) hHeld ?_
  rotate_left
  · intro W hS
    go_simp
    try rfl
  simp only [Act.put, List.setIfInBounds_toArray, List.set_cons_zero, List.set_cons_succ, List.getElem_toArray, List.getElem_cons_succ, List.getElem_cons_zero]
  refine wpAnyH_take (i := 1) (v := ?_) rfl (by kernel_rfl) (by kernel_rfl) (by kernel_rfl) (fun _ _ _ h => h) (Or.inl ⟨by kernel_rfl, ?_⟩) hHeld ?_
  rotate_left
  · intro W hS
    go_simp
    try rfl
  simp only [Act.put, List.setIfInBounds_toArray, List.set_cons_zero, List.set_cons_succ, List.getElem_toArray, List.getElem_cons_succ, List.getElem_cons_zero]
  refine wpAnyH_take (i := 2) (v := ?_) rfl (by kernel_rfl) (by kernel_rfl) (by kernel_rfl) (fun _ _ _ h => h) (Or.inl ⟨by kernel_rfl, ?_⟩) hHeld ?_
  rotate_left
  · intro W hS
    go_simp
    try rfl
  simp only [Act.put, List.setIfInBounds_toArray, List.set_cons_zero, List.set_cons_succ, List.getElem_toArray, List.getElem_cons_succ, List.getElem_cons_zero]
  refine wpAnyH_take (i := 3) (v := ?_) rfl (by kernel_rfl) (by kernel_rfl) (by kernel_rfl) (fun _ _ _ h => h) (Or.inl ⟨by kernel_rfl, ?_⟩) hHeld ?_
  rotate_left
  · intro W hS
    have cm := ops8_at hS hm8
    go_simp
    try rfl
  simp only [Act.put, List.setIfInBounds_toArray, List.set_cons_zero, List.set_cons_succ, List.getElem_toArray, List.getElem_cons_succ, List.getElem_cons_zero]
  refine wpAnyH_take (i := 5) (v := ?_) rfl (by kernel_rfl) (by kernel_rfl) (by kernel_rfl) (fun _ _ _ h => h) (Or.inl ⟨by kernel_rfl, ?_⟩) hHeld ?_
  rotate_left
  · intro W hS
    go_simp
    try rfl
  simp only [Act.put, List.setIfInBounds_toArray, List.set_cons_zero, List.set_cons_succ, List.getElem_toArray, List.getElem_cons_succ, List.getElem_cons_zero]
  refine wpAnyH_ready (rs := [4]) (by kernel_rfl) (by simp) ?_
  refine AllReadyH.cons rfl (fun K hK => ?_) AllReadyH.nil
  go_simp
  with_reducible refine (hR.out _ _).mono ?_
  rintro e w6 ⟨rfl, b6⟩
  have hH6 := hHeld.below b6 hHeld.lt
  refine hK.out _ _ hH6 (fun _ => ?_)
  clear hK K
  try simp only [Act.put, List.setIfInBounds_toArray, List.set_cons_zero, List.set_cons_succ]
  refine wpAnyH_ready (rs := [6]) (by kernel_rfl) (by simp) ?_
  refine AllReadyH.cons rfl (fun K hK => ?_) AllReadyH.nil
  go_simp
  with_reducible refine (hI.out _ _).mono ?_
  rintro e w7 ⟨rfl, b7⟩
  have hH7 := hH6.below b7 hH6.lt
  have b27 : Below w.heap.size w w7 := ((b25.trans (drew_below _ b25.size)).trans (b6.mono b25.size)).trans (b7.mono (Nat.le_trans b25.size b6.size))
  refine hK.out _ _ hH7 (fun _ => ?_)
  clear hK K
  try simp only [Act.put, List.setIfInBounds_toArray, List.set_cons_zero, List.set_cons_succ]
  refine wpAnyH_take (i := 7) (v := ?_) rfl (by kernel_rfl) (by kernel_rfl) (by kernel_rfl) (fun _ _ _ h => h) (Or.inl ⟨by kernel_rfl, ?_⟩) hH7 ?_
  rotate_left
  · intro W hS
    go_simp
    try rfl
  simp only [Act.put, List.setIfInBounds_toArray, List.set_cons_zero, List.set_cons_succ, List.getElem_toArray, List.getElem_cons_succ, List.getElem_cons_zero]
  refine wpAnyH_ready (rs := [8]) (by kernel_rfl) (by simp) ?_
  refine AllReadyH.cons rfl (fun K hK => ?_) AllReadyH.nil
  go_simp
  with_reducible refine (cB.out _ (tabs.below b27)).mono ?_
  rintro e w8 ⟨rfl, b8⟩
  have hH8 := hH7.below b8 hH7.lt
  have b28 := b27.trans (b8.mono b27.size)
  refine hK.out _ _ hH8 (fun _ => ?_)
  clear hK K
  try simp only [Act.put, List.setIfInBounds_toArray, List.set_cons_zero, List.set_cons_succ]
  refine wpAnyH_take (i := 9) (v := ?_) rfl (by kernel_rfl) (by kernel_rfl) (by kernel_rfl) (fun _ _ _ h => h) (Or.inl ⟨by kernel_rfl, ?_⟩) hH8 ?_
  rotate_left
  · intro W hS
    go_simp
    try rfl
  simp only [Act.put, List.setIfInBounds_toArray, List.set_cons_zero, List.set_cons_succ, List.getElem_toArray, List.getElem_cons_succ, List.getElem_cons_zero]
  refine wpAnyH_done (by kernel_rfl) ?_ _
  go_upto_region 9 with (first | ((with_reducible refine (hI.out _ _).mono ?_); rintro e w9 ⟨rfl, b9⟩; have b29 := b28.trans (b9.mono b28.size)) | (go_at_call 11; refine (cC.out _ (tabs.below b29)).mono ?_; rintro e w10 ⟨rfl, b10⟩; have b210 := b29.trans (b10.mono b29.size)))
  go_upto_region 10 with (first | ((with_reducible refine (hI.out _ _).mono ?_); rintro e w11 ⟨rfl, b11⟩; have b211 := b210.trans (b11.mono b210.size)) | (go_at_call 11; refine (cD.out _ (tabs.below b211)).mono ?_; rintro e w12 ⟨rfl, b12⟩; have b212 := b211.trans (b12.mono b211.size)))
  go_wp2_with (first | ((with_reducible refine (hI.out _ _).mono ?_); rintro e w13 ⟨rfl, b13⟩; have b213 := b212.trans (b13.mono b212.size)) | (go_at_call 11; refine (cF.out _ (tabs.below b213)).mono ?_; rintro e w14 ⟨rfl, b14⟩; have b214 := b213.trans (b14.mono b213.size)))
  go_ret
  exact ⟨rfl, b214⟩
set_option maxRecDepth 20000 in
set_option maxHeartbeats 8000000 in
theorem short_lo (w : World) (tabs : Tabs w) {op r v : Int} (hop : 0 ≤ op ∧ op ≤ 255) (hr : 0 ≤ r ∧ r ≤ 255) (hv : 0 ≤ v ∧ v ≤ 4294967295) (hf : fitI v = false) (q1 : ((-128 : Int) ≤ wrap32 v) = False) :
    Calls Tryd.prog 6 #[.int .u8 op, .int .u8 r, .int .u32 v] w fun e w' => e = .returned (.bool true) ∧ Below w.heap.size w w' := by
  obtain ⟨m, hm⟩ := Int.eq_ofNat_of_zero_le (show 0 ≤ op % 8 by omega)
  have hm8 : m < 8 := by omega
  have hm2 : op.tmod 8 = (m : Int) := by rw [Int.tmod_eq_emod_of_nonneg hop.1]; exact hm
  have hb2 : (0 : Int) ≤ (m : Int) ∧ (m : Int) < 8 := by omega
  have hk : 1 ≤ r % 7 + 1 ∧ r % 7 + 1 < 8 := by omega
  have hc : 0 ≤ op % 16 ∧ op % 16 ≤ 15 := by omega
  have hA := lenA hm8 hk hv
  have hB := lenB hm8 hv
  have hC := lenC hv
  have hD := lenD hv
  have hF := lenF hc hv
  rw [hf] at hA hB hC hD hF
  have cA := Lib.hid (fun W t => Len_at (wd_ri hv) hA W t)
  have cB := Lib.hid (fun W t => Len_at (wd_ri hv) hB W t)
  have cC := Lib.hid (fun W t => Len_at (wd_i hv) hC W t)
  have cD := Lib.hid (fun W t => Len_at (wd_i hv) hD W t)
  have cF := Lib.hid (fun W t => Len_at (wd_i hv) hF W t)
  have hR := Lib.hid (fun n W => lreg_any n W)
  have hI := Lib.hid (fun n W => limm_any n W)
  have hK := Lib.hid (known_any w tabs)
  clear hA hB hC hD hF hf
  go_enter Tryd.func6, Tryd.ntmps6
  go_upto_region 6 with (first | ((with_reducible refine hK.out.mono ?_); rintro e W1 ⟨rfl, b1⟩))
  have kB := Blk.new W1 43 ops8
  have b2 := b1.alloc b1.size (.cells ops8 43)
  generalize W1.alloc (.cells ops8 43) = W2 at *
  generalize W1.heap.size = B at *
  have hB2 := kB.lt
  refine wp_region_held_drew (S := fun W => Blk W B 43 ops8) (by kernel_rfl) kB.drew (fun hHeld => ?_)
  refine wpAnyH_take (i := 0) (v := ?_) rfl (by kernel_rfl) (by kernel_rfl) (by kernel_rfl) (fun _ _ _ h => h) (Or.inl ⟨by kernel_rfl, ?_⟩) hHeld ?_
  rotate_left
  · intro W hS
    go_simp
    try rfl
  simp only [Act.put, List.setIfInBounds_toArray, List.set_cons_zero, List.set_cons_succ, List.getElem_toArray, List.getElem_cons_succ, List.getElem_cons_zero]
  refine wpAnyH_take (i := 1) (v := ?_) rfl (by kernel_rfl) (by kernel_rfl) (by kernel_rfl) (fun _ _ _ h => h) (Or.inl ⟨by kernel_rfl, ?_⟩) hHeld ?_
  rotate_left
  · intro W hS
    go_simp
    try rfl
  simp only [Act.put, List.setIfInBounds_toArray, List.set_cons_zero, List.set_cons_succ, List.getElem_toArray, List.getElem_cons_succ, List.getElem_cons_zero]
  refine wpAnyH_take (i := 2) (v := ?_) rfl (by kernel_rfl) (by kernel_rfl) (by kernel_rfl) (fun _ _ _ h => h) (Or.inl ⟨by kernel_rfl, ?_⟩) hHeld ?_
  rotate_left
  · intro W hS
    go_simp
    try rfl
  simp only [Act.put, List.setIfInBounds_toArray, List.set_cons_zero, List.set_cons_succ, List.getElem_toArray, List.getElem_cons_succ, List.getElem_cons_zero]
  refine wpAnyH_take (i := 3) (v := ?_) rfl (by kernel_rfl) (by kernel_rfl) (by kernel_rfl) (fun _ _ _ h => h) (Or.inl ⟨by kernel_rfl, ?_⟩) hHeld ?_
  rotate_left
  · intro W hS
    have cm := ops8_at hS hm8
    go_simp
    try rfl
  simp only [Act.put, List.setIfInBounds_toArray, List.set_cons_zero, List.set_cons_succ, List.getElem_toArray, List.getElem_cons_succ, List.getElem_cons_zero]
  refine wpAnyH_take (i := 4) (v := ?_) rfl (by kernel_rfl) (by kernel_rfl) (by kernel_rfl) (fun _ _ _ h => h) (Or.inl ⟨by kernel_rfl, ?_⟩) hHeld ?_
  rotate_left
  · intro W hS
    go_simp
    try rfl
  simp only [Act.put, List.setIfInBounds_toArray, List.set_cons_zero, List.set_cons_succ, List.getElem_toArray, List.getElem_cons_succ, List.getElem_cons_zero]
  refine wpAnyH_take (i := 6) (v := ?_) rfl (by kernel_rfl) (by kernel_rfl) (by kernel_rfl) (fun _ _ _ h => h) (Or.inl ⟨by kernel_rfl, ?_⟩) hHeld ?_
  rotate_left
  · intro W hS
    go_simp
    try rfl
  simp only [Act.put, List.setIfInBounds_toArray, List.set_cons_zero, List.set_cons_succ, List.getElem_toArray, List.getElem_cons_succ, List.getElem_cons_zero]
  refine wpAnyH_ready (rs := [5]) (by kernel_rfl) (by simp) ?_
  refine AllReadyH.cons rfl (fun K hK => ?_) AllReadyH.nil
  go_simp
  with_reducible refine (hR.out _ _).mono ?_
  rintro e w3 ⟨rfl, b3⟩
  have hH3 := hHeld.below b3 hHeld.lt
  refine hK.out _ _ hH3 (fun _ => ?_)
  clear hK K
  try simp only [Act.put, List.setIfInBounds_toArray, List.set_cons_zero, List.set_cons_succ]
  refine wpAnyH_ready (rs := [7]) (by kernel_rfl) (by simp) ?_
  refine AllReadyH.cons rfl (fun K hK => ?_) AllReadyH.nil
  go_simp
  with_reducible refine (hI.out _ _).mono ?_
  rintro e w4 ⟨rfl, b4⟩
  have hH4 := hH3.below b4 hH3.lt
  have b24 : Below w.heap.size w w4 := ((b2.trans (drew_below _ b2.size)).trans (b3.mono b2.size)).trans (b4.mono (Nat.le_trans b2.size b3.size))
  refine hK.out _ _ hH4 (fun _ => ?_)
  clear hK K
  try simp only [Act.put, List.setIfInBounds_toArray, List.set_cons_zero, List.set_cons_succ]
  refine wpAnyH_take (i := 8) (v := ?_) rfl (by kernel_rfl) (by kernel_rfl) (by kernel_rfl) (fun _ _ _ h => h) (Or.inl ⟨by kernel_rfl, ?_⟩) hH4 ?_
  rotate_left
  · intro W hS
    go_simp
    try rfl
  simp only [Act.put, List.setIfInBounds_toArray, List.set_cons_zero, List.set_cons_succ, List.getElem_toArray, List.getElem_cons_succ, List.getElem_cons_zero]
  refine wpAnyH_ready (rs := [9]) (by kernel_rfl) (by simp) ?_
  refine AllReadyH.cons rfl (fun K hK => ?_) AllReadyH.nil
  go_simp
  with_reducible refine (cA.out _ (tabs.below b24)).mono ?_
  rintro e w5 ⟨rfl, b5⟩
  have hH5 := hH4.below b5 hH4.lt
  have b25 := b24.trans (b5.mono b24.size)
  refine hK.out _ _ hH5 (fun _ => ?_)
  clear hK K
  try simp only [Act.put, List.setIfInBounds_toArray, List.set_cons_zero, List.set_cons_succ]
  refine wpAnyH_take (i := 10) (v := ?_) rfl (by kernel_rfl) (by kernel_rfl) (by kernel_rfl) (fun _ _ _ h => h) (Or.inl ⟨by kernel_rfl, ?_⟩) hH5 ?_
  rotate_left
  · intro W hS
    go_simp
    try rfl
  simp only [Act.put, List.setIfInBounds_toArray, List.set_cons_zero, List.set_cons_succ, List.getElem_toArray, List.getElem_cons_succ, List.getElem_cons_zero]
  refine wpAnyH_done (by kernel_rfl) ?_ _
  go_upto_region 7 with fail
  refine wp_region_held_drew (S := fun W => Blk W B 43 ops8) (by kernel_rfl) hH5.drew (fun hHeld => ?_)
  refine wpAnyH_take (i := 0) (v := ?_) rfl (by kernel_rfl) (by kernel_rfl) (by kernel_rfl) (fun _ _ _ h => h) (Or.inl ⟨by kernel_rfl, ?_⟩) hHeld ?_
  rotate_left
  · intro W hS
    go_simp
    try rfl
  simp only [Act.put, List.setIfInBounds_toArray, List.set_cons_zero, List.set_cons_succ, List.getElem_toArray, List.getElem_cons_succ, List.getElem_cons_zero]
  refine wpAnyH_take (i := 1) (v := ?_) rfl (by kernel_rfl) (by kernel_rfl) (by kernel_rfl) (fun _ _ _ h => h) (Or.inl ⟨by kernel_rfl, ?_⟩) hHeld ?_
  rotate_left
  · intro W hS
    go_simp
    try rfl
  simp only [Act.put, List.setIfInBounds_toArray, List.set_cons_zero, List.set_cons_succ, List.getElem_toArray, List.getElem_cons_succ, List.getElem_cons_zero]
  refine wpAnyH_take (i := 2) (v := ?_) rfl (by kernel_rfl) (by kernel_rfl) (by kernel_rfl) (fun _ _ _ h => h) (Or.inl ⟨by kernel_rfl, ?_⟩) hHeld ?_
  rotate_left
  · intro W hS
    go_simp
    try rfl
  simp only [Act.put, List.setIfInBounds_toArray, List.set_cons_zero, List.set_cons_succ, List.getElem_toArray, List.getElem_cons_succ, List.getElem_cons_zero]
  refine wpAnyH_take (i := 3) (v := ?_) rfl (by kernel_rfl) (by kernel_rfl) (by kernel_rfl) (fun _ _ _ h => h) (Or.inl ⟨by kernel_rfl, ?_⟩) hHeld ?_
  rotate_left
  · intro W hS
    have cm := ops8_at hS hm8
    go_simp
    try rfl
  simp only [Act.put, List.setIfInBounds_toArray, List.set_cons_zero, List.set_cons_succ, List.getElem_toArray, List.getElem_cons_succ, List.getElem_cons_zero]
  refine wpAnyH_take (i := 5) (v := ?_) rfl (by kernel_rfl) (by kernel_rfl) (by kernel_rfl) (fun _ _ _ h => h) (Or.inl ⟨by kernel_rfl, ?_⟩) hHeld ?_
  rotate_left
  · intro W hS
    go_simp
    try rfl
  simp only [Act.put, List.setIfInBounds_toArray, List.set_cons_zero, List.set_cons_succ, List.getElem_toArray, List.getElem_cons_succ, List.getElem_cons_zero]
  refine wpAnyH_ready (rs := [4]) (by kernel_rfl) (by simp) ?_
  refine AllReadyH.cons rfl (fun K hK => ?_) AllReadyH.nil
  go_simp
  with_reducible refine (hR.out _ _).mono ?_
  rintro e w6 ⟨rfl, b6⟩
  have hH6 := hHeld.below b6 hHeld.lt
  refine hK.out _ _ hH6 (fun _ => ?_)
  clear hK K
  try simp only [Act.put, List.setIfInBounds_toArray, List.set_cons_zero, List.set_cons_succ]
  refine wpAnyH_ready (rs := [6]) (by kernel_rfl) (by simp) ?_
  refine AllReadyH.cons rfl (fun K hK => ?_) AllReadyH.nil
  go_simp
  with_reducible refine (hI.out _ _).mono ?_
  rintro e w7 ⟨rfl, b7⟩
  have hH7 := hH6.below b7 hH6.lt
  have b27 : Below w.heap.size w w7 := ((b25.trans (drew_below _ b25.size)).trans (b6.mono b25.size)).trans (b7.mono (Nat.le_trans b25.size b6.size))
  refine hK.out _ _ hH7 (fun _ => ?_)
  clear hK K
  try simp only [Act.put, List.setIfInBounds_toArray, List.set_cons_zero, List.set_cons_succ]
  refine wpAnyH_take (i := 7) (v := ?_) rfl (by kernel_rfl) (by kernel_rfl) (by kernel_rfl) (fun _ _ _ h => h) (Or.inl ⟨by kernel_rfl, ?_⟩) hH7 ?_
  rotate_left
  · intro W hS
    go_simp
    try rfl
  simp only [Act.put, List.setIfInBounds_toArray, List.set_cons_zero, List.set_cons_succ, List.getElem_toArray, List.getElem_cons_succ, List.getElem_cons_zero]
  refine wpAnyH_ready (rs := [8]) (by kernel_rfl) (by simp) ?_
  refine AllReadyH.cons rfl (fun K hK => ?_) AllReadyH.nil
  go_simp
  with_reducible refine (cB.out _ (tabs.below b27)).mono ?_
  rintro e w8 ⟨rfl, b8⟩
  have hH8 := hH7.below b8 hH7.lt
  have b28 := b27.trans (b8.mono b27.size)
  refine hK.out _ _ hH8 (fun _ => ?_)
  clear hK K
  try simp only [Act.put, List.setIfInBounds_toArray, List.set_cons_zero, List.set_cons_succ]
  refine wpAnyH_take (i := 9) (v := ?_) rfl (by kernel_rfl) (by kernel_rfl) (by kernel_rfl) (fun _ _ _ h => h) (Or.inl ⟨by kernel_rfl, ?_⟩) hH8 ?_
  rotate_left
  · intro W hS
    go_simp
    try rfl
  simp only [Act.put, List.setIfInBounds_toArray, List.set_cons_zero, List.set_cons_succ, List.getElem_toArray, List.getElem_cons_succ, List.getElem_cons_zero]
  refine wpAnyH_done (by kernel_rfl) ?_ _
  go_upto_region 9 with (first | ((with_reducible refine (hI.out _ _).mono ?_); rintro e w9 ⟨rfl, b9⟩; have b29 := b28.trans (b9.mono b28.size)) | (go_at_call 11; refine (cC.out _ (tabs.below b29)).mono ?_; rintro e w10 ⟨rfl, b10⟩; have b210 := b29.trans (b10.mono b29.size)))
  go_upto_region 10 with (first | ((with_reducible refine (hI.out _ _).mono ?_); rintro e w11 ⟨rfl, b11⟩; have b211 := b210.trans (b11.mono b210.size)) | (go_at_call 11; refine (cD.out _ (tabs.below b211)).mono ?_; rintro e w12 ⟨rfl, b12⟩; have b212 := b211.trans (b12.mono b211.size)))
  go_wp2_with (first | ((with_reducible refine (hI.out _ _).mono ?_); rintro e w13 ⟨rfl, b13⟩; have b213 := b212.trans (b13.mono b212.size)) | (go_at_call 11; refine (cF.out _ (tabs.below b213)).mono ?_; rintro e w14 ⟨rfl, b14⟩; have b214 := b213.trans (b14.mono b213.size)))
  go_ret
  exact ⟨rfl, b214⟩
set_option maxRecDepth 20000 in
set_option maxHeartbeats 8000000 in
theorem short_hi (w : World) (tabs : Tabs w) {op r v : Int} (hop : 0 ≤ op ∧ op ≤ 255) (hr : 0 ≤ r ∧ r ≤ 255) (hv : 0 ≤ v ∧ v ≤ 4294967295) (hf : fitI v = false) (q1 : ((-128 : Int) ≤ wrap32 v) = True) (q2 : (wrap32 v < 128) = False) :
    Calls Tryd.prog 6 #[.int .u8 op, .int .u8 r, .int .u32 v] w fun e w' => e = .returned (.bool true) ∧ Below w.heap.size w w' := by
  obtain ⟨m, hm⟩ := Int.eq_ofNat_of_zero_le (show 0 ≤ op % 8 by omega)
  have hm8 : m < 8 := by omega
  have hm2 : op.tmod 8 = (m : Int) := by rw [Int.tmod_eq_emod_of_nonneg hop.1]; exact hm
  have hb2 : (0 : Int) ≤ (m : Int) ∧ (m : Int) < 8 := by omega
  have hk : 1 ≤ r % 7 + 1 ∧ r % 7 + 1 < 8 := by omega
  have hc : 0 ≤ op % 16 ∧ op % 16 ≤ 15 := by omega
  have hA := lenA hm8 hk hv
  have hB := lenB hm8 hv
  have hC := lenC hv
  have hD := lenD hv
  have hF := lenF hc hv
  rw [hf] at hA hB hC hD hF
  have cA := Lib.hid (fun W t => Len_at (wd_ri hv) hA W t)
  have cB := Lib.hid (fun W t => Len_at (wd_ri hv) hB W t)
  have cC := Lib.hid (fun W t => Len_at (wd_i hv) hC W t)
  have cD := Lib.hid (fun W t => Len_at (wd_i hv) hD W t)
  have cF := Lib.hid (fun W t => Len_at (wd_i hv) hF W t)
  have hR := Lib.hid (fun n W => lreg_any n W)
  have hI := Lib.hid (fun n W => limm_any n W)
  have hK := Lib.hid (known_any w tabs)
  clear hA hB hC hD hF hf
  go_enter Tryd.func6, Tryd.ntmps6
  go_upto_region 6 with (first | ((with_reducible refine hK.out.mono ?_); rintro e W1 ⟨rfl, b1⟩))
  have kB := Blk.new W1 43 ops8
  have b2 := b1.alloc b1.size (.cells ops8 43)
  generalize W1.alloc (.cells ops8 43) = W2 at *
  generalize W1.heap.size = B at *
  have hB2 := kB.lt
  refine wp_region_held_drew (S := fun W => Blk W B 43 ops8) (by kernel_rfl) kB.drew (fun hHeld => ?_)
  refine wpAnyH_take (i := 0) (v := ?_) rfl (by kernel_rfl) (by kernel_rfl) (by kernel_rfl) (fun _ _ _ h => h) (Or.inl ⟨by kernel_rfl, ?_⟩) hHeld ?_
  rotate_left
  · intro W hS
    go_simp
    try rfl
  simp only [Act.put, List.setIfInBounds_toArray, List.set_cons_zero, List.set_cons_succ, List.getElem_toArray, List.getElem_cons_succ, List.getElem_cons_zero]
  refine wpAnyH_take (i := 1) (v := ?_) rfl (by kernel_rfl) (by kernel_rfl) (by kernel_rfl) (fun _ _ _ h => h) (Or.inl ⟨by kernel_rfl, ?_⟩) hHeld ?_
  rotate_left
  · intro W hS
    go_simp
    try rfl
  simp only [Act.put, List.setIfInBounds_toArray, List.set_cons_zero, List.set_cons_succ, List.getElem_toArray, List.getElem_cons_succ, List.getElem_cons_zero]
  refine wpAnyH_take (i := 2) (v := ?_) rfl (by kernel_rfl) (by kernel_rfl) (by kernel_rfl) (fun _ _ _ h => h) (Or.inl ⟨by kernel_rfl, ?_⟩) hHeld ?_
  rotate_left
  · intro W hS
    go_simp
    try rfl
  simp only [Act.put, List.setIfInBounds_toArray, List.set_cons_zero, List.set_cons_succ, List.getElem_toArray, List.getElem_cons_succ, List.getElem_cons_zero]
  refine wpAnyH_take (i := 3) (v := ?_) rfl (by kernel_rfl) (by kernel_rfl) (by kernel_rfl) (fun _ _ _ h => h) (Or.inl ⟨by kernel_rfl, ?_⟩) hHeld ?_
  rotate_left
  · intro W hS
    have cm := ops8_at hS hm8
    go_simp
    try rfl
  simp only [Act.put, List.setIfInBounds_toArray, List.set_cons_zero, List.set_cons_succ, List.getElem_toArray, List.getElem_cons_succ, List.getElem_cons_zero]
  refine wpAnyH_take (i := 4) (v := ?_) rfl (by kernel_rfl) (by kernel_rfl) (by kernel_rfl) (fun _ _ _ h => h) (Or.inl ⟨by kernel_rfl, ?_⟩) hHeld ?_
  rotate_left
  · intro W hS
    go_simp
    try rfl
  simp only [Act.put, List.setIfInBounds_toArray, List.set_cons_zero, List.set_cons_succ, List.getElem_toArray, List.getElem_cons_succ, List.getElem_cons_zero]
  refine wpAnyH_take (i := 6) (v := ?_) rfl (by kernel_rfl) (by kernel_rfl) (by kernel_rfl) (fun _ _ _ h => h) (Or.inl ⟨by kernel_rfl, ?_⟩) hHeld ?_
  rotate_left
  · intro W hS
    go_simp
    try rfl
  simp only [Act.put, List.setIfInBounds_toArray, List.set_cons_zero, List.set_cons_succ, List.getElem_toArray, List.getElem_cons_succ, List.getElem_cons_zero]
  refine wpAnyH_ready (rs := [5]) (by kernel_rfl) (by simp) ?_
  refine AllReadyH.cons rfl (fun K hK => ?_) AllReadyH.nil
  go_simp
  with_reducible refine (hR.out _ _).mono ?_
  rintro e w3 ⟨rfl, b3⟩
  have hH3 := hHeld.below b3 hHeld.lt
  refine hK.out _ _ hH3 (fun _ => ?_)
  clear hK K
  try simp only [Act.put, List.setIfInBounds_toArray, List.set_cons_zero, List.set_cons_succ]
  refine wpAnyH_ready (rs := [7]) (by kernel_rfl) (by simp) ?_
  refine AllReadyH.cons rfl (fun K hK => ?_) AllReadyH.nil
  go_simp
  with_reducible refine (hI.out _ _).mono ?_
  rintro e w4 ⟨rfl, b4⟩
  have hH4 := hH3.below b4 hH3.lt
  have b24 : Below w.heap.size w w4 := ((b2.trans (drew_below _ b2.size)).trans (b3.mono b2.size)).trans (b4.mono (Nat.le_trans b2.size b3.size))
  refine hK.out _ _ hH4 (fun _ => ?_)
  clear hK K
  try simp only [Act.put, List.setIfInBounds_toArray, List.set_cons_zero, List.set_cons_succ]
  refine wpAnyH_take (i := 8) (v := ?_) rfl (by kernel_rfl) (by kernel_rfl) (by kernel_rfl) (fun _ _ _ h => h) (Or.inl ⟨by kernel_rfl, ?_⟩) hH4 ?_
  rotate_left
  · intro W hS
    go_simp
    try rfl
  simp only [Act.put, List.setIfInBounds_toArray, List.set_cons_zero, List.set_cons_succ, List.getElem_toArray, List.getElem_cons_succ, List.getElem_cons_zero]
  refine wpAnyH_ready (rs := [9]) (by kernel_rfl) (by simp) ?_
  refine AllReadyH.cons rfl (fun K hK => ?_) AllReadyH.nil
  go_simp
  with_reducible refine (cA.out _ (tabs.below b24)).mono ?_
  rintro e w5 ⟨rfl, b5⟩
  have hH5 := hH4.below b5 hH4.lt
  have b25 := b24.trans (b5.mono b24.size)
  refine hK.out _ _ hH5 (fun _ => ?_)
  clear hK K
  try simp only [Act.put, List.setIfInBounds_toArray, List.set_cons_zero, List.set_cons_succ]
  refine wpAnyH_take (i := 10) (v := ?_) rfl (by kernel_rfl) (by kernel_rfl) (by kernel_rfl) (fun _ _ _ h => h) (Or.inl ⟨by kernel_rfl, ?_⟩) hH5 ?_
  rotate_left
  · intro W hS
    go_simp
    try rfl
  simp only [Act.put, List.setIfInBounds_toArray, List.set_cons_zero, List.set_cons_succ, List.getElem_toArray, List.getElem_cons_succ, List.getElem_cons_zero]
  refine wpAnyH_done (by kernel_rfl) ?_ _
  go_upto_region 7 with fail
  refine wp_region_held_drew (S := fun W => Blk W B 43 ops8) (by kernel_rfl) hH5.drew (fun hHeld => ?_)
  refine wpAnyH_take (i := 0) (v := ?_) rfl (by kernel_rfl) (by kernel_rfl) (by kernel_rfl) (fun _ _ _ h => h) (Or.inl ⟨by kernel_rfl, ?_⟩) hHeld ?_
  rotate_left
  · intro W hS
    go_simp
    try rfl
  simp only [Act.put, List.setIfInBounds_toArray, List.set_cons_zero, List.set_cons_succ, List.getElem_toArray, List.getElem_cons_succ, List.getElem_cons_zero]
  refine wpAnyH_take (i := 1) (v := ?_) rfl (by kernel_rfl) (by kernel_rfl) (by kernel_rfl) (fun _ _ _ h => h) (Or.inl ⟨by kernel_rfl, ?_⟩) hHeld ?_
  rotate_left
  · intro W hS
    go_simp
    try rfl
  simp only [Act.put, List.setIfInBounds_toArray, List.set_cons_zero, List.set_cons_succ, List.getElem_toArray, List.getElem_cons_succ, List.getElem_cons_zero]
  refine wpAnyH_take (i := 2) (v := ?_) rfl (by kernel_rfl) (by kernel_rfl) (by kernel_rfl) (fun _ _ _ h => h) (Or.inl ⟨by kernel_rfl, ?_⟩) hHeld ?_
  rotate_left
  · intro W hS
    go_simp
    try rfl
  simp only [Act.put, List.setIfInBounds_toArray, List.set_cons_zero, List.set_cons_succ, List.getElem_toArray, List.getElem_cons_succ, List.getElem_cons_zero]
  refine wpAnyH_take (i := 3) (v := ?_) rfl (by kernel_rfl) (by kernel_rfl) (by kernel_rfl) (fun _ _ _ h => h) (Or.inl ⟨by kernel_rfl, ?_⟩) hHeld ?_
  rotate_left
  · intro W hS
    have cm := ops8_at hS hm8
    go_simp
    try rfl
  simp only [Act.put, List.setIfInBounds_toArray, List.set_cons_zero, List.set_cons_succ, List.getElem_toArray, List.getElem_cons_succ, List.getElem_cons_zero]
  refine wpAnyH_take (i := 5) (v := ?_) rfl (by kernel_rfl) (by kernel_rfl) (by kernel_rfl) (fun _ _ _ h => h) (Or.inl ⟨by kernel_rfl, ?_⟩) hHeld ?_
  rotate_left
  · intro W hS
    go_simp
    try rfl
  simp only [Act.put, List.setIfInBounds_toArray, List.set_cons_zero, List.set_cons_succ, List.getElem_toArray, List.getElem_cons_succ, List.getElem_cons_zero]
  refine wpAnyH_ready (rs := [4]) (by kernel_rfl) (by simp) ?_
  refine AllReadyH.cons rfl (fun K hK => ?_) AllReadyH.nil
  go_simp
  with_reducible refine (hR.out _ _).mono ?_
  rintro e w6 ⟨rfl, b6⟩
  have hH6 := hHeld.below b6 hHeld.lt
  refine hK.out _ _ hH6 (fun _ => ?_)
  clear hK K
  try simp only [Act.put, List.setIfInBounds_toArray, List.set_cons_zero, List.set_cons_succ]
  refine wpAnyH_ready (rs := [6]) (by kernel_rfl) (by simp) ?_
  refine AllReadyH.cons rfl (fun K hK => ?_) AllReadyH.nil
  go_simp
  with_reducible refine (hI.out _ _).mono ?_
  rintro e w7 ⟨rfl, b7⟩
  have hH7 := hH6.below b7 hH6.lt
  have b27 : Below w.heap.size w w7 := ((b25.trans (drew_below _ b25.size)).trans (b6.mono b25.size)).trans (b7.mono (Nat.le_trans b25.size b6.size))
  refine hK.out _ _ hH7 (fun _ => ?_)
  clear hK K
  try simp only [Act.put, List.setIfInBounds_toArray, List.set_cons_zero, List.set_cons_succ]
  refine wpAnyH_take (i := 7) (v := ?_) rfl (by kernel_rfl) (by kernel_rfl) (by kernel_rfl) (fun _ _ _ h => h) (Or.inl ⟨by kernel_rfl, ?_⟩) hH7 ?_
  rotate_left
  · intro W hS
    go_simp
    try rfl
  simp only [Act.put, List.setIfInBounds_toArray, List.set_cons_zero, List.set_cons_succ, List.getElem_toArray, List.getElem_cons_succ, List.getElem_cons_zero]
  refine wpAnyH_ready (rs := [8]) (by kernel_rfl) (by simp) ?_
  refine AllReadyH.cons rfl (fun K hK => ?_) AllReadyH.nil
  go_simp
  with_reducible refine (cB.out _ (tabs.below b27)).mono ?_
  rintro e w8 ⟨rfl, b8⟩
  have hH8 := hH7.below b8 hH7.lt
  have b28 := b27.trans (b8.mono b27.size)
  refine hK.out _ _ hH8 (fun _ => ?_)
  clear hK K
  try simp only [Act.put, List.setIfInBounds_toArray, List.set_cons_zero, List.set_cons_succ]
  refine wpAnyH_take (i := 9) (v := ?_) rfl (by kernel_rfl) (by kernel_rfl) (by kernel_rfl) (fun _ _ _ h => h) (Or.inl ⟨by kernel_rfl, ?_⟩) hH8 ?_
  rotate_left
  · intro W hS
    go_simp
    try rfl
  simp only [Act.put, List.setIfInBounds_toArray, List.set_cons_zero, List.set_cons_succ, List.getElem_toArray, List.getElem_cons_succ, List.getElem_cons_zero]
  refine wpAnyH_done (by kernel_rfl) ?_ _
  go_upto_region 9 with (first | ((with_reducible refine (hI.out _ _).mono ?_); rintro e w9 ⟨rfl, b9⟩; have b29 := b28.trans (b9.mono b28.size)) | (go_at_call 11; refine (cC.out _ (tabs.below b29)).mono ?_; rintro e w10 ⟨rfl, b10⟩; have b210 := b29.trans (b10.mono b29.size)))
  go_upto_region 10 with (first | ((with_reducible refine (hI.out _ _).mono ?_); rintro e w11 ⟨rfl, b11⟩; have b211 := b210.trans (b11.mono b210.size)) | (go_at_call 11; refine (cD.out _ (tabs.below b211)).mono ?_; rintro e w12 ⟨rfl, b12⟩; have b212 := b211.trans (b12.mono b211.size)))
  go_wp2_with (first | ((with_reducible refine (hI.out _ _).mono ?_); rintro e w13 ⟨rfl, b13⟩; have b213 := b212.trans (b13.mono b212.size)) | (go_at_call 11; refine (cF.out _ (tabs.below b213)).mono ?_; rintro e w14 ⟨rfl, b14⟩; have b214 := b213.trans (b14.mono b213.size)))
  go_ret
  exact ⟨rfl, b214⟩
theorem short_any (w : World) (tabs : Tabs w) {op r v : Int} (hop : 0 ≤ op ∧ op ≤ 255) (hr : 0 ≤ r ∧ r ≤ 255) (hv : 0 ≤ v ∧ v ≤ 4294967295) :
    Calls Tryd.prog 6 #[.int .u8 op, .int .u8 r, .int .u32 v] w fun e w' => e = .returned (.bool true) ∧ Below w.heap.size w w' := by
  have hw : wrap32 v = if v < 2147483648 then v else v - 4294967296 := by unfold wrap32; split <;> omega
  by_cases h1 : v < 128
  · exact short_fit w tabs hop hr hv (by rw [fit_iff hv]; simp [h1]) (eq_true (by rw [hw]; split <;> omega)) (eq_true (by rw [hw]; split <;> omega))
  · by_cases h2 : 4294967168 ≤ v
    · exact short_fit w tabs hop hr hv (by rw [fit_iff hv]; simp [h2]) (eq_true (by rw [hw]; split <;> omega)) (eq_true (by rw [hw]; split <;> omega))
    · have hf : fitI v = false := by rw [fit_iff hv]; simp; omega
      by_cases h3 : v < 2147483648
      · exact short_hi w tabs hop hr hv hf (eq_true (by rw [hw]; split <;> omega)) (eq_false (by rw [hw]; split <;> omega))
      · exact short_lo w tabs hop hr hv hf (eq_false (by rw [hw]; split <;> omega))
end Go.Proofs.YtbfkgakkkibejaaDoor
