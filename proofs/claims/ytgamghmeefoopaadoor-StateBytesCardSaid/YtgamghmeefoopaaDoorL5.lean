/- StateBytes. -/
import Derived.Test.YtgamghmeefoopaaDoorL3
import Derived.Test.YtgamghmeefoopaaDoorA1
namespace Go.Proofs.YtgamghmeefoopaaDoor
open Go.RowKit
set_option linter.unusedVariables false
set_option linter.unusedSimpArgs false
set_option linter.unusedSectionVars false

/-- A state with other registers. -/
def gR (g : Gs) (r : Nat → Int) : Gs := { g with r := r }
def setR (r : Nat → Int) (i : Nat) (v : Int) : Nat → Int := fun k => if k = i % 4 then setB (r (i % 4)) (i / 4) v else r k
theorem set8_gR (g : Gs) (r : Nat → Int) (i : Nat) (v : Int) : set8L (gR g r) i v = gR g (setR r i v) := rfl
def regR (r : Nat → Int) (j : Nat) : Int := byteL (r (j % 4)) (j / 4)
theorem reg8_gR (g : Gs) (r : Nat → Int) (j : Nat) : reg8L (gR g r) j = regR r j := rfl
theorem set_get (r : Nat → Int) (i j : Nat) (hi : i < 8) (hj : j < 8) (v : Int) : regR (setR r i v) j = if j = i then v % 256 else regR r j := by
  unfold regR setR
  by_cases e : j % 4 = i % 4
  · rw [if_pos e]
    by_cases e2 : j = i
    · subst e2
      rw [if_pos rfl]
      unfold byteL setB
      by_cases h : j / 4 = 0
      · rw [if_pos h, if_pos h]; omega
      · rw [if_neg h, if_neg h]; omega
    · rw [if_neg e2, e]
      unfold byteL setB
      rcases (by omega : (i / 4 = 0 ∧ j / 4 = 1) ∨ (i / 4 = 1 ∧ j / 4 = 0)) with ⟨h1, h2⟩ | ⟨h1, h2⟩
      · rw [h1, h2, if_pos rfl, if_neg (by decide), if_neg (by decide)]; omega
      · rw [h1, h2, if_pos rfl, if_neg (by decide), if_pos rfl]; omega
  · rw [if_neg e, if_neg (by intro h; subst h; exact e rfl)]
theorem set_high (r : Nat → Int) (i k : Nat) (v : Int) : setR r i v k / 65536 = r k / 65536 := by
  unfold setR
  by_cases e : k = i % 4
  · rw [if_pos e, ← e]
    unfold setB
    split <;> omega
  · rw [if_neg e]
theorem set_far (r : Nat → Int) (i k : Nat) (v : Int) (h : 4 ≤ k) : setR r i v k = r k := by
  unfold setR
  rw [if_neg (by omega)]
theorem gR_ok {g : Gs} (h : g.ok) {r : Nat → Int} (hr : ∀ i, 0 ≤ r i ∧ r i ≤ 4294967295) : (gR g r).ok := ⟨hr, h.pc, h.x⟩
theorem setR_bd {r : Nat → Int} (hr : ∀ i, 0 ≤ r i ∧ r i ≤ 4294967295) (i : Nat) (v : Int) : ∀ k, 0 ≤ setR r i v k ∧ setR r i v k ≤ 4294967295 := fun k => by
  unfold setR
  split
  · exact setB_bd (hr _) _
  · exact hr _
/-- What the statement's own list of bytes and the registers have to do with one another. -/
structure Inv (g : Gs) (r q : Nat → Int) : Prop where
  bd : ∀ i, 0 ≤ r i ∧ r i ≤ 4294967295
  q : ∀ j, j < 8 → regR r j = q j
  hi : ∀ j, r j / 65536 = g.r j / 65536
  far : ∀ j, 4 ≤ j → r j = g.r j
theorem Inv.start {g : Gs} (h : g.ok) {q : Nat → Int} (hq : ∀ j, j < 8 → q j = reg8L g j) : Inv g g.r q := ⟨h.r, fun j hj => (hq j hj).symm, fun _ => rfl, fun _ _ => rfl⟩
theorem Inv.step {g : Gs} {r q : Nat → Int} (I : Inv g r q) (i : Nat) (hi : i < 8) (z : Int) (hz : 0 ≤ z ∧ z ≤ 255) : Inv g (setR r i (z + 703488)) (fun j => if j = i then z else q j) := by
  refine ⟨setR_bd I.bd i _, fun j hj => ?_, fun j => ?_, fun j hj => ?_⟩
  · rw [set_get r i j hi hj, I.q j hj]
    by_cases e : j = i
    · rw [if_pos e]; show _ = if j = i then z else q j; rw [if_pos e]; omega
    · rw [if_neg e]; show _ = if j = i then z else q j; rw [if_neg e]
  · rw [set_high]; exact I.hi j
  · rw [set_far r i j _ hj]; exact I.far j hj
theorem cell_row {w : World} {C b o : Nat} {cs : Array Value} (h : C ≠ b) : (w.setRow C cs).cell? ⟨b, o, none⟩ = w.cell? ⟨b, o, none⟩ := by
  simp only [World.cell?, setRow_other w C b cs (fun e => h e.symm)]
theorem cell_set {w : World} {D j b o : Nat} {v : Value} (h : D ≠ b) : (w.setCell ⟨D, j, none⟩ v).cell? ⟨b, o, none⟩ = w.cell? ⟨b, o, none⟩ := by
  have := Below.heap_setCell w ⟨D, j, none⟩ v b (fun e => h e.symm)
  simp only [World.cell?, this]
def wantK (g : Gs) (k : Nat) : Nat → Int := fun j => if j < k then reg8L g j else 0
theorem cells8_at (a : Nat → Int) (k : Nat) (hk : k < 8) : (cells8 a)[k]? = some (.int .u32 (a k)) := by
  rcases (by omega : k = 0 ∨ k = 1 ∨ k = 2 ∨ k = 3 ∨ k = 4 ∨ k = 5 ∨ k = 6 ∨ k = 7) with rfl | rfl | rfl | rfl | rfl | rfl | rfl | rfl <;> rfl
theorem cells8_set (a : Nat → Int) (k : Nat) (hk : k < 8) (v : Int) : (cells8 a).setIfInBounds k (.int .u32 v) = cells8 (fun j => if j = k then v else a j) := by
  rcases (by omega : k = 0 ∨ k = 1 ∨ k = 2 ∨ k = 3 ∨ k = 4 ∨ k = 5 ∨ k = 6 ∨ k = 7) with rfl | rfl | rfl | rfl | rfl | rfl | rfl | rfl <;> simp [cells8]
theorem wantK_succ (g : Gs) (k : Nat) : (fun j => if j = k then reg8L g k else wantK g k j) = wantK g (k + 1) := by
  funext j
  unfold wantK
  by_cases e : j = k
  · subst e; rw [if_pos rfl, if_pos (by omega)]
  · rw [if_neg e]
    by_cases h : j < k
    · rw [if_pos h, if_pos (by omega)]
    · rw [if_neg h, if_neg (by omega)]
theorem or_abc {z : Int} (hz : 0 ≤ z ∧ z ≤ 255) : bits .or .u32 z 703488 = z + 703488 := by
  obtain ⟨Z, rfl⟩ := Int.eq_ofNat_of_zero_le hz.1
  rw [show (703488 : Int) = ((2748 * 2 ^ 8 : Nat) : Int) by decide, u32_or_nat' _ _ (by omega) (by decide), or_add 8 (by omega), Int.natCast_add]
theorem ix_r8u (b k : Nat) (h : k < 8) (W : World) : (Instr.indexAt 23 (.pointer (some ⟨b, 0, none⟩)) (.int .u8 (k : Int))).run Tryd.prog W = .ok (.pointer (some ⟨b, k, none⟩)) W := by
  have s1 : ∀ W, (sizeOf 22).run Tryd.prog W = .ok 1 W := fun W => by kernel_rfl
  have hj : (k : Int) < 8 := by omega
  simp [Instr.indexAt, run_underlying Tryd.underlying23, s1, go_sem, hj, h, Instr.sureAddr]
theorem ix_r4 (b k : Nat) (h : k < 4) (W : World) : (Instr.indexAt 23 (.pointer (some ⟨b, 0, none⟩)) (.int .i64 ((k : Int) + 4))).run Tryd.prog W = .ok (.pointer (some ⟨b, k + 4, none⟩)) W := by
  have := ix_r8 b (k + 4) (by omega) W
  rwa [Int.natCast_add] at this
theorem ix_by (b off len cap k : Nat) (h : k < len) (W : World) : (Instr.indexAt 49 (.slice (some ⟨b, off, none⟩) len cap) (.int .i64 (k : Int))).run Tryd.prog W = .ok (.pointer (some ⟨b, off + k, none⟩)) W := by
  have s1 : ∀ W, (sizeOf 5).run Tryd.prog W = .ok 1 W := fun W => by kernel_rfl
  simp [Instr.indexAt, run_underlying Tryd.underlying49, s1, go_sem, h]
theorem Reg8K (g : Gs) (h : g.ok) (k : Nat) (hk : k < 8) (w : World) : Calls Tryd.prog 10 #[stV g, .int .i64 (k : Int)] w fun e w' => e = .returned (.int .u32 (reg8L g k)) ∧ Below w.heap.size w w' := by
  have := Reg8_any g h (k : Int) (by omega) w
  rwa [show no8 (k : Int) = k by unfold no8; omega] at this
set_option maxHeartbeats 4000000 in
theorem bytes_walk (g : Gs) (hg : g.ok) (al : Option Addr) (ln cl : Nat) (Zl : Nat → Int) (av : Option Addr) (lv cv : Nat) (Zv : Nat → Int) (w : World) (tabs : Tabs w) (hl : BytesAt w al ln Zl) (hv : BytesAt w av lv Zv) :
    Calls Tryd.prog 6 #[stV g, .slice al ln cl, .slice av lv cv] w fun e w' => e = .returned (.bool true) ∧ Below w.heap.size w w' := by
  have hsK : (Tryd.prog.info? 28).map (·.size) = some (stA g).size := sz17
  have hsZ : z17.size = (stA g).size := rfl
  have kb : Below w.heap.size w (w.alloc (.cells (stA g) 28)) := (Below.refl _ _).alloc (Nat.le_refl _) _
  have kC := Blk.new w 28 (stA g)
  have t2 := tabs.below kb
  by_cases hlen : ln ≤ 20 ∧ ln ≤ lv
  rotate_left
  · have hd : (¬ ((ln : Int) ≤ 20)) ∨ ((ln : Int) ≤ 20 ∧ (lv : Int) < (ln : Int)) := by omega
    go_enter Tryd.func6, Tryd.ntmps6
    go_wp2_with fail
    refine (known_any _ t2).mono ?_
    rintro e w1 ⟨rfl, b1⟩
    replace kb := kb.trans (b1.mono (by simp))
    clear kC t2 b1
    rcases hd with hd | ⟨hd1, hd2⟩
    · go_wp2_with fail
      go_ret
      exact ⟨rfl, kb⟩
    · go_wp2_with fail
      go_ret
      exact ⟨rfl, kb⟩
  obtain ⟨hl20, hlv⟩ := hlen
  have hl20i : (ln : Int) ≤ 20 := by omega
  have hlvi : (ln : Int) ≤ (lv : Int) := by omega
  have hd1 : decide (lv < ln) = false := by simp; omega
  have hd2 : decide ((20 : Int) < (ln : Int)) = false := by simp; omega
  go_enter Tryd.func6, Tryd.ntmps6
  go_wp2_with fail
  refine (known_any _ t2).mono ?_
  rintro e w1 ⟨rfl, b1⟩
  replace kb := kb.trans (b1.mono (by simp))
  replace kC := kC.below b1 (by simp)
  clear t2 b1
  generalize hN : w.heap.size = N at *
  go_wp2_with fail
  have kD : Blk (w1.alloc (.cells (cells8 (wantK g 0)) 23)) w1.heap.size 23 (cells8 (wantK g 0)) := Blk.new w1 _ _
  have kb2 := kb.alloc (by have := kb.size; omega) (.cells (cells8 (wantK g 0)) 23)
  have kC2 := kC.alloc (.cells (cells8 (wantK g 0)) 23)
  have hND := kC.lt
  clear kb kC
  generalize w1.heap.size = D at *
  try simp only [hd1, hd2, Bool.or_self]
  go_loopw [8] (fun ii W => ∃ k : Nat, k ≤ 8 ∧ ii = .int .i64 k ∧ Blk W N 28 (stA g) ∧ Blk W D 23 (cells8 (wantK g k)) ∧ Below N w W) (fun ii _ => (8 - intOf ii).toNat)
  case atStart => exact ⟨0, by omega, rfl, kC2, kD, kb2⟩
  case round =>
    clear kC2 kD kb2
    obtain ⟨k, hk, hi, kC, kD, kb⟩ := hrel
    obtain rfl : _ = Value.int .i64 (k : Int) := hi
    by_cases h8 : k < 8
    · have hz : ((k : Int) < 8) = True := eq_true (by omega)
      have hR := fun W => Reg8K g hg k h8 W
      replace hR := Lib.hid hR
      have hix := ix_r8 D k h8
      go_wp2_with (first | with_reducible refine wpList_load_row rfl 28 _ rfl N rfl 28 _ (0, 0) _ kC.h Tryd.underlying28 rfl hsK ?_ | (with_reducible refine (hR.out _).mono ?_; rintro e w2 ⟨rfl, b2⟩; replace kC := kC.below b2 kC.lt; replace kb := kb.trans (b2.mono (by have := kb.size; omega)); replace kD := kD.below b2 kD.lt; have q := kD.cell (cells8_at (wantK g k) k h8); have fr := kD.fr k))
      go_roundw
      case rel =>
        have kG := kD.set k (.int .u32 (reg8L g k))
        rw [cells8_set _ k h8, wantK_succ] at kG
        exact ⟨k + 1, by omega, by go_num, kC.other _ _ (by omega), kG, kb.setCell (by show N ≤ D; omega) _⟩
      case measure => simp [intOf]; omega
    · obtain rfl : k = 8 := by omega
      have I0 : Inv g g.r (wantK g 8) := Inv.start hg fun j hj => by unfold wantK; rw [if_pos hj]
      generalize wantK g 8 = q0 at *
      go_wp2_with (first | with_reducible refine wpList_load_row rfl 28 _ rfl N rfl 28 _ (0, 0) _ kC.h Tryd.underlying28 rfl hsK ?_ | (with_reducible refine wpList_store_row rfl 28 _ _ rfl wr.heap.size (stA g) rfl rfl 28 z17 (alloc_new _ _) hsK hsZ (stA_one g) ?_; rw [World.setRow_alloc_new]))
      have kT : Blk (wr.alloc (.cells (stA g) 28)) wr.heap.size 28 (stA (gR g g.r)) := Blk.new wr 28 (stA g)
      have kb2 := kb.alloc (by have := kb.size; omega) (.cells (stA g) 28)
      have kC2 := kC.alloc (.cells (stA g) 28)
      have kD2 := kD.alloc (.cells (stA g) 28)
      have hDC := kD.lt
      clear kb kC kD
      generalize wr.heap.size = C at *
      generalize wr.alloc (.cells (stA g) 28) = w5 at *
      go_loopw [10] (fun ii W => ∃ (k : Nat) (r q : Nat → Int), k ≤ ln ∧ ii = .int .i64 k ∧ Inv g r q ∧ Blk W N 28 (stA g) ∧ Blk W C 28 (stA (gR g r)) ∧ Blk W D 23 (cells8 q) ∧ Below N w W) (fun ii _ => (ln - intOf ii).toNat)
      case atStart => exact ⟨0, g.r, q0, by omega, rfl, I0, kC2, kT, kD2, kb2⟩
      case round =>
        clear kC2 kT kD2 kb2 I0
        obtain ⟨k, r, q, hk, hi, I, kC, kT, kD, kb⟩ := hrel
        obtain rfl : _ = Value.int .i64 (k : Int) := hi
        by_cases hkl : k < ln
        · rcases hl with h0 | ⟨bl, ol, rfl, hcl⟩
          · omega
          rcases hv with h0 | ⟨bv, ov, rfl, hcv⟩
          · omega
          obtain ⟨cl0, zl⟩ := hcl k hkl
          obtain ⟨cv0, zv⟩ := hcv k (by omega)
          clear hcl hcv
          have hbl := size_of_cell cl0
          have hbv := size_of_cell cv0
          have hS0 : wr.cell? ⟨bl, ol + k, none⟩ = some (.int .u8 (Zl k)) ∧ wr.cell? ⟨bv, ov + k, none⟩ = some (.int .u8 (Zv k)) := ⟨(kb.cell (p := ⟨bl, ol + k, none⟩) (by show bl < N; omega)).trans cl0, (kb.cell (p := ⟨bv, ov + k, none⟩) (by show bv < N; omega)).trans cv0⟩
          generalize Zl k = z at *
          generalize Zv k = y at *
          obtain ⟨j, hj⟩ := Int.eq_ofNat_of_zero_le (show 0 ≤ z % 8 by omega)
          have hj8 : j < 8 := by omega
          have I2 := I.step j hj8 y zv
          have qS := fun W => SetReg8_any (gR g r) (gR_ok hg I.bd) z (y + 703488) (by omega) (by omega) W
          rw [show no8 z = j by unfold no8; omega, set8_gR] at qS
          have hsT : (Tryd.prog.info? 28).map (·.size) = some (stA (gR g r)).size := sz17
          generalize setR r j (y + 703488) = r2 at *
          have hsU : (Tryd.prog.info? 28).map (·.size) = some (stA (gR g r2)).size := sz17
          have hoU : (stA (gR g r)).size = (stA (gR g r2)).size := rfl
          have hcU : (stA (gR g r2)).all (·.oneCell') = true := stA_one _
          replace qS := Lib.hid qS
          have hor := or_abc zv
          have hixl := ix_by bl ol ln cl k hkl
          have hixv := ix_by bv ov lv cv k (by omega)
          have hixd := ix_r8u D j hj8
          have ht : Int.tmod z 8 = (j : Int) := by rw [Int.tmod_eq_emod_of_nonneg (by omega)]; exact hj
          have hz : ((k : Int) < (ln : Int)) = True := eq_true (by omega)
          have hzc : IntKind.i64.wrap z = z := by rw [IntKind.wrap_i64]; omega
          have hyc : IntKind.u32.wrap y = y := by rw [IntKind.wrap_u32]; omega
          go_wp2_with fail
          have hSB := kb.size
          rw [hN] at hSB
          have hS1 : wr.drew.cell? ⟨bl, ol + k, none⟩ = some (.int .u8 z) ∧ wr.drew.cell? ⟨bv, ov + k, none⟩ = some (.int .u8 y) := hS0
          replace kb := kb.drew
          replace kC := kC.drew
          replace kT := kT.drew
          replace kD := kD.drew
          replace hSB : N ≤ wr.drew.heap.size := hSB
          clear hS0 cl0 cv0
          refine wp_region_held_drew (S := fun W => W.cell? ⟨bl, ol + k, none⟩ = some (.int .u8 z) ∧ W.cell? ⟨bv, ov + k, none⟩ = some (.int .u8 y)) (by kernel_rfl) hS1 (fun hH0 => ?_)
          refine wpAnyH_take (i := 1) (v := ?_) rfl (by kernel_rfl) (by kernel_rfl) (by kernel_rfl) (fun _ _ _ h => h) (Or.inl ⟨by kernel_rfl, ?_⟩) hH0 ?_
          rotate_left
          · intro W hS
            go_simp
            try rfl
          simp only [Act.put, List.setIfInBounds_toArray, List.set_cons_zero, List.set_cons_succ, List.getElem_toArray, List.getElem_cons_succ, List.getElem_cons_zero]
          refine wpAnyH_take (i := 2) (v := ?_) rfl (by kernel_rfl) (by kernel_rfl) (by kernel_rfl) (fun _ _ _ h => h) (Or.inl ⟨by kernel_rfl, ?_⟩) hH0 ?_
          rotate_left
          · intro W hS
            go_simp
            try rfl
          simp only [Act.put, List.setIfInBounds_toArray, List.set_cons_zero, List.set_cons_succ, List.getElem_toArray, List.getElem_cons_succ, List.getElem_cons_zero]
          refine wpAnyH_take (i := 3) (v := ?_) rfl (by kernel_rfl) (by kernel_rfl) (by kernel_rfl) (fun _ _ _ h => h) (Or.inl ⟨by kernel_rfl, ?_⟩) hH0 ?_
          rotate_left
          · intro W hS
            go_simp
            try rfl
          simp only [Act.put, List.setIfInBounds_toArray, List.set_cons_zero, List.set_cons_succ, List.getElem_toArray, List.getElem_cons_succ, List.getElem_cons_zero]
          refine wpAnyH_take (i := 4) (v := ?_) rfl (by kernel_rfl) (by kernel_rfl) (by kernel_rfl) (fun _ _ _ h => h) (Or.inl ⟨by kernel_rfl, ?_⟩) hH0 ?_
          rotate_left
          · intro W hS
            have cc := hS.1
            go_simp
            try rfl
          simp only [Act.put, List.setIfInBounds_toArray, List.set_cons_zero, List.set_cons_succ, List.getElem_toArray, List.getElem_cons_succ, List.getElem_cons_zero]
          refine wpAnyH_take (i := 5) (v := ?_) rfl (by kernel_rfl) (by kernel_rfl) (by kernel_rfl) (fun _ _ _ h => h) (Or.inl ⟨by kernel_rfl, ?_⟩) hH0 ?_
          rotate_left
          · intro W hS
            go_simp
            try rfl
          simp only [Act.put, List.setIfInBounds_toArray, List.set_cons_zero, List.set_cons_succ, List.getElem_toArray, List.getElem_cons_succ, List.getElem_cons_zero]
          refine wpAnyH_take (i := 6) (v := ?_) rfl (by kernel_rfl) (by kernel_rfl) (by kernel_rfl) (fun _ _ _ h => h) (Or.inl ⟨by kernel_rfl, ?_⟩) hH0 ?_
          rotate_left
          · intro W hS
            go_simp
            try rfl
          simp only [Act.put, List.setIfInBounds_toArray, List.set_cons_zero, List.set_cons_succ, List.getElem_toArray, List.getElem_cons_succ, List.getElem_cons_zero]
          refine wpAnyH_take (i := 7) (v := ?_) rfl (by kernel_rfl) (by kernel_rfl) (by kernel_rfl) (fun _ _ _ h => h) (Or.inl ⟨by kernel_rfl, ?_⟩) hH0 ?_
          rotate_left
          · intro W hS
            go_simp
            try rfl
          simp only [Act.put, List.setIfInBounds_toArray, List.set_cons_zero, List.set_cons_succ, List.getElem_toArray, List.getElem_cons_succ, List.getElem_cons_zero]
          refine wpAnyH_take (i := 8) (v := ?_) rfl (by kernel_rfl) (by kernel_rfl) (by kernel_rfl) (fun _ _ _ h => h) (Or.inl ⟨by kernel_rfl, ?_⟩) hH0 ?_
          rotate_left
          · intro W hS
            go_simp
            try rfl
          simp only [Act.put, List.setIfInBounds_toArray, List.set_cons_zero, List.set_cons_succ, List.getElem_toArray, List.getElem_cons_succ, List.getElem_cons_zero]
          refine wpAnyH_take (i := 9) (v := ?_) rfl (by kernel_rfl) (by kernel_rfl) (by kernel_rfl) (fun _ _ _ h => h) (Or.inl ⟨by kernel_rfl, ?_⟩) hH0 ?_
          rotate_left
          · intro W hS
            have cc := hS.2
            go_simp
            try rfl
          simp only [Act.put, List.setIfInBounds_toArray, List.set_cons_zero, List.set_cons_succ, List.getElem_toArray, List.getElem_cons_succ, List.getElem_cons_zero]
          refine wpAnyH_take (i := 10) (v := ?_) rfl (by kernel_rfl) (by kernel_rfl) (by kernel_rfl) (fun _ _ _ h => h) (Or.inl ⟨by kernel_rfl, ?_⟩) hH0 ?_
          rotate_left
          · intro W hS
            go_simp
            try rfl
          simp only [Act.put, List.setIfInBounds_toArray, List.set_cons_zero, List.set_cons_succ, List.getElem_toArray, List.getElem_cons_succ, List.getElem_cons_zero]
          refine wpAnyH_take (i := 11) (v := ?_) rfl (by kernel_rfl) (by kernel_rfl) (by kernel_rfl) (fun _ _ _ h => h) (Or.inl ⟨by kernel_rfl, ?_⟩) hH0 ?_
          rotate_left
          · intro W hS
            go_simp
            try rfl
          simp only [Act.put, List.setIfInBounds_toArray, List.set_cons_zero, List.set_cons_succ, List.getElem_toArray, List.getElem_cons_succ, List.getElem_cons_zero]
          refine wpAnyH_ready (rs := [0]) (by kernel_rfl) (by simp) ?_
          refine AllReadyH.cons rfl (fun K hK => ?_) AllReadyH.nil
          rw [if_pos]
          rotate_left
          · kernel_rfl
          refine wp_load_row 28 _ rfl C rfl 28 _ (0, 0) _ kT.h Tryd.underlying28 rfl hsT ?_
          refine hK.out _ _ hH0 (fun _ => ?_)
          clear hK K
          try simp only [Act.put, List.setIfInBounds_toArray, List.set_cons_zero, List.set_cons_succ, List.getElem_toArray, List.getElem_cons_succ, List.getElem_cons_zero]
          refine wpAnyH_ready (rs := [12]) (by kernel_rfl) (by simp) ?_
          refine AllReadyH.cons rfl (fun K hK => ?_) AllReadyH.nil
          go_simp
          with_reducible refine (qS.out _).mono ?_
          rintro e w6 ⟨rfl, bb⟩
          have hH1 : w6.cell? ⟨bl, ol + k, none⟩ = some (.int .u8 z) ∧ w6.cell? ⟨bv, ov + k, none⟩ = some (.int .u8 y) := ⟨(bb.cell (p := ⟨bl, ol + k, none⟩) (by show bl < _; omega)).trans hH0.1, (bb.cell (p := ⟨bv, ov + k, none⟩) (by show bv < _; omega)).trans hH0.2⟩
          replace kb := kb.trans (bb.mono hSB)
          replace hSB := Nat.le_trans hSB bb.size
          replace kC := kC.below bb kC.lt
          replace kT := kT.below bb kT.lt
          replace kD := kD.below bb kD.lt
          clear bb
          refine hK.out _ _ hH1 (fun _ => ?_)
          clear hK K
          try simp only [Act.put, List.setIfInBounds_toArray, List.set_cons_zero, List.set_cons_succ]
          refine wpAnyH_ready (rs := [13]) (by kernel_rfl) (by simp) ?_
          refine AllReadyH.cons rfl (fun K hK => ?_) AllReadyH.nil
          rw [if_pos]
          rotate_left
          · kernel_rfl
          refine wp_store_row 28 _ _ rfl C (stA (gR g r2)) rfl rfl 28 (stA (gR g r)) kT.h hsU hoU hcU ?_
          have kT2 := kT.row (stA (gR g r2))
          have kC2 := kC.rowOther (stA (gR g r2)) (M := C) (by omega)
          have kD2 := kD.rowOther (stA (gR g r2)) (M := C) (by omega)
          have kb2 := below_rowNew kb (N := C) (by omega) (stA (gR g r2))
          have hH2 : (w6.setRow C (stA (gR g r2))).cell? ⟨bl, ol + k, none⟩ = some (.int .u8 z) ∧ (w6.setRow C (stA (gR g r2))).cell? ⟨bv, ov + k, none⟩ = some (.int .u8 y) := ⟨(cell_row (by omega)).trans hH1.1, (cell_row (by omega)).trans hH1.2⟩
          have hSB2 : N ≤ (w6.setRow C (stA (gR g r2))).heap.size := by have := kb2.size; omega
          generalize w6.setRow C (stA (gR g r2)) = w7 at *
          refine hK.out _ _ hH2 (fun _ => ?_)
          clear hK K
          try simp only [Act.put, List.setIfInBounds_toArray, List.set_cons_zero, List.set_cons_succ, List.getElem_toArray, List.getElem_cons_succ, List.getElem_cons_zero]
          refine wpAnyH_done (by kernel_rfl) ?_ _

          go_wp2_with fail
          clear hSB kb kC kT kD hH1 qS hor hsT hsU hoU hcU
          have hH3 : w7.drew.cell? ⟨bl, ol + k, none⟩ = some (.int .u8 z) ∧ w7.drew.cell? ⟨bv, ov + k, none⟩ = some (.int .u8 y) := hH2
          replace kb2 := kb2.drew
          replace kC2 := kC2.drew
          replace kT2 := kT2.drew
          replace kD2 := kD2.drew
          refine wp_region_held_drew (S := fun W => W.cell? ⟨bl, ol + k, none⟩ = some (.int .u8 z) ∧ W.cell? ⟨bv, ov + k, none⟩ = some (.int .u8 y)) (by kernel_rfl) hH3 (fun hH4 => ?_)
          refine wpAnyH_take (i := 0) (v := ?_) rfl (by kernel_rfl) (by kernel_rfl) (by kernel_rfl) (fun _ _ _ h => h) (Or.inl ⟨by kernel_rfl, ?_⟩) hH4 ?_
          rotate_left
          · intro W hS
            go_simp
            try rfl
          simp only [Act.put, List.setIfInBounds_toArray, List.set_cons_zero, List.set_cons_succ, List.getElem_toArray, List.getElem_cons_succ, List.getElem_cons_zero]
          refine wpAnyH_take (i := 1) (v := ?_) rfl (by kernel_rfl) (by kernel_rfl) (by kernel_rfl) (fun _ _ _ h => h) (Or.inl ⟨by kernel_rfl, ?_⟩) hH4 ?_
          rotate_left
          · intro W hS
            go_simp
            try rfl
          simp only [Act.put, List.setIfInBounds_toArray, List.set_cons_zero, List.set_cons_succ, List.getElem_toArray, List.getElem_cons_succ, List.getElem_cons_zero]
          refine wpAnyH_take (i := 2) (v := ?_) rfl (by kernel_rfl) (by kernel_rfl) (by kernel_rfl) (fun _ _ _ h => h) (Or.inl ⟨by kernel_rfl, ?_⟩) hH4 ?_
          rotate_left
          · intro W hS
            go_simp
            try rfl
          simp only [Act.put, List.setIfInBounds_toArray, List.set_cons_zero, List.set_cons_succ, List.getElem_toArray, List.getElem_cons_succ, List.getElem_cons_zero]
          refine wpAnyH_take (i := 3) (v := ?_) rfl (by kernel_rfl) (by kernel_rfl) (by kernel_rfl) (fun _ _ _ h => h) (Or.inl ⟨by kernel_rfl, ?_⟩) hH4 ?_
          rotate_left
          · intro W hS
            have cc := hS.1
            go_simp
            try rfl
          simp only [Act.put, List.setIfInBounds_toArray, List.set_cons_zero, List.set_cons_succ, List.getElem_toArray, List.getElem_cons_succ, List.getElem_cons_zero]
          refine wpAnyH_take (i := 4) (v := ?_) rfl (by kernel_rfl) (by kernel_rfl) (by kernel_rfl) (fun _ _ _ h => h) (Or.inl ⟨by kernel_rfl, ?_⟩) hH4 ?_
          rotate_left
          · intro W hS
            go_simp
            try rfl
          simp only [Act.put, List.setIfInBounds_toArray, List.set_cons_zero, List.set_cons_succ, List.getElem_toArray, List.getElem_cons_succ, List.getElem_cons_zero]
          refine wpAnyH_take (i := 5) (v := ?_) rfl (by kernel_rfl) (by kernel_rfl) (by kernel_rfl) (fun _ _ _ h => h) (Or.inl ⟨by kernel_rfl, ?_⟩) hH4 ?_
          rotate_left
          · intro W hS
            go_simp
            try rfl
          simp only [Act.put, List.setIfInBounds_toArray, List.set_cons_zero, List.set_cons_succ, List.getElem_toArray, List.getElem_cons_succ, List.getElem_cons_zero]
          refine wpAnyH_take (i := 6) (v := ?_) rfl (by kernel_rfl) (by kernel_rfl) (by kernel_rfl) (fun _ _ _ h => h) (Or.inl ⟨by kernel_rfl, ?_⟩) hH4 ?_
          rotate_left
          · intro W hS
            go_simp
            try rfl
          simp only [Act.put, List.setIfInBounds_toArray, List.set_cons_zero, List.set_cons_succ, List.getElem_toArray, List.getElem_cons_succ, List.getElem_cons_zero]
          refine wpAnyH_take (i := 7) (v := ?_) rfl (by kernel_rfl) (by kernel_rfl) (by kernel_rfl) (fun _ _ _ h => h) (Or.inl ⟨by kernel_rfl, ?_⟩) hH4 ?_
          rotate_left
          · intro W hS
            go_simp
            try rfl
          simp only [Act.put, List.setIfInBounds_toArray, List.set_cons_zero, List.set_cons_succ, List.getElem_toArray, List.getElem_cons_succ, List.getElem_cons_zero]
          refine wpAnyH_take (i := 8) (v := ?_) rfl (by kernel_rfl) (by kernel_rfl) (by kernel_rfl) (fun _ _ _ h => h) (Or.inl ⟨by kernel_rfl, ?_⟩) hH4 ?_
          rotate_left
          · intro W hS
            have cc := hS.2
            go_simp
            try rfl
          simp only [Act.put, List.setIfInBounds_toArray, List.set_cons_zero, List.set_cons_succ, List.getElem_toArray, List.getElem_cons_succ, List.getElem_cons_zero]
          refine wpAnyH_take (i := 9) (v := ?_) rfl (by kernel_rfl) (by kernel_rfl) (by kernel_rfl) (fun _ _ _ h => h) (Or.inl ⟨by kernel_rfl, ?_⟩) hH4 ?_
          rotate_left
          · intro W hS
            go_simp
            try rfl
          simp only [Act.put, List.setIfInBounds_toArray, List.set_cons_zero, List.set_cons_succ, List.getElem_toArray, List.getElem_cons_succ, List.getElem_cons_zero]
          refine wpAnyH_take (i := 10) (v := ?_) rfl (by kernel_rfl) (by kernel_rfl) (by kernel_rfl) (fun _ _ _ h => h) (Or.inl ⟨by kernel_rfl, ?_⟩) hH4 ?_
          rotate_left
          · intro W hS
            go_simp
            try rfl
          simp only [Act.put, List.setIfInBounds_toArray, List.set_cons_zero, List.set_cons_succ, List.getElem_toArray, List.getElem_cons_succ, List.getElem_cons_zero]
          refine wpAnyH_ready (rs := [11]) (by kernel_rfl) (by simp) ?_
          refine AllReadyH.cons rfl (fun K hK => ?_) AllReadyH.nil
          have cq := kD2.cell (cells8_at q j hj8)
          have fr := kD2.fr j
          go_simp
          have kD3 := kD2.set j (.int .u32 y)
          rw [cells8_set _ j hj8] at kD3
          have kC3 := kC2.other j (.int .u32 y) (M := D) (by omega)
          have kT3 := kT2.other j (.int .u32 y) (M := D) (by omega)
          have kb3 := kb2.setCell (p := ⟨D, j, none⟩) (by show N ≤ D; omega) (.int .u32 y)
          have hH5 : (w7.drew.setCell ⟨D, j, none⟩ (.int .u32 y)).cell? ⟨bl, ol + k, none⟩ = some (.int .u8 z) ∧ (w7.drew.setCell ⟨D, j, none⟩ (.int .u32 y)).cell? ⟨bv, ov + k, none⟩ = some (.int .u8 y) := ⟨(cell_set (by omega)).trans hH4.1, (cell_set (by omega)).trans hH4.2⟩
          refine hK.out _ _ hH5 (fun _ => ?_)
          clear hK K
          try simp only [Act.put, List.setIfInBounds_toArray, List.set_cons_zero, List.set_cons_succ, List.getElem_toArray, List.getElem_cons_succ, List.getElem_cons_zero]
          refine wpAnyH_done (by kernel_rfl) ?_ _

          go_wp2_with fail
          go_roundw
          case rel => exact ⟨k + 1, r2, _, by omega, by go_num, I2, kC3, kT3, kD3, kb3⟩
          case measure => simp [intOf]; omega
        · have hnz : ((k : Int) < (ln : Int)) = False := eq_false (by omega)
          clear hl hv hkl
          go_wp2_with fail
          generalize hii : (k : Int) = kk at *
          clear hii hnz hk
          go_loopw [11] (fun ii W => ∃ k : Nat, k ≤ 8 ∧ ii = .int .i64 k ∧ Blk W N 28 (stA g) ∧ Blk W C 28 (stA (gR g r)) ∧ Blk W D 23 (cells8 q) ∧ Below N w W) (fun ii _ => (8 - intOf ii).toNat)
          case atStart => exact ⟨0, by omega, rfl, kC, kT, kD, kb⟩
          case round =>
            clear kC kT kD kb
            obtain ⟨k, hk, hi, kC, kT, kD, kb⟩ := hrel
            obtain rfl : _ = Value.int .i64 (k : Int) := hi
            by_cases h8 : k < 8
            · have hz : ((k : Int) < 8) = True := eq_true (by omega)
              have hwr : IntKind.i64.wrap ((k : Int) + 1) = (k : Int) + 1 := by rw [IntKind.wrap_i64]; omega
              have hR := fun W => Reg8K (gR g r) (gR_ok hg I.bd) k h8 W
              rw [reg8_gR, I.q k h8] at hR
              replace hR := Lib.hid hR
              have hix := ix_r8 D k h8
              have hqk := cells8_at q k h8
              have hsT : (Tryd.prog.info? 28).map (·.size) = some (stA (gR g r)).size := sz17
              go_wp2_with fail
              have hSB := kb.size
              rw [hN] at hSB
              have hS1 : Blk wr.drew C 28 (stA (gR g r)) ∧ Blk wr.drew D 23 (cells8 q) ∧ Blk wr.drew N 28 (stA g) := ⟨kT.drew, kD.drew, kC.drew⟩
              replace kb := kb.drew
              replace hSB : N ≤ wr.drew.heap.size := hSB
              clear kC kT kD
              refine wp_region_held_drew (S := fun W => Blk W C 28 (stA (gR g r)) ∧ Blk W D 23 (cells8 q) ∧ Blk W N 28 (stA g)) (by kernel_rfl) hS1 (fun hH0 => ?_)
              refine wpAnyH_take (i := 0) (v := .agg (stA (gR g r))) rfl (by kernel_rfl) (by kernel_rfl) (by kernel_rfl) (fun _ _ _ h => h) (Or.inl ⟨by kernel_rfl, ?_⟩) hH0 ?_
              · intro W hS
                exact run_load_row (by rfl) (by rfl) _ (stA (gR g r)) (0, 0) _ hS.1.h Tryd.underlying28 rfl hsT
              simp only [Act.put, List.setIfInBounds_toArray, List.set_cons_zero, List.set_cons_succ]
              refine wpAnyH_take (i := 1) (v := ?_) rfl (by kernel_rfl) (by kernel_rfl) (by kernel_rfl) (fun _ _ _ h => h) (Or.inl ⟨by kernel_rfl, ?_⟩) hH0 ?_
              rotate_left
              · intro W hS
                go_simp
                try rfl
              simp only [Act.put, List.setIfInBounds_toArray, List.set_cons_zero, List.set_cons_succ, List.getElem_toArray, List.getElem_cons_succ, List.getElem_cons_zero]
              refine wpAnyH_take (i := 3) (v := ?_) rfl (by kernel_rfl) (by kernel_rfl) (by kernel_rfl) (fun _ _ _ h => h) (Or.inl ⟨by kernel_rfl, ?_⟩) hH0 ?_
              rotate_left
              · intro W hS
                go_simp
                try rfl
              simp only [Act.put, List.setIfInBounds_toArray, List.set_cons_zero, List.set_cons_succ, List.getElem_toArray, List.getElem_cons_succ, List.getElem_cons_zero]
              refine wpAnyH_take (i := 4) (v := ?_) rfl (by kernel_rfl) (by kernel_rfl) (by kernel_rfl) (fun _ _ _ h => h) (Or.inl ⟨by kernel_rfl, ?_⟩) hH0 ?_
              rotate_left
              · intro W hS
                go_simp
                try rfl
              simp only [Act.put, List.setIfInBounds_toArray, List.set_cons_zero, List.set_cons_succ, List.getElem_toArray, List.getElem_cons_succ, List.getElem_cons_zero]
              refine wpAnyH_take (i := 5) (v := ?_) rfl (by kernel_rfl) (by kernel_rfl) (by kernel_rfl) (fun _ _ _ h => h) (Or.inl ⟨by kernel_rfl, ?_⟩) hH0 ?_
              rotate_left
              · intro W hS
                have cc := hS.2.1.cell hqk
                go_simp
                try rfl
              simp only [Act.put, List.setIfInBounds_toArray, List.set_cons_zero, List.set_cons_succ, List.getElem_toArray, List.getElem_cons_succ, List.getElem_cons_zero]
              refine wpAnyH_ready (rs := [2]) (by kernel_rfl) (by simp) ?_
              refine AllReadyH.cons rfl (fun K hK => ?_) AllReadyH.nil
              go_simp
              with_reducible refine (hR.out _).mono ?_
              rintro e w6 ⟨rfl, bb⟩
              have hH1 := And.intro (hH0.1.below bb hH0.1.lt) (And.intro (hH0.2.1.below bb hH0.2.1.lt) (hH0.2.2.below bb hH0.2.2.lt))
              replace kb := kb.trans (bb.mono hSB)
              clear bb
              refine hK.out _ _ hH1 (fun _ => ?_)
              clear hK K
              try simp only [Act.put, List.setIfInBounds_toArray, List.set_cons_zero, List.set_cons_succ]
              refine wpAnyH_take (i := 6) (v := ?_) rfl (by kernel_rfl) (by kernel_rfl) (by kernel_rfl) (fun _ _ _ h => h) (Or.inl ⟨by kernel_rfl, ?_⟩) hH1 ?_
              rotate_left
              · intro W hS
                go_simp
                try rfl
              simp only [Act.put, List.setIfInBounds_toArray, List.set_cons_zero, List.set_cons_succ, List.getElem_toArray, List.getElem_cons_succ, List.getElem_cons_zero]
              refine wpAnyH_done (by kernel_rfl) ?_ _

              go_wp2_with fail
              go_roundw
              case rel => exact ⟨k + 1, by omega, by go_num, hH1.2.2, hH1.1, hH1.2.1, kb⟩
              case measure => simp [intOf]; omega
            · obtain rfl : k = 8 := by omega
              go_wp2_with fail
              go_loopw [12] (fun ii W => ∃ k : Nat, k ≤ 4 ∧ ii = .int .i64 k ∧ Blk W N 28 (stA g) ∧ Blk W C 28 (stA (gR g r)) ∧ Below N w W) (fun ii _ => (4 - intOf ii).toNat)
              case atStart => exact ⟨0, by omega, rfl, kC, kT, kb⟩
              case round =>
                clear kC kT kD kb
                obtain ⟨k, hk, hi, kC, kT, kb⟩ := hrel
                obtain rfl : _ = Value.int .i64 (k : Int) := hi
                by_cases h4 : k < 4
                · have hz : ((k : Int) < 4) = True := eq_true (by omega)
                  have hwr : IntKind.i64.wrap ((k : Int) + 1) = (k : Int) + 1 := by rw [IntKind.wrap_i64]; omega
                  have hwr4 : IntKind.i64.wrap ((k : Int) + 4) = (k : Int) + 4 := by rw [IntKind.wrap_i64]; omega
                  have ix1 := ix_r8 C k (by omega)
                  have ix2 := ix_r8 N k (by omega)
                  have ix3 := ix_r4 C k h4
                  have ix4 := ix_r4 N k h4
                  have ct := stA_at (gR g r) k (by omega)
                  have cg := stA_at g k (by omega)
                  have ct4 := stA_at (gR g r) (k + 4) (by omega)
                  have cg4 := stA_at g (k + 4) (by omega)
                  rw [show (gR g r).r k = r k from rfl] at ct
                  rw [show (gR g r).r (k + 4) = g.r (k + 4) from I.far (k + 4) (by omega)] at ct4
                  have ehi := I.hi k
                  go_wp2_with fail
                  have hS1 : Blk wr.drew N 28 (stA g) ∧ Blk wr.drew C 28 (stA (gR g r)) := ⟨kC.drew, kT.drew⟩
                  replace kb := kb.drew
                  clear kC kT
                  refine wp_region_held_drew (S := fun W => Blk W N 28 (stA g) ∧ Blk W C 28 (stA (gR g r))) (by kernel_rfl) hS1 (fun hH0 => ?_)
                  refine wpAnyH_take (i := 0) (v := ?_) rfl (by kernel_rfl) (by kernel_rfl) (by kernel_rfl) (fun _ _ _ h => h) (Or.inl ⟨by kernel_rfl, ?_⟩) hH0 ?_
                  rotate_left
                  · intro W hS
                    go_simp
                    try rfl
                  simp only [Act.put, List.setIfInBounds_toArray, List.set_cons_zero, List.set_cons_succ, List.getElem_toArray, List.getElem_cons_succ, List.getElem_cons_zero]
                  refine wpAnyH_take (i := 1) (v := ?_) rfl (by kernel_rfl) (by kernel_rfl) (by kernel_rfl) (fun _ _ _ h => h) (Or.inl ⟨by kernel_rfl, ?_⟩) hH0 ?_
                  rotate_left
                  · intro W hS
                    go_simp
                    try rfl
                  simp only [Act.put, List.setIfInBounds_toArray, List.set_cons_zero, List.set_cons_succ, List.getElem_toArray, List.getElem_cons_succ, List.getElem_cons_zero]
                  refine wpAnyH_take (i := 2) (v := ?_) rfl (by kernel_rfl) (by kernel_rfl) (by kernel_rfl) (fun _ _ _ h => h) (Or.inl ⟨by kernel_rfl, ?_⟩) hH0 ?_
                  rotate_left
                  · intro W hS
                    go_simp
                    try rfl
                  simp only [Act.put, List.setIfInBounds_toArray, List.set_cons_zero, List.set_cons_succ, List.getElem_toArray, List.getElem_cons_succ, List.getElem_cons_zero]
                  refine wpAnyH_take (i := 3) (v := ?_) rfl (by kernel_rfl) (by kernel_rfl) (by kernel_rfl) (fun _ _ _ h => h) (Or.inl ⟨by kernel_rfl, ?_⟩) hH0 ?_
                  rotate_left
                  · intro W hS
                    have cc := hS.2.cell ct
                    go_simp
                    try rfl
                  simp only [Act.put, List.setIfInBounds_toArray, List.set_cons_zero, List.set_cons_succ, List.getElem_toArray, List.getElem_cons_succ, List.getElem_cons_zero]
                  refine wpAnyH_take (i := 4) (v := ?_) rfl (by kernel_rfl) (by kernel_rfl) (by kernel_rfl) (fun _ _ _ h => h) (Or.inl ⟨by kernel_rfl, ?_⟩) hH0 ?_
                  rotate_left
                  · intro W hS
                    go_simp
                    try rfl
                  simp only [Act.put, List.setIfInBounds_toArray, List.set_cons_zero, List.set_cons_succ, List.getElem_toArray, List.getElem_cons_succ, List.getElem_cons_zero]
                  refine wpAnyH_take (i := 5) (v := ?_) rfl (by kernel_rfl) (by kernel_rfl) (by kernel_rfl) (fun _ _ _ h => h) (Or.inl ⟨by kernel_rfl, ?_⟩) hH0 ?_
                  rotate_left
                  · intro W hS
                    go_simp
                    try rfl
                  simp only [Act.put, List.setIfInBounds_toArray, List.set_cons_zero, List.set_cons_succ, List.getElem_toArray, List.getElem_cons_succ, List.getElem_cons_zero]
                  refine wpAnyH_take (i := 6) (v := ?_) rfl (by kernel_rfl) (by kernel_rfl) (by kernel_rfl) (fun _ _ _ h => h) (Or.inl ⟨by kernel_rfl, ?_⟩) hH0 ?_
                  rotate_left
                  · intro W hS
                    go_simp
                    try rfl
                  simp only [Act.put, List.setIfInBounds_toArray, List.set_cons_zero, List.set_cons_succ, List.getElem_toArray, List.getElem_cons_succ, List.getElem_cons_zero]
                  refine wpAnyH_take (i := 7) (v := ?_) rfl (by kernel_rfl) (by kernel_rfl) (by kernel_rfl) (fun _ _ _ h => h) (Or.inl ⟨by kernel_rfl, ?_⟩) hH0 ?_
                  rotate_left
                  · intro W hS
                    go_simp
                    try rfl
                  simp only [Act.put, List.setIfInBounds_toArray, List.set_cons_zero, List.set_cons_succ, List.getElem_toArray, List.getElem_cons_succ, List.getElem_cons_zero]
                  refine wpAnyH_take (i := 8) (v := ?_) rfl (by kernel_rfl) (by kernel_rfl) (by kernel_rfl) (fun _ _ _ h => h) (Or.inl ⟨by kernel_rfl, ?_⟩) hH0 ?_
                  rotate_left
                  · intro W hS
                    have cc := hS.1.cell cg
                    go_simp
                    try rfl
                  simp only [Act.put, List.setIfInBounds_toArray, List.set_cons_zero, List.set_cons_succ, List.getElem_toArray, List.getElem_cons_succ, List.getElem_cons_zero]
                  refine wpAnyH_take (i := 9) (v := ?_) rfl (by kernel_rfl) (by kernel_rfl) (by kernel_rfl) (fun _ _ _ h => h) (Or.inl ⟨by kernel_rfl, ?_⟩) hH0 ?_
                  rotate_left
                  · intro W hS
                    go_simp
                    try rfl
                  simp only [Act.put, List.setIfInBounds_toArray, List.set_cons_zero, List.set_cons_succ, List.getElem_toArray, List.getElem_cons_succ, List.getElem_cons_zero]
                  refine wpAnyH_take (i := 10) (v := ?_) rfl (by kernel_rfl) (by kernel_rfl) (by kernel_rfl) (fun _ _ _ h => h) (Or.inl ⟨by kernel_rfl, ?_⟩) hH0 ?_
                  rotate_left
                  · intro W hS
                    go_simp
                    try rfl
                  simp only [Act.put, List.setIfInBounds_toArray, List.set_cons_zero, List.set_cons_succ, List.getElem_toArray, List.getElem_cons_succ, List.getElem_cons_zero]
                  refine wpAnyH_take (i := 11) (v := ?_) rfl (by kernel_rfl) (by kernel_rfl) (by kernel_rfl) (fun _ _ _ h => h) (Or.inl ⟨by kernel_rfl, ?_⟩) hH0 ?_
                  rotate_left
                  · intro W hS
                    go_simp
                    try rfl
                  simp only [Act.put, List.setIfInBounds_toArray, List.set_cons_zero, List.set_cons_succ, List.getElem_toArray, List.getElem_cons_succ, List.getElem_cons_zero]
                  refine wpAnyH_take (i := 12) (v := ?_) rfl (by kernel_rfl) (by kernel_rfl) (by kernel_rfl) (fun _ _ _ h => h) (Or.inl ⟨by kernel_rfl, ?_⟩) hH0 ?_
                  rotate_left
                  · intro W hS
                    go_simp
                    try rfl
                  simp only [Act.put, List.setIfInBounds_toArray, List.set_cons_zero, List.set_cons_succ, List.getElem_toArray, List.getElem_cons_succ, List.getElem_cons_zero]
                  refine wpAnyH_take (i := 13) (v := ?_) rfl (by kernel_rfl) (by kernel_rfl) (by kernel_rfl) (fun _ _ _ h => h) (Or.inl ⟨by kernel_rfl, ?_⟩) hH0 ?_
                  rotate_left
                  · intro W hS
                    go_simp
                    try rfl
                  simp only [Act.put, List.setIfInBounds_toArray, List.set_cons_zero, List.set_cons_succ, List.getElem_toArray, List.getElem_cons_succ, List.getElem_cons_zero]
                  refine wpAnyH_take (i := 14) (v := ?_) rfl (by kernel_rfl) (by kernel_rfl) (by kernel_rfl) (fun _ _ _ h => h) (Or.inl ⟨by kernel_rfl, ?_⟩) hH0 ?_
                  rotate_left
                  · intro W hS
                    go_simp
                    try rfl
                  simp only [Act.put, List.setIfInBounds_toArray, List.set_cons_zero, List.set_cons_succ, List.getElem_toArray, List.getElem_cons_succ, List.getElem_cons_zero]
                  refine wpAnyH_take (i := 15) (v := ?_) rfl (by kernel_rfl) (by kernel_rfl) (by kernel_rfl) (fun _ _ _ h => h) (Or.inl ⟨by kernel_rfl, ?_⟩) hH0 ?_
                  rotate_left
                  · intro W hS
                    go_simp
                    try rfl
                  simp only [Act.put, List.setIfInBounds_toArray, List.set_cons_zero, List.set_cons_succ, List.getElem_toArray, List.getElem_cons_succ, List.getElem_cons_zero]
                  refine wpAnyH_take (i := 16) (v := ?_) rfl (by kernel_rfl) (by kernel_rfl) (by kernel_rfl) (fun _ _ _ h => h) (Or.inl ⟨by kernel_rfl, ?_⟩) hH0 ?_
                  rotate_left
                  · intro W hS
                    have cc := hS.2.cell ct4
                    go_simp
                    try rfl
                  simp only [Act.put, List.setIfInBounds_toArray, List.set_cons_zero, List.set_cons_succ, List.getElem_toArray, List.getElem_cons_succ, List.getElem_cons_zero]
                  refine wpAnyH_take (i := 17) (v := ?_) rfl (by kernel_rfl) (by kernel_rfl) (by kernel_rfl) (fun _ _ _ h => h) (Or.inl ⟨by kernel_rfl, ?_⟩) hH0 ?_
                  rotate_left
                  · intro W hS
                    go_simp
                    try rfl
                  simp only [Act.put, List.setIfInBounds_toArray, List.set_cons_zero, List.set_cons_succ, List.getElem_toArray, List.getElem_cons_succ, List.getElem_cons_zero]
                  refine wpAnyH_take (i := 18) (v := ?_) rfl (by kernel_rfl) (by kernel_rfl) (by kernel_rfl) (fun _ _ _ h => h) (Or.inl ⟨by kernel_rfl, ?_⟩) hH0 ?_
                  rotate_left
                  · intro W hS
                    go_simp
                    try rfl
                  simp only [Act.put, List.setIfInBounds_toArray, List.set_cons_zero, List.set_cons_succ, List.getElem_toArray, List.getElem_cons_succ, List.getElem_cons_zero]
                  refine wpAnyH_take (i := 19) (v := ?_) rfl (by kernel_rfl) (by kernel_rfl) (by kernel_rfl) (fun _ _ _ h => h) (Or.inl ⟨by kernel_rfl, ?_⟩) hH0 ?_
                  rotate_left
                  · intro W hS
                    go_simp
                    try rfl
                  simp only [Act.put, List.setIfInBounds_toArray, List.set_cons_zero, List.set_cons_succ, List.getElem_toArray, List.getElem_cons_succ, List.getElem_cons_zero]
                  refine wpAnyH_take (i := 20) (v := ?_) rfl (by kernel_rfl) (by kernel_rfl) (by kernel_rfl) (fun _ _ _ h => h) (Or.inl ⟨by kernel_rfl, ?_⟩) hH0 ?_
                  rotate_left
                  · intro W hS
                    go_simp
                    try rfl
                  simp only [Act.put, List.setIfInBounds_toArray, List.set_cons_zero, List.set_cons_succ, List.getElem_toArray, List.getElem_cons_succ, List.getElem_cons_zero]
                  refine wpAnyH_take (i := 21) (v := ?_) rfl (by kernel_rfl) (by kernel_rfl) (by kernel_rfl) (fun _ _ _ h => h) (Or.inl ⟨by kernel_rfl, ?_⟩) hH0 ?_
                  rotate_left
                  · intro W hS
                    have cc := hS.1.cell cg4
                    go_simp
                    try rfl
                  simp only [Act.put, List.setIfInBounds_toArray, List.set_cons_zero, List.set_cons_succ, List.getElem_toArray, List.getElem_cons_succ, List.getElem_cons_zero]
                  refine wpAnyH_take (i := 22) (v := ?_) rfl (by kernel_rfl) (by kernel_rfl) (by kernel_rfl) (fun _ _ _ h => h) (Or.inl ⟨by kernel_rfl, ?_⟩) hH0 ?_
                  rotate_left
                  · intro W hS
                    go_simp
                    try rfl
                  simp only [Act.put, List.setIfInBounds_toArray, List.set_cons_zero, List.set_cons_succ, List.getElem_toArray, List.getElem_cons_succ, List.getElem_cons_zero]
                  refine wpAnyH_take (i := 23) (v := ?_) rfl (by kernel_rfl) (by kernel_rfl) (by kernel_rfl) (fun _ _ _ h => h) (Or.inl ⟨by kernel_rfl, ?_⟩) hH0 ?_
                  rotate_left
                  · intro W hS
                    go_simp
                    try rfl
                  simp only [Act.put, List.setIfInBounds_toArray, List.set_cons_zero, List.set_cons_succ, List.getElem_toArray, List.getElem_cons_succ, List.getElem_cons_zero]
                  refine wpAnyH_done (by kernel_rfl) ?_ _

                  go_wp2_with fail
                  go_roundw
                  case rel => exact ⟨k + 1, by omega, by go_num, hH0.1, hH0.2, kb⟩
                  case measure => simp [intOf]; omega
                · obtain rfl : k = 4 := by omega
                  have pC := kC.cell (i := 8) (v := .int .u32 g.pc) rfl
                  have fC0 := kC.cell (i := 9) (v := .bool (g.f 0)) rfl
                  have fC1 := kC.cell (i := 10) (v := .bool (g.f 1)) rfl
                  have fC2 := kC.cell (i := 11) (v := .bool (g.f 2)) rfl
                  have fC3 := kC.cell (i := 12) (v := .bool (g.f 3)) rfl
                  have fC4 := kC.cell (i := 13) (v := .bool (g.f 4)) rfl
                  have fC5 := kC.cell (i := 14) (v := .bool (g.f 5)) rfl
                  have xC := kC.cell (i := 16) (v := .int .u64 g.x) rfl
                  have pT := kT.cell (i := 8) (v := .int .u32 g.pc) rfl
                  have fT0 := kT.cell (i := 9) (v := .bool (g.f 0)) rfl
                  have fT1 := kT.cell (i := 10) (v := .bool (g.f 1)) rfl
                  have fT2 := kT.cell (i := 11) (v := .bool (g.f 2)) rfl
                  have fT3 := kT.cell (i := 12) (v := .bool (g.f 3)) rfl
                  have fT4 := kT.cell (i := 13) (v := .bool (g.f 4)) rfl
                  have fT5 := kT.cell (i := 14) (v := .bool (g.f 5)) rfl
                  have xT := kT.cell (i := 16) (v := .int .u64 g.x) rfl
                  go_wp2_with fail
                  go_ret
                  subst hN
                  exact ⟨rfl, kb⟩
end Go.Proofs.YtgamghmeefoopaaDoor
