/- AluSilent. -/
import Derived.Test.YtgeeecoclhomiaaDoorKB
import Derived.Test.YtgeeecoclhomiaaDoorS1
import Derived.Deep.CutRange
import Derived.Deep.RegionHeld
namespace Go.Proofs.YtgeeecoclhomiaaDoor
open Go.RowKit
set_option linter.unusedVariables false
set_option linter.unusedSimpArgs false
set_option linter.unusedSectionVars false

theorem store_upd {ops : Array Oper} {rest : List Oper} {o : Oper} {a : Act} {w : World} {Q : Exit → Act → World → Prop} (hgd : o.guard = none) (x y : Operand) (ho : o.op = .store 24 x y)
    (N : Nat) (g old : Nat → Bool) (hx : a.eval x = .pointer (some ⟨N, 0, none⟩)) (hy : a.eval y = flV g) (k : Blk w N 24 (fl6 old))
    (h : ∀ W, W = w.setRow N (fl6 g) → wpList Tryd.prog ops Q rest (a.put o.dst undef) W) : wpList Tryd.prog ops Q (o :: rest) a w :=
  store_fl hgd x y ho N g old hx hy k (h _ rfl)
theorem ix_17 (b t : Nat) (h : t < 17) (W : World) : (Instr.indexAt 40 (.pointer (some ⟨b, 0, none⟩)) (.int .u8 (t : Int))).run Tryd.prog W = .ok (.pointer (some ⟨b, t, none⟩)) W := by
  have s1 : ∀ W, (sizeOf 3).run Tryd.prog W = .ok 1 W := fun W => by kernel_rfl
  have hj : (t : Int) < 17 := by omega
  simp [Instr.indexAt, run_underlying Tryd.underlying40, s1, go_sem, hj, h, Instr.sureAddr]
theorem ix_b6 (b k : Nat) (h : k < 6) (W : World) : (Instr.indexAt 41 (.pointer (some ⟨b, 0, none⟩)) (.int .i64 (k : Int))).run Tryd.prog W = .ok (.pointer (some ⟨b, k, none⟩)) W := by
  have s1 : ∀ W, (sizeOf 4).run Tryd.prog W = .ok 1 W := fun W => by kernel_rfl
  have hj : (k : Int) < 6 := by omega
  simp [Instr.indexAt, run_underlying Tryd.underlying41, s1, go_sem, hj, h, Instr.sureAddr]
theorem fl6_at (f : Nat → Bool) (k : Nat) (h : k < 6) : (fl6 f)[k]? = some (.bool (f k)) := by
  rcases (by omega : k = 0 ∨ k = 1 ∨ k = 2 ∨ k = 3 ∨ k = 4 ∨ k = 5) with rfl | rfl | rfl | rfl | rfl | rfl <;> rfl
set_option maxRecDepth 100000 in
set_option maxHeartbeats 4000000 in
theorem silent_walk (op a b : Int) (f : Nat → Bool) (hop : 0 ≤ op ∧ op ≤ 255) (h : 0 ≤ a ∧ a ≤ 4294967295) (hb : 0 ≤ b ∧ b ≤ 4294967295) (w : World) (tabs : Tabs w) :
    Calls Tryd.prog 8 #[.int .u8 op, .int .u32 a, .int .u32 b, flV f] w fun e w' => e = .returned (.bool true) ∧ Below w.heap.size w w' := by
  have tabs0 := tabs
  obtain ⟨t, ht⟩ := Int.eq_ofNat_of_zero_le (show 0 ≤ op % 17 by omega)
  have ht17 : t < 17 := by omega
  obtain ⟨K, c, R, G, hK, hc8, hc, qD, hl, hs⟩ := silent_of a b f h hb t ht17
  have qW := Lib.hid (fun W tabs => Writes_any K c hc8 hc W tabs)
  have qDo := Lib.hid qD
  clear qD hc
  have hT := Lib.hid hK
  have kb := (Below.refl w.heap.size w).alloc (Nat.le_refl _) (.cells (fl6 f) 24)
  replace tabs := tabs.below kb
  have hSB := kb.size
  have kF := Blk.new w 24 (fl6 f)
  go_enter Tryd.func8, Tryd.ntmps8
  go_wp2_with fail
  generalize w.alloc (.cells (fl6 f) 24) = w0 at kb tabs hSB kF ⊢
  generalize hN : w.heap.size = N at *
  refine (knownA _ tabs).mono ?_
  rintro e w1 ⟨rfl, bb⟩
  replace kF := kF.below bb kF.lt
  replace tabs := tabs.below bb
  replace kb := kb.trans (bb.mono hSB)
  replace hSB := Nat.le_trans hSB bb.size
  clear bb
  go_upto_region 4 with fail
  have kT := Blk.new w1 40 opsT
  replace kF := kF.alloc (.cells opsT 40)
  replace tabs := tabs.below ((Below.refl _ _).alloc (Nat.le_refl _) (.cells opsT 40))
  replace kb := kb.alloc hSB (.cells opsT 40)
  replace hSB := kb.size
  rw [hN] at hSB
  generalize w1.alloc (.cells opsT 40) = w2 at kT kF tabs kb hSB ⊢
  generalize w1.heap.size = B at *
  have ct := kT.cell hT.out
  have hix := ix_17 B t ht17
  clear hK hT
  clear kT
  rcases hs with hs | ⟨hs, R2, G2, qS, hl2⟩
  · go_wp2_with (first | (with_reducible refine load_fl rfl _ rfl N f rfl kF ?_))
    refine (qDo.out _ tabs).mono ?_
    rintro e w3 ⟨rfl, bb⟩
    replace kF := kF.below bb kF.lt
    replace tabs := tabs.below bb
    replace kb := kb.trans (bb.mono hSB)
    replace hSB := Nat.le_trans hSB bb.size
    clear bb
    go_upto_region 8 with (first | ((with_reducible refine store_as rfl _ _ rfl (w0 := w3) (G) rfl rfl ?_); intro wz kG bb; replace kF := kF.below bb kF.lt; replace tabs := tabs.below bb; replace kb := kb.trans (bb.mono hSB); replace hSB := Nat.le_trans hSB bb.size; clear bb))
    generalize w3.heap.size = C at *
    have f0 := kF.cell (i := 0) (v := .bool (f 0)) rfl
    have f1 := kF.cell (i := 1) (v := .bool (f 1)) rfl
    have f2 := kF.cell (i := 2) (v := .bool (f 2)) rfl
    have f3 := kF.cell (i := 3) (v := .bool (f 3)) rfl
    have f4 := kF.cell (i := 4) (v := .bool (f 4)) rfl
    have f5 := kF.cell (i := 5) (v := .bool (f 5)) rfl
    go_upto_region 9 with fail
    have kD := Blk.new wz 41 (fl6 f)
    replace kG := kG.alloc (.cells (fl6 f) 41)
    replace kb := kb.alloc hSB (.cells (fl6 f) 41)
    replace hSB := kb.size
    rw [hN] at hSB
    generalize wz.alloc (.cells (fl6 f) 41) = wy at kD kG kb hSB ⊢
    generalize wz.heap.size = D at *
    clear f0 f1 f2 f3 f4 f5 kF
    have g0 := kG.cell (i := 0) (v := .bool (G 0)) rfl
    have g1 := kG.cell (i := 1) (v := .bool (G 1)) rfl
    have g2 := kG.cell (i := 2) (v := .bool (G 2)) rfl
    have g3 := kG.cell (i := 3) (v := .bool (G 3)) rfl
    have g4 := kG.cell (i := 4) (v := .bool (G 4)) rfl
    have g5 := kG.cell (i := 5) (v := .bool (G 5)) rfl
    go_upto_region 10 with fail
    have kE := Blk.new wy 41 (fl6 G)
    replace kD := kD.alloc (.cells (fl6 G) 41)
    replace kb := kb.alloc hSB (.cells (fl6 G) 41)
    generalize wy.alloc (.cells (fl6 G) 41) = wx at kD kE kb ⊢
    generalize wy.heap.size = E at *
    clear g0 g1 g2 g3 g4 g5 kG hSB
    go_wp2_with fail
    go_loopw [15] (fun i W => ∃ k : Nat, k ≤ 6 ∧ i = .int .i64 k ∧ Blk W D 41 (fl6 f) ∧ Blk W E 41 (fl6 G) ∧ Below N w W) (fun i _ => 6 - (intOf i).toNat)
    case atStart => exact ⟨0, by omega, rfl, kD, kE, kb⟩
    case round =>
      clear kD kE kb
      obtain ⟨k, hk, rfl, kD, kE, kb⟩ := hrel
      have tabsR := tabs0.below (hN ▸ kb)
      have hSB := kb.size
      rw [hN] at hSB
      by_cases hlt : k < 6
      · cases hwr : wrT c k
        · have hbit : bits .and .i64 (bitsN (wrT c) 6 / 2 ^ k) 1 = 0 := by
            have := bit_of_writes c k hc8 hlt
            rw [hwr] at this
            exact this
          have hwb := writes_bd c hc8
          have qW2 := qW
          generalize bitsN (wrT c) 6 = V at hbit hwb qW2
          have hki : (k : Int) < 6 := by omega
          have hk0 : (0 : Int) ≤ (k : Int) := by omega
          have hwk : IntKind.u64.wrap (k : Int) = (k : Int) := by rw [IntKind.wrap_u64]; omega
          have hmn : min k 64 = k := by omega
          have hiD := ix_b6 D k hlt
          have hiE := ix_b6 E k hlt
          have hgk := hl k hwr
          have hfk := fl6_at f k hlt
          have hgg := fl6_at G k hlt
          rw [hgk] at hgg
          generalize f k = fk at *
          go_wp2_with fail
          have hS0 : Blk wr.drew D 41 (fl6 f) ∧ Blk wr.drew E 41 (fl6 G) := ⟨kD.drew, kE.drew⟩
          replace kb := kb.drew
          replace hSB : N ≤ wr.drew.heap.size := hSB
          replace tabsR : Tabs wr.drew := tabsR
          refine wp_region_held_drew (S := fun W => Blk W D 41 (fl6 f) ∧ Blk W E 41 (fl6 G)) (by kernel_rfl) hS0 (fun hH0 => ?_)
          generalize wr.drew = wd at *
          refine wpAnyH_take (i := 0) (v := ?_) rfl (by kernel_rfl) (by kernel_rfl) (by kernel_rfl) (fun _ _ _ h => h) (Or.inl ⟨by kernel_rfl, ?_⟩) hH0 ?_
          rotate_left
          · intro W hS
            go_simp
            try rfl
          simp only [Act.put, List.setIfInBounds_toArray, List.set_cons_zero, List.set_cons_succ, List.getElem_toArray, List.getElem_cons_succ, List.getElem_cons_zero]
          refine wpAnyH_take (i := 2) (v := ?_) rfl (by kernel_rfl) (by kernel_rfl) (by kernel_rfl) (fun _ _ _ h => h) (Or.inl ⟨by kernel_rfl, ?_⟩) hH0 ?_
          rotate_left
          · intro W hS
            go_simp
            try rfl
          simp only [Act.put, List.setIfInBounds_toArray, List.set_cons_zero, List.set_cons_succ, List.getElem_toArray, List.getElem_cons_succ, List.getElem_cons_zero]
          refine wpAnyH_take (i := 3) (v := ?_) rfl (by kernel_rfl) (by kernel_rfl) (by kernel_rfl) (fun _ _ _ h => h) (Or.inl ⟨by kernel_rfl, ?_⟩) hH0 ?_
          rotate_left
          · intro W hS
            go_simp
            try rfl
          simp only [Act.put, List.setIfInBounds_toArray, List.set_cons_zero, List.set_cons_succ, List.getElem_toArray, List.getElem_cons_succ, List.getElem_cons_zero]
          refine wpAnyH_ready (rs := [1]) (by kernel_rfl) (by simp) ?_
          refine AllReadyH.cons rfl (fun K hK => ?_) AllReadyH.nil
          go_simp
          with_reducible refine (qW2.out _ tabsR).mono ?_
          rintro e we ⟨rfl, bb⟩
          have hH1 := And.intro (hH0.1.below bb hH0.1.lt) (hH0.2.below bb hH0.2.lt)
          replace kb := kb.trans (bb.mono hSB)
          clear bb
          refine hK.out _ _ hH1 (fun _ => ?_)
          clear hK K
          try simp only [Act.put, List.setIfInBounds_toArray, List.set_cons_zero, List.set_cons_succ]
          refine wpAnyH_take (i := 4) (v := ?_) rfl (by kernel_rfl) (by kernel_rfl) (by kernel_rfl) (fun _ _ _ h => h) (Or.inl ⟨by kernel_rfl, ?_⟩) hH1 ?_
          rotate_left
          · intro W hS
            go_simp
            try rfl
          simp only [Act.put, List.setIfInBounds_toArray, List.set_cons_zero, List.set_cons_succ, List.getElem_toArray, List.getElem_cons_succ, List.getElem_cons_zero]
          refine wpAnyH_take (i := 5) (v := ?_) rfl (by kernel_rfl) (by kernel_rfl) (by kernel_rfl) (fun _ _ _ h => h) (Or.inl ⟨by kernel_rfl, ?_⟩) hH1 ?_
          rotate_left
          · intro W hS
            go_simp
            try rfl
          simp only [Act.put, List.setIfInBounds_toArray, List.set_cons_zero, List.set_cons_succ, List.getElem_toArray, List.getElem_cons_succ, List.getElem_cons_zero]
          refine wpAnyH_take (i := 6) (v := ?_) rfl (by kernel_rfl) (by kernel_rfl) (by kernel_rfl) (fun _ _ _ h => h) (Or.inl ⟨by kernel_rfl, ?_⟩) hH1 ?_
          rotate_left
          · intro W hS
            go_simp
            try rfl
          simp only [Act.put, List.setIfInBounds_toArray, List.set_cons_zero, List.set_cons_succ, List.getElem_toArray, List.getElem_cons_succ, List.getElem_cons_zero]
          refine wpAnyH_take (i := 7) (v := ?_) rfl (by kernel_rfl) (by kernel_rfl) (by kernel_rfl) (fun _ _ _ h => h) (Or.inl ⟨by kernel_rfl, ?_⟩) hH1 ?_
          rotate_left
          · intro W hS
            go_simp
            try rfl
          simp only [Act.put, List.setIfInBounds_toArray, List.set_cons_zero, List.set_cons_succ, List.getElem_toArray, List.getElem_cons_succ, List.getElem_cons_zero]
          refine wpAnyH_take (i := 8) (v := ?_) rfl (by kernel_rfl) (by kernel_rfl) (by kernel_rfl) (fun _ _ _ h => h) (Or.inl ⟨by kernel_rfl, ?_⟩) hH1 ?_
          rotate_left
          · intro W hS
            go_simp
            try rfl
          simp only [Act.put, List.setIfInBounds_toArray, List.set_cons_zero, List.set_cons_succ, List.getElem_toArray, List.getElem_cons_succ, List.getElem_cons_zero]
          refine wpAnyH_take (i := 9) (v := ?_) rfl (by kernel_rfl) (by kernel_rfl) (by kernel_rfl) (fun _ _ _ h => h) (Or.inl ⟨by kernel_rfl, ?_⟩) hH1 ?_
          rotate_left
          · intro W hS
            go_simp
            try rfl
          simp only [Act.put, List.setIfInBounds_toArray, List.set_cons_zero, List.set_cons_succ, List.getElem_toArray, List.getElem_cons_succ, List.getElem_cons_zero]
          refine wpAnyH_take (i := 10) (v := ?_) rfl (by kernel_rfl) (by kernel_rfl) (by kernel_rfl) (fun _ _ _ h => h) (Or.inl ⟨by kernel_rfl, ?_⟩) hH1 ?_
          rotate_left
          · intro W hS
            have cc := hS.1.cell hfk
            go_simp
            try rfl
          simp only [Act.put, List.setIfInBounds_toArray, List.set_cons_zero, List.set_cons_succ, List.getElem_toArray, List.getElem_cons_succ, List.getElem_cons_zero]
          refine wpAnyH_take (i := 11) (v := ?_) rfl (by kernel_rfl) (by kernel_rfl) (by kernel_rfl) (fun _ _ _ h => h) (Or.inl ⟨by kernel_rfl, ?_⟩) hH1 ?_
          rotate_left
          · intro W hS
            go_simp
            try rfl
          simp only [Act.put, List.setIfInBounds_toArray, List.set_cons_zero, List.set_cons_succ, List.getElem_toArray, List.getElem_cons_succ, List.getElem_cons_zero]
          refine wpAnyH_take (i := 12) (v := ?_) rfl (by kernel_rfl) (by kernel_rfl) (by kernel_rfl) (fun _ _ _ h => h) (Or.inl ⟨by kernel_rfl, ?_⟩) hH1 ?_
          rotate_left
          · intro W hS
            go_simp
            try rfl
          simp only [Act.put, List.setIfInBounds_toArray, List.set_cons_zero, List.set_cons_succ, List.getElem_toArray, List.getElem_cons_succ, List.getElem_cons_zero]
          refine wpAnyH_take (i := 13) (v := ?_) rfl (by kernel_rfl) (by kernel_rfl) (by kernel_rfl) (fun _ _ _ h => h) (Or.inl ⟨by kernel_rfl, ?_⟩) hH1 ?_
          rotate_left
          · intro W hS
            have cc := hS.2.cell hgg
            go_simp
            try rfl
          simp only [Act.put, List.setIfInBounds_toArray, List.set_cons_zero, List.set_cons_succ, List.getElem_toArray, List.getElem_cons_succ, List.getElem_cons_zero]
          refine wpAnyH_take (i := 14) (v := ?_) rfl (by kernel_rfl) (by kernel_rfl) (by kernel_rfl) (fun _ _ _ h => h) (Or.inl ⟨by kernel_rfl, ?_⟩) hH1 ?_
          rotate_left
          · intro W hS
            go_simp
            try rfl
          simp only [Act.put, List.setIfInBounds_toArray, List.set_cons_zero, List.set_cons_succ, List.getElem_toArray, List.getElem_cons_succ, List.getElem_cons_zero]
          refine wpAnyH_take (i := 15) (v := ?_) rfl (by kernel_rfl) (by kernel_rfl) (by kernel_rfl) (fun _ _ _ h => h) (Or.inl ⟨by kernel_rfl, ?_⟩) hH1 ?_
          rotate_left
          · intro W hS
            go_simp
            try rfl
          simp only [Act.put, List.setIfInBounds_toArray, List.set_cons_zero, List.set_cons_succ, List.getElem_toArray, List.getElem_cons_succ, List.getElem_cons_zero]
          refine wpAnyH_done (by kernel_rfl) ?_ _
          go_wp2_with fail
          go_roundw
          case rel => exact ⟨k + 1, by omega, by go_num, hH1.1, hH1.2, kb⟩
          case measure => simp [intOf]; omega
        · have hbit : bits .and .i64 (bitsN (wrT c) 6 / 2 ^ k) 1 = 1 := by
            have := bit_of_writes c k hc8 hlt
            rw [hwr] at this
            exact this
          have hwb := writes_bd c hc8
          have qW2 := qW
          generalize bitsN (wrT c) 6 = V at hbit hwb qW2
          have hki : (k : Int) < 6 := by omega
          have hk0 : (0 : Int) ≤ (k : Int) := by omega
          have hwk : IntKind.u64.wrap (k : Int) = (k : Int) := by rw [IntKind.wrap_u64]; omega
          have hmn : min k 64 = k := by omega
          have hiD := ix_b6 D k hlt
          have hiE := ix_b6 E k hlt
          have hfk := fl6_at f k hlt
          have hgg := fl6_at G k hlt
          generalize f k = fk at *
          go_wp2_with fail
          have hS0 : Blk wr.drew D 41 (fl6 f) ∧ Blk wr.drew E 41 (fl6 G) := ⟨kD.drew, kE.drew⟩
          replace kb := kb.drew
          replace hSB : N ≤ wr.drew.heap.size := hSB
          replace tabsR : Tabs wr.drew := tabsR
          refine wp_region_held_drew (S := fun W => Blk W D 41 (fl6 f) ∧ Blk W E 41 (fl6 G)) (by kernel_rfl) hS0 (fun hH0 => ?_)
          generalize wr.drew = wd at *
          refine wpAnyH_take (i := 0) (v := ?_) rfl (by kernel_rfl) (by kernel_rfl) (by kernel_rfl) (fun _ _ _ h => h) (Or.inl ⟨by kernel_rfl, ?_⟩) hH0 ?_
          rotate_left
          · intro W hS
            go_simp
            try rfl
          simp only [Act.put, List.setIfInBounds_toArray, List.set_cons_zero, List.set_cons_succ, List.getElem_toArray, List.getElem_cons_succ, List.getElem_cons_zero]
          refine wpAnyH_take (i := 2) (v := ?_) rfl (by kernel_rfl) (by kernel_rfl) (by kernel_rfl) (fun _ _ _ h => h) (Or.inl ⟨by kernel_rfl, ?_⟩) hH0 ?_
          rotate_left
          · intro W hS
            go_simp
            try rfl
          simp only [Act.put, List.setIfInBounds_toArray, List.set_cons_zero, List.set_cons_succ, List.getElem_toArray, List.getElem_cons_succ, List.getElem_cons_zero]
          refine wpAnyH_take (i := 3) (v := ?_) rfl (by kernel_rfl) (by kernel_rfl) (by kernel_rfl) (fun _ _ _ h => h) (Or.inl ⟨by kernel_rfl, ?_⟩) hH0 ?_
          rotate_left
          · intro W hS
            go_simp
            try rfl
          simp only [Act.put, List.setIfInBounds_toArray, List.set_cons_zero, List.set_cons_succ, List.getElem_toArray, List.getElem_cons_succ, List.getElem_cons_zero]
          refine wpAnyH_ready (rs := [1]) (by kernel_rfl) (by simp) ?_
          refine AllReadyH.cons rfl (fun K hK => ?_) AllReadyH.nil
          go_simp
          with_reducible refine (qW2.out _ tabsR).mono ?_
          rintro e we ⟨rfl, bb⟩
          have hH1 := And.intro (hH0.1.below bb hH0.1.lt) (hH0.2.below bb hH0.2.lt)
          replace kb := kb.trans (bb.mono hSB)
          clear bb
          refine hK.out _ _ hH1 (fun _ => ?_)
          clear hK K
          try simp only [Act.put, List.setIfInBounds_toArray, List.set_cons_zero, List.set_cons_succ]
          refine wpAnyH_take (i := 4) (v := ?_) rfl (by kernel_rfl) (by kernel_rfl) (by kernel_rfl) (fun _ _ _ h => h) (Or.inl ⟨by kernel_rfl, ?_⟩) hH1 ?_
          rotate_left
          · intro W hS
            go_simp
            try rfl
          simp only [Act.put, List.setIfInBounds_toArray, List.set_cons_zero, List.set_cons_succ, List.getElem_toArray, List.getElem_cons_succ, List.getElem_cons_zero]
          refine wpAnyH_take (i := 5) (v := ?_) rfl (by kernel_rfl) (by kernel_rfl) (by kernel_rfl) (fun _ _ _ h => h) (Or.inl ⟨by kernel_rfl, ?_⟩) hH1 ?_
          rotate_left
          · intro W hS
            go_simp
            try rfl
          simp only [Act.put, List.setIfInBounds_toArray, List.set_cons_zero, List.set_cons_succ, List.getElem_toArray, List.getElem_cons_succ, List.getElem_cons_zero]
          refine wpAnyH_take (i := 6) (v := ?_) rfl (by kernel_rfl) (by kernel_rfl) (by kernel_rfl) (fun _ _ _ h => h) (Or.inl ⟨by kernel_rfl, ?_⟩) hH1 ?_
          rotate_left
          · intro W hS
            go_simp
            try rfl
          simp only [Act.put, List.setIfInBounds_toArray, List.set_cons_zero, List.set_cons_succ, List.getElem_toArray, List.getElem_cons_succ, List.getElem_cons_zero]
          refine wpAnyH_take (i := 7) (v := ?_) rfl (by kernel_rfl) (by kernel_rfl) (by kernel_rfl) (fun _ _ _ h => h) (Or.inl ⟨by kernel_rfl, ?_⟩) hH1 ?_
          rotate_left
          · intro W hS
            go_simp
            try rfl
          simp only [Act.put, List.setIfInBounds_toArray, List.set_cons_zero, List.set_cons_succ, List.getElem_toArray, List.getElem_cons_succ, List.getElem_cons_zero]
          refine wpAnyH_take (i := 8) (v := undef) rfl (by kernel_rfl) (by kernel_rfl) (by kernel_rfl) (fun _ _ _ h => h) (Or.inr ⟨by kernel_rfl, rfl⟩) hH1 ?_
          simp only [Act.put, List.setIfInBounds_toArray, List.set_cons_zero, List.set_cons_succ]
          refine wpAnyH_take (i := 9) (v := undef) rfl (by kernel_rfl) (by kernel_rfl) (by kernel_rfl) (fun _ _ _ h => h) (Or.inr ⟨by kernel_rfl, rfl⟩) hH1 ?_
          simp only [Act.put, List.setIfInBounds_toArray, List.set_cons_zero, List.set_cons_succ]
          refine wpAnyH_take (i := 10) (v := undef) rfl (by kernel_rfl) (by kernel_rfl) (by kernel_rfl) (fun _ _ _ h => h) (Or.inr ⟨by kernel_rfl, rfl⟩) hH1 ?_
          simp only [Act.put, List.setIfInBounds_toArray, List.set_cons_zero, List.set_cons_succ]
          refine wpAnyH_take (i := 11) (v := undef) rfl (by kernel_rfl) (by kernel_rfl) (by kernel_rfl) (fun _ _ _ h => h) (Or.inr ⟨by kernel_rfl, rfl⟩) hH1 ?_
          simp only [Act.put, List.setIfInBounds_toArray, List.set_cons_zero, List.set_cons_succ]
          refine wpAnyH_take (i := 12) (v := undef) rfl (by kernel_rfl) (by kernel_rfl) (by kernel_rfl) (fun _ _ _ h => h) (Or.inr ⟨by kernel_rfl, rfl⟩) hH1 ?_
          simp only [Act.put, List.setIfInBounds_toArray, List.set_cons_zero, List.set_cons_succ]
          refine wpAnyH_take (i := 13) (v := undef) rfl (by kernel_rfl) (by kernel_rfl) (by kernel_rfl) (fun _ _ _ h => h) (Or.inr ⟨by kernel_rfl, rfl⟩) hH1 ?_
          simp only [Act.put, List.setIfInBounds_toArray, List.set_cons_zero, List.set_cons_succ]
          refine wpAnyH_take (i := 14) (v := undef) rfl (by kernel_rfl) (by kernel_rfl) (by kernel_rfl) (fun _ _ _ h => h) (Or.inr ⟨by kernel_rfl, rfl⟩) hH1 ?_
          simp only [Act.put, List.setIfInBounds_toArray, List.set_cons_zero, List.set_cons_succ]
          refine wpAnyH_take (i := 15) (v := ?_) rfl (by kernel_rfl) (by kernel_rfl) (by kernel_rfl) (fun _ _ _ h => h) (Or.inl ⟨by kernel_rfl, ?_⟩) hH1 ?_
          rotate_left
          · intro W hS
            go_simp
            try rfl
          simp only [Act.put, List.setIfInBounds_toArray, List.set_cons_zero, List.set_cons_succ, List.getElem_toArray, List.getElem_cons_succ, List.getElem_cons_zero]
          refine wpAnyH_done (by kernel_rfl) ?_ _
          go_wp2_with fail
          go_roundw
          case rel => exact ⟨k + 1, by omega, by go_num, hH1.1, hH1.2, kb⟩
          case measure => simp [intOf]; omega
      · obtain rfl : k = 6 := by omega
        go_wp2
        go_ret
        subst hN
        exact ⟨rfl, kb⟩
  · go_wp2_with (first | (with_reducible refine load_fl rfl _ rfl N f rfl kF ?_))
    refine (qDo.out _ tabs).mono ?_
    rintro e w3 ⟨rfl, bb⟩
    replace kF := kF.below bb kF.lt
    replace tabs := tabs.below bb
    replace kb := kb.trans (bb.mono hSB)
    replace hSB := Nat.le_trans hSB bb.size
    clear bb
    have hNC := kF.lt
    have qS2 := Lib.hid qS
    clear qS
    go_wp2_with (first | (with_reducible refine load_fl rfl _ rfl N f rfl kF ?_) | ((with_reducible refine store_as rfl _ _ rfl (w0 := w3) (G) rfl rfl ?_); intro w4 kG bb; replace kF := kF.below bb kF.lt; replace tabs := tabs.below bb; replace kb := kb.trans (bb.mono hSB); replace hSB := Nat.le_trans hSB bb.size; clear bb))
    generalize w3.heap.size = C at *
    refine (qS2.out _ tabs).mono ?_
    rintro e w5 ⟨rfl, bb⟩
    replace kG := kG.below bb kG.lt
    replace kF := kF.below bb kF.lt
    replace tabs := tabs.below bb
    replace kb := kb.trans (bb.mono hSB)
    replace hSB := Nat.le_trans hSB bb.size
    clear bb
    have kG2 := kG.row (fl6 G2)
    have kF2 := kF.rowOther (fl6 G2) (M := C) (by omega)
    have kb2 := below_rowNew kb (N := C) (by omega) (fl6 G2)
    go_upto_region 8 with (first | ((with_reducible refine store_upd rfl _ _ rfl C G2 G rfl rfl kG ?_); intro wz hz; rw [← hz] at kG2 kF2 kb2))
    clear kG kF kb tabs hSB hz
    have hSB := kb2.size
    rw [hN] at hSB
    have kG := kG2
    have kF := kF2
    have kb := kb2
    clear kG2 kF2 kb2
    have f0 := kF.cell (i := 0) (v := .bool (f 0)) rfl
    have f1 := kF.cell (i := 1) (v := .bool (f 1)) rfl
    have f2 := kF.cell (i := 2) (v := .bool (f 2)) rfl
    have f3 := kF.cell (i := 3) (v := .bool (f 3)) rfl
    have f4 := kF.cell (i := 4) (v := .bool (f 4)) rfl
    have f5 := kF.cell (i := 5) (v := .bool (f 5)) rfl
    go_upto_region 9 with fail
    have kD := Blk.new wz 41 (fl6 f)
    replace kG := kG.alloc (.cells (fl6 f) 41)
    replace kb := kb.alloc hSB (.cells (fl6 f) 41)
    replace hSB := kb.size
    rw [hN] at hSB
    generalize wz.alloc (.cells (fl6 f) 41) = wy at kD kG kb hSB ⊢
    generalize wz.heap.size = D at *
    clear f0 f1 f2 f3 f4 f5 kF
    have g0 := kG.cell (i := 0) (v := .bool (G2 0)) rfl
    have g1 := kG.cell (i := 1) (v := .bool (G2 1)) rfl
    have g2 := kG.cell (i := 2) (v := .bool (G2 2)) rfl
    have g3 := kG.cell (i := 3) (v := .bool (G2 3)) rfl
    have g4 := kG.cell (i := 4) (v := .bool (G2 4)) rfl
    have g5 := kG.cell (i := 5) (v := .bool (G2 5)) rfl
    go_upto_region 10 with fail
    have kE := Blk.new wy 41 (fl6 G2)
    replace kD := kD.alloc (.cells (fl6 G2) 41)
    replace kb := kb.alloc hSB (.cells (fl6 G2) 41)
    generalize wy.alloc (.cells (fl6 G2) 41) = wx at kD kE kb ⊢
    generalize wy.heap.size = E at *
    clear g0 g1 g2 g3 g4 g5 kG hSB
    go_wp2_with fail
    go_loopw [15] (fun i W => ∃ k : Nat, k ≤ 6 ∧ i = .int .i64 k ∧ Blk W D 41 (fl6 f) ∧ Blk W E 41 (fl6 G2) ∧ Below N w W) (fun i _ => 6 - (intOf i).toNat)
    case atStart => exact ⟨0, by omega, rfl, kD, kE, kb⟩
    case round =>
      clear kD kE kb
      obtain ⟨k, hk, rfl, kD, kE, kb⟩ := hrel
      have tabsR := tabs0.below (hN ▸ kb)
      have hSB := kb.size
      rw [hN] at hSB
      by_cases hlt : k < 6
      · cases hwr : wrT c k
        · have hbit : bits .and .i64 (bitsN (wrT c) 6 / 2 ^ k) 1 = 0 := by
            have := bit_of_writes c k hc8 hlt
            rw [hwr] at this
            exact this
          have hwb := writes_bd c hc8
          have qW2 := qW
          generalize bitsN (wrT c) 6 = V at hbit hwb qW2
          have hki : (k : Int) < 6 := by omega
          have hk0 : (0 : Int) ≤ (k : Int) := by omega
          have hwk : IntKind.u64.wrap (k : Int) = (k : Int) := by rw [IntKind.wrap_u64]; omega
          have hmn : min k 64 = k := by omega
          have hiD := ix_b6 D k hlt
          have hiE := ix_b6 E k hlt
          have hgk := hl2 k hwr
          have hfk := fl6_at f k hlt
          have hgg := fl6_at G2 k hlt
          rw [hgk] at hgg
          generalize f k = fk at *
          go_wp2_with fail
          have hS0 : Blk wr.drew D 41 (fl6 f) ∧ Blk wr.drew E 41 (fl6 G2) := ⟨kD.drew, kE.drew⟩
          replace kb := kb.drew
          replace hSB : N ≤ wr.drew.heap.size := hSB
          replace tabsR : Tabs wr.drew := tabsR
          refine wp_region_held_drew (S := fun W => Blk W D 41 (fl6 f) ∧ Blk W E 41 (fl6 G2)) (by kernel_rfl) hS0 (fun hH0 => ?_)
          generalize wr.drew = wd at *
          refine wpAnyH_take (i := 0) (v := ?_) rfl (by kernel_rfl) (by kernel_rfl) (by kernel_rfl) (fun _ _ _ h => h) (Or.inl ⟨by kernel_rfl, ?_⟩) hH0 ?_
          rotate_left
          · intro W hS
            go_simp
            try rfl
          simp only [Act.put, List.setIfInBounds_toArray, List.set_cons_zero, List.set_cons_succ, List.getElem_toArray, List.getElem_cons_succ, List.getElem_cons_zero]
          refine wpAnyH_take (i := 2) (v := ?_) rfl (by kernel_rfl) (by kernel_rfl) (by kernel_rfl) (fun _ _ _ h => h) (Or.inl ⟨by kernel_rfl, ?_⟩) hH0 ?_
          rotate_left
          · intro W hS
            go_simp
            try rfl
          simp only [Act.put, List.setIfInBounds_toArray, List.set_cons_zero, List.set_cons_succ, List.getElem_toArray, List.getElem_cons_succ, List.getElem_cons_zero]
          refine wpAnyH_take (i := 3) (v := ?_) rfl (by kernel_rfl) (by kernel_rfl) (by kernel_rfl) (fun _ _ _ h => h) (Or.inl ⟨by kernel_rfl, ?_⟩) hH0 ?_
          rotate_left
          · intro W hS
            go_simp
            try rfl
          simp only [Act.put, List.setIfInBounds_toArray, List.set_cons_zero, List.set_cons_succ, List.getElem_toArray, List.getElem_cons_succ, List.getElem_cons_zero]
          refine wpAnyH_ready (rs := [1]) (by kernel_rfl) (by simp) ?_
          refine AllReadyH.cons rfl (fun K hK => ?_) AllReadyH.nil
          go_simp
          with_reducible refine (qW2.out _ tabsR).mono ?_
          rintro e we ⟨rfl, bb⟩
          have hH1 := And.intro (hH0.1.below bb hH0.1.lt) (hH0.2.below bb hH0.2.lt)
          replace kb := kb.trans (bb.mono hSB)
          clear bb
          refine hK.out _ _ hH1 (fun _ => ?_)
          clear hK K
          try simp only [Act.put, List.setIfInBounds_toArray, List.set_cons_zero, List.set_cons_succ]
          refine wpAnyH_take (i := 4) (v := ?_) rfl (by kernel_rfl) (by kernel_rfl) (by kernel_rfl) (fun _ _ _ h => h) (Or.inl ⟨by kernel_rfl, ?_⟩) hH1 ?_
          rotate_left
          · intro W hS
            go_simp
            try rfl
          simp only [Act.put, List.setIfInBounds_toArray, List.set_cons_zero, List.set_cons_succ, List.getElem_toArray, List.getElem_cons_succ, List.getElem_cons_zero]
          refine wpAnyH_take (i := 5) (v := ?_) rfl (by kernel_rfl) (by kernel_rfl) (by kernel_rfl) (fun _ _ _ h => h) (Or.inl ⟨by kernel_rfl, ?_⟩) hH1 ?_
          rotate_left
          · intro W hS
            go_simp
            try rfl
          simp only [Act.put, List.setIfInBounds_toArray, List.set_cons_zero, List.set_cons_succ, List.getElem_toArray, List.getElem_cons_succ, List.getElem_cons_zero]
          refine wpAnyH_take (i := 6) (v := ?_) rfl (by kernel_rfl) (by kernel_rfl) (by kernel_rfl) (fun _ _ _ h => h) (Or.inl ⟨by kernel_rfl, ?_⟩) hH1 ?_
          rotate_left
          · intro W hS
            go_simp
            try rfl
          simp only [Act.put, List.setIfInBounds_toArray, List.set_cons_zero, List.set_cons_succ, List.getElem_toArray, List.getElem_cons_succ, List.getElem_cons_zero]
          refine wpAnyH_take (i := 7) (v := ?_) rfl (by kernel_rfl) (by kernel_rfl) (by kernel_rfl) (fun _ _ _ h => h) (Or.inl ⟨by kernel_rfl, ?_⟩) hH1 ?_
          rotate_left
          · intro W hS
            go_simp
            try rfl
          simp only [Act.put, List.setIfInBounds_toArray, List.set_cons_zero, List.set_cons_succ, List.getElem_toArray, List.getElem_cons_succ, List.getElem_cons_zero]
          refine wpAnyH_take (i := 8) (v := ?_) rfl (by kernel_rfl) (by kernel_rfl) (by kernel_rfl) (fun _ _ _ h => h) (Or.inl ⟨by kernel_rfl, ?_⟩) hH1 ?_
          rotate_left
          · intro W hS
            go_simp
            try rfl
          simp only [Act.put, List.setIfInBounds_toArray, List.set_cons_zero, List.set_cons_succ, List.getElem_toArray, List.getElem_cons_succ, List.getElem_cons_zero]
          refine wpAnyH_take (i := 9) (v := ?_) rfl (by kernel_rfl) (by kernel_rfl) (by kernel_rfl) (fun _ _ _ h => h) (Or.inl ⟨by kernel_rfl, ?_⟩) hH1 ?_
          rotate_left
          · intro W hS
            go_simp
            try rfl
          simp only [Act.put, List.setIfInBounds_toArray, List.set_cons_zero, List.set_cons_succ, List.getElem_toArray, List.getElem_cons_succ, List.getElem_cons_zero]
          refine wpAnyH_take (i := 10) (v := ?_) rfl (by kernel_rfl) (by kernel_rfl) (by kernel_rfl) (fun _ _ _ h => h) (Or.inl ⟨by kernel_rfl, ?_⟩) hH1 ?_
          rotate_left
          · intro W hS
            have cc := hS.1.cell hfk
            go_simp
            try rfl
          simp only [Act.put, List.setIfInBounds_toArray, List.set_cons_zero, List.set_cons_succ, List.getElem_toArray, List.getElem_cons_succ, List.getElem_cons_zero]
          refine wpAnyH_take (i := 11) (v := ?_) rfl (by kernel_rfl) (by kernel_rfl) (by kernel_rfl) (fun _ _ _ h => h) (Or.inl ⟨by kernel_rfl, ?_⟩) hH1 ?_
          rotate_left
          · intro W hS
            go_simp
            try rfl
          simp only [Act.put, List.setIfInBounds_toArray, List.set_cons_zero, List.set_cons_succ, List.getElem_toArray, List.getElem_cons_succ, List.getElem_cons_zero]
          refine wpAnyH_take (i := 12) (v := ?_) rfl (by kernel_rfl) (by kernel_rfl) (by kernel_rfl) (fun _ _ _ h => h) (Or.inl ⟨by kernel_rfl, ?_⟩) hH1 ?_
          rotate_left
          · intro W hS
            go_simp
            try rfl
          simp only [Act.put, List.setIfInBounds_toArray, List.set_cons_zero, List.set_cons_succ, List.getElem_toArray, List.getElem_cons_succ, List.getElem_cons_zero]
          refine wpAnyH_take (i := 13) (v := ?_) rfl (by kernel_rfl) (by kernel_rfl) (by kernel_rfl) (fun _ _ _ h => h) (Or.inl ⟨by kernel_rfl, ?_⟩) hH1 ?_
          rotate_left
          · intro W hS
            have cc := hS.2.cell hgg
            go_simp
            try rfl
          simp only [Act.put, List.setIfInBounds_toArray, List.set_cons_zero, List.set_cons_succ, List.getElem_toArray, List.getElem_cons_succ, List.getElem_cons_zero]
          refine wpAnyH_take (i := 14) (v := ?_) rfl (by kernel_rfl) (by kernel_rfl) (by kernel_rfl) (fun _ _ _ h => h) (Or.inl ⟨by kernel_rfl, ?_⟩) hH1 ?_
          rotate_left
          · intro W hS
            go_simp
            try rfl
          simp only [Act.put, List.setIfInBounds_toArray, List.set_cons_zero, List.set_cons_succ, List.getElem_toArray, List.getElem_cons_succ, List.getElem_cons_zero]
          refine wpAnyH_take (i := 15) (v := ?_) rfl (by kernel_rfl) (by kernel_rfl) (by kernel_rfl) (fun _ _ _ h => h) (Or.inl ⟨by kernel_rfl, ?_⟩) hH1 ?_
          rotate_left
          · intro W hS
            go_simp
            try rfl
          simp only [Act.put, List.setIfInBounds_toArray, List.set_cons_zero, List.set_cons_succ, List.getElem_toArray, List.getElem_cons_succ, List.getElem_cons_zero]
          refine wpAnyH_done (by kernel_rfl) ?_ _
          go_wp2_with fail
          go_roundw
          case rel => exact ⟨k + 1, by omega, by go_num, hH1.1, hH1.2, kb⟩
          case measure => simp [intOf]; omega
        · have hbit : bits .and .i64 (bitsN (wrT c) 6 / 2 ^ k) 1 = 1 := by
            have := bit_of_writes c k hc8 hlt
            rw [hwr] at this
            exact this
          have hwb := writes_bd c hc8
          have qW2 := qW
          generalize bitsN (wrT c) 6 = V at hbit hwb qW2
          have hki : (k : Int) < 6 := by omega
          have hk0 : (0 : Int) ≤ (k : Int) := by omega
          have hwk : IntKind.u64.wrap (k : Int) = (k : Int) := by rw [IntKind.wrap_u64]; omega
          have hmn : min k 64 = k := by omega
          have hiD := ix_b6 D k hlt
          have hiE := ix_b6 E k hlt
          have hfk := fl6_at f k hlt
          have hgg := fl6_at G2 k hlt
          generalize f k = fk at *
          go_wp2_with fail
          have hS0 : Blk wr.drew D 41 (fl6 f) ∧ Blk wr.drew E 41 (fl6 G2) := ⟨kD.drew, kE.drew⟩
          replace kb := kb.drew
          replace hSB : N ≤ wr.drew.heap.size := hSB
          replace tabsR : Tabs wr.drew := tabsR
          refine wp_region_held_drew (S := fun W => Blk W D 41 (fl6 f) ∧ Blk W E 41 (fl6 G2)) (by kernel_rfl) hS0 (fun hH0 => ?_)
          generalize wr.drew = wd at *
          refine wpAnyH_take (i := 0) (v := ?_) rfl (by kernel_rfl) (by kernel_rfl) (by kernel_rfl) (fun _ _ _ h => h) (Or.inl ⟨by kernel_rfl, ?_⟩) hH0 ?_
          rotate_left
          · intro W hS
            go_simp
            try rfl
          simp only [Act.put, List.setIfInBounds_toArray, List.set_cons_zero, List.set_cons_succ, List.getElem_toArray, List.getElem_cons_succ, List.getElem_cons_zero]
          refine wpAnyH_take (i := 2) (v := ?_) rfl (by kernel_rfl) (by kernel_rfl) (by kernel_rfl) (fun _ _ _ h => h) (Or.inl ⟨by kernel_rfl, ?_⟩) hH0 ?_
          rotate_left
          · intro W hS
            go_simp
            try rfl
          simp only [Act.put, List.setIfInBounds_toArray, List.set_cons_zero, List.set_cons_succ, List.getElem_toArray, List.getElem_cons_succ, List.getElem_cons_zero]
          refine wpAnyH_take (i := 3) (v := ?_) rfl (by kernel_rfl) (by kernel_rfl) (by kernel_rfl) (fun _ _ _ h => h) (Or.inl ⟨by kernel_rfl, ?_⟩) hH0 ?_
          rotate_left
          · intro W hS
            go_simp
            try rfl
          simp only [Act.put, List.setIfInBounds_toArray, List.set_cons_zero, List.set_cons_succ, List.getElem_toArray, List.getElem_cons_succ, List.getElem_cons_zero]
          refine wpAnyH_ready (rs := [1]) (by kernel_rfl) (by simp) ?_
          refine AllReadyH.cons rfl (fun K hK => ?_) AllReadyH.nil
          go_simp
          with_reducible refine (qW2.out _ tabsR).mono ?_
          rintro e we ⟨rfl, bb⟩
          have hH1 := And.intro (hH0.1.below bb hH0.1.lt) (hH0.2.below bb hH0.2.lt)
          replace kb := kb.trans (bb.mono hSB)
          clear bb
          refine hK.out _ _ hH1 (fun _ => ?_)
          clear hK K
          try simp only [Act.put, List.setIfInBounds_toArray, List.set_cons_zero, List.set_cons_succ]
          refine wpAnyH_take (i := 4) (v := ?_) rfl (by kernel_rfl) (by kernel_rfl) (by kernel_rfl) (fun _ _ _ h => h) (Or.inl ⟨by kernel_rfl, ?_⟩) hH1 ?_
          rotate_left
          · intro W hS
            go_simp
            try rfl
          simp only [Act.put, List.setIfInBounds_toArray, List.set_cons_zero, List.set_cons_succ, List.getElem_toArray, List.getElem_cons_succ, List.getElem_cons_zero]
          refine wpAnyH_take (i := 5) (v := ?_) rfl (by kernel_rfl) (by kernel_rfl) (by kernel_rfl) (fun _ _ _ h => h) (Or.inl ⟨by kernel_rfl, ?_⟩) hH1 ?_
          rotate_left
          · intro W hS
            go_simp
            try rfl
          simp only [Act.put, List.setIfInBounds_toArray, List.set_cons_zero, List.set_cons_succ, List.getElem_toArray, List.getElem_cons_succ, List.getElem_cons_zero]
          refine wpAnyH_take (i := 6) (v := ?_) rfl (by kernel_rfl) (by kernel_rfl) (by kernel_rfl) (fun _ _ _ h => h) (Or.inl ⟨by kernel_rfl, ?_⟩) hH1 ?_
          rotate_left
          · intro W hS
            go_simp
            try rfl
          simp only [Act.put, List.setIfInBounds_toArray, List.set_cons_zero, List.set_cons_succ, List.getElem_toArray, List.getElem_cons_succ, List.getElem_cons_zero]
          refine wpAnyH_take (i := 7) (v := ?_) rfl (by kernel_rfl) (by kernel_rfl) (by kernel_rfl) (fun _ _ _ h => h) (Or.inl ⟨by kernel_rfl, ?_⟩) hH1 ?_
          rotate_left
          · intro W hS
            go_simp
            try rfl
          simp only [Act.put, List.setIfInBounds_toArray, List.set_cons_zero, List.set_cons_succ, List.getElem_toArray, List.getElem_cons_succ, List.getElem_cons_zero]
          refine wpAnyH_take (i := 8) (v := undef) rfl (by kernel_rfl) (by kernel_rfl) (by kernel_rfl) (fun _ _ _ h => h) (Or.inr ⟨by kernel_rfl, rfl⟩) hH1 ?_
          simp only [Act.put, List.setIfInBounds_toArray, List.set_cons_zero, List.set_cons_succ]
          refine wpAnyH_take (i := 9) (v := undef) rfl (by kernel_rfl) (by kernel_rfl) (by kernel_rfl) (fun _ _ _ h => h) (Or.inr ⟨by kernel_rfl, rfl⟩) hH1 ?_
          simp only [Act.put, List.setIfInBounds_toArray, List.set_cons_zero, List.set_cons_succ]
          refine wpAnyH_take (i := 10) (v := undef) rfl (by kernel_rfl) (by kernel_rfl) (by kernel_rfl) (fun _ _ _ h => h) (Or.inr ⟨by kernel_rfl, rfl⟩) hH1 ?_
          simp only [Act.put, List.setIfInBounds_toArray, List.set_cons_zero, List.set_cons_succ]
          refine wpAnyH_take (i := 11) (v := undef) rfl (by kernel_rfl) (by kernel_rfl) (by kernel_rfl) (fun _ _ _ h => h) (Or.inr ⟨by kernel_rfl, rfl⟩) hH1 ?_
          simp only [Act.put, List.setIfInBounds_toArray, List.set_cons_zero, List.set_cons_succ]
          refine wpAnyH_take (i := 12) (v := undef) rfl (by kernel_rfl) (by kernel_rfl) (by kernel_rfl) (fun _ _ _ h => h) (Or.inr ⟨by kernel_rfl, rfl⟩) hH1 ?_
          simp only [Act.put, List.setIfInBounds_toArray, List.set_cons_zero, List.set_cons_succ]
          refine wpAnyH_take (i := 13) (v := undef) rfl (by kernel_rfl) (by kernel_rfl) (by kernel_rfl) (fun _ _ _ h => h) (Or.inr ⟨by kernel_rfl, rfl⟩) hH1 ?_
          simp only [Act.put, List.setIfInBounds_toArray, List.set_cons_zero, List.set_cons_succ]
          refine wpAnyH_take (i := 14) (v := undef) rfl (by kernel_rfl) (by kernel_rfl) (by kernel_rfl) (fun _ _ _ h => h) (Or.inr ⟨by kernel_rfl, rfl⟩) hH1 ?_
          simp only [Act.put, List.setIfInBounds_toArray, List.set_cons_zero, List.set_cons_succ]
          refine wpAnyH_take (i := 15) (v := ?_) rfl (by kernel_rfl) (by kernel_rfl) (by kernel_rfl) (fun _ _ _ h => h) (Or.inl ⟨by kernel_rfl, ?_⟩) hH1 ?_
          rotate_left
          · intro W hS
            go_simp
            try rfl
          simp only [Act.put, List.setIfInBounds_toArray, List.set_cons_zero, List.set_cons_succ, List.getElem_toArray, List.getElem_cons_succ, List.getElem_cons_zero]
          refine wpAnyH_done (by kernel_rfl) ?_ _
          go_wp2_with fail
          go_roundw
          case rel => exact ⟨k + 1, by omega, by go_num, hH1.1, hH1.2, kb⟩
          case measure => simp [intOf]; omega
      · obtain rfl : k = 6 := by omega
        go_wp2
        go_ret
        subst hN
        exact ⟨rfl, kb⟩
end Go.Proofs.YtgeeecoclhomiaaDoor
