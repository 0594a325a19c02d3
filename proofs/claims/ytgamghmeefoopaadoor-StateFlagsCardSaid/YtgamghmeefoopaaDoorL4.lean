/- StateFlags. -/
import Derived.Test.YtgamghmeefoopaaDoorL3
namespace Go.Proofs.YtgamghmeefoopaaDoor
open Go.RowKit
set_option linter.unusedVariables false
set_option linter.unusedSimpArgs false
set_option linter.unusedSectionVars false

abbrev cells7 (X : Nat → Int) : Array Value := #[.int .u32 (X 0), .int .u32 (X 1), .int .u32 (X 2), .int .u32 (X 3), .int .u32 (X 4), .int .u32 (X 5), .int .u32 (X 6)]
theorem cells7_of {a : Array Value} {X : Nat → Int} (h : a.size = 7 ∧ ∀ i, i < 7 → a[i]? = some (.int .u32 (X i))) : a = cells7 X := by
  obtain ⟨hs, hc⟩ := h
  apply Array.ext
  · rw [hs]; rfl
  · intro i h1 h2
    have h7 : i < 7 := by omega
    have := hc i h7
    rw [Array.getElem?_eq_getElem h1] at this
    have e := Option.some.inj this
    rw [e]
    rcases (by omega : i = 0 ∨ i = 1 ∨ i = 2 ∨ i = 3 ∨ i = 4 ∨ i = 5 ∨ i = 6) with rfl | rfl | rfl | rfl | rfl | rfl | rfl <;> rfl
theorem cells7_at (X : Nat → Int) (k : Nat) (hk : k < 7) : (cells7 X)[k]? = some (.int .u32 (X k)) := by
  rcases (by omega : k = 0 ∨ k = 1 ∨ k = 2 ∨ k = 3 ∨ k = 4 ∨ k = 5 ∨ k = 6) with rfl | rfl | rfl | rfl | rfl | rfl | rfl <;> rfl
def flM (m : Int → Int) (X : Nat → Int) : Nat → Int → Int
  | 0 => m
  | k + 1 => storeM (flM m X k) (64 + 4 * (9 + (k : Int))) 4 (X k)
theorem flM_get (m : Int → Int) (X : Nat → Int) (hX : ∀ i, i < 7 → 0 ≤ X i ∧ X i ≤ 4294967295) : ∀ (k i : Nat), k ≤ 7 → getL (flM m X k) i = if 9 ≤ i ∧ i < 9 + k then X (i - 9) else getL m i
  | 0, i, _ => by rw [if_neg (by omega)]; rfl
  | k + 1, i, h => by
    unfold flM
    rw [show 9 + (k : Int) = ((9 + k : Nat) : Int) by omega, getL_store _ _ _ _ (hX k (by omega)), flM_get m X hX k i (by omega)]
    by_cases e : i = 9 + k
    · subst e; rw [if_pos rfl, if_pos (by omega), show 9 + k - 9 = k by omega]
    · rw [if_neg e]
      by_cases e2 : 9 ≤ i ∧ i < 9 + k
      · rw [if_pos e2, if_pos (by omega)]
      · rw [if_neg e2, if_neg (by omega)]
def flS (s : St) (X : Nat → Int) (k : Nat) : St := { s with m := flM s.m X k }
/-- The state with flags as words say. -/
def gWr (g : Gs) (X : Nat → Int) : Gs := { g with f := fun i => X i != 0, df := X 6 != 0 }
theorem get_fl (m : Int → Int) (g : Gs) (hg : g.ok) (X : Nat → Int) (hX : ∀ i, i < 7 → 0 ≤ X i ∧ X i ≤ 4294967295) : stV (unL (getL (flM (putM m (wordsL g) 18) X 7))) = stV (gWr g X) := by
  have e : ∀ i : Nat, i < 18 → getL (flM (putM m (wordsL g) 18) X 7) i = if 9 ≤ i ∧ i < 9 + 7 then X (i - 9) else wordsL g i := fun i hi => by
    rw [flM_get _ X hX 7 i (by omega), show getL (putM m (wordsL g) 18) i = wordsL g i from putM_lie m (wordsL g) (wordsL_bd hg) 18 i hi]
  have e0 : getL (flM (putM m (wordsL g) 18) X 7) 0 = wordsL g 0 := e 0 (by decide)
  have e1 : getL (flM (putM m (wordsL g) 18) X 7) 1 = wordsL g 1 := e 1 (by decide)
  have e2 : getL (flM (putM m (wordsL g) 18) X 7) 2 = wordsL g 2 := e 2 (by decide)
  have e3 : getL (flM (putM m (wordsL g) 18) X 7) 3 = wordsL g 3 := e 3 (by decide)
  have e4 : getL (flM (putM m (wordsL g) 18) X 7) 4 = wordsL g 4 := e 4 (by decide)
  have e5 : getL (flM (putM m (wordsL g) 18) X 7) 5 = wordsL g 5 := e 5 (by decide)
  have e6 : getL (flM (putM m (wordsL g) 18) X 7) 6 = wordsL g 6 := e 6 (by decide)
  have e7 : getL (flM (putM m (wordsL g) 18) X 7) 7 = wordsL g 7 := e 7 (by decide)
  have e8 : getL (flM (putM m (wordsL g) 18) X 7) 8 = wordsL g 8 := e 8 (by decide)
  have e9 : getL (flM (putM m (wordsL g) 18) X 7) 9 = X 0 := e 9 (by decide)
  have e10 : getL (flM (putM m (wordsL g) 18) X 7) 10 = X 1 := e 10 (by decide)
  have e11 : getL (flM (putM m (wordsL g) 18) X 7) 11 = X 2 := e 11 (by decide)
  have e12 : getL (flM (putM m (wordsL g) 18) X 7) 12 = X 3 := e 12 (by decide)
  have e13 : getL (flM (putM m (wordsL g) 18) X 7) 13 = X 4 := e 13 (by decide)
  have e14 : getL (flM (putM m (wordsL g) 18) X 7) 14 = X 5 := e 14 (by decide)
  have e15 : getL (flM (putM m (wordsL g) 18) X 7) 15 = X 6 := e 15 (by decide)
  have e16 : getL (flM (putM m (wordsL g) 18) X 7) 16 = wordsL g 16 := e 16 (by decide)
  have e17 : getL (flM (putM m (wordsL g) 18) X 7) 17 = wordsL g 17 := e 17 (by decide)
  have hx := hg.x
  have ex : g.x / 4294967296 * 4294967296 + g.x % 4294967296 = g.x := by omega
  simp only [stV, unL, e0, e1, e2, e3, e4, e5, e6, e7, e8, e9, e10, e11, e12, e13, e14, e15, e16, e17, Nat.add_zero, Nat.reduceAdd, gWr, wordsL, ex]
theorem ix_l7 (b k : Nat) (h : k < 7) (W : World) : (Instr.indexAt 51 (.pointer (some ⟨b, 0, none⟩)) (.int .i64 (k : Int))).run Tryd.prog W = .ok (.pointer (some ⟨b, k, none⟩)) W := by
  have s1 : ∀ W, (sizeOf 22).run Tryd.prog W = .ok 1 W := fun W => by kernel_rfl
  have hj : (k : Int) < 7 := by omega
  simp [Instr.indexAt, run_underlying Tryd.underlying51, s1, go_sem, hj, h, Instr.sureAddr]
theorem FlagAtK (k : Nat) (hk : k < 7) (w : World) : Calls Tryd.prog 26 #[.int .i64 (k : Int)] w fun e w' => e = .returned (.int .u32 (64 + 4 * (9 + (k : Int)))) ∧ w = w' := by
  have := FlagAt_any (k : Int) (by omega) w
  rwa [show (k : Int) % 7 = k by omega] at this
set_option maxHeartbeats 4000000 in
theorem flags_walk (g : Gs) (hg : g.ok) (X : Nat → Int) (hX : ∀ i, i < 7 → 0 ≤ X i ∧ X i ≤ 4294967295) (w : World) (tabs : Tabs w) :
    Calls Tryd.prog 7 #[stV g, .agg (cells7 X)] w fun e w' => e = .returned (.bool true) ∧ Below w.heap.size w w' := by
  have hsK : (Tryd.prog.info? 28).map (·.size) = some (stA g).size := sz17
  have hsZ : z17.size = (stA g).size := rfl
  have kb : Below w.heap.size w ((w.alloc (.cells (stA g) 28)).alloc (.cells (cells7 X) 51)) := ((Below.refl _ _).alloc (Nat.le_refl _) _).alloc (by simp) _
  have kC := (Blk.new w 28 (stA g)).alloc (.cells (cells7 X) 51)
  have kL := Blk.new (w.alloc (.cells (stA g) 28)) 51 (cells7 X)
  rw [World.size_alloc] at kL
  have t2 := tabs.below kb
  go_enter Tryd.func7, Tryd.ntmps7
  go_wp2_with fail
  refine (known_any _ t2).mono ?_
  rintro e w1 ⟨rfl, b1⟩
  replace kb := kb.trans (b1.mono (by simp <;> omega))
  replace kC := kC.below b1 (by simp <;> omega)
  replace kL := kL.below b1 (by simp <;> omega)
  have t3 := tabs.below kb
  go_wp2_with fail
  refine (New_any _ t3).mono ?_
  rintro e w2 ⟨rfl, h2, b2⟩
  have s1 := kb.size
  have s2 := kL.lt
  replace kb := kb.trans (b2.mono s1)
  replace kC := kC.below b2 kC.lt
  replace kL := kL.below b2 kL.lt
  clear t2 t3 b1 b2
  generalize w1.heap.size = B at *
  generalize hN : w.heap.size = N at *
  go_wp2_with (first | with_reducible refine wpList_load_row rfl 28 _ rfl N rfl 28 _ (0, 0) _ kC.h Tryd.underlying28 rfl hsK ?_)
  refine (Put_any h2 g hg).mono ?_
  rintro e w3 ⟨rfl, h3, k3⟩
  replace kb := kb.trans (k3.below (by have := kb.size; omega) (by simp <;> omega))
  replace kC := kC.but k3 kC.lt (by simp <;> omega)
  replace kL := kL.but k3 kL.lt (by simp <;> omega)
  clear k3 h2
  go_wp2_with fail
  go_loopw [6] (fun ii W => ∃ k : Nat, k ≤ 7 ∧ ii = .int .i64 k ∧ HAt W B (flS (putS newS (wordsL g) 18) X k) ∧ Blk W N 28 (stA g) ∧ Blk W (N + 1) 51 (cells7 X) ∧ Below N w W) (fun ii _ => (7 - intOf ii).toNat)
  case atStart => exact ⟨0, by omega, rfl, h3, kC, kL, kb⟩
  case round =>
    clear h3 kC kL kb
    obtain ⟨k, hk, hi, h3, kC, kL, kb⟩ := hrel
    obtain rfl : _ = Value.int .i64 (k : Int) := hi
    by_cases h7 : k < 7
    · have hz : ((k : Int) < 7) = True := eq_true (by omega)
      have hwr : IntKind.i64.wrap ((k : Int) + 1) = (k : Int) + 1 := by rw [IntKind.wrap_i64]; omega
      have qF := fun W => FlagAtK k h7 W
      have hfit := fits_word (9 + k) (by omega)
      rw [show ((9 + k : Nat) : Int) = 9 + (k : Int) by omega] at hfit
      have hix := ix_l7 (N + 1) k h7
      have hat := cells7_at X k h7
      have qS := fun W (h : HAt W B (flS (putS newS (wordsL g) 18) X k)) => Store_yes h (64 + 4 * (9 + (k : Int))) 4 (X k) (by omega) (hX k h7) hfit
      replace qF := Lib.hid qF
      replace qS := Lib.hid qS
      go_wp2_with fail
      have hSB := kb.size
      rw [hN] at hSB
      have hS0 : Blk wr.drew N 28 (stA g) ∧ Blk wr.drew (N + 1) 51 (cells7 X) := ⟨kC.drew, kL.drew⟩
      replace h3 := h3.drew
      replace kb := kb.drew
      replace hSB : N ≤ wr.drew.heap.size := hSB
      clear kC kL
      refine wp_region_held_drew (S := fun W => Blk W N 28 (stA g) ∧ Blk W (N + 1) 51 (cells7 X)) (by kernel_rfl) hS0 (fun hH0 => ?_)
      refine wpAnyH_take (i := 0) (v := ?_) rfl (by kernel_rfl) (by kernel_rfl) (by kernel_rfl) (fun _ _ _ h => h) (Or.inl ⟨by kernel_rfl, ?_⟩) hH0 ?_
      rotate_left
      · intro W hS
        go_simp
        try rfl
      simp only [Act.put, List.setIfInBounds_toArray, List.set_cons_zero, List.set_cons_succ, List.getElem_toArray, List.getElem_cons_succ, List.getElem_cons_zero]
      refine wpAnyH_take (i := 1) (v := ?_) rfl (by kernel_rfl) (by kernel_rfl) (by kernel_rfl) (fun _ _ _ h => h) (Or.inl ⟨by kernel_rfl, ?_⟩) hH0 ?_
      rotate_left
      · intro W hS
        go_simp
        try rfl
      simp only [Act.put, List.setIfInBounds_toArray, List.set_cons_zero, List.set_cons_succ, List.getElem_toArray, List.getElem_cons_succ, List.getElem_cons_zero]
      refine wpAnyH_take (i := 3) (v := ?_) rfl (by kernel_rfl) (by kernel_rfl) (by kernel_rfl) (fun _ _ _ h => h) (Or.inl ⟨by kernel_rfl, ?_⟩) hH0 ?_
      rotate_left
      · intro W hS
        go_simp
        try rfl
      simp only [Act.put, List.setIfInBounds_toArray, List.set_cons_zero, List.set_cons_succ, List.getElem_toArray, List.getElem_cons_succ, List.getElem_cons_zero]
      refine wpAnyH_take (i := 4) (v := ?_) rfl (by kernel_rfl) (by kernel_rfl) (by kernel_rfl) (fun _ _ _ h => h) (Or.inl ⟨by kernel_rfl, ?_⟩) hH0 ?_
      rotate_left
      · intro W hS
        go_simp
        try rfl
      simp only [Act.put, List.setIfInBounds_toArray, List.set_cons_zero, List.set_cons_succ, List.getElem_toArray, List.getElem_cons_succ, List.getElem_cons_zero]
      refine wpAnyH_take (i := 5) (v := ?_) rfl (by kernel_rfl) (by kernel_rfl) (by kernel_rfl) (fun _ _ _ h => h) (Or.inl ⟨by kernel_rfl, ?_⟩) hH0 ?_
      rotate_left
      · intro W hS
        have cc := hS.2.cell hat
        go_simp
        try rfl
      simp only [Act.put, List.setIfInBounds_toArray, List.set_cons_zero, List.set_cons_succ, List.getElem_toArray, List.getElem_cons_succ, List.getElem_cons_zero]
      refine wpAnyH_ready (rs := [2]) (by kernel_rfl) (by simp) ?_
      refine AllReadyH.cons rfl (fun K hK => ?_) AllReadyH.nil
      go_simp
      with_reducible refine (qF.out _).mono ?_
      rintro e w4 ⟨rfl, rfl⟩
      refine hK.out _ _ hH0 (fun _ => ?_)
      clear hK K
      try simp only [Act.put, List.setIfInBounds_toArray, List.set_cons_zero, List.set_cons_succ]
      refine wpAnyH_ready (rs := [6]) (by kernel_rfl) (by simp) ?_
      refine AllReadyH.cons rfl (fun K hK => ?_) AllReadyH.nil
      go_simp
      with_reducible refine (qS.out _ h3).mono ?_
      rintro e w5 ⟨rfl, h4, k4⟩
      have hH1 := And.intro (hH0.1.but k4 hH0.1.lt (by simp <;> omega)) (hH0.2.but k4 hH0.2.lt (by simp <;> omega))
      replace kb := kb.trans (k4.below hSB (by simp <;> omega))
      clear k4
      refine hK.out _ _ hH1 (fun _ => ?_)
      clear hK K
      try simp only [Act.put, List.setIfInBounds_toArray, List.set_cons_zero, List.set_cons_succ]
      refine wpAnyH_take (i := 7) (v := ?_) rfl (by kernel_rfl) (by kernel_rfl) (by kernel_rfl) (fun _ _ _ h => h) (Or.inl ⟨by kernel_rfl, ?_⟩) hH1 ?_
      rotate_left
      · intro W hS
        go_simp
        try rfl
      simp only [Act.put, List.setIfInBounds_toArray, List.set_cons_zero, List.set_cons_succ, List.getElem_toArray, List.getElem_cons_succ, List.getElem_cons_zero]
      refine wpAnyH_done (by kernel_rfl) ?_ _

      go_wp2_with fail
      go_roundw
      case rel => exact ⟨k + 1, by omega, by go_num, h4, hH1.1, hH1.2, kb⟩
      case measure => simp [intOf]; omega
    · obtain rfl : k = 7 := by omega
      have hl0 := fun o => (kL.alloc o).cell (i := 0) (v := .int .u32 (X 0)) rfl
      have hl1 := fun o => (kL.alloc o).cell (i := 1) (v := .int .u32 (X 1)) rfl
      have hl2 := fun o => (kL.alloc o).cell (i := 2) (v := .int .u32 (X 2)) rfl
      have hl3 := fun o => (kL.alloc o).cell (i := 3) (v := .int .u32 (X 3)) rfl
      have hl4 := fun o => (kL.alloc o).cell (i := 4) (v := .int .u32 (X 4)) rfl
      have hl5 := fun o => (kL.alloc o).cell (i := 5) (v := .int .u32 (X 5)) rfl
      have hl6 := fun o => (kL.alloc o).cell (i := 6) (v := .int .u32 (X 6)) rfl
      go_wp2_with (first | with_reducible refine wpList_load_row rfl 28 _ rfl N rfl 28 _ (0, 0) _ kC.h Tryd.underlying28 rfl hsK ?_ | (with_reducible refine wpList_store_row rfl 28 _ _ rfl wr.heap.size (stA g) rfl rfl 28 z17 (alloc_new _ _) hsK hsZ (stA_one g) ?_; rw [World.setRow_alloc_new]))
      have hZ : (#[.int .u32 (g.r 0), .int .u32 (g.r 1), .int .u32 (g.r 2), .int .u32 (g.r 3), .int .u32 (g.r 4), .int .u32 (g.r 5), .int .u32 (g.r 6), .int .u32 (g.r 7), .int .u32 g.pc,
        .bool (X 0 != 0), .bool (X 1 != 0), .bool (X 2 != 0), .bool (X 3 != 0), .bool (X 4 != 0), .bool (X 5 != 0), .bool (X 6 != 0), .int .u64 g.x] : Array Value) = stA (gWr g X) := rfl
      rw [hZ]
      have heq := eq8 (gWr g X).r
      have hsX : (Tryd.prog.info? 28).map (·.size) = some (stA (gWr g X)).size := sz17
      have qGt := fun W (h : HAt W B (flS (putS newS (wordsL g) 18) X 7)) => Get_any h
      rw [show (flS (putS newS (wordsL g) 18) X 7).m = flM (putM newS.m (wordsL g) 18) X 7 from rfl, get_fl newS.m g hg X hX] at qGt
      replace qGt := Lib.hid qGt
      have kb4 := kb.alloc (by have := kb.size; omega) (.cells (stA (gWr g X)) 28)
      have kB := h3.alloc (.cells (stA (gWr g X)) 28)
      have kS := Blk.new wr 28 (stA (gWr g X))
      clear hZ hl0 hl1 hl2 hl3 hl4 hl5 hl6
      generalize gWr g X = g2 at *
      have hSB := kb4.size
      have hS0 := kS.drew
      generalize wr.heap.size = C at *
      replace kb4 := kb4.drew
      replace kB := kB.drew
      rw [hN] at hSB
      replace hSB : N ≤ (wr.alloc (.cells (stA g2) 28)).drew.heap.size := hSB
      generalize wr.alloc (.cells (stA g2) 28) = w5 at *
      clear kb kC kL kS hsK hsZ tabs h3
      refine wp_region_held_drew (S := fun W => Blk W C 28 (stA g2)) (by kernel_rfl) hS0 (fun hH0 => ?_)

      refine wpAnyH_take (i := 0) (v := ?_) rfl (by kernel_rfl) (by kernel_rfl) (by kernel_rfl) (fun _ _ _ h => h) (Or.inl ⟨by kernel_rfl, ?_⟩) hH0 ?_
      rotate_left
      · intro W hS
        go_simp
        try rfl
      simp only [Act.put, List.setIfInBounds_toArray, List.set_cons_zero, List.set_cons_succ, List.getElem_toArray, List.getElem_cons_succ, List.getElem_cons_zero]
      refine wpAnyH_take (i := 2) (v := .agg (stA g2)) rfl (by kernel_rfl) (by kernel_rfl) (by kernel_rfl) (fun _ _ _ h => h) (Or.inl ⟨by kernel_rfl, ?_⟩) hH0 ?_
      · intro W hS
        exact run_load_row (by rfl) (by rfl) _ (stA g2) (0, 0) _ hS.h Tryd.underlying28 rfl hsX
      simp only [Act.put, List.setIfInBounds_toArray, List.set_cons_zero, List.set_cons_succ]
      refine wpAnyH_ready (rs := [1]) (by kernel_rfl) (by simp) ?_
      refine AllReadyH.cons rfl (fun K hK => ?_) AllReadyH.nil
      go_simp
      with_reducible refine (qGt.out _ kB).mono ?_
      rintro e w6 ⟨rfl, bb⟩
      replace kb4 := kb4.trans (bb.mono hSB)
      have hH1 := hH0.below bb hH0.lt
      clear bb
      refine hK.out _ _ hH1 (fun _ => ?_)
      clear hK K
      try simp only [Act.put, List.setIfInBounds_toArray, List.set_cons_zero, List.set_cons_succ]
      refine wpAnyH_take (i := 3) (v := ?_) rfl (by kernel_rfl) (by kernel_rfl) (by kernel_rfl) (fun _ _ _ h => h) (Or.inl ⟨by kernel_rfl, ?_⟩) hH1 ?_
      rotate_left
      · intro W hS
        go_simp
        try rfl
      simp only [Act.put, List.setIfInBounds_toArray, List.set_cons_zero, List.set_cons_succ, List.getElem_toArray, List.getElem_cons_succ, List.getElem_cons_zero]
      refine wpAnyH_take (i := 4) (v := ?_) rfl (by kernel_rfl) (by kernel_rfl) (by kernel_rfl) (fun _ _ _ h => h) (Or.inl ⟨by kernel_rfl, ?_⟩) hH1 ?_
      rotate_left
      · intro W hS
        go_simp
        try rfl
      simp only [Act.put, List.setIfInBounds_toArray, List.set_cons_zero, List.set_cons_succ, List.getElem_toArray, List.getElem_cons_succ, List.getElem_cons_zero]
      refine wpAnyH_done (by kernel_rfl) ?_ _

      go_wp2_with fail
      go_ret
      subst hN
      exact ⟨rfl, kb4⟩
end Go.Proofs.YtgamghmeefoopaaDoor
