/- StatePuts. -/
import Derived.Test.YtgamghmeefoopaaDoorL3
namespace Go.Proofs.YtgamghmeefoopaaDoor
open Go.RowKit
set_option linter.unusedVariables false
set_option linter.unusedSimpArgs false
set_option linter.unusedSectionVars false

theorem LoadV {B : Nat} {s : St} {w : World} (h : HAt w B s) (a v : Int) (ha : 0 ≤ a ∧ a ≤ 4294967295) (hf : fitsL a 4 = true) (hv : wordM s.m a 4 = v) :
    Calls Tryd.prog 24 #[hp B, .int .u32 a, .int .i64 4] w fun e w' => e = .returned (.tuple #[.int .u32 v, .bool true]) ∧ Below w.heap.size w w' := hv ▸ Load_yes h a 4 ha hf
theorem RegAtK (k : Nat) (hk : k < 8) (w : World) : Calls Tryd.prog 25 #[.int .i64 (k : Int)] w fun e w' => e = .returned (.int .u32 (64 + 4 * (k : Int))) ∧ w = w' := by
  have := RegAt_any (k : Int) (by omega) w
  rwa [show (k : Int) % 8 = k by omega] at this
theorem RegAtK8 (k : Nat) (hk : k < 8) (w : World) : Calls Tryd.prog 25 #[.int .i64 ((k : Int) + 8)] w fun e w' => e = .returned (.int .u32 (64 + 4 * (k : Int))) ∧ w = w' := by
  have := RegAt_any ((k : Int) + 8) (by omega) w
  rwa [show ((k : Int) + 8) % 8 = k by omega] at this
theorem FlagAtJ (k : Nat) (hk : k < 7) (w : World) : Calls Tryd.prog 26 #[.int .i64 (k : Int)] w fun e w' => e = .returned (.int .u32 (100 + 4 * (k : Int))) ∧ w = w' := by
  have := FlagAt_any (k : Int) (by omega) w
  rwa [show 64 + 4 * (9 + (k : Int) % 7) = 100 + 4 * (k : Int) by omega] at this
def fl7 (g : Gs) (k : Nat) : Bool := if k < 6 then g.f k else g.df
theorem words_r (g : Gs) (k : Nat) (hk : k < 8) : wordsL g k = g.r k := by
  rcases (by omega : k = 0 ∨ k = 1 ∨ k = 2 ∨ k = 3 ∨ k = 4 ∨ k = 5 ∨ k = 6 ∨ k = 7) with rfl | rfl | rfl | rfl | rfl | rfl | rfl | rfl <;> rfl
theorem words_f (g : Gs) (k : Nat) (hk : k < 7) : wordsL g (9 + k) = oneI (fl7 g k) := by
  rcases (by omega : k = 0 ∨ k = 1 ∨ k = 2 ∨ k = 3 ∨ k = 4 ∨ k = 5 ∨ k = 6) with rfl | rfl | rfl | rfl | rfl | rfl | rfl <;> rfl
abbrev fcells (g : Gs) : Array Value := #[.bool (g.f 0), .bool (g.f 1), .bool (g.f 2), .bool (g.f 3), .bool (g.f 4), .bool (g.f 5), .bool g.df]
theorem fcells_at (g : Gs) (k : Nat) (hk : k < 7) : (fcells g)[k]? = some (.bool (fl7 g k)) := by
  rcases (by omega : k = 0 ∨ k = 1 ∨ k = 2 ∨ k = 3 ∨ k = 4 ∨ k = 5 ∨ k = 6) with rfl | rfl | rfl | rfl | rfl | rfl | rfl <;> rfl
theorem ix_f7 (b k : Nat) (h : k < 7) (W : World) : (Instr.indexAt 44 (.pointer (some ⟨b, 0, none⟩)) (.int .i64 (k : Int))).run Tryd.prog W = .ok (.pointer (some ⟨b, k, none⟩)) W := by
  have s1 : ∀ W, (sizeOf 4).run Tryd.prog W = .ok 1 W := fun W => by kernel_rfl
  have hj : (k : Int) < 7 := by omega
  simp [Instr.indexAt, run_underlying Tryd.underlying44, s1, go_sem, hj, h, Instr.sureAddr]
/-- The host behind what the statement does. -/
def endS (g g1 : Gs) (x : Int) : St := putS (storeS (storeS (putS newS (wordsL g1) 18) 136 4 x) 60 4 x) (wordsL g) 18
theorem end_word (g g1 : Gs) (hg : g.ok) (x : Int) (k : Nat) (hk : k < 18) (a : Int) (ha : a = 64 + 4 * (k : Int)) : wordM (endS g g1 x).m a 4 = wordsL g k := by
  subst ha
  exact putM_lie _ (wordsL g) (wordsL_bd hg) 18 k hk
theorem end_136 (g g1 : Gs) (x : Int) (hx : 0 ≤ x ∧ x ≤ 4294967295) : wordM (endS g g1 x).m 136 4 = x := by
  show wordM (putM _ (wordsL g) 18) 136 4 = x
  rw [putM_other _ _ _ _ (by decide)]
  show wordM (storeM _ 60 4 x) 136 4 = x
  rw [load_other (by decide)]
  exact load_store hx
theorem end_60 (g g1 : Gs) (x : Int) (hx : 0 ≤ x ∧ x ≤ 4294967295) : wordM (endS g g1 x).m 60 4 = x := by
  show wordM (putM _ (wordsL g) 18) 60 4 = x
  rw [putM_other _ _ _ _ (by decide)]
  exact load_store hx
set_option maxHeartbeats 4000000 in
set_option maxRecDepth 8000 in
theorem puts_walk (g g1 : Gs) (hg : g.ok) (hg1 : g1.ok) (x : Int) (hx : 0 ≤ x ∧ x ≤ 4294967295) (w : World) (tabs : Tabs w) :
    Calls Tryd.prog 4 #[stV g, stV g1, .int .u32 x] w fun e w' => e = .returned (.bool true) ∧ Below w.heap.size w w' := by
  have hsK : (Tryd.prog.info? 28).map (·.size) = some (stA g).size := sz17
  have hsM : (Tryd.prog.info? 28).map (·.size) = some (stA g1).size := sz17
  have kb : Below w.heap.size w ((w.alloc (.cells (stA g) 28)).alloc (.cells (stA g1) 28)) := ((Below.refl _ _).alloc (Nat.le_refl _) _).alloc (by simp) _
  have kC := (Blk.new w 28 (stA g)).alloc (.cells (stA g1) 28)
  have kO := Blk.new (w.alloc (.cells (stA g) 28)) 28 (stA g1)
  rw [World.size_alloc] at kO
  have t2 := tabs.below kb
  go_enter Tryd.func4, Tryd.ntmps4
  go_wp2_with fail
  refine (known_any _ t2).mono ?_
  rintro e w1 ⟨rfl, b1⟩
  replace kb := kb.trans (b1.mono (by simp <;> omega))
  replace kC := kC.below b1 (by simp <;> omega)
  replace kO := kO.below b1 (by simp <;> omega)
  have t3 := tabs.below kb
  go_wp2_with fail
  refine (New_any _ t3).mono ?_
  rintro e w2 ⟨rfl, h2, b2⟩
  have s1 := kb.size
  have s2 := kO.lt
  replace kb := kb.trans (b2.mono s1)
  replace kC := kC.below b2 kC.lt
  replace kO := kO.below b2 kO.lt
  clear t2 t3 b1 b2
  generalize w1.heap.size = B at *
  generalize hN : w.heap.size = N at *
  go_wp2_with (first | with_reducible refine wpList_load_row rfl 28 _ rfl (N + 1) rfl 28 _ (0, 0) _ kO.h Tryd.underlying28 rfl hsM ?_)
  refine (Put_any h2 g1 hg1).mono ?_
  rintro e w3 ⟨rfl, h3, k3⟩
  replace kb := kb.trans (k3.below (by have := kb.size; omega) (by simp <;> omega))
  replace kC := kC.but k3 kC.lt (by simp <;> omega)
  clear k3 h2 kO hsM
  have f136 : fitsL 136 4 = true := by decide
  have f60 : fitsL 60 4 = true := by decide
  go_wp2_with fail
  refine (Store_yes h3 136 4 x (by decide) hx f136).mono ?_
  rintro e w4 ⟨rfl, h4, k4⟩
  replace kb := kb.trans (k4.below (by have := kb.size; omega) (by simp <;> omega))
  replace kC := kC.but k4 kC.lt (by simp <;> omega)
  clear k4 h3
  go_wp2_with fail
  refine (Store_yes h4 60 4 x (by decide) hx f60).mono ?_
  rintro e w5 ⟨rfl, h5, k5⟩
  replace kb := kb.trans (k5.below (by have := kb.size; omega) (by simp <;> omega))
  replace kC := kC.but k5 kC.lt (by simp <;> omega)
  clear k5 h4
  go_wp2_with (first | with_reducible refine wpList_load_row rfl 28 _ rfl N rfl 28 _ (0, 0) _ kC.h Tryd.underlying28 rfl hsK ?_)
  refine (Put_any h5 g hg).mono ?_
  rintro e w6 ⟨rfl, h6, k6⟩
  replace h6 : HAt w6 B (endS g g1 x) := h6
  replace kb := kb.trans (k6.below (by have := kb.size; omega) (by simp <;> omega))
  replace kC := kC.but k6 kC.lt (by simp <;> omega)
  clear k6 h5
  have qGt := fun W (h : HAt W B (endS g g1 x)) => GetP (s := storeS (storeS (putS newS (wordsL g1) 18) 136 4 x) 60 4 x) h hg
  have lw := end_word g g1 hg x
  have l136 := end_136 g g1 x hx
  have l60 := end_60 g g1 x hx
  generalize endS g g1 x = s3 at *
  replace qGt := Lib.hid qGt
  replace lw := Lib.hid lw
  have heq := eq8 g.r
  go_wp2_with fail
  have hSB := kb.size
  rw [hN] at hSB
  have hS0 := kC.drew
  replace h6 := h6.drew
  replace kb := kb.drew
  replace hSB : N ≤ w6.drew.heap.size := hSB
  clear kC
  refine wp_region_held_drew (S := fun W => Blk W N 28 (stA g)) (by kernel_rfl) hS0 (fun hH0 => ?_)
  refine wpAnyH_take (i := 0) (v := ?_) rfl (by kernel_rfl) (by kernel_rfl) (by kernel_rfl) (fun _ _ _ h => h) (Or.inl ⟨by kernel_rfl, ?_⟩) hH0 ?_
  rotate_left
  · intro W hS
    go_simp
    try rfl
  simp only [Act.put, List.setIfInBounds_toArray, List.set_cons_zero, List.set_cons_succ, List.getElem_toArray, List.getElem_cons_succ, List.getElem_cons_zero]
  refine wpAnyH_take (i := 2) (v := .agg (stA g)) rfl (by kernel_rfl) (by kernel_rfl) (by kernel_rfl) (fun _ _ _ h => h) (Or.inl ⟨by kernel_rfl, ?_⟩) hH0 ?_
  · intro W hS
    exact run_load_row (by rfl) (by rfl) _ (stA g) (0, 0) _ hS.h Tryd.underlying28 rfl hsK
  simp only [Act.put, List.setIfInBounds_toArray, List.set_cons_zero, List.set_cons_succ]
  refine wpAnyH_ready (rs := [1]) (by kernel_rfl) (by simp) ?_
  refine AllReadyH.cons rfl (fun K hK => ?_) AllReadyH.nil
  go_simp
  with_reducible refine (qGt.out _ h6).mono ?_
  rintro e w7 ⟨rfl, bb⟩
  replace kb := kb.trans (bb.mono hSB)
  replace h6 := h6.below bb h6.lt
  have hH1 := hH0.below bb hH0.lt
  clear bb
  refine hK.out _ _ hH1 (fun _ => ?_)
  clear hK K
  try simp only [Act.put, List.setIfInBounds_toArray, List.set_cons_zero, List.set_cons_succ]
  refine wpAnyH_take (i := 3) (v := ?_) rfl (by kernel_rfl) (by kernel_rfl) (by kernel_rfl) (fun _ _ _ h => h) (Or.inl ⟨by kernel_rfl, ?_⟩) hH1 ?_
  rotate_left
  · intro W hS
    go_simp
    try rfl
  simp only [Act.put, List.setIfInBounds_toArray, List.set_cons_zero, List.set_cons_succ, List.getElem_toArray, List.getElem_cons_succ, List.getElem_cons_zero]
  refine wpAnyH_done (by kernel_rfl) ?_ _

  go_wp2_with fail
  clear hS0 hSB heq qGt hH0
  have kC := hH1
  clear hH1
  go_loopw [9] (fun ii W => ∃ k : Nat, k ≤ 8 ∧ ii = .int .i64 k ∧ HAt W B s3 ∧ Blk W N 28 (stA g) ∧ Below N w W) (fun ii _ => (8 - intOf ii).toNat)
  case atStart => exact ⟨0, by omega, rfl, h6, kC, kb⟩
  case round =>
    clear h6 kC kb
    obtain ⟨k, hk, hi, h6, kC, kb⟩ := hrel
    obtain rfl : _ = Value.int .i64 (k : Int) := hi
    by_cases h8 : k < 8
    · have hz : ((k : Int) < 8) = True := eq_true (by omega)
      have hwr : IntKind.i64.wrap ((k : Int) + 1) = (k : Int) + 1 := by rw [IntKind.wrap_i64]; omega
      have hk0 : (0 : Int) ≤ (k : Int) := by omega
      have hk7 : (k : Int) ≤ 7 := by omega
      have q1 := fun W => RegAtK k h8 W
      have q2 := fun W => RegAtK8 k h8 W
      have q3 := fun W (h : HAt W B s3) => LoadV h (64 + 4 * (k : Int)) (g.r k) (by omega) (fits_word k (by omega)) ((lw.out k (by omega) _ rfl).trans (words_r g k h8))
      have hix := ix_r8 N k h8
      have hat := stA_at g k h8
      replace q1 := Lib.hid q1
      replace q2 := Lib.hid q2
      replace q3 := Lib.hid q3
      generalize g.r k = gk at *
      go_wp2_with (first | (with_reducible refine (q1.out _).mono ?_; rintro e w7 ⟨rfl, rfl⟩) | (with_reducible refine (q2.out _).mono ?_; rintro e w8 ⟨rfl, rfl⟩) | (with_reducible refine (q3.out _ h6).mono ?_; rintro e w9 ⟨rfl, bb⟩; replace kb := kb.trans (bb.mono (by have := kb.size; omega)); replace h6 := h6.below bb h6.lt; replace kC := kC.below bb kC.lt; have cc := kC.cell hat; clear bb))
      refine ⟨⟨k + 1, by omega, by go_num, h6, kC, kb⟩, ?_⟩
      simp [intOf]; omega
    · obtain rfl : k = 8 := by omega
      rw [show ((8 : Nat) : Int) = 8 from rfl]
      have c9 := kC.cell (i := 9) (v := .bool (g.f 0)) rfl
      have c10 := kC.cell (i := 10) (v := .bool (g.f 1)) rfl
      have c11 := kC.cell (i := 11) (v := .bool (g.f 2)) rfl
      have c12 := kC.cell (i := 12) (v := .bool (g.f 3)) rfl
      have c13 := kC.cell (i := 13) (v := .bool (g.f 4)) rfl
      have c14 := kC.cell (i := 14) (v := .bool (g.f 5)) rfl
      have c15 := kC.cell (i := 15) (v := .bool (g.df)) rfl
      go_wp2_with fail
      have kF : Blk (wr.alloc (.cells (fcells g) 44)) wr.heap.size 44 (fcells g) := Blk.new wr _ _
      have kb2 := kb.alloc (by have := kb.size; omega) (.cells (fcells g) 44)
      have kC2 := kC.alloc (.cells (fcells g) 44)
      have h62 := h6.alloc (.cells (fcells g) 44)
      have hNE := kC.lt
      clear kb kC h6 c9 c10 c11 c12 c13 c14 c15
      generalize wr.heap.size = E at *
      generalize wr.alloc (.cells (fcells g) 44) = w8 at *
      go_loopw [13] (fun ii W => ∃ k : Nat, k ≤ 7 ∧ ii = .int .i64 k ∧ HAt W B s3 ∧ Blk W N 28 (stA g) ∧ Blk W E 44 (fcells g) ∧ Below N w W) (fun ii _ => (7 - intOf ii).toNat)
      case atStart => exact ⟨0, by omega, rfl, h62, kC2, kF, kb2⟩
      case round =>
        clear h62 kC2 kF kb2
        obtain ⟨k, hk, hi, h6, kC, kF, kb⟩ := hrel
        obtain rfl : _ = Value.int .i64 (k : Int) := hi
        by_cases h7 : k < 7
        · have hz : ((k : Int) < 7) = True := eq_true (by omega)
          have hwr : IntKind.i64.wrap ((k : Int) + 1) = (k : Int) + 1 := by rw [IntKind.wrap_i64]; omega
          have hk0 : (0 : Int) ≤ (k : Int) := by omega
          have hk6 : (k : Int) ≤ 6 := by omega
          have q1 := fun W => FlagAtJ k h7 W
          have hfit := fits_word (9 + k) (by omega)
          rw [show 64 + 4 * ((9 + k : Nat) : Int) = 100 + 4 * (k : Int) by omega] at hfit
          have q3 := fun W (h : HAt W B s3) => LoadV h (100 + 4 * (k : Int)) (oneI (fl7 g k)) (by omega) hfit ((lw.out (9 + k) (by omega) (100 + 4 * (k : Int)) (by omega)).trans (words_f g k h7))
          have hix := ix_f7 E k h7
          have hat := fcells_at g k h7
          replace q1 := Lib.hid q1
          replace q3 := Lib.hid q3
          have o1 : oneI true = 1 := rfl
          have o0 : oneI false = 0 := rfl
          generalize fl7 g k = cf at *
          cases cf
          all_goals (
            go_wp2_with (first | (with_reducible refine (q1.out _).mono ?_; rintro e w7 ⟨rfl, rfl⟩) | (with_reducible refine (q3.out _ h6).mono ?_; rintro e w9 ⟨rfl, bb⟩; replace kb := kb.trans (bb.mono (by have := kb.size; omega)); replace h6 := h6.below bb h6.lt; replace kC := kC.below bb kC.lt; replace kF := kF.below bb kF.lt; have cc := kF.cell hat; clear bb))
            go_roundw
            case rel => exact ⟨k + 1, by omega, by go_num, h6, kC, kF, kb⟩
            case measure => simp [intOf]; omega)
        · obtain rfl : k = 7 := by omega
          have r96 := fun W (h : HAt W B s3) => LoadV h 96 g.pc (by decide) (by decide) (lw.out 8 (by decide) 96 (by decide))
          have r128 := fun W (h : HAt W B s3) => LoadV h 128 (g.x % 4294967296) (by decide) (by decide) (lw.out 16 (by decide) 128 (by decide))
          have r132 := fun W (h : HAt W B s3) => LoadV h 132 (g.x / 4294967296) (by decide) (by decide) (lw.out 17 (by decide) 132 (by decide))
          have r136 := fun W (h : HAt W B s3) => LoadV h 136 x (by decide) f136 l136
          have r60 := fun W (h : HAt W B s3) => LoadV h 60 x (by decide) f60 l60
          have hgx := hg.x
          have hhi : 0 ≤ g.x / 4294967296 ∧ g.x / 4294967296 ≤ 4294967295 := by omega
          have hlo : 0 ≤ g.x % 4294967296 ∧ g.x % 4294967296 ≤ 4294967295 := by omega
          have hor := or_high hhi hlo
          rw [show g.x / 4294967296 * 4294967296 + g.x % 4294967296 = g.x by omega] at hor
          replace r96 := Lib.hid r96
          replace r128 := Lib.hid r128
          replace r132 := Lib.hid r132
          replace r136 := Lib.hid r136
          replace r60 := Lib.hid r60
          generalize g.x / 4294967296 = hi at *
          generalize g.x % 4294967296 = lo at *
          go_wp2_with (first | (with_reducible refine (r96.out _ h6).mono ?_; rintro e w9 ⟨rfl, bb⟩; replace kb := kb.trans (bb.mono (by have := kb.size; omega)); replace h6 := h6.below bb h6.lt; replace kC := kC.below bb kC.lt; clear bb) | (with_reducible refine (r128.out _ h6).mono ?_; rintro e w9 ⟨rfl, bb⟩; replace kb := kb.trans (bb.mono (by have := kb.size; omega)); replace h6 := h6.below bb h6.lt; replace kC := kC.below bb kC.lt; clear bb) | (with_reducible refine (r132.out _ h6).mono ?_; rintro e w9 ⟨rfl, bb⟩; replace kb := kb.trans (bb.mono (by have := kb.size; omega)); replace h6 := h6.below bb h6.lt; replace kC := kC.below bb kC.lt; clear bb) | (with_reducible refine (r136.out _ h6).mono ?_; rintro e w9 ⟨rfl, bb⟩; replace kb := kb.trans (bb.mono (by have := kb.size; omega)); replace h6 := h6.below bb h6.lt; replace kC := kC.below bb kC.lt; clear bb) | (with_reducible refine (r60.out _ h6).mono ?_; rintro e w9 ⟨rfl, bb⟩; replace kb := kb.trans (bb.mono (by have := kb.size; omega)); replace h6 := h6.below bb h6.lt; replace kC := kC.below bb kC.lt; have cp := kC.cell (i := 8) (v := .int .u32 g.pc) rfl; have cx := kC.cell (i := 16) (v := .int .u64 g.x) rfl; clear bb))
          go_ret
          subst hN
          exact ⟨rfl, kb⟩
end Go.Proofs.YtgamghmeefoopaaDoor
