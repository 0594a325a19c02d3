/- StateConds. -/
import Derived.Test.YtgamghmeefoopaaDoorT8
import Derived.Test.YtgamghmeefoopaaDoorWf
import Derived.Deep.CutRange
namespace Go.Proofs.YtgamghmeefoopaaDoor
open Go.RowKit
set_option linter.unusedVariables false
set_option linter.unusedSimpArgs false
set_option linter.unusedSectionVars false

abbrev want8 (f : Nat → Bool) : Array Value := #[.bool (f 5), .bool (f 0), .bool (f 3), .bool (f 0 || f 3), .bool (f 4), .bool (f 1), .bool (f 4 != f 5), .bool (f 3 || (f 4 != f 5))]
theorem want_at (f : Nat → Bool) (k : Nat) (hk : k < 8) : (want8 f)[k]? = some (.bool (evenL f k)) := by
  rcases (by omega : k = 0 ∨ k = 1 ∨ k = 2 ∨ k = 3 ∨ k = 4 ∨ k = 5 ∨ k = 6 ∨ k = 7) with rfl | rfl | rfl | rfl | rfl | rfl | rfl | rfl <;> rfl
theorem cond_even (f : Nat → Bool) (k : Nat) (hk : k < 8) : condL f (no16 ((k : Int) * 2)) = evenL f k := by
  rw [show no16 ((k : Int) * 2) = 2 * k by unfold no16; omega]
  unfold condL
  rw [show 2 * k / 2 = k by omega, show 2 * k % 2 = 0 by omega]
  simp
theorem cond_odd (f : Nat → Bool) (k : Nat) (hk : k < 8) : condL f (no16 ((k : Int) * 2 + 1)) = !evenL f k := by
  rw [show no16 ((k : Int) * 2 + 1) = 2 * k + 1 by unfold no16; omega]
  unfold condL
  rw [show (2 * k + 1) / 2 = k by omega, show (2 * k + 1) % 2 = 1 by omega]
  simp
theorem word_bd (f : Nat → Bool) : 0 ≤ wordK f 6 ∧ wordK f 6 ≤ 4294967295 := by
  unfold wordK
  generalize f 0 = c0, f 1 = c1, f 2 = c2, f 3 = c3, f 4 = c4, f 5 = c5
  cases c0 <;> cases c1 <;> cases c2 <;> cases c3 <;> cases c4 <;> cases c5 <;> decide
theorem word_2 (f : Nat → Bool) : bits .and .u32 (wordK f 6) 2 = 2 := by
  unfold wordK
  generalize f 0 = c0, f 1 = c1, f 2 = c2, f 3 = c3, f 4 = c4, f 5 = c5
  cases c0 <;> cases c1 <;> cases c2 <;> cases c3 <;> cases c4 <;> cases c5 <;> decide
theorem word_none (f : Nat → Bool) : bits .andNot .u32 (wordK f 6) 2263 = 0 := by
  unfold wordK
  generalize f 0 = c0, f 1 = c1, f 2 = c2, f 3 = c3, f 4 = c4, f 5 = c5
  cases c0 <;> cases c1 <;> cases c2 <;> cases c3 <;> cases c4 <;> cases c5 <;> decide
theorem word_back (f : Nat → Bool) : flV (flagL (wordK f 6)) = flV f := by
  unfold wordK flV flagL
  generalize f 0 = c0, f 1 = c1, f 2 = c2, f 3 = c3, f 4 = c4, f 5 = c5
  cases c0 <;> cases c1 <;> cases c2 <;> cases c3 <;> cases c4 <;> cases c5 <;> rfl
theorem flV_inj {f g : Nat → Bool} (h : flV f = flV g) : f 0 = g 0 ∧ f 1 = g 1 ∧ f 2 = g 2 ∧ f 3 = g 3 ∧ f 4 = g 4 ∧ f 5 = g 5 := by
  simpa using h
theorem word_eq (f g : Nat → Bool) : (wordK f 6 == wordK g 6) = (f 0 == g 0 && (f 1 == g 1 && (f 2 == g 2 && (f 3 == g 3 && (f 4 == g 4 && f 5 == g 5))))) := by
  by_cases h : wordK f 6 = wordK g 6
  · have e : flV f = flV g := by rw [← word_back f, ← word_back g, h]
    obtain ⟨h0, h1, h2, h3, h4, h5⟩ := flV_inj e
    simp [h, h0, h1, h2, h3, h4, h5]
  · have : ¬ (f 0 = g 0 ∧ f 1 = g 1 ∧ f 2 = g 2 ∧ f 3 = g 3 ∧ f 4 = g 4 ∧ f 5 = g 5) := fun ⟨h0, h1, h2, h3, h4, h5⟩ => h (by unfold wordK; rw [h0, h1, h2, h3, h4, h5])
    rw [show (wordK f 6 == wordK g 6) = false by simp [h]]
    symm
    simpa using this
theorem ix_want (b k : Nat) (h : k < 8) (W : World) : (Instr.indexAt 47 (.pointer (some ⟨b, 0, none⟩)) (.int .u8 (k : Int))).run Tryd.prog W = .ok (.pointer (some ⟨b, k, none⟩)) W := by
  have s1 : ∀ W, (sizeOf 4).run Tryd.prog W = .ok 1 W := fun W => by kernel_rfl
  have hj : (k : Int) < 8 := by omega
  simp [Instr.indexAt, run_underlying Tryd.underlying47, s1, go_sem, hj, h, Instr.sureAddr]
set_option maxHeartbeats 3000000 in
theorem conds_walk (f g : Nat → Bool) (cc : Int) (hcc : 0 ≤ cc ∧ cc ≤ 255) (w : World) (tabs : Tabs w) :
    Calls Tryd.prog 5 #[flV f, flV g, .int .u8 cc] w fun e w' => e = .returned (.bool true) ∧ Below w.heap.size w w' := by
  have tabs0 := tabs
  obtain ⟨k, hk⟩ := Int.eq_ofNat_of_zero_le (show 0 ≤ cc % 8 by omega)
  have hk8 : k < 8 := by omega
  have kb : Below w.heap.size w ((w.alloc (.cells (fl6 f) 25)).alloc (.cells (fl6 g) 25)) := ((Below.refl _ _).alloc (Nat.le_refl _) _).alloc (by simp) _
  have kC := (Blk.new w 25 (fl6 f)).alloc (.cells (fl6 g) 25)
  have kD := Blk.new (w.alloc (.cells (fl6 f) 25)) 25 (fl6 g)
  rw [World.size_alloc] at kD
  have t2 := tabs.below kb
  go_enter Tryd.func5, Tryd.ntmps5
  go_wp2_with fail
  refine (known_any _ t2).mono ?_
  rintro e w1 ⟨rfl, b1⟩
  replace kb := kb.trans (b1.mono (by simp <;> omega))
  replace kC := kC.below b1 (by simp <;> omega)
  replace kD := kD.below b1 (by simp <;> omega)
  replace tabs := tabs.below kb
  clear t2 b1
  generalize hN : w.heap.size = N at *
  have hSB := kb.size
  rw [hN] at hSB
  have f0 := kC.cell (i := 0) (v := .bool (f 0)) rfl
  have f1 := kC.cell (i := 1) (v := .bool (f 1)) rfl
  have f2 := kC.cell (i := 2) (v := .bool (f 2)) rfl
  have f3 := kC.cell (i := 3) (v := .bool (f 3)) rfl
  have f4 := kC.cell (i := 4) (v := .bool (f 4)) rfl
  have f5 := kC.cell (i := 5) (v := .bool (f 5)) rfl
  go_upto_region 4 with fail
  simp only [hk]
  go_cut [8] from 15 to 45 (fun t8 W => ∃ D, t8 = .pointer (some ⟨D, 0, none⟩) ∧ N ≤ D ∧ Blk W D 47 (want8 f) ∧ Blk W N 25 (fl6 f) ∧ Blk W (N + 1) 25 (fl6 g) ∧ Below N w W)
  case first =>
    go_wp2_with fail
    all_goals go_meet
    all_goals refine ⟨_, rfl, hSB, ⟨?_⟩, kC.alloc _, kD.alloc _, kb.alloc hSB _⟩
    all_goals rw [alloc_new]
    all_goals clear f0 f1 f2 f3 f4 f5
    all_goals simp [*, bne]
  case rest =>
    clear kC kD kb tabs f0 f1 f2 f3 f4 f5 hSB
    obtain ⟨D, rfl, hD, kW, kC, kD, kb⟩ := hcut
    have tabs := tabs0.below (hN ▸ kb)
    have hSB := kb.size
    rw [hN] at hSB
    have hix := ix_want D k hk8
    have ht : Int.tmod cc 8 = (k : Int) := by rw [Int.tmod_eq_emod_of_nonneg (by omega)]; exact hk
    have hwr : IntKind.i64.wrap ((k : Int) * 2 + 1) = (k : Int) * 2 + 1 := by rw [IntKind.wrap_i64]; omega
    have hk8i : (k : Int) < 8 := by omega
    have hk0 : (0 : Int) ≤ (k : Int) := by omega
    have hk256 : (k : Int) ≤ 255 := by omega
    have qA := fun W => Cond_any f ((k : Int) * 2) (by omega) W
    have qB := fun W => Cond_any f ((k : Int) * 2 + 1) (by omega) W
    rw [cond_even f k hk8] at qA
    rw [cond_odd f k hk8] at qB
    have qW := fun W tabs => Word_any f W tabs
    have qG := fun W tabs => Word_any g W tabs
    have qF := fun W tabs => Flags_any (wordK f 6) (word_bd f) W tabs
    rw [word_back f] at qF
    have e1 := word_2 f
    have e2 := word_none f
    have e3 := word_eq f g
    have hwk := want_at f k hk8
    obtain ⟨bq, hbq⟩ : ∃ bq, bq = (f 0 == g 0 && (f 1 == g 1 && (f 2 == g 2 && (f 3 == g 3 && (f 4 == g 4 && f 5 == g 5))))) := ⟨_, rfl⟩
    rw [← hbq] at e3
    replace hbq := Lib.hid hbq
    generalize wordK f 6 = wf at *
    generalize wordK g 6 = wg at *
    generalize evenL f k = ev at *
    replace qA := Lib.hid qA
    replace qB := Lib.hid qB
    replace qW := Lib.hid qW
    replace qG := Lib.hid qG
    replace qF := Lib.hid qF
    go_wp2_with fail
    have hS0 : Blk wc.drew N 25 (fl6 f) ∧ Blk wc.drew (N + 1) 25 (fl6 g) ∧ Blk wc.drew D 47 (want8 f) := ⟨kC.drew, kD.drew, kW.drew⟩
    replace tabs : Tabs wc.drew := tabs
    replace kb := kb.drew
    replace hSB : N ≤ wc.drew.heap.size := hSB
    clear kC kD kW tabs0 hcc
    refine wp_region_held_drew (S := fun W => Blk W N 25 (fl6 f) ∧ Blk W (N + 1) 25 (fl6 g) ∧ Blk W D 47 (want8 f)) (by kernel_rfl) hS0 (fun hH0 => ?_)
    refine wpAnyH_take (i := 0) (v := ?_) rfl (by kernel_rfl) (by kernel_rfl) (by kernel_rfl) (fun _ _ _ h => h) (Or.inl ⟨by kernel_rfl, ?_⟩) hH0 ?_
    rotate_left
    · intro W hS
      have c0 := hS.1.cell (i := 0) (v := .bool (f 0)) rfl
      have c1 := hS.1.cell (i := 1) (v := .bool (f 1)) rfl
      have c2 := hS.1.cell (i := 2) (v := .bool (f 2)) rfl
      have c3 := hS.1.cell (i := 3) (v := .bool (f 3)) rfl
      have c4 := hS.1.cell (i := 4) (v := .bool (f 4)) rfl
      have c5 := hS.1.cell (i := 5) (v := .bool (f 5)) rfl
      go_simp
      try rfl
    simp only [Act.put, List.setIfInBounds_toArray, List.set_cons_zero, List.set_cons_succ]
    refine wpAnyH_take (i := 1) (v := ?_) rfl (by kernel_rfl) (by kernel_rfl) (by kernel_rfl) (fun _ _ _ h => h) (Or.inl ⟨by kernel_rfl, ?_⟩) hH0 ?_
    rotate_left
    · intro W hS
      go_simp
      try rfl
    simp only [Act.put, List.setIfInBounds_toArray, List.set_cons_zero, List.set_cons_succ]
    refine wpAnyH_take (i := 3) (v := ?_) rfl (by kernel_rfl) (by kernel_rfl) (by kernel_rfl) (fun _ _ _ h => h) (Or.inl ⟨by kernel_rfl, ?_⟩) hH0 ?_
    rotate_left
    · intro W hS
      go_simp
      try rfl
    simp only [Act.put, List.setIfInBounds_toArray, List.set_cons_zero, List.set_cons_succ]
    refine wpAnyH_take (i := 4) (v := ?_) rfl (by kernel_rfl) (by kernel_rfl) (by kernel_rfl) (fun _ _ _ h => h) (Or.inl ⟨by kernel_rfl, ?_⟩) hH0 ?_
    rotate_left
    · intro W hS
      go_simp
      try rfl
    simp only [Act.put, List.setIfInBounds_toArray, List.set_cons_zero, List.set_cons_succ]
    refine wpAnyH_take (i := 5) (v := ?_) rfl (by kernel_rfl) (by kernel_rfl) (by kernel_rfl) (fun _ _ _ h => h) (Or.inl ⟨by kernel_rfl, ?_⟩) hH0 ?_
    rotate_left
    · intro W hS
      go_simp
      try rfl
    simp only [Act.put, List.setIfInBounds_toArray, List.set_cons_zero, List.set_cons_succ]
    refine wpAnyH_take (i := 6) (v := ?_) rfl (by kernel_rfl) (by kernel_rfl) (by kernel_rfl) (fun _ _ _ h => h) (Or.inl ⟨by kernel_rfl, ?_⟩) hH0 ?_
    rotate_left
    · intro W hS
      have cc := hS.2.2.cell hwk
      go_simp
      try rfl
    simp only [Act.put, List.setIfInBounds_toArray, List.set_cons_zero, List.set_cons_succ]
    refine wpAnyH_ready (rs := [2]) (by kernel_rfl) (by simp) ?_
    refine AllReadyH.cons rfl (fun K hK => ?_) AllReadyH.nil
    go_simp
    with_reducible refine (qA.out _).mono ?_
    rintro e wq1 ⟨rfl, bb⟩
    replace tabs := tabs.below bb
    replace kb := kb.trans (bb.mono hSB)
    replace hSB := Nat.le_trans hSB bb.size
    have hH1 := And.intro (hH0.1.below bb hH0.1.lt) (And.intro (hH0.2.1.below bb hH0.2.1.lt) (hH0.2.2.below bb hH0.2.2.lt))
    clear bb
    refine hK.out _ _ hH1 (fun _ => ?_)
    clear hK K
    try simp only [Act.put, List.setIfInBounds_toArray, List.set_cons_zero, List.set_cons_succ]
    refine wpAnyH_take (i := 7) (v := ?_) rfl (by kernel_rfl) (by kernel_rfl) (by kernel_rfl) (fun _ _ _ h => h) (Or.inl ⟨by kernel_rfl, ?_⟩) hH1 ?_
    rotate_left
    · intro W hS
      go_simp
      try rfl
    simp only [Act.put, List.setIfInBounds_toArray, List.set_cons_zero, List.set_cons_succ]
    refine wpAnyH_take (i := 8) (v := ?_) rfl (by kernel_rfl) (by kernel_rfl) (by kernel_rfl) (fun _ _ _ h => h) (Or.inl ⟨by kernel_rfl, ?_⟩) hH1 ?_
    rotate_left
    · intro W hS
      go_simp
      try rfl
    simp only [Act.put, List.setIfInBounds_toArray, List.set_cons_zero, List.set_cons_succ]
    refine wpAnyH_take (i := 9) (v := ?_) rfl (by kernel_rfl) (by kernel_rfl) (by kernel_rfl) (fun _ _ _ h => h) (Or.inl ⟨by kernel_rfl, ?_⟩) hH1 ?_
    rotate_left
    · intro W hS
      have c0 := hS.1.cell (i := 0) (v := .bool (f 0)) rfl
      have c1 := hS.1.cell (i := 1) (v := .bool (f 1)) rfl
      have c2 := hS.1.cell (i := 2) (v := .bool (f 2)) rfl
      have c3 := hS.1.cell (i := 3) (v := .bool (f 3)) rfl
      have c4 := hS.1.cell (i := 4) (v := .bool (f 4)) rfl
      have c5 := hS.1.cell (i := 5) (v := .bool (f 5)) rfl
      go_simp
      try rfl
    simp only [Act.put, List.setIfInBounds_toArray, List.set_cons_zero, List.set_cons_succ]
    refine wpAnyH_take (i := 10) (v := ?_) rfl (by kernel_rfl) (by kernel_rfl) (by kernel_rfl) (fun _ _ _ h => h) (Or.inl ⟨by kernel_rfl, ?_⟩) hH1 ?_
    rotate_left
    · intro W hS
      go_simp
      try rfl
    simp only [Act.put, List.setIfInBounds_toArray, List.set_cons_zero, List.set_cons_succ]
    refine wpAnyH_take (i := 11) (v := ?_) rfl (by kernel_rfl) (by kernel_rfl) (by kernel_rfl) (fun _ _ _ h => h) (Or.inl ⟨by kernel_rfl, ?_⟩) hH1 ?_
    rotate_left
    · intro W hS
      go_simp
      try rfl
    simp only [Act.put, List.setIfInBounds_toArray, List.set_cons_zero, List.set_cons_succ]
    refine wpAnyH_take (i := 13) (v := ?_) rfl (by kernel_rfl) (by kernel_rfl) (by kernel_rfl) (fun _ _ _ h => h) (Or.inl ⟨by kernel_rfl, ?_⟩) hH1 ?_
    rotate_left
    · intro W hS
      have c0 := hS.1.cell (i := 0) (v := .bool (f 0)) rfl
      have c1 := hS.1.cell (i := 1) (v := .bool (f 1)) rfl
      have c2 := hS.1.cell (i := 2) (v := .bool (f 2)) rfl
      have c3 := hS.1.cell (i := 3) (v := .bool (f 3)) rfl
      have c4 := hS.1.cell (i := 4) (v := .bool (f 4)) rfl
      have c5 := hS.1.cell (i := 5) (v := .bool (f 5)) rfl
      go_simp
      try rfl
    simp only [Act.put, List.setIfInBounds_toArray, List.set_cons_zero, List.set_cons_succ]
    refine wpAnyH_take (i := 14) (v := ?_) rfl (by kernel_rfl) (by kernel_rfl) (by kernel_rfl) (fun _ _ _ h => h) (Or.inl ⟨by kernel_rfl, ?_⟩) hH1 ?_
    rotate_left
    · intro W hS
      go_simp
      try rfl
    simp only [Act.put, List.setIfInBounds_toArray, List.set_cons_zero, List.set_cons_succ]
    refine wpAnyH_ready (rs := [12]) (by kernel_rfl) (by simp) ?_
    refine AllReadyH.cons rfl (fun K hK => ?_) AllReadyH.nil
    go_simp
    with_reducible refine (qB.out _).mono ?_
    rintro e wq2 ⟨rfl, bb⟩
    replace tabs := tabs.below bb
    replace kb := kb.trans (bb.mono hSB)
    replace hSB := Nat.le_trans hSB bb.size
    have hH2 := And.intro (hH1.1.below bb hH1.1.lt) (And.intro (hH1.2.1.below bb hH1.2.1.lt) (hH1.2.2.below bb hH1.2.2.lt))
    clear bb
    refine hK.out _ _ hH2 (fun _ => ?_)
    clear hK K
    try simp only [Act.put, List.setIfInBounds_toArray, List.set_cons_zero, List.set_cons_succ]
    refine wpAnyH_ready (rs := [15]) (by kernel_rfl) (by simp) ?_
    refine AllReadyH.cons rfl (fun K hK => ?_) AllReadyH.nil
    go_simp
    with_reducible refine (qA.out _).mono ?_
    rintro e wq3 ⟨rfl, bb⟩
    replace tabs := tabs.below bb
    replace kb := kb.trans (bb.mono hSB)
    replace hSB := Nat.le_trans hSB bb.size
    have hH3 := And.intro (hH2.1.below bb hH2.1.lt) (And.intro (hH2.2.1.below bb hH2.2.1.lt) (hH2.2.2.below bb hH2.2.2.lt))
    clear bb
    refine hK.out _ _ hH3 (fun _ => ?_)
    clear hK K
    try simp only [Act.put, List.setIfInBounds_toArray, List.set_cons_zero, List.set_cons_succ]
    refine wpAnyH_take (i := 16) (v := ?_) rfl (by kernel_rfl) (by kernel_rfl) (by kernel_rfl) (fun _ _ _ h => h) (Or.inl ⟨by kernel_rfl, ?_⟩) hH3 ?_
    rotate_left
    · intro W hS
      go_simp
      try rfl
    simp only [Act.put, List.setIfInBounds_toArray, List.set_cons_zero, List.set_cons_succ]
    refine wpAnyH_take (i := 17) (v := ?_) rfl (by kernel_rfl) (by kernel_rfl) (by kernel_rfl) (fun _ _ _ h => h) (Or.inl ⟨by kernel_rfl, ?_⟩) hH3 ?_
    rotate_left
    · intro W hS
      go_simp
      try rfl
    simp only [Act.put, List.setIfInBounds_toArray, List.set_cons_zero, List.set_cons_succ]
    refine wpAnyH_take (i := 18) (v := ?_) rfl (by kernel_rfl) (by kernel_rfl) (by kernel_rfl) (fun _ _ _ h => h) (Or.inl ⟨by kernel_rfl, ?_⟩) hH3 ?_
    rotate_left
    · intro W hS
      go_simp
      try rfl
    simp only [Act.put, List.setIfInBounds_toArray, List.set_cons_zero, List.set_cons_succ]
    refine wpAnyH_take (i := 19) (v := ?_) rfl (by kernel_rfl) (by kernel_rfl) (by kernel_rfl) (fun _ _ _ h => h) (Or.inl ⟨by kernel_rfl, ?_⟩) hH3 ?_
    rotate_left
    · intro W hS
      have c0 := hS.1.cell (i := 0) (v := .bool (f 0)) rfl
      have c1 := hS.1.cell (i := 1) (v := .bool (f 1)) rfl
      have c2 := hS.1.cell (i := 2) (v := .bool (f 2)) rfl
      have c3 := hS.1.cell (i := 3) (v := .bool (f 3)) rfl
      have c4 := hS.1.cell (i := 4) (v := .bool (f 4)) rfl
      have c5 := hS.1.cell (i := 5) (v := .bool (f 5)) rfl
      go_simp
      try rfl
    simp only [Act.put, List.setIfInBounds_toArray, List.set_cons_zero, List.set_cons_succ]
    refine wpAnyH_take (i := 22) (v := ?_) rfl (by kernel_rfl) (by kernel_rfl) (by kernel_rfl) (fun _ _ _ h => h) (Or.inl ⟨by kernel_rfl, ?_⟩) hH3 ?_
    rotate_left
    · intro W hS
      have c0 := hS.1.cell (i := 0) (v := .bool (f 0)) rfl
      have c1 := hS.1.cell (i := 1) (v := .bool (f 1)) rfl
      have c2 := hS.1.cell (i := 2) (v := .bool (f 2)) rfl
      have c3 := hS.1.cell (i := 3) (v := .bool (f 3)) rfl
      have c4 := hS.1.cell (i := 4) (v := .bool (f 4)) rfl
      have c5 := hS.1.cell (i := 5) (v := .bool (f 5)) rfl
      go_simp
      try rfl
    simp only [Act.put, List.setIfInBounds_toArray, List.set_cons_zero, List.set_cons_succ]
    refine wpAnyH_ready (rs := [20]) (by kernel_rfl) (by simp) ?_
    refine AllReadyH.cons rfl (fun K hK => ?_) AllReadyH.nil
    go_simp
    with_reducible refine (qW.out _ tabs).mono ?_
    rintro e wq4 ⟨rfl, bb⟩
    replace tabs := tabs.below bb
    replace kb := kb.trans (bb.mono hSB)
    replace hSB := Nat.le_trans hSB bb.size
    have hH4 := And.intro (hH3.1.below bb hH3.1.lt) (And.intro (hH3.2.1.below bb hH3.2.1.lt) (hH3.2.2.below bb hH3.2.2.lt))
    clear bb
    refine hK.out _ _ hH4 (fun _ => ?_)
    clear hK K
    try simp only [Act.put, List.setIfInBounds_toArray, List.set_cons_zero, List.set_cons_succ]
    refine wpAnyH_ready (rs := [21]) (by kernel_rfl) (by simp) ?_
    refine AllReadyH.cons rfl (fun K hK => ?_) AllReadyH.nil
    go_simp
    with_reducible refine (qF.out _ tabs).mono ?_
    rintro e wq5 ⟨rfl, bb⟩
    replace tabs := tabs.below bb
    replace kb := kb.trans (bb.mono hSB)
    replace hSB := Nat.le_trans hSB bb.size
    have hH5 := And.intro (hH4.1.below bb hH4.1.lt) (And.intro (hH4.2.1.below bb hH4.2.1.lt) (hH4.2.2.below bb hH4.2.2.lt))
    clear bb
    refine hK.out _ _ hH5 (fun _ => ?_)
    clear hK K
    try simp only [Act.put, List.setIfInBounds_toArray, List.set_cons_zero, List.set_cons_succ]
    refine wpAnyH_take (i := 23) (v := ?_) rfl (by kernel_rfl) (by kernel_rfl) (by kernel_rfl) (fun _ _ _ h => h) (Or.inl ⟨by kernel_rfl, ?_⟩) hH5 ?_
    rotate_left
    · intro W hS
      go_simp
      try rfl
    simp only [Act.put, List.setIfInBounds_toArray, List.set_cons_zero, List.set_cons_succ]
    refine wpAnyH_take (i := 24) (v := ?_) rfl (by kernel_rfl) (by kernel_rfl) (by kernel_rfl) (fun _ _ _ h => h) (Or.inl ⟨by kernel_rfl, ?_⟩) hH5 ?_
    rotate_left
    · intro W hS
      go_simp
      try rfl
    simp only [Act.put, List.setIfInBounds_toArray, List.set_cons_zero, List.set_cons_succ]
    refine wpAnyH_take (i := 25) (v := ?_) rfl (by kernel_rfl) (by kernel_rfl) (by kernel_rfl) (fun _ _ _ h => h) (Or.inl ⟨by kernel_rfl, ?_⟩) hH5 ?_
    rotate_left
    · intro W hS
      go_simp
      try rfl
    simp only [Act.put, List.setIfInBounds_toArray, List.set_cons_zero, List.set_cons_succ]
    refine wpAnyH_take (i := 26) (v := ?_) rfl (by kernel_rfl) (by kernel_rfl) (by kernel_rfl) (fun _ _ _ h => h) (Or.inl ⟨by kernel_rfl, ?_⟩) hH5 ?_
    rotate_left
    · intro W hS
      have c0 := hS.1.cell (i := 0) (v := .bool (f 0)) rfl
      have c1 := hS.1.cell (i := 1) (v := .bool (f 1)) rfl
      have c2 := hS.1.cell (i := 2) (v := .bool (f 2)) rfl
      have c3 := hS.1.cell (i := 3) (v := .bool (f 3)) rfl
      have c4 := hS.1.cell (i := 4) (v := .bool (f 4)) rfl
      have c5 := hS.1.cell (i := 5) (v := .bool (f 5)) rfl
      go_simp
      try rfl
    simp only [Act.put, List.setIfInBounds_toArray, List.set_cons_zero, List.set_cons_succ]
    refine wpAnyH_take (i := 28) (v := ?_) rfl (by kernel_rfl) (by kernel_rfl) (by kernel_rfl) (fun _ _ _ h => h) (Or.inl ⟨by kernel_rfl, ?_⟩) hH5 ?_
    rotate_left
    · intro W hS
      have c0 := hS.2.1.cell (i := 0) (v := .bool (g 0)) rfl
      have c1 := hS.2.1.cell (i := 1) (v := .bool (g 1)) rfl
      have c2 := hS.2.1.cell (i := 2) (v := .bool (g 2)) rfl
      have c3 := hS.2.1.cell (i := 3) (v := .bool (g 3)) rfl
      have c4 := hS.2.1.cell (i := 4) (v := .bool (g 4)) rfl
      have c5 := hS.2.1.cell (i := 5) (v := .bool (g 5)) rfl
      go_simp
      try rfl
    simp only [Act.put, List.setIfInBounds_toArray, List.set_cons_zero, List.set_cons_succ]
    refine wpAnyH_take (i := 31) (v := ?_) rfl (by kernel_rfl) (by kernel_rfl) (by kernel_rfl) (fun _ _ _ h => h) (Or.inl ⟨by kernel_rfl, ?_⟩) hH5 ?_
    rotate_left
    · intro W hS
      have c0 := hS.1.cell (i := 0) (v := .bool (f 0)) rfl
      have c1 := hS.1.cell (i := 1) (v := .bool (f 1)) rfl
      have c2 := hS.1.cell (i := 2) (v := .bool (f 2)) rfl
      have c3 := hS.1.cell (i := 3) (v := .bool (f 3)) rfl
      have c4 := hS.1.cell (i := 4) (v := .bool (f 4)) rfl
      have c5 := hS.1.cell (i := 5) (v := .bool (f 5)) rfl
      go_simp
      try rfl
    simp only [Act.put, List.setIfInBounds_toArray, List.set_cons_zero, List.set_cons_succ]
    refine wpAnyH_take (i := 32) (v := ?_) rfl (by kernel_rfl) (by kernel_rfl) (by kernel_rfl) (fun _ _ _ h => h) (Or.inl ⟨by kernel_rfl, ?_⟩) hH5 ?_
    rotate_left
    · intro W hS
      have c0 := hS.2.1.cell (i := 0) (v := .bool (g 0)) rfl
      have c1 := hS.2.1.cell (i := 1) (v := .bool (g 1)) rfl
      have c2 := hS.2.1.cell (i := 2) (v := .bool (g 2)) rfl
      have c3 := hS.2.1.cell (i := 3) (v := .bool (g 3)) rfl
      have c4 := hS.2.1.cell (i := 4) (v := .bool (g 4)) rfl
      have c5 := hS.2.1.cell (i := 5) (v := .bool (g 5)) rfl
      go_simp
      try rfl
    simp only [Act.put, List.setIfInBounds_toArray, List.set_cons_zero, List.set_cons_succ]
    refine wpAnyH_take (i := 33) (v := .bool bq) rfl (by kernel_rfl) (by kernel_rfl) (by kernel_rfl) (fun _ _ _ h => h) (Or.inl ⟨by kernel_rfl, ?_⟩) hH5 ?_
    · intro W hS
      go_simp
      rw [hbq.out]
      clear hix ht hwr e1 e2 e3 hwk
      (repeat' split) <;> simp_all
    simp only [Act.put, List.setIfInBounds_toArray, List.set_cons_zero, List.set_cons_succ]
    refine wpAnyH_ready (rs := [27]) (by kernel_rfl) (by simp) ?_
    refine AllReadyH.cons rfl (fun K hK => ?_) AllReadyH.nil
    go_simp
    with_reducible refine (qW.out _ tabs).mono ?_
    rintro e wq6 ⟨rfl, bb⟩
    replace tabs := tabs.below bb
    replace kb := kb.trans (bb.mono hSB)
    replace hSB := Nat.le_trans hSB bb.size
    have hH6 := And.intro (hH5.1.below bb hH5.1.lt) (And.intro (hH5.2.1.below bb hH5.2.1.lt) (hH5.2.2.below bb hH5.2.2.lt))
    clear bb
    refine hK.out _ _ hH6 (fun _ => ?_)
    clear hK K
    try simp only [Act.put, List.setIfInBounds_toArray, List.set_cons_zero, List.set_cons_succ]
    refine wpAnyH_ready (rs := [29]) (by kernel_rfl) (by simp) ?_
    refine AllReadyH.cons rfl (fun K hK => ?_) AllReadyH.nil
    go_simp
    with_reducible refine (qG.out _ tabs).mono ?_
    rintro e wq7 ⟨rfl, bb⟩
    replace tabs := tabs.below bb
    replace kb := kb.trans (bb.mono hSB)
    replace hSB := Nat.le_trans hSB bb.size
    have hH7 := And.intro (hH6.1.below bb hH6.1.lt) (And.intro (hH6.2.1.below bb hH6.2.1.lt) (hH6.2.2.below bb hH6.2.2.lt))
    clear bb
    refine hK.out _ _ hH7 (fun _ => ?_)
    clear hK K
    try simp only [Act.put, List.setIfInBounds_toArray, List.set_cons_zero, List.set_cons_succ]
    refine wpAnyH_take (i := 30) (v := ?_) rfl (by kernel_rfl) (by kernel_rfl) (by kernel_rfl) (fun _ _ _ h => h) (Or.inl ⟨by kernel_rfl, ?_⟩) hH7 ?_
    rotate_left
    · intro W hS
      go_simp
      try rfl
    simp only [Act.put, List.setIfInBounds_toArray, List.set_cons_zero, List.set_cons_succ]
    refine wpAnyH_take (i := 34) (v := ?_) rfl (by kernel_rfl) (by kernel_rfl) (by kernel_rfl) (fun _ _ _ h => h) (Or.inl ⟨by kernel_rfl, ?_⟩) hH7 ?_
    rotate_left
    · intro W hS
      go_simp
      try rfl
    simp only [Act.put, List.setIfInBounds_toArray, List.set_cons_zero, List.set_cons_succ]
    refine wpAnyH_take (i := 35) (v := ?_) rfl (by kernel_rfl) (by kernel_rfl) (by kernel_rfl) (fun _ _ _ h => h) (Or.inl ⟨by kernel_rfl, ?_⟩) hH7 ?_
    rotate_left
    · intro W hS
      go_simp
      try rfl
    simp only [Act.put, List.setIfInBounds_toArray, List.set_cons_zero, List.set_cons_succ]
    refine wpAnyH_take (i := 36) (v := ?_) rfl (by kernel_rfl) (by kernel_rfl) (by kernel_rfl) (fun _ _ _ h => h) (Or.inl ⟨by kernel_rfl, ?_⟩) hH7 ?_
    rotate_left
    · intro W hS
      go_simp
      try rfl
    simp only [Act.put, List.setIfInBounds_toArray, List.set_cons_zero, List.set_cons_succ]
    refine wpAnyH_take (i := 37) (v := ?_) rfl (by kernel_rfl) (by kernel_rfl) (by kernel_rfl) (fun _ _ _ h => h) (Or.inl ⟨by kernel_rfl, ?_⟩) hH7 ?_
    rotate_left
    · intro W hS
      have c0 := hS.1.cell (i := 0) (v := .bool (f 0)) rfl
      have c1 := hS.1.cell (i := 1) (v := .bool (f 1)) rfl
      have c2 := hS.1.cell (i := 2) (v := .bool (f 2)) rfl
      have c3 := hS.1.cell (i := 3) (v := .bool (f 3)) rfl
      have c4 := hS.1.cell (i := 4) (v := .bool (f 4)) rfl
      have c5 := hS.1.cell (i := 5) (v := .bool (f 5)) rfl
      go_simp
      try rfl
    simp only [Act.put, List.setIfInBounds_toArray, List.set_cons_zero, List.set_cons_succ]
    refine wpAnyH_ready (rs := [38]) (by kernel_rfl) (by simp) ?_
    refine AllReadyH.cons rfl (fun K hK => ?_) AllReadyH.nil
    go_simp
    with_reducible refine (qW.out _ tabs).mono ?_
    rintro e wq8 ⟨rfl, bb⟩
    replace tabs := tabs.below bb
    replace kb := kb.trans (bb.mono hSB)
    replace hSB := Nat.le_trans hSB bb.size
    have hH8 := And.intro (hH7.1.below bb hH7.1.lt) (And.intro (hH7.2.1.below bb hH7.2.1.lt) (hH7.2.2.below bb hH7.2.2.lt))
    clear bb
    refine hK.out _ _ hH8 (fun _ => ?_)
    clear hK K
    try simp only [Act.put, List.setIfInBounds_toArray, List.set_cons_zero, List.set_cons_succ]
    refine wpAnyH_take (i := 39) (v := ?_) rfl (by kernel_rfl) (by kernel_rfl) (by kernel_rfl) (fun _ _ _ h => h) (Or.inl ⟨by kernel_rfl, ?_⟩) hH8 ?_
    rotate_left
    · intro W hS
      go_simp
      try rfl
    simp only [Act.put, List.setIfInBounds_toArray, List.set_cons_zero, List.set_cons_succ]
    refine wpAnyH_take (i := 40) (v := ?_) rfl (by kernel_rfl) (by kernel_rfl) (by kernel_rfl) (fun _ _ _ h => h) (Or.inl ⟨by kernel_rfl, ?_⟩) hH8 ?_
    rotate_left
    · intro W hS
      go_simp
      try rfl
    simp only [Act.put, List.setIfInBounds_toArray, List.set_cons_zero, List.set_cons_succ]
    refine wpAnyH_take (i := 41) (v := ?_) rfl (by kernel_rfl) (by kernel_rfl) (by kernel_rfl) (fun _ _ _ h => h) (Or.inl ⟨by kernel_rfl, ?_⟩) hH8 ?_
    rotate_left
    · intro W hS
      go_simp
      try rfl
    simp only [Act.put, List.setIfInBounds_toArray, List.set_cons_zero, List.set_cons_succ]
    refine wpAnyH_take (i := 42) (v := ?_) rfl (by kernel_rfl) (by kernel_rfl) (by kernel_rfl) (fun _ _ _ h => h) (Or.inl ⟨by kernel_rfl, ?_⟩) hH8 ?_
    rotate_left
    · intro W hS
      go_simp
      try rfl
    simp only [Act.put, List.setIfInBounds_toArray, List.set_cons_zero, List.set_cons_succ]
    refine wpAnyH_take (i := 43) (v := ?_) rfl (by kernel_rfl) (by kernel_rfl) (by kernel_rfl) (fun _ _ _ h => h) (Or.inl ⟨by kernel_rfl, ?_⟩) hH8 ?_
    rotate_left
    · intro W hS
      have c0 := hS.1.cell (i := 0) (v := .bool (f 0)) rfl
      have c1 := hS.1.cell (i := 1) (v := .bool (f 1)) rfl
      have c2 := hS.1.cell (i := 2) (v := .bool (f 2)) rfl
      have c3 := hS.1.cell (i := 3) (v := .bool (f 3)) rfl
      have c4 := hS.1.cell (i := 4) (v := .bool (f 4)) rfl
      have c5 := hS.1.cell (i := 5) (v := .bool (f 5)) rfl
      go_simp
      try rfl
    simp only [Act.put, List.setIfInBounds_toArray, List.set_cons_zero, List.set_cons_succ]
    refine wpAnyH_ready (rs := [44]) (by kernel_rfl) (by simp) ?_
    refine AllReadyH.cons rfl (fun K hK => ?_) AllReadyH.nil
    go_simp
    with_reducible refine (qW.out _ tabs).mono ?_
    rintro e wq9 ⟨rfl, bb⟩
    replace tabs := tabs.below bb
    replace kb := kb.trans (bb.mono hSB)
    replace hSB := Nat.le_trans hSB bb.size
    have hH9 := And.intro (hH8.1.below bb hH8.1.lt) (And.intro (hH8.2.1.below bb hH8.2.1.lt) (hH8.2.2.below bb hH8.2.2.lt))
    clear bb
    refine hK.out _ _ hH9 (fun _ => ?_)
    clear hK K
    try simp only [Act.put, List.setIfInBounds_toArray, List.set_cons_zero, List.set_cons_succ]
    refine wpAnyH_take (i := 45) (v := ?_) rfl (by kernel_rfl) (by kernel_rfl) (by kernel_rfl) (fun _ _ _ h => h) (Or.inl ⟨by kernel_rfl, ?_⟩) hH9 ?_
    rotate_left
    · intro W hS
      go_simp
      try rfl
    simp only [Act.put, List.setIfInBounds_toArray, List.set_cons_zero, List.set_cons_succ, List.getElem_toArray, List.getElem_cons_succ, List.getElem_cons_zero]
    refine wpAnyH_take (i := 46) (v := ?_) rfl (by kernel_rfl) (by kernel_rfl) (by kernel_rfl) (fun _ _ _ h => h) (Or.inl ⟨by kernel_rfl, ?_⟩) hH9 ?_
    rotate_left
    · intro W hS
      go_simp
      try rfl
    simp only [Act.put, List.setIfInBounds_toArray, List.set_cons_zero, List.set_cons_succ, List.getElem_toArray, List.getElem_cons_succ, List.getElem_cons_zero]
    refine wpAnyH_take (i := 47) (v := ?_) rfl (by kernel_rfl) (by kernel_rfl) (by kernel_rfl) (fun _ _ _ h => h) (Or.inl ⟨by kernel_rfl, ?_⟩) hH9 ?_
    rotate_left
    · intro W hS
      go_simp
      try rfl
    simp only [Act.put, List.setIfInBounds_toArray, List.set_cons_zero, List.set_cons_succ, List.getElem_toArray, List.getElem_cons_succ, List.getElem_cons_zero]
    refine wpAnyH_take (i := 48) (v := ?_) rfl (by kernel_rfl) (by kernel_rfl) (by kernel_rfl) (fun _ _ _ h => h) (Or.inl ⟨by kernel_rfl, ?_⟩) hH9 ?_
    rotate_left
    · intro W hS
      go_simp
      try rfl
    simp only [Act.put, List.setIfInBounds_toArray, List.set_cons_zero, List.set_cons_succ, List.getElem_toArray, List.getElem_cons_succ, List.getElem_cons_zero]
    refine wpAnyH_done (by kernel_rfl) ?_ _

    go_wp2_with fail
    go_ret
    subst hN
    exact ⟨rfl, kb⟩
end Go.Proofs.YtgamghmeefoopaaDoor
