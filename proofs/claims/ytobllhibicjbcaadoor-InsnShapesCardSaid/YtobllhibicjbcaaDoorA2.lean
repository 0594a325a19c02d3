/- What operations write. -/
import Derived.Test.YtobllhibicjbcaaDoorA1
import Derived.Deep.RegionHeld
namespace Go.Proofs.YtobllhibicjbcaaDoor
open Go.RowKit
set_option linter.unusedVariables false
set_option linter.unusedSimpArgs false
set_option linter.unusedSectionVars false

theorem fl6_one (f : Nat → Bool) : (fl6 f).all (·.oneCell') = true := by simp [fl6, Value.oneCell']
abbrev ClassIs (op : Int) (k : Nat) : Prop := ∀ w, Calls Tryd.prog 22 #[.int .i64 op] w fun e w' => e = .returned (.int .i64 (k : Int)) ∧ w = w'
theorem Tabs.wr {W : World} (h : Tabs W) (k : Nat) (hk : k < 8) (i : Nat) (hi : i < 6) : W.cell? ⟨1, k * 12 + i, none⟩ = some (.bool (wrT k i)) := (h.2.1 k hk i hi).1
theorem Tabs.rd {W : World} (h : Tabs W) (k : Nat) (hk : k < 8) (i : Nat) (hi : i < 6) : W.cell? ⟨1, k * 12 + 6 + i, none⟩ = some (.bool (rdT k i)) := (h.2.1 k hk i hi).2
/-- A set of flags as bits. -/
def bitsN (s : Nat → Bool) : Nat → Int
  | 0 => 0
  | k + 1 => bitsN s k + (if s k then 2 ^ k else 0)
theorem or_bit (s : Nat → Bool) (k : Nat) (hk : k < 6) (h : s k = true) : bits .or .i64 (bitsN s k) (wrap64 (2 ^ k)) = bitsN s (k + 1) := by
  rcases (by omega : k = 0 ∨ k = 1 ∨ k = 2 ∨ k = 3 ∨ k = 4 ∨ k = 5) with rfl | rfl | rfl | rfl | rfl | rfl <;> simp only [bitsN, h, if_true]
  · kernel_rfl
  · cases s 0 <;> kernel_rfl
  · cases s 0 <;> cases s 1 <;> kernel_rfl
  · cases s 0 <;> cases s 1 <;> cases s 2 <;> kernel_rfl
  · cases s 0 <;> cases s 1 <;> cases s 2 <;> cases s 3 <;> kernel_rfl
  · cases s 0 <;> cases s 1 <;> cases s 2 <;> cases s 3 <;> cases s 4 <;> kernel_rfl
def oneF (k : Nat) : Nat → Bool := fun i => k == i
theorem mix_eq (s : Nat → Bool) (k : Nat) (hk : k < 6) : (mixL s (fun _ => false) (oneF k) 0 == oneF k 0 && (mixL s (fun _ => false) (oneF k) 1 == oneF k 1 && (mixL s (fun _ => false) (oneF k) 2 == oneF k 2 && (mixL s (fun _ => false) (oneF k) 3 == oneF k 3 && (mixL s (fun _ => false) (oneF k) 4 == oneF k 4 && mixL s (fun _ => false) (oneF k) 5 == oneF k 5))))) = s k := by
  rcases (by omega : k = 0 ∨ k = 1 ∨ k = 2 ∨ k = 3 ∨ k = 4 ∨ k = 5) with rfl | rfl | rfl | rfl | rfl | rfl <;> simp [oneF, mixL]

theorem ix_or0 (W : World) : (Instr.index 49 (.agg orderA) (.int .i64 0)).run Tryd.prog W = .ok (.agg #[.bool true, .bool false, .bool false, .bool false, .bool false, .bool false]) W := by kernel_rfl
theorem ix_or1 (W : World) : (Instr.index 49 (.agg orderA) (.int .i64 1)).run Tryd.prog W = .ok (.agg #[.bool false, .bool true, .bool false, .bool false, .bool false, .bool false]) W := by kernel_rfl
theorem ix_or2 (W : World) : (Instr.index 49 (.agg orderA) (.int .i64 2)).run Tryd.prog W = .ok (.agg #[.bool false, .bool false, .bool true, .bool false, .bool false, .bool false]) W := by kernel_rfl
theorem ix_or3 (W : World) : (Instr.index 49 (.agg orderA) (.int .i64 3)).run Tryd.prog W = .ok (.agg #[.bool false, .bool false, .bool false, .bool true, .bool false, .bool false]) W := by kernel_rfl
theorem ix_or4 (W : World) : (Instr.index 49 (.agg orderA) (.int .i64 4)).run Tryd.prog W = .ok (.agg #[.bool false, .bool false, .bool false, .bool false, .bool true, .bool false]) W := by kernel_rfl
theorem ix_or5 (W : World) : (Instr.index 49 (.agg orderA) (.int .i64 5)).run Tryd.prog W = .ok (.agg #[.bool false, .bool false, .bool false, .bool false, .bool false, .bool true]) W := by kernel_rfl
theorem ix_or (k : Nat) (hk : k < 6) (W : World) : (Instr.index 49 (.agg orderA) (.int .i64 (k : Int))).run Tryd.prog W = .ok (.agg (fl6 (oneF k))) W := by
  rcases (by omega : k = 0 ∨ k = 1 ∨ k = 2 ∨ k = 3 ∨ k = 4 ∨ k = 5) with rfl | rfl | rfl | rfl | rfl | rfl
  · exact ix_or0 W
  · exact ix_or1 W
  · exact ix_or2 W
  · exact ix_or3 W
  · exact ix_or4 W
  · exact ix_or5 W
set_option maxHeartbeats 4000000 in
theorem bitsOf_any (s : Nat → Bool) (w : World) (tabs : Tabs w) : Calls Tryd.prog 21 #[flV s] w fun e w' => e = .returned (.int .i64 (bitsN s 6)) ∧ Below w.heap.size w w' := by
  have kb : Below w.heap.size w (w.alloc (.cells (fl6 s) 44)) := (Below.refl _ _).alloc (Nat.le_refl _) _
  have tabs2 := tabs.below kb
  have kS := Blk.new w 44 (fl6 s)
  obtain ⟨t, fr, ho⟩ := tabs2.2.2
  have hso : (Tryd.prog.info? 49).map (·.size) = some orderA.size := by kernel_rfl
  go_enter Tryd.func21, Tryd.ntmps21
  go_wp2_with (first | with_reducible refine wpList_load_row rfl 49 _ rfl 2 rfl t orderA fr _ ho Tryd.underlying49 rfl hso ?_)
  clear ho tabs2
  generalize hN : w.heap.size = N at *
  go_loopw [3, 7] (fun b i W => ∃ k : Nat, k ≤ 6 ∧ b = .int .i64 (bitsN s k) ∧ i = .int .i64 k ∧ Blk W N 44 (fl6 s) ∧ Below N w W) (fun b i _ => 6 - (intOf i).toNat)
  case atStart => exact ⟨0, by omega, rfl, rfl, kS, kb⟩
  case round =>
    obtain ⟨k, hk, rfl, rfl, kS, kb⟩ := hrel
    have hSB := kb.size
    rw [hN] at hSB
    by_cases hlt : k < 6
    · have hix := ix_or k hlt
      have qR := Lib.hid (fun W => replaced_any (fun _ => false) (oneF k) s W)
      have hE := Lib.hid (mix_eq s k hlt)
      have kO := Blk.new wr 44 (fl6 (oneF k))
      have kS2 := kS.alloc (.cells (fl6 (oneF k)) 44)
      have kb2 := kb.alloc hSB (.cells (fl6 (oneF k)) 44)
      have hki : (k : Int) < 6 := by omega
      have hOr := Lib.hid (fun h => or_bit s k hlt h)
      generalize mixL s (fun _ => false) (oneF k) = m at *
      generalize oneF k = o at *
      go_wp2_with fail
      generalize wr.alloc (.cells (fl6 o) 44) = w1 at kO kS2 kb2 ⊢
      have hS0 : Blk w1.drew N 44 (fl6 s) ∧ Blk w1.drew wr.heap.size 44 (fl6 o) := ⟨kS2.drew, kO.drew⟩
      replace kb2 := kb2.drew
      clear kS kS2 kO
      generalize wr.heap.size = M at *
      have hSB2 := kb2.size
      rw [hN] at hSB2
      refine wp_region_held_drew (S := fun W => Blk W N 44 (fl6 s) ∧ Blk W M 44 (fl6 o)) (by kernel_rfl) hS0 (fun hH0 => ?_)

      refine wpAnyH_take (i := 0) (v := ?_) rfl (by kernel_rfl) (by kernel_rfl) (by kernel_rfl) (fun _ _ _ h => h) (Or.inl ⟨by kernel_rfl, ?_⟩) hH0 ?_
      rotate_left
      · intro W hS
        go_simp
        try rfl
      simp only [Act.put, List.setIfInBounds_toArray, List.set_cons_zero, List.set_cons_succ]
      refine wpAnyH_take (i := 1) (v := ?_) rfl (by kernel_rfl) (by kernel_rfl) (by kernel_rfl) (fun _ _ _ h => h) (Or.inl ⟨by kernel_rfl, ?_⟩) hH0 ?_
      rotate_left
      · intro W hS
        have c0 := hS.2.cell (i := 0) (v := .bool (o 0)) rfl
        have c1 := hS.2.cell (i := 1) (v := .bool (o 1)) rfl
        have c2 := hS.2.cell (i := 2) (v := .bool (o 2)) rfl
        have c3 := hS.2.cell (i := 3) (v := .bool (o 3)) rfl
        have c4 := hS.2.cell (i := 4) (v := .bool (o 4)) rfl
        have c5 := hS.2.cell (i := 5) (v := .bool (o 5)) rfl
        go_simp
        try rfl
      simp only [Act.put, List.setIfInBounds_toArray, List.set_cons_zero, List.set_cons_succ]
      refine wpAnyH_take (i := 2) (v := ?_) rfl (by kernel_rfl) (by kernel_rfl) (by kernel_rfl) (fun _ _ _ h => h) (Or.inl ⟨by kernel_rfl, ?_⟩) hH0 ?_
      rotate_left
      · intro W hS
        have c0 := hS.1.cell (i := 0) (v := .bool (s 0)) rfl
        have c1 := hS.1.cell (i := 1) (v := .bool (s 1)) rfl
        have c2 := hS.1.cell (i := 2) (v := .bool (s 2)) rfl
        have c3 := hS.1.cell (i := 3) (v := .bool (s 3)) rfl
        have c4 := hS.1.cell (i := 4) (v := .bool (s 4)) rfl
        have c5 := hS.1.cell (i := 5) (v := .bool (s 5)) rfl
        go_simp
        try rfl
      simp only [Act.put, List.setIfInBounds_toArray, List.set_cons_zero, List.set_cons_succ]
      refine wpAnyH_take (i := 4) (v := ?_) rfl (by kernel_rfl) (by kernel_rfl) (by kernel_rfl) (fun _ _ _ h => h) (Or.inl ⟨by kernel_rfl, ?_⟩) hH0 ?_
      rotate_left
      · intro W hS
        have c0 := hS.2.cell (i := 0) (v := .bool (o 0)) rfl
        have c1 := hS.2.cell (i := 1) (v := .bool (o 1)) rfl
        have c2 := hS.2.cell (i := 2) (v := .bool (o 2)) rfl
        have c3 := hS.2.cell (i := 3) (v := .bool (o 3)) rfl
        have c4 := hS.2.cell (i := 4) (v := .bool (o 4)) rfl
        have c5 := hS.2.cell (i := 5) (v := .bool (o 5)) rfl
        go_simp
        try rfl
      simp only [Act.put, List.setIfInBounds_toArray, List.set_cons_zero, List.set_cons_succ]
      refine wpAnyH_ready (rs := [3]) (by kernel_rfl) (by simp) ?_
      refine AllReadyH.cons rfl (fun K hK => ?_) AllReadyH.nil
      go_simp
      with_reducible refine (qR.out _).mono ?_
      rintro e w2 ⟨rfl, bb⟩
      have hH1 := And.intro (hH0.1.below bb hH0.1.lt) (hH0.2.below bb hH0.2.lt)
      replace kb2 := kb2.trans (bb.mono hSB2)
      replace hSB2 := Nat.le_trans hSB2 bb.size
      clear bb
      refine hK.out _ _ hH1 (fun _ => ?_)
      clear hK K
      try simp only [Act.put, List.setIfInBounds_toArray, List.set_cons_zero, List.set_cons_succ]
      refine wpAnyH_take (i := 5) (v := .bool (s k)) rfl (by kernel_rfl) (by kernel_rfl) (by kernel_rfl) (fun _ _ _ h => h) (Or.inl ⟨by kernel_rfl, ?_⟩) hH1 ?_
      · intro W hS
        go_simp
        rw [← hE.out]
        clear hE hOr qR hix hso
        (repeat' split) <;> simp_all
      simp only [Act.put, List.setIfInBounds_toArray, List.set_cons_zero, List.set_cons_succ]
      refine wpAnyH_done (by kernel_rfl) ?_ _

      go_wp2_with fail
      · rename_i hsk
        go_roundw
        case rel => exact ⟨k + 1, by omega, by rw [hOr.out hsk], by go_num, hH1.1, kb2⟩
        case measure => simp [intOf]; omega
      · rename_i hsk
        go_roundw
        case rel => exact ⟨k + 1, by omega, by simp [bitsN, hsk], by go_num, hH1.1, kb2⟩
        case measure => simp [intOf]; omega
    · obtain rfl : k = 6 := by omega
      go_wp2
      go_ret
      exact ⟨rfl, hN ▸ kb⟩
theorem Writes_any (op : Int) (k : Nat) (hk : k < 8) (hc : ClassIs op k) (w : World) (tabs : Tabs w) : Calls Tryd.prog 18 #[.int .i64 op] w fun e w' => e = .returned (.int .i64 (bitsN (wrT k) 6)) ∧ Below w.heap.size w w' := by
  have hix := ix_ef 1 k hk
  have c0 := tabs.wr k hk 0 (by decide)
  have c1 := tabs.wr k hk 1 (by decide)
  have c2 := tabs.wr k hk 2 (by decide)
  have c3 := tabs.wr k hk 3 (by decide)
  have c4 := tabs.wr k hk 4 (by decide)
  have c5 := tabs.wr k hk 5 (by decide)
  rw [Nat.add_zero] at c0
  have qB := Lib.hid (fun W tabs => bitsOf_any (wrT k) W tabs)
  replace hc := Lib.hid hc
  go_enter Tryd.func18, Tryd.ntmps18
  go_wp2_with (first | (with_reducible refine (hc.out _).mono ?_; rintro e w1 ⟨rfl, rfl⟩) | (with_reducible refine (qB.out _ tabs).mono ?_; rintro e w1 ⟨rfl, bb⟩))
  go_ret
  exact ⟨rfl, bb⟩
theorem Reads_any (op : Int) (k : Nat) (hk : k < 8) (hc : ClassIs op k) (w : World) (tabs : Tabs w) : Calls Tryd.prog 19 #[.int .i64 op] w fun e w' => e = .returned (.int .i64 (bitsN (rdT k) 6)) ∧ Below w.heap.size w w' := by
  have hix := ix_ef 1 k hk
  have c0 := tabs.rd k hk 0 (by decide)
  have c1 := tabs.rd k hk 1 (by decide)
  have c2 := tabs.rd k hk 2 (by decide)
  have c3 := tabs.rd k hk 3 (by decide)
  have c4 := tabs.rd k hk 4 (by decide)
  have c5 := tabs.rd k hk 5 (by decide)
  rw [Nat.add_zero] at c0
  have qB := Lib.hid (fun W tabs => bitsOf_any (rdT k) W tabs)
  replace hc := Lib.hid hc
  go_enter Tryd.func19, Tryd.ntmps19
  go_wp2_with (first | (with_reducible refine (hc.out _).mono ?_; rintro e w1 ⟨rfl, rfl⟩) | (with_reducible refine (qB.out _ tabs).mono ?_; rintro e w1 ⟨rfl, bb⟩))
  go_ret
  exact ⟨rfl, bb⟩

end Go.Proofs.YtobllhibicjbcaaDoor
