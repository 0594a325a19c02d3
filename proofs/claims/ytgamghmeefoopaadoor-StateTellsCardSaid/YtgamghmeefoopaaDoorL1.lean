/- StateTells. -/
import Derived.Test.YtgamghmeefoopaaDoorT8
import Derived.Test.YtgamghmeefoopaaDoorWf
namespace Go.Proofs.YtgamghmeefoopaaDoor
open Go.RowKit
set_option linter.unusedVariables false
set_option linter.unusedSimpArgs false
set_option linter.unusedSectionVars false

set_option maxHeartbeats 4000000 in
theorem tells_walk (g : Gs) (h : g.ok) (i v cc x : Int) (hi : -9223372036854775808 ≤ i ∧ i ≤ 9223372036854775807) (hv : 0 ≤ v ∧ v ≤ 4294967295) (hcc : -9223372036854775808 ≤ cc ∧ cc ≤ 9223372036854775807) (hx : 0 ≤ x ∧ x ≤ 4294967295) (w : World) (tabs : Tabs w) :
    Calls Tryd.prog 3 #[stV g, .int .i64 i, .int .u32 v, .int .i64 cc, .int .u32 x] w fun e w' => e = .returned (.bool true) ∧ Below w.heap.size w w' := by
  have hsK : (Tryd.prog.info? 28).map (·.size) = some (stA g).size := sz17
  have kb : Below w.heap.size w (w.alloc (.cells (stA g) 28)) := (Below.refl _ _).alloc (Nat.le_refl _) _
  have kC := Blk.new w 28 (stA g)
  have t2 := tabs.below kb
  go_enter Tryd.func3, Tryd.ntmps3
  go_wp2_with fail
  refine (known_any _ t2).mono ?_
  rintro e w1 ⟨rfl, b1⟩
  replace kb := kb.trans (b1.mono (by simp))
  replace kC := kC.below b1 (by simp)
  replace tabs := tabs.below kb
  clear t2 b1
  have q0 := fun W => Reg8_any g h i hi W
  have q1 := fun W => rReg8_any g h i W
  have q2 := fun W => SetReg8_any g h i v hi hv W
  have q3 := fun W => rSetReg8_any g h i v hv W
  have q4 := fun W => Cond_any g.f cc hcc W
  have q5 := fun W => rCond_any g.f cc W
  have q6 := fun W tabs => Word_any g.f W tabs
  have q7 := fun W => rWord_any g.f W
  have q8 := fun W tabs => Flags_any x hx W tabs
  have q9 := fun W => rFlags_any x hx W
  generalize reg8L g (no8 i) = rr at *
  generalize set8L g (no8 i) v = g2 at *
  generalize condL g.f (no16 cc) = cb at *
  generalize wordK g.f 6 = wk at *
  generalize flagL x = f2 at *
  have heq := eq8 g2.r
  replace q0 := Lib.hid q0
  replace q1 := Lib.hid q1
  replace q2 := Lib.hid q2
  replace q3 := Lib.hid q3
  replace q4 := Lib.hid q4
  replace q5 := Lib.hid q5
  replace q6 := Lib.hid q6
  replace q7 := Lib.hid q7
  replace q8 := Lib.hid q8
  replace q9 := Lib.hid q9
  go_wp2_with fail
  generalize hN : w.heap.size = C at *
  have hSB := kb.size
  rw [hN] at hSB
  have kD := kC.drew
  replace tabs : Tabs w1.drew := tabs
  replace kb := kb.drew
  replace hSB : C ≤ w1.drew.heap.size := hSB
  clear kC
  refine wp_region_held_drew (S := fun W => Blk W C 28 (stA g)) (by kernel_rfl) kD (fun hH0 => ?_)
  refine wpAnyH_take (i := 0) (v := .agg (stA g)) rfl (by kernel_rfl) (by kernel_rfl) (by kernel_rfl) (fun _ _ _ h => h) (Or.inl ⟨by kernel_rfl, ?_⟩) hH0 ?_
  · intro W hS
    exact run_load_row (by rfl) (by rfl) _ (stA g) (0, 0) _ hS.h Tryd.underlying28 rfl hsK
  simp only [Act.put, List.setIfInBounds_toArray, List.set_cons_zero, List.set_cons_succ]
  refine wpAnyH_take (i := 1) (v := ?_) rfl (by kernel_rfl) (by kernel_rfl) (by kernel_rfl) (fun _ _ _ h => h) (Or.inl ⟨by kernel_rfl, ?_⟩) hH0 ?_
  rotate_left
  · intro W hS
    go_simp
    try rfl
  simp only [Act.put, List.setIfInBounds_toArray, List.set_cons_zero, List.set_cons_succ]
  refine wpAnyH_take (i := 3) (v := .agg (stA g)) rfl (by kernel_rfl) (by kernel_rfl) (by kernel_rfl) (fun _ _ _ h => h) (Or.inl ⟨by kernel_rfl, ?_⟩) hH0 ?_
  · intro W hS
    exact run_load_row (by rfl) (by rfl) _ (stA g) (0, 0) _ hS.h Tryd.underlying28 rfl hsK
  simp only [Act.put, List.setIfInBounds_toArray, List.set_cons_zero, List.set_cons_succ]
  refine wpAnyH_take (i := 4) (v := ?_) rfl (by kernel_rfl) (by kernel_rfl) (by kernel_rfl) (fun _ _ _ h => h) (Or.inl ⟨by kernel_rfl, ?_⟩) hH0 ?_
  rotate_left
  · intro W hS
    go_simp
    try rfl
  simp only [Act.put, List.setIfInBounds_toArray, List.set_cons_zero, List.set_cons_succ]
  refine wpAnyH_ready (rs := [2]) (by kernel_rfl) (by simp) ?_
  refine AllReadyH.cons rfl (fun K hK => ?_) AllReadyH.nil
  go_simp
  refine (q0.out _).mono ?_
  rintro e wq1 ⟨rfl, bb⟩
  replace tabs := tabs.below bb
  replace kb := kb.trans (bb.mono hSB)
  replace hSB := Nat.le_trans hSB bb.size
  have hH1 := hH0.below bb hH0.lt
  clear bb
  refine hK.out _ _ hH1 (fun _ => ?_)
  clear hK K
  try simp only [Act.put, List.setIfInBounds_toArray, List.set_cons_zero, List.set_cons_succ]
  refine wpAnyH_ready (rs := [5]) (by kernel_rfl) (by simp) ?_
  refine AllReadyH.cons rfl (fun K hK => ?_) AllReadyH.nil
  go_simp
  refine (q1.out _).mono ?_
  rintro e wq2 ⟨rfl, bb⟩
  replace tabs := tabs.below bb
  replace kb := kb.trans (bb.mono hSB)
  replace hSB := Nat.le_trans hSB bb.size
  have hH2 := hH1.below bb hH1.lt
  clear bb
  refine hK.out _ _ hH2 (fun _ => ?_)
  clear hK K
  try simp only [Act.put, List.setIfInBounds_toArray, List.set_cons_zero, List.set_cons_succ]
  refine wpAnyH_take (i := 6) (v := ?_) rfl (by kernel_rfl) (by kernel_rfl) (by kernel_rfl) (fun _ _ _ h => h) (Or.inl ⟨by kernel_rfl, ?_⟩) hH2 ?_
  rotate_left
  · intro W hS
    go_simp
    try rfl
  simp only [Act.put, List.setIfInBounds_toArray, List.set_cons_zero, List.set_cons_succ]
  refine wpAnyH_take (i := 7) (v := ?_) rfl (by kernel_rfl) (by kernel_rfl) (by kernel_rfl) (fun _ _ _ h => h) (Or.inl ⟨by kernel_rfl, ?_⟩) hH2 ?_
  rotate_left
  · intro W hS
    go_simp
    try rfl
  simp only [Act.put, List.setIfInBounds_toArray, List.set_cons_zero, List.set_cons_succ]
  refine wpAnyH_take (i := 8) (v := .agg (stA g)) rfl (by kernel_rfl) (by kernel_rfl) (by kernel_rfl) (fun _ _ _ h => h) (Or.inl ⟨by kernel_rfl, ?_⟩) hH2 ?_
  · intro W hS
    exact run_load_row (by rfl) (by rfl) _ (stA g) (0, 0) _ hS.h Tryd.underlying28 rfl hsK
  simp only [Act.put, List.setIfInBounds_toArray, List.set_cons_zero, List.set_cons_succ]
  refine wpAnyH_take (i := 9) (v := ?_) rfl (by kernel_rfl) (by kernel_rfl) (by kernel_rfl) (fun _ _ _ h => h) (Or.inl ⟨by kernel_rfl, ?_⟩) hH2 ?_
  rotate_left
  · intro W hS
    go_simp
    try rfl
  simp only [Act.put, List.setIfInBounds_toArray, List.set_cons_zero, List.set_cons_succ]
  refine wpAnyH_take (i := 10) (v := ?_) rfl (by kernel_rfl) (by kernel_rfl) (by kernel_rfl) (fun _ _ _ h => h) (Or.inl ⟨by kernel_rfl, ?_⟩) hH2 ?_
  rotate_left
  · intro W hS
    go_simp
    try rfl
  simp only [Act.put, List.setIfInBounds_toArray, List.set_cons_zero, List.set_cons_succ]
  refine wpAnyH_take (i := 12) (v := .agg (stA g)) rfl (by kernel_rfl) (by kernel_rfl) (by kernel_rfl) (fun _ _ _ h => h) (Or.inl ⟨by kernel_rfl, ?_⟩) hH2 ?_
  · intro W hS
    exact run_load_row (by rfl) (by rfl) _ (stA g) (0, 0) _ hS.h Tryd.underlying28 rfl hsK
  simp only [Act.put, List.setIfInBounds_toArray, List.set_cons_zero, List.set_cons_succ]
  refine wpAnyH_take (i := 13) (v := ?_) rfl (by kernel_rfl) (by kernel_rfl) (by kernel_rfl) (fun _ _ _ h => h) (Or.inl ⟨by kernel_rfl, ?_⟩) hH2 ?_
  rotate_left
  · intro W hS
    go_simp
    try rfl
  simp only [Act.put, List.setIfInBounds_toArray, List.set_cons_zero, List.set_cons_succ]
  refine wpAnyH_take (i := 14) (v := ?_) rfl (by kernel_rfl) (by kernel_rfl) (by kernel_rfl) (fun _ _ _ h => h) (Or.inl ⟨by kernel_rfl, ?_⟩) hH2 ?_
  rotate_left
  · intro W hS
    go_simp
    try rfl
  simp only [Act.put, List.setIfInBounds_toArray, List.set_cons_zero, List.set_cons_succ]
  refine wpAnyH_ready (rs := [11]) (by kernel_rfl) (by simp) ?_
  refine AllReadyH.cons rfl (fun K hK => ?_) AllReadyH.nil
  go_simp
  refine (q2.out _).mono ?_
  rintro e wq3 ⟨rfl, bb⟩
  replace tabs := tabs.below bb
  replace kb := kb.trans (bb.mono hSB)
  replace hSB := Nat.le_trans hSB bb.size
  have hH3 := hH2.below bb hH2.lt
  clear bb
  refine hK.out _ _ hH3 (fun _ => ?_)
  clear hK K
  try simp only [Act.put, List.setIfInBounds_toArray, List.set_cons_zero, List.set_cons_succ]
  refine wpAnyH_ready (rs := [15]) (by kernel_rfl) (by simp) ?_
  refine AllReadyH.cons rfl (fun K hK => ?_) AllReadyH.nil
  go_simp
  refine (q3.out _).mono ?_
  rintro e wq4 ⟨rfl, bb⟩
  replace tabs := tabs.below bb
  replace kb := kb.trans (bb.mono hSB)
  replace hSB := Nat.le_trans hSB bb.size
  have hH4 := hH3.below bb hH3.lt
  clear bb
  refine hK.out _ _ hH4 (fun _ => ?_)
  clear hK K
  try simp only [Act.put, List.setIfInBounds_toArray, List.set_cons_zero, List.set_cons_succ]
  refine wpAnyH_take (i := 16) (v := ?_) rfl (by kernel_rfl) (by kernel_rfl) (by kernel_rfl) (fun _ _ _ h => h) (Or.inl ⟨by kernel_rfl, ?_⟩) hH4 ?_
  rotate_left
  · intro W hS
    go_simp
    try rfl
  simp only [Act.put, List.setIfInBounds_toArray, List.set_cons_zero, List.set_cons_succ]
  refine wpAnyH_take (i := 17) (v := ?_) rfl (by kernel_rfl) (by kernel_rfl) (by kernel_rfl) (fun _ _ _ h => h) (Or.inl ⟨by kernel_rfl, ?_⟩) hH4 ?_
  rotate_left
  · intro W hS
    go_simp
    try rfl
  simp only [Act.put, List.setIfInBounds_toArray, List.set_cons_zero, List.set_cons_succ]
  refine wpAnyH_take (i := 18) (v := ?_) rfl (by kernel_rfl) (by kernel_rfl) (by kernel_rfl) (fun _ _ _ h => h) (Or.inl ⟨by kernel_rfl, ?_⟩) hH4 ?_
  rotate_left
  · intro W hS
    go_simp
    try rfl
  simp only [Act.put, List.setIfInBounds_toArray, List.set_cons_zero, List.set_cons_succ]
  refine wpAnyH_take (i := 19) (v := ?_) rfl (by kernel_rfl) (by kernel_rfl) (by kernel_rfl) (fun _ _ _ h => h) (Or.inl ⟨by kernel_rfl, ?_⟩) hH4 ?_
  rotate_left
  · intro W hS
    go_simp
    try rfl
  simp only [Act.put, List.setIfInBounds_toArray, List.set_cons_zero, List.set_cons_succ]
  refine wpAnyH_take (i := 20) (v := ?_) rfl (by kernel_rfl) (by kernel_rfl) (by kernel_rfl) (fun _ _ _ h => h) (Or.inl ⟨by kernel_rfl, ?_⟩) hH4 ?_
  rotate_left
  · intro W hS
    have c9 := hS.cell (i := 9) (v := Value.bool (g.f 0)) rfl
    have c10 := hS.cell (i := 10) (v := Value.bool (g.f 1)) rfl
    have c11 := hS.cell (i := 11) (v := Value.bool (g.f 2)) rfl
    have c12 := hS.cell (i := 12) (v := Value.bool (g.f 3)) rfl
    have c13 := hS.cell (i := 13) (v := Value.bool (g.f 4)) rfl
    have c14 := hS.cell (i := 14) (v := Value.bool (g.f 5)) rfl
    go_simp
    try rfl
  simp only [Act.put, List.setIfInBounds_toArray, List.set_cons_zero, List.set_cons_succ]
  refine wpAnyH_take (i := 21) (v := ?_) rfl (by kernel_rfl) (by kernel_rfl) (by kernel_rfl) (fun _ _ _ h => h) (Or.inl ⟨by kernel_rfl, ?_⟩) hH4 ?_
  rotate_left
  · intro W hS
    go_simp
    try rfl
  simp only [Act.put, List.setIfInBounds_toArray, List.set_cons_zero, List.set_cons_succ]
  refine wpAnyH_take (i := 23) (v := ?_) rfl (by kernel_rfl) (by kernel_rfl) (by kernel_rfl) (fun _ _ _ h => h) (Or.inl ⟨by kernel_rfl, ?_⟩) hH4 ?_
  rotate_left
  · intro W hS
    go_simp
    try rfl
  simp only [Act.put, List.setIfInBounds_toArray, List.set_cons_zero, List.set_cons_succ]
  refine wpAnyH_take (i := 24) (v := ?_) rfl (by kernel_rfl) (by kernel_rfl) (by kernel_rfl) (fun _ _ _ h => h) (Or.inl ⟨by kernel_rfl, ?_⟩) hH4 ?_
  rotate_left
  · intro W hS
    have c9 := hS.cell (i := 9) (v := Value.bool (g.f 0)) rfl
    have c10 := hS.cell (i := 10) (v := Value.bool (g.f 1)) rfl
    have c11 := hS.cell (i := 11) (v := Value.bool (g.f 2)) rfl
    have c12 := hS.cell (i := 12) (v := Value.bool (g.f 3)) rfl
    have c13 := hS.cell (i := 13) (v := Value.bool (g.f 4)) rfl
    have c14 := hS.cell (i := 14) (v := Value.bool (g.f 5)) rfl
    go_simp
    try rfl
  simp only [Act.put, List.setIfInBounds_toArray, List.set_cons_zero, List.set_cons_succ]
  refine wpAnyH_take (i := 25) (v := ?_) rfl (by kernel_rfl) (by kernel_rfl) (by kernel_rfl) (fun _ _ _ h => h) (Or.inl ⟨by kernel_rfl, ?_⟩) hH4 ?_
  rotate_left
  · intro W hS
    go_simp
    try rfl
  simp only [Act.put, List.setIfInBounds_toArray, List.set_cons_zero, List.set_cons_succ]
  refine wpAnyH_ready (rs := [22]) (by kernel_rfl) (by simp) ?_
  refine AllReadyH.cons rfl (fun K hK => ?_) AllReadyH.nil
  go_simp
  refine (q4.out _).mono ?_
  rintro e wq5 ⟨rfl, bb⟩
  replace tabs := tabs.below bb
  replace kb := kb.trans (bb.mono hSB)
  replace hSB := Nat.le_trans hSB bb.size
  have hH5 := hH4.below bb hH4.lt
  clear bb
  refine hK.out _ _ hH5 (fun _ => ?_)
  clear hK K
  try simp only [Act.put, List.setIfInBounds_toArray, List.set_cons_zero, List.set_cons_succ]
  refine wpAnyH_ready (rs := [26]) (by kernel_rfl) (by simp) ?_
  refine AllReadyH.cons rfl (fun K hK => ?_) AllReadyH.nil
  go_simp
  refine (q5.out _).mono ?_
  rintro e wq6 ⟨rfl, bb⟩
  replace tabs := tabs.below bb
  replace kb := kb.trans (bb.mono hSB)
  replace hSB := Nat.le_trans hSB bb.size
  have hH6 := hH5.below bb hH5.lt
  clear bb
  refine hK.out _ _ hH6 (fun _ => ?_)
  clear hK K
  try simp only [Act.put, List.setIfInBounds_toArray, List.set_cons_zero, List.set_cons_succ]
  refine wpAnyH_take (i := 27) (v := ?_) rfl (by kernel_rfl) (by kernel_rfl) (by kernel_rfl) (fun _ _ _ h => h) (Or.inl ⟨by kernel_rfl, ?_⟩) hH6 ?_
  rotate_left
  · intro W hS
    go_simp
    try rfl
  simp only [Act.put, List.setIfInBounds_toArray, List.set_cons_zero, List.set_cons_succ]
  refine wpAnyH_take (i := 28) (v := ?_) rfl (by kernel_rfl) (by kernel_rfl) (by kernel_rfl) (fun _ _ _ h => h) (Or.inl ⟨by kernel_rfl, ?_⟩) hH6 ?_
  rotate_left
  · intro W hS
    go_simp
    try rfl
  simp only [Act.put, List.setIfInBounds_toArray, List.set_cons_zero, List.set_cons_succ]
  refine wpAnyH_take (i := 29) (v := ?_) rfl (by kernel_rfl) (by kernel_rfl) (by kernel_rfl) (fun _ _ _ h => h) (Or.inl ⟨by kernel_rfl, ?_⟩) hH6 ?_
  rotate_left
  · intro W hS
    go_simp
    try rfl
  simp only [Act.put, List.setIfInBounds_toArray, List.set_cons_zero, List.set_cons_succ]
  refine wpAnyH_take (i := 30) (v := ?_) rfl (by kernel_rfl) (by kernel_rfl) (by kernel_rfl) (fun _ _ _ h => h) (Or.inl ⟨by kernel_rfl, ?_⟩) hH6 ?_
  rotate_left
  · intro W hS
    go_simp
    try rfl
  simp only [Act.put, List.setIfInBounds_toArray, List.set_cons_zero, List.set_cons_succ]
  refine wpAnyH_take (i := 31) (v := ?_) rfl (by kernel_rfl) (by kernel_rfl) (by kernel_rfl) (fun _ _ _ h => h) (Or.inl ⟨by kernel_rfl, ?_⟩) hH6 ?_
  rotate_left
  · intro W hS
    have c9 := hS.cell (i := 9) (v := Value.bool (g.f 0)) rfl
    have c10 := hS.cell (i := 10) (v := Value.bool (g.f 1)) rfl
    have c11 := hS.cell (i := 11) (v := Value.bool (g.f 2)) rfl
    have c12 := hS.cell (i := 12) (v := Value.bool (g.f 3)) rfl
    have c13 := hS.cell (i := 13) (v := Value.bool (g.f 4)) rfl
    have c14 := hS.cell (i := 14) (v := Value.bool (g.f 5)) rfl
    go_simp
    try rfl
  simp only [Act.put, List.setIfInBounds_toArray, List.set_cons_zero, List.set_cons_succ]
  refine wpAnyH_take (i := 33) (v := ?_) rfl (by kernel_rfl) (by kernel_rfl) (by kernel_rfl) (fun _ _ _ h => h) (Or.inl ⟨by kernel_rfl, ?_⟩) hH6 ?_
  rotate_left
  · intro W hS
    go_simp
    try rfl
  simp only [Act.put, List.setIfInBounds_toArray, List.set_cons_zero, List.set_cons_succ]
  refine wpAnyH_take (i := 34) (v := ?_) rfl (by kernel_rfl) (by kernel_rfl) (by kernel_rfl) (fun _ _ _ h => h) (Or.inl ⟨by kernel_rfl, ?_⟩) hH6 ?_
  rotate_left
  · intro W hS
    have c9 := hS.cell (i := 9) (v := Value.bool (g.f 0)) rfl
    have c10 := hS.cell (i := 10) (v := Value.bool (g.f 1)) rfl
    have c11 := hS.cell (i := 11) (v := Value.bool (g.f 2)) rfl
    have c12 := hS.cell (i := 12) (v := Value.bool (g.f 3)) rfl
    have c13 := hS.cell (i := 13) (v := Value.bool (g.f 4)) rfl
    have c14 := hS.cell (i := 14) (v := Value.bool (g.f 5)) rfl
    go_simp
    try rfl
  simp only [Act.put, List.setIfInBounds_toArray, List.set_cons_zero, List.set_cons_succ]
  refine wpAnyH_ready (rs := [32]) (by kernel_rfl) (by simp) ?_
  refine AllReadyH.cons rfl (fun K hK => ?_) AllReadyH.nil
  go_simp
  refine (q6.out _ tabs).mono ?_
  rintro e wq7 ⟨rfl, bb⟩
  replace tabs := tabs.below bb
  replace kb := kb.trans (bb.mono hSB)
  replace hSB := Nat.le_trans hSB bb.size
  have hH7 := hH6.below bb hH6.lt
  clear bb
  refine hK.out _ _ hH7 (fun _ => ?_)
  clear hK K
  try simp only [Act.put, List.setIfInBounds_toArray, List.set_cons_zero, List.set_cons_succ]
  refine wpAnyH_ready (rs := [35]) (by kernel_rfl) (by simp) ?_
  refine AllReadyH.cons rfl (fun K hK => ?_) AllReadyH.nil
  go_simp
  refine (q7.out _).mono ?_
  rintro e wq8 ⟨rfl, bb⟩
  replace tabs := tabs.below bb
  replace kb := kb.trans (bb.mono hSB)
  replace hSB := Nat.le_trans hSB bb.size
  have hH8 := hH7.below bb hH7.lt
  clear bb
  refine hK.out _ _ hH8 (fun _ => ?_)
  clear hK K
  try simp only [Act.put, List.setIfInBounds_toArray, List.set_cons_zero, List.set_cons_succ]
  refine wpAnyH_take (i := 36) (v := ?_) rfl (by kernel_rfl) (by kernel_rfl) (by kernel_rfl) (fun _ _ _ h => h) (Or.inl ⟨by kernel_rfl, ?_⟩) hH8 ?_
  rotate_left
  · intro W hS
    go_simp
    try rfl
  simp only [Act.put, List.setIfInBounds_toArray, List.set_cons_zero, List.set_cons_succ]
  refine wpAnyH_take (i := 37) (v := ?_) rfl (by kernel_rfl) (by kernel_rfl) (by kernel_rfl) (fun _ _ _ h => h) (Or.inl ⟨by kernel_rfl, ?_⟩) hH8 ?_
  rotate_left
  · intro W hS
    go_simp
    try rfl
  simp only [Act.put, List.setIfInBounds_toArray, List.set_cons_zero, List.set_cons_succ]
  refine wpAnyH_take (i := 38) (v := ?_) rfl (by kernel_rfl) (by kernel_rfl) (by kernel_rfl) (fun _ _ _ h => h) (Or.inl ⟨by kernel_rfl, ?_⟩) hH8 ?_
  rotate_left
  · intro W hS
    go_simp
    try rfl
  simp only [Act.put, List.setIfInBounds_toArray, List.set_cons_zero, List.set_cons_succ]
  refine wpAnyH_take (i := 39) (v := ?_) rfl (by kernel_rfl) (by kernel_rfl) (by kernel_rfl) (fun _ _ _ h => h) (Or.inl ⟨by kernel_rfl, ?_⟩) hH8 ?_
  rotate_left
  · intro W hS
    go_simp
    try rfl
  simp only [Act.put, List.setIfInBounds_toArray, List.set_cons_zero, List.set_cons_succ]
  refine wpAnyH_take (i := 41) (v := ?_) rfl (by kernel_rfl) (by kernel_rfl) (by kernel_rfl) (fun _ _ _ h => h) (Or.inl ⟨by kernel_rfl, ?_⟩) hH8 ?_
  rotate_left
  · intro W hS
    go_simp
    try rfl
  simp only [Act.put, List.setIfInBounds_toArray, List.set_cons_zero, List.set_cons_succ]
  refine wpAnyH_ready (rs := [40]) (by kernel_rfl) (by simp) ?_
  refine AllReadyH.cons rfl (fun K hK => ?_) AllReadyH.nil
  go_simp
  refine (q8.out _ tabs).mono ?_
  rintro e wq9 ⟨rfl, bb⟩
  replace tabs := tabs.below bb
  replace kb := kb.trans (bb.mono hSB)
  replace hSB := Nat.le_trans hSB bb.size
  have hH9 := hH8.below bb hH8.lt
  clear bb
  refine hK.out _ _ hH9 (fun _ => ?_)
  clear hK K
  try simp only [Act.put, List.setIfInBounds_toArray, List.set_cons_zero, List.set_cons_succ]
  refine wpAnyH_ready (rs := [42]) (by kernel_rfl) (by simp) ?_
  refine AllReadyH.cons rfl (fun K hK => ?_) AllReadyH.nil
  go_simp
  refine (q9.out _).mono ?_
  rintro e wq10 ⟨rfl, bb⟩
  replace tabs := tabs.below bb
  replace kb := kb.trans (bb.mono hSB)
  replace hSB := Nat.le_trans hSB bb.size
  have hH10 := hH9.below bb hH9.lt
  clear bb
  refine hK.out _ _ hH10 (fun _ => ?_)
  clear hK K
  try simp only [Act.put, List.setIfInBounds_toArray, List.set_cons_zero, List.set_cons_succ]
  refine wpAnyH_take (i := 43) (v := ?_) rfl (by kernel_rfl) (by kernel_rfl) (by kernel_rfl) (fun _ _ _ h => h) (Or.inl ⟨by kernel_rfl, ?_⟩) hH10 ?_
  rotate_left
  · intro W hS
    go_simp
    try rfl
  simp only [Act.put, List.setIfInBounds_toArray, List.set_cons_zero, List.set_cons_succ]
  refine wpAnyH_take (i := 44) (v := ?_) rfl (by kernel_rfl) (by kernel_rfl) (by kernel_rfl) (fun _ _ _ h => h) (Or.inl ⟨by kernel_rfl, ?_⟩) hH10 ?_
  rotate_left
  · intro W hS
    go_simp
    try rfl
  simp only [Act.put, List.setIfInBounds_toArray, List.set_cons_zero, List.set_cons_succ]
  refine wpAnyH_take (i := 45) (v := ?_) rfl (by kernel_rfl) (by kernel_rfl) (by kernel_rfl) (fun _ _ _ h => h) (Or.inl ⟨by kernel_rfl, ?_⟩) hH10 ?_
  rotate_left
  · intro W hS
    go_simp
    try rfl
  simp only [Act.put, List.setIfInBounds_toArray, List.set_cons_zero, List.set_cons_succ, List.getElem_toArray, List.getElem_cons_succ, List.getElem_cons_zero]
  refine wpAnyH_done (by kernel_rfl) ?_ _

  go_wp2_with fail
  go_ret
  subst hN
  exact ⟨rfl, kb⟩
end Go.Proofs.YtgamghmeefoopaaDoor
