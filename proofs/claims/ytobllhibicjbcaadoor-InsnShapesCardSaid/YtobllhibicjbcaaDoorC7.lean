/- What is known. -/
import Derived.Test.YtobllhibicjbcaaDoorC6
import Derived.Test.YtobllhibicjbcaaDoorCY
namespace Go.Proofs.YtobllhibicjbcaaDoor
open Go.RowKit
set_option linter.unusedVariables false
set_option linter.unusedSimpArgs false
set_option linter.unusedSectionVars false

set_option maxHeartbeats 4000000 in
theorem known_any (w : World) (tabs : Tabs w) : Calls Tryd.prog 7 #[] w fun e w' => e = .returned (.bool true) ∧ Below w.heap.size w w' := by
  have kb := (Below.refl w.heap.size w).alloc (Nat.le_refl _) (.cells #[.int .i64 3, .int .i64 0, .int .u32 4, .int .i64 3, .int .i64 (-1), .int .u32 1] 24)
  have kM := Blk.new w 24 #[.int .i64 3, .int .i64 0, .int .u32 4, .int .i64 3, .int .i64 (-1), .int .u32 1]
  have tabs0 := tabs
  have hSB := kb.size
  clear tabs
  go_enter Tryd.func7, Tryd.ntmps7
  go_upto_region 2 with fail
  have hs0 : (w.alloc (.cells #[.int .i64 3, .int .i64 0, .int .u32 4, .int .i64 3, .int .i64 (-1), .int .u32 1] 24)).heap.size = w.heap.size + 1 := by simp
  generalize w.alloc (.cells #[.int .i64 3, .int .i64 0, .int .u32 4, .int .i64 3, .int .i64 (-1), .int .u32 1] 24) = w0 at *
  generalize hN : w.heap.size = N at *
  clear hSB
  go_cut [2] from 4 to 52 (fun t2 W => ∃ D, t2 = .pointer (some ⟨D, 0, none⟩) ∧ N < D ∧ Blk W D 26 #[.int .i64 3, .int .i64 0, .int .i64 1, .int .i64 0, .int .u32 0, .int .i64 0, .int .i64 0, .int .u32 0, .int .i64 3, .int .i64 0, .int .u32 4, .int .i64 3, .int .i64 (-1), .int .u32 1, .bool false, .int .i64 3] ∧ Blk W N 24 #[.int .i64 3, .int .i64 0, .int .u32 4, .int .i64 3, .int .i64 (-1), .int .u32 1] ∧ Below N w W)
  case first =>
    have m0 := kM.cell (i := 0) (v := .int .i64 3) rfl
    have m1 := kM.cell (i := 1) (v := .int .i64 0) rfl
    have m2 := kM.cell (i := 2) (v := .int .u32 4) rfl
    have m3 := kM.cell (i := 3) (v := .int .i64 3) rfl
    have m4 := kM.cell (i := 4) (v := .int .i64 (-1)) rfl
    have m5 := kM.cell (i := 5) (v := .int .u32 1) rfl
    have hS0 := kM.drew
    replace kb := kb.drew
    have hs1 : w0.drew.heap.size = N + 1 := hs0
    clear kM hs0 m0 m1 m2 m3 m4 m5
    refine wp_region_held_drew (S := fun W => Blk W N 24 #[.int .i64 3, .int .i64 0, .int .u32 4, .int .i64 3, .int .i64 (-1), .int .u32 1]) (by kernel_rfl) hS0 (fun hH0 => ?_)
    refine wpAnyH_take (i := 1) (v := .agg #[.int .i64 3, .int .i64 0, .int .u32 4, .int .i64 3, .int .i64 (-1), .int .u32 1]) rfl (by kernel_rfl) (by kernel_rfl) (by kernel_rfl) (fun _ _ _ h => h) (Or.inl ⟨by kernel_rfl, ?_⟩) hH0 ?_
    · intro W hS
      exact run_load_row (by rfl) (by rfl) 24 _ (0, 0) _ hS.h Tryd.underlying24 rfl (by kernel_rfl)
    simp only [Act.put, List.setIfInBounds_toArray, List.set_cons_zero, List.set_cons_succ, List.getElem_toArray, List.getElem_cons_succ, List.getElem_cons_zero]
    refine wpAnyH_ready (rs := [0, 3]) (by kernel_rfl) (by simp) ?_
    refine AllReadyH.cons rfl (fun K hK => ?_) (AllReadyH.cons rfl (fun K hK => ?_) AllReadyH.nil)
    · go_simp
      with_reducible refine (reg_any 0 _).mono ?_
      rintro e w2 ⟨rfl, bb⟩
      have hH1 := hH0.below bb hH0.lt
      refine hK.out _ _ hH1 (fun _ => ?_)
      clear hK K
      try simp only [Act.put, List.setIfInBounds_toArray, List.set_cons_zero, List.set_cons_succ, List.getElem_toArray, List.getElem_cons_succ, List.getElem_cons_zero]
      refine wpAnyH_take (i := 2) (v := .agg #[.int .i64 3, .int .i64 0, .int .i64 1, .int .i64 0, .int .u32 0, .int .i64 0, .int .i64 0, .int .u32 0, .int .i64 3, .int .i64 0, .int .u32 4, .int .i64 3, .int .i64 (-1), .int .u32 1, .bool false, .int .i64 3]) rfl (by kernel_rfl) (by kernel_rfl) (by kernel_rfl) (fun _ _ _ h => h) (Or.inl ⟨by kernel_rfl, ?_⟩) hH1 ?_
      · intro W hS
        kernel_rfl
      try simp only [Act.put, List.setIfInBounds_toArray, List.set_cons_zero, List.set_cons_succ, List.getElem_toArray, List.getElem_cons_succ, List.getElem_cons_zero]
      refine wpAnyH_ready (rs := [3]) (by kernel_rfl) (by simp) ?_
      refine AllReadyH.cons rfl (fun K hK => ?_) AllReadyH.nil
      go_simp
      have kD := Blk.new w2 26 #[.int .i64 0, .int .i64 0, .int .i64 0, .int .i64 0, .int .u32 0, .int .i64 0, .int .i64 0, .int .u32 0, .int .i64 0, .int .i64 0, .int .u32 0, .int .i64 0, .int .i64 0, .int .u32 0, .bool false, .int .i64 0]
      have hH2 := hH1.alloc (.cells #[.int .i64 0, .int .i64 0, .int .i64 0, .int .i64 0, .int .u32 0, .int .i64 0, .int .i64 0, .int .u32 0, .int .i64 0, .int .i64 0, .int .u32 0, .int .i64 0, .int .i64 0, .int .u32 0, .bool false, .int .i64 0] 26)
      have hD : N < w2.heap.size := by have := bb.size; omega
      replace kb := (kb.trans (bb.mono (by omega))).alloc (Nat.le_of_lt hD) (.cells #[.int .i64 0, .int .i64 0, .int .i64 0, .int .i64 0, .int .u32 0, .int .i64 0, .int .i64 0, .int .u32 0, .int .i64 0, .int .i64 0, .int .u32 0, .int .i64 0, .int .i64 0, .int .u32 0, .bool false, .int .i64 0] 26)
      generalize w2.heap.size = D at *
      refine hK.out _ _ hH2 (fun _ => ?_)
      clear hK K
      generalize w2.alloc (.cells #[.int .i64 0, .int .i64 0, .int .i64 0, .int .i64 0, .int .u32 0, .int .i64 0, .int .i64 0, .int .u32 0, .int .i64 0, .int .i64 0, .int .u32 0, .int .i64 0, .int .i64 0, .int .u32 0, .bool false, .int .i64 0] 26) = w3 at *
      try simp only [Act.put, List.setIfInBounds_toArray, List.set_cons_zero, List.set_cons_succ, List.getElem_toArray, List.getElem_cons_succ, List.getElem_cons_zero]
      refine wpAnyH_ready (rs := [4]) (by kernel_rfl) (by simp) ?_
      refine AllReadyH.cons rfl (fun K hK => ?_) AllReadyH.nil
      rw [if_pos (by kernel_rfl)]
      refine wp_store_row 26 _ _ rfl D #[.int .i64 3, .int .i64 0, .int .i64 1, .int .i64 0, .int .u32 0, .int .i64 0, .int .i64 0, .int .u32 0, .int .i64 3, .int .i64 0, .int .u32 4, .int .i64 3, .int .i64 (-1), .int .u32 1, .bool false, .int .i64 3] rfl rfl 26 #[.int .i64 0, .int .i64 0, .int .i64 0, .int .i64 0, .int .u32 0, .int .i64 0, .int .i64 0, .int .u32 0, .int .i64 0, .int .i64 0, .int .u32 0, .int .i64 0, .int .i64 0, .int .u32 0, .bool false, .int .i64 0] kD.h (by kernel_rfl) rfl (by kernel_rfl) ?_
      have kA := kD.row #[.int .i64 3, .int .i64 0, .int .i64 1, .int .i64 0, .int .u32 0, .int .i64 0, .int .i64 0, .int .u32 0, .int .i64 3, .int .i64 0, .int .u32 4, .int .i64 3, .int .i64 (-1), .int .u32 1, .bool false, .int .i64 3]
      have hH3 := hH2.rowOther (M := D) #[.int .i64 3, .int .i64 0, .int .i64 1, .int .i64 0, .int .u32 0, .int .i64 0, .int .i64 0, .int .u32 0, .int .i64 3, .int .i64 0, .int .u32 4, .int .i64 3, .int .i64 (-1), .int .u32 1, .bool false, .int .i64 3] (by omega)
      have kb2 := below_rowNew kb (Nat.le_of_lt hD) #[.int .i64 3, .int .i64 0, .int .i64 1, .int .i64 0, .int .u32 0, .int .i64 0, .int .i64 0, .int .u32 0, .int .i64 3, .int .i64 0, .int .u32 4, .int .i64 3, .int .i64 (-1), .int .u32 1, .bool false, .int .i64 3]
      refine hK.out _ _ hH3 (fun _ => ?_)
      clear hK K
      refine wpAnyH_done (by kernel_rfl) ?_ _
      go_wp2_with fail
      go_meet
      exact ⟨_, rfl, hD, kA, hH3, kb2⟩
    · go_simp
      have kD : Blk (w0.alloc (.cells #[.int .i64 0, .int .i64 0, .int .i64 0, .int .i64 0, .int .u32 0, .int .i64 0, .int .i64 0, .int .u32 0, .int .i64 0, .int .i64 0, .int .u32 0, .int .i64 0, .int .i64 0, .int .u32 0, .bool false, .int .i64 0] 26)).drew w0.drew.heap.size 26 #[.int .i64 0, .int .i64 0, .int .i64 0, .int .i64 0, .int .u32 0, .int .i64 0, .int .i64 0, .int .u32 0, .int .i64 0, .int .i64 0, .int .u32 0, .int .i64 0, .int .i64 0, .int .u32 0, .bool false, .int .i64 0] := Blk.new w0.drew 26 #[.int .i64 0, .int .i64 0, .int .i64 0, .int .i64 0, .int .u32 0, .int .i64 0, .int .i64 0, .int .u32 0, .int .i64 0, .int .i64 0, .int .u32 0, .int .i64 0, .int .i64 0, .int .u32 0, .bool false, .int .i64 0]
      have hH1 : Blk (w0.alloc (.cells #[.int .i64 0, .int .i64 0, .int .i64 0, .int .i64 0, .int .u32 0, .int .i64 0, .int .i64 0, .int .u32 0, .int .i64 0, .int .i64 0, .int .u32 0, .int .i64 0, .int .i64 0, .int .u32 0, .bool false, .int .i64 0] 26)).drew N 24 #[.int .i64 3, .int .i64 0, .int .u32 4, .int .i64 3, .int .i64 (-1), .int .u32 1] := hH0.alloc (.cells #[.int .i64 0, .int .i64 0, .int .i64 0, .int .i64 0, .int .u32 0, .int .i64 0, .int .i64 0, .int .u32 0, .int .i64 0, .int .i64 0, .int .u32 0, .int .i64 0, .int .i64 0, .int .u32 0, .bool false, .int .i64 0] 26)
      have hD : N < w0.drew.heap.size := by omega
      replace kb : Below N w (w0.alloc (.cells #[.int .i64 0, .int .i64 0, .int .i64 0, .int .i64 0, .int .u32 0, .int .i64 0, .int .i64 0, .int .u32 0, .int .i64 0, .int .i64 0, .int .u32 0, .int .i64 0, .int .i64 0, .int .u32 0, .bool false, .int .i64 0] 26)).drew := kb.alloc (Nat.le_of_lt hD) (.cells #[.int .i64 0, .int .i64 0, .int .i64 0, .int .i64 0, .int .u32 0, .int .i64 0, .int .i64 0, .int .u32 0, .int .i64 0, .int .i64 0, .int .u32 0, .int .i64 0, .int .i64 0, .int .u32 0, .bool false, .int .i64 0] 26)
      have hsz : (w0.alloc (.cells #[.int .i64 0, .int .i64 0, .int .i64 0, .int .i64 0, .int .u32 0, .int .i64 0, .int .i64 0, .int .u32 0, .int .i64 0, .int .i64 0, .int .u32 0, .int .i64 0, .int .i64 0, .int .u32 0, .bool false, .int .i64 0] 26)).drew.heap.size = N + 1 + 1 := by show (w0.alloc _).heap.size = _; rw [World.size_alloc, show w0.heap.size = N + 1 from hs1]
      change K _ (w0.alloc (.cells #[.int .i64 0, .int .i64 0, .int .i64 0, .int .i64 0, .int .u32 0, .int .i64 0, .int .i64 0, .int .u32 0, .int .i64 0, .int .i64 0, .int .u32 0, .int .i64 0, .int .i64 0, .int .u32 0, .bool false, .int .i64 0] 26)).drew
      rw [hs1] at kD hD
      refine hK.out _ _ hH1 (fun _ => ?_)
      clear hK K
      generalize (w0.alloc (.cells #[.int .i64 0, .int .i64 0, .int .i64 0, .int .i64 0, .int .u32 0, .int .i64 0, .int .i64 0, .int .u32 0, .int .i64 0, .int .i64 0, .int .u32 0, .int .i64 0, .int .i64 0, .int .u32 0, .bool false, .int .i64 0] 26)).drew = w1 at *
      try simp only [Act.put, List.setIfInBounds_toArray, List.set_cons_zero, List.set_cons_succ, List.getElem_toArray, List.getElem_cons_succ, List.getElem_cons_zero]
      refine wpAnyH_ready (rs := [0]) (by kernel_rfl) (by simp) ?_
      refine AllReadyH.cons rfl (fun K hK => ?_) AllReadyH.nil
      go_simp
      with_reducible refine (reg_any 0 _).mono ?_
      rintro e w3 ⟨rfl, bb⟩
      have hH2 := hH1.below bb hH1.lt
      replace kD := kD.below bb kD.lt
      replace kb := kb.trans (bb.mono (by omega))
      refine hK.out _ _ hH2 (fun _ => ?_)
      clear hK K
      try simp only [Act.put, List.setIfInBounds_toArray, List.set_cons_zero, List.set_cons_succ, List.getElem_toArray, List.getElem_cons_succ, List.getElem_cons_zero]
      refine wpAnyH_take (i := 2) (v := .agg #[.int .i64 3, .int .i64 0, .int .i64 1, .int .i64 0, .int .u32 0, .int .i64 0, .int .i64 0, .int .u32 0, .int .i64 3, .int .i64 0, .int .u32 4, .int .i64 3, .int .i64 (-1), .int .u32 1, .bool false, .int .i64 3]) rfl (by kernel_rfl) (by kernel_rfl) (by kernel_rfl) (fun _ _ _ h => h) (Or.inl ⟨by kernel_rfl, ?_⟩) hH2 ?_
      · intro W hS
        kernel_rfl
      try simp only [Act.put, List.setIfInBounds_toArray, List.set_cons_zero, List.set_cons_succ, List.getElem_toArray, List.getElem_cons_succ, List.getElem_cons_zero]
      refine wpAnyH_ready (rs := [4]) (by kernel_rfl) (by simp) ?_
      refine AllReadyH.cons rfl (fun K hK => ?_) AllReadyH.nil
      rw [if_pos (by kernel_rfl)]
      refine wp_store_row 26 _ _ rfl (N + 1) #[.int .i64 3, .int .i64 0, .int .i64 1, .int .i64 0, .int .u32 0, .int .i64 0, .int .i64 0, .int .u32 0, .int .i64 3, .int .i64 0, .int .u32 4, .int .i64 3, .int .i64 (-1), .int .u32 1, .bool false, .int .i64 3] rfl rfl 26 #[.int .i64 0, .int .i64 0, .int .i64 0, .int .i64 0, .int .u32 0, .int .i64 0, .int .i64 0, .int .u32 0, .int .i64 0, .int .i64 0, .int .u32 0, .int .i64 0, .int .i64 0, .int .u32 0, .bool false, .int .i64 0] kD.h (by kernel_rfl) rfl (by kernel_rfl) ?_
      have kA := kD.row #[.int .i64 3, .int .i64 0, .int .i64 1, .int .i64 0, .int .u32 0, .int .i64 0, .int .i64 0, .int .u32 0, .int .i64 3, .int .i64 0, .int .u32 4, .int .i64 3, .int .i64 (-1), .int .u32 1, .bool false, .int .i64 3]
      have hH3 := hH2.rowOther (M := N + 1) #[.int .i64 3, .int .i64 0, .int .i64 1, .int .i64 0, .int .u32 0, .int .i64 0, .int .i64 0, .int .u32 0, .int .i64 3, .int .i64 0, .int .u32 4, .int .i64 3, .int .i64 (-1), .int .u32 1, .bool false, .int .i64 3] (by omega)
      have kb2 := below_rowNew kb (Nat.le_of_lt hD) #[.int .i64 3, .int .i64 0, .int .i64 1, .int .i64 0, .int .u32 0, .int .i64 0, .int .i64 0, .int .u32 0, .int .i64 3, .int .i64 0, .int .u32 4, .int .i64 3, .int .i64 (-1), .int .u32 1, .bool false, .int .i64 3]
      refine hK.out _ _ hH3 (fun _ => ?_)
      clear hK K
      refine wpAnyH_done (by kernel_rfl) ?_ _
      go_wp2_with fail
      go_meet
      exact ⟨_, rfl, hD, kA, hH3, kb2⟩
  case rest =>
    clear kM kb hs0
    obtain ⟨D, rfl, hD, kA, kM, kb⟩ := hcut
    have hSB := kb.size
    rw [hN] at hSB
    have hDE := kA.lt
    have zA : (#[.int .i64 3, .int .i64 0, .int .i64 1, .int .i64 0, .int .u32 0, .int .i64 0, .int .i64 0, .int .u32 0, .int .i64 3, .int .i64 0, .int .u32 4, .int .i64 3, .int .i64 (-1), .int .u32 1, .bool false, .int .i64 3] : Array Value).size = 16 := rfl
    have zB : (#[.int .i64 3, .int .i64 0, .int .i64 1, .int .i64 0, .int .u32 0, .int .i64 0, .int .i64 0, .int .u32 0, .int .i64 3, .int .i64 0, .int .u32 4, .int .i64 3, .int .i64 (-1), .int .u32 1, .bool false, .int .i64 5] : Array Value).size = 16 := rfl
    have zM : (#[.int .i64 3, .int .i64 0, .int .u32 4, .int .i64 3, .int .i64 (-1), .int .u32 1] : Array Value).size = 6 := rfl
    have oA : (#[.int .i64 3, .int .i64 0, .int .i64 1, .int .i64 0, .int .u32 0, .int .i64 0, .int .i64 0, .int .u32 0, .int .i64 3, .int .i64 0, .int .u32 4, .int .i64 3, .int .i64 (-1), .int .u32 1, .bool false, .int .i64 3] : Array Value).all (·.oneCell') = true := by kernel_rfl
    go_wp2_with (first | (with_reducible refine load_inG (by kernel_rfl) _ rfl D rfl #[.int .i64 3, .int .i64 0, .int .i64 1, .int .i64 0, .int .u32 0, .int .i64 0, .int .i64 0, .int .u32 0, .int .i64 3, .int .i64 0, .int .u32 4, .int .i64 3, .int .i64 (-1), .int .u32 1, .bool false, .int .i64 3] zA kA ?_) | ((with_reducible refine store_in_as rfl _ _ rfl (w0 := wc) #[.int .i64 3, .int .i64 0, .int .i64 1, .int .i64 0, .int .u32 0, .int .i64 0, .int .i64 0, .int .u32 0, .int .i64 3, .int .i64 0, .int .u32 4, .int .i64 3, .int .i64 (-1), .int .u32 1, .bool false, .int .i64 3] zA oA rfl rfl ?_); intro W2 kB bb; replace kA := kA.below bb kA.lt; replace kM := kM.below bb kM.lt; replace kb := kb.trans (bb.mono hSB); have c15 := kB.cell (i := 15) (v := .int .i64 3) rfl; have f15 := kB.fr 15) | (with_reducible refine stop_load 26 _ rfl ?_))
    clear c15 f15 bb oA hSB
    generalize wc.heap.size = E at *
    replace kA := kA.other 15 (.int .i64 5) (M := E) (by omega)
    replace kM := kM.other 15 (.int .i64 5) (M := E) (by omega)
    have hE := kB.lt
    replace kB : Blk (W2.setCell ⟨E, 15, none⟩ (.int .i64 5)) E 26 #[.int .i64 3, .int .i64 0, .int .i64 1, .int .i64 0, .int .u32 0, .int .i64 0, .int .i64 0, .int .u32 0, .int .i64 3, .int .i64 0, .int .u32 4, .int .i64 3, .int .i64 (-1), .int .u32 1, .bool false, .int .i64 5] := kB.set 15 (.int .i64 5)
    replace kb : Below N w (W2.setCell ⟨E, 15, none⟩ (.int .i64 5)) := ((But.of kb [E]).setCell (p := ⟨E, 15, none⟩) (by simp) _).below (Nat.le_refl _) (by simp; omega)
    generalize W2.setCell ⟨E, 15, none⟩ (.int .i64 5) = W3 at *
    have hSB := kb.size
    rw [hN] at hSB
    have tabs := tabs0.below (hN ▸ kb)
    clear hD hDE hE tabs0
    unfold RowKit.Hid
    go_wp2_with (first | (with_reducible refine load_inG (by kernel_rfl) _ rfl D rfl #[.int .i64 3, .int .i64 0, .int .i64 1, .int .i64 0, .int .u32 0, .int .i64 0, .int .i64 0, .int .u32 0, .int .i64 3, .int .i64 0, .int .u32 4, .int .i64 3, .int .i64 (-1), .int .u32 1, .bool false, .int .i64 3] zA kA ?_) | (with_reducible refine load_inG (by kernel_rfl) _ rfl E rfl #[.int .i64 3, .int .i64 0, .int .i64 1, .int .i64 0, .int .u32 0, .int .i64 0, .int .i64 0, .int .u32 0, .int .i64 3, .int .i64 0, .int .u32 4, .int .i64 3, .int .i64 (-1), .int .u32 1, .bool false, .int .i64 5] zB kB ?_) | (with_reducible refine load_opG (by kernel_rfl) _ rfl N rfl #[.int .i64 3, .int .i64 0, .int .u32 4, .int .i64 3, .int .i64 (-1), .int .u32 1] zM kM ?_) | ((with_reducible refine (kIsA _ tabs).mono ?_); rintro e w1 ⟨rfl, bb⟩; replace kA := kA.below bb kA.lt; replace kM := kM.below bb kM.lt; replace kB := kB.below bb kB.lt; replace tabs := tabs.below bb; replace kb := kb.trans (bb.mono hSB); replace hSB := Nat.le_trans hSB bb.size; clear bb) | ((with_reducible refine (kIsM _ tabs).mono ?_); rintro e w1 ⟨rfl, bb⟩; replace kA := kA.below bb kA.lt; replace kM := kM.below bb kM.lt; replace kB := kB.below bb kB.lt; replace tabs := tabs.below bb; replace kb := kb.trans (bb.mono hSB); replace hSB := Nat.le_trans hSB bb.size; clear bb) | ((with_reducible refine (kSame _).mono ?_); rintro e w1 ⟨rfl, bb⟩; replace kA := kA.below bb kA.lt; replace kM := kM.below bb kM.lt; replace kB := kB.below bb kB.lt; replace tabs := tabs.below bb; replace kb := kb.trans (bb.mono hSB); replace hSB := Nat.le_trans hSB bb.size; clear bb) | ((with_reducible refine (kTou _ tabs).mono ?_); rintro e w1 ⟨rfl, bb⟩; replace kA := kA.below bb kA.lt; replace kM := kM.below bb kM.lt; replace kB := kB.below bb kB.lt; replace tabs := tabs.below bb; replace kb := kb.trans (bb.mono hSB); replace hSB := Nat.le_trans hSB bb.size; clear bb) | ((with_reducible refine (kEnA _ tabs).mono ?_); rintro e w1 ⟨rfl, bb⟩; replace kA := kA.below bb kA.lt; replace kM := kM.below bb kM.lt; replace kB := kB.below bb kB.lt; replace tabs := tabs.below bb; replace kb := kb.trans (bb.mono hSB); replace hSB := Nat.le_trans hSB bb.size; clear bb) | ((with_reducible refine (kEnR _ tabs).mono ?_); rintro e w1 ⟨rfl, bb⟩; replace kA := kA.below bb kA.lt; replace kM := kM.below bb kM.lt; replace kB := kB.below bb kB.lt; replace tabs := tabs.below bb; replace kb := kb.trans (bb.mono hSB); replace hSB := Nat.le_trans hSB bb.size; clear bb) | ((with_reducible refine (kWrA _ tabs).mono ?_); rintro e w1 ⟨rfl, bb⟩; replace kA := kA.below bb kA.lt; replace kM := kM.below bb kM.lt; replace kB := kB.below bb kB.lt; replace tabs := tabs.below bb; replace kb := kb.trans (bb.mono hSB); replace hSB := Nat.le_trans hSB bb.size; clear bb) | ((with_reducible refine (kReJ _ tabs).mono ?_); rintro e w1 ⟨rfl, bb⟩; replace kA := kA.below bb kA.lt; replace kM := kM.below bb kM.lt; replace kB := kB.below bb kB.lt; replace tabs := tabs.below bb; replace kb := kb.trans (bb.mono hSB); replace hSB := Nat.le_trans hSB bb.size; clear bb) | ((with_reducible refine (kIsZ _ tabs).mono ?_); rintro e w1 ⟨rfl, bb⟩; replace kA := kA.below bb kA.lt; replace kM := kM.below bb kM.lt; replace kB := kB.below bb kB.lt; replace tabs := tabs.below bb; replace kb := kb.trans (bb.mono hSB); replace hSB := Nat.le_trans hSB bb.size; clear bb))
    go_ret
    exact ⟨rfl, hN ▸ kb⟩
end Go.Proofs.YtobllhibicjbcaaDoor
