import Derived.Test.YtcdoidnfdkodoaaGreatDoorS60
import Derived.Test.YtcdoidnfdkodoaaGreatDoorS41
namespace Go.Proofs.YtcdoidnfdkodoaaGreatDoor
open Go.RowKit
set_option linter.unusedVariables false
set_option linter.unusedSimpArgs false
set_option linter.unusedSectionVars false
section
variable {w : World} {G B : Nat} {g g' : Gs} {m m' : Mm}
set_option maxRecDepth 20000 in
set_option maxHeartbeats 2000000 in
theorem greck_sh23 (h : GuAt w G B g m) (i : In) (a b R : Int) (f : Nat → Bool) (tabs : TabsA w) (hs : i.op = 23) (hA : RdY B g m i.A 4 a) (hB : RdY B g m i.B 4 b)
    (hD : ∀ W, TabsA W → Calls Tryz.prog 161 #[.int .i64 i.op, .int .u32 a, .int .u32 b, .agg #[.bool (g.f 0), .bool (g.f 1), .bool (g.f 2), .bool (g.f 3), .bool (g.f 4), .bool (g.f 5)]] W fun e w' => e = .returned (.tuple #[.int .u32 R, .agg #[.bool (f 0), .bool (f 1), .bool (f 2), .bool (f 3), .bool (f 4), .bool (f 5)]]) ∧ Below W.heap.size W w') :
    Calls Tryz.prog 120 #[mp G, inV i] w fun e w' => e = .returned (.tuple #[.int .u32 R, .agg #[.bool (f 0), .bool (f 1), .bool (f 2), .bool (f 3), .bool (f 4), .bool (f 5)]]) ∧ Below w.heap.size w w' := by
  have qA := Lib.hid (fun W (hW : GuAt W G B g m) => gread_yes hW i.A 4 a hA)
  have qB := Lib.hid (fun W (hW : GuAt W G B g m) => gread_yes hW i.B 4 b hB)
  have qD := Lib.hid hD
  clear hA hB hD
  have b0 := ((Below.refl w.heap.size w).alloc (Nat.le_refl _) (.cells (in16 i) 33)).alloc (by simp) (.cells #[.bool false, .bool false, .bool false, .bool false, .bool false, .bool false] 26)
  have kI := (Blk.new w 33 (in16 i)).alloc (.cells #[.bool false, .bool false, .bool false, .bool false, .bool false, .bool false] 26)
  have kF := Blk.new (w.alloc (.cells (in16 i) 33)) 26 #[.bool false, .bool false, .bool false, .bool false, .bool false, .bool false]
  simp only [World.size_alloc] at kF
  have hg := h.below b0
  have tb := tabs.below b0
  have nG := Lib.hid (show G < w.heap.size from h.c.lt)
  have nB := Lib.hid (show B < w.heap.size from h.p.lt)
  go_enter Tryz.func120, Tryz.ntmps120
  go_upto_region 1 with fail
  generalize (w.alloc (.cells (in16 i) 33)).alloc (.cells #[.bool false, .bool false, .bool false, .bool false, .bool false, .bool false] 26) = W0 at *
  clear h tabs
  refine wp_region_held_drew (S := fun V => GuAt V G B g m ∧ Blk V w.heap.size 33 (in16 i)) (by kernel_rfl) ⟨hg.drew, kI.drew⟩ (fun hH => ?_)
  replace kF := kF.drew
  replace tb := tb.below (Below.refl _ _).drew
  replace b0 := b0.drew
  generalize W0.drew = W at *
  clear hg kI
  refine wpAnyH_take (i := 0) (v := ?_) rfl (by kernel_rfl) (by kernel_rfl) (by kernel_rfl) (fun _ _ _ h => h) (Or.inl ⟨by kernel_rfl, ?_⟩) hH ?_
  rotate_left
  · intro W hS
    go_simp
    try rfl
  simp only [Act.put, List.setIfInBounds_toArray, List.set_cons_zero, List.set_cons_succ, List.getElem_toArray, List.getElem_cons_succ, List.getElem_cons_zero]
  refine wpAnyH_take (i := 1) (v := ?_) rfl (by kernel_rfl) (by kernel_rfl) (by kernel_rfl) (fun _ _ _ h => h) (Or.inl ⟨by kernel_rfl, ?_⟩) hH ?_
  rotate_left
  · intro W hS
    go_simp
    try rfl
  simp only [Act.put, List.setIfInBounds_toArray, List.set_cons_zero, List.set_cons_succ, List.getElem_toArray, List.getElem_cons_succ, List.getElem_cons_zero]
  refine wpAnyH_take (i := 2) (v := opV i.A) rfl (by kernel_rfl) (by kernel_rfl) (by kernel_rfl) (fun _ _ _ h => h) (Or.inl ⟨by kernel_rfl, ?_⟩) hH ?_
  · intro W hS
    exact run_load_iA (by rfl) (by rfl) hS.2
  simp only [Act.put, List.setIfInBounds_toArray, List.set_cons_zero, List.set_cons_succ]
  refine wpAnyH_take (i := 4) (v := ?_) rfl (by kernel_rfl) (by kernel_rfl) (by kernel_rfl) (fun _ _ _ h => h) (Or.inl ⟨by kernel_rfl, ?_⟩) hH ?_
  rotate_left
  · intro W hS
    go_simp
    try rfl
  simp only [Act.put, List.setIfInBounds_toArray, List.set_cons_zero, List.set_cons_succ, List.getElem_toArray, List.getElem_cons_succ, List.getElem_cons_zero]
  refine wpAnyH_take (i := 5) (v := ?_) rfl (by kernel_rfl) (by kernel_rfl) (by kernel_rfl) (fun _ _ _ h => h) (Or.inl ⟨by kernel_rfl, ?_⟩) hH ?_
  rotate_left
  · intro W hS
    go_simp
    try rfl
  simp only [Act.put, List.setIfInBounds_toArray, List.set_cons_zero, List.set_cons_succ, List.getElem_toArray, List.getElem_cons_succ, List.getElem_cons_zero]
  refine wpAnyH_take (i := 6) (v := opV i.B) rfl (by kernel_rfl) (by kernel_rfl) (by kernel_rfl) (fun _ _ _ h => h) (Or.inl ⟨by kernel_rfl, ?_⟩) hH ?_
  · intro W hS
    exact run_load_iB (by rfl) (by rfl) hS.2
  simp only [Act.put, List.setIfInBounds_toArray, List.set_cons_zero, List.set_cons_succ]
  refine wpAnyH_ready (rs := [3]) (by kernel_rfl) (by simp) ?_
  refine AllReadyH.cons rfl (fun K hK => ?_) AllReadyH.nil
  go_simp
  with_reducible refine (qA.out _ hH.1).mono ?_
  rintro e w2 ⟨rfl, b2⟩
  have hH2 := And.intro (hH.1.below b2) (hH.2.below b2 hH.2.lt)
  replace kF := kF.below b2 kF.lt
  replace tb := tb.below b2
  replace b0 := b0.trans (b2.mono b0.size)
  refine hK.out _ _ hH2 (fun _ => ?_)
  clear hK K
  try simp only [Act.put, List.setIfInBounds_toArray, List.set_cons_zero, List.set_cons_succ]
  refine wpAnyH_ready (rs := [7]) (by kernel_rfl) (by simp) ?_
  refine AllReadyH.cons rfl (fun K hK => ?_) AllReadyH.nil
  go_simp
  with_reducible refine (qB.out _ hH2.1).mono ?_
  rintro e w3 ⟨rfl, b3⟩
  have hH3 := And.intro (hH2.1.below b3) (hH2.2.below b3 hH2.2.lt)
  replace kF := kF.below b3 kF.lt
  replace tb := tb.below b3
  replace b0 := b0.trans (b3.mono b0.size)
  refine hK.out _ _ hH3 (fun _ => ?_)
  clear hK K
  try simp only [Act.put, List.setIfInBounds_toArray, List.set_cons_zero, List.set_cons_succ]
  refine wpAnyH_take (i := 8) (v := ?_) rfl (by kernel_rfl) (by kernel_rfl) (by kernel_rfl) (fun _ _ _ h => h) (Or.inl ⟨by kernel_rfl, ?_⟩) hH3 ?_
  rotate_left
  · intro W hS
    go_simp
    try rfl
  simp only [Act.put, List.setIfInBounds_toArray, List.set_cons_zero, List.set_cons_succ, List.getElem_toArray, List.getElem_cons_succ, List.getElem_cons_zero]
  refine wpAnyH_take (i := 9) (v := ?_) rfl (by kernel_rfl) (by kernel_rfl) (by kernel_rfl) (fun _ _ _ h => h) (Or.inl ⟨by kernel_rfl, ?_⟩) hH3 ?_
  rotate_left
  · intro W hS
    go_simp
    try rfl
  simp only [Act.put, List.setIfInBounds_toArray, List.set_cons_zero, List.set_cons_succ, List.getElem_toArray, List.getElem_cons_succ, List.getElem_cons_zero]
  refine wpAnyH_done (by kernel_rfl) ?_ _
  have c0 := hH3.2.cell (i := 0) (v := .int .i64 i.op) rfl
  have e21 : (i.op == 21) = false := by rw [hs]; rfl
  have e22 : (i.op == 22) = false := by rw [hs]; rfl
  have e23 : (i.op == 23) = true := by rw [hs]; rfl
  clear hs hH hH2
  go_upto_region 8 with fail
  clear c0 e21 e22 e23
  obtain ⟨hg, kI⟩ := hH3
  refine wp_region_held_drew (S := fun V => GuAt V G B g m ∧ Blk V w.heap.size 33 (in16 i)) (by kernel_rfl) ⟨hg.drew, kI.drew⟩ (fun hH => ?_)
  replace kF := kF.drew
  replace tb := tb.below (Below.refl _ _).drew
  replace b0 := b0.drew
  generalize w3.drew = W3 at *
  clear hg kI
  refine wpAnyH_take (i := 0) (v := ?_) rfl (by kernel_rfl) (by kernel_rfl) (by kernel_rfl) (fun _ _ _ h => h) (Or.inl ⟨by kernel_rfl, ?_⟩) hH ?_
  rotate_left
  · intro W hS
    go_simp
    try rfl
  simp only [Act.put, List.setIfInBounds_toArray, List.set_cons_zero, List.set_cons_succ, List.getElem_toArray, List.getElem_cons_succ, List.getElem_cons_zero]
  refine wpAnyH_take (i := 1) (v := ?_) rfl (by kernel_rfl) (by kernel_rfl) (by kernel_rfl) (fun _ _ _ h => h) (Or.inl ⟨by kernel_rfl, ?_⟩) hH ?_
  rotate_left
  · intro W hS
    have c1 := hS.2.cell (i := 0) (v := .int .i64 i.op) rfl
    go_simp
    try rfl
  simp only [Act.put, List.setIfInBounds_toArray, List.set_cons_zero, List.set_cons_succ, List.getElem_toArray, List.getElem_cons_succ, List.getElem_cons_zero]
  refine wpAnyH_take (i := 2) (v := ?_) rfl (by kernel_rfl) (by kernel_rfl) (by kernel_rfl) (fun _ _ _ h => h) (Or.inl ⟨by kernel_rfl, ?_⟩) hH ?_
  rotate_left
  · intro W hS
    go_simp
    try rfl
  simp only [Act.put, List.setIfInBounds_toArray, List.set_cons_zero, List.set_cons_succ, List.getElem_toArray, List.getElem_cons_succ, List.getElem_cons_zero]
  refine wpAnyH_take (i := 3) (v := ?_) rfl (by kernel_rfl) (by kernel_rfl) (by kernel_rfl) (fun _ _ _ h => h) (Or.inl ⟨by kernel_rfl, ?_⟩) hH ?_
  rotate_left
  · intro W hS
    go_simp
    try rfl
  simp only [Act.put, List.setIfInBounds_toArray, List.set_cons_zero, List.set_cons_succ, List.getElem_toArray, List.getElem_cons_succ, List.getElem_cons_zero]
  refine wpAnyH_take (i := 4) (v := ?_) rfl (by kernel_rfl) (by kernel_rfl) (by kernel_rfl) (fun _ _ _ h => h) (Or.inl ⟨by kernel_rfl, ?_⟩) hH ?_
  rotate_left
  · intro W hS
    go_simp
    try rfl
  simp only [Act.put, List.setIfInBounds_toArray, List.set_cons_zero, List.set_cons_succ, List.getElem_toArray, List.getElem_cons_succ, List.getElem_cons_zero]
  refine wpAnyH_take (i := 5) (v := ?_) rfl (by kernel_rfl) (by kernel_rfl) (by kernel_rfl) (fun _ _ _ h => h) (Or.inl ⟨by kernel_rfl, ?_⟩) hH ?_
  rotate_left
  · intro W hS
    go_simp
    try rfl
  simp only [Act.put, List.setIfInBounds_toArray, List.set_cons_zero, List.set_cons_succ, List.getElem_toArray, List.getElem_cons_succ, List.getElem_cons_zero]
  refine wpAnyH_take (i := 6) (v := ?_) rfl (by kernel_rfl) (by kernel_rfl) (by kernel_rfl) (fun _ _ _ h => h) (Or.inl ⟨by kernel_rfl, ?_⟩) hH ?_
  rotate_left
  · intro W hS
    go_simp
    try rfl
  simp only [Act.put, List.setIfInBounds_toArray, List.set_cons_zero, List.set_cons_succ, List.getElem_toArray, List.getElem_cons_succ, List.getElem_cons_zero]
  refine wpAnyH_take (i := 7) (v := ?_) rfl (by kernel_rfl) (by kernel_rfl) (by kernel_rfl) (fun _ _ _ h => h) (Or.inl ⟨by kernel_rfl, ?_⟩) hH ?_
  rotate_left
  · intro W hS
    go_simp
    try rfl
  simp only [Act.put, List.setIfInBounds_toArray, List.set_cons_zero, List.set_cons_succ, List.getElem_toArray, List.getElem_cons_succ, List.getElem_cons_zero]
  refine wpAnyH_take (i := 8) (v := .agg #[.bool (g.f 0), .bool (g.f 1), .bool (g.f 2), .bool (g.f 3), .bool (g.f 4), .bool (g.f 5)]) rfl (by kernel_rfl) (by kernel_rfl) (by kernel_rfl) (fun _ _ _ h => h) (Or.inl ⟨by kernel_rfl, ?_⟩) hH ?_
  · intro W hS
    exact run_load_gfl (by rfl) (by rfl) hS.1
  simp only [Act.put, List.setIfInBounds_toArray, List.set_cons_zero, List.set_cons_succ]
  refine wpAnyH_ready (rs := [9]) (by kernel_rfl) (by simp) ?_
  refine AllReadyH.cons rfl (fun K hK => ?_) AllReadyH.nil
  go_simp
  with_reducible refine (qD.out _ tb).mono ?_
  rintro e w4 ⟨rfl, b4⟩
  have hH2 := And.intro (hH.1.below b4) (hH.2.below b4 hH.2.lt)
  replace kF := kF.below b4 kF.lt
  replace tb := tb.below b4
  replace b0 := b0.trans (b4.mono b0.size)
  refine hK.out _ _ hH2 (fun _ => ?_)
  clear hK K
  try simp only [Act.put, List.setIfInBounds_toArray, List.set_cons_zero, List.set_cons_succ]
  refine wpAnyH_take (i := 10) (v := ?_) rfl (by kernel_rfl) (by kernel_rfl) (by kernel_rfl) (fun _ _ _ h => h) (Or.inl ⟨by kernel_rfl, ?_⟩) hH2 ?_
  rotate_left
  · intro W hS
    go_simp
    try rfl
  simp only [Act.put, List.setIfInBounds_toArray, List.set_cons_zero, List.set_cons_succ, List.getElem_toArray, List.getElem_cons_succ, List.getElem_cons_zero]
  refine wpAnyH_take (i := 11) (v := ?_) rfl (by kernel_rfl) (by kernel_rfl) (by kernel_rfl) (fun _ _ _ h => h) (Or.inl ⟨by kernel_rfl, ?_⟩) hH2 ?_
  rotate_left
  · intro W hS
    go_simp
    try rfl
  simp only [Act.put, List.setIfInBounds_toArray, List.set_cons_zero, List.set_cons_succ, List.getElem_toArray, List.getElem_cons_succ, List.getElem_cons_zero]
  refine wpAnyH_take (i := 12) (v := ?_) rfl (by kernel_rfl) (by kernel_rfl) (by kernel_rfl) (fun _ _ _ h => h) (Or.inl ⟨by kernel_rfl, ?_⟩) hH2 ?_
  rotate_left
  · intro W hS
    go_simp
    try rfl
  simp only [Act.put, List.setIfInBounds_toArray, List.set_cons_zero, List.set_cons_succ, List.getElem_toArray, List.getElem_cons_succ, List.getElem_cons_zero]
  refine wpAnyH_ready (rs := [13]) (by kernel_rfl) (by simp) ?_
  refine AllReadyH.cons rfl (fun K hK => ?_) AllReadyH.nil
  rw [if_pos (by kernel_rfl)]
  refine wp_store_row 26 _ _ rfl (w.heap.size + 1) #[.bool (f 0), .bool (f 1), .bool (f 2), .bool (f 3), .bool (f 4), .bool (f 5)] rfl rfl 26 #[.bool false, .bool false, .bool false, .bool false, .bool false, .bool false] kF.h (by kernel_rfl) rfl (by simp [Value.oneCell']) ?_
  replace kF := kF.row #[.bool (f 0), .bool (f 1), .bool (f 2), .bool (f 3), .bool (f 4), .bool (f 5)]
  have bx := (But.refl [w.heap.size + 1] w4.heap.size w4).setRow (g := w.heap.size + 1) (by simp) #[.bool (f 0), .bool (f 1), .bool (f 2), .bool (f 3), .bool (f 4), .bool (f 5)]
  have hH3 := And.intro (hH2.1.but bx (by have := nB.out; simp; omega) (by have := nG.out; simp; omega)) (hH2.2.but bx hH2.2.lt (by simp))
  replace b0 := b0.trans (bx.below b0.size (by simp))
  refine hK.out _ _ hH3 (fun _ => ?_)
  clear hK K
  try simp only [Act.put, List.setIfInBounds_toArray, List.set_cons_zero, List.set_cons_succ, List.getElem_toArray, List.getElem_cons_succ, List.getElem_cons_zero]
  refine wpAnyH_done (by kernel_rfl) ?_ _
  have d0 := kF.cell (i := 0) rfl
  have d1 := kF.cell (i := 1) rfl
  have d2 := kF.cell (i := 2) rfl
  have d3 := kF.cell (i := 3) rfl
  have d4 := kF.cell (i := 4) rfl
  have d5 := kF.cell (i := 5) rfl
  go_wp2_with fail
  exact bodyPost_ret (v := .tuple #[.int .u32 R, .agg #[.bool (f 0), .bool (f 1), .bool (f 2), .bool (f 3), .bool (f 4), .bool (f 5)]]) (by simp [results, Tryz.results120, go_sem, d0, d1, d2, d3, d4, d5]) rfl ⟨rfl, b0⟩
end
end Go.Proofs.YtcdoidnfdkodoaaGreatDoor
namespace Go.Proofs.YtcdoidnfdkodoaaGreatDoor
open Go.RowKit
set_option linter.unusedVariables false
set_option linter.unusedSimpArgs false
set_option linter.unusedSectionVars false
section
variable {w : World} {G B : Nat} {g g' : Gs} {m m' : Mm}
set_option maxRecDepth 20000 in
set_option maxHeartbeats 2000000 in
theorem greck_noA (h : GuAt w G B g m) (i : In) (a t : Int) (hN : RdN B g m i.A 4 a t) : Calls Tryz.prog 120 #[mp G, inV i] w fun e w' => e = .panicked (fltP a t) ∧ But [G] w.heap.size w w' := by
  have qR := Lib.hid (fun W (hW : GuAt W G B g m) => gread_no hW i.A 4 a t hN)
  clear hN
  have b0 := ((Below.refl w.heap.size w).alloc (Nat.le_refl _) (.cells (in16 i) 33)).alloc (by simp) (.cells #[.bool false, .bool false, .bool false, .bool false, .bool false, .bool false] 26)
  have kI := (Blk.new w 33 (in16 i)).alloc (.cells #[.bool false, .bool false, .bool false, .bool false, .bool false, .bool false] 26)
  have hg := h.below b0
  have nG := Lib.hid (show G < w.heap.size from h.c.lt)
  have nB := Lib.hid (show B < w.heap.size from h.p.lt)
  go_enter Tryz.func120, Tryz.ntmps120
  go_upto_region 1 with fail
  generalize (w.alloc (.cells (in16 i) 33)).alloc (.cells #[.bool false, .bool false, .bool false, .bool false, .bool false, .bool false] 26) = W0 at *
  have kk := Lib.hid (show ∀ x ∈ [(w.heap.size, 33, in16 i)], Blk W0 x.1 x.2.1 x.2.2 from List.forall_mem_cons.2 ⟨kI, fun x hx => by cases hx⟩)
  clear kI
  refine wp_region_inv (F := ?_) (fun c W => c = fltQ 1 a t ∧ But [G] w.heap.size w W) (fun c a' W hd hq => by obtain ⟨rfl, hb⟩ := hq; exact ⟨hd, rfl, hb⟩) [some 8, some 9, some 10, some 11, some 12, some 13, some 14, some 15, some 6, some 7] [some (mp G), some (.pointer (some ⟨w.heap.size, 2, none⟩)), some (opV i.A), some undef, some (mp G), some (.pointer (some ⟨w.heap.size, 8, none⟩)), some (opV i.B), some undef, some undef, some undef] (RI (GI0 w G B g m) (w.heap.size - 1) 10 3 [(w.heap.size, 33, in16 i)] []) (fun _ => 0) (by kernel_rfl) (by kernel_rfl) (fun s => ?_) (RI.start ⟨hg.drew, b0.drew⟩ (fun x hx => (kk.out x hx).drew) _) ?_ (fun s Wq h => ?_)
  rotate_left
  · simp only [vsOf, putD, Act.put, Nat.reduceAdd, List.setIfInBounds_toArray, List.set_cons_zero, List.set_cons_succ]
    rfl
  · refine AllOps.cons ?_ (AllOps.cons ?_ (AllOps.cons ?_ (AllOps.cons ?_ (AllOps.cons ?_ (AllOps.cons ?_ (AllOps.cons ?_ (AllOps.cons ?_ (AllOps.cons ?_ (AllOps.cons ?_ AllOps.nil)))))))))
    · refine ObOp.val (fun s => mp G) (by kernel_rfl) (fun _ => rfl) (fun s => by kernel_rfl) (fun s D w hd hcl h => ?_)
      go_simp
      try rfl
    · refine ObOp.val (fun s => .pointer (some ⟨w.heap.size, 2, none⟩)) (by kernel_rfl) (fun _ => rfl) (fun s => by kernel_rfl) (fun s D w hd hcl h => ?_)
      go_simp
      try rfl
    · refine ObOp.val (fun s => opV i.A) (by kernel_rfl) (fun _ => rfl) (fun s => by kernel_rfl) (fun s D w hd hcl h => ?_)
      exact run_load_iA (by rfl) (by rfl) (h.k _ List.mem_cons_self)
    · refine ObOp.panics (154) (fun s => #[mp G, opV i.A, .int .i64 4]) (fun s => by kernel_rfl) (fun s D w ha h => ?_) (fun s k w hg => ?_)
      · go_simp
        try rfl
      · exact (qR.out _ hg.1).mono (fun e W h => ⟨_, h.1, rfl, (But.of hg.2 [G]).thenB hg.2.size h.2⟩)
    · refine ObOp.val (fun s => mp G) (by kernel_rfl) (fun _ => rfl) (fun s => by kernel_rfl) (fun s D w hd hcl h => ?_)
      go_simp
      try rfl
    · refine ObOp.val (fun s => .pointer (some ⟨w.heap.size, 8, none⟩)) (by kernel_rfl) (fun _ => rfl) (fun s => by kernel_rfl) (fun s D w hd hcl h => ?_)
      go_simp
      try rfl
    · refine ObOp.val (fun s => opV i.B) (by kernel_rfl) (fun _ => rfl) (fun s => by kernel_rfl) (fun s D w hd hcl h => ?_)
      exact run_load_iB (by rfl) (by rfl) (h.k _ List.mem_cons_self)
    · exact ObOp.behind (by kernel_rfl)
    · exact ObOp.behind (by kernel_rfl)
    · exact ObOp.behind (by kernel_rfl)
  cases (show true = false from h.e)
inductive Rk where
  | ok (R : Int) (f : Nat → Bool)
  | bad (a t : Int)
def RkA (G B : Nat) (g : Gs) (m : Mm) (i : In) : Rk → Prop
  | .ok R f => ∀ W, GuAt W G B g m → TabsA W → Calls Tryz.prog 120 #[mp G, inV i] W fun e w' => e = .returned (.tuple #[.int .u32 R, .agg #[.bool (f 0), .bool (f 1), .bool (f 2), .bool (f 3), .bool (f 4), .bool (f 5)]]) ∧ Below W.heap.size W w'
  | .bad a t => ∀ W, GuAt W G B g m → TabsA W → Calls Tryz.prog 120 #[mp G, inV i] W fun e w' => e = .panicked (fltP a t) ∧ But [G] W.heap.size W w'
set_option maxRecDepth 20000 in
set_option maxHeartbeats 1000000 in
theorem gchange_ok (h : GuAt w G B g m) (i : In) (R : Int) (f : Nat → Bool) (tabs : TabsA w) (hC : CanY B g m i.A)
    (hR : ∀ W, GuAt W G B g m → TabsA W → Calls Tryz.prog 120 #[mp G, inV i] W fun e w' => e = .returned (.tuple #[.int .u32 R, .agg #[.bool (f 0), .bool (f 1), .bool (f 2), .bool (f 3), .bool (f 4), .bool (f 5)]]) ∧ Below W.heap.size W w')
    (hW : WrY B g m i.A 4 R g' m') :
    Calls Tryz.prog 119 #[mp G, inV i] w fun e w' => e = .returned (.tuple #[]) ∧ GuAt w' G B { g' with f := f } m' ∧ But [G, B] w.heap.size w w' := by
  have qC := Lib.hid (fun W (hW : GuAt W G B g m) => gboth_yes hW i.A hC)
  have qR := Lib.hid hR
  have qW := Lib.hid (fun W (hg : GuAt W G B g m) => gwrite_yes hg i.A 4 R g' m' hW)
  clear hC hR hW
  have b0 := (Below.refl w.heap.size w).alloc (Nat.le_refl _) (.cells (in16 i) 33)
  have kI := Blk.new w 33 (in16 i)
  have hg := h.below b0
  have tb := tabs.below b0
  have nG := Lib.hid (show G < w.heap.size from h.c.lt)
  have nB := Lib.hid (show B < w.heap.size from h.p.lt)
  go_enter Tryz.func119, Tryz.ntmps119
  go_upto_region 1 with fail
  generalize w.alloc (.cells (in16 i) 33) = W0 at *
  go_upto_region 2 with (first | (with_reducible refine load_iA rfl _ rfl rfl kI ?_) | ((with_reducible refine (qC.out _ hg).mono ?_); rintro e w1 ⟨rfl, b1⟩))
  replace hg := hg.below b1
  replace kI := kI.below b1 kI.lt
  replace tb := tb.below b1
  replace b0 := b0.trans (b1.mono b0.size)
  have nI := kI.lt
  clear b1
  go_upto_region 3 with (first | (with_reducible refine load_in rfl _ rfl rfl kI ?_) | ((with_reducible refine (qR.out _ hg tb).mono ?_); rintro e w2 ⟨rfl, b2⟩))
  have kF := Blk.new w2 26 #[.bool (f 0), .bool (f 1), .bool (f 2), .bool (f 3), .bool (f 4), .bool (f 5)]
  have b3 := b2.alloc b2.size (.cells #[.bool (f 0), .bool (f 1), .bool (f 2), .bool (f 3), .bool (f 4), .bool (f 5)] 26)
  replace hg := hg.below b3
  replace kI := kI.below b3 kI.lt
  have nF := Lib.hid (show w.heap.size < w2.heap.size by have := b2.size; omega)
  replace b0 := b0.trans (b3.mono b0.size)
  clear b2 b3 tb
  generalize w2.alloc (.cells #[.bool (f 0), .bool (f 1), .bool (f 2), .bool (f 3), .bool (f 4), .bool (f 5)] 26) = W3 at *
  generalize w2.heap.size = F at *
  go_upto_region 4 with (first | (with_reducible refine load_iA rfl _ rfl rfl kI ?_) | ((with_reducible refine (qW.out _ hg).mono ?_); rintro e w4 ⟨rfl, hg4, b4⟩))
  replace kF := kF.but b4 kF.lt (by have := nF.out; have := nG.out; have := nB.out; simp; omega)
  have c0 := kF.cell (i := 0) rfl
  have c1 := kF.cell (i := 1) rfl
  have c2 := kF.cell (i := 2) rfl
  have c3 := kF.cell (i := 3) rfl
  have c4 := kF.cell (i := 4) rfl
  have c5 := kF.cell (i := 5) rfl
  go_wp2_with (first | ((with_reducible refine store_gfl rfl _ _ rfl f rfl rfl hg4 ?_); intro w5 hg5 b5 s5))
  exact bodyPost_end (v := .tuple #[]) (by simp [results, Tryz.results119, go_sem]) rfl ⟨rfl, hg5, ((But.of b0 [G, B]).trans (b4.mono (S' := [G, B]) b0.size (fun k hk => .inl hk))).trans (b5.mono (S' := [G, B]) (Nat.le_trans b0.size b4.size) (fun k hk => .inl (by simp at hk ⊢; omega)))⟩
set_option maxRecDepth 20000 in
theorem gchange_no (h : GuAt w G B g m) (i : In) (a t : Int) (tabs : TabsA w) (hC : CanN B g m i.A a t) : Calls Tryz.prog 119 #[mp G, inV i] w (Aft G B w (.bad 1 a t)) := by
  have qC := Lib.hid (fun W (hW : GuAt W G B g m) => gboth_no hW i.A a t hC)
  clear hC
  have b0 := (Below.refl w.heap.size w).alloc (Nat.le_refl _) (.cells (in16 i) 33)
  have kI := Blk.new w 33 (in16 i)
  have hg := h.below b0
  have nG := Lib.hid (show G < w.heap.size from h.c.lt)
  have nB := Lib.hid (show B < w.heap.size from h.p.lt)
  go_enter Tryz.func119, Tryz.ntmps119
  go_wp2_with (first | (with_reducible refine load_iA rfl _ rfl rfl kI ?_) | ((with_reducible refine (qC.out _ hg).mono ?_); rintro e w1 ⟨rfl, b1⟩))
  exact ⟨rfl, rfl, But.of (b0.trans (b1.mono b0.size)) _⟩
def CmpW (g : Gs) (m : Mm) : Rk → RsO
  | .ok R f => .ok { g with f := f } m
  | .bad a t => .bad 1 a t
set_option maxRecDepth 20000 in
set_option maxHeartbeats 2000000 in
theorem gdoA10 (h : GuAt w G B g m) (i : In) (hop : i.op = 10) (tabs : TabsA w) (r : Rk) (hR : RkA G B g m i r) : Calls Tryz.prog 76 #[mp G, inV i] w (Aft G B w (CmpW g m r)) := by
  have b0 := (Below.refl w.heap.size w).alloc (Nat.le_refl _) (.cells (in16 i) 33)
  have kI := Blk.new w 33 (in16 i)
  have hg := h.below b0
  have nG := Lib.hid (show G < w.heap.size from h.c.lt)
  have nB := Lib.hid (show B < w.heap.size from h.p.lt)
  have c0 := kI.cell (i := 0) (v := .int .i64 i.op) rfl
  rw [hop] at c0
  have tb := tabs.below b0
  cases r with
  | bad a t =>
    have qR := Lib.hid (show ∀ W, GuAt W G B g m → TabsA W → Calls Tryz.prog 120 #[mp G, inV i] W fun e w' => e = .panicked (fltP a t) ∧ But [G] W.heap.size W w' from hR)
    clear hR
    go_enter Tryz.func76, Tryz.ntmps76
    go_wp2_with (first | (with_reducible refine load_in rfl _ rfl rfl kI ?_) | ((with_reducible refine (qR.out _ hg tb).mono ?_); rintro e w1 ⟨rfl, b1⟩))
    exact ⟨rfl, rfl, (But.of b0 [G]).thenW b0.size b1 (fun k hk => .inl hk)⟩
  | ok R f =>
    have qR := Lib.hid (show ∀ W, GuAt W G B g m → TabsA W → Calls Tryz.prog 120 #[mp G, inV i] W fun e w' => e = .returned (.tuple #[.int .u32 R, .agg #[.bool (f 0), .bool (f 1), .bool (f 2), .bool (f 3), .bool (f 4), .bool (f 5)]]) ∧ Below W.heap.size W w' from hR)
    clear hR
    go_enter Tryz.func76, Tryz.ntmps76
    go_wp2_with (first | (with_reducible refine load_in rfl _ rfl rfl kI ?_) | ((with_reducible refine (qR.out _ hg tb).mono ?_); rintro e w1 ⟨rfl, b1⟩; have hg1 := hg.below b1) | ((with_reducible refine store_gfl rfl _ _ rfl f rfl rfl hg1 ?_); intro w2 hg2 b2 s2))
    have bb := b0.trans (b1.mono b0.size)
    exact bodyPost_end (v := .tuple #[]) (by simp [results, Tryz.results76, go_sem]) rfl ⟨rfl, hg2, (But.of bb [G, B]).thenW bb.size b2 (fun k hk => .inl (by simp at hk ⊢; omega))⟩
end
end Go.Proofs.YtcdoidnfdkodoaaGreatDoor
namespace Go.Proofs.YtcdoidnfdkodoaaGreatDoor
open Go.RowKit
set_option linter.unusedVariables false
set_option linter.unusedSimpArgs false
set_option linter.unusedSectionVars false
def opsL : Nat → Int
  | 0 => 3 | 1 => 8 | 2 => 12 | 3 => 15 | 4 => 23 | 5 => 9 | 6 => 14 | _ => 5
def noB (o : Int) : Bool := o == 12 || o == 15 || o == 14
def iBt (p : Nat) (v : Int) : In := ⟨opsL p, 0, oM 8, bif noB (opsL p) then oz else oI v, false, 7⟩
def iCm (v : Int) : In := ⟨10, 0, oM 8, oI v, false, 10⟩
def mG (c : Int) : Mm := mapS Mm.new 0 1 c
theorem mG_ok (c : Int) : (mG c).ok := mapS_ok new_okM _ _ _
theorem seven {P : Int → Prop} (h : P 1 ∧ P 2 ∧ P 3 ∧ P 4 ∧ P 5 ∧ P 6 ∧ P 7) (c : Int) (hc : 1 ≤ c ∧ c ≤ 7) : P c := by
  rcases (by omega : c = 1 ∨ c = 2 ∨ c = 3 ∨ c = 4 ∨ c = 5 ∨ c = 6 ∨ c = 7) with rfl | rfl | rfl | rfl | rfl | rfl | rfl
  · exact h.1
  · exact h.2.1
  · exact h.2.2.1
  · exact h.2.2.2.1
  · exact h.2.2.2.2.1
  · exact h.2.2.2.2.2.1
  · exact h.2.2.2.2.2.2
theorem mG_map (c : Int) (hc : 1 ≤ c ∧ c ≤ 7) : mapE Mm.new 0 1 c = true := seven (P := fun c => mapE Mm.new 0 1 c = true) (by refine ⟨?_, ?_, ?_, ?_, ?_, ?_, ?_⟩ <;> kernel_rfl) c hc
theorem mG_lack (c : Int) (hc : 1 ≤ c ∧ c ≤ 7) : (c % 2 = 1 → lackL (mG c) 8 1 4 = none) ∧ (c % 2 = 0 → lackL (mG c) 8 1 4 = some 0) ∧ (c / 2 % 2 = 1 → lackL (mG c) 8 2 4 = none) :=
  seven (P := fun c => (c % 2 = 1 → lackL (mG c) 8 1 4 = none) ∧ (c % 2 = 0 → lackL (mG c) 8 1 4 = some 0) ∧ (c / 2 % 2 = 1 → lackL (mG c) 8 2 4 = none))
    (by refine ⟨?_, ?_, ?_, ?_, ?_, ?_, ?_⟩ <;> exact ⟨fun h => by first | (exact absurd h (by decide)) | kernel_rfl, fun h => by first | (exact absurd h (by decide)) | kernel_rfl, fun h => by first | (exact absurd h (by decide)) | kernel_rfl⟩) c hc
theorem mG_lk (c : Int) (hc : 1 ≤ c ∧ c ≤ 7) : (c % 4 = 3 → ∀ i : Nat, i < 4 → lkL (mG c) 3 ((8 + (i : Int)) % 4294967296) = 0) ∧ (c % 4 ≠ 3 → ¬ lkL (mG c) 3 8 = 0 ∧ wantL (lkL (mG c) 3 8) = bif c % 2 == 1 then 2 else 1) :=
  seven (P := fun c => (c % 4 = 3 → ∀ i : Nat, i < 4 → lkL (mG c) 3 ((8 + (i : Int)) % 4294967296) = 0) ∧ (c % 4 ≠ 3 → ¬ lkL (mG c) 3 8 = 0 ∧ wantL (lkL (mG c) 3 8) = bif c % 2 == 1 then 2 else 1)) (by
    refine ⟨?_, ?_, ?_, ?_, ?_, ?_, ?_⟩ <;> refine ⟨fun h i hi => ?_, fun h => ?_⟩
    all_goals first
      | exact absurd h (by decide)
      | (rcases (by omega : i = 0 ∨ i = 1 ∨ i = 2 ∨ i = 3) with rfl | rfl | rfl | rfl <;> kernel_rfl)
      | (refine ⟨?_, by kernel_rfl⟩; decide)) c hc
theorem lacks (v : Int) (m : Mm) (hr : m.r = (mG v).r) (a rt : Int) (n : Nat) : lackL m a rt n = lackL (mG v) a rt n := by
  induction n with
  | zero => rfl
  | succ n ih =>
    unfold lackL lackP
    rw [ih, hr]
theorem isB_cm (v : Int) : isB (iCm v) = true := by
  have e : isB (iCm v) = takesB (rowN 10) 8 (numA v) := by kernel_rfl
  rw [e]
  unfold numA
  cases v == 128 <;> cases decide (v < 256) <;> decide
theorem isB_bt (p : Nat) (hp : p < 8) (v : Int) (hv : 0 ≤ v ∧ v < 200) : isB (iBt p v) = true := by
  rcases (by omega : p = 0 ∨ p = 1 ∨ p = 2 ∨ p = 3 ∨ p = 4 ∨ p = 5 ∨ p = 6 ∨ p = 7) with rfl | rfl | rfl | rfl | rfl | rfl | rfl | rfl
  · have e : isB (iBt 0 v) = takesB (rowN 3) 8 (numA v) := by kernel_rfl
    rw [e]; unfold numA; cases v == 128 <;> cases decide (v < 256) <;> decide
  · have e : isB (iBt 1 v) = takesB (rowN 8) 8 (numA v) := by kernel_rfl
    rw [e]; unfold numA; cases v == 128 <;> cases decide (v < 256) <;> decide
  · kernel_rfl
  · kernel_rfl
  · have e : isB (iBt 4 v) = takesB (rowN 23) 8 (numA v) := by kernel_rfl
    rw [e]; unfold numA; rw [show decide (v < 256) = true by simpa using (by omega : v < 256)]; cases v == 128 <;> decide
  · have e : isB (iBt 5 v) = takesB (rowN 9) 8 (numA v) := by kernel_rfl
    rw [e]; unfold numA; cases v == 128 <;> cases decide (v < 256) <;> decide
  · kernel_rfl
  · have e : isB (iBt 7 v) = takesB (rowN 5) 8 (numA v) := by kernel_rfl
    rw [e]; unfold numA; cases v == 128 <;> cases decide (v < 256) <;> decide
theorem canY_b {B : Nat} {g : Gs} {c : Int} (hc : 1 ≤ c ∧ c ≤ 7) (h : c % 4 = 3) : CanY B g (mG c) (oM 8) := fun W hW =>
  Can_yes hW (mG_ok c) g (oM 8) 4 3 rfl (by decide) (fun i hi => by rw [plO_M _ _ (by decide)]; exact (mG_lk c hc).1 h i hi)
theorem canN_b {B : Nat} {g : Gs} {c : Int} (hc : 1 ≤ c ∧ c ≤ 7) (h : c % 4 ≠ 3) : CanN B g (mG c) (oM 8) 8 (bif c % 2 == 1 then 2 else 1) := fun W hW => by
  have e8 : (plO g (oM 8) + ((0 : Nat) : Int)) % 4294967296 = 8 := by rw [plO_M _ _ (by decide)]; decide
  have q := Can_no hW (mG_ok c) g (oM 8) 4 3 rfl (by decide) 0 (by decide) (fun i hi => by omega) (by rw [e8]; exact ((mG_lk c hc).2 h).1)
  rw [e8, ((mG_lk c hc).2 h).2] at q
  exact q
theorem read0 (c : Int) (hc : 1 ≤ c ∧ c ≤ 7) : readL (mG c) 8 4 = 0 := seven (P := fun c => readL (mG c) 8 4 = 0) (by refine ⟨?_, ?_, ?_, ?_, ?_, ?_, ?_⟩ <;> kernel_rfl) c hc
theorem rdY_b {B : Nat} {g : Gs} {c : Int} (hc : 1 ≤ c ∧ c ≤ 7) (h : c % 2 = 1) {m : Mm} (ok : m.ok) (hr : m.r = (mG c).r) {x : Int} (hx : readL m 8 4 = x) : RdY B g m (oM 8) 4 x := by
  have q := rd_mem B g m ok (oM 8) 4 (q := 4) rfl rfl (by rw [plO_M _ _ (by decide), lacks c m hr]; exact (mG_lack c hc).1 h)
  rw [plO_M _ _ (by decide)] at q
  rw [show readL m (8 : Int).toNat 4 = x from hx] at q
  exact q
theorem rd_memN (B : Nat) (g : Gs) (m : Mm) (ok : m.ok) (o : On) (n : Int) (hk : o.k = 3) (j : Nat) (hl : lackL m (plO g o) 1 (numL (numO n)) = some j) : RdN B g m o n ((plO g o + j) % 4294967296) 1 := fun W hW => oRead_no hW g o n _ 1 (fun W' hW' => read_mem_no hW' ok g o (numO n) hk j hl)
theorem rdN_b {B : Nat} {g : Gs} {c : Int} (hc : 1 ≤ c ∧ c ≤ 7) (h : c % 2 = 0) : RdN B g (mG c) (oM 8) 4 8 1 := by
  have e8 : (8 + ((0 : Nat) : Int)) % 4294967296 = 8 := by decide
  have q := rd_memN B g (mG c) (mG_ok c) (oM 8) 4 rfl 0 (by rw [plO_M _ _ (by decide)]; exact (mG_lack c hc).2.1 h)
  rw [plO_M _ _ (by decide), e8] at q
  exact q
end Go.Proofs.YtcdoidnfdkodoaaGreatDoor
namespace Go.Proofs.YtcdoidnfdkodoaaGreatDoor
open Go.RowKit
set_option linter.unusedVariables false
set_option linter.unusedSimpArgs false
set_option linter.unusedSectionVars false
theorem xor0 (v : Int) (hv : 0 ≤ v ∧ v < 200) : bits .xor .u32 0 v = v := by
  obtain ⟨n, rfl⟩ := Int.eq_ofNat_of_zero_le hv.1
  have h := u32_xor_nat' 0 n (by decide) (by omega)
  rw [Nat.zero_xor] at h
  exact h
theorem bo_alu (p : Nat) (hp : p < 8) (v : Int) (hv : 0 ≤ v ∧ v < 200) (f : Nat → Bool) : ∃ R F, (0 ≤ R ∧ R ≤ 4294967295) ∧ (p ≠ 4 → Does (opsL p) 0 (bif noB (opsL p) then 0 else v) f R F) ∧ (p = 4 → ShiftsTo 23 0 v f R F) := by
  have h0 : (0 : Int) ≤ 0 ∧ (0 : Int) ≤ 4294967295 := by decide
  have hv2 : 0 ≤ v ∧ v ≤ 4294967295 := by omega
  rcases (by omega : p = 0 ∨ p = 1 ∨ p = 2 ∨ p = 3 ∨ p = 4 ∨ p = 5 ∨ p = 6 ∨ p = 7) with rfl | rfl | rfl | rfl | rfl | rfl | rfl | rfl
  · exact ⟨_, _, addR_bd _ _ _, fun _ => do_add 0 v f h0 hv2, fun h => absurd h (by decide)⟩
  · exact ⟨_, _, subR_bd _ _ _, fun _ => do_sub 0 v f h0 hv2, fun h => absurd h (by decide)⟩
  · exact ⟨_, _, addR_bd _ _ _, fun _ => do_inc 0 0 f h0 h0, fun h => absurd h (by decide)⟩
  · exact ⟨_, _, subR_bd _ _ _, fun _ => do_neg 0 0 f h0 h0, fun h => absurd h (by decide)⟩
  · by_cases hz : v % 32 = 0
    · exact ⟨_, _, h0, fun h => absurd rfl h, fun _ => shift_zero 23 0 v f hv2 hz⟩
    · have hR : (0 : Int) ≤ 0 * 2 ^ (v % 32).toNat % 4294967296 ∧ (0 : Int) * 2 ^ (v % 32).toNat % 4294967296 ≤ 4294967295 := by rw [Int.zero_mul]; decide
      exact ⟨_, _, hR, fun h => absurd rfl h, fun _ => shift_shl 0 v f (v % 32).toNat (by omega) h0 hv2 (by omega) hR⟩
  · exact ⟨_, _, (by rw [xor0 v hv]; omega : 0 ≤ bits .xor .u32 0 v ∧ bits .xor .u32 0 v ≤ 4294967295), fun _ => do_xor 0 v f (by rw [xor0 v hv]; omega), fun h => absurd h (by decide)⟩
  · exact ⟨_, _, (by decide : (0 : Int) ≤ 4294967295 - 0 ∧ (4294967295 - 0 : Int) ≤ 4294967295), fun _ => do_not 0 0 f h0, fun h => absurd h (by decide)⟩
  · exact ⟨_, _, addR_bd _ _ _, fun _ => do_adc 0 v f h0 hv2, fun h => absurd h (by decide)⟩
theorem rdB_b (B : Nat) (g : Gs) (m : Mm) (p : Nat) (v : Int) (hv : 0 ≤ v ∧ v < 200) : RdY B g m (iBt p v).B 4 (bif noB (opsL p) then 0 else v) := by
  show RdY B g m (bif noB (opsL p) then oz else oI v) 4 (bif noB (opsL p) then 0 else v)
  cases noB (opsL p)
  · exact rd_imm B g m (oI v) rfl (by show 0 ≤ v ∧ v ≤ 4294967295; omega)
  · exact rd_none B g m oz 4 rfl
theorem bo_reck (p : Nat) (hp : p < 8) (v : Int) (hv : 0 ≤ v ∧ v < 200) (g : Gs) (c : Int) (hc : 1 ≤ c ∧ c ≤ 7) (h1 : c % 2 = 1) : ∃ R F, (0 ≤ R ∧ R ≤ 4294967295) ∧ ∀ G B, RkA G B (goOn g (iBt p v)) (mG c) (iBt p v) (.ok R F) := by
  obtain ⟨R, F, hR, h2, h3⟩ := bo_alu p hp v hv g.f
  refine ⟨R, F, hR, fun G B => ?_⟩
  show ∀ W, GuAt W G B (goOn g (iBt p v)) (mG c) → TabsA W → Calls Tryz.prog 120 #[mp G, inV (iBt p v)] W fun e w' => e = .returned (.tuple #[.int .u32 R, .agg #[.bool (F 0), .bool (F 1), .bool (F 2), .bool (F 3), .bool (F 4), .bool (F 5)]]) ∧ Below W.heap.size W w'
  intro W hG tb
  have rA := rdY_b (B := B) (g := goOn g (iBt p v)) hc h1 (mG_ok c) rfl (read0 c hc)
  have rB := rdB_b B (goOn g (iBt p v)) (mG c) p v hv
  by_cases p4 : p = 4
  · subst p4
    exact greck_sh23 hG (iBt 4 v) 0 v R F tb rfl rA rB (fun W2 t2 => h3 rfl W2 t2)
  · refine greck_yes hG (iBt p v) 0 _ R F tb ?_ rA rB (fun W2 t2 => h2 p4 W2 t2)
    show ¬ (21 ≤ opsL p ∧ opsL p ≤ 25)
    rcases (by omega : p = 0 ∨ p = 1 ∨ p = 2 ∨ p = 3 ∨ p = 5 ∨ p = 6 ∨ p = 7) with rfl | rfl | rfl | rfl | rfl | rfl | rfl <;> decide
theorem bo_do (p : Nat) (hp : p < 8) (v : Int) {g : Gs} {m : Mm} {B : Nat} (q : RsO) (h : ∀ W G, GuAt W G B g m → TabsA W → Calls Tryz.prog 119 #[mp G, inV (iBt p v)] W (Aft G B W q)) : DoA B g m (iBt p v) q := by
  refine doA_of fun W G hG tb => ?_
  have hm : ∀ W', GuAt W' G B g m → Below W.heap.size W W' → Calls Tryz.prog 119 #[mp G, inV (iBt p v)] W' (Aft G B W' q) := fun W' hG' b' => h W' G hG' (tb.below b')
  rcases (by omega : p = 0 ∨ p = 1 ∨ p = 2 ∨ p = 3 ∨ p = 4 ∨ p = 5 ∨ p = 6 ∨ p = 7) with rfl | rfl | rfl | rfl | rfl | rfl | rfl | rfl
  · exact gdoA3 hG _ rfl q hm
  · exact gdoA8 hG _ rfl q hm
  · exact gdoA12 hG _ rfl q hm
  · exact gdoA15 hG _ rfl q hm
  · exact gdoA23 hG _ rfl q hm
  · exact gdoA9 hG _ rfl q hm
  · exact gdoA14 hG _ rfl q hm
  · exact gdoA5 hG _ rfl q hm
theorem bo_yes (p : Nat) (hp : p < 8) (v : Int) (hv : 0 ≤ v ∧ v < 200) (g : Gs) (c : Int) (hc : 1 ≤ c ∧ c ≤ 7) (h3 : c % 4 = 3) : ∃ R F, (0 ≤ R ∧ R ≤ 4294967295) ∧ DoR (mG c) g (iBt p v) { goOn g (iBt p v) with f := F } (wroteS (mG c) 8 4 R) := by
  obtain ⟨R, F, hR, hK⟩ := bo_reck p hp v hv g c hc (by omega)
  refine ⟨R, F, hR, DoR.of (isB_bt p hp v hv) ⟨(by decide : (0 : Int) ≤ 7), (by decide : (7 : Int) ≤ 15)⟩ fun B => bo_do p hp v _ fun W G hG tb => ?_⟩
  refine gchange_ok hG (iBt p v) R F tb (canY_b hc h3) (hK G B) ?_
  have q := wr_mem B (goOn g (iBt p v)) (mG c) (mG_ok c) (oM 8) 4 R hR rfl (by rw [plO_M _ _ (by decide)]; exact (mG_lack c hc).2.2 (by omega))
  rw [plO_M _ _ (by decide)] at q
  exact q
theorem bo_no (p : Nat) (hp : p < 8) (v : Int) (hv : 0 ≤ v ∧ v < 200) (g : Gs) (c : Int) (hc : 1 ≤ c ∧ c ≤ 7) (h3 : c % 4 ≠ 3) : DoF (mG c) g (iBt p v) 1 g.pc 8 (bif c % 2 == 1 then 2 else 1) :=
  DoF.of (isB_bt p hp v hv) ⟨(by decide : (0 : Int) ≤ 7), (by decide : (7 : Int) ≤ 15)⟩ fun B => bo_do p hp v _ fun W G hG tb => gchange_no hG (iBt p v) 8 _ tb (canN_b hc h3)
theorem bo_cmp (v : Int) (hv : 0 ≤ v ∧ v ≤ 4294967295) (g : Gs) (c : Int) (hc : 1 ≤ c ∧ c ≤ 7) (h1 : c % 2 = 1) {m : Mm} (ok : m.ok) (hr : m.r = (mG c).r) {x : Int} (hx : readL m 8 4 = x) (hx2 : 0 ≤ x ∧ x ≤ 4294967295) : DoR m g (iCm v) { goOn g (iCm v) with f := subF x v false } m :=
  DoR.of (isB_cm v) ⟨(by decide : (0 : Int) ≤ 10), (by decide : (10 : Int) ≤ 15)⟩ fun B => doA_of fun W G hG tb =>
    gdoA10 hG (iCm v) rfl tb (.ok x (subF x v false)) (show ∀ W, GuAt W G B (goOn g (iCm v)) m → TabsA W → Calls Tryz.prog 120 #[mp G, inV (iCm v)] W fun e w' => e = .returned (.tuple #[.int .u32 x, .agg #[.bool (subF x v false 0), .bool (subF x v false 1), .bool (subF x v false 2), .bool (subF x v false 3), .bool (subF x v false 4), .bool (subF x v false 5)]]) ∧ Below W.heap.size W w' from
      fun W2 hG2 t2 => greck_yes hG2 (iCm v) x v x (subF x v false) t2 (by show ¬ ((21 : Int) ≤ 10 ∧ (10 : Int) ≤ 25); decide) (rdY_b hc h1 ok hr hx) (rd_imm B _ m (oI v) rfl hv) (do_cmp x v (goOn g (iCm v)).f hx2 hv))
theorem bo_cmp_no (v : Int) (g : Gs) (c : Int) (hc : 1 ≤ c ∧ c ≤ 7) (h0 : c % 2 = 0) : DoF (mG c) g (iCm v) 1 g.pc 8 1 :=
  DoF.of (isB_cm v) ⟨(by decide : (0 : Int) ≤ 10), (by decide : (10 : Int) ≤ 15)⟩ fun B => doA_of fun W G hG tb =>
    gdoA10 hG (iCm v) rfl tb (.bad 8 1) (show ∀ W, GuAt W G B (goOn g (iCm v)) (mG c) → TabsA W → Calls Tryz.prog 120 #[mp G, inV (iCm v)] W fun e w' => e = .panicked (fltP 8 1) ∧ But [G] W.heap.size W w' from
      fun W2 hG2 t2 => greck_noA hG2 (iCm v) 8 1 (rdN_b hc h0))
end Go.Proofs.YtcdoidnfdkodoaaGreatDoor
