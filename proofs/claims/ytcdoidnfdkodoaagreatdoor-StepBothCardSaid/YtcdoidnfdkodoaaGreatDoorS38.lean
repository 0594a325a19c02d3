import Derived.Test.YtcdoidnfdkodoaaGreatDoorS37
namespace Go.Proofs.YtcdoidnfdkodoaaGreatDoor
open Go.RowKit
set_option linter.unusedVariables false
set_option linter.unusedSimpArgs false
set_option linter.unusedSectionVars false
theorem store_fT {ops : Array Oper} {rest : List Oper} {o : Oper} {a : Act} {w : World} {Q : Exit → Act → World → Prop} (hgd : o.guard = none) (x y : Operand) (ho : o.op = .store 42 x y)
    (K : Nat) (cs old : Array Value) (hx : a.eval x = .pointer (some ⟨K, 0, none⟩)) (hy : a.eval y = .agg cs) (k : Blk w K 42 old) (hz : cs.size = 4) (hz2 : old.size = 4) (h1 : cs.all (·.oneCell') = true)
    (h : ∀ W, Blk W K 42 cs → But [K] w.heap.size w W → W.heap.size = w.heap.size → wpList Tryz.prog ops Q rest (a.put o.dst undef) W) : wpList Tryz.prog ops Q (o :: rest) a w := by
  refine wpList_store_row hgd 42 x y ho K cs hx hy 42 old k.h (szF.trans (congrArg some hz.symm)) (hz2.trans hz.symm) h1 ?_
  exact h _ (k.row cs) ((But.refl _ _ _).setRow (by simp) cs) (by simp [World.setRow])
theorem sbx_new {B : Nat} {m : Mm} {w : World} (h : PAt w B m) (g : Gs) : ∃ W, W = (((w.alloc (.cells (stA g) 29)).alloc (.cells #[.int .u32 0, .int .u32 0, .int .u32 0, .int .u32 0, .int .u32 0, .int .u32 0, .int .u32 0, .int .u32 0, .int .u32 0, .bool false, .bool false, .bool false, .bool false, .bool false, .bool false, .bool false, .int .u64 0] 29)).alloc (.cells #[.int .i64 0, .int .u32 0, .int .u32 0, .int .i64 0] 42)) ∧ PAt W B m ∧ Blk W w.heap.size 29 (stA g) ∧ Blk W (w.heap.size + 1) 29 #[.int .u32 0, .int .u32 0, .int .u32 0, .int .u32 0, .int .u32 0, .int .u32 0, .int .u32 0, .int .u32 0, .int .u32 0, .bool false, .bool false, .bool false, .bool false, .bool false, .bool false, .bool false, .int .u64 0] ∧ Blk W (w.heap.size + 1 + 1) 42 #[.int .i64 0, .int .u32 0, .int .u32 0, .int .i64 0] ∧ Below w.heap.size w W ∧ W.heap.size = w.heap.size + 3 := by
  refine ⟨_, rfl, ?_⟩
  have b : Below w.heap.size w (((w.alloc (.cells (stA g) 29)).alloc (.cells #[.int .u32 0, .int .u32 0, .int .u32 0, .int .u32 0, .int .u32 0, .int .u32 0, .int .u32 0, .int .u32 0, .int .u32 0, .bool false, .bool false, .bool false, .bool false, .bool false, .bool false, .bool false, .int .u64 0] 29)).alloc (.cells #[.int .i64 0, .int .u32 0, .int .u32 0, .int .i64 0] 42)) := ((((Below.refl w.heap.size w).alloc (Nat.le_refl _) (.cells (stA g) 29)).alloc (by simp) (.cells #[.int .u32 0, .int .u32 0, .int .u32 0, .int .u32 0, .int .u32 0, .int .u32 0, .int .u32 0, .int .u32 0, .int .u32 0, .bool false, .bool false, .bool false, .bool false, .bool false, .bool false, .bool false, .int .u64 0] 29)).alloc (by simp; omega) (.cells #[.int .i64 0, .int .u32 0, .int .u32 0, .int .i64 0] 42))
  have k0 := (((Blk.new w 29 (stA g)).alloc (.cells #[.int .u32 0, .int .u32 0, .int .u32 0, .int .u32 0, .int .u32 0, .int .u32 0, .int .u32 0, .int .u32 0, .int .u32 0, .bool false, .bool false, .bool false, .bool false, .bool false, .bool false, .bool false, .int .u64 0] 29)).alloc (.cells #[.int .i64 0, .int .u32 0, .int .u32 0, .int .i64 0] 42))
  have k1 := ((Blk.new (w.alloc (.cells (stA g) 29)) 29 #[.int .u32 0, .int .u32 0, .int .u32 0, .int .u32 0, .int .u32 0, .int .u32 0, .int .u32 0, .int .u32 0, .int .u32 0, .bool false, .bool false, .bool false, .bool false, .bool false, .bool false, .bool false, .int .u64 0]).alloc (.cells #[.int .i64 0, .int .u32 0, .int .u32 0, .int .i64 0] 42))
  have k2 := (Blk.new ((w.alloc (.cells (stA g) 29)).alloc (.cells #[.int .u32 0, .int .u32 0, .int .u32 0, .int .u32 0, .int .u32 0, .int .u32 0, .int .u32 0, .int .u32 0, .int .u32 0, .bool false, .bool false, .bool false, .bool false, .bool false, .bool false, .bool false, .int .u64 0] 29)) 42 #[.int .i64 0, .int .u32 0, .int .u32 0, .int .i64 0])
  simp only [World.size_alloc] at k1 k2
  exact ⟨(((h.alloc _).alloc _).alloc _), k0, k1, k2, b, by simp⟩
set_option maxRecDepth 20000 in
set_option maxHeartbeats 4000000 in
theorem Step_ok {B : Nat} {m : Mm} {w : World} (h : PAt w B m) (tabs : Tb w) (g : Gs) (i : In) (hf : FeY B m g.pc i) (hi : isB i = true) (hl : 0 ≤ i.len ∧ i.len ≤ 15) (g' : Gs) (m' : Mm) (hd : DoY B (goOn g i) m i g' m') : Calls Tryz.prog 24 #[mp B, stV g] w fun e w' => e = .returned (.tuple #[.agg (stA g'), fltV 0 0 0 0, .bool true, .bool (i.op == 43)]) ∧ PAt w' B m' ∧ But [B] w.heap.size w w' := by
  obtain ⟨w3, e3, h3, kS, k1, k2, b3, s3⟩ := sbx_new h g
  have tb := tabs.below b3
  have E3 := Lib.hid e3
  have nB := Lib.hid h.lt
  have hF := Lib.hid (Fetch_yes h3 tb g.pc i hf)
  go_enter Tryz.func24, Tryz.ntmps24
  go_upto_region 1 with fail
  have e3' := E3.out
  rw [show (((w.alloc (.cells (stA g) 29)).alloc (.cells #[.int .u32 0, .int .u32 0, .int .u32 0, .int .u32 0, .int .u32 0, .int .u32 0, .int .u32 0, .int .u32 0, .int .u32 0, .bool false, .bool false, .bool false, .bool false, .bool false, .bool false, .bool false, .int .u64 0] 29)).alloc (.cells #[.int .i64 0, .int .u32 0, .int .u32 0, .int .i64 0] 42)) = w3 from e3'.symm]
  clear e3' E3 e3 hf
  have cpc := kS.cell (i := 8) (v := .int .u32 g.pc) rfl
  go_upto_region 2 with (first | ((with_reducible refine hF.out.mono ?_); rintro e w4 ⟨rfl, b4⟩))
  have kI := (Blk.new w4 33 (in16 i)).alloc (.cells #[.int .i64 0, .int .u32 0, .int .u32 0, .int .i64 0] 42)
  have kF := Blk.new (w4.alloc (.cells (in16 i) 33)) 42 #[.int .i64 0, .int .u32 0, .int .u32 0, .int .i64 0]
  simp only [World.size_alloc] at kF
  have b5 := (b4.alloc b4.size (.cells (in16 i) 33)).alloc (by have := b4.size; simp; omega) (.cells #[.int .i64 0, .int .u32 0, .int .u32 0, .int .i64 0] 42)
  have hN := Lib.hid (show w.heap.size + 3 ≤ w4.heap.size by have := b4.size; omega)
  replace h3 := h3.below b5 h3.lt
  replace kS := kS.below b5 kS.lt
  replace k1 := k1.below b5 k1.lt
  replace k2 := k2.below b5 k2.lt
  replace tb := tb.below b5
  replace b3 := b3.trans (b5.mono b3.size)
  clear hF cpc b4 b5 s3
  generalize (w4.alloc (.cells (in16 i) 33)).alloc (.cells #[.int .i64 0, .int .u32 0, .int .u32 0, .int .i64 0] 42) = w5 at *
  generalize w4.heap.size = N at *
  have hD := Lib.hid (Do_yes h3 tb g i hi hl g' m' hd)
  clear hd
  have hB5 := h3.lt
  have hN1 := hN.out
  have nB1 := nB.out
  go_upto_region 5 with (first | (with_reducible refine load_st rfl _ rfl w.heap.size (stA g) rfl kS rfl ?_) | (with_reducible refine load_inT rfl _ rfl N i rfl kI ?_) | ((with_reducible refine hD.out.mono ?_); rintro e w6 ⟨rfl, p6, b6⟩; have kU := Blk.new w6 29 (stA g'); have bu := (Below.refl w6.heap.size w6).alloc (Nat.le_refl _) (.cells (stA g') 29); have kF6 := (kF.but b6 kF.lt (by simp <;> omega)).below bu (by have := kF.lt; have := b6.size; omega)) | ((with_reducible refine store_fT rfl _ _ rfl (N + 1) #[.int .i64 0, .int .u32 0, .int .u32 0, .int .i64 0] #[.int .i64 0, .int .u32 0, .int .u32 0, .int .i64 0] rfl rfl kF6 rfl rfl (by simp [Value.oneCell']) ?_); intro w7 kF7 b7 s7))
  have zN := kF.lt
  have zU := b6.size
  replace k1 := ((k1.but b6 k1.lt (by simp <;> omega)).below bu (by have := k1.lt; omega)).but b7 (by have := k1.lt; simp; omega) (by simp; omega)
  replace k2 := ((k2.but b6 k2.lt (by simp <;> omega)).below bu (by have := k2.lt; omega)).but b7 (by have := k2.lt; simp; omega) (by simp; omega)
  replace kI := ((kI.but b6 kI.lt (by simp <;> omega)).below bu (by have := kI.lt; omega)).but b7 (by have := kI.lt; simp; omega) (by simp)
  replace kU := kU.but b7 (by simp) (by simp; omega)
  have hU := Lib.hid (show N + 1 < w6.heap.size by omega)
  have rz := ((But.of b3 [B]).trans (b6.mono (S' := [B]) b3.size (fun k hk => .inl hk))).trans ((But.of (bu.mono (by have := b3.size; omega)) [B]).trans (b7.mono (S' := [B]) (by have := b3.size; simp; omega) (fun k hk => by have := b3.size; simp at hk ⊢; omega)))
  replace p6 := ((p6.below bu p6.lt).but b7 (by have := p6.lt; simp; omega) (by simp; omega))
  clear hD kF kF6 kS bu b7 b6 tb h3 s7
  generalize w6.heap.size = N6 at *
  have hU2 := hU.out
  refine wp_region_held_drew (S := fun V => Blk V N6 29 (stA g') ∧ Blk V (N + 1) 42 #[.int .i64 0, .int .u32 0, .int .u32 0, .int .i64 0] ∧ Blk V N 33 (in16 i)) (by kernel_rfl) ⟨kU.drew, kF7.drew, kI.drew⟩ (fun hH => ?_)
  replace k1 := k1.drew
  replace k2 := k2.drew
  replace rz := rz.drew
  replace p6 := p6.drew
  have hN2 := hN.out
  refine wpAnyH_take (i := 0) (v := .agg (stA g')) rfl (by kernel_rfl) (by kernel_rfl) (by kernel_rfl) (fun _ _ _ h => h) (Or.inl ⟨by kernel_rfl, ?_⟩) hH ?_
  · intro W hS
    exact run_load_row (by rfl) (by rfl) 29 _ (0, 0) _ hS.1.h Tryz.underlying29 rfl szS
  simp only [Act.put, List.setIfInBounds_toArray, List.set_cons_zero, List.set_cons_succ]
  refine wpAnyH_take (i := 1) (v := .agg #[.int .i64 0, .int .u32 0, .int .u32 0, .int .i64 0]) rfl (by kernel_rfl) (by kernel_rfl) (by kernel_rfl) (fun _ _ _ h => h) (Or.inl ⟨by kernel_rfl, ?_⟩) hH ?_
  · intro W hS
    exact run_load_row (by rfl) (by rfl) 42 _ (0, 0) _ hS.2.1.h Tryz.underlying42 rfl szF
  simp only [Act.put, List.setIfInBounds_toArray, List.set_cons_zero, List.set_cons_succ]
  refine wpAnyH_take (i := 2) (v := ?_) rfl (by kernel_rfl) (by kernel_rfl) (by kernel_rfl) (fun _ _ _ h => h) (Or.inl ⟨by kernel_rfl, ?_⟩) hH ?_
  rotate_left
  · intro W hS
    go_simp
    try rfl
  simp only [Act.put, List.setIfInBounds_toArray, List.set_cons_zero, List.set_cons_succ, List.getElem_toArray, List.getElem_cons_succ, List.getElem_cons_zero]
  refine wpAnyH_take (i := 3) (v := ?_) rfl (by kernel_rfl) (by kernel_rfl) (by kernel_rfl) (fun _ _ _ h => h) (Or.inl ⟨by kernel_rfl, ?_⟩) hH ?_
  rotate_left
  · intro W hS
    go_simp
    try rfl
  simp only [Act.put, List.setIfInBounds_toArray, List.set_cons_zero, List.set_cons_succ, List.getElem_toArray, List.getElem_cons_succ, List.getElem_cons_zero]
  refine wpAnyH_take (i := 4) (v := ?_) rfl (by kernel_rfl) (by kernel_rfl) (by kernel_rfl) (fun _ _ _ h => h) (Or.inl ⟨by kernel_rfl, ?_⟩) hH ?_
  rotate_left
  · intro W hS
    go_simp
    try rfl
  simp only [Act.put, List.setIfInBounds_toArray, List.set_cons_zero, List.set_cons_succ, List.getElem_toArray, List.getElem_cons_succ, List.getElem_cons_zero]
  refine wpAnyH_take (i := 5) (v := ?_) rfl (by kernel_rfl) (by kernel_rfl) (by kernel_rfl) (fun _ _ _ h => h) (Or.inl ⟨by kernel_rfl, ?_⟩) hH ?_
  rotate_left
  · intro W hS
    go_simp
    try rfl
  simp only [Act.put, List.setIfInBounds_toArray, List.set_cons_zero, List.set_cons_succ, List.getElem_toArray, List.getElem_cons_succ, List.getElem_cons_zero]
  refine wpAnyH_take (i := 6) (v := ?_) rfl (by kernel_rfl) (by kernel_rfl) (by kernel_rfl) (fun _ _ _ h => h) (Or.inl ⟨by kernel_rfl, ?_⟩) hH ?_
  rotate_left
  · intro W hS
    have cI := hS.2.2.cell (i := 0) (v := .int .i64 i.op) rfl
    go_simp
    try rfl
  simp only [Act.put, List.setIfInBounds_toArray, List.set_cons_zero, List.set_cons_succ, List.getElem_toArray, List.getElem_cons_succ, List.getElem_cons_zero]
  refine wpAnyH_take (i := 7) (v := ?_) rfl (by kernel_rfl) (by kernel_rfl) (by kernel_rfl) (fun _ _ _ h => h) (Or.inl ⟨by kernel_rfl, ?_⟩) hH ?_
  rotate_left
  · intro W hS
    go_simp
    try rfl
  simp only [Act.put, List.setIfInBounds_toArray, List.set_cons_zero, List.set_cons_succ, List.getElem_toArray, List.getElem_cons_succ, List.getElem_cons_zero]
  refine wpAnyH_take (i := 8) (v := ?_) rfl (by kernel_rfl) (by kernel_rfl) (by kernel_rfl) (fun _ _ _ h => h) (Or.inl ⟨by kernel_rfl, ?_⟩) hH ?_
  rotate_left
  · intro W hS
    go_simp
    try rfl
  simp only [Act.put, List.setIfInBounds_toArray, List.set_cons_zero, List.set_cons_succ, List.getElem_toArray, List.getElem_cons_succ, List.getElem_cons_zero]
  refine wpAnyH_ready (rs := [9]) (by kernel_rfl) (by simp) ?_
  refine AllReadyH.cons rfl (fun K hK => ?_) AllReadyH.nil
  rw [if_pos (by kernel_rfl)]
  refine wp_store_row 29 _ _ rfl (w.heap.size + 1) (stA g') rfl rfl 29 #[.int .u32 0, .int .u32 0, .int .u32 0, .int .u32 0, .int .u32 0, .int .u32 0, .int .u32 0, .int .u32 0, .int .u32 0, .bool false, .bool false, .bool false, .bool false, .bool false, .bool false, .bool false, .int .u64 0] k1.h szS rfl (stA_oneT _) ?_
  replace k1 := k1.row (stA g')
  replace k2 := k2.rowOther (M := w.heap.size + 1) (stA g') (by omega)
  have hH2 := And.intro (hH.1.rowOther (M := w.heap.size + 1) (stA g') (by omega)) (And.intro (hH.2.1.rowOther (M := w.heap.size + 1) (stA g') (by omega)) (hH.2.2.rowOther (M := w.heap.size + 1) (stA g') (by omega)))
  replace rz := (rz.mono (S' := [B, w.heap.size + 1, w.heap.size + 1 + 1]) (Nat.le_refl _) (fun k hk => .inl (by simp at hk ⊢; try omega))).setRow (g := w.heap.size + 1) (by simp) (stA g')
  replace p6 := p6.rowOther (K := w.heap.size + 1) (stA g') (by have := nB.out; omega)
  refine hK.out _ _ hH2 (fun _ => ?_)
  clear hK K
  try simp only [Act.put, List.setIfInBounds_toArray, List.set_cons_zero, List.set_cons_succ, List.getElem_toArray, List.getElem_cons_succ, List.getElem_cons_zero]
  refine wpAnyH_ready (rs := [10]) (by kernel_rfl) (by simp) ?_
  refine AllReadyH.cons rfl (fun K hK => ?_) AllReadyH.nil
  rw [if_pos (by kernel_rfl)]
  refine wp_store_row 42 _ _ rfl (w.heap.size + 1 + 1) #[.int .i64 0, .int .u32 0, .int .u32 0, .int .i64 0] rfl rfl 42 #[.int .i64 0, .int .u32 0, .int .u32 0, .int .i64 0] k2.h szF rfl (by simp [Value.oneCell']) ?_
  replace k2 := k2.row #[.int .i64 0, .int .u32 0, .int .u32 0, .int .i64 0]
  replace k1 := k1.rowOther (M := w.heap.size + 1 + 1) #[.int .i64 0, .int .u32 0, .int .u32 0, .int .i64 0] (by omega)
  have hH3 := And.intro (hH2.1.rowOther (M := w.heap.size + 1 + 1) #[.int .i64 0, .int .u32 0, .int .u32 0, .int .i64 0] (by omega)) (And.intro (hH2.2.1.rowOther (M := w.heap.size + 1 + 1) #[.int .i64 0, .int .u32 0, .int .u32 0, .int .i64 0] (by omega)) (hH2.2.2.rowOther (M := w.heap.size + 1 + 1) #[.int .i64 0, .int .u32 0, .int .u32 0, .int .i64 0] (by omega)))
  replace rz := rz.setRow (g := w.heap.size + 1 + 1) (by simp) #[.int .i64 0, .int .u32 0, .int .u32 0, .int .i64 0]
  replace p6 := p6.rowOther (K := w.heap.size + 1 + 1) #[.int .i64 0, .int .u32 0, .int .u32 0, .int .i64 0] (by have := nB.out; omega)
  refine hK.out _ _ hH3 (fun _ => ?_)
  clear hK K
  try simp only [Act.put, List.setIfInBounds_toArray, List.set_cons_zero, List.set_cons_succ, List.getElem_toArray, List.getElem_cons_succ, List.getElem_cons_zero]
  refine wpAnyH_take (i := 11) (v := ?_) rfl (by kernel_rfl) (by kernel_rfl) (by kernel_rfl) (fun _ _ _ h => h) (Or.inl ⟨by kernel_rfl, ?_⟩) hH3 ?_
  rotate_left
  · intro W hS
    go_simp
    try rfl
  simp only [Act.put, List.setIfInBounds_toArray, List.set_cons_zero, List.set_cons_succ, List.getElem_toArray, List.getElem_cons_succ, List.getElem_cons_zero]
  refine wpAnyH_take (i := 12) (v := ?_) rfl (by kernel_rfl) (by kernel_rfl) (by kernel_rfl) (fun _ _ _ h => h) (Or.inl ⟨by kernel_rfl, ?_⟩) hH3 ?_
  rotate_left
  · intro W hS
    go_simp
    try rfl
  simp only [Act.put, List.setIfInBounds_toArray, List.set_cons_zero, List.set_cons_succ, List.getElem_toArray, List.getElem_cons_succ, List.getElem_cons_zero]
  refine wpAnyH_done (by kernel_rfl) ?_ _
  have s20 := k1.cell (i := 0) rfl
  have s21 := k1.cell (i := 1) rfl
  have s22 := k1.cell (i := 2) rfl
  have s23 := k1.cell (i := 3) rfl
  have s24 := k1.cell (i := 4) rfl
  have s25 := k1.cell (i := 5) rfl
  have s26 := k1.cell (i := 6) rfl
  have s27 := k1.cell (i := 7) rfl
  have s28 := k1.cell (i := 8) rfl
  have s29 := k1.cell (i := 9) rfl
  have s30 := k1.cell (i := 10) rfl
  have s31 := k1.cell (i := 11) rfl
  have s32 := k1.cell (i := 12) rfl
  have s33 := k1.cell (i := 13) rfl
  have s34 := k1.cell (i := 14) rfl
  have s35 := k1.cell (i := 15) rfl
  have s36 := k1.cell (i := 16) rfl
  have d0 := k2.cell (i := 0) rfl
  have d1 := k2.cell (i := 1) rfl
  have d2 := k2.cell (i := 2) rfl
  have d3 := k2.cell (i := 3) rfl
  go_wp2_with fail
  exact bodyPost_ret (v := .tuple #[.agg (stA g'), fltV 0 0 0 0, .bool true, .bool (i.op == 43)]) (by simp [results, Tryz.results24, go_sem, s20, s21, s22, s23, s24, s25, s26, s27, s28, s29, s30, s31, s32, s33, s34, s35, s36, d0, d1, d2, d3]) rfl ⟨rfl, p6, rz.mono (Nat.le_refl _) (fun k hk => by simp at hk ⊢; omega)⟩
end Go.Proofs.YtcdoidnfdkodoaaGreatDoor
