import Derived.Test.YtcdoidnfdkodoaaGreatDoorS38
import Derived.Test.YtcdoidnfdkodoaaGreatDoorS41
namespace Go.Proofs.YtcdoidnfdkodoaaGreatDoor
open Go.RowKit
set_option linter.unusedVariables false
set_option linter.unusedSimpArgs false
set_option linter.unusedSectionVars false
set_option maxRecDepth 20000 in
set_option maxHeartbeats 4000000 in
theorem Step_dono {B : Nat} {m : Mm} {w : World} (h : PAt w B m) (tabs : Tb w) (g : Gs) (i : In) (hf : FeY B m g.pc i) (hi : isB i = true) (hl : 0 ≤ i.len ∧ i.len ≤ 15) (kk a t : Int) (hd : DoN B (goOn g i) m i kk a t) : Calls Tryz.prog 24 #[mp B, stV g] w fun e w' => e = .returned (.tuple #[.agg (stA g), fltV kk g.pc a t, .bool false, .bool false]) ∧ Below w.heap.size w w' := by
  obtain ⟨w3, e3, h3, kS, k1, k2, b3, s3⟩ := sbx_new h g
  have tb := tabs.below b3
  have E3 := Lib.hid e3
  have nB := Lib.hid h.lt
  have hF := Lib.hid (Fetch_yes h3 tb g.pc i hf)
  go_enter Tryz.func24, Tryz.ntmps24
  go_upto_region 1 with fail
  have e3' := E3.out
  rw [show (((w.alloc (.cells (stA g) 29)).alloc (.cells #[.int .u32 0, .int .u32 0, .int .u32 0, .int .u32 0, .int .u32 0, .int .u32 0, .int .u32 0, .int .u32 0, .int .u32 0, .bool false, .bool false, .bool false, .bool false, .bool false, .bool false, .bool false, .int .u64 0] 29)).alloc (.cells #[.int .i64 0, .int .u32 0, .int .u32 0, .int .i64 0] 42)) = w3 from e3'.symm]
  clear e3' E3 e3 hf
  have cpc := kS.cell (i := 8) (v := .int .u32 g.pc) rfl
  go_upto_region 2 with (first | ((with_reducible refine hF.out.mono ?_); rintro e w4 ⟨rfl, b4⟩))
  have kI := (Blk.new w4 33 (in16 i)).alloc (.cells #[.int .i64 0, .int .u32 0, .int .u32 0, .int .i64 0] 42)
  have kF := Blk.new (w4.alloc (.cells (in16 i) 33)) 42 #[.int .i64 0, .int .u32 0, .int .u32 0, .int .i64 0]
  simp only [World.size_alloc] at kF
  have b5 := (b4.alloc b4.size (.cells (in16 i) 33)).alloc (by have := b4.size; simp; omega) (.cells #[.int .i64 0, .int .u32 0, .int .u32 0, .int .i64 0] 42)
  have hN := Lib.hid (show w.heap.size + 3 ≤ w4.heap.size by have := b4.size; omega)
  replace h3 := h3.below b5 h3.lt
  replace kS := kS.below b5 kS.lt
  replace k1 := k1.below b5 k1.lt
  replace k2 := k2.below b5 k2.lt
  replace tb := tb.below b5
  replace b3 := b3.trans (b5.mono b3.size)
  clear hF cpc b4 b5 s3
  generalize (w4.alloc (.cells (in16 i) 33)).alloc (.cells #[.int .i64 0, .int .u32 0, .int .u32 0, .int .i64 0] 42) = w5 at *
  generalize w4.heap.size = N at *
  have hD := Lib.hid (Do_no h3 tb g i hi hl kk a t hd)
  clear hd
  have hB5 := h3.lt
  have hN1 := hN.out
  have nB1 := nB.out
  go_upto_region 5 with (first | (with_reducible refine load_st rfl _ rfl w.heap.size (stA g) rfl kS rfl ?_) | (with_reducible refine load_inT rfl _ rfl N i rfl kI ?_) | ((with_reducible refine hD.out.mono ?_); rintro e w6 ⟨rfl, b6'⟩; have b6 := But.of b6' []; have kU := Blk.new w6 29 (stA g); have bu := (Below.refl w6.heap.size w6).alloc (Nat.le_refl _) (.cells (stA g) 29); have kF6 := (kF.but b6 kF.lt (by simp <;> omega)).below bu (by have := kF.lt; have := b6.size; omega)) | ((with_reducible refine store_fT rfl _ _ rfl (N + 1) #[.int .i64 kk, .int .u32 g.pc, .int .u32 a, .int .i64 t] #[.int .i64 0, .int .u32 0, .int .u32 0, .int .i64 0] rfl rfl kF6 rfl rfl (by simp [Value.oneCell']) ?_); intro w7 kF7 b7 s7))
  have zN := kF.lt
  have zU := b6.size
  replace k1 := ((k1.but b6 k1.lt (by simp <;> omega)).below bu (by have := k1.lt; omega)).but b7 (by have := k1.lt; simp; omega) (by simp; omega)
  replace k2 := ((k2.but b6 k2.lt (by simp <;> omega)).below bu (by have := k2.lt; omega)).but b7 (by have := k2.lt; simp; omega) (by simp; omega)
  replace kI := ((kI.but b6 kI.lt (by simp <;> omega)).below bu (by have := kI.lt; omega)).but b7 (by have := kI.lt; simp; omega) (by simp)
  replace kU := kU.but b7 (by simp) (by simp; omega)
  have hU := Lib.hid (show N + 1 < w6.heap.size by omega)
  have rz := ((But.of b3 []).trans (b6.mono (S' := []) b3.size (fun k hk => .inl hk))).trans ((But.of (bu.mono (by have := b3.size; omega)) []).trans (b7.mono (S' := []) (by have := b3.size; simp; omega) (fun k hk => by have := b3.size; simp at hk ⊢; omega)))
  clear hD kF kF6 kS bu b7 b6 tb h3 s7
  generalize w6.heap.size = N6 at *
  have hU2 := hU.out
  refine wp_region_held_drew (S := fun V => Blk V N6 29 (stA g) ∧ Blk V (N + 1) 42 #[.int .i64 kk, .int .u32 g.pc, .int .u32 a, .int .i64 t] ∧ Blk V N 33 (in16 i)) (by kernel_rfl) ⟨kU.drew, kF7.drew, kI.drew⟩ (fun hH => ?_)
  replace k1 := k1.drew
  replace k2 := k2.drew
  replace rz := rz.drew
  have hN2 := hN.out
  refine wpAnyH_take (i := 0) (v := .agg (stA g)) rfl (by kernel_rfl) (by kernel_rfl) (by kernel_rfl) (fun _ _ _ h => h) (Or.inl ⟨by kernel_rfl, ?_⟩) hH ?_
  · intro W hS
    exact run_load_row (by rfl) (by rfl) 29 _ (0, 0) _ hS.1.h Tryz.underlying29 rfl szS
  simp only [Act.put, List.setIfInBounds_toArray, List.set_cons_zero, List.set_cons_succ]
  refine wpAnyH_take (i := 1) (v := .agg #[.int .i64 kk, .int .u32 g.pc, .int .u32 a, .int .i64 t]) rfl (by kernel_rfl) (by kernel_rfl) (by kernel_rfl) (fun _ _ _ h => h) (Or.inl ⟨by kernel_rfl, ?_⟩) hH ?_
  · intro W hS
    exact run_load_row (by rfl) (by rfl) 42 _ (0, 0) _ hS.2.1.h Tryz.underlying42 rfl szF
  simp only [Act.put, List.setIfInBounds_toArray, List.set_cons_zero, List.set_cons_succ]
  refine wpAnyH_take (i := 2) (v := ?_) rfl (by kernel_rfl) (by kernel_rfl) (by kernel_rfl) (fun _ _ _ h => h) (Or.inl ⟨by kernel_rfl, ?_⟩) hH ?_
  rotate_left
  · intro W hS
    go_simp
    try rfl
  simp only [Act.put, List.setIfInBounds_toArray, List.set_cons_zero, List.set_cons_succ, List.getElem_toArray, List.getElem_cons_succ, List.getElem_cons_zero]
  refine wpAnyH_take (i := 3) (v := ?_) rfl (by kernel_rfl) (by kernel_rfl) (by kernel_rfl) (fun _ _ _ h => h) (Or.inl ⟨by kernel_rfl, ?_⟩) hH ?_
  rotate_left
  · intro W hS
    go_simp
    try rfl
  simp only [Act.put, List.setIfInBounds_toArray, List.set_cons_zero, List.set_cons_succ, List.getElem_toArray, List.getElem_cons_succ, List.getElem_cons_zero]
  refine wpAnyH_take (i := 4) (v := ?_) rfl (by kernel_rfl) (by kernel_rfl) (by kernel_rfl) (fun _ _ _ h => h) (Or.inl ⟨by kernel_rfl, ?_⟩) hH ?_
  rotate_left
  · intro W hS
    go_simp
    try rfl
  simp only [Act.put, List.setIfInBounds_toArray, List.set_cons_zero, List.set_cons_succ, List.getElem_toArray, List.getElem_cons_succ, List.getElem_cons_zero]
  refine wpAnyH_take (i := 5) (v := undef) rfl (by kernel_rfl) (by kernel_rfl) (by kernel_rfl) (fun _ _ _ h => h) (Or.inr ⟨by kernel_rfl, rfl⟩) hH ?_
  simp only [Act.put, List.setIfInBounds_toArray, List.set_cons_zero, List.set_cons_succ]
  refine wpAnyH_take (i := 6) (v := undef) rfl (by kernel_rfl) (by kernel_rfl) (by kernel_rfl) (fun _ _ _ h => h) (Or.inr ⟨by kernel_rfl, rfl⟩) hH ?_
  simp only [Act.put, List.setIfInBounds_toArray, List.set_cons_zero, List.set_cons_succ]
  refine wpAnyH_take (i := 7) (v := undef) rfl (by kernel_rfl) (by kernel_rfl) (by kernel_rfl) (fun _ _ _ h => h) (Or.inr ⟨by kernel_rfl, rfl⟩) hH ?_
  simp only [Act.put, List.setIfInBounds_toArray, List.set_cons_zero, List.set_cons_succ]
  refine wpAnyH_take (i := 8) (v := ?_) rfl (by kernel_rfl) (by kernel_rfl) (by kernel_rfl) (fun _ _ _ h => h) (Or.inl ⟨by kernel_rfl, ?_⟩) hH ?_
  rotate_left
  · intro W hS
    go_simp
    try rfl
  simp only [Act.put, List.setIfInBounds_toArray, List.set_cons_zero, List.set_cons_succ, List.getElem_toArray, List.getElem_cons_succ, List.getElem_cons_zero]
  refine wpAnyH_ready (rs := [9]) (by kernel_rfl) (by simp) ?_
  refine AllReadyH.cons rfl (fun K hK => ?_) AllReadyH.nil
  rw [if_pos (by kernel_rfl)]
  refine wp_store_row 29 _ _ rfl (w.heap.size + 1) (stA g) rfl rfl 29 #[.int .u32 0, .int .u32 0, .int .u32 0, .int .u32 0, .int .u32 0, .int .u32 0, .int .u32 0, .int .u32 0, .int .u32 0, .bool false, .bool false, .bool false, .bool false, .bool false, .bool false, .bool false, .int .u64 0] k1.h szS rfl (stA_oneT _) ?_
  replace k1 := k1.row (stA g)
  replace k2 := k2.rowOther (M := w.heap.size + 1) (stA g) (by omega)
  have hH2 := And.intro (hH.1.rowOther (M := w.heap.size + 1) (stA g) (by omega)) (And.intro (hH.2.1.rowOther (M := w.heap.size + 1) (stA g) (by omega)) (hH.2.2.rowOther (M := w.heap.size + 1) (stA g) (by omega)))
  replace rz := (rz.mono (S' := [w.heap.size + 1, w.heap.size + 1 + 1]) (Nat.le_refl _) (fun k hk => .inl (by simp at hk ⊢; try omega))).setRow (g := w.heap.size + 1) (by simp) (stA g)
  refine hK.out _ _ hH2 (fun _ => ?_)
  clear hK K
  try simp only [Act.put, List.setIfInBounds_toArray, List.set_cons_zero, List.set_cons_succ, List.getElem_toArray, List.getElem_cons_succ, List.getElem_cons_zero]
  refine wpAnyH_ready (rs := [10]) (by kernel_rfl) (by simp) ?_
  refine AllReadyH.cons rfl (fun K hK => ?_) AllReadyH.nil
  rw [if_pos (by kernel_rfl)]
  refine wp_store_row 42 _ _ rfl (w.heap.size + 1 + 1) #[.int .i64 kk, .int .u32 g.pc, .int .u32 a, .int .i64 t] rfl rfl 42 #[.int .i64 0, .int .u32 0, .int .u32 0, .int .i64 0] k2.h szF rfl (by simp [Value.oneCell']) ?_
  replace k2 := k2.row #[.int .i64 kk, .int .u32 g.pc, .int .u32 a, .int .i64 t]
  replace k1 := k1.rowOther (M := w.heap.size + 1 + 1) #[.int .i64 kk, .int .u32 g.pc, .int .u32 a, .int .i64 t] (by omega)
  have hH3 := And.intro (hH2.1.rowOther (M := w.heap.size + 1 + 1) #[.int .i64 kk, .int .u32 g.pc, .int .u32 a, .int .i64 t] (by omega)) (And.intro (hH2.2.1.rowOther (M := w.heap.size + 1 + 1) #[.int .i64 kk, .int .u32 g.pc, .int .u32 a, .int .i64 t] (by omega)) (hH2.2.2.rowOther (M := w.heap.size + 1 + 1) #[.int .i64 kk, .int .u32 g.pc, .int .u32 a, .int .i64 t] (by omega)))
  replace rz := rz.setRow (g := w.heap.size + 1 + 1) (by simp) #[.int .i64 kk, .int .u32 g.pc, .int .u32 a, .int .i64 t]
  refine hK.out _ _ hH3 (fun _ => ?_)
  clear hK K
  try simp only [Act.put, List.setIfInBounds_toArray, List.set_cons_zero, List.set_cons_succ, List.getElem_toArray, List.getElem_cons_succ, List.getElem_cons_zero]
  refine wpAnyH_take (i := 11) (v := ?_) rfl (by kernel_rfl) (by kernel_rfl) (by kernel_rfl) (fun _ _ _ h => h) (Or.inl ⟨by kernel_rfl, ?_⟩) hH3 ?_
  rotate_left
  · intro W hS
    go_simp
    try rfl
  simp only [Act.put, List.setIfInBounds_toArray, List.set_cons_zero, List.set_cons_succ, List.getElem_toArray, List.getElem_cons_succ, List.getElem_cons_zero]
  refine wpAnyH_take (i := 12) (v := ?_) rfl (by kernel_rfl) (by kernel_rfl) (by kernel_rfl) (fun _ _ _ h => h) (Or.inl ⟨by kernel_rfl, ?_⟩) hH3 ?_
  rotate_left
  · intro W hS
    go_simp
    try rfl
  simp only [Act.put, List.setIfInBounds_toArray, List.set_cons_zero, List.set_cons_succ, List.getElem_toArray, List.getElem_cons_succ, List.getElem_cons_zero]
  refine wpAnyH_done (by kernel_rfl) ?_ _
  have s20 := k1.cell (i := 0) rfl
  have s21 := k1.cell (i := 1) rfl
  have s22 := k1.cell (i := 2) rfl
  have s23 := k1.cell (i := 3) rfl
  have s24 := k1.cell (i := 4) rfl
  have s25 := k1.cell (i := 5) rfl
  have s26 := k1.cell (i := 6) rfl
  have s27 := k1.cell (i := 7) rfl
  have s28 := k1.cell (i := 8) rfl
  have s29 := k1.cell (i := 9) rfl
  have s30 := k1.cell (i := 10) rfl
  have s31 := k1.cell (i := 11) rfl
  have s32 := k1.cell (i := 12) rfl
  have s33 := k1.cell (i := 13) rfl
  have s34 := k1.cell (i := 14) rfl
  have s35 := k1.cell (i := 15) rfl
  have s36 := k1.cell (i := 16) rfl
  have d0 := k2.cell (i := 0) rfl
  have d1 := k2.cell (i := 1) rfl
  have d2 := k2.cell (i := 2) rfl
  have d3 := k2.cell (i := 3) rfl
  go_wp2_with fail
  exact bodyPost_ret (v := .tuple #[.agg (stA g), fltV kk g.pc a t, .bool false, .bool false]) (by simp [results, Tryz.results24, go_sem, s20, s21, s22, s23, s24, s25, s26, s27, s28, s29, s30, s31, s32, s33, s34, s35, s36, d0, d1, d2, d3]) rfl ⟨rfl, rz.below (Nat.le_refl _) (by simp; omega)⟩
end Go.Proofs.YtcdoidnfdkodoaaGreatDoor
namespace Go.Proofs.YtcdoidnfdkodoaaGreatDoor
open Go.RowKit
set_option linter.unusedVariables false
set_option linter.unusedSimpArgs false
set_option linter.unusedSectionVars false
theorem Pg.store {n0 : Nat} {w0 w w' : World} {B N : Nat} {m : Mm} (p : Pg n0 w0 w B m) (k : But [N] w.heap.size w w') (h : B < N) : Pg n0 w0 w' B m :=
  ⟨p.h.but k p.h.lt (by simp; omega), p.ok, p.k.trans (k.mono p.sz (fun x hx => .inr (by simp at hx; have := p.l; omega))), p.l⟩
section
variable {n0 : Nat} {w0 w : World} {B : Nat}
theorem kn_map : mapE Mm.new 0 1 7 = true ∧ pokeE (mapS Mm.new 0 1 7) 0 [64, 80, 205, 128] = true := by refine ⟨?_, ?_⟩ <;> kernel_rfl
theorem kp_map (p : Pg n0 w0 w B Mm.new) : Calls Tryz.prog 29 #[mp B, .int .i64 0, .int .i64 1, .int .i64 7] w fun e w' => e = .returned (.int .i64 0) ∧ Pg n0 w0 w' B (mapS Mm.new 0 1 7) := by
  have q := pMap p 0 1 7 (by decide)
  rw [kn_map.1, show errM true = 0 from rfl] at q
  exact q.mono fun e w' h => ⟨h.1, h.2.1⟩
theorem kp_poke (p : Pg n0 w0 w B (mapS Mm.new 0 1 7)) (x : Option Addr) (c : Nat) (hr : Row8 w x 4 [64, 80, 205, 128]) : Calls Tryz.prog 32 #[mp B, .int .u32 0, .slice x 4 c] w fun e w' => e = .returned (.int .i64 0) ∧ Pg n0 w0 w' B kM := by
  have q := Poke_any p.h p.ok 0 (by decide) x 4 c _ hr (by decide)
  rw [kn_map.2, show errM true = 0 from rfl] at q
  exact q.mono fun e w' h => ⟨h.1, p.step h.2.1 kM_ok h.2.2⟩
theorem kp1 (p : Pg n0 w0 w B kM) (tb : Tb w) : Calls Tryz.prog 24 #[mp B, stV gz] w fun e w' => e = .returned (.tuple #[stV gK1, fltV 0 0 0 0, .bool true, .bool false]) ∧ Pg n0 w0 w' B kM ∧ But [B] w.heap.size w w' :=
  (Step_ok p.h tb gz iInc fe1 kd3.1 (by decide) gK1 kM do1K).mono fun e w' h => ⟨h.1, p.step h.2.1 kM_ok h.2.2, h.2.2⟩
theorem kp2 (p : Pg n0 w0 w B kM) (tb : Tb w) : Calls Tryz.prog 24 #[mp B, stV gK1] w fun e w' => e = .returned (.tuple #[stV gK1, fltV 1 1 4294967292 2, .bool false, .bool false]) ∧ Pg n0 w0 w' B kM ∧ Below w.heap.size w w' :=
  (Step_dono p.h tb gK1 iPush fe2 kd3.2.1 (by decide) 1 4294967292 2 do2K).mono fun e w' h => ⟨h.1, p.below h.2, h.2⟩
theorem kp3 (p : Pg n0 w0 w B kM) (tb : Tb w) : Calls Tryz.prog 24 #[mp B, stV gK2] w fun e w' => e = .returned (.tuple #[stV gK3, fltV 0 0 0 0, .bool true, .bool false]) ∧ Pg n0 w0 w' B kQ2 ∧ But [B] w.heap.size w w' :=
  (Step_ok p.h tb gK2 iPush fe2 kd3.2.1 (by decide) gK3 kQ2 do3K).mono fun e w' h => ⟨h.1, p.step h.2.1 kQ2_ok h.2.2, h.2.2⟩
theorem kp4 (p : Pg n0 w0 w B kQ2) (tb : Tb w) : Calls Tryz.prog 24 #[mp B, stV gK3] w fun e w' => e = .returned (.tuple #[stV gK4, fltV 0 0 0 0, .bool true, .bool true]) ∧ Pg n0 w0 w' B kQ2 ∧ But [B] w.heap.size w w' :=
  (Step_ok p.h tb gK3 iInt fe3 kd3.2.2 (by decide) gK4 kQ2 do4K).mono fun e w' h => ⟨h.1, p.step h.2.1 kQ2_ok h.2.2, h.2.2⟩
end
set_option maxRecDepth 100000 in
set_option maxHeartbeats 8000000 in
theorem known13_gen (g0 g1 g2 g3 g4 : Gs) (m1 m2 : Mm) (hz : (#[.int .u32 0, .int .u32 0, .int .u32 0, .int .u32 0, .int .u32 0, .int .u32 0, .int .u32 0, .int .u32 0, .int .u32 0, .bool false, .bool false, .bool false, .bool false, .bool false, .bool false, .bool false, .int .u64 0] : Array Value) = stA g0) (e2 : (stA g1).setIfInBounds 4 (.int .u32 100) = stA g2) (f0 : g2.r 0 = 1) (f1 : g2.pc = 1) (f2 : g1.pc = 1) (f3 : g3.r 4 = 96) (f4 : g4.pc = 4)
    (hK1 : ∀ (n0 : Nat) (w0 w : World) (B : Nat), Pg n0 w0 w B m1 → Tb w → Calls Tryz.prog 24 #[mp B, stV g0] w fun e w' => e = .returned (.tuple #[stV g1, fltV 0 0 0 0, .bool true, .bool false]) ∧ Pg n0 w0 w' B m1 ∧ But [B] w.heap.size w w')
    (hK2 : ∀ (n0 : Nat) (w0 w : World) (B : Nat), Pg n0 w0 w B m1 → Tb w → Calls Tryz.prog 24 #[mp B, stV g1] w fun e w' => e = .returned (.tuple #[stV g1, fltV 1 1 4294967292 2, .bool false, .bool false]) ∧ Pg n0 w0 w' B m1 ∧ Below w.heap.size w w')
    (hK3 : ∀ (n0 : Nat) (w0 w : World) (B : Nat), Pg n0 w0 w B m1 → Tb w → Calls Tryz.prog 24 #[mp B, stV g2] w fun e w' => e = .returned (.tuple #[stV g3, fltV 0 0 0 0, .bool true, .bool false]) ∧ Pg n0 w0 w' B m2 ∧ But [B] w.heap.size w w')
    (hK4 : ∀ (n0 : Nat) (w0 w : World) (B : Nat), Pg n0 w0 w B m2 → Tb w → Calls Tryz.prog 24 #[mp B, stV g3] w fun e w' => e = .returned (.tuple #[stV g4, fltV 0 0 0 0, .bool true, .bool true]) ∧ Pg n0 w0 w' B m2 ∧ But [B] w.heap.size w w')
    (hKP : ∀ (n0 : Nat) (w0 w : World) (B : Nat), Pg n0 w0 w B (mapS Mm.new 0 1 7) → ∀ (x : Option Addr) (c : Nat), Row8 w x 4 [64, 80, 205, 128] → Calls Tryz.prog 32 #[mp B, .int .u32 0, .slice x 4 c] w fun e w' => e = .returned (.int .i64 0) ∧ Pg n0 w0 w' B m1)
    (w : World) (tabs : Tb w) : Calls Tryz.prog 15 #[] w fun e w' => e = .returned (.bool true) ∧ Below w.heap.size w w' := by
  have hNew := Lib.hid (fun W => pNew W)
  have T0 := Lib.hid tabs
  have K1 := Lib.hid hK1
  have K2 := Lib.hid hK2
  have K3 := Lib.hid hK3
  have K4 := Lib.hid hK4
  have KP := Lib.hid hKP
  have E2 := Lib.hid e2
  have HZ := Lib.hid hz
  have F0 := Lib.hid f0
  have F1 := Lib.hid f1
  have F2 := Lib.hid f2
  have F3 := Lib.hid f3
  have F4 := Lib.hid f4
  clear hK1 hK2 hK3 hK4 hKP e2 hz f0 f1 f2 f3 f4
  clear tabs
  go_enter Tryz.func15, Tryz.ntmps15
  go_upto_region 4 with (first | ((with_reducible refine (hNew.out _).mono ?_); rintro e w1 ⟨rfl, p1⟩; have q1 := Lib.hid (kp_map p1)) | ((with_reducible refine q1.out.mono ?_); rintro e w2 ⟨rfl, p2⟩; have p3 := p2.below ((Below.refl w2.heap.size w2).alloc (Nat.le_refl _) (.cells #[.int .u8 64, .int .u8 80, .int .u8 205, .int .u8 128] 5)); have q3 := Lib.hid (KP.out _ _ _ _ p3 _ 4 (row_new w2 [64, 80, 205, 128] (by simp) 5))) | ((with_reducible refine q3.out.mono ?_); rintro e w3 ⟨rfl, p4⟩))
  clear q1 p1 hNew q3 p2 p3
  go_upto_region 5 with fail
  rw [HZ.out]
  have kS := Blk.new w3 29 (stA g0)
  have p5 := p4.below ((Below.refl w3.heap.size w3).alloc (Nat.le_refl _) (.cells (stA g0) 29))
  clear p4
  generalize w3.alloc (.cells (stA g0) 29) = W5 at *
  generalize w3.heap.size = S at *
  have q5 := Lib.hid (K1.out _ _ _ _ p5 (T0.out.below p5.done))
  go_upto_region 6 with (first | (with_reducible refine load_st rfl _ rfl S (stA g0) rfl kS rfl ?_) | ((with_reducible refine q5.out.mono ?_); rintro e w6 ⟨rfl, p6, b6⟩))
  clear q5 kS b6 p5
  have kA := (Blk.new w6 29 (stA g1)).alloc (.cells #[.int .i64 0, .int .u32 0, .int .u32 0, .int .i64 0] 42)
  have kFa := Blk.new (w6.alloc (.cells (stA g1) 29)) 42 #[.int .i64 0, .int .u32 0, .int .u32 0, .int .i64 0]
  simp only [World.size_alloc] at kFa
  have ba := ((Below.refl w6.heap.size w6).alloc (Nat.le_refl _) (.cells (stA g1) 29)).alloc (by simp) (.cells #[.int .i64 0, .int .u32 0, .int .u32 0, .int .i64 0] 42)
  have p7 := p6.below ba
  have nA := Lib.hid (show w.heap.size < w6.heap.size from p6.h.lt)
  clear ba
  generalize (w6.alloc (.cells (stA g1) 29)).alloc (.cells #[.int .i64 0, .int .u32 0, .int .u32 0, .int .i64 0] 42) = W7 at *
  generalize w6.heap.size = A at *
  clear p6 kFa
  as_aux_lemma =>
    have q7 := Lib.hid (K2.out _ _ _ _ p7 (T0.out.below p7.done))
    go_upto_region 7 with (first | (with_reducible refine load_st rfl _ rfl A (stA g1) rfl kA rfl ?_) | ((with_reducible refine q7.out.mono ?_); rintro e w8 ⟨rfl, p8, b8⟩))
    replace kA := kA.below b8 kA.lt
    clear q7 b8 p7
    have kA0 := kA.lt
    have kC := (Blk.new w8 29 (stA g1)).alloc (.cells #[.int .i64 1, .int .u32 1, .int .u32 4294967292, .int .i64 2] 42)
    have kFc := Blk.new (w8.alloc (.cells (stA g1) 29)) 42 #[.int .i64 1, .int .u32 1, .int .u32 4294967292, .int .i64 2]
    simp only [World.size_alloc] at kFc
    have ba := ((Below.refl w8.heap.size w8).alloc (Nat.le_refl _) (.cells (stA g1) 29)).alloc (by simp) (.cells #[.int .i64 1, .int .u32 1, .int .u32 4294967292, .int .i64 2] 42)
    have p9 := p8.below ba
    replace kA := kA.below ba kA.lt
    have nC := Lib.hid (show A < w8.heap.size by have := kA0; omega)
    clear ba
    generalize (w8.alloc (.cells (stA g1) 29)).alloc (.cells #[.int .i64 1, .int .u32 1, .int .u32 4294967292, .int .i64 2] 42) = W9 at *
    generalize w8.heap.size = C at *
    clear p8 kA0
    as_aux_lemma =>
      have cA4 := kA.cell (i := 4) rfl
      have fA4 := kA.fr 4
      have bs := (But.refl [A] W9.heap.size W9).setCell (p := ⟨A, 4, none⟩) (by simp) (.int .u32 100)
      have kA2 := kA.set 4 (.int .u32 100)
      have kC2 := kC.but bs kC.lt (by have := nC.out; simp; omega)
      have kF2 := kFc.but bs kFc.lt (by have := nC.out; simp; omega)
      have p10 := p9.store bs nA.out
      go_upto_region 8 with fail
      clear cA4 fA4 bs kA kC kFc p9
      rw [E2.out] at kA2
      generalize W9.setCell ⟨A, 4, none⟩ (.int .u32 100) = W10 at *
      have q10 := Lib.hid (K3.out _ _ _ _ p10 (T0.out.below p10.done))
      go_upto_region 9 with (first | (with_reducible refine load_st rfl _ rfl A (stA g2) rfl kA2 rfl ?_) | ((with_reducible refine q10.out.mono ?_); rintro e w11 ⟨rfl, p11, b11⟩))
      replace kA2 := kA2.but b11 kA2.lt (by have := nA.out; simp; omega)
      replace kC2 := kC2.but b11 kC2.lt (by have := nA.out; have := nC.out; simp; omega)
      replace kF2 := kF2.but b11 kF2.lt (by have := nA.out; have := nC.out; simp; omega)
      clear q10 b11 p10
      have kD := (Blk.new w11 29 (stA g3)).alloc (.cells #[.int .i64 0, .int .u32 0, .int .u32 0, .int .i64 0] 42)
      have kFd := Blk.new (w11.alloc (.cells (stA g3) 29)) 42 #[.int .i64 0, .int .u32 0, .int .u32 0, .int .i64 0]
      simp only [World.size_alloc] at kFd
      have ba := ((Below.refl w11.heap.size w11).alloc (Nat.le_refl _) (.cells (stA g3) 29)).alloc (by simp) (.cells #[.int .i64 0, .int .u32 0, .int .u32 0, .int .i64 0] 42)
      have p12 := p11.below ba
      replace kA2 := kA2.below ba kA2.lt
      replace kC2 := kC2.below ba kC2.lt
      replace kF2 := kF2.below ba kF2.lt
      have nD := Lib.hid (show w.heap.size < w11.heap.size from p11.h.lt)
      clear ba
      generalize (w11.alloc (.cells (stA g3) 29)).alloc (.cells #[.int .i64 0, .int .u32 0, .int .u32 0, .int .i64 0] 42) = W12 at *
      generalize w11.heap.size = D at *
      clear p11 kFd
      as_aux_lemma =>
        have q12 := Lib.hid (K4.out _ _ _ _ p12 (T0.out.below p12.done))
        go_upto_region 10 with (first | (with_reducible refine load_st rfl _ rfl D (stA g3) rfl kD rfl ?_) | ((with_reducible refine q12.out.mono ?_); rintro e w13 ⟨rfl, p13, b13⟩))
        replace kA2 := kA2.but b13 kA2.lt (by have := nA.out; simp; omega)
        replace kC2 := kC2.but b13 kC2.lt (by have := nA.out; have := nC.out; simp; omega)
        replace kF2 := kF2.but b13 kF2.lt (by have := nA.out; have := nC.out; simp; omega)
        replace kD := kD.but b13 kD.lt (by have := nD.out; simp; omega)
        clear q12 b13 p12
        have kE := (Blk.new w13 29 (stA g4)).alloc (.cells #[.int .i64 0, .int .u32 0, .int .u32 0, .int .i64 0] 42)
        have kFe := Blk.new (w13.alloc (.cells (stA g4) 29)) 42 #[.int .i64 0, .int .u32 0, .int .u32 0, .int .i64 0]
        simp only [World.size_alloc] at kFe
        have ba := ((Below.refl w13.heap.size w13).alloc (Nat.le_refl _) (.cells (stA g4) 29)).alloc (by simp) (.cells #[.int .i64 0, .int .u32 0, .int .u32 0, .int .i64 0] 42)
        have p14 := p13.below ba
        replace kA2 := kA2.below ba kA2.lt
        replace kC2 := kC2.below ba kC2.lt
        replace kF2 := kF2.below ba kF2.lt
        replace kD := kD.below ba kD.lt
        have nE := Lib.hid (show w.heap.size < w13.heap.size from p13.h.lt)
        clear ba
        generalize (w13.alloc (.cells (stA g4) 29)).alloc (.cells #[.int .i64 0, .int .u32 0, .int .u32 0, .int .i64 0] 42) = W14 at *
        generalize w13.heap.size = E at *
        as_aux_lemma =>
          have cA0 := kA2.cell (i := 0) (v := .int .u32 (g2.r 0)) rfl
          have cA8 := kA2.cell (i := 8) (v := .int .u32 g2.pc) rfl
          have cC8 := kC2.cell (i := 8) (v := .int .u32 g1.pc) rfl
          have cD4 := kD.cell (i := 4) (v := .int .u32 (g3.r 4)) rfl
          have cE8 := kE.cell (i := 8) (v := .int .u32 g4.pc) rfl
          rw [F0.out] at cA0
          rw [F1.out] at cA8
          rw [F2.out] at cC8
          rw [F3.out] at cD4
          rw [F4.out] at cE8
          have d0 := kF2.cell (i := 0) rfl
          have d1 := kF2.cell (i := 1) rfl
          have d2 := kF2.cell (i := 2) rfl
          have d3 := kF2.cell (i := 3) rfl
          go_wp2_with fail
          go_ret
          exact ⟨rfl, p14.done⟩
theorem known13 (w : World) (tabs : Tb w) : Calls Tryz.prog 15 #[] w fun e w' => e = .returned (.bool true) ∧ Below w.heap.size w w' :=
  known13_gen gz gK1 gK2 gK3 gK4 kM kQ2 (by kernel_rfl) (by kernel_rfl) (by kernel_rfl) (by kernel_rfl) (by kernel_rfl) (by kernel_rfl) (by kernel_rfl)
    (fun n0 w0 w B p tb => kp1 p tb) (fun n0 w0 w B p tb => kp2 p tb) (fun n0 w0 w B p tb => kp3 p tb) (fun n0 w0 w B p tb => kp4 p tb) (fun n0 w0 w B p x c hr => kp_poke p x c hr) w tabs
end Go.Proofs.YtcdoidnfdkodoaaGreatDoor
