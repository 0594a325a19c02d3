import Derived.Test.YtoeohfbicnolhaaDoorM1
import Derived.Deep.WholeRow
namespace Go.Proofs.YtoeohfbicnolhaaDoor
open Go.RowKit
set_option linter.unusedVariables false
set_option linter.unusedSimpArgs false
set_option linter.unusedSectionVars false

def zero25 : Array Value := ((List.range 5).flatMap fun _ => [Value.int .i64 0, .int .i64 0, .int .i64 0, .int .i64 0, .int .i32 0]).toArray
theorem info25 : (Tryd.prog.info? 41).map (fun i => (i.zero, i.size)) = some (some (.agg zero25), 25) := by kernel_rfl
theorem num_ok (k f : Nat) (h1 : 1 ≤ k) (h2 : k ≤ 47) (hf : formN k = f) (d s t i : Int) (hd : regL d (hasD f) = true) (hs : regL s (hasS f) = true) (ht : regL t (hasT f) = true)
    (hi : leastN f ≤ i) (hi2 : i ≤ greatestN f) (hi3 : i % (lowN f + 1) = 0) (op : Int) (ho : op = k) : isL op d s t i = true := by
  subst ho hf
  unfold isL okF
  rw [Int.toNat_natCast, decide_eq_true (show 1 ≤ (k : Int) by omega), decide_eq_true (show (k : Int) ≤ 47 by omega), hd, hs, ht, decide_eq_true hi, decide_eq_true hi2, decide_eq_true hi3]; rfl
theorem build_to {P : Program} {ops : Array Oper} {rest : List Oper} {o : Oper} {a : Act} {w : World} {Q : Exit → Act → World → Prop} (hg : o.guard = none) (t : TypeId) (parts : Array (Nat × Operand)) (ho : o.op = .build t parts)
    (cells : Array Value) (hb : P.built t (parts.map fun (i, x) => (i, a.eval x)).toList = some cells) (h : wpList P ops Q rest (a.put o.dst (.agg cells)) w) : wpList P ops Q (o :: rest) a w :=
  wpList_build hg t parts ho (by rw [hb]; rfl) (by rw [hb]; exact h)
theorem at_world {P : Program} {c : Code} {Q : Exit → Act → World → Prop} {a : Act} {W W' : World} (h : W = W') (hc : Code.wp P c Q a W') : Code.wp P c Q a W := h ▸ hc
set_option maxHeartbeats 4000000 in
theorem numbers_walk (v r : Int) (hv : -2147483648 ≤ v ∧ v ≤ 2147483647) (hr : 0 ≤ r ∧ r ≤ 255) (w : World) (tabs : Tabs w) :
    Calls Tryd.prog 9 #[.int .i32 v, .int .u8 r] w fun e w' => e = .returned (.bool true) ∧ Below w.heap.size w w' := by
  go_enter Tryd.func9, Tryd.ntmps9
  apply wp_seq_k; intro K0 hK0; have hK0' := hid hK0; clear hK0
  go_wp2_with fail
  refine hK0'.out _ _ ?_
  clear hK0' K0
  apply wp_seq_k; intro K0 hK0; have hK0' := hid hK0; clear hK0
  go_wp2_with fail
  refine (known_any _ tabs).mono ?_
  rintro e w1 ⟨rfl, b1⟩
  replace tabs := tabs.below b1
  go_wp2_with fail
  refine hK0'.out _ _ ?_
  clear hK0' K0
  apply wp_seq_k; intro K0 hK0; have hK0' := hid hK0; clear hK0
  go_wp2_with fail
  refine hK0'.out _ _ ?_
  clear hK0' K0
  apply wp_seq_k; intro K0 hK0; have hK0' := hid hK0; clear hK0
  apply wp_region_lit
  iterate 29 (refine wpList_plain rfl fun K hK => ?_; have hK' := hid hK; clear hK; go_wp2_with fail; refine hK'.out _ _ ?_; clear hK' K)
  refine build_to rfl 41 _ rfl #[.int .i64 (19), .int .i64 (r % 32), .int .i64 (r % 32), .int .i64 (0), .int .i32 (wrap32 (v * 1048576) / 1048576), .int .i64 (18), .int .i64 (0), .int .i64 (r % 32), .int .i64 (r % 32), .int .i32 (wrap32 (v * 1048576) / 1048576), .int .i64 (6), .int .i64 (0), .int .i64 (r % 32), .int .i64 (r % 32), .int .i32 (bits .andNot .i32 (wrap32 (v * 524288) / 524288) 1), .int .i64 (3), .int .i64 (r % 32), .int .i64 (0), .int .i64 (0), .int .i32 (bits .andNot .i32 (wrap32 (v * 2048) / 2048) 1), .int .i64 (1), .int .i64 (r % 32), .int .i64 (0), .int .i64 (0), .int .i32 (bits .andNot .i32 v 4095)] (by kernel_rfl) ?_
  refine wpList_plain rfl fun K hK => ?_
  unfold Oper.wp execOp
  simp [Instr.alloc, newVar, (zero_of_info info25).1, Result.andThen]
  refine hK _ _ ?_
  clear hK K
  refine wpList_store_row rfl 41 _ _ rfl w1.heap.size #[.int .i64 (19), .int .i64 (r % 32), .int .i64 (r % 32), .int .i64 (0), .int .i32 (wrap32 (v * 1048576) / 1048576), .int .i64 (18), .int .i64 (0), .int .i64 (r % 32), .int .i64 (r % 32), .int .i32 (wrap32 (v * 1048576) / 1048576), .int .i64 (6), .int .i64 (0), .int .i64 (r % 32), .int .i64 (r % 32), .int .i32 (bits .andNot .i32 (wrap32 (v * 524288) / 524288) 1), .int .i64 (3), .int .i64 (r % 32), .int .i64 (0), .int .i64 (0), .int .i32 (bits .andNot .i32 (wrap32 (v * 2048) / 2048) 1), .int .i64 (1), .int .i64 (r % 32), .int .i64 (0), .int .i64 (0), .int .i32 (bits .andNot .i32 v 4095)] (by kernel_rfl) (by kernel_rfl) 41 zero25 (alloc_new _ _) (by kernel_rfl) (by kernel_rfl) (by kernel_rfl) ?_
  apply wpList_nil
  refine hK0'.out _ _ ?_
  clear hK0' K0
  refine at_world (World.setRow_alloc_new w1 zero25 _ 41) ?_
  have g1 := bd32 (v * 1048576)
  have g3 := bd32 (v * 524288)
  have g4 := bd32 (v * 2048)
  have f3 := i32_clear (wrap32 (v * 524288) / 524288) 1 (by decide) 1 (by decide) (by omega)
  have f4 := i32_clear (wrap32 (v * 2048) / 2048) 1 (by decide) 1 (by decide) (by omega)
  have f5 := i32_clear v 12 (by decide) 4095 (by decide) hv
  have e1 : -2048 ≤ wrap32 (v * 1048576) / 1048576 ∧ wrap32 (v * 1048576) / 1048576 ≤ 2047 := by omega
  have e3 : -4096 ≤ bits .andNot .i32 (wrap32 (v * 524288) / 524288) 1 ∧ bits .andNot .i32 (wrap32 (v * 524288) / 524288) 1 ≤ 4094 ∧ bits .andNot .i32 (wrap32 (v * 524288) / 524288) 1 % 2 = 0 := by rw [f3]; simp only [Int.pow_one, show (2 : Int) ^ 1 = 2 by decide]; omega
  have e4 : -1048576 ≤ bits .andNot .i32 (wrap32 (v * 2048) / 2048) 1 ∧ bits .andNot .i32 (wrap32 (v * 2048) / 2048) 1 ≤ 1048574 ∧ bits .andNot .i32 (wrap32 (v * 2048) / 2048) 1 % 2 = 0 := by rw [f4]; simp only [show (2 : Int) ^ 1 = 2 by decide]; omega
  have e5 : -2147483648 ≤ bits .andNot .i32 v 4095 ∧ bits .andNot .i32 v 4095 ≤ 2147479552 ∧ bits .andNot .i32 v 4095 % 4096 = 0 := by rw [f5]; simp only [show (2 : Int) ^ 12 = 4096 by decide]; omega
  have rr : regL (r % 32) true = true := (regL_iff _ true).2 ⟨by omega, by omega, fun e => by cases e⟩
  clear g1 g3 g4 f3 f4 f5
  generalize wrap32 (v * 1048576) / 1048576 = x1 at *
  generalize bits .andNot .i32 (wrap32 (v * 524288) / 524288) 1 = x3 at *
  generalize bits .andNot .i32 (wrap32 (v * 2048) / 2048) 1 = x4 at *
  generalize bits .andNot .i32 v 4095 = x5 at *
  have h0 : isL 19 (r % 32) (r % 32) (0) x1 = true := num_ok 19 3 (by decide) (by decide) (by decide) _ _ _ _ rr rr (by decide) (by simp [leastN]; omega) (by simp [greatestN]; omega) (by simp [lowN]; try omega) _ rfl
  have h1 : isL 18 (0) (r % 32) (r % 32) x1 = true := num_ok 18 5 (by decide) (by decide) (by decide) _ _ _ _ (by decide) rr rr (by simp [leastN]; omega) (by simp [greatestN]; omega) (by simp [lowN]; try omega) _ rfl
  have h2 : isL 6 (0) (r % 32) (r % 32) x3 = true := num_ok 6 6 (by decide) (by decide) (by decide) _ _ _ _ (by decide) rr rr (by simp [leastN]; omega) (by simp [greatestN]; omega) (by simp [lowN]; try omega) _ rfl
  have h3 : isL 3 (r % 32) (0) (0) x4 = true := num_ok 3 2 (by decide) (by decide) (by decide) _ _ _ _ rr (by decide) (by decide) (by simp [leastN]; omega) (by simp [greatestN]; omega) (by simp [lowN]; try omega) _ rfl
  have h4 : isL 1 (r % 32) (0) (0) x5 = true := num_ok 1 1 (by decide) (by decide) (by decide) _ _ _ _ rr (by decide) (by decide) (by simp [leastN]; omega) (by simp [greatestN]; omega) (by simp [lowN]; try omega) _ rfl
  clear e1 e3 e4 e5 rr
  replace tabs := tabs.below ((Below.refl w1.heap.size w1).alloc (Nat.le_refl _) (.cells #[.int .i64 (19), .int .i64 (r % 32), .int .i64 (r % 32), .int .i64 (0), .int .i32 (x1), .int .i64 (18), .int .i64 (0), .int .i64 (r % 32), .int .i64 (r % 32), .int .i32 (x1), .int .i64 (6), .int .i64 (0), .int .i64 (r % 32), .int .i64 (r % 32), .int .i32 (x3), .int .i64 (3), .int .i64 (r % 32), .int .i64 (0), .int .i64 (0), .int .i32 (x4), .int .i64 (1), .int .i64 (r % 32), .int .i64 (0), .int .i64 (0), .int .i32 (x5)] 41))
  replace b1 := b1.alloc b1.size (.cells #[.int .i64 (19), .int .i64 (r % 32), .int .i64 (r % 32), .int .i64 (0), .int .i32 (x1), .int .i64 (18), .int .i64 (0), .int .i64 (r % 32), .int .i64 (r % 32), .int .i32 (x1), .int .i64 (6), .int .i64 (0), .int .i64 (r % 32), .int .i64 (r % 32), .int .i32 (x3), .int .i64 (3), .int .i64 (r % 32), .int .i64 (0), .int .i64 (0), .int .i32 (x4), .int .i64 (1), .int .i64 (r % 32), .int .i64 (0), .int .i64 (0), .int .i32 (x5)] 41)
  have bk := Below.refl (w1.alloc (.cells #[.int .i64 (19), .int .i64 (r % 32), .int .i64 (r % 32), .int .i64 (0), .int .i32 (x1), .int .i64 (18), .int .i64 (0), .int .i64 (r % 32), .int .i64 (r % 32), .int .i32 (x1), .int .i64 (6), .int .i64 (0), .int .i64 (r % 32), .int .i64 (r % 32), .int .i32 (x3), .int .i64 (3), .int .i64 (r % 32), .int .i64 (0), .int .i64 (0), .int .i32 (x4), .int .i64 (1), .int .i64 (r % 32), .int .i64 (0), .int .i64 (0), .int .i32 (x5)] 41)).heap.size (w1.alloc (.cells #[.int .i64 (19), .int .i64 (r % 32), .int .i64 (r % 32), .int .i64 (0), .int .i32 (x1), .int .i64 (18), .int .i64 (0), .int .i64 (r % 32), .int .i64 (r % 32), .int .i32 (x1), .int .i64 (6), .int .i64 (0), .int .i64 (r % 32), .int .i64 (r % 32), .int .i32 (x3), .int .i64 (3), .int .i64 (r % 32), .int .i64 (0), .int .i64 (0), .int .i32 (x4), .int .i64 (1), .int .i64 (r % 32), .int .i64 (0), .int .i64 (0), .int .i32 (x5)] 41))
  go_wp2_with fail
  refine wp_loop_rounds 6 ?_
  rw [rounds_succ]
  go_wp2_with fail
  refine (enc_true h0 _ tabs).mono ?_
  rintro e Wa0 ⟨rfl, bZ⟩
  replace b1 := b1.trans (bZ.mono b1.size)
  replace bk := bk.trans (bZ.mono bk.size)
  replace tabs := tabs.below bZ
  clear bZ
  go_wp2_with fail
  refine (dec_true h0 _ tabs).mono ?_
  rintro e Wb0 ⟨rfl, bZ⟩
  replace b1 := b1.trans (bZ.mono b1.size)
  replace bk := bk.trans (bZ.mono bk.size)
  replace tabs := tabs.below bZ
  clear bZ
  have c0 : Wb0.cell? ⟨w1.heap.size, 0, none⟩ = some (.int .i64 (19)) := own_cell bk 0 _ rfl
  have d0 : ∀ o, (Wb0.alloc o).cell? ⟨w1.heap.size, 0, none⟩ = some (.int .i64 (19)) := own_cell2 bk 0 _ rfl
  have c1 : Wb0.cell? ⟨w1.heap.size, 1, none⟩ = some (.int .i64 (r % 32)) := own_cell bk 1 _ rfl
  have d1 : ∀ o, (Wb0.alloc o).cell? ⟨w1.heap.size, 1, none⟩ = some (.int .i64 (r % 32)) := own_cell2 bk 1 _ rfl
  have c2 : Wb0.cell? ⟨w1.heap.size, 2, none⟩ = some (.int .i64 (r % 32)) := own_cell bk 2 _ rfl
  have d2 : ∀ o, (Wb0.alloc o).cell? ⟨w1.heap.size, 2, none⟩ = some (.int .i64 (r % 32)) := own_cell2 bk 2 _ rfl
  have c3 : Wb0.cell? ⟨w1.heap.size, 3, none⟩ = some (.int .i64 (0)) := own_cell bk 3 _ rfl
  have d3 : ∀ o, (Wb0.alloc o).cell? ⟨w1.heap.size, 3, none⟩ = some (.int .i64 (0)) := own_cell2 bk 3 _ rfl
  have c4 : Wb0.cell? ⟨w1.heap.size, 4, none⟩ = some (.int .i32 (x1)) := own_cell bk 4 _ rfl
  have d4 : ∀ o, (Wb0.alloc o).cell? ⟨w1.heap.size, 4, none⟩ = some (.int .i32 (x1)) := own_cell2 bk 4 _ rfl
  have c5 : Wb0.cell? ⟨w1.heap.size, 5, none⟩ = some (.int .i64 (18)) := own_cell bk 5 _ rfl
  have d5 : ∀ o, (Wb0.alloc o).cell? ⟨w1.heap.size, 5, none⟩ = some (.int .i64 (18)) := own_cell2 bk 5 _ rfl
  have c6 : Wb0.cell? ⟨w1.heap.size, 6, none⟩ = some (.int .i64 (0)) := own_cell bk 6 _ rfl
  have d6 : ∀ o, (Wb0.alloc o).cell? ⟨w1.heap.size, 6, none⟩ = some (.int .i64 (0)) := own_cell2 bk 6 _ rfl
  have c7 : Wb0.cell? ⟨w1.heap.size, 7, none⟩ = some (.int .i64 (r % 32)) := own_cell bk 7 _ rfl
  have d7 : ∀ o, (Wb0.alloc o).cell? ⟨w1.heap.size, 7, none⟩ = some (.int .i64 (r % 32)) := own_cell2 bk 7 _ rfl
  have c8 : Wb0.cell? ⟨w1.heap.size, 8, none⟩ = some (.int .i64 (r % 32)) := own_cell bk 8 _ rfl
  have d8 : ∀ o, (Wb0.alloc o).cell? ⟨w1.heap.size, 8, none⟩ = some (.int .i64 (r % 32)) := own_cell2 bk 8 _ rfl
  have c9 : Wb0.cell? ⟨w1.heap.size, 9, none⟩ = some (.int .i32 (x1)) := own_cell bk 9 _ rfl
  have d9 : ∀ o, (Wb0.alloc o).cell? ⟨w1.heap.size, 9, none⟩ = some (.int .i32 (x1)) := own_cell2 bk 9 _ rfl
  go_wp2_with fail
  go_region
  replace b1 := (b1.alloc b1.size (.cells #[.int .i64 19, .int .i64 (r % 32), .int .i64 (r % 32), .int .i64 (0), .int .i32 x1] 23)).drew
  replace bk := (bk.alloc bk.size (.cells #[.int .i64 19, .int .i64 (r % 32), .int .i64 (r % 32), .int .i64 (0), .int .i32 x1] 23)).drew
  replace tabs := tabs.below (((Below.refl Wb0.heap.size Wb0).alloc (Nat.le_refl _) (.cells #[.int .i64 19, .int .i64 (r % 32), .int .i64 (r % 32), .int .i64 (0), .int .i32 x1] 23)).drew)
  go_wp2_with fail
  rw [rounds_succ]
  go_wp2_with fail
  refine (enc_true h1 _ tabs).mono ?_
  rintro e Wa1 ⟨rfl, bZ⟩
  replace b1 := b1.trans (bZ.mono b1.size)
  replace bk := bk.trans (bZ.mono bk.size)
  replace tabs := tabs.below bZ
  clear bZ
  clear c0 d0 c1 d1 c2 d2 c3 d3 c4 d4 c5 d5 c6 d6 c7 d7 c8 d8 c9 d9
  go_wp2_with fail
  refine (dec_true h1 _ tabs).mono ?_
  rintro e Wb1 ⟨rfl, bZ⟩
  replace b1 := b1.trans (bZ.mono b1.size)
  replace bk := bk.trans (bZ.mono bk.size)
  replace tabs := tabs.below bZ
  clear bZ
  have c5 : Wb1.cell? ⟨w1.heap.size, 5, none⟩ = some (.int .i64 (18)) := own_cell bk 5 _ rfl
  have d5 : ∀ o, (Wb1.alloc o).cell? ⟨w1.heap.size, 5, none⟩ = some (.int .i64 (18)) := own_cell2 bk 5 _ rfl
  have c6 : Wb1.cell? ⟨w1.heap.size, 6, none⟩ = some (.int .i64 (0)) := own_cell bk 6 _ rfl
  have d6 : ∀ o, (Wb1.alloc o).cell? ⟨w1.heap.size, 6, none⟩ = some (.int .i64 (0)) := own_cell2 bk 6 _ rfl
  have c7 : Wb1.cell? ⟨w1.heap.size, 7, none⟩ = some (.int .i64 (r % 32)) := own_cell bk 7 _ rfl
  have d7 : ∀ o, (Wb1.alloc o).cell? ⟨w1.heap.size, 7, none⟩ = some (.int .i64 (r % 32)) := own_cell2 bk 7 _ rfl
  have c8 : Wb1.cell? ⟨w1.heap.size, 8, none⟩ = some (.int .i64 (r % 32)) := own_cell bk 8 _ rfl
  have d8 : ∀ o, (Wb1.alloc o).cell? ⟨w1.heap.size, 8, none⟩ = some (.int .i64 (r % 32)) := own_cell2 bk 8 _ rfl
  have c9 : Wb1.cell? ⟨w1.heap.size, 9, none⟩ = some (.int .i32 (x1)) := own_cell bk 9 _ rfl
  have d9 : ∀ o, (Wb1.alloc o).cell? ⟨w1.heap.size, 9, none⟩ = some (.int .i32 (x1)) := own_cell2 bk 9 _ rfl
  have c10 : Wb1.cell? ⟨w1.heap.size, 10, none⟩ = some (.int .i64 (6)) := own_cell bk 10 _ rfl
  have d10 : ∀ o, (Wb1.alloc o).cell? ⟨w1.heap.size, 10, none⟩ = some (.int .i64 (6)) := own_cell2 bk 10 _ rfl
  have c11 : Wb1.cell? ⟨w1.heap.size, 11, none⟩ = some (.int .i64 (0)) := own_cell bk 11 _ rfl
  have d11 : ∀ o, (Wb1.alloc o).cell? ⟨w1.heap.size, 11, none⟩ = some (.int .i64 (0)) := own_cell2 bk 11 _ rfl
  have c12 : Wb1.cell? ⟨w1.heap.size, 12, none⟩ = some (.int .i64 (r % 32)) := own_cell bk 12 _ rfl
  have d12 : ∀ o, (Wb1.alloc o).cell? ⟨w1.heap.size, 12, none⟩ = some (.int .i64 (r % 32)) := own_cell2 bk 12 _ rfl
  have c13 : Wb1.cell? ⟨w1.heap.size, 13, none⟩ = some (.int .i64 (r % 32)) := own_cell bk 13 _ rfl
  have d13 : ∀ o, (Wb1.alloc o).cell? ⟨w1.heap.size, 13, none⟩ = some (.int .i64 (r % 32)) := own_cell2 bk 13 _ rfl
  have c14 : Wb1.cell? ⟨w1.heap.size, 14, none⟩ = some (.int .i32 (x3)) := own_cell bk 14 _ rfl
  have d14 : ∀ o, (Wb1.alloc o).cell? ⟨w1.heap.size, 14, none⟩ = some (.int .i32 (x3)) := own_cell2 bk 14 _ rfl
  go_wp2_with fail
  go_region
  replace b1 := (b1.alloc b1.size (.cells #[.int .i64 18, .int .i64 (0), .int .i64 (r % 32), .int .i64 (r % 32), .int .i32 x1] 23)).drew
  replace bk := (bk.alloc bk.size (.cells #[.int .i64 18, .int .i64 (0), .int .i64 (r % 32), .int .i64 (r % 32), .int .i32 x1] 23)).drew
  replace tabs := tabs.below (((Below.refl Wb1.heap.size Wb1).alloc (Nat.le_refl _) (.cells #[.int .i64 18, .int .i64 (0), .int .i64 (r % 32), .int .i64 (r % 32), .int .i32 x1] 23)).drew)
  go_wp2_with fail
  rw [rounds_succ]
  go_wp2_with fail
  refine (enc_true h2 _ tabs).mono ?_
  rintro e Wa2 ⟨rfl, bZ⟩
  replace b1 := b1.trans (bZ.mono b1.size)
  replace bk := bk.trans (bZ.mono bk.size)
  replace tabs := tabs.below bZ
  clear bZ
  clear c5 d5 c6 d6 c7 d7 c8 d8 c9 d9 c10 d10 c11 d11 c12 d12 c13 d13 c14 d14
  go_wp2_with fail
  refine (dec_true h2 _ tabs).mono ?_
  rintro e Wb2 ⟨rfl, bZ⟩
  replace b1 := b1.trans (bZ.mono b1.size)
  replace bk := bk.trans (bZ.mono bk.size)
  replace tabs := tabs.below bZ
  clear bZ
  have c10 : Wb2.cell? ⟨w1.heap.size, 10, none⟩ = some (.int .i64 (6)) := own_cell bk 10 _ rfl
  have d10 : ∀ o, (Wb2.alloc o).cell? ⟨w1.heap.size, 10, none⟩ = some (.int .i64 (6)) := own_cell2 bk 10 _ rfl
  have c11 : Wb2.cell? ⟨w1.heap.size, 11, none⟩ = some (.int .i64 (0)) := own_cell bk 11 _ rfl
  have d11 : ∀ o, (Wb2.alloc o).cell? ⟨w1.heap.size, 11, none⟩ = some (.int .i64 (0)) := own_cell2 bk 11 _ rfl
  have c12 : Wb2.cell? ⟨w1.heap.size, 12, none⟩ = some (.int .i64 (r % 32)) := own_cell bk 12 _ rfl
  have d12 : ∀ o, (Wb2.alloc o).cell? ⟨w1.heap.size, 12, none⟩ = some (.int .i64 (r % 32)) := own_cell2 bk 12 _ rfl
  have c13 : Wb2.cell? ⟨w1.heap.size, 13, none⟩ = some (.int .i64 (r % 32)) := own_cell bk 13 _ rfl
  have d13 : ∀ o, (Wb2.alloc o).cell? ⟨w1.heap.size, 13, none⟩ = some (.int .i64 (r % 32)) := own_cell2 bk 13 _ rfl
  have c14 : Wb2.cell? ⟨w1.heap.size, 14, none⟩ = some (.int .i32 (x3)) := own_cell bk 14 _ rfl
  have d14 : ∀ o, (Wb2.alloc o).cell? ⟨w1.heap.size, 14, none⟩ = some (.int .i32 (x3)) := own_cell2 bk 14 _ rfl
  have c15 : Wb2.cell? ⟨w1.heap.size, 15, none⟩ = some (.int .i64 (3)) := own_cell bk 15 _ rfl
  have d15 : ∀ o, (Wb2.alloc o).cell? ⟨w1.heap.size, 15, none⟩ = some (.int .i64 (3)) := own_cell2 bk 15 _ rfl
  have c16 : Wb2.cell? ⟨w1.heap.size, 16, none⟩ = some (.int .i64 (r % 32)) := own_cell bk 16 _ rfl
  have d16 : ∀ o, (Wb2.alloc o).cell? ⟨w1.heap.size, 16, none⟩ = some (.int .i64 (r % 32)) := own_cell2 bk 16 _ rfl
  have c17 : Wb2.cell? ⟨w1.heap.size, 17, none⟩ = some (.int .i64 (0)) := own_cell bk 17 _ rfl
  have d17 : ∀ o, (Wb2.alloc o).cell? ⟨w1.heap.size, 17, none⟩ = some (.int .i64 (0)) := own_cell2 bk 17 _ rfl
  have c18 : Wb2.cell? ⟨w1.heap.size, 18, none⟩ = some (.int .i64 (0)) := own_cell bk 18 _ rfl
  have d18 : ∀ o, (Wb2.alloc o).cell? ⟨w1.heap.size, 18, none⟩ = some (.int .i64 (0)) := own_cell2 bk 18 _ rfl
  have c19 : Wb2.cell? ⟨w1.heap.size, 19, none⟩ = some (.int .i32 (x4)) := own_cell bk 19 _ rfl
  have d19 : ∀ o, (Wb2.alloc o).cell? ⟨w1.heap.size, 19, none⟩ = some (.int .i32 (x4)) := own_cell2 bk 19 _ rfl
  go_wp2_with fail
  go_region
  replace b1 := (b1.alloc b1.size (.cells #[.int .i64 6, .int .i64 (0), .int .i64 (r % 32), .int .i64 (r % 32), .int .i32 x3] 23)).drew
  replace bk := (bk.alloc bk.size (.cells #[.int .i64 6, .int .i64 (0), .int .i64 (r % 32), .int .i64 (r % 32), .int .i32 x3] 23)).drew
  replace tabs := tabs.below (((Below.refl Wb2.heap.size Wb2).alloc (Nat.le_refl _) (.cells #[.int .i64 6, .int .i64 (0), .int .i64 (r % 32), .int .i64 (r % 32), .int .i32 x3] 23)).drew)
  go_wp2_with fail
  rw [rounds_succ]
  go_wp2_with fail
  refine (enc_true h3 _ tabs).mono ?_
  rintro e Wa3 ⟨rfl, bZ⟩
  replace b1 := b1.trans (bZ.mono b1.size)
  replace bk := bk.trans (bZ.mono bk.size)
  replace tabs := tabs.below bZ
  clear bZ
  clear c10 d10 c11 d11 c12 d12 c13 d13 c14 d14 c15 d15 c16 d16 c17 d17 c18 d18 c19 d19
  go_wp2_with fail
  refine (dec_true h3 _ tabs).mono ?_
  rintro e Wb3 ⟨rfl, bZ⟩
  replace b1 := b1.trans (bZ.mono b1.size)
  replace bk := bk.trans (bZ.mono bk.size)
  replace tabs := tabs.below bZ
  clear bZ
  have c15 : Wb3.cell? ⟨w1.heap.size, 15, none⟩ = some (.int .i64 (3)) := own_cell bk 15 _ rfl
  have d15 : ∀ o, (Wb3.alloc o).cell? ⟨w1.heap.size, 15, none⟩ = some (.int .i64 (3)) := own_cell2 bk 15 _ rfl
  have c16 : Wb3.cell? ⟨w1.heap.size, 16, none⟩ = some (.int .i64 (r % 32)) := own_cell bk 16 _ rfl
  have d16 : ∀ o, (Wb3.alloc o).cell? ⟨w1.heap.size, 16, none⟩ = some (.int .i64 (r % 32)) := own_cell2 bk 16 _ rfl
  have c17 : Wb3.cell? ⟨w1.heap.size, 17, none⟩ = some (.int .i64 (0)) := own_cell bk 17 _ rfl
  have d17 : ∀ o, (Wb3.alloc o).cell? ⟨w1.heap.size, 17, none⟩ = some (.int .i64 (0)) := own_cell2 bk 17 _ rfl
  have c18 : Wb3.cell? ⟨w1.heap.size, 18, none⟩ = some (.int .i64 (0)) := own_cell bk 18 _ rfl
  have d18 : ∀ o, (Wb3.alloc o).cell? ⟨w1.heap.size, 18, none⟩ = some (.int .i64 (0)) := own_cell2 bk 18 _ rfl
  have c19 : Wb3.cell? ⟨w1.heap.size, 19, none⟩ = some (.int .i32 (x4)) := own_cell bk 19 _ rfl
  have d19 : ∀ o, (Wb3.alloc o).cell? ⟨w1.heap.size, 19, none⟩ = some (.int .i32 (x4)) := own_cell2 bk 19 _ rfl
  have c20 : Wb3.cell? ⟨w1.heap.size, 20, none⟩ = some (.int .i64 (1)) := own_cell bk 20 _ rfl
  have d20 : ∀ o, (Wb3.alloc o).cell? ⟨w1.heap.size, 20, none⟩ = some (.int .i64 (1)) := own_cell2 bk 20 _ rfl
  have c21 : Wb3.cell? ⟨w1.heap.size, 21, none⟩ = some (.int .i64 (r % 32)) := own_cell bk 21 _ rfl
  have d21 : ∀ o, (Wb3.alloc o).cell? ⟨w1.heap.size, 21, none⟩ = some (.int .i64 (r % 32)) := own_cell2 bk 21 _ rfl
  have c22 : Wb3.cell? ⟨w1.heap.size, 22, none⟩ = some (.int .i64 (0)) := own_cell bk 22 _ rfl
  have d22 : ∀ o, (Wb3.alloc o).cell? ⟨w1.heap.size, 22, none⟩ = some (.int .i64 (0)) := own_cell2 bk 22 _ rfl
  have c23 : Wb3.cell? ⟨w1.heap.size, 23, none⟩ = some (.int .i64 (0)) := own_cell bk 23 _ rfl
  have d23 : ∀ o, (Wb3.alloc o).cell? ⟨w1.heap.size, 23, none⟩ = some (.int .i64 (0)) := own_cell2 bk 23 _ rfl
  have c24 : Wb3.cell? ⟨w1.heap.size, 24, none⟩ = some (.int .i32 (x5)) := own_cell bk 24 _ rfl
  have d24 : ∀ o, (Wb3.alloc o).cell? ⟨w1.heap.size, 24, none⟩ = some (.int .i32 (x5)) := own_cell2 bk 24 _ rfl
  go_wp2_with fail
  go_region
  replace b1 := (b1.alloc b1.size (.cells #[.int .i64 3, .int .i64 (r % 32), .int .i64 (0), .int .i64 (0), .int .i32 x4] 23)).drew
  replace bk := (bk.alloc bk.size (.cells #[.int .i64 3, .int .i64 (r % 32), .int .i64 (0), .int .i64 (0), .int .i32 x4] 23)).drew
  replace tabs := tabs.below (((Below.refl Wb3.heap.size Wb3).alloc (Nat.le_refl _) (.cells #[.int .i64 3, .int .i64 (r % 32), .int .i64 (0), .int .i64 (0), .int .i32 x4] 23)).drew)
  go_wp2_with fail
  rw [rounds_succ]
  go_wp2_with fail
  refine (enc_true h4 _ tabs).mono ?_
  rintro e Wa4 ⟨rfl, bZ⟩
  replace b1 := b1.trans (bZ.mono b1.size)
  replace bk := bk.trans (bZ.mono bk.size)
  replace tabs := tabs.below bZ
  clear bZ
  clear c15 d15 c16 d16 c17 d17 c18 d18 c19 d19 c20 d20 c21 d21 c22 d22 c23 d23 c24 d24
  go_wp2_with fail
  refine (dec_true h4 _ tabs).mono ?_
  rintro e Wb4 ⟨rfl, bZ⟩
  replace b1 := b1.trans (bZ.mono b1.size)
  replace bk := bk.trans (bZ.mono bk.size)
  replace tabs := tabs.below bZ
  clear bZ
  have c20 : Wb4.cell? ⟨w1.heap.size, 20, none⟩ = some (.int .i64 (1)) := own_cell bk 20 _ rfl
  have d20 : ∀ o, (Wb4.alloc o).cell? ⟨w1.heap.size, 20, none⟩ = some (.int .i64 (1)) := own_cell2 bk 20 _ rfl
  have c21 : Wb4.cell? ⟨w1.heap.size, 21, none⟩ = some (.int .i64 (r % 32)) := own_cell bk 21 _ rfl
  have d21 : ∀ o, (Wb4.alloc o).cell? ⟨w1.heap.size, 21, none⟩ = some (.int .i64 (r % 32)) := own_cell2 bk 21 _ rfl
  have c22 : Wb4.cell? ⟨w1.heap.size, 22, none⟩ = some (.int .i64 (0)) := own_cell bk 22 _ rfl
  have d22 : ∀ o, (Wb4.alloc o).cell? ⟨w1.heap.size, 22, none⟩ = some (.int .i64 (0)) := own_cell2 bk 22 _ rfl
  have c23 : Wb4.cell? ⟨w1.heap.size, 23, none⟩ = some (.int .i64 (0)) := own_cell bk 23 _ rfl
  have d23 : ∀ o, (Wb4.alloc o).cell? ⟨w1.heap.size, 23, none⟩ = some (.int .i64 (0)) := own_cell2 bk 23 _ rfl
  have c24 : Wb4.cell? ⟨w1.heap.size, 24, none⟩ = some (.int .i32 (x5)) := own_cell bk 24 _ rfl
  have d24 : ∀ o, (Wb4.alloc o).cell? ⟨w1.heap.size, 24, none⟩ = some (.int .i32 (x5)) := own_cell2 bk 24 _ rfl
  go_wp2_with fail
  go_region
  replace b1 := (b1.alloc b1.size (.cells #[.int .i64 1, .int .i64 (r % 32), .int .i64 (0), .int .i64 (0), .int .i32 x5] 23)).drew
  replace bk := (bk.alloc bk.size (.cells #[.int .i64 1, .int .i64 (r % 32), .int .i64 (0), .int .i64 (0), .int .i32 x5] 23)).drew
  replace tabs := tabs.below (((Below.refl Wb4.heap.size Wb4).alloc (Nat.le_refl _) (.cells #[.int .i64 1, .int .i64 (r % 32), .int .i64 (0), .int .i64 (0), .int .i32 x5] 23)).drew)
  go_wp2_with fail
  rw [rounds_succ]
  go_wp2_with fail
  go_ret
  exact ⟨rfl, b1⟩
end Go.Proofs.YtoeohfbicnolhaaDoor
