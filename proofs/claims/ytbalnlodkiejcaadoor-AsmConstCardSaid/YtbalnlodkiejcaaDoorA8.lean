/- AsmConst, two words. -/
import Derived.Test.YtbalnlodkiejcaaDoorA6
namespace Go.Proofs.YtbalnlodkiejcaaDoor
open Go.RowKit
set_option linter.unusedVariables false
set_option linter.unusedSimpArgs false
set_option linter.unusedSectionVars false

set_option maxHeartbeats 4000000 in
set_option maxRecDepth 20000 in
theorem const_walk2 (r : Nat) (v x y : Int) (cs : Array Value) (X : Nat → Int) (hv : 0 ≤ v ∧ v ≤ 4294967295) (hrd : 1 ≤ r ∧ r ≤ 31)
    (hX : cs.size = 31 ∧ ∀ i, i < 31 → cs[i]? = some (.int .u32 (X i)) ∧ 0 ≤ X i ∧ X i ≤ 4294967295)
    (hc : ∀ w, Tabs w → Calls Tryd.prog 8 #[.int .i64 (r : Int), .int .u32 v] w fun e w' => ∃ B, e = .returned (.slice (some ⟨B, 0, none⟩) 2 2) ∧ w.heap.size ≤ B ∧ B < w'.heap.size ∧ w'.cell? ⟨B, 0, none⟩ = some (.int .u32 x) ∧ w'.cell? ⟨B, 1, none⟩ = some (.int .u32 y) ∧ Below w.heap.size w w')
    (hs : (wrap32 v < -2048 ∧ (bits .and .u32 v 4095 == 0) = false) ∨ (-2048 ≤ wrap32 v ∧ 2048 ≤ wrap32 v ∧ (bits .and .u32 v 4095 == 0) = false)) (hx : 0 ≤ x ∧ x ≤ 4294967295) (hy : 0 ≤ y ∧ y ≤ 4294967295)
    (S1 S2 : St) (hst1 : stepL (storeS (storeS (regS X 31) 1024 4 x) 1028 4 y) = (0, S1)) (hst2 : stepL S1 = (0, S2)) (hxs : S2.x = setX (storeS (storeS (regS X 31) 1024 4 x) 1028 4 y).x r v) (hpc : S2.pc = 1032)
    (w : World) (tabs : Tabs w) :
    Calls Tryd.prog 3 #[.int .i64 (r : Int), .int .u32 v, .agg cs] w fun e w' => e = .returned (.bool true) ∧ Below w.heap.size w w' := by
  have ka : Below w.heap.size w (w.alloc (.cells cs 23)) := (Below.refl _ _).alloc (Nat.le_refl _) _
  have ta := tabs.below ka
  have qr : ∀ j, j < 31 → (w.alloc (.cells cs 23)).cell? ⟨w.heap.size, j, none⟩ = some (.int .u32 (X j)) := fun j hj => by
    have := alloc_new w (.cells cs 23)
    simp only [World.cell?, this]
    simpa using (hX.2 j hj).1
  go_enter Tryd.func3, Tryd.ntmps3
  go_wp2_with fail
  refine (kn_any _ ta).mono ?_
  rintro e w0 ⟨rfl, b0⟩
  have zl : w.heap.size < w0.heap.size := by have := b0.size; simp at this; omega
  replace qr := fun j hj => (b0.cell (p := ⟨w.heap.size, j, none⟩) (show w.heap.size < (w.alloc _).heap.size by simp)).trans (qr j hj)
  have t0 := ta.below b0
  replace ka := ka.trans (b0.mono (by simp))
  clear b0 ta
  go_wp2_with fail
  refine (hc _ t0).mono ?_
  rintro e w1 ⟨B, rfl, z1, z2, cB0, cB1, b1⟩
  replace qr := fun j hj => (b1.cell (p := ⟨w.heap.size, j, none⟩) zl).trans (qr j hj)
  have t1 := t0.below b1
  replace ka := ka.trans (b1.mono ka.size)
  replace zl : w.heap.size < w1.heap.size := by have := b1.size; omega
  clear b1 t0
  go_wp2_with fail
  refine (rNew_any _ t1).mono ?_
  rintro e w2 ⟨rfl, h0, b2⟩
  replace qr := fun j hj => (b2.cell (p := ⟨w.heap.size, j, none⟩) zl).trans (qr j hj)
  replace cB0 := (b2.cell (p := ⟨B, 0, none⟩) z2).trans cB0
  replace cB1 := (b2.cell (p := ⟨B, 1, none⟩) z2).trans cB1
  have t2 := t1.below b2
  replace ka := ka.trans (b2.mono ka.size)
  clear b2 t1
  generalize hR : w1.heap.size + 1 = R at *
  generalize hM : w1.heap.size = M at *
  have zR : w.heap.size < R := by omega
  have zB : B < M := z2
  clear hM z2
  have z2 : w.heap.size < w2.heap.size := by have := h0.lt; omega
  go_wp2_with fail
  go_loopw [9] (fun ii W => ∃ k : Nat, k ≤ 31 ∧ ii = .int .i64 ((k : Int) + 1) ∧ RAt W R M (regS X k) ∧ But [R] w2.heap.size w2 W) (fun ii _ => (32 - intOf ii).toNat)
  case atStart => exact ⟨0, by omega, rfl, by unfold regS; rw [regsK_0]; exact h0, But.refl _ _ _⟩
  case round =>
    obtain ⟨k, hk, rfl, hr, kb⟩ := hrel
    rcases Nat.lt_or_ge k 31 with hlt | hge
    · have hxk := hr.x (k + 1) (by omega)
      have hfk := hr.fr (k + 1)
      have hset := hr.set_x (k + 1) (by omega) (by omega) (hX.2 k hlt).2
      rw [show ({ regS X k with x := setX (regS X k).x ((k + 1 : Nat) : Int) (X k) } : St) = regS X (k + 1) by unfold regS; simp only []; rw [← regsK_succ X k hlt]; simp] at hset
      have hq : wr.cell? ⟨w.heap.size, k, none⟩ = some (.int .u32 (X k)) := by
        simp only [World.cell?, kb.block w.heap.size z2 (by simp; omega)]
        exact qr k hlt
      have h1 := ix_regs w.heap.size k hlt
      have h2 := ix_host R k hlt
      have kb2 := kb.setCell (p := ⟨R, k + 1, none⟩) (by simp) (.int .u32 (X k))
      go_wp2_with fail
      go_region
      go_wp2_with fail
      go_roundw
      case rel => exact ⟨k + 1, by omega, by go_num, hset.drew, kb2.drew⟩
      case measure => simp [intOf]; omega
    · obtain rfl : k = 31 := by omega
      rw [show ((31 : Nat) : Int) + 1 = 32 from rfl]
      have dB0 : wr.cell? ⟨B, 0, none⟩ = some (.int .u32 x) := by
        simp only [World.cell?, kb.block B (by have := h0.ltm; omega) (by simp; omega)]
        exact cB0
      have dB1 : wr.cell? ⟨B, 1, none⟩ = some (.int .u32 y) := by
        simp only [World.cell?, kb.block B (by have := h0.ltm; omega) (by simp; omega)]
        exact cB1
      go_wp2_with fail
      go_loopw [10] (fun ii W => ∃ k : Nat, k ≤ 2 ∧ ii = .int .i64 k ∧ RAt W R M (if k = 0 then regS X 31 else if k = 1 then storeS (regS X 31) 1024 4 x else storeS (storeS (regS X 31) 1024 4 x) 1028 4 y) ∧ But [R, M] w2.heap.size w2 W ∧ W.cell? ⟨B, 0, none⟩ = some (.int .u32 x) ∧ W.cell? ⟨B, 1, none⟩ = some (.int .u32 y)) (fun ii _ => (2 - intOf ii).toNat)
      case atStart => exact ⟨0, by omega, by go_num, hr, kb.mono (Nat.le_refl _) (fun k hk => by simp at hk; simp [hk]), dB0, dB1⟩
      case round =>
        obtain ⟨k, hk, rfl, hr2, kc, eB0, eB1⟩ := hrel
        rcases (by omega : k = 0 ∨ k = 1 ∨ k = 2) with rfl | rfl | rfl
        · rw [if_pos rfl] at hr2
          go_wp2_with fail
          refine (rStore_yes hr2 1024 4 x (by decide) (by decide) hx (by rfl)).mono ?_
          rintro e w3 ⟨rfl, hr3, kd⟩
          have kc2 := kc.trans (kd.mono kc.size (fun k hk => by simp at hk; simp [hk]))
          have fB0 : w3.cell? ⟨B, 0, none⟩ = some (.int .u32 x) := by
            simp only [World.cell?, kd.block B (by have := hr2.ltm; omega) (by simp; omega)]
            exact eB0
          have fB1 : w3.cell? ⟨B, 1, none⟩ = some (.int .u32 y) := by
            simp only [World.cell?, kd.block B (by have := hr2.ltm; omega) (by simp; omega)]
            exact eB1
          go_wp2_with fail
          go_roundw
          case rel => exact ⟨1, by omega, by go_num, hr3, kc2, fB0, fB1⟩
          case measure => simp [intOf]
        · rw [if_neg (by decide), if_pos rfl] at hr2
          go_wp2_with fail
          refine (rStore_yes hr2 1028 4 y (by decide) (by decide) hy (by rfl)).mono ?_
          rintro e w3 ⟨rfl, hr3, kd⟩
          have kc2 := kc.trans (kd.mono kc.size (fun k hk => by simp at hk; simp [hk]))
          have fB0 : w3.cell? ⟨B, 0, none⟩ = some (.int .u32 x) := by
            simp only [World.cell?, kd.block B (by have := hr2.ltm; omega) (by simp; omega)]
            exact eB0
          have fB1 : w3.cell? ⟨B, 1, none⟩ = some (.int .u32 y) := by
            simp only [World.cell?, kd.block B (by have := hr2.ltm; omega) (by simp; omega)]
            exact eB1
          go_wp2_with fail
          go_roundw
          case rel => exact ⟨2, by omega, by go_num, hr3, kc2, fB0, fB1⟩
          case measure => simp [intOf]
        · rw [if_neg (by decide), if_neg (by decide)] at hr2
          have hrow := hr2.row
          have h32 := cells32_len (storeS (storeS (regS X 31) 1024 4 x) 1028 4 y)
          have hsz := size32 (storeS (storeS (regS X 31) 1024 4 x) 1028 4 y)
          have hsz2 : (Tryd.prog.info? 29).map (·.size) = some (cells32 (storeS (storeS (regS X 31) 1024 4 x) 1028 4 y)).toArray.size := by rw [List.size_toArray]; exact hsz
          have hz : zero32.size = (cells32 (storeS (storeS (regS X 31) 1024 4 x) 1028 4 y)).toArray.size := by rw [show (cells32 (storeS (storeS (regS X 31) 1024 4 x) 1028 4 y)).toArray.size = 32 from by rw [List.size_toArray]; exact h32]; rfl
          have h1c := cells32_one (storeS (storeS (regS X 31) 1024 4 x) 1028 4 y)
          have hw := own_cell (Below.refl (wr.alloc (.cells (cells32 (storeS (storeS (regS X 31) 1024 4 x) 1028 4 y)).toArray 29)).heap.size (wr.alloc (.cells (cells32 (storeS (storeS (regS X 31) 1024 4 x) 1028 4 y)).toArray 29))) r (.int .u32 ((storeS (storeS (regS X 31) 1024 4 x) 1028 4 y).x r)) (by rw [List.getElem?_toArray]; exact cells32_at _ r (by omega))
          have hf := own_frozen (Below.refl (wr.alloc (.cells (cells32 (storeS (storeS (regS X 31) 1024 4 x) 1028 4 y)).toArray 29)).heap.size (wr.alloc (.cells (cells32 (storeS (storeS (regS X 31) 1024 4 x) 1028 4 y)).toArray 29))) r
          have hix := ix32 wr.heap.size r (by omega)
          rcases hs with ⟨s1, s2⟩ | ⟨s1, s2, s3⟩
          all_goals
            go_wp2_with (first | refine wpList_load_mid rfl 29 _ rfl R 0 rfl (cells32 (storeS (storeS (regS X 31) 1024 4 x) 1028 4 y)) _ hrow Tryd.underlying29 rfl hsz ?_ | (refine wpList_store_row rfl 29 _ _ rfl wr.heap.size (cells32 (storeS (storeS (regS X 31) 1024 4 x) 1028 4 y)).toArray rfl rfl 29 zero32 (alloc_new _ _) hsz2 hz h1c ?_; rw [World.setRow_alloc_new]))
            rw [cells32_set (storeS (storeS (regS X 31) 1024 4 x) 1028 4 y) S2 r v (by omega) hxs]
            generalize (storeS (storeS (regS X 31) 1024 4 x) 1028 4 y) = S0 at *
            clear hxs hrow hsz hsz2 hz h1c hw hf hix h32
            have hrd := hr2.alloc (.cells (cells32 S2).toArray 29)
            have hD := alloc_new wr (.cells (cells32 S2).toArray 29)
            have zD : wr.heap.size < (wr.alloc (.cells (cells32 S2).toArray 29)).heap.size := by simp
            have kD := kc.alloc kc.size (.cells (cells32 S2).toArray 29)
            have nR := hr2.lt
            have nM := hr2.ltm
            generalize wr.alloc (.cells (cells32 S2).toArray 29) = WD at *
            generalize wr.heap.size = D at *
            go_loopw [14] (fun ii W => ∃ k : Nat, k ≤ 2 ∧ ii = .int .i64 k ∧ RAt W R M (if k = 0 then S0 else if k = 1 then S1 else S2) ∧ But [R, M] WD.heap.size WD W) (fun ii _ => (2 - intOf ii).toNat)
            case atStart => exact ⟨0, by omega, by go_num, hrd, But.refl _ _ _⟩
            case round =>
              clear hr2
              obtain ⟨k, hk, rfl, hr2, ke⟩ := hrel
              rcases (by omega : k = 0 ∨ k = 1 ∨ k = 2) with rfl | rfl | rfl
              · rw [if_pos rfl] at hr2
                go_wp2_with fail
                have hs := rStep_any hr2
                rw [hst1] at hs
                refine hs.mono ?_
                rintro e w3 ⟨rfl, hr3, kg⟩
                have ke2 := ke.trans (kg.mono ke.size (fun k hk => .inl hk))
                go_wp2_with fail
                go_roundw
                case rel => exact ⟨1, by omega, by go_num, hr3, ke2⟩
                case measure => simp [intOf]
              · rw [if_neg (by decide), if_pos rfl] at hr2
                go_wp2_with fail
                have hs := rStep_any hr2
                rw [hst2] at hs
                refine hs.mono ?_
                rintro e w3 ⟨rfl, hr3, kg⟩
                have ke2 := ke.trans (kg.mono ke.size (fun k hk => .inl hk))
                go_wp2_with fail
                go_roundw
                case rel => exact ⟨2, by omega, by go_num, hr3, ke2⟩
                case measure => simp [intOf]
              · rw [if_neg (by decide), if_neg (by decide)] at hr2
                have hrow := hr2.row
                have hpc2 := hr2.pc
                rw [hpc] at hpc2
                have hsz := size32 S2
                have hD2 : wr.heap[D]? = some (.cells (cells32 S2).toArray 29 (0, 0)) := (ke.block D zD (by simp; omega)).trans hD
                have heq := fun W => eq32 S2 W
                have hgd : Tryd.prog.eqGuardType Tryd.prog.depth 29 = false := by kernel_rfl
                have hrD : wr.rangeAt D 0 (cells32 S2) := fun j v hv => by
                  rw [Nat.zero_add]
                  simp only [World.cell?, hD2]
                  simpa using hv
                have kE : But [R, M] w2.heap.size w2 wr := kD.trans (ke.mono (by have := kD.size; omega) (fun k hk => .inl hk))
                have kF : Below w.heap.size w wr := ka.trans (kE.below (by omega) (by simp; omega))
                generalize cells32 S2 = L at *
                have hu := Tryd.underlying29
                clear hD2 hX hr2
                go_wp2_with fail
                refine wp_region_quiet_lit (by kernel_rfl) (by kernel_rfl) ?_
                quiet_step (fail)
                quiet_step (fail)
                quiet_step (fail)
                refine quiet_load (by rfl) 29 _ rfl R 0 rfl L _ (fun W hW => by obtain ⟨n, rfl⟩ := hW; exact hrow) hu rfl hsz ?_
                simp only [Act.put, List.setIfInBounds_toArray, List.set_cons_zero, List.set_cons_succ]
                refine quiet_load (by rfl) 29 _ rfl D 0 rfl L _ (fun W hW => by obtain ⟨n, rfl⟩ := hW; exact hrD) hu rfl hsz ?_
                simp only [Act.put, List.setIfInBounds_toArray, List.set_cons_zero, List.set_cons_succ]
                repeat quiet_step (fail)
                refine wpQuiet_nil ?_
                intro _ hw'
                obtain ⟨nq, hw''⟩ := hw'
                subst hw''
                have kG : Below w.heap.size w (wr.drewN nq) := ⟨kF.os, kF.tape, kF.output, kF.size, kF.block⟩
                go_wp2_with fail
                go_ret
                exact ⟨rfl, kG⟩
end Go.Proofs.YtbalnlodkiejcaaDoor
