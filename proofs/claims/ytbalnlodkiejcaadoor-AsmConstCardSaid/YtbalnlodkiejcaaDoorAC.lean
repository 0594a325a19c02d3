/- AsmConst: the document's host does the words. -/
import Derived.Test.YtbalnlodkiejcaaDoorA4
import Derived.Test.YtbalnlodkiejcaaDoorQ6
import Derived.Deep.MidRow
import Derived.Deep.WholeRow
import Derived.ChangeKeysEq
import Derived.Deep.QuietTactic
import Derived.BigQuiet
import Derived.Test.YtbalnlodkiejcaaDoorKit
namespace Go.Proofs.YtbalnlodkiejcaaDoor
open Go.RowKit
set_option linter.unusedVariables false
set_option linter.unusedSimpArgs false
set_option linter.unusedSectionVars false

/-- Registers that are laid, so many of them. -/
def regsK (X : Nat → Int) (k : Nat) : Int → Int := fun j => if 1 ≤ j ∧ j ≤ k then X (j.toNat - 1) else 0
theorem regsK_0 (X : Nat → Int) : regsK X 0 = newS.x := by
  funext j
  unfold regsK newS
  rw [if_neg (by omega)]
theorem regsK_succ (X : Nat → Int) (k : Nat) (hk : k < 31) : setX (regsK X k) ((k : Int) + 1) (X k) = regsK X (k + 1) := by
  funext j
  unfold setX regsK
  by_cases h : j = (k : Int) + 1
  · rw [if_pos ⟨h, by omega, by omega⟩, if_pos (by omega), h, show ((k : Int) + 1).toNat - 1 = k by omega]
  · rw [if_neg (fun e => h e.1)]
    by_cases h2 : 1 ≤ j ∧ j ≤ k
    · rw [if_pos h2, if_pos (by omega)]
    · rw [if_neg h2, if_neg (by omega)]
/-- A new host with registers. -/
def regS (X : Nat → Int) (k : Nat) : St := { newS with x := regsK X k }

/-- A long load in a region that only reads, walked in the order of the text. -/
theorem quiet_load {P : Program} {ops : Array Oper} {C : World → Prop} {Q : Act → Prop} {o : Oper} {rest : List Oper} {a : Act} (hw : Region.wanted o (yielded ops a.tmps) = true) (ty : TypeId) (x : Operand) (ho : o.op = .load ty x)
    (b off : Nat) (hx : a.eval x = .pointer (some ⟨b, off, none⟩)) (cs : List Value) (d : TypeDesc) (hc : ∀ w, C w → w.rangeAt b off cs) (hu : P.underlying ty = some d) (hd : d.isRow = true) (hi : (P.info? ty).map (·.size) = some cs.length)
    (h : wpQuiet P ops C Q rest (a.put o.dst (.agg cs.toArray))) : wpQuiet P ops C Q (o :: rest) a := by
  unfold wpQuiet
  rw [if_pos hw]
  refine ⟨_, fun w hw' => ?_, h⟩
  unfold Oper.quietAt execOp
  simp only [ho, hx, Instr.loadAt, Instr.sureAddr, Sem.run_bind, Sem.run_pure, Result.andThen_ok, run_loadVar_mid w b off ty cs d (hc w hw') hu hd hi]
  exact ⟨rfl, rfl⟩
/-- The registers of a host, as cells. -/
def cells32 (s : St) : List Value := (List.range 32).map fun (i : Nat) => .int .u32 (s.x i)
theorem RAt.row {w : World} {R M : Nat} {s : St} (h : RAt w R M s) : w.rangeAt R 0 (cells32 s) := fun j v hv => by
  have hj : j < 32 := by have := (List.getElem?_eq_some_iff.1 hv).1; simpa [cells32] using this
  simp [cells32, hj] at hv
  subst hv
  rw [Nat.zero_add]
  exact h.x j hj
theorem cells32_len (s : St) : (cells32 s).length = 32 := by simp [cells32]
theorem size32 (s : St) : (Tryd.prog.info? 29).map (·.size) = some (cells32 s).length := by
  rw [cells32_len]
  kernel_rfl
theorem cells32_one (s : St) : (cells32 s).toArray.all (·.oneCell') = true := by
  rw [Array.all_eq_true]
  intro i hi
  simp [cells32]
  rfl
theorem cells32_at (s : St) (j : Nat) (hj : j < 32) : (cells32 s)[j]? = some (.int .u32 (s.x j)) := by simp [cells32, hj]
theorem cells32_set (s t : St) (r : Nat) (v : Int) (hr : 0 < r ∧ r < 32) (ht : t.x = setX s.x r v) : (cells32 s).set r (.int .u32 v) = cells32 t := by
  apply List.ext_getElem?
  intro j
  rw [List.getElem?_set]
  by_cases hj : j < 32
  · rw [cells32_at s j hj, cells32_at t j hj, ht, cells32_len]
    by_cases e : r = j
    · subst e; rw [if_pos rfl, if_pos hj]; simp [setX]; omega
    · rw [if_neg e]; simp [setX]; omega
  · rw [List.getElem?_eq_none (l := cells32 s) (by rw [cells32_len]; omega), List.getElem?_eq_none (l := cells32 t) (by rw [cells32_len]; omega), if_neg (by omega)]
def zero32 : Array Value := #[.int .u32 0, .int .u32 0, .int .u32 0, .int .u32 0, .int .u32 0, .int .u32 0, .int .u32 0, .int .u32 0, .int .u32 0, .int .u32 0, .int .u32 0, .int .u32 0, .int .u32 0, .int .u32 0, .int .u32 0, .int .u32 0, .int .u32 0, .int .u32 0, .int .u32 0, .int .u32 0, .int .u32 0, .int .u32 0, .int .u32 0, .int .u32 0, .int .u32 0, .int .u32 0, .int .u32 0, .int .u32 0, .int .u32 0, .int .u32 0, .int .u32 0, .int .u32 0]
theorem items32 (s : St) (W : World) : ∀ is : List Nat, (∀ i ∈ is, i < 32) → (Op.eqItems 9999 22 1 (cells32 s).toArray (cells32 s).toArray is).run Tryd.prog W = .ok true W
  | [], _ => by simp [Op.eqItems]
  | i :: is, h => by
    have hi := h i (by simp)
    have ha : (cells32 s).toArray[i * 1]? = some (.int .u32 (s.x i)) := by simp [cells32, hi]
    have hp := run_part_plain (P := Tryd.prog) W (e := 22) (by kernel_rfl) ha
    have ih := items32 s W is (fun j hj => h j (by simp [hj]))
    simp only [Op.eqItems, Sem.run_bind, hp, Result.andThen_ok, run_equalIn_int W 9998 22 .u32 .u32 (s.x i) (s.x i) Tryd.underlying22]
    simpa using ih
theorem eq32 (s : St) (W : World) : (Op.equalIn 10000 29 (.agg (cells32 s).toArray) (.agg (cells32 s).toArray)).run Tryd.prog W = .ok true W := by
  have hsome : (Tryd.prog.info? 22).isSome = true := by kernel_rfl
  obtain ⟨i, hi⟩ := Option.isSome_iff_exists.1 hsome
  rw [run_equalIn_array W 9999 _ _ Tryd.underlying29 hi, show Tryd.prog.cellsOf 22 = 1 by kernel_rfl]
  exact items32 s W _ (fun i hi => by simpa using hi)
theorem ix32 (b j : Nat) (h : j < 32) (W : World) : (Instr.indexAt 29 (.pointer (some ⟨b, 0, none⟩)) (.int .i64 (j : Int))).run Tryd.prog W = .ok (.pointer (some ⟨b, j, none⟩)) W := by
  have s1 : ∀ W, (sizeOf 22).run Tryd.prog W = .ok 1 W := fun W => by kernel_rfl
  have hj : (j : Int) < 32 := by omega
  simp [Instr.indexAt, run_underlying Tryd.underlying29, s1, go_sem, hj, h, Instr.sureAddr]
theorem ix_regs (b j : Nat) (h : j < 31) (W : World) : (Instr.indexAt 23 (.pointer (some ⟨b, 0, none⟩)) (.int .i64 j)).run Tryd.prog W = .ok (.pointer (some ⟨b, j, none⟩)) W := by
  have s1 : ∀ W, (sizeOf 22).run Tryd.prog W = .ok 1 W := fun W => by kernel_rfl
  have hj : (j : Int) < 31 := by omega
  simp [Instr.indexAt, run_underlying Tryd.underlying23, s1, go_sem, hj, h, Instr.sureAddr]
theorem ix_host (b j : Nat) (h : j < 31) (W : World) : (Instr.indexAt 29 (.pointer (some ⟨b, 0, none⟩)) (.int .i64 ((j : Int) + 1))).run Tryd.prog W = .ok (.pointer (some ⟨b, j + 1, none⟩)) W := by
  have s1 : ∀ W, (sizeOf 22).run Tryd.prog W = .ok 1 W := fun W => by kernel_rfl
  have hj : (j : Int) + 1 < 32 := by omega
  have hj2 : 0 ≤ (j : Int) + 1 := by omega
  have e : ((j : Int) + 1).toNat = j + 1 := by omega
  simp [Instr.indexAt, run_underlying Tryd.underlying29, s1, go_sem, hj, hj2, e, Instr.sureAddr]
end Go.Proofs.YtbalnlodkiejcaaDoor
namespace Go.Proofs.YtbalnlodkiejcaaDoor
open Go.RowKit
set_option linter.unusedVariables false
set_option linter.unusedSimpArgs false
set_option linter.unusedSectionVars false

set_option maxHeartbeats 4000000 in
set_option maxRecDepth 20000 in
theorem const_walk1 (r : Nat) (v x : Int) (cs : Array Value) (X : Nat → Int) (hv : 0 ≤ v ∧ v ≤ 4294967295) (hrd : 1 ≤ r ∧ r ≤ 31)
    (hX : cs.size = 31 ∧ ∀ i, i < 31 → cs[i]? = some (.int .u32 (X i)) ∧ 0 ≤ X i ∧ X i ≤ 4294967295)
    (hc : ∀ w, Tabs w → Calls Tryd.prog 8 #[.int .i64 (r : Int), .int .u32 v] w fun e w' => ∃ B, e = .returned (.slice (some ⟨B, 0, none⟩) 1 1) ∧ w.heap.size ≤ B ∧ B < w'.heap.size ∧ w'.cell? ⟨B, 0, none⟩ = some (.int .u32 x) ∧ Below w.heap.size w w')
    (hs : (-2048 ≤ wrap32 v ∧ wrap32 v < 2048) ∨ (wrap32 v < -2048 ∧ bits .and .u32 v 4095 = 0) ∨ (-2048 ≤ wrap32 v ∧ 2048 ≤ wrap32 v ∧ bits .and .u32 v 4095 = 0)) (hx : 0 ≤ x ∧ x ≤ 4294967295)
    (S1 : St) (hst1 : stepL (storeS (regS X 31) 1024 4 x) = (0, S1)) (hxs : S1.x = setX (storeS (regS X 31) 1024 4 x).x r v) (hpc : S1.pc = 1028)
    (w : World) (tabs : Tabs w) :
    Calls Tryd.prog 3 #[.int .i64 (r : Int), .int .u32 v, .agg cs] w fun e w' => e = .returned (.bool true) ∧ Below w.heap.size w w' := by
  have ka : Below w.heap.size w (w.alloc (.cells cs 23)) := (Below.refl _ _).alloc (Nat.le_refl _) _
  have ta := tabs.below ka
  have qr : ∀ j, j < 31 → (w.alloc (.cells cs 23)).cell? ⟨w.heap.size, j, none⟩ = some (.int .u32 (X j)) := fun j hj => by
    have := alloc_new w (.cells cs 23)
    simp only [World.cell?, this]
    simpa using (hX.2 j hj).1
  go_enter Tryd.func3, Tryd.ntmps3
  go_wp2_with fail
  refine (kn_any _ ta).mono ?_
  rintro e w0 ⟨rfl, b0⟩
  have zl : w.heap.size < w0.heap.size := by have := b0.size; simp at this; omega
  replace qr := fun j hj => (b0.cell (p := ⟨w.heap.size, j, none⟩) (show w.heap.size < (w.alloc _).heap.size by simp)).trans (qr j hj)
  have t0 := ta.below b0
  replace ka := ka.trans (b0.mono (by simp))
  clear b0 ta
  go_wp2_with fail
  refine (hc _ t0).mono ?_
  rintro e w1 ⟨B, rfl, z1, z2, cB0, b1⟩
  replace qr := fun j hj => (b1.cell (p := ⟨w.heap.size, j, none⟩) zl).trans (qr j hj)
  have t1 := t0.below b1
  replace ka := ka.trans (b1.mono ka.size)
  replace zl : w.heap.size < w1.heap.size := by have := b1.size; omega
  clear b1 t0
  go_wp2_with fail
  refine (rNew_any _ t1).mono ?_
  rintro e w2 ⟨rfl, h0, b2⟩
  replace qr := fun j hj => (b2.cell (p := ⟨w.heap.size, j, none⟩) zl).trans (qr j hj)
  replace cB0 := (b2.cell (p := ⟨B, 0, none⟩) z2).trans cB0
  have t2 := t1.below b2
  replace ka := ka.trans (b2.mono ka.size)
  clear b2 t1
  generalize hR : w1.heap.size + 1 = R at *
  generalize hM : w1.heap.size = M at *
  have zR : w.heap.size < R := by omega
  have zB : B < M := z2
  clear hM z2
  have z2 : w.heap.size < w2.heap.size := by have := h0.lt; omega
  go_wp2_with fail
  go_loopw [9] (fun ii W => ∃ k : Nat, k ≤ 31 ∧ ii = .int .i64 ((k : Int) + 1) ∧ RAt W R M (regS X k) ∧ But [R] w2.heap.size w2 W) (fun ii _ => (32 - intOf ii).toNat)
  case atStart => exact ⟨0, by omega, rfl, by unfold regS; rw [regsK_0]; exact h0, But.refl _ _ _⟩
  case round =>
    obtain ⟨k, hk, rfl, hr, kb⟩ := hrel
    rcases Nat.lt_or_ge k 31 with hlt | hge
    · have hxk := hr.x (k + 1) (by omega)
      have hfk := hr.fr (k + 1)
      have hset := hr.set_x (k + 1) (by omega) (by omega) (hX.2 k hlt).2
      rw [show ({ regS X k with x := setX (regS X k).x ((k + 1 : Nat) : Int) (X k) } : St) = regS X (k + 1) by unfold regS; simp only []; rw [← regsK_succ X k hlt]; simp] at hset
      have hq : wr.cell? ⟨w.heap.size, k, none⟩ = some (.int .u32 (X k)) := by
        simp only [World.cell?, kb.block w.heap.size z2 (by simp; omega)]
        exact qr k hlt
      have h1 := ix_regs w.heap.size k hlt
      have h2 := ix_host R k hlt
      have kb2 := kb.setCell (p := ⟨R, k + 1, none⟩) (by simp) (.int .u32 (X k))
      go_wp2_with fail
      go_region
      go_wp2_with fail
      go_roundw
      case rel => exact ⟨k + 1, by omega, by go_num, hset.drew, kb2.drew⟩
      case measure => simp [intOf]; omega
    · obtain rfl : k = 31 := by omega
      rw [show ((31 : Nat) : Int) + 1 = 32 from rfl]
      have dB0 : wr.cell? ⟨B, 0, none⟩ = some (.int .u32 x) := by
        simp only [World.cell?, kb.block B (by have := h0.ltm; omega) (by simp; omega)]
        exact cB0
      go_wp2_with fail
      go_loopw [10] (fun ii W => ∃ k : Nat, k ≤ 1 ∧ ii = .int .i64 k ∧ RAt W R M (if k = 0 then regS X 31 else storeS (regS X 31) 1024 4 x) ∧ But [R, M] w2.heap.size w2 W ∧ W.cell? ⟨B, 0, none⟩ = some (.int .u32 x)) (fun ii _ => (1 - intOf ii).toNat)
      case atStart => exact ⟨0, by omega, by go_num, hr, kb.mono (Nat.le_refl _) (fun k hk => by simp at hk; simp [hk]), dB0⟩
      case round =>
        obtain ⟨k, hk, rfl, hr2, kc, eB0⟩ := hrel
        rcases (by omega : k = 0 ∨ k = 1) with rfl | rfl
        · rw [if_pos rfl] at hr2
          go_wp2_with fail
          refine (rStore_yes hr2 1024 4 x (by decide) (by decide) hx (by rfl)).mono ?_
          rintro e w3 ⟨rfl, hr3, kd⟩
          have kc2 := kc.trans (kd.mono kc.size (fun k hk => by simp at hk; simp [hk]))
          have fB0 : w3.cell? ⟨B, 0, none⟩ = some (.int .u32 x) := by
            simp only [World.cell?, kd.block B (by have := hr2.ltm; omega) (by simp; omega)]
            exact eB0
          go_wp2_with fail
          go_roundw
          case rel => exact ⟨1, by omega, by go_num, hr3, kc2, fB0⟩
          case measure => simp [intOf]
        · rw [if_neg (by decide)] at hr2
          have hrow := hr2.row
          have h32 := cells32_len (storeS (regS X 31) 1024 4 x)
          have hsz := size32 (storeS (regS X 31) 1024 4 x)
          have hsz2 : (Tryd.prog.info? 29).map (·.size) = some (cells32 (storeS (regS X 31) 1024 4 x)).toArray.size := by rw [List.size_toArray]; exact hsz
          have hz : zero32.size = (cells32 (storeS (regS X 31) 1024 4 x)).toArray.size := by rw [show (cells32 (storeS (regS X 31) 1024 4 x)).toArray.size = 32 from by rw [List.size_toArray]; exact h32]; rfl
          have h1c := cells32_one (storeS (regS X 31) 1024 4 x)
          have hw := own_cell (Below.refl (wr.alloc (.cells (cells32 (storeS (regS X 31) 1024 4 x)).toArray 29)).heap.size (wr.alloc (.cells (cells32 (storeS (regS X 31) 1024 4 x)).toArray 29))) r (.int .u32 ((storeS (regS X 31) 1024 4 x).x r)) (by rw [List.getElem?_toArray]; exact cells32_at _ r (by omega))
          have hf := own_frozen (Below.refl (wr.alloc (.cells (cells32 (storeS (regS X 31) 1024 4 x)).toArray 29)).heap.size (wr.alloc (.cells (cells32 (storeS (regS X 31) 1024 4 x)).toArray 29))) r
          have hix := ix32 wr.heap.size r (by omega)
          rcases hs with ⟨s1, s2⟩ | ⟨s1, s2⟩ | ⟨s1, s2, s3⟩
          all_goals
            go_wp2_with (first | refine wpList_load_mid rfl 29 _ rfl R 0 rfl (cells32 (storeS (regS X 31) 1024 4 x)) _ hrow Tryd.underlying29 rfl hsz ?_ | (refine wpList_store_row rfl 29 _ _ rfl wr.heap.size (cells32 (storeS (regS X 31) 1024 4 x)).toArray rfl rfl 29 zero32 (alloc_new _ _) hsz2 hz h1c ?_; rw [World.setRow_alloc_new]))
            rw [cells32_set (storeS (regS X 31) 1024 4 x) S1 r v (by omega) hxs]
            generalize (storeS (regS X 31) 1024 4 x) = S0 at *
            clear hxs hrow hsz hsz2 hz h1c hw hf hix h32
            have hrd := hr2.alloc (.cells (cells32 S1).toArray 29)
            have hD := alloc_new wr (.cells (cells32 S1).toArray 29)
            have zD : wr.heap.size < (wr.alloc (.cells (cells32 S1).toArray 29)).heap.size := by simp
            have kD := kc.alloc kc.size (.cells (cells32 S1).toArray 29)
            have nR := hr2.lt
            have nM := hr2.ltm
            generalize wr.alloc (.cells (cells32 S1).toArray 29) = WD at *
            generalize wr.heap.size = D at *
            go_loopw [14] (fun ii W => ∃ k : Nat, k ≤ 1 ∧ ii = .int .i64 k ∧ RAt W R M (if k = 0 then S0 else S1) ∧ But [R, M] WD.heap.size WD W) (fun ii _ => (1 - intOf ii).toNat)
            case atStart => exact ⟨0, by omega, by go_num, hrd, But.refl _ _ _⟩
            case round =>
              clear hr2
              obtain ⟨k, hk, rfl, hr2, ke⟩ := hrel
              rcases (by omega : k = 0 ∨ k = 1) with rfl | rfl
              · rw [if_pos rfl] at hr2
                go_wp2_with fail
                have hs := rStep_any hr2
                rw [hst1] at hs
                refine hs.mono ?_
                rintro e w3 ⟨rfl, hr3, kg⟩
                have ke2 := ke.trans (kg.mono ke.size (fun k hk => .inl hk))
                go_wp2_with fail
                go_roundw
                case rel => exact ⟨1, by omega, by go_num, hr3, ke2⟩
                case measure => simp [intOf]
              · rw [if_neg (by decide)] at hr2
                have hrow := hr2.row
                have hpc2 := hr2.pc
                rw [hpc] at hpc2
                have hsz := size32 S1
                have hD2 : wr.heap[D]? = some (.cells (cells32 S1).toArray 29 (0, 0)) := (ke.block D zD (by simp; omega)).trans hD
                have heq := fun W => eq32 S1 W
                have hgd : Tryd.prog.eqGuardType Tryd.prog.depth 29 = false := by kernel_rfl
                have hrD : wr.rangeAt D 0 (cells32 S1) := fun j v hv => by
                  rw [Nat.zero_add]
                  simp only [World.cell?, hD2]
                  simpa using hv
                have kE : But [R, M] w2.heap.size w2 wr := kD.trans (ke.mono (by have := kD.size; omega) (fun k hk => .inl hk))
                have kF : Below w.heap.size w wr := ka.trans (kE.below (by omega) (by simp; omega))
                generalize cells32 S1 = L at *
                have hu := Tryd.underlying29
                clear hD2 hX hr2
                go_wp2_with fail
                refine wp_region_quiet_lit (by kernel_rfl) (by kernel_rfl) ?_
                quiet_step (fail)
                quiet_step (fail)
                quiet_step (fail)
                refine quiet_load (by rfl) 29 _ rfl R 0 rfl L _ (fun W hW => by obtain ⟨n, rfl⟩ := hW; exact hrow) hu rfl hsz ?_
                simp only [Act.put, List.setIfInBounds_toArray, List.set_cons_zero, List.set_cons_succ]
                refine quiet_load (by rfl) 29 _ rfl D 0 rfl L _ (fun W hW => by obtain ⟨n, rfl⟩ := hW; exact hrD) hu rfl hsz ?_
                simp only [Act.put, List.setIfInBounds_toArray, List.set_cons_zero, List.set_cons_succ]
                repeat quiet_step (fail)
                refine wpQuiet_nil ?_
                intro _ hw'
                obtain ⟨nq, hw''⟩ := hw'
                subst hw''
                have kG : Below w.heap.size w (wr.drewN nq) := ⟨kF.os, kF.tape, kF.output, kF.size, kF.block⟩
                go_wp2_with fail
                go_ret
                exact ⟨rfl, kG⟩
end Go.Proofs.YtbalnlodkiejcaaDoor
namespace Go.Proofs.YtbalnlodkiejcaaDoor
open Go.RowKit
set_option linter.unusedVariables false
set_option linter.unusedSimpArgs false
set_option linter.unusedSectionVars false

set_option maxHeartbeats 4000000 in
set_option maxRecDepth 20000 in
theorem const_walk2 (r : Nat) (v x y : Int) (cs : Array Value) (X : Nat → Int) (hv : 0 ≤ v ∧ v ≤ 4294967295) (hrd : 1 ≤ r ∧ r ≤ 31)
    (hX : cs.size = 31 ∧ ∀ i, i < 31 → cs[i]? = some (.int .u32 (X i)) ∧ 0 ≤ X i ∧ X i ≤ 4294967295)
    (hc : ∀ w, Tabs w → Calls Tryd.prog 8 #[.int .i64 (r : Int), .int .u32 v] w fun e w' => ∃ B, e = .returned (.slice (some ⟨B, 0, none⟩) 2 2) ∧ w.heap.size ≤ B ∧ B < w'.heap.size ∧ w'.cell? ⟨B, 0, none⟩ = some (.int .u32 x) ∧ w'.cell? ⟨B, 1, none⟩ = some (.int .u32 y) ∧ Below w.heap.size w w')
    (hs : (wrap32 v < -2048 ∧ (bits .and .u32 v 4095 == 0) = false) ∨ (-2048 ≤ wrap32 v ∧ 2048 ≤ wrap32 v ∧ (bits .and .u32 v 4095 == 0) = false)) (hx : 0 ≤ x ∧ x ≤ 4294967295) (hy : 0 ≤ y ∧ y ≤ 4294967295)
    (S1 S2 : St) (hst1 : stepL (storeS (storeS (regS X 31) 1024 4 x) 1028 4 y) = (0, S1)) (hst2 : stepL S1 = (0, S2)) (hxs : S2.x = setX (storeS (storeS (regS X 31) 1024 4 x) 1028 4 y).x r v) (hpc : S2.pc = 1032)
    (w : World) (tabs : Tabs w) :
    Calls Tryd.prog 3 #[.int .i64 (r : Int), .int .u32 v, .agg cs] w fun e w' => e = .returned (.bool true) ∧ Below w.heap.size w w' := by
  have ka : Below w.heap.size w (w.alloc (.cells cs 23)) := (Below.refl _ _).alloc (Nat.le_refl _) _
  have ta := tabs.below ka
  have qr : ∀ j, j < 31 → (w.alloc (.cells cs 23)).cell? ⟨w.heap.size, j, none⟩ = some (.int .u32 (X j)) := fun j hj => by
    have := alloc_new w (.cells cs 23)
    simp only [World.cell?, this]
    simpa using (hX.2 j hj).1
  go_enter Tryd.func3, Tryd.ntmps3
  go_wp2_with fail
  refine (kn_any _ ta).mono ?_
  rintro e w0 ⟨rfl, b0⟩
  have zl : w.heap.size < w0.heap.size := by have := b0.size; simp at this; omega
  replace qr := fun j hj => (b0.cell (p := ⟨w.heap.size, j, none⟩) (show w.heap.size < (w.alloc _).heap.size by simp)).trans (qr j hj)
  have t0 := ta.below b0
  replace ka := ka.trans (b0.mono (by simp))
  clear b0 ta
  go_wp2_with fail
  refine (hc _ t0).mono ?_
  rintro e w1 ⟨B, rfl, z1, z2, cB0, cB1, b1⟩
  replace qr := fun j hj => (b1.cell (p := ⟨w.heap.size, j, none⟩) zl).trans (qr j hj)
  have t1 := t0.below b1
  replace ka := ka.trans (b1.mono ka.size)
  replace zl : w.heap.size < w1.heap.size := by have := b1.size; omega
  clear b1 t0
  go_wp2_with fail
  refine (rNew_any _ t1).mono ?_
  rintro e w2 ⟨rfl, h0, b2⟩
  replace qr := fun j hj => (b2.cell (p := ⟨w.heap.size, j, none⟩) zl).trans (qr j hj)
  replace cB0 := (b2.cell (p := ⟨B, 0, none⟩) z2).trans cB0
  replace cB1 := (b2.cell (p := ⟨B, 1, none⟩) z2).trans cB1
  have t2 := t1.below b2
  replace ka := ka.trans (b2.mono ka.size)
  clear b2 t1
  generalize hR : w1.heap.size + 1 = R at *
  generalize hM : w1.heap.size = M at *
  have zR : w.heap.size < R := by omega
  have zB : B < M := z2
  clear hM z2
  have z2 : w.heap.size < w2.heap.size := by have := h0.lt; omega
  go_wp2_with fail
  go_loopw [9] (fun ii W => ∃ k : Nat, k ≤ 31 ∧ ii = .int .i64 ((k : Int) + 1) ∧ RAt W R M (regS X k) ∧ But [R] w2.heap.size w2 W) (fun ii _ => (32 - intOf ii).toNat)
  case atStart => exact ⟨0, by omega, rfl, by unfold regS; rw [regsK_0]; exact h0, But.refl _ _ _⟩
  case round =>
    obtain ⟨k, hk, rfl, hr, kb⟩ := hrel
    rcases Nat.lt_or_ge k 31 with hlt | hge
    · have hxk := hr.x (k + 1) (by omega)
      have hfk := hr.fr (k + 1)
      have hset := hr.set_x (k + 1) (by omega) (by omega) (hX.2 k hlt).2
      rw [show ({ regS X k with x := setX (regS X k).x ((k + 1 : Nat) : Int) (X k) } : St) = regS X (k + 1) by unfold regS; simp only []; rw [← regsK_succ X k hlt]; simp] at hset
      have hq : wr.cell? ⟨w.heap.size, k, none⟩ = some (.int .u32 (X k)) := by
        simp only [World.cell?, kb.block w.heap.size z2 (by simp; omega)]
        exact qr k hlt
      have h1 := ix_regs w.heap.size k hlt
      have h2 := ix_host R k hlt
      have kb2 := kb.setCell (p := ⟨R, k + 1, none⟩) (by simp) (.int .u32 (X k))
      go_wp2_with fail
      go_region
      go_wp2_with fail
      go_roundw
      case rel => exact ⟨k + 1, by omega, by go_num, hset.drew, kb2.drew⟩
      case measure => simp [intOf]; omega
    · obtain rfl : k = 31 := by omega
      rw [show ((31 : Nat) : Int) + 1 = 32 from rfl]
      have dB0 : wr.cell? ⟨B, 0, none⟩ = some (.int .u32 x) := by
        simp only [World.cell?, kb.block B (by have := h0.ltm; omega) (by simp; omega)]
        exact cB0
      have dB1 : wr.cell? ⟨B, 1, none⟩ = some (.int .u32 y) := by
        simp only [World.cell?, kb.block B (by have := h0.ltm; omega) (by simp; omega)]
        exact cB1
      go_wp2_with fail
      go_loopw [10] (fun ii W => ∃ k : Nat, k ≤ 2 ∧ ii = .int .i64 k ∧ RAt W R M (if k = 0 then regS X 31 else if k = 1 then storeS (regS X 31) 1024 4 x else storeS (storeS (regS X 31) 1024 4 x) 1028 4 y) ∧ But [R, M] w2.heap.size w2 W ∧ W.cell? ⟨B, 0, none⟩ = some (.int .u32 x) ∧ W.cell? ⟨B, 1, none⟩ = some (.int .u32 y)) (fun ii _ => (2 - intOf ii).toNat)
      case atStart => exact ⟨0, by omega, by go_num, hr, kb.mono (Nat.le_refl _) (fun k hk => by simp at hk; simp [hk]), dB0, dB1⟩
      case round =>
        obtain ⟨k, hk, rfl, hr2, kc, eB0, eB1⟩ := hrel
        rcases (by omega : k = 0 ∨ k = 1 ∨ k = 2) with rfl | rfl | rfl
        · rw [if_pos rfl] at hr2
          go_wp2_with fail
          refine (rStore_yes hr2 1024 4 x (by decide) (by decide) hx (by rfl)).mono ?_
          rintro e w3 ⟨rfl, hr3, kd⟩
          have kc2 := kc.trans (kd.mono kc.size (fun k hk => by simp at hk; simp [hk]))
          have fB0 : w3.cell? ⟨B, 0, none⟩ = some (.int .u32 x) := by
            simp only [World.cell?, kd.block B (by have := hr2.ltm; omega) (by simp; omega)]
            exact eB0
          have fB1 : w3.cell? ⟨B, 1, none⟩ = some (.int .u32 y) := by
            simp only [World.cell?, kd.block B (by have := hr2.ltm; omega) (by simp; omega)]
            exact eB1
          go_wp2_with fail
          go_roundw
          case rel => exact ⟨1, by omega, by go_num, hr3, kc2, fB0, fB1⟩
          case measure => simp [intOf]
        · rw [if_neg (by decide), if_pos rfl] at hr2
          go_wp2_with fail
          refine (rStore_yes hr2 1028 4 y (by decide) (by decide) hy (by rfl)).mono ?_
          rintro e w3 ⟨rfl, hr3, kd⟩
          have kc2 := kc.trans (kd.mono kc.size (fun k hk => by simp at hk; simp [hk]))
          have fB0 : w3.cell? ⟨B, 0, none⟩ = some (.int .u32 x) := by
            simp only [World.cell?, kd.block B (by have := hr2.ltm; omega) (by simp; omega)]
            exact eB0
          have fB1 : w3.cell? ⟨B, 1, none⟩ = some (.int .u32 y) := by
            simp only [World.cell?, kd.block B (by have := hr2.ltm; omega) (by simp; omega)]
            exact eB1
          go_wp2_with fail
          go_roundw
          case rel => exact ⟨2, by omega, by go_num, hr3, kc2, fB0, fB1⟩
          case measure => simp [intOf]
        · rw [if_neg (by decide), if_neg (by decide)] at hr2
          have hrow := hr2.row
          have h32 := cells32_len (storeS (storeS (regS X 31) 1024 4 x) 1028 4 y)
          have hsz := size32 (storeS (storeS (regS X 31) 1024 4 x) 1028 4 y)
          have hsz2 : (Tryd.prog.info? 29).map (·.size) = some (cells32 (storeS (storeS (regS X 31) 1024 4 x) 1028 4 y)).toArray.size := by rw [List.size_toArray]; exact hsz
          have hz : zero32.size = (cells32 (storeS (storeS (regS X 31) 1024 4 x) 1028 4 y)).toArray.size := by rw [show (cells32 (storeS (storeS (regS X 31) 1024 4 x) 1028 4 y)).toArray.size = 32 from by rw [List.size_toArray]; exact h32]; rfl
          have h1c := cells32_one (storeS (storeS (regS X 31) 1024 4 x) 1028 4 y)
          have hw := own_cell (Below.refl (wr.alloc (.cells (cells32 (storeS (storeS (regS X 31) 1024 4 x) 1028 4 y)).toArray 29)).heap.size (wr.alloc (.cells (cells32 (storeS (storeS (regS X 31) 1024 4 x) 1028 4 y)).toArray 29))) r (.int .u32 ((storeS (storeS (regS X 31) 1024 4 x) 1028 4 y).x r)) (by rw [List.getElem?_toArray]; exact cells32_at _ r (by omega))
          have hf := own_frozen (Below.refl (wr.alloc (.cells (cells32 (storeS (storeS (regS X 31) 1024 4 x) 1028 4 y)).toArray 29)).heap.size (wr.alloc (.cells (cells32 (storeS (storeS (regS X 31) 1024 4 x) 1028 4 y)).toArray 29))) r
          have hix := ix32 wr.heap.size r (by omega)
          rcases hs with ⟨s1, s2⟩ | ⟨s1, s2, s3⟩
          all_goals
            go_wp2_with (first | refine wpList_load_mid rfl 29 _ rfl R 0 rfl (cells32 (storeS (storeS (regS X 31) 1024 4 x) 1028 4 y)) _ hrow Tryd.underlying29 rfl hsz ?_ | (refine wpList_store_row rfl 29 _ _ rfl wr.heap.size (cells32 (storeS (storeS (regS X 31) 1024 4 x) 1028 4 y)).toArray rfl rfl 29 zero32 (alloc_new _ _) hsz2 hz h1c ?_; rw [World.setRow_alloc_new]))
            rw [cells32_set (storeS (storeS (regS X 31) 1024 4 x) 1028 4 y) S2 r v (by omega) hxs]
            generalize (storeS (storeS (regS X 31) 1024 4 x) 1028 4 y) = S0 at *
            clear hxs hrow hsz hsz2 hz h1c hw hf hix h32
            have hrd := hr2.alloc (.cells (cells32 S2).toArray 29)
            have hD := alloc_new wr (.cells (cells32 S2).toArray 29)
            have zD : wr.heap.size < (wr.alloc (.cells (cells32 S2).toArray 29)).heap.size := by simp
            have kD := kc.alloc kc.size (.cells (cells32 S2).toArray 29)
            have nR := hr2.lt
            have nM := hr2.ltm
            generalize wr.alloc (.cells (cells32 S2).toArray 29) = WD at *
            generalize wr.heap.size = D at *
            go_loopw [14] (fun ii W => ∃ k : Nat, k ≤ 2 ∧ ii = .int .i64 k ∧ RAt W R M (if k = 0 then S0 else if k = 1 then S1 else S2) ∧ But [R, M] WD.heap.size WD W) (fun ii _ => (2 - intOf ii).toNat)
            case atStart => exact ⟨0, by omega, by go_num, hrd, But.refl _ _ _⟩
            case round =>
              clear hr2
              obtain ⟨k, hk, rfl, hr2, ke⟩ := hrel
              rcases (by omega : k = 0 ∨ k = 1 ∨ k = 2) with rfl | rfl | rfl
              · rw [if_pos rfl] at hr2
                go_wp2_with fail
                have hs := rStep_any hr2
                rw [hst1] at hs
                refine hs.mono ?_
                rintro e w3 ⟨rfl, hr3, kg⟩
                have ke2 := ke.trans (kg.mono ke.size (fun k hk => .inl hk))
                go_wp2_with fail
                go_roundw
                case rel => exact ⟨1, by omega, by go_num, hr3, ke2⟩
                case measure => simp [intOf]
              · rw [if_neg (by decide), if_pos rfl] at hr2
                go_wp2_with fail
                have hs := rStep_any hr2
                rw [hst2] at hs
                refine hs.mono ?_
                rintro e w3 ⟨rfl, hr3, kg⟩
                have ke2 := ke.trans (kg.mono ke.size (fun k hk => .inl hk))
                go_wp2_with fail
                go_roundw
                case rel => exact ⟨2, by omega, by go_num, hr3, ke2⟩
                case measure => simp [intOf]
              · rw [if_neg (by decide), if_neg (by decide)] at hr2
                have hrow := hr2.row
                have hpc2 := hr2.pc
                rw [hpc] at hpc2
                have hsz := size32 S2
                have hD2 : wr.heap[D]? = some (.cells (cells32 S2).toArray 29 (0, 0)) := (ke.block D zD (by simp; omega)).trans hD
                have heq := fun W => eq32 S2 W
                have hgd : Tryd.prog.eqGuardType Tryd.prog.depth 29 = false := by kernel_rfl
                have hrD : wr.rangeAt D 0 (cells32 S2) := fun j v hv => by
                  rw [Nat.zero_add]
                  simp only [World.cell?, hD2]
                  simpa using hv
                have kE : But [R, M] w2.heap.size w2 wr := kD.trans (ke.mono (by have := kD.size; omega) (fun k hk => .inl hk))
                have kF : Below w.heap.size w wr := ka.trans (kE.below (by omega) (by simp; omega))
                generalize cells32 S2 = L at *
                have hu := Tryd.underlying29
                clear hD2 hX hr2
                go_wp2_with fail
                refine wp_region_quiet_lit (by kernel_rfl) (by kernel_rfl) ?_
                quiet_step (fail)
                quiet_step (fail)
                quiet_step (fail)
                refine quiet_load (by rfl) 29 _ rfl R 0 rfl L _ (fun W hW => by obtain ⟨n, rfl⟩ := hW; exact hrow) hu rfl hsz ?_
                simp only [Act.put, List.setIfInBounds_toArray, List.set_cons_zero, List.set_cons_succ]
                refine quiet_load (by rfl) 29 _ rfl D 0 rfl L _ (fun W hW => by obtain ⟨n, rfl⟩ := hW; exact hrD) hu rfl hsz ?_
                simp only [Act.put, List.setIfInBounds_toArray, List.set_cons_zero, List.set_cons_succ]
                repeat quiet_step (fail)
                refine wpQuiet_nil ?_
                intro _ hw'
                obtain ⟨nq, hw''⟩ := hw'
                subst hw''
                have kG : Below w.heap.size w (wr.drewN nq) := ⟨kF.os, kF.tape, kF.output, kF.size, kF.block⟩
                go_wp2_with fail
                go_ret
                exact ⟨rfl, kG⟩
end Go.Proofs.YtbalnlodkiejcaaDoor
namespace Go.Proofs.YtbalnlodkiejcaaDoor
open Go.RowKit
set_option linter.unusedVariables false
set_option linter.unusedSimpArgs false
set_option linter.unusedSectionVars false

theorem do_addi (s : St) (d a i : Int) : doL s 19 d a 0 i = .go 0 { s with x := setX s.x d ((s.x a + (s.x 0 + i) % 4294967296) % 4294967296), pc := (s.pc + 4) % 4294967296 } := by simp [doL, aluL]
theorem do_lui (s : St) (d i : Int) : doL s 1 d 0 0 i = .go 0 { s with x := setX s.x d ((s.x 0 + i) % 4294967296), pc := (s.pc + 4) % 4294967296 } := by simp [doL, aluL]
theorem regs_zero (X : Nat → Int) : regsK X 31 0 = 0 := by unfold regsK; rw [if_neg (by omega)]
theorem low_zero {v : Int} : loL v = 0 ↔ v % 4096 = 0 := by rw [loL_is]; omega
theorem high_zero {v : Int} (hv : 0 ≤ v ∧ v ≤ 4294967295) : hiL v = 0 ↔ -2048 ≤ wrap32 v ∧ wrap32 v < 2048 := by rw [hiL_is, loL_is]; unfold wrap32; omega
theorem parts_sum {v : Int} (hv : 0 ≤ v ∧ v ≤ 4294967295) : (hiL v % 4294967296 + loL v % 4294967296) % 4294967296 = v := by rw [hiL_is, loL_is]; unfold wrap32; omega
theorem and_low12 (v : Int) (hv : 0 ≤ v ∧ v ≤ 4294967295) : bits .and .u32 v 4095 = v % 4096 := and_mask v 12 hv (by decide)
theorem setX_twice (x : Int → Int) (i a b : Int) : setX (setX x i a) i b = setX x i b := by
  funext j
  unfold setX
  split <;> rfl
theorem setX_self (x : Int → Int) (i a : Int) (hi : 0 < i ∧ i < 32) : setX x i a i = a := by unfold setX; rw [if_pos ⟨rfl, hi.1, hi.2⟩]
theorem setX_zero' (x : Int → Int) (i a : Int) (hi : 0 < i) : setX x i a 0 = x 0 := by unfold setX; rw [if_neg (by omega)]
theorem const_no (rd v : Int) (cs : Array Value) (hb : setB rd = false) (w : World) (tabs : Tabs w) :
    Calls Tryd.prog 3 #[.int .i64 rd, .int .u32 v, .agg cs] w fun e w' => e = .returned (.bool true) ∧ Below w.heap.size w w' := by
  have ka : Below w.heap.size w (w.alloc (.cells cs 23)) := (Below.refl _ _).alloc (Nat.le_refl _) _
  have ta := tabs.below ka
  have hc := fun w => const_none rd v hb w
  have hrd : rd < 1 ∨ (1 ≤ rd ∧ 31 < rd) := by unfold setB at hb; simp at hb; omega
  clear hb
  rcases hrd with h1 | ⟨h1, h2⟩
  all_goals
    go_enter Tryd.func3, Tryd.ntmps3
    go_wp2_with fail
    refine (kn_any _ ta).mono ?_
    rintro e w0 ⟨rfl, b0⟩
    replace ka := ka.trans (b0.mono (by simp))
    clear b0 ta
    go_wp2_with fail
    refine (hc _).mono ?_
    rintro e w1 ⟨rfl, rfl⟩
    go_wp2_with fail
    go_ret
    exact ⟨rfl, ka⟩
theorem const_law (rd v : Int) (cs : Array Value) (X : Nat → Int) (hv : 0 ≤ v ∧ v ≤ 4294967295)
    (hX : cs.size = 31 ∧ ∀ i, i < 31 → cs[i]? = some (.int .u32 (X i)) ∧ 0 ≤ X i ∧ X i ≤ 4294967295) (w : World) (tabs : Tabs w) :
    Calls Tryd.prog 3 #[.int .i64 rd, .int .u32 v, .agg cs] w fun e w' => e = .returned (.bool true) ∧ Below w.heap.size w w' := by
  cases hb : setB rd with
  | false => exact const_no rd v cs hb w tabs
  | true =>
    have hrd : 1 ≤ rd ∧ rd ≤ 31 := by unfold setB at hb; simp at hb; omega
    obtain ⟨r, rfl⟩ := Int.eq_ofNat_of_zero_le (show 0 ≤ rd by omega)
    have hr : 1 ≤ r ∧ r ≤ 31 := by omega
    have hand := and_low12 v hv
    by_cases h0 : hiL v = 0
    · have hl := isL_addi hb (.inl rfl) (loL_bd v)
      have hlo : loL v % 4294967296 = v := by have := parts_sum hv; rw [h0] at this; simpa using this
      refine const_walk1 r v _ cs X hv hr hX (fun w tb => const_low _ v _ hb hv h0 rfl w tb) (.inl ((high_zero hv).1 h0)) (enc_bd hl) { storeS (regS X 31) 1024 4 (encL 19 r 0 0 (loL v)) with x := setX (storeS (regS X 31) 1024 4 (encL 19 r 0 0 (loL v))).x r v, pc := 1028 } ?_ rfl rfl w tabs
      rw [step_word (op := 19) (d := r) (a := 0) (b := 0) (i := loL v) (by rfl) (load_store (enc_bd hl)) hl, do_addi]
      have z : (storeS (regS X 31) 1024 4 (encL 19 r 0 0 (loL v))).x 0 = 0 := regs_zero X
      rw [z]
      simp only [Out.told]
      congr 2
      congr 1
      omega
    · by_cases h1 : loL v = 0
      · have hl := isL_lui hb (hiL_bd v) (hiL_low v)
        have hhi : hiL v % 4294967296 = v := by have := parts_sum hv; rw [h1] at this; simpa using this
        have hsm : wrap32 v < -2048 ∨ (-2048 ≤ wrap32 v ∧ 2048 ≤ wrap32 v) := by have := mt (high_zero hv).2 h0; omega
        have hz := low_zero.1 h1
        rw [hz] at hand
        refine const_walk1 r v _ cs X hv hr hX (fun w tb => const_high _ v _ hb hv h1 h0 rfl w tb) (.inr (hsm.elim (fun h => .inl ⟨h, hand⟩) (fun h => .inr ⟨h.1, h.2, hand⟩))) (enc_bd hl) { storeS (regS X 31) 1024 4 (encL 1 r 0 0 (hiL v)) with x := setX (storeS (regS X 31) 1024 4 (encL 1 r 0 0 (hiL v))).x r v, pc := 1028 } ?_ rfl rfl w tabs
        rw [step_word (op := 1) (d := r) (a := 0) (b := 0) (i := hiL v) (by rfl) (load_store (enc_bd hl)) hl, do_lui]
        have z : (storeS (regS X 31) 1024 4 (encL 1 r 0 0 (hiL v))).x 0 = 0 := regs_zero X
        rw [z]
        simp only [Out.told]
        congr 2
        congr 1
        omega
      · have hl := isL_lui hb (hiL_bd v) (hiL_low v)
        have hk := isL_addi hb (.inr rfl) (loL_bd v)
        have hsum := parts_sum hv
        have hsm : wrap32 v < -2048 ∨ (-2048 ≤ wrap32 v ∧ 2048 ≤ wrap32 v) := by have := mt (high_zero hv).2 h0; omega
        have hz := mt low_zero.2 h1
        have hand2 : (bits .and .u32 v 4095 == 0) = false := by rw [hand]; simpa using hz
        have bx := enc_bd hl
        have by_ := enc_bd hk
        refine const_walk2 r v _ _ cs X hv hr hX (fun w tb => const_both _ v _ _ hb hv h1 h0 rfl rfl w tb) (hsm.elim (fun h => .inl ⟨h, hand2⟩) (fun h => .inr ⟨h.1, h.2, hand2⟩)) bx by_
          { storeS (storeS (regS X 31) 1024 4 (encL 1 r 0 0 (hiL v))) 1028 4 (encL 19 r r 0 (loL v)) with x := setX (storeS (storeS (regS X 31) 1024 4 (encL 1 r 0 0 (hiL v))) 1028 4 (encL 19 r r 0 (loL v))).x r (hiL v % 4294967296), pc := 1028 }
          { storeS (storeS (regS X 31) 1024 4 (encL 1 r 0 0 (hiL v))) 1028 4 (encL 19 r r 0 (loL v)) with x := setX (storeS (storeS (regS X 31) 1024 4 (encL 1 r 0 0 (hiL v))) 1028 4 (encL 19 r r 0 (loL v))).x r v, pc := 1032 } ?_ ?_ rfl rfl w tabs
        · have hw : wordM (storeS (storeS (regS X 31) 1024 4 (encL 1 r 0 0 (hiL v))) 1028 4 (encL 19 r r 0 (loL v))).m 1024 4 = encL 1 r 0 0 (hiL v) := (load_other (by omega)).trans (load_store bx)
          rw [step_word (op := 1) (d := r) (a := 0) (b := 0) (i := hiL v) (by rfl) hw hl, do_lui]
          have z : (storeS (storeS (regS X 31) 1024 4 (encL 1 r 0 0 (hiL v))) 1028 4 (encL 19 r r 0 (loL v))).x 0 = 0 := regs_zero X
          rw [z]
          simp only [Out.told]
          congr 2
          congr 1
          omega
        · generalize hS : storeS (storeS (regS X 31) 1024 4 (encL 1 r 0 0 (hiL v))) 1028 4 (encL 19 r r 0 (loL v)) = S
          have hm : S.m = storeM (storeS (regS X 31) 1024 4 (encL 1 r 0 0 (hiL v))).m 1028 4 (encL 19 r r 0 (loL v)) := by rw [← hS]; rfl
          have hw : wordM S.m 1028 4 = encL 19 r r 0 (loL v) := by rw [hm]; exact load_store by_
          have z : S.x 0 = 0 := by rw [← hS]; exact regs_zero X
          clear hS hm
          rw [step_word (s := { S with x := setX S.x r (hiL v % 4294967296), pc := 1028 }) (op := 19) (d := r) (a := r) (b := 0) (i := loL v) (by rfl) hw hk, do_addi]
          simp only [Out.told]
          rw [setX_self _ _ _ (by omega), setX_zero' _ _ _ (by omega), z, setX_twice]
          congr 2
          congr 1
          omega
end Go.Proofs.YtbalnlodkiejcaaDoor
