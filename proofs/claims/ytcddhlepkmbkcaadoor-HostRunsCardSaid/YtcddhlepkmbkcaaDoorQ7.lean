/- Both hosts are made alike, and told to be alike. -/
import Derived.Test.YtcddhlepkmbkcaaDoorQ1
import Derived.Test.YtcddhlepkmbkcaaDoorD1
import Derived.Deep.QuietTactic
import Derived.BigQuiet
import Derived.Deep.RegionHeld3
import Derived.StillTailTactics
namespace Go.Proofs.YtcddhlepkmbkcaaDoor
open Go.RowKit
set_option linter.unusedVariables false
set_option linter.unusedSimpArgs false
set_option linter.unusedSectionVars false

theorem Bo.drewN' {n0 : Nat} {w0 w : World} {B R M : Nat} {s t : St} (b : Bo n0 w0 w B R M s t) (n : Nat) : Bo n0 w0 (w.drewN n) B R M s t :=
  ⟨⟨b.h.gl, b.h.blk, b.h.ok⟩, ⟨b.r.gl, b.r.gm, b.r.ne, b.r.blk, b.r.mem, b.r.ok⟩, ⟨b.k.os, b.k.tape, b.k.output, b.k.size, b.k.block⟩, b.tb, b.nr, b.nm, b.lb, b.lr, b.lm⟩
theorem bSetX {n0 : Nat} {w0 w : World} {B R M : Nat} {s t s' : St} (b : Bo n0 w0 w B R M s t) (i v : Int) (hv : 0 ≤ v ∧ v ≤ 4294967295) (hs : setS s i v = s') :
    Calls Tryd.prog 22 #[hp B, .int .i64 i, .int .u32 v] w fun e w' => e = .returned (.tuple #[]) ∧ Bo n0 w0 w' B R M s' t :=
  (SetX_any b.h i v hv).mono fun e w' h => ⟨h.1, b.host (hs ▸ h.2.1) h.2.2⟩
theorem bX {n0 : Nat} {w0 w : World} {B R M : Nat} {s t : St} (b : Bo n0 w0 w B R M s t) (i v : Int) (hv : getX s i = v) :
    Calls Tryd.prog 27 #[hp B, .int .i64 i] w fun e w' => e = .returned (.int .u32 v) ∧ w' = w :=
  (X_any b.h i).mono fun e w' h => ⟨hv ▸ h.1, h.2.symm⟩
set_option maxRecDepth 20000 in
/-- All registers, the place, what Why tells are the same. -/
theorem alike_any {n0 : Nat} {w0 w : World} {B R M : Nat} {s : St} (b : Bo n0 w0 w B R M s s) :
    Calls Tryd.prog 17 #[hp B, rp R] w fun e w' => e = .returned (.bool true) ∧ Bo n0 w0 w' B R M s s := by
  have hP := PC_any b.h
  have hW := Why_any b.h
  have hX := fun i w1 (h : HAt w1 B s) => X_any h i
  have rp1 := b.r.pc
  have rw1 := b.r.why
  go_enter Tryd.func17, Tryd.ntmps17
  go_wp2_with fail
  have hP := fun n => PC_any (b.drewN' n).h
  have hW := fun n => Why_any (b.drewN' n).h
  go_quiet (first | ((go_at_call 29; refine (hP _).mono ?_; rintro e w'' ⟨rfl, rfl⟩; exact ⟨rfl, _, rfl⟩)) | ((go_at_call 30; refine (hW _).mono ?_; rintro e w'' ⟨rfl, rfl⟩; exact ⟨rfl, _, rfl⟩)))
  replace b := b.drewN' nq
  generalize w.drewN nq = w1 at *
  clear hP hW hX rp1 rw1
  go_wp2_with fail
  go_loopw [5] (fun ii W => ∃ k : Nat, k ≤ 32 ∧ ii = .int .i64 k ∧ Bo n0 w0 W B R M s s) (fun ii _ => (32 - intOf ii).toNat)
  case atStart => exact ⟨0, by omega, rfl, b⟩
  case round =>
    obtain ⟨k, hk, rfl, c⟩ := hrel
    by_cases hlt : k < 32
    · have hc := c.r.x k hlt
      have hX := fun n => X_any (c.drewN' n).h k
      rw [getX_in c.h.ok (by omega) (by omega)] at hX
      go_wp2_with fail
      go_quiet (first | ((go_at_call 27; refine (hX _).mono ?_; rintro e w'' ⟨rfl, rfl⟩; exact ⟨rfl, _, rfl⟩)))
      replace c := c.drewN' nq
      generalize wr.drewN nq = w2 at *
      clear hX hc
      go_wp2_with fail
      go_roundw
      case rel => exact ⟨k + 1, by omega, by go_num, c⟩
      case measure => simp [intOf]; omega
    · obtain rfl : k = 32 := by omega
      go_wp2_with fail
      go_ret
      exact ⟨rfl, c⟩
theorem bSetX2 {n0 : Nat} {w0 w : World} {B R M : Nat} {s t s' : St} (b : Bo n0 w0 w B R M s t) (i v : Int) (hv : 0 ≤ v ∧ v ≤ 4294967295) (hs : setS s i v = s') :
    Calls Tryd.prog 22 #[hp B, .int .i64 i, .int .u32 v] w fun e w' => e = .returned (.tuple #[]) ∧ Bo n0 w0 w' B R M s' t :=
  (SetX_any b.h i v hv).mono fun e w' h => ⟨h.1, b.host (hs ▸ h.2.1) h.2.2⟩
theorem Bo.rebase {n n0 : Nat} {w w0 w' : World} {B R M : Nat} {s t : St} (b : Bo n0 w0 w' B R M s t) (h : Below n w w0) (hn : n ≤ n0) : Bo n w w' B R M s t :=
  ⟨b.h, b.r, (But.of h _).trans (b.k.mono hn (by simp)), b.tb, b.nr, b.nm, Nat.le_trans hn b.lb, Nat.le_trans hn b.lr, Nat.le_trans hn b.lm⟩
def Words (w : World) (a : Option Addr) (len : Nat) (Z : Nat → Int) : Prop :=
  len = 0 ∨ ∃ b off, a = some ⟨b, off, none⟩ ∧ ∀ i, i < len → w.cell? ⟨b, off + i, none⟩ = some (.int .u32 (Z i)) ∧ 0 ≤ Z i ∧ Z i ≤ 4294967295
theorem ix_words (b off len cap k : Nat) (h : k < len) (W : World) : (Instr.indexAt 33 (.slice (some ⟨b, off, none⟩) len cap) (.int .i64 k)).run Tryd.prog W = .ok (.pointer (some ⟨b, off + k, none⟩)) W := by
  have s1 : ∀ W, (sizeOf 24).run Tryd.prog W = .ok 1 W := fun W => by kernel_rfl
  simp [Instr.indexAt, run_underlying Tryd.underlying33, s1, go_sem, h]
theorem ix_regs (b j : Nat) (h : j < 31) (W : World) : (Instr.indexAt 25 (.pointer (some ⟨b, 0, none⟩)) (.int .i64 j)).run Tryd.prog W = .ok (.pointer (some ⟨b, j, none⟩)) W := by
  have s1 : ∀ W, (sizeOf 24).run Tryd.prog W = .ok 1 W := fun W => by kernel_rfl
  have hj : (j : Int) < 31 := by omega
  simp [Instr.indexAt, run_underlying Tryd.underlying25, s1, go_sem, hj, h, Instr.sureAddr]
theorem ix_host (b j : Nat) (h : j < 31) (W : World) : (Instr.indexAt 64 (.pointer (some ⟨b, 0, none⟩)) (.int .i64 ((j : Int) + 1))).run Tryd.prog W = .ok (.pointer (some ⟨b, j + 1, none⟩)) W := by
  have s1 : ∀ W, (sizeOf 24).run Tryd.prog W = .ok 1 W := fun W => by kernel_rfl
  have hj : (j : Int) + 1 < 32 := by omega
  have hj2 : 0 ≤ (j : Int) + 1 := by omega
  have e : ((j : Int) + 1).toNat = j + 1 := by omega
  simp [Instr.indexAt, run_underlying Tryd.underlying64, s1, go_sem, hj, hj2, e, Instr.sureAddr]
set_option maxHeartbeats 2000000 in
set_option maxRecDepth 20000 in
theorem both_any (a : Option Addr) (len cap : Nat) (Z : Nat → Int) (cs : Array Value) (X : Nat → Int) (pc : Int) (w : World) (tabs : Tabs w) (hl : Words w a len Z) (h40 : len ≤ 40)
    (hX : cs.size = 31 ∧ ∀ i, i < 31 → cs[i]? = some (.int .u32 (X i)) ∧ 0 ≤ X i ∧ X i ≤ 4294967295) (hpc : 0 ≤ pc ∧ pc ≤ 4294967295) :
    Calls Tryd.prog 12 #[.slice a len cap, .agg cs, .int .u32 pc] w fun e w' => ∃ B R M s, e = .returned (.tuple #[hp B, rp R]) ∧ Bo w.heap.size w w' B R M s s := by
  have ka : Below w.heap.size w (w.alloc (.cells cs 25)) := (Below.refl _ _).alloc (Nat.le_refl _) _
  have ta := tabs.below ka
  have qx : ∀ i, i < 31 → (w.alloc (.cells cs 25)).cell? ⟨w.heap.size, i, none⟩ = some (.int .u32 (X i)) := fun i hi => by
    have := (hX.2 i hi).1
    simp [World.cell?_alloc_new, this]
  go_enter Tryd.func12, Tryd.ntmps12
  go_wp2_with fail
  generalize hw0 : w.alloc (.cells cs 25) = w0 at *
  have zx : w.heap.size < w0.heap.size := by rw [← hw0]; simp
  clear hw0
  refine (aNew _ ta).mono ?_
  rintro e w1 ⟨rfl, A⟩
  go_wp2_with fail
  refine (rNew_any _ A.t).mono ?_
  rintro e w2 ⟨rfl, hr, kr⟩
  have bo := Bo.new A hr kr
  clear A hr kr
  generalize w0.heap.size = B at *
  generalize w1.heap.size + 1 = R at *
  generalize w1.heap.size = M at *
  generalize hLr : w.heap.size = Lr at *
  have up : ∀ {j : Nat} {v : Value}, w0.cell? ⟨Lr, j, none⟩ = some v → ∀ {W : World}, Below B w0 W → W.cell? ⟨Lr, j, none⟩ = some v := fun hq W hW => (hW.cell (p := ⟨Lr, _, none⟩) zx).trans hq
  go_wp2_with fail
  go_loopw [10] (fun ii W => ∃ (k : Nat) (s : St), k ≤ len ∧ ii = .int .i64 k ∧ Bo B w0 W B R M s s) (fun ii _ => (len - intOf ii).toNat)
  case atStart => exact ⟨0, newS, by omega, rfl, bo⟩
  case round =>
    clear bo
    obtain ⟨k, s, hk, rfl, c⟩ := hrel
    by_cases hlt : k < len
    · rcases hl with rfl | ⟨b, off, rfl, hc⟩
      · omega
      · obtain ⟨q0, v0⟩ := hc k hlt
        have hbw : b < w.heap.size := size_of_cell q0
        have hix := ix_words b off len cap k hlt
        have upw : ∀ {W : World}, Below B w0 W → W.cell? ⟨b, off + k, none⟩ = some (.int .u32 (Z k)) := fun {W} hW => (hW.cell (p := ⟨b, off + k, none⟩) (show b < B by omega)).trans ((ka.cell (p := ⟨b, off + k, none⟩) (hLr ▸ hbw)).trans q0)
        have c0 := upw c.done
        have bp : 0 ≤ 1024 + 4 * (k : Int) ∧ 1024 + 4 * (k : Int) ≤ 4294967295 := by omega
        clear hc q0
        generalize Z k = z at *
        go_wp2_with fail
        refine (bStore c (1024 + 4 * (k : Int)) 4 z bp v0).mono ?_
        rintro e x1 ⟨rfl, c1⟩
        have c0' := upw c1.done
        go_wp2_with fail
        refine (bStoreR c1 (1024 + 4 * (k : Int)) 4 z bp (by decide) v0).mono ?_
        rintro e x2 ⟨rfl, c2⟩
        go_wp2_with fail
        go_roundw
        case rel => exact ⟨k + 1, _, by omega, by go_num, c2⟩
        case measure => simp [intOf]; omega
    · obtain rfl : k = len := by omega
      clear hl hlt hk
      go_wp2_with fail
      go_loopw [11] (fun ii W => ∃ (j : Nat) (t : St), j ≤ 31 ∧ ii = .int .i64 ((j : Int) + 1) ∧ Bo B w0 W B R M t t) (fun ii _ => (32 - intOf ii).toNat)
      case atStart => exact ⟨0, s, by omega, by go_num, c⟩
      case round =>
        clear c
        obtain ⟨j, t, hj, rfl, d⟩ := hrel
        by_cases hlt : j < 31
        · have q := qx j hlt
          have vj := (hX.2 j hlt).2
          generalize X j = xj at *
          have c0 := up q d.done
          go_wp2_with fail
          refine (bSetX d ((j : Int) + 1) xj vj rfl).mono ?_
          rintro e x1 ⟨rfl, d1⟩
          have c1 := up q d1.done
          go_wp2_with fail
          have r1 := d1.r.x (j + 1) (by omega)
          have f1 := d1.r.fr (j + 1)
          have hset := d1.r.set_x (j + 1) (by omega) (by omega) vj
          rw [show ((j + 1 : Nat) : Int) = (j : Int) + 1 by simp] at hset
          have d3 := (d1.ref (t' := setS t ((j : Int) + 1) xj) hset ((But.refl _ _ _).setCell (by simp) _)).drewN' 1
          clear hset
          go_region
          go_wp2_with fail
          go_roundw
          case rel => exact ⟨j + 1, _, by omega, by go_num, d3⟩
          case measure => simp [intOf]; omega
        · obtain rfl : j = 31 := by omega
          go_wp2_with fail
          refine (SetPC_any d.h pc hpc).mono ?_
          rintro e x1 ⟨rfl, rfl⟩
          have d1 := d.host (d.h.set_pc hpc) ((But.refl _ _ _).setCell (by simp) _)
          generalize wr.setCell ⟨B, 32, none⟩ (.int .u32 pc) = x1 at *
          have r1 := d1.r.pc
          have f1 := d1.r.fr 32
          have d2 := d1.ref (d1.r.set_pc hpc) ((But.refl _ _ _).setCell (by simp) _)
          go_wp2_with fail
          go_ret2
          exact ⟨B, R, M, _, rfl, by rw [← hLr] at ka; exact d2.rebase ka (by omega)⟩
end Go.Proofs.YtcddhlepkmbkcaaDoor
