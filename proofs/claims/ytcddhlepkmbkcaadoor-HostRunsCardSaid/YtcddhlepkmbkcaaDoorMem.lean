/- HostMemory. -/
import Derived.Test.YtcddhlepkmbkcaaDoorQ1
import Derived.Test.YtcddhlepkmbkcaaDoorO0
import Derived.Deep.QuietTactic
import Derived.BigQuiet
import Derived.StillTailTactics
import Derived.Deep.RegionHeld3
namespace Go.Proofs.YtcddhlepkmbkcaaDoor
open Go.RowKit
set_option linter.unusedVariables false
set_option linter.unusedSimpArgs false
set_option linter.unusedSectionVars false

theorem Bo.drewN {n0 : Nat} {w0 w : World} {B R M : Nat} {s t : St} (b : Bo n0 w0 w B R M s t) (n : Nat) : Bo n0 w0 (w.drewN n) B R M s t :=
  ⟨⟨b.h.gl, b.h.blk, b.h.ok⟩, ⟨b.r.gl, b.r.gm, b.r.ne, b.r.blk, b.r.mem, b.r.ok⟩, ⟨b.k.os, b.k.tape, b.k.output, b.k.size, b.k.block⟩, b.tb, b.nr, b.nm, b.lb, b.lr, b.lm⟩
theorem Bo.drew {n0 : Nat} {w0 w : World} {B R M : Nat} {s t : St} (b : Bo n0 w0 w B R M s t) : Bo n0 w0 w.drew B R M s t :=
  ⟨⟨b.h.gl, b.h.blk, b.h.ok⟩, ⟨b.r.gl, b.r.gm, b.r.ne, b.r.blk, b.r.mem, b.r.ok⟩, ⟨b.k.os, b.k.tape, b.k.output, b.k.size, b.k.block⟩, b.tb, b.nr, b.nm, b.lb, b.lr, b.lm⟩
theorem ix_slice (b off len cap k : Nat) (h : k < len) (W : World) : (Instr.indexAt 43 (.slice (some ⟨b, off, none⟩) len cap) (.int .i64 k)).run Tryd.prog W = .ok (.pointer (some ⟨b, off + 3 * k, none⟩)) W := by
  have s1 : ∀ W, (sizeOf 45).run Tryd.prog W = .ok 3 W := fun W => by kernel_rfl
  simp [Instr.indexAt, run_underlying Tryd.underlying43, s1, go_sem, h]
set_option maxHeartbeats 2000000 in
set_option maxRecDepth 20000 in
theorem memory_walk (a : Option Addr) (len cap : Nat) (Z : Nat → Nat → Int) (w : World) (tabs : Tabs w) (hl : Rows3 w a len cap Z) :
    Calls Tryd.prog 5 #[.slice a len cap] w fun e w' => e = .returned (.bool true) ∧ Below w.heap.size w w' := by
  by_cases h40 : 40 < len
  · go_enter Tryd.func5, Tryd.ntmps5
    go_wp2_with fail
    refine (known_any _ tabs).mono ?_
    rintro e w0 ⟨rfl, b0⟩
    go_wp2_with fail
    go_ret
    exact ⟨rfl, b0⟩
  · go_enter Tryd.func5, Tryd.ntmps5
    go_wp2_with fail
    refine (known_any _ tabs).mono ?_
    rintro e w0 ⟨rfl, b0⟩
    have tabs0 := tabs.below b0
    go_wp2_with fail
    refine (aNew _ tabs0).mono ?_
    rintro e w1 ⟨rfl, A⟩
    go_wp2_with fail
    refine (rNew_any _ A.t).mono ?_
    rintro e w2 ⟨rfl, hr, kr⟩
    have bo := Bo.new A hr kr
    have hsz := b0.size
    generalize w0.heap.size = B at *
    generalize hR : w1.heap.size + 1 = R at *
    generalize w1.heap.size = M at *
    go_wp2_with fail
    go_loopw [5] (fun ii W => ∃ (k : Nat) (s : St), k ≤ len ∧ ii = .int .i64 k ∧ Bo B w0 W B R M s s) (fun ii _ => (len - intOf ii).toNat)
    case atStart => exact ⟨0, newS, by omega, rfl, bo⟩
    case round =>
      obtain ⟨k, s, hk, rfl, c⟩ := hrel
      by_cases hlt : k < len
      · rcases hl with rfl | ⟨b, off, rfl, hcap, hc⟩
        · omega
        · have hcell := fun j hj => hc k hlt j hj
          clear hc
          have hix := ix_slice b off len cap k hlt
          have hbw : b < w.heap.size := size_of_cell (hcell 0 (by decide)).1
          have q0 := hcell 0 (by decide)
          have q1 := hcell 1 (by decide)
          have q2 := hcell 2 (by decide)
          clear hcell
          generalize off + 3 * k = o at *
          generalize Z k 0 = z0 at *
          generalize Z k 1 = z1 at *
          generalize Z k 2 = z2 at *
          obtain ⟨q0, v0⟩ := q0
          obtain ⟨q1, v1⟩ := q1
          obtain ⟨q2, v2⟩ := q2
          have up : ∀ {j : Nat} {v : Value}, w.cell? ⟨b, j, none⟩ = some v → ∀ {W : World}, Below B w0 W → W.cell? ⟨b, j, none⟩ = some v := fun hq W hW =>
            (hW.cell (p := ⟨b, _, none⟩) (show b < B by omega)).trans ((b0.cell (p := ⟨b, _, none⟩) hbw).trans hq)
          have c0 := up q0 c.done
          have c1 := up q1 c.done
          go_wp2_with fail
          go_quiet (fail)
          replace c := c.drewN nq
          generalize wr.drewN nq = w3 at *
          clear c0 c1
          go_wp2_with fail
          have cd := c.drew
          have c2 := up q2 cd.done
          have b6 : 0 ≤ z1 % 6 ∧ z1 % 6 < 6 := by omega
          generalize z1 % 6 = n at *
          go_region_held3 (fun W => W.cell? ⟨b, o + 2, none⟩ = some (.int .u32 z2))
            (first | exact c2 | exact up q2 (Bo.done ‹Bo B w0 _ B R M _ _›))
            (first | (go_at_call 13; refine (bStore ‹Bo B w0 _ B R M s s› z0 n z2 v0 v2).mono ?_; rintro e w' ⟨rfl, cA⟩) | (go_at_call 14; refine (bStoreR ‹Bo B w0 _ B R M (putS s z0 n z2) s› z0 n z2 v0 (by omega) v2).mono ?_; rintro e w' ⟨rfl, cB⟩))
          clear c2 cd c cA
          generalize putS s z0 n z2 = s2 at *
          go_wp2_with fail
          go_loopw [8] (fun jj W => ∃ j : Nat, j ≤ 6 ∧ jj = .int .i64 j ∧ Bo B w0 W B R M s2 s2) (fun jj _ => (6 - intOf jj).toNat)
          case atStart => exact ⟨0, by omega, rfl, cB⟩
          case round =>
            obtain ⟨j, hj, rfl, d⟩ := hrel
            by_cases hj6 : j < 6
            · go_wp2_with fail
              refine (bLoad d z0 j v0).mono ?_
              rintro e x1 ⟨rfl, d1⟩
              go_wp2_with fail
              refine (bLoadR d1 z0 j v0 (by omega)).mono ?_
              rintro e x2 ⟨rfl, d2⟩
              go_wp2_with fail
              go_roundw
              case rel => exact ⟨j + 1, by omega, by go_num, d2⟩
              case measure => simp [intOf]; omega
            · obtain rfl : j = 6 := by omega
              go_wp2_with fail
              go_roundw
              case rel => exact ⟨k + 1, s2, by omega, by go_num, d⟩
              case measure => simp [intOf]; omega
      · obtain rfl : k = len := by omega
        go_wp2_with fail
        refine (memory_any c rfl).mono ?_
        rintro e x1 ⟨rfl, d⟩
        go_wp2_with fail
        go_ret
        exact ⟨rfl, b0.trans (d.done.mono hsz)⟩
end Go.Proofs.YtcddhlepkmbkcaaDoor
