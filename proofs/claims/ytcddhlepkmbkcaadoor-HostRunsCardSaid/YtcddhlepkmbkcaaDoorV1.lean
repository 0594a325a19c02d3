/- Both hosts are told to be alike: nothing made is lost. Three hosts side by side. -/
import Derived.Test.YtcddhlepkmbkcaaDoorQ7
import Derived.Test.YtcddhlepkmbkcaaDoorV0
import Derived.Test.YtcddhlepkmbkcaaDoorMem
namespace Go.Proofs.YtcddhlepkmbkcaaDoor
open Go.RowKit
set_option linter.unusedVariables false
set_option linter.unusedSimpArgs false
set_option linter.unusedSectionVars false

structure Be (w0 w : World) (B R M : Nat) (s t : St) : Prop where
  h : HAt w B s
  r : RAt w R M t
  k : Below w0.heap.size w0 w
theorem Be.drewN' {w0 w : World} {B R M : Nat} {s t : St} (b : Be w0 w B R M s t) (n : Nat) : Be w0 (w.drewN n) B R M s t :=
  ⟨⟨b.h.gl, b.h.blk, b.h.ok⟩, ⟨b.r.gl, b.r.gm, b.r.ne, b.r.blk, b.r.mem, b.r.ok⟩, ⟨b.k.os, b.k.tape, b.k.output, b.k.size, b.k.block⟩⟩
theorem Be.below {w0 w w' : World} {B R M : Nat} {s t : St} (b : Be w0 w B R M s t) (k : Below w.heap.size w w') : Be w0 w' B R M s t :=
  ⟨b.h.below k b.h.lt, b.r.below k b.r.lt b.r.ltm, b.k.trans (k.mono b.k.size)⟩
theorem eLoad {w0 w : World} {B R M : Nat} {s t : St} (b : Be w0 w B R M s t) (p n : Int) (ha : 0 ≤ p ∧ p ≤ 4294967295) :
    Calls Tryd.prog 25 #[hp B, .int .u32 p, .int .i64 n] w fun e w' => e = .returned (.tuple #[.int .u32 (loadL s p n), .bool (fitsL p n)]) ∧ Be w0 w' B R M s t := by
  unfold loadL
  cases hf : fitsL p n with
  | true => rw [if_pos rfl]; exact (Load_yes b.h p n ha hf).mono fun e w' h => ⟨h.1, b.below h.2⟩
  | false => rw [if_neg (by decide)]; exact (Load_no b.h p n ha hf).mono fun e w' h => ⟨h.1, h.2 ▸ b⟩
theorem eLoadR {w0 w : World} {B R M : Nat} {s t : St} (b : Be w0 w B R M s t) (p n : Int) (ha : 0 ≤ p ∧ p ≤ 4294967295) (hn : -9223372036854775808 ≤ n ∧ n ≤ 9223372036854775807) :
    Calls Tryd.prog 26 #[rp R, .int .u32 p, .int .i64 n] w fun e w' => e = .returned (.tuple #[.int .u32 (loadL t p n), .bool (fitsL p n)]) ∧ Be w0 w' B R M s t := by
  unfold loadL
  cases hf : fitsL p n with
  | true => rw [if_pos rfl]; exact (rLoad_yes b.r p n ha hn hf).mono fun e w' h => ⟨h.1, b.below h.2⟩
  | false => rw [if_neg (by decide)]; exact (rLoad_no b.r p n ha hn hf).mono fun e w' h => ⟨h.1, h.2 ▸ b⟩
set_option maxRecDepth 20000 in
/-- All registers, the place, what Why tells are the same. -/
theorem alike_x {w : World} {B R M : Nat} {s : St} (h : HAt w B s) (r : RAt w R M s) :
    Calls Tryd.prog 17 #[hp B, rp R] w fun e w' => e = .returned (.bool true) ∧ Below w.heap.size w w' := by
  have b : Be w w B R M s s := ⟨h, r, Below.refl _ _⟩
  clear h r
  have hP := PC_any b.h
  have hW := Why_any b.h
  have hX := fun i w1 (h : HAt w1 B s) => X_any h i
  have rp1 := b.r.pc
  have rw1 := b.r.why
  go_enter Tryd.func17, Tryd.ntmps17
  go_wp2_with fail
  have hP := fun n => PC_any (b.drewN' n).h
  have hW := fun n => Why_any (b.drewN' n).h
  go_quiet (first | ((go_at_call 29; refine (hP _).mono ?_; rintro e w'' ⟨rfl, rfl⟩; exact ⟨rfl, _, rfl⟩)) | ((go_at_call 30; refine (hW _).mono ?_; rintro e w'' ⟨rfl, rfl⟩; exact ⟨rfl, _, rfl⟩)))
  replace b := b.drewN' nq
  generalize w.drewN nq = w1 at *
  clear hP hW hX rp1 rw1
  go_wp2_with fail
  go_loopw [5] (fun ii W => ∃ k : Nat, k ≤ 32 ∧ ii = .int .i64 k ∧ Be w W B R M s s) (fun ii _ => (32 - intOf ii).toNat)
  case atStart => exact ⟨0, by omega, rfl, b⟩
  case round =>
    obtain ⟨k, hk, rfl, c⟩ := hrel
    by_cases hlt : k < 32
    · have hc := c.r.x k hlt
      have hX := fun n => X_any (c.drewN' n).h k
      rw [getX_in c.h.ok (by omega) (by omega)] at hX
      go_wp2_with fail
      go_quiet (first | ((go_at_call 27; refine (hX _).mono ?_; rintro e w'' ⟨rfl, rfl⟩; exact ⟨rfl, _, rfl⟩)))
      replace c := c.drewN' nq
      generalize wr.drewN nq = w2 at *
      clear hX hc
      go_wp2_with fail
      go_roundw
      case rel => exact ⟨k + 1, by omega, by go_num, c⟩
      case measure => simp [intOf]; omega
    · obtain rfl : k = 32 := by omega
      go_wp2_with fail
      go_ret
      exact ⟨rfl, c.k⟩
set_option maxRecDepth 20000 in
/-- All words of both memories are the same. -/
theorem memory_x {w : World} {B R M : Nat} {s : St} (h : HAt w B s) (r : RAt w R M s) :
    Calls Tryd.prog 18 #[hp B, rp R] w fun e w' => e = .returned (.bool true) ∧ Below w.heap.size w w' := by
  have b : Be w w B R M s s := ⟨h, r, Below.refl _ _⟩
  clear h r
  go_enter Tryd.func18, Tryd.ntmps18
  go_wp2_with fail
  go_loopw [5] (fun ii W => ∃ (k : Nat) (p : Int), k ≤ 8192 ∧ p = ((4 * k : Nat) : Int) ∧ ii = .int .u32 p ∧ Be w W B R M s s) (fun ii _ => (32768 - intOf ii).toNat)
  case atStart => exact ⟨0, 0, by omega, rfl, rfl, b⟩
  case round =>
    obtain ⟨k, p, hk, hp, rfl, c⟩ := hrel
    by_cases hlt : p < 32768
    · have b1 : 0 ≤ p ∧ p + 4 ≤ 32768 := by omega
      have hp' := hid hp
      clear hp
      go_wp2_with fail
      refine (eLoad c p 4 (by omega)).mono ?_
      rintro e w1 ⟨rfl, c1⟩
      go_wp2_with fail
      refine (eLoadR c1 p 4 (by omega) (by omega)).mono ?_
      rintro e w2 ⟨rfl, c2⟩
      go_wp2_with fail
      go_roundw
      case rel => exact ⟨k + 1, p + 4, by have := hp'.out; omega, by have := hp'.out; omega, by go_num, c2⟩
      case measure => simp [intOf]; omega
    · have hp2 : p = 32768 := by omega
      clear hp hlt hk
      subst hp2
      go_wp2_with fail
      go_ret
      exact ⟨rfl, c.k⟩
/-- A host, the document's host, a copy. -/
structure Tri (n0 : Nat) (w0 w : World) (B R M C : Nat) (s t u : St) : Prop where
  h : HAt w B s
  r : RAt w R M t
  c : HAt w C u
  k : But [B, R, M, C] n0 w0 w
  tb : Tabs w
  nr : B ≠ R
  nm : B ≠ M
  nc : B ≠ C
  cr : C ≠ R
  cm : C ≠ M
  lb : n0 ≤ B
  lr : n0 ≤ R
  lm : n0 ≤ M
  lc : n0 ≤ C
theorem Tri.sz {n0 : Nat} {w0 w : World} {B R M C : Nat} {s t u : St} (b : Tri n0 w0 w B R M C s t u) : n0 ≤ w.heap.size := Nat.le_of_lt (Nat.lt_of_le_of_lt b.lb b.h.lt)
theorem Tri.swap {n0 : Nat} {w0 w : World} {B R M C : Nat} {s t u : St} (b : Tri n0 w0 w B R M C s t u) : Tri n0 w0 w C R M B u t s :=
  ⟨b.c, b.r, b.h, b.k.mono (Nat.le_refl _) (by intro k hk; simp at hk ⊢; omega), b.tb, b.cr, b.cm, Ne.symm b.nc, b.nr, b.nm, b.lc, b.lr, b.lm, b.lb⟩
theorem Tri.host {n0 : Nat} {w0 w w' : World} {B R M C : Nat} {s t u s' : St} (b : Tri n0 w0 w B R M C s t u) (h : HAt w' B s') (k : But [B] w.heap.size w w') : Tri n0 w0 w' B R M C s' t u :=
  ⟨h, b.r.but k b.r.lt b.r.ltm (by simpa using Ne.symm b.nr) (by simpa using Ne.symm b.nm), b.c.but k b.c.lt (by simpa using Ne.symm b.nc), b.k.trans (k.mono b.sz (by simp)), b.tb.but k (by simpa using b.h.gl), b.nr, b.nm, b.nc, b.cr, b.cm, b.lb, b.lr, b.lm, b.lc⟩
theorem Tri.ref {n0 : Nat} {w0 w w' : World} {B R M C : Nat} {s t u t' : St} (b : Tri n0 w0 w B R M C s t u) (h : RAt w' R M t') (k : But [R, M] w.heap.size w w') : Tri n0 w0 w' B R M C s t' u :=
  ⟨b.h.but k b.h.lt (by simp [b.nr, b.nm]), h, b.c.but k b.c.lt (by simp [b.cr, b.cm]), b.k.trans (k.mono b.sz (by simp)), b.tb.but k (by simp [b.r.gl, b.r.gm]), b.nr, b.nm, b.nc, b.cr, b.cm, b.lb, b.lr, b.lm, b.lc⟩
theorem Tri.below {n0 : Nat} {w0 w w' : World} {B R M C : Nat} {s t u : St} (b : Tri n0 w0 w B R M C s t u) (k : Below w.heap.size w w') : Tri n0 w0 w' B R M C s t u :=
  b.host (b.h.below k b.h.lt) (But.of k _)
theorem Tri.done {n0 : Nat} {w0 w : World} {B R M C : Nat} {s t u : St} (b : Tri n0 w0 w B R M C s t u) : Below n0 w0 w := b.k.below (Nat.le_refl _) (by simp [b.lb, b.lr, b.lm, b.lc])
theorem Bo.copy {n0 : Nat} {w0 w w' : World} {B R M : Nat} {s t : St} (b : Bo n0 w0 w B R M s t) (h : HAt w' w.heap.size s) (k : Below w.heap.size w w') : Tri n0 w0 w' B R M w.heap.size s t s := by
  have c := b.below k
  have l1 := b.h.lt
  have l2 := b.r.lt
  have l3 := b.r.ltm
  have l0 := b.sz
  exact ⟨c.h, c.r, h, c.k.mono (Nat.le_refl _) (by intro k hk; simp at hk ⊢; omega), c.tb, c.nr, c.nm, by omega, by omega, by omega, c.lb, c.lr, c.lm, l0⟩
end Go.Proofs.YtcddhlepkmbkcaaDoor
