/- Both hosts side by side. -/
import Derived.Test.YtcddhlepkmbkcaaDoorQ0
namespace Go.Proofs.YtcddhlepkmbkcaaDoor
open Go.RowKit
set_option linter.unusedVariables false
set_option linter.unusedSimpArgs false
set_option linter.unusedSectionVars false

structure Bo (n0 : Nat) (w0 w : World) (B R M : Nat) (s t : St) : Prop where
  h : HAt w B s
  r : RAt w R M t
  k : But [B, R, M] n0 w0 w
  tb : Tabs w
  nr : B ≠ R
  nm : B ≠ M
  lb : n0 ≤ B
  lr : n0 ≤ R
  lm : n0 ≤ M
theorem Bo.sz {n0 : Nat} {w0 w : World} {B R M : Nat} {s t : St} (b : Bo n0 w0 w B R M s t) : n0 ≤ w.heap.size := Nat.le_of_lt (Nat.lt_of_le_of_lt b.lb b.h.lt)
theorem Bo.host {n0 : Nat} {w0 w w' : World} {B R M : Nat} {s t s' : St} (b : Bo n0 w0 w B R M s t) (h : HAt w' B s') (k : But [B] w.heap.size w w') : Bo n0 w0 w' B R M s' t :=
  ⟨h, b.r.but k b.r.lt b.r.ltm (by simpa using Ne.symm b.nr) (by simpa using Ne.symm b.nm), b.k.trans (k.mono b.sz (by simp)), b.tb.but k (by simpa using b.h.gl), b.nr, b.nm, b.lb, b.lr, b.lm⟩
theorem Bo.ref {n0 : Nat} {w0 w w' : World} {B R M : Nat} {s t t' : St} (b : Bo n0 w0 w B R M s t) (h : RAt w' R M t') (k : But [R, M] w.heap.size w w') : Bo n0 w0 w' B R M s t' :=
  ⟨b.h.but k b.h.lt (by simp [b.nr, b.nm]), h, b.k.trans (k.mono b.sz (by simp)), b.tb.but k (by simp [b.r.gl, b.r.gm]), b.nr, b.nm, b.lb, b.lr, b.lm⟩
theorem Bo.below {n0 : Nat} {w0 w w' : World} {B R M : Nat} {s t : St} (b : Bo n0 w0 w B R M s t) (k : Below w.heap.size w w') : Bo n0 w0 w' B R M s t :=
  b.host (b.h.below k b.h.lt) (But.of k _)
theorem Bo.done {n0 : Nat} {w0 w : World} {B R M : Nat} {s t : St} (b : Bo n0 w0 w B R M s t) : Below n0 w0 w := b.k.below (Nat.le_refl _) (by simp [b.lb, b.lr, b.lm])
theorem bLoad {n0 : Nat} {w0 w : World} {B R M : Nat} {s t : St} (b : Bo n0 w0 w B R M s t) (p n : Int) (ha : 0 ≤ p ∧ p ≤ 4294967295) :
    Calls Tryd.prog 25 #[hp B, .int .u32 p, .int .i64 n] w fun e w' => e = .returned (.tuple #[.int .u32 (loadL s p n), .bool (fitsL p n)]) ∧ Bo n0 w0 w' B R M s t := by
  unfold loadL
  cases hf : fitsL p n with
  | true => rw [if_pos rfl]; exact (Load_yes b.h p n ha hf).mono fun e w' h => ⟨h.1, b.below h.2⟩
  | false => rw [if_neg (by decide)]; exact (Load_no b.h p n ha hf).mono fun e w' h => ⟨h.1, h.2 ▸ b⟩
theorem bLoadR {n0 : Nat} {w0 w : World} {B R M : Nat} {s t : St} (b : Bo n0 w0 w B R M s t) (p n : Int) (ha : 0 ≤ p ∧ p ≤ 4294967295) (hn : -9223372036854775808 ≤ n ∧ n ≤ 9223372036854775807) :
    Calls Tryd.prog 26 #[rp R, .int .u32 p, .int .i64 n] w fun e w' => e = .returned (.tuple #[.int .u32 (loadL t p n), .bool (fitsL p n)]) ∧ Bo n0 w0 w' B R M s t := by
  unfold loadL
  cases hf : fitsL p n with
  | true => rw [if_pos rfl]; exact (rLoad_yes b.r p n ha hn hf).mono fun e w' h => ⟨h.1, b.below h.2⟩
  | false => rw [if_neg (by decide)]; exact (rLoad_no b.r p n ha hn hf).mono fun e w' h => ⟨h.1, h.2 ▸ b⟩
def putS (s : St) (p n v : Int) : St := if fitsL p n = true then storeS s p n v else s
theorem bStore {n0 : Nat} {w0 w : World} {B R M : Nat} {s t : St} (b : Bo n0 w0 w B R M s t) (p n v : Int) (ha : 0 ≤ p ∧ p ≤ 4294967295) (hv : 0 ≤ v ∧ v ≤ 4294967295) :
    Calls Tryd.prog 13 #[hp B, .int .u32 p, .int .i64 n, .int .u32 v] w fun e w' => e = .returned (.bool (fitsL p n)) ∧ Bo n0 w0 w' B R M (putS s p n v) t := by
  unfold putS
  cases hf : fitsL p n with
  | true => rw [if_pos rfl]; exact (Store_yes b.h p n v ha hv hf).mono fun e w' h => ⟨h.1, b.host h.2.1 h.2.2⟩
  | false => rw [if_neg (by decide)]; exact (Store_no b.h p n v ha hf).mono fun e w' h => ⟨h.1, h.2 ▸ b⟩
theorem bStoreR {n0 : Nat} {w0 w : World} {B R M : Nat} {s t : St} (b : Bo n0 w0 w B R M s t) (p n v : Int) (ha : 0 ≤ p ∧ p ≤ 4294967295) (hn : -9223372036854775808 ≤ n ∧ n ≤ 9223372036854775807) (hv : 0 ≤ v ∧ v ≤ 4294967295) :
    Calls Tryd.prog 14 #[rp R, .int .u32 p, .int .i64 n, .int .u32 v] w fun e w' => e = .returned (.bool (fitsL p n)) ∧ Bo n0 w0 w' B R M s (putS t p n v) := by
  unfold putS
  cases hf : fitsL p n with
  | true => rw [if_pos rfl]; exact (rStore_yes b.r p n v ha hn hv hf).mono fun e w' h => ⟨h.1, b.ref h.2.1 (h.2.2.mono (Nat.le_refl _) (by simp))⟩
  | false => rw [if_neg (by decide)]; exact (rStore_no b.r p n v ha hn hf).mono fun e w' h => ⟨h.1, h.2 ▸ b⟩
/-- New hosts of both kinds. -/
theorem Bo.new {w0 w1 w2 : World} (h : At w0 w1 w0.heap.size newS) (r : RAt w2 (w1.heap.size + 1) w1.heap.size newS) (k : Below w1.heap.size w1 w2) : Bo w0.heap.size w0 w2 w0.heap.size (w1.heap.size + 1) w1.heap.size newS newS :=
  have hlt := h.h.lt
  ⟨h.h.below k h.h.lt, r, (h.k.mono (Nat.le_refl _) (by simp)).trans (But.of (k.mono (Nat.le_of_lt hlt)) _), h.t.below k, by omega, by omega, Nat.le_refl _, by omega, by omega⟩
set_option maxRecDepth 20000 in
/-- All words of both memories are the same. -/
theorem memory_any {n0 : Nat} {w0 w : World} {B R M : Nat} {s t : St} (b : Bo n0 w0 w B R M s t) (hm : s.m = t.m) :
    Calls Tryd.prog 18 #[hp B, rp R] w fun e w' => e = .returned (.bool true) ∧ Bo n0 w0 w' B R M s t := by
  go_enter Tryd.func18, Tryd.ntmps18
  go_wp2_with fail
  go_loopw [5] (fun ii W => ∃ (k : Nat) (p : Int), k ≤ 8192 ∧ p = ((4 * k : Nat) : Int) ∧ ii = .int .u32 p ∧ Bo n0 w0 W B R M s t) (fun ii _ => (32768 - intOf ii).toNat)
  case atStart => exact ⟨0, 0, by omega, rfl, rfl, b⟩
  case round =>
    obtain ⟨k, p, hk, hp, rfl, c⟩ := hrel
    have he : loadL t p 4 = loadL s p 4 := by unfold loadL; rw [hm]
    by_cases hlt : p < 32768
    · have b1 : 0 ≤ p ∧ p + 4 ≤ 32768 := by omega
      have hp' := hid hp
      clear hp
      go_wp2_with fail
      refine (bLoad c p 4 (by omega)).mono ?_
      rintro e w1 ⟨rfl, c1⟩
      go_wp2_with fail
      refine (bLoadR c1 p 4 (by omega) (by omega)).mono ?_
      rintro e w2 ⟨rfl, c2⟩
      rw [he]
      go_wp2_with fail
      go_roundw
      case rel => exact ⟨k + 1, p + 4, by have := hp'.out; omega, by have := hp'.out; omega, by go_num, c2⟩
      case measure => simp [intOf]; omega
    · have hp2 : p = 32768 := by omega
      clear hp he hlt hk
      subst hp2
      go_wp2_with fail
      go_ret
      exact ⟨rfl, c⟩
end Go.Proofs.YtcddhlepkmbkcaaDoor
