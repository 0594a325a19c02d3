/- One step of both memories. -/
import Derived.Test.YtohkfkojheecoaaQ0
namespace Go.Proofs.Ytohkfkojheecoaa
open Go.RowKit
set_option linter.unusedVariables false
set_option linter.unusedSimpArgs false
set_option linter.unusedSectionVars false

set_option maxHeartbeats 1000000 in
set_option maxRecDepth 8000 in
theorem step_map {B R : Nat} {m : Mm} {w : World} (pg ct rt by_ at_ v : Int) (xb : Option Addr) (lb cb : Nat) (xs : Option Addr) (ls cs : Nat) (b : Bp w.heap.size w w B R m m) (hp : I64 pg) :
    Calls Try.prog 11 #[mp B, mp R, .agg #[.int .i64 0, .int .i64 pg, .int .i64 ct, .int .i64 rt, .int .i64 by_, .int .u32 at_, .int .u32 v, .slice xb lb cb, .slice xs ls cs]] w fun e w' => e = .returned (.bool true) ∧ Bp w.heap.size w w' B R (mapS m pg ct rt) (mapS m pg ct rt) := by
  have kX := (Below.refl w.heap.size w).alloc (Nat.le_refl _) (.cells #[.int .i64 0, .int .i64 pg, .int .i64 ct, .int .i64 rt, .int .i64 by_, .int .u32 at_, .int .u32 v, .slice xb lb cb, .slice xs ls cs] 35)
  have b1 := b.below kX
  have hB := b.h.lt
  have hR := b.r.lt
  have b2 : Bp (w.alloc (.cells #[.int .i64 0, .int .i64 pg, .int .i64 ct, .int .i64 rt, .int .i64 by_, .int .u32 at_, .int .u32 v, .slice xb lb cb, .slice xs ls cs] 35)).heap.size (w.alloc (.cells #[.int .i64 0, .int .i64 pg, .int .i64 ct, .int .i64 rt, .int .i64 by_, .int .u32 at_, .int .u32 v, .slice xb lb cb, .slice xs ls cs] 35)) (w.alloc (.cells #[.int .i64 0, .int .i64 pg, .int .i64 ct, .int .i64 rt, .int .i64 by_, .int .u32 at_, .int .u32 v, .slice xb lb cb, .slice xs ls cs] 35)) B R m m := ⟨b1.h, b1.r, b1.ok, b1.ok2, But.refl _ _ _, b1.ne, Nat.le_refl _⟩
  have z1 : w.heap.size < (w.alloc (.cells #[.int .i64 0, .int .i64 pg, .int .i64 ct, .int .i64 rt, .int .i64 by_, .int .u32 at_, .int .u32 v, .slice xb lb cb, .slice xs ls cs] 35)).heap.size := by simp
  have f1 : (w.alloc (.cells #[.int .i64 0, .int .i64 pg, .int .i64 ct, .int .i64 rt, .int .i64 by_, .int .u32 at_, .int .u32 v, .slice xb lb cb, .slice xs ls cs] 35)).cell? ⟨w.heap.size, 1, none⟩ = some (.int .i64 pg) := by rw [World.cell?_alloc_new]; rfl
  have f2 : (w.alloc (.cells #[.int .i64 0, .int .i64 pg, .int .i64 ct, .int .i64 rt, .int .i64 by_, .int .u32 at_, .int .u32 v, .slice xb lb cb, .slice xs ls cs] 35)).cell? ⟨w.heap.size, 2, none⟩ = some (.int .i64 ct) := by rw [World.cell?_alloc_new]; rfl
  have f3 : (w.alloc (.cells #[.int .i64 0, .int .i64 pg, .int .i64 ct, .int .i64 rt, .int .i64 by_, .int .u32 at_, .int .u32 v, .slice xb lb cb, .slice xs ls cs] 35)).cell? ⟨w.heap.size, 3, none⟩ = some (.int .i64 rt) := by rw [World.cell?_alloc_new]; rfl
  clear b1 b
  go_enter Try.func11, Try.ntmps11
  go_wp2_with fail
  generalize w.alloc (.cells #[.int .i64 0, .int .i64 pg, .int .i64 ct, .int .i64 rt, .int .i64 by_, .int .u32 at_, .int .u32 v, .slice xb lb cb, .slice xs ls cs] 35) = wX at *
  generalize hXs : w.heap.size = X at *
  have hXs' := hid hXs
  clear hXs
  have bd := b2.drew
  have up : ∀ {W : World} {p q : Mm}, Bp wX.heap.size wX W B R p q → W.cell? ⟨X, 1, none⟩ = some (.int .i64 pg) ∧ W.cell? ⟨X, 2, none⟩ = some (.int .i64 ct) ∧ W.cell? ⟨X, 3, none⟩ = some (.int .i64 rt) := fun h => ⟨h.cell z1 (by omega) (by omega) f1, h.cell z1 (by omega) (by omega) f2, h.cell z1 (by omega) (by omega) f3⟩
  go_region_held3 (fun W => W.cell? ⟨X, 1, none⟩ = some (.int .i64 pg) ∧ W.cell? ⟨X, 2, none⟩ = some (.int .i64 ct) ∧ W.cell? ⟨X, 3, none⟩ = some (.int .i64 rt))
    (first | exact up bd | exact up ‹Bp wX.heap.size wX _ B R _ _›)
    (first | (go_at_call 17; refine (bMap bd pg ct rt hp).mono ?_; rintro e w' ⟨rfl, cA⟩) | (go_at_call 25; refine (bMapR ‹Bp wX.heap.size wX _ B R (mapS m pg ct rt) m› pg ct rt hp).mono ?_; rintro e w' ⟨rfl, cB⟩))
  clear cA
  go_wp2_with fail
  go_ret
  rw [hXs'.out]
  exact ⟨by simp, ⟨cB.h, cB.r, cB.ok, cB.ok2, (But.of kX [B, R]).trans (cB.k.mono (Nat.le_of_lt z1) (fun k hk => .inl hk)), cB.ne, Nat.le_trans (Nat.le_of_lt z1) cB.sz⟩⟩
set_option maxHeartbeats 1000000 in
set_option maxRecDepth 8000 in
theorem step_unm {B R : Nat} {m : Mm} {w : World} (pg ct rt by_ at_ v : Int) (xb : Option Addr) (lb cb : Nat) (xs : Option Addr) (ls cs : Nat) (b : Bp w.heap.size w w B R m m) (hp : I64 pg) :
    Calls Try.prog 11 #[mp B, mp R, .agg #[.int .i64 1, .int .i64 pg, .int .i64 ct, .int .i64 rt, .int .i64 by_, .int .u32 at_, .int .u32 v, .slice xb lb cb, .slice xs ls cs]] w fun e w' => e = .returned (.bool true) ∧ Bp w.heap.size w w' B R (unmapS m pg ct) (unmapS m pg ct) := by
  have kX := (Below.refl w.heap.size w).alloc (Nat.le_refl _) (.cells #[.int .i64 1, .int .i64 pg, .int .i64 ct, .int .i64 rt, .int .i64 by_, .int .u32 at_, .int .u32 v, .slice xb lb cb, .slice xs ls cs] 35)
  have b1 := b.below kX
  have hB := b.h.lt
  have hR := b.r.lt
  have b2 : Bp (w.alloc (.cells #[.int .i64 1, .int .i64 pg, .int .i64 ct, .int .i64 rt, .int .i64 by_, .int .u32 at_, .int .u32 v, .slice xb lb cb, .slice xs ls cs] 35)).heap.size (w.alloc (.cells #[.int .i64 1, .int .i64 pg, .int .i64 ct, .int .i64 rt, .int .i64 by_, .int .u32 at_, .int .u32 v, .slice xb lb cb, .slice xs ls cs] 35)) (w.alloc (.cells #[.int .i64 1, .int .i64 pg, .int .i64 ct, .int .i64 rt, .int .i64 by_, .int .u32 at_, .int .u32 v, .slice xb lb cb, .slice xs ls cs] 35)) B R m m := ⟨b1.h, b1.r, b1.ok, b1.ok2, But.refl _ _ _, b1.ne, Nat.le_refl _⟩
  have z1 : w.heap.size < (w.alloc (.cells #[.int .i64 1, .int .i64 pg, .int .i64 ct, .int .i64 rt, .int .i64 by_, .int .u32 at_, .int .u32 v, .slice xb lb cb, .slice xs ls cs] 35)).heap.size := by simp
  have f1 : (w.alloc (.cells #[.int .i64 1, .int .i64 pg, .int .i64 ct, .int .i64 rt, .int .i64 by_, .int .u32 at_, .int .u32 v, .slice xb lb cb, .slice xs ls cs] 35)).cell? ⟨w.heap.size, 1, none⟩ = some (.int .i64 pg) := by rw [World.cell?_alloc_new]; rfl
  have f2 : (w.alloc (.cells #[.int .i64 1, .int .i64 pg, .int .i64 ct, .int .i64 rt, .int .i64 by_, .int .u32 at_, .int .u32 v, .slice xb lb cb, .slice xs ls cs] 35)).cell? ⟨w.heap.size, 2, none⟩ = some (.int .i64 ct) := by rw [World.cell?_alloc_new]; rfl
  clear b1 b
  go_enter Try.func11, Try.ntmps11
  go_wp2_with fail
  generalize w.alloc (.cells #[.int .i64 1, .int .i64 pg, .int .i64 ct, .int .i64 rt, .int .i64 by_, .int .u32 at_, .int .u32 v, .slice xb lb cb, .slice xs ls cs] 35) = wX at *
  generalize hXs : w.heap.size = X at *
  have hXs' := hid hXs
  clear hXs
  have bd := b2.drew
  have up : ∀ {W : World} {p q : Mm}, Bp wX.heap.size wX W B R p q → W.cell? ⟨X, 1, none⟩ = some (.int .i64 pg) ∧ W.cell? ⟨X, 2, none⟩ = some (.int .i64 ct) := fun h => ⟨h.cell z1 (by omega) (by omega) f1, h.cell z1 (by omega) (by omega) f2⟩
  go_region_held3 (fun W => W.cell? ⟨X, 1, none⟩ = some (.int .i64 pg) ∧ W.cell? ⟨X, 2, none⟩ = some (.int .i64 ct))
    (first | exact up bd | exact up ‹Bp wX.heap.size wX _ B R _ _›)
    (first | (go_at_call 18; refine (bUnm bd pg ct hp).mono ?_; rintro e w' ⟨rfl, cA⟩) | (go_at_call 26; refine (bUnmR ‹Bp wX.heap.size wX _ B R (unmapS m pg ct) m› pg ct hp).mono ?_; rintro e w' ⟨rfl, cB⟩))
  clear cA
  go_wp2_with fail
  go_ret
  rw [hXs'.out]
  exact ⟨by simp, ⟨cB.h, cB.r, cB.ok, cB.ok2, (But.of kX [B, R]).trans (cB.k.mono (Nat.le_of_lt z1) (fun k hk => .inl hk)), cB.ne, Nat.le_trans (Nat.le_of_lt z1) cB.sz⟩⟩
set_option maxHeartbeats 1000000 in
set_option maxRecDepth 8000 in
theorem step_prot {B R : Nat} {m : Mm} {w : World} (pg ct rt by_ at_ v : Int) (xb : Option Addr) (lb cb : Nat) (xs : Option Addr) (ls cs : Nat) (b : Bp w.heap.size w w B R m m) (hp : I64 pg) :
    Calls Try.prog 11 #[mp B, mp R, .agg #[.int .i64 2, .int .i64 pg, .int .i64 ct, .int .i64 rt, .int .i64 by_, .int .u32 at_, .int .u32 v, .slice xb lb cb, .slice xs ls cs]] w fun e w' => e = .returned (.bool true) ∧ Bp w.heap.size w w' B R (protS m pg ct rt) (protS m pg ct rt) := by
  have kX := (Below.refl w.heap.size w).alloc (Nat.le_refl _) (.cells #[.int .i64 2, .int .i64 pg, .int .i64 ct, .int .i64 rt, .int .i64 by_, .int .u32 at_, .int .u32 v, .slice xb lb cb, .slice xs ls cs] 35)
  have b1 := b.below kX
  have hB := b.h.lt
  have hR := b.r.lt
  have b2 : Bp (w.alloc (.cells #[.int .i64 2, .int .i64 pg, .int .i64 ct, .int .i64 rt, .int .i64 by_, .int .u32 at_, .int .u32 v, .slice xb lb cb, .slice xs ls cs] 35)).heap.size (w.alloc (.cells #[.int .i64 2, .int .i64 pg, .int .i64 ct, .int .i64 rt, .int .i64 by_, .int .u32 at_, .int .u32 v, .slice xb lb cb, .slice xs ls cs] 35)) (w.alloc (.cells #[.int .i64 2, .int .i64 pg, .int .i64 ct, .int .i64 rt, .int .i64 by_, .int .u32 at_, .int .u32 v, .slice xb lb cb, .slice xs ls cs] 35)) B R m m := ⟨b1.h, b1.r, b1.ok, b1.ok2, But.refl _ _ _, b1.ne, Nat.le_refl _⟩
  have z1 : w.heap.size < (w.alloc (.cells #[.int .i64 2, .int .i64 pg, .int .i64 ct, .int .i64 rt, .int .i64 by_, .int .u32 at_, .int .u32 v, .slice xb lb cb, .slice xs ls cs] 35)).heap.size := by simp
  have f1 : (w.alloc (.cells #[.int .i64 2, .int .i64 pg, .int .i64 ct, .int .i64 rt, .int .i64 by_, .int .u32 at_, .int .u32 v, .slice xb lb cb, .slice xs ls cs] 35)).cell? ⟨w.heap.size, 1, none⟩ = some (.int .i64 pg) := by rw [World.cell?_alloc_new]; rfl
  have f2 : (w.alloc (.cells #[.int .i64 2, .int .i64 pg, .int .i64 ct, .int .i64 rt, .int .i64 by_, .int .u32 at_, .int .u32 v, .slice xb lb cb, .slice xs ls cs] 35)).cell? ⟨w.heap.size, 2, none⟩ = some (.int .i64 ct) := by rw [World.cell?_alloc_new]; rfl
  have f3 : (w.alloc (.cells #[.int .i64 2, .int .i64 pg, .int .i64 ct, .int .i64 rt, .int .i64 by_, .int .u32 at_, .int .u32 v, .slice xb lb cb, .slice xs ls cs] 35)).cell? ⟨w.heap.size, 3, none⟩ = some (.int .i64 rt) := by rw [World.cell?_alloc_new]; rfl
  clear b1 b
  go_enter Try.func11, Try.ntmps11
  go_wp2_with fail
  generalize w.alloc (.cells #[.int .i64 2, .int .i64 pg, .int .i64 ct, .int .i64 rt, .int .i64 by_, .int .u32 at_, .int .u32 v, .slice xb lb cb, .slice xs ls cs] 35) = wX at *
  generalize hXs : w.heap.size = X at *
  have hXs' := hid hXs
  clear hXs
  have bd := b2.drew
  have up : ∀ {W : World} {p q : Mm}, Bp wX.heap.size wX W B R p q → W.cell? ⟨X, 1, none⟩ = some (.int .i64 pg) ∧ W.cell? ⟨X, 2, none⟩ = some (.int .i64 ct) ∧ W.cell? ⟨X, 3, none⟩ = some (.int .i64 rt) := fun h => ⟨h.cell z1 (by omega) (by omega) f1, h.cell z1 (by omega) (by omega) f2, h.cell z1 (by omega) (by omega) f3⟩
  go_region_held3 (fun W => W.cell? ⟨X, 1, none⟩ = some (.int .i64 pg) ∧ W.cell? ⟨X, 2, none⟩ = some (.int .i64 ct) ∧ W.cell? ⟨X, 3, none⟩ = some (.int .i64 rt))
    (first | exact up bd | exact up ‹Bp wX.heap.size wX _ B R _ _›)
    (first | (go_at_call 23; refine (bProt bd pg ct rt hp).mono ?_; rintro e w' ⟨rfl, cA⟩) | (go_at_call 27; refine (bProtR ‹Bp wX.heap.size wX _ B R (protS m pg ct rt) m› pg ct rt hp).mono ?_; rintro e w' ⟨rfl, cB⟩))
  clear cA
  go_wp2_with fail
  go_ret
  rw [hXs'.out]
  exact ⟨by simp, ⟨cB.h, cB.r, cB.ok, cB.ok2, (But.of kX [B, R]).trans (cB.k.mono (Nat.le_of_lt z1) (fun k hk => .inl hk)), cB.ne, Nat.le_trans (Nat.le_of_lt z1) cB.sz⟩⟩
set_option maxHeartbeats 1000000 in
set_option maxRecDepth 8000 in
theorem step_poke {B R : Nat} {m : Mm} {w : World} (zs : List Int) (pg ct rt by_ at_ v : Int) (xb : Option Addr) (lb cb : Nat) (xs : Option Addr) (ls cs : Nat) (b : Bp w.heap.size w w B R m m) (ha : U32 at_) (hz0 : Row8 w xb lb zs) (hzl : lb ≤ 9223372036854775807) (hzx : 0 < lb → ∀ b off, xb = some ⟨b, off, none⟩ → b ≠ B ∧ b ≠ R) :
    Calls Try.prog 11 #[mp B, mp R, .agg #[.int .i64 6, .int .i64 pg, .int .i64 ct, .int .i64 rt, .int .i64 by_, .int .u32 at_, .int .u32 v, .slice xb lb cb, .slice xs ls cs]] w fun e w' => e = .returned (.bool true) ∧ Bp w.heap.size w w' B R (pokeS m at_ zs) (pokeS m at_ zs) := by
  have kX := (Below.refl w.heap.size w).alloc (Nat.le_refl _) (.cells #[.int .i64 6, .int .i64 pg, .int .i64 ct, .int .i64 rt, .int .i64 by_, .int .u32 at_, .int .u32 v, .slice xb lb cb, .slice xs ls cs] 35)
  have b1 := b.below kX
  have hB := b.h.lt
  have hR := b.r.lt
  have b2 : Bp (w.alloc (.cells #[.int .i64 6, .int .i64 pg, .int .i64 ct, .int .i64 rt, .int .i64 by_, .int .u32 at_, .int .u32 v, .slice xb lb cb, .slice xs ls cs] 35)).heap.size (w.alloc (.cells #[.int .i64 6, .int .i64 pg, .int .i64 ct, .int .i64 rt, .int .i64 by_, .int .u32 at_, .int .u32 v, .slice xb lb cb, .slice xs ls cs] 35)) (w.alloc (.cells #[.int .i64 6, .int .i64 pg, .int .i64 ct, .int .i64 rt, .int .i64 by_, .int .u32 at_, .int .u32 v, .slice xb lb cb, .slice xs ls cs] 35)) B R m m := ⟨b1.h, b1.r, b1.ok, b1.ok2, But.refl _ _ _, b1.ne, Nat.le_refl _⟩
  have z1 : w.heap.size < (w.alloc (.cells #[.int .i64 6, .int .i64 pg, .int .i64 ct, .int .i64 rt, .int .i64 by_, .int .u32 at_, .int .u32 v, .slice xb lb cb, .slice xs ls cs] 35)).heap.size := by simp
  have f5 : (w.alloc (.cells #[.int .i64 6, .int .i64 pg, .int .i64 ct, .int .i64 rt, .int .i64 by_, .int .u32 at_, .int .u32 v, .slice xb lb cb, .slice xs ls cs] 35)).cell? ⟨w.heap.size, 5, none⟩ = some (.int .u32 at_) := by rw [World.cell?_alloc_new]; rfl
  have f7 : (w.alloc (.cells #[.int .i64 6, .int .i64 pg, .int .i64 ct, .int .i64 rt, .int .i64 by_, .int .u32 at_, .int .u32 v, .slice xb lb cb, .slice xs ls cs] 35)).cell? ⟨w.heap.size, 7, none⟩ = some (.slice xb lb cb) := by rw [World.cell?_alloc_new]; rfl
  have hz : RowX (w.alloc (.cells #[.int .i64 6, .int .i64 pg, .int .i64 ct, .int .i64 rt, .int .i64 by_, .int .u32 at_, .int .u32 v, .slice xb lb cb, .slice xs ls cs] 35)).heap.size (w.alloc (.cells #[.int .i64 6, .int .i64 pg, .int .i64 ct, .int .i64 rt, .int .i64 by_, .int .u32 at_, .int .u32 v, .slice xb lb cb, .slice xs ls cs] 35)) B R xb lb zs := ⟨hz0.below kX, Nat.le_refl _, hzx, hzl⟩
  have hzx' := hid hzx
  clear hzx hz0
  clear b1 b
  go_enter Try.func11, Try.ntmps11
  go_wp2_with fail
  generalize w.alloc (.cells #[.int .i64 6, .int .i64 pg, .int .i64 ct, .int .i64 rt, .int .i64 by_, .int .u32 at_, .int .u32 v, .slice xb lb cb, .slice xs ls cs] 35) = wX at *
  generalize hXs : w.heap.size = X at *
  have hXs' := hid hXs
  clear hXs
  have bd := b2.drew
  have up : ∀ {W : World} {p q : Mm}, Bp wX.heap.size wX W B R p q → W.cell? ⟨X, 5, none⟩ = some (.int .u32 at_) ∧ W.cell? ⟨X, 7, none⟩ = some (.slice xb lb cb) := fun h => ⟨h.cell z1 (by omega) (by omega) f5, h.cell z1 (by omega) (by omega) f7⟩
  go_region_held3 (fun W => W.cell? ⟨X, 5, none⟩ = some (.int .u32 at_) ∧ W.cell? ⟨X, 7, none⟩ = some (.slice xb lb cb))
    (first | exact up bd | exact up ‹Bp wX.heap.size wX _ B R _ _›)
    (first | (go_at_call 19; refine (bPoke bd at_ ha xb lb cb zs hz).mono ?_; rintro e w' ⟨rfl, cA⟩) | (go_at_call 30; refine (bPokeR ‹Bp wX.heap.size wX _ B R (pokeS m at_ zs) m› at_ ha xb lb cb zs hz).mono ?_; rintro e w' ⟨rfl, cB⟩))
  clear cA
  go_wp2_with fail
  go_ret
  rw [hXs'.out]
  exact ⟨by simp, ⟨cB.h, cB.r, cB.ok, cB.ok2, (But.of kX [B, R]).trans (cB.k.mono (Nat.le_of_lt z1) (fun k hk => .inl hk)), cB.ne, Nat.le_trans (Nat.le_of_lt z1) cB.sz⟩⟩
set_option maxHeartbeats 1000000 in
set_option maxRecDepth 8000 in
theorem step_load {B R : Nat} {m : Mm} {w : World} (L : List Sp) (wh pg ct rt by_ at_ v : Int) (xb : Option Addr) (lb cb : Nat) (xs : Option Addr) (ls cs : Nat) (b : Bp w.heap.size w w B R m m) (hw : (wh == 0) = false ∧ (wh == 1) = false ∧ (wh == 2) = false ∧ (wh == 3) = false ∧ (wh == 4) = false ∧ (wh == 5) = false ∧ (wh == 6) = false) (hL0 : SpansAt w xs ls L) (hLl : ls ≤ 9223372036854775807) (hLx : 0 < ls → ∀ b off, xs = some ⟨b, off, none⟩ → b ≠ B ∧ b ≠ R) :
    Calls Try.prog 11 #[mp B, mp R, .agg #[.int .i64 wh, .int .i64 pg, .int .i64 ct, .int .i64 rt, .int .i64 by_, .int .u32 at_, .int .u32 v, .slice xb lb cb, .slice xs ls cs]] w fun e w' => e = .returned (.bool true) ∧ Bp w.heap.size w w' B R ((loadL L Mm.new).getD m) ((loadL L Mm.new).getD m) := by
  have kX := (Below.refl w.heap.size w).alloc (Nat.le_refl _) (.cells #[.int .i64 wh, .int .i64 pg, .int .i64 ct, .int .i64 rt, .int .i64 by_, .int .u32 at_, .int .u32 v, .slice xb lb cb, .slice xs ls cs] 35)
  have b1 := b.below kX
  have hB := b.h.lt
  have hR := b.r.lt
  have b2 : Bp (w.alloc (.cells #[.int .i64 wh, .int .i64 pg, .int .i64 ct, .int .i64 rt, .int .i64 by_, .int .u32 at_, .int .u32 v, .slice xb lb cb, .slice xs ls cs] 35)).heap.size (w.alloc (.cells #[.int .i64 wh, .int .i64 pg, .int .i64 ct, .int .i64 rt, .int .i64 by_, .int .u32 at_, .int .u32 v, .slice xb lb cb, .slice xs ls cs] 35)) (w.alloc (.cells #[.int .i64 wh, .int .i64 pg, .int .i64 ct, .int .i64 rt, .int .i64 by_, .int .u32 at_, .int .u32 v, .slice xb lb cb, .slice xs ls cs] 35)) B R m m := ⟨b1.h, b1.r, b1.ok, b1.ok2, But.refl _ _ _, b1.ne, Nat.le_refl _⟩
  have z1 : w.heap.size < (w.alloc (.cells #[.int .i64 wh, .int .i64 pg, .int .i64 ct, .int .i64 rt, .int .i64 by_, .int .u32 at_, .int .u32 v, .slice xb lb cb, .slice xs ls cs] 35)).heap.size := by simp
  have f8 : (w.alloc (.cells #[.int .i64 wh, .int .i64 pg, .int .i64 ct, .int .i64 rt, .int .i64 by_, .int .u32 at_, .int .u32 v, .slice xb lb cb, .slice xs ls cs] 35)).cell? ⟨w.heap.size, 8, none⟩ = some (.slice xs ls cs) := by rw [World.cell?_alloc_new]; rfl
  have hL : SpanX (w.alloc (.cells #[.int .i64 wh, .int .i64 pg, .int .i64 ct, .int .i64 rt, .int .i64 by_, .int .u32 at_, .int .u32 v, .slice xb lb cb, .slice xs ls cs] 35)).heap.size (w.alloc (.cells #[.int .i64 wh, .int .i64 pg, .int .i64 ct, .int .i64 rt, .int .i64 by_, .int .u32 at_, .int .u32 v, .slice xb lb cb, .slice xs ls cs] 35)) B R xs ls L := ⟨hL0.below kX (Nat.le_refl _), Nat.le_refl _, hLx, hLl⟩
  have hLx' := hid hLx
  clear hLx hL0
  obtain ⟨e0, e1, e2, e3, e4, e5, e6⟩ := hw
  clear b1 b
  go_enter Try.func11, Try.ntmps11
  go_wp2_with fail
  generalize w.alloc (.cells #[.int .i64 wh, .int .i64 pg, .int .i64 ct, .int .i64 rt, .int .i64 by_, .int .u32 at_, .int .u32 v, .slice xb lb cb, .slice xs ls cs] 35) = wX at *
  generalize hXs : w.heap.size = X at *
  have hXs' := hid hXs
  clear hXs
  have bd := b2.drew
  have up : ∀ {W : World} {p q : Mm}, Bp wX.heap.size wX W B R p q → W.cell? ⟨X, 8, none⟩ = some (.slice xs ls cs) := fun h => h.cell z1 (by omega) (by omega) f8
  go_region_held3 (fun W => W.cell? ⟨X, 8, none⟩ = some (.slice xs ls cs))
    (first | exact up bd | exact up ‹Bp wX.heap.size wX _ B R _ _›)
    (first | (go_at_call 24; refine (bLoad bd xs ls cs L hL).mono ?_; rintro e w' ⟨rfl, cA⟩) | (go_at_call 31; refine (bLoadR ‹Bp wX.heap.size wX _ B R ((loadL L Mm.new).getD m) m› xs ls cs L hL).mono ?_; rintro e w' ⟨rfl, cB⟩))
  clear cA
  go_wp2_with fail
  go_ret
  rw [hXs'.out]
  exact ⟨by simp, ⟨cB.h, cB.r, cB.ok, cB.ok2, (But.of kX [B, R]).trans (cB.k.mono (Nat.le_of_lt z1) (fun k hk => .inl hk)), cB.ne, Nat.le_trans (Nat.le_of_lt z1) cB.sz⟩⟩
set_option maxHeartbeats 1000000 in
set_option maxRecDepth 8000 in
theorem step_write3 {B R : Nat} {m : Mm} {w : World} (pg ct rt by_ at_ v : Int) (xb : Option Addr) (lb cb : Nat) (xs : Option Addr) (ls cs : Nat) (b : Bp w.heap.size w w B R m m) (ha : U32 at_) (hv : U32 v) :
    Calls Try.prog 11 #[mp B, mp R, .agg #[.int .i64 3, .int .i64 pg, .int .i64 ct, .int .i64 rt, .int .i64 by_, .int .u32 at_, .int .u32 v, .slice xb lb cb, .slice xs ls cs]] w fun e w' => e = .returned (.bool true) ∧ Bp w.heap.size w w' B R (wroteM m at_ by_ v) (wroteM m at_ by_ v) := by
  have kX := (Below.refl w.heap.size w).alloc (Nat.le_refl _) (.cells #[.int .i64 3, .int .i64 pg, .int .i64 ct, .int .i64 rt, .int .i64 by_, .int .u32 at_, .int .u32 v, .slice xb lb cb, .slice xs ls cs] 35)
  have b1 := b.below kX
  have hB := b.h.lt
  have hR := b.r.lt
  have b2 : Bp (w.alloc (.cells #[.int .i64 3, .int .i64 pg, .int .i64 ct, .int .i64 rt, .int .i64 by_, .int .u32 at_, .int .u32 v, .slice xb lb cb, .slice xs ls cs] 35)).heap.size (w.alloc (.cells #[.int .i64 3, .int .i64 pg, .int .i64 ct, .int .i64 rt, .int .i64 by_, .int .u32 at_, .int .u32 v, .slice xb lb cb, .slice xs ls cs] 35)) (w.alloc (.cells #[.int .i64 3, .int .i64 pg, .int .i64 ct, .int .i64 rt, .int .i64 by_, .int .u32 at_, .int .u32 v, .slice xb lb cb, .slice xs ls cs] 35)) B R m m := ⟨b1.h, b1.r, b1.ok, b1.ok2, But.refl _ _ _, b1.ne, Nat.le_refl _⟩
  have z1 : w.heap.size < (w.alloc (.cells #[.int .i64 3, .int .i64 pg, .int .i64 ct, .int .i64 rt, .int .i64 by_, .int .u32 at_, .int .u32 v, .slice xb lb cb, .slice xs ls cs] 35)).heap.size := by simp
  have f4 : (w.alloc (.cells #[.int .i64 3, .int .i64 pg, .int .i64 ct, .int .i64 rt, .int .i64 by_, .int .u32 at_, .int .u32 v, .slice xb lb cb, .slice xs ls cs] 35)).cell? ⟨w.heap.size, 4, none⟩ = some (.int .i64 by_) := by rw [World.cell?_alloc_new]; rfl
  have f5 : (w.alloc (.cells #[.int .i64 3, .int .i64 pg, .int .i64 ct, .int .i64 rt, .int .i64 by_, .int .u32 at_, .int .u32 v, .slice xb lb cb, .slice xs ls cs] 35)).cell? ⟨w.heap.size, 5, none⟩ = some (.int .u32 at_) := by rw [World.cell?_alloc_new]; rfl
  have f6 : (w.alloc (.cells #[.int .i64 3, .int .i64 pg, .int .i64 ct, .int .i64 rt, .int .i64 by_, .int .u32 at_, .int .u32 v, .slice xb lb cb, .slice xs ls cs] 35)).cell? ⟨w.heap.size, 6, none⟩ = some (.int .u32 v) := by rw [World.cell?_alloc_new]; rfl
  clear b1 b
  go_enter Try.func11, Try.ntmps11
  go_wp2_with fail
  generalize w.alloc (.cells #[.int .i64 3, .int .i64 pg, .int .i64 ct, .int .i64 rt, .int .i64 by_, .int .u32 at_, .int .u32 v, .slice xb lb cb, .slice xs ls cs] 35) = wX at *
  generalize hXs : w.heap.size = X at *
  have hXs' := hid hXs
  clear hXs
  have qA := bWrite b2 at_ by_ v ha hv
  obtain ⟨k1, a1, t1, hF⟩ : ∃ k1 a1 t1, fltOf (lackL m at_ 2 (numL by_)) at_ 2 = fltV k1 0 a1 t1 := ⟨_, _, _, rfl⟩
  rw [hF] at qA
  generalize hN : (lackL m at_ 2 (numL by_)).isNone = ok1 at *
  have hF' := hid hF
  have hN' := hid hN
  clear hF hN
  refine qA.mono ?_
  rintro e w1 ⟨rfl, c1, -⟩
  clear qA
  have u4 := up_cell (c1.cell z1 (by omega) (by omega) f4) (.cells #[.int .i64 k1, .int .u32 0, .int .u32 a1, .int .i64 t1] 51)
  have u5 := up_cell (c1.cell z1 (by omega) (by omega) f5) (.cells #[.int .i64 k1, .int .u32 0, .int .u32 a1, .int .i64 t1] 51)
  have u6 := up_cell (c1.cell z1 (by omega) (by omega) f6) (.cells #[.int .i64 k1, .int .u32 0, .int .u32 a1, .int .i64 t1] 51)
  have A4 := Four.begun w1 k1 0 a1 t1 51
  have c2 := c1.below ((Below.refl w1.heap.size w1).alloc (Nat.le_refl _) (.cells #[.int .i64 k1, .int .u32 0, .int .u32 a1, .int .i64 t1] 51))
  have hB1 := c1.h.lt
  have hR1 := c1.r.lt
  go_wp2_with fail
  generalize w1.alloc (.cells #[.int .i64 k1, .int .u32 0, .int .u32 a1, .int .i64 t1] 51) = w2 at *
  generalize w1.heap.size = F1 at *
  have qB := bWriteR c2 at_ by_ v ha hv
  rw [hF'.out, hN'.out] at qB
  refine qB.mono ?_
  rintro e w3 ⟨rfl, c3, k3⟩
  clear qB u4 u5 u6
  replace A4 := A4.but k3 (size_of_cell A4.c0) (by simp; omega)
  have G4 := Four.begun w3 k1 0 a1 t1 51
  have kG := (Below.refl w3.heap.size w3).alloc (Nat.le_refl _) (.cells #[.int .i64 k1, .int .u32 0, .int .u32 a1, .int .i64 t1] 51)
  have c4 := c3.below kG
  obtain ⟨d0, d1, d2, d3, -⟩ := A4.but (But.of kG []) (size_of_cell A4.c0) (by simp)
  obtain ⟨g0, g1, g2, g3, -⟩ := G4
  clear A4 kG c3 k3 c2 c1
  go_wp2_with fail
  go_ret
  rw [hXs'.out]
  exact ⟨by simp, ⟨c4.h, c4.r, c4.ok, c4.ok2, (But.of kX [B, R]).trans (c4.k.mono (Nat.le_of_lt z1) (fun k hk => .inl hk)), c4.ne, Nat.le_trans (Nat.le_of_lt z1) c4.sz⟩⟩
set_option maxHeartbeats 1000000 in
set_option maxRecDepth 8000 in
theorem step_write4 {B R : Nat} {m : Mm} {w : World} (pg ct rt by_ at_ v : Int) (xb : Option Addr) (lb cb : Nat) (xs : Option Addr) (ls cs : Nat) (b : Bp w.heap.size w w B R m m) (ha : U32 at_) (hv : U32 v) :
    Calls Try.prog 11 #[mp B, mp R, .agg #[.int .i64 4, .int .i64 pg, .int .i64 ct, .int .i64 rt, .int .i64 by_, .int .u32 at_, .int .u32 v, .slice xb lb cb, .slice xs ls cs]] w fun e w' => e = .returned (.bool true) ∧ Bp w.heap.size w w' B R (wroteM m at_ by_ v) (wroteM m at_ by_ v) := by
  have kX := (Below.refl w.heap.size w).alloc (Nat.le_refl _) (.cells #[.int .i64 4, .int .i64 pg, .int .i64 ct, .int .i64 rt, .int .i64 by_, .int .u32 at_, .int .u32 v, .slice xb lb cb, .slice xs ls cs] 35)
  have b1 := b.below kX
  have hB := b.h.lt
  have hR := b.r.lt
  have b2 : Bp (w.alloc (.cells #[.int .i64 4, .int .i64 pg, .int .i64 ct, .int .i64 rt, .int .i64 by_, .int .u32 at_, .int .u32 v, .slice xb lb cb, .slice xs ls cs] 35)).heap.size (w.alloc (.cells #[.int .i64 4, .int .i64 pg, .int .i64 ct, .int .i64 rt, .int .i64 by_, .int .u32 at_, .int .u32 v, .slice xb lb cb, .slice xs ls cs] 35)) (w.alloc (.cells #[.int .i64 4, .int .i64 pg, .int .i64 ct, .int .i64 rt, .int .i64 by_, .int .u32 at_, .int .u32 v, .slice xb lb cb, .slice xs ls cs] 35)) B R m m := ⟨b1.h, b1.r, b1.ok, b1.ok2, But.refl _ _ _, b1.ne, Nat.le_refl _⟩
  have z1 : w.heap.size < (w.alloc (.cells #[.int .i64 4, .int .i64 pg, .int .i64 ct, .int .i64 rt, .int .i64 by_, .int .u32 at_, .int .u32 v, .slice xb lb cb, .slice xs ls cs] 35)).heap.size := by simp
  have f4 : (w.alloc (.cells #[.int .i64 4, .int .i64 pg, .int .i64 ct, .int .i64 rt, .int .i64 by_, .int .u32 at_, .int .u32 v, .slice xb lb cb, .slice xs ls cs] 35)).cell? ⟨w.heap.size, 4, none⟩ = some (.int .i64 by_) := by rw [World.cell?_alloc_new]; rfl
  have f5 : (w.alloc (.cells #[.int .i64 4, .int .i64 pg, .int .i64 ct, .int .i64 rt, .int .i64 by_, .int .u32 at_, .int .u32 v, .slice xb lb cb, .slice xs ls cs] 35)).cell? ⟨w.heap.size, 5, none⟩ = some (.int .u32 at_) := by rw [World.cell?_alloc_new]; rfl
  have f6 : (w.alloc (.cells #[.int .i64 4, .int .i64 pg, .int .i64 ct, .int .i64 rt, .int .i64 by_, .int .u32 at_, .int .u32 v, .slice xb lb cb, .slice xs ls cs] 35)).cell? ⟨w.heap.size, 6, none⟩ = some (.int .u32 v) := by rw [World.cell?_alloc_new]; rfl
  clear b1 b
  go_enter Try.func11, Try.ntmps11
  go_wp2_with fail
  generalize w.alloc (.cells #[.int .i64 4, .int .i64 pg, .int .i64 ct, .int .i64 rt, .int .i64 by_, .int .u32 at_, .int .u32 v, .slice xb lb cb, .slice xs ls cs] 35) = wX at *
  generalize hXs : w.heap.size = X at *
  have hXs' := hid hXs
  clear hXs
  have qA := bWrite b2 at_ by_ v ha hv
  obtain ⟨k1, a1, t1, hF⟩ : ∃ k1 a1 t1, fltOf (lackL m at_ 2 (numL by_)) at_ 2 = fltV k1 0 a1 t1 := ⟨_, _, _, rfl⟩
  rw [hF] at qA
  generalize hN : (lackL m at_ 2 (numL by_)).isNone = ok1 at *
  have hF' := hid hF
  have hN' := hid hN
  clear hF hN
  refine qA.mono ?_
  rintro e w1 ⟨rfl, c1, -⟩
  clear qA
  have u4 := up_cell (c1.cell z1 (by omega) (by omega) f4) (.cells #[.int .i64 k1, .int .u32 0, .int .u32 a1, .int .i64 t1] 51)
  have u5 := up_cell (c1.cell z1 (by omega) (by omega) f5) (.cells #[.int .i64 k1, .int .u32 0, .int .u32 a1, .int .i64 t1] 51)
  have u6 := up_cell (c1.cell z1 (by omega) (by omega) f6) (.cells #[.int .i64 k1, .int .u32 0, .int .u32 a1, .int .i64 t1] 51)
  have A4 := Four.begun w1 k1 0 a1 t1 51
  have c2 := c1.below ((Below.refl w1.heap.size w1).alloc (Nat.le_refl _) (.cells #[.int .i64 k1, .int .u32 0, .int .u32 a1, .int .i64 t1] 51))
  have hB1 := c1.h.lt
  have hR1 := c1.r.lt
  go_wp2_with fail
  generalize w1.alloc (.cells #[.int .i64 k1, .int .u32 0, .int .u32 a1, .int .i64 t1] 51) = w2 at *
  generalize w1.heap.size = F1 at *
  have qB := bWriteR c2 at_ by_ v ha hv
  rw [hF'.out, hN'.out] at qB
  refine qB.mono ?_
  rintro e w3 ⟨rfl, c3, k3⟩
  clear qB u4 u5 u6
  replace A4 := A4.but k3 (size_of_cell A4.c0) (by simp; omega)
  have G4 := Four.begun w3 k1 0 a1 t1 51
  have kG := (Below.refl w3.heap.size w3).alloc (Nat.le_refl _) (.cells #[.int .i64 k1, .int .u32 0, .int .u32 a1, .int .i64 t1] 51)
  have c4 := c3.below kG
  obtain ⟨d0, d1, d2, d3, -⟩ := A4.but (But.of kG []) (size_of_cell A4.c0) (by simp)
  obtain ⟨g0, g1, g2, g3, -⟩ := G4
  clear A4 kG c3 k3 c2 c1
  go_wp2_with fail
  go_ret
  rw [hXs'.out]
  exact ⟨by simp, ⟨c4.h, c4.r, c4.ok, c4.ok2, (But.of kX [B, R]).trans (c4.k.mono (Nat.le_of_lt z1) (fun k hk => .inl hk)), c4.ne, Nat.le_trans (Nat.le_of_lt z1) c4.sz⟩⟩
set_option maxHeartbeats 1000000 in
set_option maxRecDepth 8000 in
theorem step_read {B R : Nat} {m : Mm} {w : World} (pg ct rt by_ at_ v : Int) (xb : Option Addr) (lb cb : Nat) (xs : Option Addr) (ls cs : Nat) (b : Bp w.heap.size w w B R m m) (ha : U32 at_) :
    Calls Try.prog 11 #[mp B, mp R, .agg #[.int .i64 5, .int .i64 pg, .int .i64 ct, .int .i64 rt, .int .i64 by_, .int .u32 at_, .int .u32 v, .slice xb lb cb, .slice xs ls cs]] w fun e w' => e = .returned (.bool true) ∧ Bp w.heap.size w w' B R (m) (m) := by
  have kX := (Below.refl w.heap.size w).alloc (Nat.le_refl _) (.cells #[.int .i64 5, .int .i64 pg, .int .i64 ct, .int .i64 rt, .int .i64 by_, .int .u32 at_, .int .u32 v, .slice xb lb cb, .slice xs ls cs] 35)
  have b1 := b.below kX
  have hB := b.h.lt
  have hR := b.r.lt
  have b2 : Bp (w.alloc (.cells #[.int .i64 5, .int .i64 pg, .int .i64 ct, .int .i64 rt, .int .i64 by_, .int .u32 at_, .int .u32 v, .slice xb lb cb, .slice xs ls cs] 35)).heap.size (w.alloc (.cells #[.int .i64 5, .int .i64 pg, .int .i64 ct, .int .i64 rt, .int .i64 by_, .int .u32 at_, .int .u32 v, .slice xb lb cb, .slice xs ls cs] 35)) (w.alloc (.cells #[.int .i64 5, .int .i64 pg, .int .i64 ct, .int .i64 rt, .int .i64 by_, .int .u32 at_, .int .u32 v, .slice xb lb cb, .slice xs ls cs] 35)) B R m m := ⟨b1.h, b1.r, b1.ok, b1.ok2, But.refl _ _ _, b1.ne, Nat.le_refl _⟩
  have z1 : w.heap.size < (w.alloc (.cells #[.int .i64 5, .int .i64 pg, .int .i64 ct, .int .i64 rt, .int .i64 by_, .int .u32 at_, .int .u32 v, .slice xb lb cb, .slice xs ls cs] 35)).heap.size := by simp
  have f3 : (w.alloc (.cells #[.int .i64 5, .int .i64 pg, .int .i64 ct, .int .i64 rt, .int .i64 by_, .int .u32 at_, .int .u32 v, .slice xb lb cb, .slice xs ls cs] 35)).cell? ⟨w.heap.size, 3, none⟩ = some (.int .i64 rt) := by rw [World.cell?_alloc_new]; rfl
  have f4 : (w.alloc (.cells #[.int .i64 5, .int .i64 pg, .int .i64 ct, .int .i64 rt, .int .i64 by_, .int .u32 at_, .int .u32 v, .slice xb lb cb, .slice xs ls cs] 35)).cell? ⟨w.heap.size, 4, none⟩ = some (.int .i64 by_) := by rw [World.cell?_alloc_new]; rfl
  have f5 : (w.alloc (.cells #[.int .i64 5, .int .i64 pg, .int .i64 ct, .int .i64 rt, .int .i64 by_, .int .u32 at_, .int .u32 v, .slice xb lb cb, .slice xs ls cs] 35)).cell? ⟨w.heap.size, 5, none⟩ = some (.int .u32 at_) := by rw [World.cell?_alloc_new]; rfl
  clear b1 b
  go_enter Try.func11, Try.ntmps11
  go_wp2_with fail
  generalize w.alloc (.cells #[.int .i64 5, .int .i64 pg, .int .i64 ct, .int .i64 rt, .int .i64 by_, .int .u32 at_, .int .u32 v, .slice xb lb cb, .slice xs ls cs] 35) = wX at *
  generalize hXs : w.heap.size = X at *
  have hXs' := hid hXs
  clear hXs
  have qA := bRead b2 at_ by_ rt ha
  generalize hV : readM m at_ by_ rt = v1 at *
  obtain ⟨k1, a1, t1, hF⟩ : ∃ k1 a1 t1, fltOf (lackL m at_ (singleL rt) (numL by_)) at_ (singleL rt) = fltV k1 0 a1 t1 := ⟨_, _, _, rfl⟩
  rw [hF] at qA
  generalize hN : (lackL m at_ (singleL rt) (numL by_)).isNone = ok1 at *
  have hV' := hid hV
  have hF' := hid hF
  have hN' := hid hN
  clear hV hF hN
  refine qA.mono ?_
  rintro e w1 ⟨rfl, c1, -⟩
  clear qA
  have u3 := up_cell (c1.cell z1 (by omega) (by omega) f3) (.cells #[.int .i64 k1, .int .u32 0, .int .u32 a1, .int .i64 t1] 51)
  have u4 := up_cell (c1.cell z1 (by omega) (by omega) f4) (.cells #[.int .i64 k1, .int .u32 0, .int .u32 a1, .int .i64 t1] 51)
  have u5 := up_cell (c1.cell z1 (by omega) (by omega) f5) (.cells #[.int .i64 k1, .int .u32 0, .int .u32 a1, .int .i64 t1] 51)
  have A4 := Four.begun w1 k1 0 a1 t1 51
  have c2 := c1.below ((Below.refl w1.heap.size w1).alloc (Nat.le_refl _) (.cells #[.int .i64 k1, .int .u32 0, .int .u32 a1, .int .i64 t1] 51))
  go_wp2_with fail
  generalize w1.alloc (.cells #[.int .i64 k1, .int .u32 0, .int .u32 a1, .int .i64 t1] 51) = w2 at *
  generalize w1.heap.size = F1 at *
  have qB := bReadR c2 at_ by_ rt ha
  rw [hV'.out, hF'.out, hN'.out] at qB
  refine qB.mono ?_
  rintro e w3 ⟨rfl, c3, k3⟩
  clear qB u3 u4 u5
  replace A4 := A4.but (But.of k3 []) (size_of_cell A4.c0) (by simp)
  have G4 := Four.begun w3 k1 0 a1 t1 51
  have kG := (Below.refl w3.heap.size w3).alloc (Nat.le_refl _) (.cells #[.int .i64 k1, .int .u32 0, .int .u32 a1, .int .i64 t1] 51)
  have c4 := c3.below kG
  obtain ⟨d0, d1, d2, d3, -⟩ := A4.but (But.of kG []) (size_of_cell A4.c0) (by simp)
  obtain ⟨g0, g1, g2, g3, -⟩ := G4
  clear A4 kG c3 k3 c2 c1
  go_wp2_with fail
  go_ret
  rw [hXs'.out]
  exact ⟨by simp, ⟨c4.h, c4.r, c4.ok, c4.ok2, (But.of kX [B, R]).trans (c4.k.mono (Nat.le_of_lt z1) (fun k hk => .inl hk)), c4.ne, Nat.le_trans (Nat.le_of_lt z1) c4.sz⟩⟩
end Go.Proofs.Ytohkfkojheecoaa
