import Derived.Test.YtcdoidnfdkodoaaGreatDoorS00
import Derived.Test.YtcdoidnfdkodoaaGreatDoorS01
import Derived.Test.YtcdoidnfdkodoaaGreatDoorS02
import Derived.Test.YtcdoidnfdkodoaaGreatDoorS03
import Derived.Test.YtcdoidnfdkodoaaGreatDoorS04
import Derived.Test.YtcdoidnfdkodoaaGreatDoorS05
import Derived.Test.YtcdoidnfdkodoaaGreatDoorS06
import Derived.Test.YtcdoidnfdkodoaaGreatDoorS07
import Derived.Test.YtcdoidnfdkodoaaGreatDoorS08
import Derived.Test.YtcdoidnfdkodoaaGreatDoorS09
import Derived.Test.YtcdoidnfdkodoaaGreatDoorS10
import Derived.Test.YtcdoidnfdkodoaaGreatDoorS11
import Derived.Test.YtcdoidnfdkodoaaGreatDoorS12
import Derived.Test.YtcdoidnfdkodoaaGreatDoorS13
import Derived.Test.YtcdoidnfdkodoaaGreatDoorS14
import Derived.Test.YtcdoidnfdkodoaaGreatDoorS15
import Derived.Test.YtcdoidnfdkodoaaGreatDoorS16
import Derived.Test.YtcdoidnfdkodoaaGreatDoorS17
import Derived.Test.YtcdoidnfdkodoaaGreatDoorS19
import Derived.Test.YtcdoidnfdkodoaaGreatDoorS20
import Derived.Test.YtcdoidnfdkodoaaGreatDoorS23
import Derived.Test.YtcdoidnfdkodoaaGreatDoorS24
import Derived.Test.YtcdoidnfdkodoaaGreatDoorS25
import Derived.Test.YtcdoidnfdkodoaaGreatDoorS26
import Derived.Test.YtcdoidnfdkodoaaGreatDoorS27
import Derived.Test.YtcdoidnfdkodoaaGreatDoorS28
import Derived.Test.YtcdoidnfdkodoaaGreatDoorS29
import Derived.Test.YtcdoidnfdkodoaaGreatDoorS30
import Derived.Test.YtcdoidnfdkodoaaGreatDoorS31
import Derived.Test.YtcdoidnfdkodoaaGreatDoorS33
import Derived.Test.YtcdoidnfdkodoaaGreatDoorS34
import Derived.Test.YtcdoidnfdkodoaaGreatDoorS35
import Derived.Test.YtcdoidnfdkodoaaGreatDoorS36
import Derived.Test.YtcdoidnfdkodoaaGreatDoorS37
import Derived.Test.YtcdoidnfdkodoaaGreatDoorS38
import Derived.Test.YtcdoidnfdkodoaaGreatDoorS39
import Derived.Test.YtcdoidnfdkodoaaGreatDoorS41
import Derived.Test.YtcdoidnfdkodoaaGreatDoorS42
import Derived.Test.YtcdoidnfdkodoaaGreatDoorS46
import Derived.WalkKit
import Derived.WalkLawsBesides
import Derived.Lib.Hide
import Derived.Laws.CopyOwn
import Derived.Laws.CopyRow
import Derived.Lib.BufferWrite
import Derived.Deep.WholeRow
import Derived.Below
import Derived.Laws.Rows
import Derived.Laws.Tables
import Derived.Deep.MidRow
import Derived.ProofKit
import Derived.LaidMore
import Derived.OpenShut
import Derived.Stop.Joined
import Derived.Stop.LaidErr
import Derived.Lib.LaidTab
import Derived.Deep.Strs
import Derived.Deep.Slices
import Derived.Lay
import Derived.BigQuiet
import Derived.Deep.QuietTactic
import Derived.Deep.OwnRows
import Derived.ChangeKeysEq
import Derived.Deep.RegionHeld3
import Derived.Deep.RegionWith
import Derived.Defers
import Derived.Recover
import Derived.Laws.Pointers
import Derived.Deep.CutRange
import Derived.Deep.RegionHeld
import Derived.BigFrame
import Derived.Laws.AppendOwnNone
/- What is done within: bytes read and written, or the panic. -/
namespace Go.Proofs.YtcdoidnfdkodoaaGreatDoor
open Go.RowKit
set_option linter.unusedVariables false
set_option linter.unusedSimpArgs false
set_option linter.unusedSectionVars false
set_option maxRecDepth 8000 in
theorem read1_no {B K0 K1 K2 K3 K4 : Nat} {m : Mm} {w : World} (ok : m.ok) (A j : Nat) (hA : A ≤ 4294967295) (n rt : Int) (b : Boxes w B K0 K1 K2 K3 m (.int .u32 A) (.int .i64 n) (.int .i64 rt)) (hl : lackL m A (singleL rt) (numL n) = some j) :
    Calls Tryz.prog 188 #[cp K0, cp K1, cp K2, cp K3, cp K4] w fun e w' => e = .panicked (fltP ((A + j) % 4294967296) (singleL rt)) ∧ Below w.heap.size w w' := by
  have hr := single_or rt
  have hn := num_bd n
  have hno := fun w (h : PAt w B m) => reached_no h ok A (numL n) j hA (singleL rt) hr hn.2 hl
  have hnum := fun w => number_any n w
  have hsin := fun w => single_any rt w
  generalize singleL rt = r at *
  generalize numL n = k at *
  clear hl hr hn
  have c0 := b.c0
  have c1 := b.c1
  have c2 := b.c2
  have c3 := b.c3
  have hd : w.drew.cell? ⟨K0, 0, none⟩ = some (mp B) ∧ w.drew.cell? ⟨K1, 0, none⟩ = some (.int .u32 A) ∧ w.drew.cell? ⟨K2, 0, none⟩ = some (.int .i64 n) ∧ w.drew.cell? ⟨K3, 0, none⟩ = some (.int .i64 rt) ∧ PAt w.drew B m := ⟨c0, c1, c2, c3, b.h.drew⟩
  have kd : Below w.heap.size w w.drew := ⟨rfl, rfl, rfl, Nat.le_refl _, fun _ _ => rfl⟩
  go_enter Tryz.func188, Tryz.ntmps188
  go_wp2_with fail
  refine wp_region_held_drew (S := fun W => W.cell? ⟨K0, 0, none⟩ = some (mp B) ∧ W.cell? ⟨K1, 0, none⟩ = some (.int .u32 A) ∧ W.cell? ⟨K2, 0, none⟩ = some (.int .i64 n) ∧ W.cell? ⟨K3, 0, none⟩ = some (.int .i64 rt) ∧ PAt W B m) (by kernel_rfl) hd (fun hHeld => ?_)
  refine wpAnyH_take (i := 0) (v := mp B) rfl (by kernel_rfl) (by kernel_rfl) (by kernel_rfl) (fun _ _ _ h => h) (Or.inl ⟨by rfl, ?_⟩) hHeld ?_
  · intro W hS
    obtain ⟨s0, s1, s2, s3, s4⟩ := hS
    go_simp
  simp only [Act.put, List.setIfInBounds_toArray, List.set_cons_zero, List.set_cons_succ]
  refine wpAnyH_take (i := 1) (v := .int .u32 A) rfl (by kernel_rfl) (by kernel_rfl) (by kernel_rfl) (fun _ _ _ h => h) (Or.inl ⟨by rfl, ?_⟩) hHeld ?_
  · intro W hS
    obtain ⟨s0, s1, s2, s3, s4⟩ := hS
    go_simp
  simp only [Act.put, List.setIfInBounds_toArray, List.set_cons_zero, List.set_cons_succ]
  refine wpAnyH_take (i := 2) (v := .int .i64 n) rfl (by kernel_rfl) (by kernel_rfl) (by kernel_rfl) (fun _ _ _ h => h) (Or.inl ⟨by rfl, ?_⟩) hHeld ?_
  · intro W hS
    obtain ⟨s0, s1, s2, s3, s4⟩ := hS
    go_simp
  simp only [Act.put, List.setIfInBounds_toArray, List.set_cons_zero, List.set_cons_succ]
  refine wpAnyH_take (i := 4) (v := .int .i64 rt) rfl (by kernel_rfl) (by kernel_rfl) (by kernel_rfl) (fun _ _ _ h => h) (Or.inl ⟨by rfl, ?_⟩) hHeld ?_
  · intro W hS
    obtain ⟨s0, s1, s2, s3, s4⟩ := hS
    go_simp
  simp only [Act.put, List.setIfInBounds_toArray, List.set_cons_zero, List.set_cons_succ]
  refine wpAnyH_take (i := 8) (v := .int .i64 0) rfl (by kernel_rfl) (by kernel_rfl) (by kernel_rfl) (fun _ _ _ h => h) (Or.inl ⟨by rfl, ?_⟩) hHeld ?_
  · intro W hS
    obtain ⟨s0, s1, s2, s3, s4⟩ := hS
    go_simp
  simp only [Act.put, List.setIfInBounds_toArray, List.set_cons_zero, List.set_cons_succ]
  refine wpAnyH_ready (rs := [3]) (by kernel_rfl) (by simp) ?_
  refine AllReadyH.cons rfl (fun K hK => ?_) AllReadyH.nil
  go_simp
  go_at_call 62
  refine (hnum _).mono ?_
  rintro e w' ⟨rfl, rfl⟩
  refine hK.out _ _ hHeld (fun _ => ?_)
  clear hK K
  refine wpAnyH_ready (rs := [5]) (by kernel_rfl) (by simp) ?_
  refine AllReadyH.cons rfl (fun K hK => ?_) AllReadyH.nil
  go_simp
  go_at_call 189
  refine (hsin _).mono ?_
  rintro e w' ⟨rfl, rfl⟩
  refine hK.out _ _ hHeld (fun _ => ?_)
  clear hK K
  refine wpAnyH_ready (rs := [6]) (by kernel_rfl) (by simp) ?_
  refine AllReadyH.cons rfl (fun K hK => ?_) AllReadyH.nil
  go_simp
  go_at_call 61
  refine (hno _ hd.2.2.2.2).mono ?_
  rintro e w' ⟨rfl, rfl⟩
  exact ⟨rfl, rfl, kd⟩
end Go.Proofs.YtcdoidnfdkodoaaGreatDoor

/- What may panic with a fault, tried. -/
namespace Go.Proofs.YtcdoidnfdkodoaaGreatDoor
open Go.RowKit
set_option linter.unusedVariables false
set_option linter.unusedSimpArgs false
set_option linter.unusedSectionVars false
set_option maxRecDepth 20000 in
/-- tried: bytes read, a fault. -/
theorem triedR_no (cap : Array Value) {w : World} (k p a t : Int) (h : ∀ W, Below w.heap.size w W → Calls Tryz.prog 188 cap W fun e w' => e = .panicked [{ v := .iface 42 (fltV k p a t), recovered := false }] ∧ Below W.heap.size W w') :
    Calls Tryz.prog 59 #[.func (.func 188) #[] cap] w fun e w' => e = .returned (.tuple #[fltV k p a t, .bool false]) ∧ Below w.heap.size w w' := by
  have hmf : ∀ (fn : Fn) (first cap : Array Value) (w : World), (Instr.makeFunc fn first cap).run Tryz.prog w = .ok (.func fn first cap) w := fun _ _ _ _ => rfl
  have hb := Told.begun w
  have k1 := ((Below.refl w.heap.size w).alloc (Nat.le_refl _) (.cells #[.int .i64 0, .int .u32 0, .int .u32 0, .int .i64 0] 42)).alloc (by simp) (.cells #[.bool false] 4)
  have hc := h _ k1
  clear h
  go_enter_defers Tryz.func59, Tryz.ntmps59
  go_wp2_with fail
  generalize ((w.alloc (.cells #[.int .i64 0, .int .u32 0, .int .u32 0, .int .i64 0] 42)).alloc (.cells #[.bool false] 4)) = w1 at *
  refine hc.mono ?_
  rintro e w2 ⟨rfl, k2⟩
  have z1 := size_of_cell hb.d
  have s2 := k2.size
  exact tried_caught (hb.below k2 z1) rfl rfl fun W' k3 => ⟨rfl, k1.trans ((k2.mono k1.size).trans (k3.below (by omega) (by simp)))⟩
end Go.Proofs.YtcdoidnfdkodoaaGreatDoor

/- Read. -/
namespace Go.Proofs.YtcdoidnfdkodoaaGreatDoor
open Go.RowKit
set_option linter.unusedVariables false
set_option linter.unusedSimpArgs false
set_option linter.unusedSectionVars false
set_option maxRecDepth 20000 in
theorem Read_no {B : Nat} {m : Mm} {w : World} (h : PAt w B m) (ok : m.ok) (A j : Nat) (hA : A ≤ 4294967295) (n r : Int) (hl : lackL m A (singleL r) (numL n) = some j) :
    Calls Tryz.prog 140 #[mp B, .int .u32 A, .int .i64 n, .int .i64 r] w fun e w' => e = .returned (.tuple #[.int .u32 0, fltV 1 0 ((A + j) % 4294967296) (singleL r), .bool false]) ∧ Below w.heap.size w w' := by
  have hmf : ∀ (fn : Fn) (first cap : Array Value) (w : World), (Instr.makeFunc fn first cap).run Tryz.prog w = .ok (.func fn first cap) w := fun _ _ _ _ => rfl
  have hB := h.lt
  have k5 := ((((((Below.refl w.heap.size w).alloc (Nat.le_refl _) (.cells #[mp B] 35)).alloc (by simp) (.cells #[.int .u32 A] 23)).alloc (by simp; omega) (.cells #[.int .i64 n] 3)).alloc (by simp; omega) (.cells #[.int .i64 r] 3)).alloc (by simp; omega) (.cells #[.int .i64 0, .int .u32 0, .int .u32 0, .int .i64 0] 42)).alloc (by simp; omega) (.cells #[.int .u32 0] 23)
  have hbx : Boxes ((((((w.alloc (.cells #[mp B] 35)).alloc (.cells #[.int .u32 A] 23)).alloc (.cells #[.int .i64 n] 3)).alloc (.cells #[.int .i64 r] 3)).alloc (.cells #[.int .i64 0, .int .u32 0, .int .u32 0, .int .i64 0] 42)).alloc (.cells #[.int .u32 0] 23)) B w.heap.size (w.heap.size + 1) (w.heap.size + 1 + 1) (w.heap.size + 1 + 1 + 1) m (.int .u32 A) (.int .i64 n) (.int .i64 r) :=
    ⟨(((((h.alloc _).alloc _).alloc _).alloc _).alloc _).alloc _, by simp [go_sem], by simp [go_sem], by simp [go_sem], by simp [go_sem]⟩
  have h4 := (Four.begun ((((w.alloc (.cells #[mp B] 35)).alloc (.cells #[.int .u32 A] 23)).alloc (.cells #[.int .i64 n] 3)).alloc (.cells #[.int .i64 r] 3)) 0 0 0 0 42).but (But.of ((Below.refl (((((w.alloc (.cells #[mp B] 35)).alloc (.cells #[.int .u32 A] 23)).alloc (.cells #[.int .i64 n] 3)).alloc (.cells #[.int .i64 r] 3)).alloc (.cells #[.int .i64 0, .int .u32 0, .int .u32 0, .int .i64 0] 42)).heap.size (((((w.alloc (.cells #[mp B] 35)).alloc (.cells #[.int .u32 A] 23)).alloc (.cells #[.int .i64 n] 3)).alloc (.cells #[.int .i64 r] 3)).alloc (.cells #[.int .i64 0, .int .u32 0, .int .u32 0, .int .i64 0] 42))).alloc (Nat.le_refl _) (.cells #[.int .u32 0] 23)) []) (by simp) (by simp)
  have cv : ((((((w.alloc (.cells #[mp B] 35)).alloc (.cells #[.int .u32 A] 23)).alloc (.cells #[.int .i64 n] 3)).alloc (.cells #[.int .i64 r] 3)).alloc (.cells #[.int .i64 0, .int .u32 0, .int .u32 0, .int .i64 0] 42)).alloc (.cells #[.int .u32 0] 23)).cell? ⟨w.heap.size + 1 + 1 + 1 + 1 + 1, 0, none⟩ = some (.int .u32 0) := by simp [go_sem]
  have fv : ((((((w.alloc (.cells #[mp B] 35)).alloc (.cells #[.int .u32 A] 23)).alloc (.cells #[.int .i64 n] 3)).alloc (.cells #[.int .i64 r] 3)).alloc (.cells #[.int .i64 0, .int .u32 0, .int .u32 0, .int .i64 0] 42)).alloc (.cells #[.int .u32 0] 23)).frozen? ⟨w.heap.size + 1 + 1 + 1 + 1 + 1, 0, none⟩ = false := by simp [go_sem]
  have s5 : ((((((w.alloc (.cells #[mp B] 35)).alloc (.cells #[.int .u32 A] 23)).alloc (.cells #[.int .i64 n] 3)).alloc (.cells #[.int .i64 r] 3)).alloc (.cells #[.int .i64 0, .int .u32 0, .int .u32 0, .int .i64 0] 42)).alloc (.cells #[.int .u32 0] 23)).heap.size = w.heap.size + 6 := by simp
  go_enter Tryz.func140, Tryz.ntmps140
  go_wp2_with fail
  have e4 : ((((w.alloc (.cells #[mp B] 35)).alloc (.cells #[.int .u32 A] 23)).alloc (.cells #[.int .i64 n] 3)).alloc (.cells #[.int .i64 r] 3)).heap.size = w.heap.size + 1 + 1 + 1 + 1 := by simp
  rw [e4] at h4
  clear e4
  generalize ((((((w.alloc (.cells #[mp B] 35)).alloc (.cells #[.int .u32 A] 23)).alloc (.cells #[.int .i64 n] 3)).alloc (.cells #[.int .i64 r] 3)).alloc (.cells #[.int .i64 0, .int .u32 0, .int .u32 0, .int .i64 0] 42)).alloc (.cells #[.int .u32 0] 23)) = w5 at *
  refine (triedR_no _ 1 0 ((A + j) % 4294967296) (singleL r) (fun W hW => read1_no ok A j hA n r (hbx.below hW (by omega) (by omega) (by omega) (by omega) (by omega)) hl)).mono ?_
  rintro e w6 ⟨rfl, k6⟩
  replace h4 := h4.but (But.of k6 []) (by omega) (by simp)
  replace cv := (k6.cell (p := ⟨w.heap.size + 1 + 1 + 1 + 1 + 1, 0, none⟩) (show w.heap.size + 1 + 1 + 1 + 1 + 1 < w5.heap.size by omega)).trans cv
  have kx := k5.trans (k6.mono (by omega))
  generalize hR : singleL r = R at *
  have hR' := hid hR
  clear hR
  have s6 := kx.size
  have z4 := size_of_cell h4.c0
  have zv := size_of_cell cv
  have h5 := h4.but (But.of ((Below.refl w6.heap.size w6).alloc (Nat.le_refl _) (.cells #[.int .i64 1, .int .u32 0, .int .u32 ((A + j) % 4294967296), .int .i64 R] 42)) []) z4 (by simp)
  have cv5 := up_cell cv (.cells #[.int .i64 1, .int .u32 0, .int .u32 ((A + j) % 4294967296), .int .i64 R] 42)
  have n5 := Four.begun w6 1 0 ((A + j) % 4294967296) R 42
  have kn := kx.alloc (by omega) (.cells #[.int .i64 1, .int .u32 0, .int .u32 ((A + j) % 4294967296), .int .i64 R] 42)
  clear hmf k5 k6 hbx hl h4 cv fv
  go_wp2_with fail
  generalize w6.alloc (.cells #[.int .i64 1, .int .u32 0, .int .u32 ((A + j) % 4294967296), .int .i64 R] 42) = w7 at *
  have hx : Four ((((w7.setCell ⟨w.heap.size + 1 + 1 + 1 + 1, 0, none⟩ (.int .i64 1)).setCell ⟨w.heap.size + 1 + 1 + 1 + 1, 1, none⟩ (.int .u32 0)).setCell ⟨w.heap.size + 1 + 1 + 1 + 1, 2, none⟩ (.int .u32 ((A + j) % 4294967296))).setCell ⟨w.heap.size + 1 + 1 + 1 + 1, 3, none⟩ (.int .i64 R)).drew (w.heap.size + 1 + 1 + 1 + 1) 1 0 ((A + j) % 4294967296) R := (h5.stored 1 0 ((A + j) % 4294967296) R).drew
  have kz : Below w.heap.size w ((((w7.setCell ⟨w.heap.size + 1 + 1 + 1 + 1, 0, none⟩ (.int .i64 1)).setCell ⟨w.heap.size + 1 + 1 + 1 + 1, 1, none⟩ (.int .u32 0)).setCell ⟨w.heap.size + 1 + 1 + 1 + 1, 2, none⟩ (.int .u32 ((A + j) % 4294967296))).setCell ⟨w.heap.size + 1 + 1 + 1 + 1, 3, none⟩ (.int .i64 R)).drew :=
    ((But.of kn [w.heap.size + 1 + 1 + 1 + 1]).stored4 (K := w.heap.size + 1 + 1 + 1 + 1) (by simp) (.int .i64 1) (.int .u32 0) (.int .u32 ((A + j) % 4294967296)) (.int .i64 R)).drew.below (Nat.le_refl _) (by simp; omega)
  obtain ⟨c0, c1, c2, c3, f⟩ := h5
  obtain ⟨g0, g1, g2, g3, g⟩ := n5
  have f0 := f 0
  have f1 := f 1
  have f2 := f 2
  have f3 := f 3
  clear f g kn kx
  go_region
  clear c0 c1 c2 c3 f0 f1 f2 f3 g0 g1 g2 g3 cv5
  generalize ((((w7.setCell ⟨w.heap.size + 1 + 1 + 1 + 1, 0, none⟩ (.int .i64 1)).setCell ⟨w.heap.size + 1 + 1 + 1 + 1, 1, none⟩ (.int .u32 0)).setCell ⟨w.heap.size + 1 + 1 + 1 + 1, 2, none⟩ (.int .u32 ((A + j) % 4294967296))).setCell ⟨w.heap.size + 1 + 1 + 1 + 1, 3, none⟩ (.int .i64 R)).drew = w8 at *
  obtain ⟨d0, d1, d2, d3, -⟩ := hx
  go_wp2_with fail
  exact bodyPost_ret (v := .tuple #[.int .u32 0, fltV 1 0 ((A + j) % 4294967296) R, .bool false]) (by simp [results, Tryz.results140, go_sem, d0, d1, d2, d3]) rfl ⟨by rw [hR'.out], kz⟩
end Go.Proofs.YtcdoidnfdkodoaaGreatDoor

/- The page memory of a law's own; known. -/
namespace Go.Proofs.YtcdoidnfdkodoaaGreatDoor
open Go.RowKit
set_option linter.unusedVariables false
set_option linter.unusedSimpArgs false
set_option linter.unusedSectionVars false
section
variable {n0 : Nat} {w0 w : World} {B : Nat} {m : Mm}
end
def kM1 : Mm := mapS Mm.new 0 1 3
def kM2 : Mm := wroteM kM1 0 4 16909060
end Go.Proofs.YtcdoidnfdkodoaaGreatDoor

/- operand: what may panic with a fault, tried. -/
namespace Go.Proofs.YtcdoidnfdkodoaaGreatDoor
open Go.RowKit
set_option linter.unusedVariables false
set_option linter.unusedSimpArgs false
set_option linter.unusedSectionVars false
set_option maxRecDepth 20000 in
/-- tried: bytes read, a fault. -/
theorem otriedR_no (cap : Array Value) {w : World} (k p a t : Int) (h : ∀ W, Below w.heap.size w W → Calls Tryz.prog 229 cap W fun e w' => e = .panicked [{ v := .iface 42 (fltV k p a t), recovered := false }] ∧ Below W.heap.size W w') :
    Calls Tryz.prog 211 #[.func (.func 229) #[] cap] w fun e w' => e = .returned (.tuple #[fltV k p a t, .bool false]) ∧ Below w.heap.size w w' := by
  have hmf : ∀ (fn : Fn) (first cap : Array Value) (w : World), (Instr.makeFunc fn first cap).run Tryz.prog w = .ok (.func fn first cap) w := fun _ _ _ _ => rfl
  have hb := Told.begun w
  have k1 := ((Below.refl w.heap.size w).alloc (Nat.le_refl _) (.cells #[.int .i64 0, .int .u32 0, .int .u32 0, .int .i64 0] 42)).alloc (by simp) (.cells #[.bool false] 4)
  have hc := h _ k1
  clear h
  go_enter_defers Tryz.func211, Tryz.ntmps211
  go_wp2_with fail
  generalize ((w.alloc (.cells #[.int .i64 0, .int .u32 0, .int .u32 0, .int .i64 0] 42)).alloc (.cells #[.bool false] 4)) = w1 at *
  refine hc.mono ?_
  rintro e w2 ⟨rfl, k2⟩
  have z1 := size_of_cell hb.d
  have s2 := k2.size
  exact otried_caught (hb.below k2 z1) rfl rfl fun W' k3 => ⟨rfl, k1.trans ((k2.mono k1.size).trans (k3.below (by omega) (by simp)))⟩
set_option maxRecDepth 20000 in
/-- tried: bytes read, a fault. -/
theorem otriedC_no (cap : Array Value) {w : World} (k p a t : Int) (h : ∀ W, Below w.heap.size w W → Calls Tryz.prog 232 cap W fun e w' => e = .panicked [{ v := .iface 42 (fltV k p a t), recovered := false }] ∧ Below W.heap.size W w') :
    Calls Tryz.prog 211 #[.func (.func 232) #[] cap] w fun e w' => e = .returned (.tuple #[fltV k p a t, .bool false]) ∧ Below w.heap.size w w' := by
  have hmf : ∀ (fn : Fn) (first cap : Array Value) (w : World), (Instr.makeFunc fn first cap).run Tryz.prog w = .ok (.func fn first cap) w := fun _ _ _ _ => rfl
  have hb := Told.begun w
  have k1 := ((Below.refl w.heap.size w).alloc (Nat.le_refl _) (.cells #[.int .i64 0, .int .u32 0, .int .u32 0, .int .i64 0] 42)).alloc (by simp) (.cells #[.bool false] 4)
  have hc := h _ k1
  clear h
  go_enter_defers Tryz.func211, Tryz.ntmps211
  go_wp2_with fail
  generalize ((w.alloc (.cells #[.int .i64 0, .int .u32 0, .int .u32 0, .int .i64 0] 42)).alloc (.cells #[.bool false] 4)) = w1 at *
  refine hc.mono ?_
  rintro e w2 ⟨rfl, k2⟩
  have z1 := size_of_cell hb.d
  have s2 := k2.size
  exact otried_caught (hb.below k2 z1) rfl rfl fun W' k3 => ⟨rfl, k1.trans ((k2.mono k1.size).trans (k3.below (by omega) (by simp)))⟩
end Go.Proofs.YtcdoidnfdkodoaaGreatDoor

/- operand: places; bytes of memory, or the panic; rights asked. -/
namespace Go.Proofs.YtcdoidnfdkodoaaGreatDoor
open Go.RowKit
set_option linter.unusedVariables false
set_option linter.unusedSimpArgs false
set_option linter.unusedSectionVars false
set_option maxRecDepth 20000 in
theorem load_no {B : Nat} {m : Mm} {w : World} (h : PAt w B m) (ok : m.ok) (A j : Nat) (hA : A ≤ 4294967295) (n : Int) (hl : lackL m A 1 (numL n) = some j) :
    Calls Tryz.prog 245 #[mp B, .int .u32 A, .int .i64 n] w fun e w' => e = .panicked (fltP ((A + j) % 4294967296) 1) ∧ Below w.heap.size w w' := by
  have hR := Lib.hid (Read_no h ok A j hA n 1 hl)
  clear hl
  rw [show singleL 1 = 1 from rfl] at hR
  generalize ((A : Int) + j) % 4294967296 = a at *
  go_enter Tryz.func245, Tryz.ntmps245
  go_wp2_with ((with_reducible refine hR.out.mono ?_); rintro e w1 ⟨rfl, b1⟩; have b2 := b1.alloc b1.size (.cells #[.int .i64 1, .int .u32 0, .int .u32 a, .int .i64 1] 42); obtain ⟨d0, d1, d2, d3, -⟩ := Four.begun w1 1 0 a 1 42)
  exact ⟨rfl, rfl, b2⟩
def lkL (m : Mm) (rt a : Int) : Int := bits .andNot .i64 (bits .and .i64 rt 7) (placeL m a)
def wantL (x : Int) : Int := bits .and .i64 x (wrap64 (-x))
theorem oRights {B : Nat} {m : Mm} {w : World} (h : PAt w B m) (ok : m.ok) (a : Int) (ha : 0 ≤ a ∧ a ≤ 4294967295) : Calls Tryz.prog 49 #[mp B, .int .i64 (a / 256)] w fun e w' => e = .returned (.int .i64 (placeL m a)) ∧ w = w' := by
  have hr := Rights_any h (a / 256)
  have he : rightsL m (a / 256) = placeL m a := by
    unfold rightsL placeL
    split
    · rfl
    · rw [ok.out _ (by omega)]
  rwa [he] at hr
theorem askAt_any {B : Nat} {m : Mm} {w : World} (h : PAt w B m) (ok : m.ok) (rt a : Int) (ha : 0 ≤ a ∧ a ≤ 4294967295) :
    Calls Tryz.prog 243 #[mp B, .int .u32 a, .int .i64 rt] w fun e w' => e = (if lkL m rt a = 0 then .returned (.tuple #[]) else .panicked (fltP a (wantL (lkL m rt a)))) ∧ w = w' := by
  have hR := Lib.hid (oRights h ok a ha)
  have ha2 : a / 256 < 16777216 := by omega
  unfold lkL
  generalize placeL m a = x at *
  by_cases hx : bits .andNot .i64 (bits .and .i64 rt 7) x = 0
  · rw [if_pos hx]
    have hx2 : (bits .andNot .i64 (bits .and .i64 rt 7) x != 0) = false := by simp [hx]
    clear hx
    go_enter Tryz.func243, Tryz.ntmps243
    go_wp2_with ((with_reducible refine hR.out.mono ?_); rintro e w1 ⟨rfl, rfl⟩)
    exact bodyPost_end (v := .tuple #[]) (by simp [results, Tryz.results243, go_sem]) rfl ⟨rfl, rfl⟩
  · rw [if_neg hx]
    have hx2 : (bits .andNot .i64 (bits .and .i64 rt 7) x != 0) = true := by simp [hx]
    clear hx
    unfold wantL
    go_enter Tryz.func243, Tryz.ntmps243
    go_wp2_with ((with_reducible refine hR.out.mono ?_); rintro e w1 ⟨rfl, rfl⟩)
    exact ⟨rfl, rfl, rfl⟩
set_option maxRecDepth 20000 in
theorem ask_yes {B : Nat} {m : Mm} {w : World} (h : PAt w B m) (ok : m.ok) (rt a : Int) (ha : 0 ≤ a ∧ a ≤ 4294967295) (n : Nat) (hn : n ≤ 100) (hl : ∀ i, i < n → lkL m rt ((a + i) % 4294967296) = 0) :
    Calls Tryz.prog 213 #[mp B, .int .u32 a, .int .i64 n, .int .i64 rt] w fun e w' => e = .returned (.tuple #[]) ∧ w = w' := by
  have hL := Lib.hid hl
  clear hl
  go_enter Tryz.func213, Tryz.ntmps213
  go_wp2_with fail
  go_loopw [11] (fun ii W => ∃ k : Nat, k ≤ n ∧ ii = .int .i64 k ∧ W = w) (fun ii _ => (n - intOf ii).toNat)
  case atStart => exact ⟨0, by omega, rfl, rfl⟩
  case round =>
    obtain ⟨k, hk, rfl, rfl⟩ := hrel
    by_cases hlt : k < n
    · have hq := askAt_any h ok rt ((a + k) % 4294967296) (by omega)
      rw [if_pos (hL.out k hlt)] at hq
      have hQ := Lib.hid hq
      clear hq
      go_wp2_with ((with_reducible refine hQ.out.mono ?_); rintro e w1 ⟨rfl, rfl⟩)
      go_roundw
      case rel => exact ⟨k + 1, by omega, by go_num, trivial⟩
      case measure => simp [intOf]; omega
    · obtain rfl : k = n := by omega
      go_wp2_with fail
      exact bodyPost_end (v := .tuple #[]) (by simp [results, Tryz.results213, go_sem]) rfl ⟨rfl, rfl⟩
set_option maxRecDepth 20000 in
theorem ask_no {B : Nat} {m : Mm} {w : World} (h : PAt w B m) (ok : m.ok) (rt a : Int) (ha : 0 ≤ a ∧ a ≤ 4294967295) (n j : Nat) (hn : n ≤ 100) (hj : j < n) (hl : ∀ i, i < j → lkL m rt ((a + i) % 4294967296) = 0) (hx : ¬ lkL m rt ((a + j) % 4294967296) = 0) :
    Calls Tryz.prog 213 #[mp B, .int .u32 a, .int .i64 n, .int .i64 rt] w fun e w' => e = .panicked (fltP ((a + j) % 4294967296) (wantL (lkL m rt ((a + j) % 4294967296)))) ∧ w = w' := by
  have hL := Lib.hid hl
  have hX := Lib.hid hx
  clear hl hx
  go_enter Tryz.func213, Tryz.ntmps213
  go_wp2_with fail
  go_loopw [11] (fun ii W => ∃ k : Nat, k ≤ j ∧ ii = .int .i64 k ∧ W = w) (fun ii _ => (n - intOf ii).toNat)
  case atStart => exact ⟨0, by omega, rfl, rfl⟩
  case round =>
    obtain ⟨k, hk, rfl, rfl⟩ := hrel
    have hlt : k < n := by omega
    have hq := askAt_any h ok rt ((a + k) % 4294967296) (by omega)
    by_cases hkj : k < j
    · rw [if_pos (hL.out k hkj)] at hq
      have hQ := Lib.hid hq
      clear hq
      go_wp2_with ((with_reducible refine hQ.out.mono ?_); rintro e w1 ⟨rfl, rfl⟩)
      go_roundw
      case rel => exact ⟨k + 1, by omega, by go_num, trivial⟩
      case measure => simp [intOf]; omega
    · obtain rfl : k = j := by omega
      rw [if_neg hX.out] at hq
      have hQ := Lib.hid hq
      clear hq
      go_wp2_with ((with_reducible refine hQ.out.mono ?_); rintro e w1 ⟨rfl, rfl⟩)
      exact ⟨rfl, rfl, rfl⟩
end Go.Proofs.YtcdoidnfdkodoaaGreatDoor

/- operand.Can. -/
namespace Go.Proofs.YtcdoidnfdkodoaaGreatDoor
open Go.RowKit
set_option linter.unusedVariables false
set_option linter.unusedSimpArgs false
set_option linter.unusedSectionVars false
set_option maxRecDepth 20000 in
theorem can1_yes {B Km Ks Ko Kn Kr : Nat} {m : Mm} {g : Gs} {o : On} {n : Nat} {rt : Int} {w : World} (k : CBx w B Km Ks Ko Kn Kr m g o n rt) (ok : m.ok) (hk : o.k = 3) (hn : n ≤ 100) (hl : ∀ i, i < n → lkL m rt ((plO g o + i) % 4294967296) = 0) : Calls Tryz.prog 232 #[cp Ko, cp Km, cp Ks, cp Kn, cp Kr] w fun e w' => e = .returned (.tuple #[]) ∧ Below w.heap.size w w' := by
  have hA := Lib.hid (fun W (h : PAt W B m) => ask_yes h ok rt (plO g o) (plO_bd g o) n hn hl)
  have hP := Lib.hid (fun W => Place_any g o W)
  clear hl
  have c0 := k.o.cell (i := 0) (v := .int .i64 o.k) rfl
  rw [hk] at c0
  go_enter Tryz.func232, Tryz.ntmps232
  go_upto_region 1 with fail
  clear c0
  have bd := (Below.refl w.heap.size w).drew
  refine wp_region_held_drew (S := fun V => CBx V B Km Ks Ko Kn Kr m g o n rt) (by kernel_rfl) k.drew (fun hH => ?_)
  generalize w.drew = W1 at *
  refine wpAnyH_take (i := 0) (v := ?_) rfl (by kernel_rfl) (by kernel_rfl) (by kernel_rfl) (fun _ _ _ h => h) (Or.inl ⟨by kernel_rfl, ?_⟩) hH ?_
  rotate_left
  · intro W hS
    have c1 := hS.m
    go_simp
    try rfl
  simp only [Act.put, List.setIfInBounds_toArray, List.set_cons_zero, List.set_cons_succ, List.getElem_toArray, List.getElem_cons_succ, List.getElem_cons_zero]
  refine wpAnyH_take (i := 1) (v := stV g) rfl (by kernel_rfl) (by kernel_rfl) (by kernel_rfl) (fun _ _ _ h => h) (Or.inl ⟨by kernel_rfl, ?_⟩) hH ?_
  · intro W hS
    exact run_load_row (by rfl) (by rfl) 29 _ (0, 0) _ hS.s.h Tryz.underlying29 rfl szS
  simp only [Act.put, List.setIfInBounds_toArray, List.set_cons_zero, List.set_cons_succ]
  refine wpAnyH_take (i := 2) (v := opV o) rfl (by kernel_rfl) (by kernel_rfl) (by kernel_rfl) (fun _ _ _ h => h) (Or.inl ⟨by kernel_rfl, ?_⟩) hH ?_
  · intro W hS
    exact run_load_row (by rfl) (by rfl) 31 _ (0, 0) _ hS.o.h Tryz.underlying31 rfl szO
  simp only [Act.put, List.setIfInBounds_toArray, List.set_cons_zero, List.set_cons_succ]
  refine wpAnyH_take (i := 4) (v := ?_) rfl (by kernel_rfl) (by kernel_rfl) (by kernel_rfl) (fun _ _ _ h => h) (Or.inl ⟨by kernel_rfl, ?_⟩) hH ?_
  rotate_left
  · intro W hS
    have c1 := hS.n
    go_simp
    try rfl
  simp only [Act.put, List.setIfInBounds_toArray, List.set_cons_zero, List.set_cons_succ, List.getElem_toArray, List.getElem_cons_succ, List.getElem_cons_zero]
  refine wpAnyH_take (i := 5) (v := ?_) rfl (by kernel_rfl) (by kernel_rfl) (by kernel_rfl) (fun _ _ _ h => h) (Or.inl ⟨by kernel_rfl, ?_⟩) hH ?_
  rotate_left
  · intro W hS
    have c1 := hS.r
    go_simp
    try rfl
  simp only [Act.put, List.setIfInBounds_toArray, List.set_cons_zero, List.set_cons_succ, List.getElem_toArray, List.getElem_cons_succ, List.getElem_cons_zero]
  refine wpAnyH_ready (rs := [3]) (by kernel_rfl) (by simp) ?_
  refine AllReadyH.cons rfl (fun K hK => ?_) AllReadyH.nil
  go_simp
  with_reducible refine (hP.out _).mono ?_
  rintro e w2 ⟨rfl, b2⟩
  have hH2 := hH.below b2
  refine hK.out _ _ hH2 (fun _ => ?_)
  clear hK K
  try simp only [Act.put, List.setIfInBounds_toArray, List.set_cons_zero, List.set_cons_succ]
  refine wpAnyH_ready (rs := [6]) (by kernel_rfl) (by simp) ?_
  refine AllReadyH.cons rfl (fun K hK => ?_) AllReadyH.nil
  go_simp
  with_reducible refine (hA.out _ hH2.h).mono ?_
  rintro e w3 ⟨rfl, hw⟩
  subst hw
  refine hK.out _ _ hH2 (fun _ => ?_)
  clear hK K
  try simp only [Act.put, List.setIfInBounds_toArray, List.set_cons_zero, List.set_cons_succ]
  refine wpAnyH_done (by kernel_rfl) ?_ _
  go_wp2_with fail
  exact bodyPost_end (v := .tuple #[]) (by simp [results, Tryz.results232, go_sem]) rfl ⟨rfl, bd.trans (b2.mono bd.size)⟩
set_option maxRecDepth 20000 in
theorem can1_no {B Km Ks Ko Kn Kr : Nat} {m : Mm} {g : Gs} {o : On} {n : Nat} {rt : Int} {w : World} (k : CBx w B Km Ks Ko Kn Kr m g o n rt) (ok : m.ok) (hk : o.k = 3) (hn : n ≤ 100) (j : Nat) (hj : j < n) (hl : ∀ i, i < j → lkL m rt ((plO g o + i) % 4294967296) = 0) (hx : ¬ lkL m rt ((plO g o + j) % 4294967296) = 0) : Calls Tryz.prog 232 #[cp Ko, cp Km, cp Ks, cp Kn, cp Kr] w fun e w' => e = .panicked (fltP ((plO g o + j) % 4294967296) (wantL (lkL m rt ((plO g o + j) % 4294967296)))) ∧ Below w.heap.size w w' := by
  have hA := Lib.hid (fun W (h : PAt W B m) => ask_no h ok rt (plO g o) (plO_bd g o) n j hn hj hl hx)
  have hP := Lib.hid (fun W => Place_any g o W)
  clear hl hx
  have c0 := k.o.cell (i := 0) (v := .int .i64 o.k) rfl
  rw [hk] at c0
  go_enter Tryz.func232, Tryz.ntmps232
  go_upto_region 1 with fail
  clear c0
  have bd := (Below.refl w.heap.size w).drew
  refine wp_region_held_drew (S := fun V => CBx V B Km Ks Ko Kn Kr m g o n rt) (by kernel_rfl) k.drew (fun hH => ?_)
  generalize w.drew = W1 at *
  refine wpAnyH_take (i := 0) (v := ?_) rfl (by kernel_rfl) (by kernel_rfl) (by kernel_rfl) (fun _ _ _ h => h) (Or.inl ⟨by kernel_rfl, ?_⟩) hH ?_
  rotate_left
  · intro W hS
    have c1 := hS.m
    go_simp
    try rfl
  simp only [Act.put, List.setIfInBounds_toArray, List.set_cons_zero, List.set_cons_succ, List.getElem_toArray, List.getElem_cons_succ, List.getElem_cons_zero]
  refine wpAnyH_take (i := 1) (v := stV g) rfl (by kernel_rfl) (by kernel_rfl) (by kernel_rfl) (fun _ _ _ h => h) (Or.inl ⟨by kernel_rfl, ?_⟩) hH ?_
  · intro W hS
    exact run_load_row (by rfl) (by rfl) 29 _ (0, 0) _ hS.s.h Tryz.underlying29 rfl szS
  simp only [Act.put, List.setIfInBounds_toArray, List.set_cons_zero, List.set_cons_succ]
  refine wpAnyH_take (i := 2) (v := opV o) rfl (by kernel_rfl) (by kernel_rfl) (by kernel_rfl) (fun _ _ _ h => h) (Or.inl ⟨by kernel_rfl, ?_⟩) hH ?_
  · intro W hS
    exact run_load_row (by rfl) (by rfl) 31 _ (0, 0) _ hS.o.h Tryz.underlying31 rfl szO
  simp only [Act.put, List.setIfInBounds_toArray, List.set_cons_zero, List.set_cons_succ]
  refine wpAnyH_take (i := 4) (v := ?_) rfl (by kernel_rfl) (by kernel_rfl) (by kernel_rfl) (fun _ _ _ h => h) (Or.inl ⟨by kernel_rfl, ?_⟩) hH ?_
  rotate_left
  · intro W hS
    have c1 := hS.n
    go_simp
    try rfl
  simp only [Act.put, List.setIfInBounds_toArray, List.set_cons_zero, List.set_cons_succ, List.getElem_toArray, List.getElem_cons_succ, List.getElem_cons_zero]
  refine wpAnyH_take (i := 5) (v := ?_) rfl (by kernel_rfl) (by kernel_rfl) (by kernel_rfl) (fun _ _ _ h => h) (Or.inl ⟨by kernel_rfl, ?_⟩) hH ?_
  rotate_left
  · intro W hS
    have c1 := hS.r
    go_simp
    try rfl
  simp only [Act.put, List.setIfInBounds_toArray, List.set_cons_zero, List.set_cons_succ, List.getElem_toArray, List.getElem_cons_succ, List.getElem_cons_zero]
  refine wpAnyH_ready (rs := [3]) (by kernel_rfl) (by simp) ?_
  refine AllReadyH.cons rfl (fun K hK => ?_) AllReadyH.nil
  go_simp
  with_reducible refine (hP.out _).mono ?_
  rintro e w2 ⟨rfl, b2⟩
  have hH2 := hH.below b2
  refine hK.out _ _ hH2 (fun _ => ?_)
  clear hK K
  try simp only [Act.put, List.setIfInBounds_toArray, List.set_cons_zero, List.set_cons_succ]
  refine wpAnyH_ready (rs := [6]) (by kernel_rfl) (by simp) ?_
  refine AllReadyH.cons rfl (fun K hK => ?_) AllReadyH.nil
  go_simp
  with_reducible refine (hA.out _ hH2.h).mono ?_
  rintro e w3 ⟨rfl, hw⟩
  subst hw
  exact ⟨rfl, rfl, bd.trans (b2.mono bd.size)⟩
set_option maxRecDepth 20000 in
theorem Can_yes {B : Nat} {m : Mm} {w : World} (h : PAt w B m) (ok : m.ok) (g : Gs) (o : On) (n : Nat) (rt : Int) (hk : o.k = 3) (hn : n ≤ 100) (hl : ∀ i, i < n → lkL m rt ((plO g o + i) % 4294967296) = 0) : Calls Tryz.prog 199 #[mp B, stV g, opV o, .int .i64 n, .int .i64 rt] w fun e w' => e = .returned (.tuple #[fltV 0 0 0 0, .bool true]) ∧ Below w.heap.size w w' := by
  have hmf : ∀ (fn : Fn) (first cap : Array Value) (w : World), (Instr.makeFunc fn first cap).run Tryz.prog w = .ok (.func fn first cap) w := fun _ _ _ _ => rfl
  obtain ⟨hbx, h4, k5, s5⟩ := cbx_new h g o n rt
  have hc := Lib.hid (fun (W : World) (hW : Below ((((((w.alloc (.cells #[mp B] 35)).alloc (.cells (stA g) 29)).alloc (.cells (op6 o) 31)).alloc (.cells #[.int .i64 n] 3)).alloc (.cells #[.int .i64 rt] 3)).alloc (.cells f0A 42)).heap.size ((((((w.alloc (.cells #[mp B] 35)).alloc (.cells (stA g) 29)).alloc (.cells (op6 o) 31)).alloc (.cells #[.int .i64 n] 3)).alloc (.cells #[.int .i64 rt] 3)).alloc (.cells f0A 42)) W) => can1_yes (hbx.below hW) ok hk hn hl)
  clear hl
  go_enter Tryz.func199, Tryz.ntmps199
  go_wp2_with fail
  generalize ((((((w.alloc (.cells #[mp B] 35)).alloc (.cells (stA g) 29)).alloc (.cells (op6 o) 31)).alloc (.cells #[.int .i64 n] 3)).alloc (.cells #[.int .i64 rt] 3)).alloc (.cells #[.int .i64 0, .int .u32 0, .int .u32 0, .int .i64 0] 42)) = w5 at *
  refine (otriedC_yes _ [] (fun _ => True) (by simp) (fun _ _ _ _ => trivial) (fun W hW => (hc.out W hW).mono fun e w' hh => ⟨hh.1, trivial, But.of hh.2 _⟩)).mono ?_
  rintro e w6 ⟨rfl, -, k6'⟩
  have k6 := k6'.below (Nat.le_refl _) (by simp)
  clear k6'
  replace h4 := h4.but (But.of k6 []) (by omega) (by simp)
  have hx := h4.stored 0 0 0 0
  have kx := (But.of (k5.trans (k6.mono (by omega))) [w.heap.size + 1 + 1 + 1 + 1 + 1]).stored4 (K := w.heap.size + 1 + 1 + 1 + 1 + 1) (by simp) (.int .i64 0) (.int .u32 0) (.int .u32 0) (.int .i64 0)
  obtain ⟨c0, c1, c2, c3, f⟩ := h4
  have q0 := f 0
  have q1 := f 1
  have q2 := f 2
  have q3 := f 3
  clear f hmf k5 k6 hbx hc
  go_wp2_with fail
  clear c0 c1 c2 c3 q0 q1 q2 q3
  generalize ((((w6.setCell ⟨w.heap.size + 1 + 1 + 1 + 1 + 1, 0, none⟩ (.int .i64 0)).setCell ⟨w.heap.size + 1 + 1 + 1 + 1 + 1, 1, none⟩ (.int .u32 0)).setCell ⟨w.heap.size + 1 + 1 + 1 + 1 + 1, 2, none⟩ (.int .u32 0)).setCell ⟨w.heap.size + 1 + 1 + 1 + 1 + 1, 3, none⟩ (.int .i64 0)) = w7 at *
  obtain ⟨d0, d1, d2, d3, -⟩ := hx
  exact bodyPost_ret (v := .tuple #[fltV 0 0 0 0, .bool true]) (by simp [results, Tryz.results199, go_sem, d0, d1, d2, d3]) rfl ⟨rfl, kx.below (Nat.le_refl _) (by simp; omega)⟩
set_option maxRecDepth 20000 in
theorem Can_no {B : Nat} {m : Mm} {w : World} (h : PAt w B m) (ok : m.ok) (g : Gs) (o : On) (n : Nat) (rt : Int) (hk : o.k = 3) (hn : n ≤ 100) (j : Nat) (hj : j < n) (hl : ∀ i, i < j → lkL m rt ((plO g o + i) % 4294967296) = 0) (hx : ¬ lkL m rt ((plO g o + j) % 4294967296) = 0) : Calls Tryz.prog 199 #[mp B, stV g, opV o, .int .i64 n, .int .i64 rt] w fun e w' => e = .returned (.tuple #[fltV 1 0 ((plO g o + j) % 4294967296) (wantL (lkL m rt ((plO g o + j) % 4294967296))), .bool false]) ∧ Below w.heap.size w w' := by
  have hmf : ∀ (fn : Fn) (first cap : Array Value) (w : World), (Instr.makeFunc fn first cap).run Tryz.prog w = .ok (.func fn first cap) w := fun _ _ _ _ => rfl
  obtain ⟨hbx, h4, k5, s5⟩ := cbx_new h g o n rt
  have hc := Lib.hid (fun (W : World) (hW : Below ((((((w.alloc (.cells #[mp B] 35)).alloc (.cells (stA g) 29)).alloc (.cells (op6 o) 31)).alloc (.cells #[.int .i64 n] 3)).alloc (.cells #[.int .i64 rt] 3)).alloc (.cells f0A 42)).heap.size ((((((w.alloc (.cells #[mp B] 35)).alloc (.cells (stA g) 29)).alloc (.cells (op6 o) 31)).alloc (.cells #[.int .i64 n] 3)).alloc (.cells #[.int .i64 rt] 3)).alloc (.cells f0A 42)) W) => can1_no (hbx.below hW) ok hk hn j hj hl hx)
  clear hl hx
  generalize hA : (plO g o + j) % 4294967296 = A at *
  generalize hT : wantL (lkL m rt A) = T at *
  have HA := Lib.hid hA
  have HT := Lib.hid hT
  clear hA hT
  go_enter Tryz.func199, Tryz.ntmps199
  go_wp2_with fail
  generalize ((((((w.alloc (.cells #[mp B] 35)).alloc (.cells (stA g) 29)).alloc (.cells (op6 o) 31)).alloc (.cells #[.int .i64 n] 3)).alloc (.cells #[.int .i64 rt] 3)).alloc (.cells #[.int .i64 0, .int .u32 0, .int .u32 0, .int .i64 0] 42)) = w5 at *
  refine (otriedC_no _ 1 0 A T (fun W hW => hc.out W hW)).mono ?_
  rintro e w6 ⟨rfl, k6⟩
  replace h4 := h4.but (But.of k6 []) (by omega) (by simp)
  have hx := h4.stored 1 0 A T
  have kx := (But.of (k5.trans (k6.mono (by omega))) [w.heap.size + 1 + 1 + 1 + 1 + 1]).stored4 (K := w.heap.size + 1 + 1 + 1 + 1 + 1) (by simp) (.int .i64 1) (.int .u32 0) (.int .u32 A) (.int .i64 T)
  obtain ⟨c0, c1, c2, c3, f⟩ := h4
  have q0 := f 0
  have q1 := f 1
  have q2 := f 2
  have q3 := f 3
  clear f hmf k5 k6 hbx hc
  go_wp2_with fail
  clear c0 c1 c2 c3 q0 q1 q2 q3
  generalize ((((w6.setCell ⟨w.heap.size + 1 + 1 + 1 + 1 + 1, 0, none⟩ (.int .i64 1)).setCell ⟨w.heap.size + 1 + 1 + 1 + 1 + 1, 1, none⟩ (.int .u32 0)).setCell ⟨w.heap.size + 1 + 1 + 1 + 1 + 1, 2, none⟩ (.int .u32 A)).setCell ⟨w.heap.size + 1 + 1 + 1 + 1 + 1, 3, none⟩ (.int .i64 T)) = w7 at *
  obtain ⟨d0, d1, d2, d3, -⟩ := hx
  exact bodyPost_ret (v := .tuple #[fltV 1 0 A T, .bool false]) (by simp [results, Tryz.results199, go_sem, d0, d1, d2, d3]) rfl ⟨by have h1 := HA.out; subst h1; have h2 := HT.out; subst h2; rfl, kx.below (Nat.le_refl _) (by simp; omega)⟩
end Go.Proofs.YtcdoidnfdkodoaaGreatDoor

/- operand.Read, whatever is read within. -/
namespace Go.Proofs.YtcdoidnfdkodoaaGreatDoor
open Go.RowKit
set_option linter.unusedVariables false
set_option linter.unusedSimpArgs false
set_option linter.unusedSectionVars false
set_option maxRecDepth 20000 in
theorem oread1_no {B Km Ks Ko Kn Kv : Nat} {m : Mm} {g : Gs} {o : On} {n : Int} {w : World} (k : RBx w B Km Ks Ko Kn m g o n) (a t : Int) (hr : ∀ W, PAt W B m → Calls Tryz.prog 230 #[mp B, stV g, opV o, .int .i64 (numO n)] W fun e w' => e = .panicked (fltP a t) ∧ Below W.heap.size W w') : Calls Tryz.prog 229 #[cp Km, cp Ks, cp Ko, cp Kn, cp Kv] w fun e w' => e = .panicked (fltP a t) ∧ Below w.heap.size w w' := by
  have hR := Lib.hid hr
  have hN := Lib.hid (fun W => onumber_any n W)
  clear hr
  generalize numO n = q at *
  go_enter Tryz.func229, Tryz.ntmps229
  go_upto_region 0 with fail
  have bd := (Below.refl w.heap.size w).drew
  refine wp_region_held_drew (S := fun V => RBx V B Km Ks Ko Kn m g o n) (by kernel_rfl) k.drew (fun hH => ?_)
  have hsz := Lib.hid (show w.heap.size = w.drew.heap.size from rfl)
  generalize w.drew = W1 at *
  refine wpAnyH_take (i := 0) (v := ?_) rfl (by kernel_rfl) (by kernel_rfl) (by kernel_rfl) (fun _ _ _ h => h) (Or.inl ⟨by kernel_rfl, ?_⟩) hH ?_
  rotate_left
  · intro W hS
    have c1 := hS.m
    go_simp
    try rfl
  simp only [Act.put, List.setIfInBounds_toArray, List.set_cons_zero, List.set_cons_succ, List.getElem_toArray, List.getElem_cons_succ, List.getElem_cons_zero]
  refine wpAnyH_take (i := 1) (v := stV g) rfl (by kernel_rfl) (by kernel_rfl) (by kernel_rfl) (fun _ _ _ h => h) (Or.inl ⟨by kernel_rfl, ?_⟩) hH ?_
  · intro W hS
    exact run_load_row (by rfl) (by rfl) 29 _ (0, 0) _ hS.s.h Tryz.underlying29 rfl szS
  simp only [Act.put, List.setIfInBounds_toArray, List.set_cons_zero, List.set_cons_succ]
  refine wpAnyH_take (i := 2) (v := opV o) rfl (by kernel_rfl) (by kernel_rfl) (by kernel_rfl) (fun _ _ _ h => h) (Or.inl ⟨by kernel_rfl, ?_⟩) hH ?_
  · intro W hS
    exact run_load_row (by rfl) (by rfl) 31 _ (0, 0) _ hS.o.h Tryz.underlying31 rfl szO
  simp only [Act.put, List.setIfInBounds_toArray, List.set_cons_zero, List.set_cons_succ]
  refine wpAnyH_take (i := 3) (v := ?_) rfl (by kernel_rfl) (by kernel_rfl) (by kernel_rfl) (fun _ _ _ h => h) (Or.inl ⟨by kernel_rfl, ?_⟩) hH ?_
  rotate_left
  · intro W hS
    have c1 := hS.n
    go_simp
    try rfl
  simp only [Act.put, List.setIfInBounds_toArray, List.set_cons_zero, List.set_cons_succ, List.getElem_toArray, List.getElem_cons_succ, List.getElem_cons_zero]
  refine wpAnyH_ready (rs := [4]) (by kernel_rfl) (by simp) ?_
  refine AllReadyH.cons rfl (fun K hK => ?_) AllReadyH.nil
  go_simp
  with_reducible refine (hN.out _).mono ?_
  rintro e w2 ⟨rfl, hw⟩
  subst hw
  refine hK.out _ _ hH (fun _ => ?_)
  clear hK K
  try simp only [Act.put, List.setIfInBounds_toArray, List.set_cons_zero, List.set_cons_succ]
  refine wpAnyH_ready (rs := [5]) (by kernel_rfl) (by simp) ?_
  refine AllReadyH.cons rfl (fun K hK => ?_) AllReadyH.nil
  go_simp
  with_reducible refine (hR.out _ hH.h).mono ?_
  rintro e w3 ⟨rfl, b3⟩
  exact ⟨rfl, rfl, bd.trans (b3.mono (Nat.le_of_eq hsz.out))⟩
set_option maxRecDepth 20000 in
theorem oRead_no {B : Nat} {m : Mm} {w : World} (h : PAt w B m) (g : Gs) (o : On) (n : Int) (a t : Int) (hr : ∀ W, PAt W B m → Calls Tryz.prog 230 #[mp B, stV g, opV o, .int .i64 (numO n)] W fun e w' => e = .panicked (fltP a t) ∧ Below W.heap.size W w') : Calls Tryz.prog 197 #[mp B, stV g, opV o, .int .i64 n] w fun e w' => e = .returned (.tuple #[.int .u32 0, fltV 1 0 a t, .bool false]) ∧ Below w.heap.size w w' := by
  have hmf : ∀ (fn : Fn) (first cap : Array Value) (w : World), (Instr.makeFunc fn first cap).run Tryz.prog w = .ok (.func fn first cap) w := fun _ _ _ _ => rfl
  obtain ⟨hbx, h4, cv, fv, k5, s5, hoff⟩ := rbx_new h g o n
  have hR := Lib.hid hr
  clear hr
  go_enter Tryz.func197, Tryz.ntmps197
  go_wp2_with fail
  generalize ((((((w.alloc (.cells #[mp B] 35)).alloc (.cells (stA g) 29)).alloc (.cells (op6 o) 31)).alloc (.cells #[.int .i64 n] 3)).alloc (.cells #[.int .i64 0, .int .u32 0, .int .u32 0, .int .i64 0] 42)).alloc (.cells #[.int .u32 0] 23)) = w5 at *
  refine (otriedR_no _ 1 0 a t (fun W hW => oread1_no (hbx.below hW) a t hR.out)).mono ?_
  rintro e w6 ⟨rfl, k6⟩
  replace h4 := h4.but (But.of k6 []) (by omega) (by simp)
  replace cv := (k6.cell (p := ⟨w.heap.size + 1 + 1 + 1 + 1 + 1, 0, none⟩) (show w.heap.size + 1 + 1 + 1 + 1 + 1 < w5.heap.size by omega)).trans cv
  have kx := k5.trans (k6.mono (by omega))
  have s6 := kx.size
  have z4 := size_of_cell h4.c0
  have zv := size_of_cell cv
  have h5 := h4.but (But.of ((Below.refl w6.heap.size w6).alloc (Nat.le_refl _) (.cells #[.int .i64 1, .int .u32 0, .int .u32 a, .int .i64 t] 42)) []) z4 (by simp)
  have cv5 := up_cell cv (.cells #[.int .i64 1, .int .u32 0, .int .u32 a, .int .i64 t] 42)
  have n5 := Four.begun w6 1 0 a t 42
  have kn := kx.alloc (by omega) (.cells #[.int .i64 1, .int .u32 0, .int .u32 a, .int .i64 t] 42)
  clear hmf k5 k6 hbx h4 cv fv hR hoff
  go_wp2_with fail
  generalize w6.alloc (.cells #[.int .i64 1, .int .u32 0, .int .u32 a, .int .i64 t] 42) = w7 at *
  have hx : Four ((((w7.setCell ⟨w.heap.size + 1 + 1 + 1 + 1, 0, none⟩ (.int .i64 1)).setCell ⟨w.heap.size + 1 + 1 + 1 + 1, 1, none⟩ (.int .u32 0)).setCell ⟨w.heap.size + 1 + 1 + 1 + 1, 2, none⟩ (.int .u32 a)).setCell ⟨w.heap.size + 1 + 1 + 1 + 1, 3, none⟩ (.int .i64 t)).drew (w.heap.size + 1 + 1 + 1 + 1) 1 0 a t := (h5.stored 1 0 a t).drew
  have kz : Below w.heap.size w ((((w7.setCell ⟨w.heap.size + 1 + 1 + 1 + 1, 0, none⟩ (.int .i64 1)).setCell ⟨w.heap.size + 1 + 1 + 1 + 1, 1, none⟩ (.int .u32 0)).setCell ⟨w.heap.size + 1 + 1 + 1 + 1, 2, none⟩ (.int .u32 a)).setCell ⟨w.heap.size + 1 + 1 + 1 + 1, 3, none⟩ (.int .i64 t)).drew :=
    ((But.of kn [w.heap.size + 1 + 1 + 1 + 1]).stored4 (K := w.heap.size + 1 + 1 + 1 + 1) (by simp) (.int .i64 1) (.int .u32 0) (.int .u32 a) (.int .i64 t)).drew.below (Nat.le_refl _) (by simp; omega)
  obtain ⟨c0, c1, c2, c3, f⟩ := h5
  obtain ⟨g0, g1, g2, g3, gg⟩ := n5
  have f0 := f 0
  have f1 := f 1
  have f2 := f 2
  have f3 := f 3
  clear f gg kn kx
  go_region
  clear c0 c1 c2 c3 f0 f1 f2 f3 g0 g1 g2 g3 cv5
  generalize ((((w7.setCell ⟨w.heap.size + 1 + 1 + 1 + 1, 0, none⟩ (.int .i64 1)).setCell ⟨w.heap.size + 1 + 1 + 1 + 1, 1, none⟩ (.int .u32 0)).setCell ⟨w.heap.size + 1 + 1 + 1 + 1, 2, none⟩ (.int .u32 a)).setCell ⟨w.heap.size + 1 + 1 + 1 + 1, 3, none⟩ (.int .i64 t)).drew = w8 at *
  obtain ⟨d0, d1, d2, d3, -⟩ := hx
  go_wp2_with fail
  exact bodyPost_ret (v := .tuple #[.int .u32 0, fltV 1 0 a t, .bool false]) (by simp [results, Tryz.results197, go_sem, d0, d1, d2, d3]) rfl ⟨rfl, kz⟩
end Go.Proofs.YtcdoidnfdkodoaaGreatDoor

namespace Go.Proofs.YtcdoidnfdkodoaaGreatDoor
open Go.RowKit
set_option linter.unusedVariables false
theorem subC_any (a b : Int) (c : Bool) (h : 0 ≤ a ∧ a ≤ 4294967295) (hb : 0 ≤ b ∧ b ≤ 4294967295) (w : World) : Calls Tryz.prog 255 #[.int .u32 a, .int .u32 b, .bool c] w fun e w' =>
    e = .returned (.tuple #[.int .u32 ((a - b - c01 c) % 4294967296), .bool (a - b - c01 c != (a - b - c01 c) % 4294967296), .bool (wrap32 a - wrap32 b - c01 c != wrap32 (wrap32 a - wrap32 b - c01 c))]) ∧ w = w' := by
  have h1 := bd32 a
  have h2 := bd32 b
  have h3 := bd01 c
  go_enter Tryz.func255, Tryz.ntmps255
  go_wp2_with (first | (go_at_call 264; refine (one_any _ _).mono ?_; rintro e w' ⟨rfl, rfl⟩) | (go_at_call 265; refine (beyond_any _ _ _).mono ?_; rintro e w' ⟨rfl, rfl⟩))
  go_ret3
  exact ⟨rfl, rfl⟩
end Go.Proofs.YtcdoidnfdkodoaaGreatDoor

/- step: must, at; the guest's read, write, both. -/
namespace Go.Proofs.YtcdoidnfdkodoaaGreatDoor
open Go.RowKit
set_option linter.unusedVariables false
set_option linter.unusedSimpArgs false
set_option linter.unusedSectionVars false
set_option maxRecDepth 20000 in
theorem gboth_no {w : World} {G B : Nat} {g : Gs} {m : Mm} (h : GuAt w G B g m) (o : On) (a t : Int) (hr : ∀ W, PAt W B m → Calls Tryz.prog 199 #[mp B, stV g, opV o, .int .i64 4, .int .i64 3] W fun e w' => e = .returned (.tuple #[fltV 1 0 a t, .bool false]) ∧ Below W.heap.size W w') :
    Calls Tryz.prog 160 #[mp G, opV o] w fun e w' => e = .panicked (fltP a t) ∧ Below w.heap.size w w' := by
  have hR := Lib.hid hr
  have hM := Lib.hid (fun W => must_no 1 a t W)
  clear hr
  have b0 := (Below.refl w.heap.size w).alloc (Nat.le_refl _) (.cells (op6 o) 31)
  have kO := Blk.new w 31 (op6 o)
  have hg := h.below b0
  go_enter Tryz.func160, Tryz.ntmps160
  go_upto_region 1 with fail
  generalize w.alloc (.cells (op6 o) 31) = W0 at *
  refine wp_region_held_drew (S := fun V => GuAt V G B g m ∧ Blk V w.heap.size 31 (op6 o)) (by kernel_rfl) ⟨hg.drew, kO.drew⟩ (fun hH => ?_)
  replace b0 := b0.drew
  clear hg kO h
  generalize W0.drew = W at *
  refine wpAnyH_take (i := 0) (v := ?_) rfl (by kernel_rfl) (by kernel_rfl) (by kernel_rfl) (fun _ _ _ h => h) (Or.inl ⟨by kernel_rfl, ?_⟩) hH ?_
  rotate_left
  · intro W hS
    go_simp
    try rfl
  simp only [Act.put, List.setIfInBounds_toArray, List.set_cons_zero, List.set_cons_succ, List.getElem_toArray, List.getElem_cons_succ, List.getElem_cons_zero]
  refine wpAnyH_take (i := 1) (v := ?_) rfl (by kernel_rfl) (by kernel_rfl) (by kernel_rfl) (fun _ _ _ h => h) (Or.inl ⟨by kernel_rfl, ?_⟩) hH ?_
  rotate_left
  · intro W hS
    go_simp
    try rfl
  simp only [Act.put, List.setIfInBounds_toArray, List.set_cons_zero, List.set_cons_succ, List.getElem_toArray, List.getElem_cons_succ, List.getElem_cons_zero]
  refine wpAnyH_take (i := 2) (v := ?_) rfl (by kernel_rfl) (by kernel_rfl) (by kernel_rfl) (fun _ _ _ h => h) (Or.inl ⟨by kernel_rfl, ?_⟩) hH ?_
  rotate_left
  · intro W hS
    go_simp
    try rfl
  simp only [Act.put, List.setIfInBounds_toArray, List.set_cons_zero, List.set_cons_succ, List.getElem_toArray, List.getElem_cons_succ, List.getElem_cons_zero]
  refine wpAnyH_take (i := 3) (v := ?_) rfl (by kernel_rfl) (by kernel_rfl) (by kernel_rfl) (fun _ _ _ h => h) (Or.inl ⟨by kernel_rfl, ?_⟩) hH ?_
  rotate_left
  · intro W hS
    have c1 := hS.1.c.cell (i := 0) (v := mp B) rfl
    go_simp
    try rfl
  simp only [Act.put, List.setIfInBounds_toArray, List.set_cons_zero, List.set_cons_succ, List.getElem_toArray, List.getElem_cons_succ, List.getElem_cons_zero]
  refine wpAnyH_take (i := 4) (v := ?_) rfl (by kernel_rfl) (by kernel_rfl) (by kernel_rfl) (fun _ _ _ h => h) (Or.inl ⟨by kernel_rfl, ?_⟩) hH ?_
  rotate_left
  · intro W hS
    go_simp
    try rfl
  simp only [Act.put, List.setIfInBounds_toArray, List.set_cons_zero, List.set_cons_succ, List.getElem_toArray, List.getElem_cons_succ, List.getElem_cons_zero]
  refine wpAnyH_take (i := 5) (v := ?_) rfl (by kernel_rfl) (by kernel_rfl) (by kernel_rfl) (fun _ _ _ h => h) (Or.inl ⟨by kernel_rfl, ?_⟩) hH ?_
  rotate_left
  · intro W hS
    go_simp
    try rfl
  simp only [Act.put, List.setIfInBounds_toArray, List.set_cons_zero, List.set_cons_succ, List.getElem_toArray, List.getElem_cons_succ, List.getElem_cons_zero]
  refine wpAnyH_take (i := 6) (v := ?_) rfl (by kernel_rfl) (by kernel_rfl) (by kernel_rfl) (fun _ _ _ h => h) (Or.inl ⟨by kernel_rfl, ?_⟩) hH ?_
  rotate_left
  · intro W hS
    go_simp
    try rfl
  simp only [Act.put, List.setIfInBounds_toArray, List.set_cons_zero, List.set_cons_succ, List.getElem_toArray, List.getElem_cons_succ, List.getElem_cons_zero]
  refine wpAnyH_take (i := 7) (v := stV g) rfl (by kernel_rfl) (by kernel_rfl) (by kernel_rfl) (fun _ _ _ h => h) (Or.inl ⟨by kernel_rfl, ?_⟩) hH ?_
  · intro W hS
    exact run_load_gst (by rfl) (by rfl) hS.1
  simp only [Act.put, List.setIfInBounds_toArray, List.set_cons_zero, List.set_cons_succ]
  refine wpAnyH_take (i := 8) (v := opV o) rfl (by kernel_rfl) (by kernel_rfl) (by kernel_rfl) (fun _ _ _ h => h) (Or.inl ⟨by kernel_rfl, ?_⟩) hH ?_
  · intro W hS
    exact run_load_op (by rfl) (by rfl) hS.2
  simp only [Act.put, List.setIfInBounds_toArray, List.set_cons_zero, List.set_cons_succ]
  refine wpAnyH_ready (rs := [9]) (by kernel_rfl) (by simp) ?_
  refine AllReadyH.cons rfl (fun K hK => ?_) AllReadyH.nil
  go_simp
  with_reducible refine (hR.out _ hH.1.p).mono ?_
  rintro e w2 ⟨rfl, b2⟩
  have hH2 := And.intro (hH.1.below b2) (hH.2.below b2 hH.2.lt)
  replace b0 := b0.trans (b2.mono b0.size)
  refine hK.out _ _ hH2 (fun _ => ?_)
  clear hK K
  try simp only [Act.put, List.setIfInBounds_toArray, List.set_cons_zero, List.set_cons_succ]
  refine wpAnyH_take (i := 10) (v := ?_) rfl (by kernel_rfl) (by kernel_rfl) (by kernel_rfl) (fun _ _ _ h => h) (Or.inl ⟨by kernel_rfl, ?_⟩) hH2 ?_
  rotate_left
  · intro W hS
    go_simp
    try rfl
  simp only [Act.put, List.setIfInBounds_toArray, List.set_cons_zero, List.set_cons_succ, List.getElem_toArray, List.getElem_cons_succ, List.getElem_cons_zero]
  refine wpAnyH_take (i := 11) (v := ?_) rfl (by kernel_rfl) (by kernel_rfl) (by kernel_rfl) (fun _ _ _ h => h) (Or.inl ⟨by kernel_rfl, ?_⟩) hH2 ?_
  rotate_left
  · intro W hS
    go_simp
    try rfl
  simp only [Act.put, List.setIfInBounds_toArray, List.set_cons_zero, List.set_cons_succ, List.getElem_toArray, List.getElem_cons_succ, List.getElem_cons_zero]
  refine wpAnyH_ready (rs := [12]) (by kernel_rfl) (by simp) ?_
  refine AllReadyH.cons rfl (fun K hK => ?_) AllReadyH.nil
  go_simp
  with_reducible refine (hM.out _).mono ?_
  rintro e w3 ⟨rfl, b3⟩
  exact ⟨rfl, rfl, b0.trans (b3.mono b0.size)⟩
end Go.Proofs.YtcdoidnfdkodoaaGreatDoor

/- Sets of flags; classes of operations. -/
namespace Go.Proofs.YtcdoidnfdkodoaaGreatDoor
open Go.RowKit
set_option linter.unusedVariables false
set_option maxRecDepth 20000
set_option linter.unusedSimpArgs false
set_option linter.unusedSectionVars false
theorem classOf_3 (w : World) : Calls Tryz.prog 238 #[.int .i64 3] w fun e w' => e = .returned (.int .i64 ((1 : Nat) : Int)) ∧ w = w' := by
  go_enter Tryz.func238, Tryz.ntmps238
  go_wp2
  go_ret
  exact ⟨rfl, rfl⟩
theorem classOf_5 (w : World) : Calls Tryz.prog 238 #[.int .i64 5] w fun e w' => e = .returned (.int .i64 ((2 : Nat) : Int)) ∧ w = w' := by
  go_enter Tryz.func238, Tryz.ntmps238
  go_wp2
  go_ret
  exact ⟨rfl, rfl⟩
theorem classOf_8 (w : World) : Calls Tryz.prog 238 #[.int .i64 8] w fun e w' => e = .returned (.int .i64 ((1 : Nat) : Int)) ∧ w = w' := by
  go_enter Tryz.func238, Tryz.ntmps238
  go_wp2
  go_ret
  exact ⟨rfl, rfl⟩
theorem classOf_9 (w : World) : Calls Tryz.prog 238 #[.int .i64 9] w fun e w' => e = .returned (.int .i64 ((1 : Nat) : Int)) ∧ w = w' := by
  go_enter Tryz.func238, Tryz.ntmps238
  go_wp2
  go_ret
  exact ⟨rfl, rfl⟩
theorem classOf_10 (w : World) : Calls Tryz.prog 238 #[.int .i64 10] w fun e w' => e = .returned (.int .i64 ((1 : Nat) : Int)) ∧ w = w' := by
  go_enter Tryz.func238, Tryz.ntmps238
  go_wp2
  go_ret
  exact ⟨rfl, rfl⟩
theorem classOf_14 (w : World) : Calls Tryz.prog 238 #[.int .i64 14] w fun e w' => e = .returned (.int .i64 ((0 : Nat) : Int)) ∧ w = w' := by
  go_enter Tryz.func238, Tryz.ntmps238
  go_wp2
  go_ret
  exact ⟨rfl, rfl⟩
theorem classOf_15 (w : World) : Calls Tryz.prog 238 #[.int .i64 15] w fun e w' => e = .returned (.int .i64 ((1 : Nat) : Int)) ∧ w = w' := by
  go_enter Tryz.func238, Tryz.ntmps238
  go_wp2
  go_ret
  exact ⟨rfl, rfl⟩
theorem classOf_23 (w : World) : Calls Tryz.prog 238 #[.int .i64 23] w fun e w' => e = .returned (.int .i64 ((4 : Nat) : Int)) ∧ w = w' := by
  go_enter Tryz.func238, Tryz.ntmps238
  go_wp2
  go_ret
  exact ⟨rfl, rfl⟩
end Go.Proofs.YtcdoidnfdkodoaaGreatDoor

/- step: the stack; what is reckoned. -/
namespace Go.Proofs.YtcdoidnfdkodoaaGreatDoor
open Go.RowKit
set_option linter.unusedVariables false
set_option linter.unusedSimpArgs false
set_option linter.unusedSectionVars false
abbrev CanN (B : Nat) (g : Gs) (m : Mm) (o : On) (a t : Int) : Prop := ∀ W, PAt W B m → Calls Tryz.prog 199 #[mp B, stV g, opV o, .int .i64 4, .int .i64 3] W fun e w' => e = .returned (.tuple #[fltV 1 0 a t, .bool false]) ∧ Below W.heap.size W w'
section
variable {ops : Array Oper} {rest : List Oper} {op : Oper} {a : Act} {w : World} {Q : Exit → Act → World → Prop} {K : Nat} {i : In}
end
section
variable {w : World} {G B : Nat} {g g' : Gs} {m m' : Mm}
end
end Go.Proofs.YtcdoidnfdkodoaaGreatDoor

/- operand.Write, whatever is written within. -/
namespace Go.Proofs.YtcdoidnfdkodoaaGreatDoor
open Go.RowKit
set_option linter.unusedVariables false
set_option linter.unusedSimpArgs false
set_option linter.unusedSectionVars false
set_option maxRecDepth 20000 in
theorem read_mem_no {B : Nat} {m : Mm} {w : World} (h : PAt w B m) (ok : m.ok) (g : Gs) (o : On) (n : Int) (hk : o.k = 3) (j : Nat) (hl : lackL m (plO g o) 1 (numL n) = some j) :
    Calls Tryz.prog 230 #[mp B, stV g, opV o, .int .i64 n] w fun e w' => e = .panicked (fltP ((plO g o + j) % 4294967296) 1) ∧ Below w.heap.size w w' := by
  obtain ⟨kS, kO, b0⟩ := stO w g o
  have c0 := kO.cell (i := 0) (v := .int .i64 o.k) rfl
  rw [hk] at c0
  have hP := Lib.hid (fun W => Place_any g o W)
  have hbd := plO_bd g o
  generalize plO g o = A at *
  obtain ⟨A, rfl⟩ := Int.eq_ofNat_of_zero_le hbd.1
  have hL := Lib.hid (fun (W : World) (hW : PAt W B m) => load_no hW ok A j (by omega) n hl)
  clear hl
  generalize ((A : Int) + j) % 4294967296 = a at *
  have h0 := h.below b0 h.lt
  go_enter Tryz.func230, Tryz.ntmps230
  go_wp2_with (first | (with_reducible refine load_st rfl _ rfl w.heap.size (stA g) rfl kS rfl ?_) | (with_reducible refine load_on rfl _ rfl (w.heap.size + 1) (op6 o) rfl kO rfl ?_) | ((with_reducible refine (hP.out _).mono ?_); rintro e w1 ⟨rfl, b1⟩; have h1 := h0.below b1 h0.lt; have b01 := b0.trans (b1.mono b0.size)) | ((with_reducible refine (hL.out _ h1).mono ?_); rintro e w2 ⟨rfl, b2⟩))
  exact ⟨rfl, rfl, b01.trans (b2.mono b01.size)⟩
end Go.Proofs.YtcdoidnfdkodoaaGreatDoor

/-
  PLAIN FACTS ON WORDS: no program in sight.
-/
namespace Go.Proofs.YtcdoidnfdkodoaaGreatDoor
open Go.RowKit
set_option linter.unusedVariables false
theorem nat_not (b : Nat) (hb : b < 4294967296) : 4294967295 ^^^ b = 4294967295 - b := by
  have h := congrArg BitVec.toNat (BitVec.allOnes_xor (x := BitVec.ofNat 32 b))
  simp only [BitVec.toNat_xor, BitVec.toNat_allOnes, BitVec.toNat_not, BitVec.toNat_ofNat] at h
  rw [Nat.mod_eq_of_lt (by omega)] at h
  exact h
theorem u32_not {b : Int} (h : 0 ≤ b ∧ b ≤ 4294967295) : bits .xor .u32 4294967295 b = 4294967295 - b := by
  obtain ⟨B, rfl⟩ := Int.eq_ofNat_of_zero_le h.1
  have := u32_xor_nat' 4294967295 B (by decide) (by omega)
  rw [show ((4294967295 : Nat) : Int) = 4294967295 from rfl] at this
  rw [this, nat_not B (by omega)]; omega
/-! ### BitsBack -/
/-! ### Signs -/
/-! ### Fields -/
/-! ### Parity -/
/-! ### BitsLong -/
/-! ### BitsBytes -/
end Go.Proofs.YtcdoidnfdkodoaaGreatDoor

/- Flags by results, sums, differences. -/
namespace Go.Proofs.YtcdoidnfdkodoaaGreatDoor
open Go.RowKit
set_option linter.unusedVariables false
set_option maxRecDepth 20000
set_option linter.unusedSimpArgs false
set_option linter.unusedSectionVars false
def subR (a b : Int) (c : Bool) : Int := (a - b - c01 c) % 4294967296
def subK (a b : Int) (c : Bool) : Bool := a - b - c01 c != (a - b - c01 c) % 4294967296
def subO (a b : Int) (c : Bool) : Bool := wrap32 a - wrap32 b - c01 c != wrap32 (wrap32 a - wrap32 b - c01 c)
def subF (a b : Int) (c : Bool) : Nat → Bool := sumF (bits .xor .u32 a b) (subR a b c) (subK a b c) (subO a b c)
theorem subR_bd (a b : Int) (c : Bool) : 0 ≤ subR a b c ∧ subR a b c ≤ 4294967295 := by unfold subR; omega
theorem difference_any (a b : Int) (c : Bool) (h : 0 ≤ a ∧ a ≤ 4294967295) (hb : 0 ≤ b ∧ b ≤ 4294967295) (w : World) :
    Calls Tryz.prog 236 #[.int .u32 a, .int .u32 b, .bool c] w fun e w' => e = .returned (.tuple #[.int .u32 (subR a b c), flV (subF a b c)]) ∧ Below w.heap.size w w' := by
  have hx := xor_bd h hb
  have qA : ∀ w, Calls Tryz.prog 255 #[.int .u32 a, .int .u32 b, .bool c] w fun e w' => e = .returned (.tuple #[.int .u32 (subR a b c), .bool (subK a b c), .bool (subO a b c)]) ∧ w = w' := fun w => subC_any a b c h hb w
  have qB := fun w => byCarries_any (bits .xor .u32 a b) (subR a b c) (subK a b c) (subO a b c) hx (subR_bd a b c) w
  rw [show sumF (bits .xor .u32 a b) (subR a b c) (subK a b c) (subO a b c) = subF a b c from rfl] at qB
  have hR := subR_bd a b c
  generalize subF a b c = g at *
  generalize subR a b c = R at *
  generalize subK a b c = K at *
  generalize subO a b c = O at *
  obtain ⟨X, hX⟩ : ∃ X, bits .xor .u32 a b = X := ⟨_, rfl⟩
  rw [hX] at qB hx
  replace qA := Lib.hid qA
  replace qB := Lib.hid qB
  have kR := Blk.new w 26 (fl6 fun _ => false)
  go_enter Tryz.func236, Tryz.ntmps236
  go_wp2_with (first | (with_reducible refine (qA.out _).mono ?_; rintro e w1 ⟨rfl, rfl⟩) | (with_reducible refine (qB.out _).mono ?_; rintro e w2 ⟨rfl, bb⟩) | (with_reducible refine store_fl rfl _ _ rfl w.heap.size g (fun _ => false) rfl rfl (kR.below bb (by simp)) ?_))
  refine bodyPost_ret (v := .tuple #[.int .u32 R, flV g]) (res_sc rfl _ _ w.heap.size g _ rfl rfl ((kR.below bb (by simp)).row _)) rfl ⟨rfl, ?_⟩
  exact below_rowNew (((Below.refl _ _).alloc (Nat.le_refl _) _).trans (bb.mono (by simp))) (N := w.heap.size) (Nat.le_refl _) _
end Go.Proofs.YtcdoidnfdkodoaaGreatDoor

/- What Do makes, operation by operation. -/
namespace Go.Proofs.YtcdoidnfdkodoaaGreatDoor
open Go.RowKit
set_option linter.unusedVariables false
set_option maxRecDepth 20000
set_option linter.unusedSimpArgs false
set_option linter.unusedSectionVars false
theorem reck_add (a b : Int) (f : Nat → Bool) (h : 0 ≤ a ∧ a ≤ 4294967295) (hb : 0 ≤ b ∧ b ≤ 4294967295) : Reckons 3 a b f (addR a b false) (addF a b false) := by
  intro w
  have q := Lib.hid (fun w => sum_any a b false h hb w)
  have hR := addR_bd a b false
  generalize addR a b false = R at *
  generalize addF a b false = g at *
  have kR := Blk.new (w.alloc (.cells (fl6 f) 26)) 26 (fl6 fun _ => false)
  go_enter Tryz.func201, Tryz.ntmps201
  go_wp2_with (first | (with_reducible refine (q.out _).mono ?_; rintro e w2 ⟨rfl, bb⟩) | (with_reducible refine store_fl rfl _ _ rfl (w.heap.size + 1) g (fun _ => false) rfl rfl (by simpa using kR.below bb (by simp)) ?_))
  have kb : Below w.heap.size w w2 := (((Below.refl _ _).alloc (Nat.le_refl _) _).alloc (by simp) _).trans (bb.mono (by simp; omega))
  refine bodyPost_ret (v := .tuple #[.int .u32 R, flV g]) (res_sc rfl _ _ (w.heap.size + 1) g _ rfl rfl ((show Blk _ (w.heap.size + 1) _ _ by simpa using kR.below bb (by simp)).row _)) rfl ⟨rfl, ?_⟩
  exact below_rowNew kb (N := w.heap.size + 1) (by omega) _
theorem reck_adc (a b : Int) (f : Nat → Bool) (h : 0 ≤ a ∧ a ≤ 4294967295) (hb : 0 ≤ b ∧ b ≤ 4294967295) : Reckons 5 a b f (addR a b (f 0)) (addF a b (f 0)) := by
  intro w
  have q := Lib.hid (fun w => sum_any a b (f 0) h hb w)
  have hR := addR_bd a b (f 0)
  generalize addR a b (f 0) = R at *
  generalize addF a b (f 0) = g at *
  have kR := Blk.new (w.alloc (.cells (fl6 f) 26)) 26 (fl6 fun _ => false)
  go_enter Tryz.func201, Tryz.ntmps201
  go_wp2_with (first | (with_reducible refine (q.out _).mono ?_; rintro e w2 ⟨rfl, bb⟩) | (with_reducible refine store_fl rfl _ _ rfl (w.heap.size + 1) g (fun _ => false) rfl rfl (by simpa using kR.below bb (by simp)) ?_))
  have kb : Below w.heap.size w w2 := (((Below.refl _ _).alloc (Nat.le_refl _) _).alloc (by simp) _).trans (bb.mono (by simp; omega))
  refine bodyPost_ret (v := .tuple #[.int .u32 R, flV g]) (res_sc rfl _ _ (w.heap.size + 1) g _ rfl rfl ((show Blk _ (w.heap.size + 1) _ _ by simpa using kR.below bb (by simp)).row _)) rfl ⟨rfl, ?_⟩
  exact below_rowNew kb (N := w.heap.size + 1) (by omega) _
theorem reck_sub (a b : Int) (f : Nat → Bool) (h : 0 ≤ a ∧ a ≤ 4294967295) (hb : 0 ≤ b ∧ b ≤ 4294967295) : Reckons 8 a b f (subR a b false) (subF a b false) := by
  intro w
  have q := Lib.hid (fun w => difference_any a b false h hb w)
  have hR := subR_bd a b false
  generalize subR a b false = R at *
  generalize subF a b false = g at *
  have kR := Blk.new (w.alloc (.cells (fl6 f) 26)) 26 (fl6 fun _ => false)
  go_enter Tryz.func201, Tryz.ntmps201
  go_wp2_with (first | (with_reducible refine (q.out _).mono ?_; rintro e w2 ⟨rfl, bb⟩) | (with_reducible refine store_fl rfl _ _ rfl (w.heap.size + 1) g (fun _ => false) rfl rfl (by simpa using kR.below bb (by simp)) ?_))
  have kb : Below w.heap.size w w2 := (((Below.refl _ _).alloc (Nat.le_refl _) _).alloc (by simp) _).trans (bb.mono (by simp; omega))
  refine bodyPost_ret (v := .tuple #[.int .u32 R, flV g]) (res_sc rfl _ _ (w.heap.size + 1) g _ rfl rfl ((show Blk _ (w.heap.size + 1) _ _ by simpa using kR.below bb (by simp)).row _)) rfl ⟨rfl, ?_⟩
  exact below_rowNew kb (N := w.heap.size + 1) (by omega) _
theorem reck_cmp (a b : Int) (f : Nat → Bool) (h : 0 ≤ a ∧ a ≤ 4294967295) (hb : 0 ≤ b ∧ b ≤ 4294967295) : Reckons 10 a b f (subR a b false) (subF a b false) := by
  intro w
  have q := Lib.hid (fun w => difference_any a b false h hb w)
  have hR := subR_bd a b false
  generalize subR a b false = R at *
  generalize subF a b false = g at *
  have kR := Blk.new (w.alloc (.cells (fl6 f) 26)) 26 (fl6 fun _ => false)
  go_enter Tryz.func201, Tryz.ntmps201
  go_wp2_with (first | (with_reducible refine (q.out _).mono ?_; rintro e w2 ⟨rfl, bb⟩) | (with_reducible refine store_fl rfl _ _ rfl (w.heap.size + 1) g (fun _ => false) rfl rfl (by simpa using kR.below bb (by simp)) ?_))
  have kb : Below w.heap.size w w2 := (((Below.refl _ _).alloc (Nat.le_refl _) _).alloc (by simp) _).trans (bb.mono (by simp; omega))
  refine bodyPost_ret (v := .tuple #[.int .u32 R, flV g]) (res_sc rfl _ _ (w.heap.size + 1) g _ rfl rfl ((show Blk _ (w.heap.size + 1) _ _ by simpa using kR.below bb (by simp)).row _)) rfl ⟨rfl, ?_⟩
  exact below_rowNew kb (N := w.heap.size + 1) (by omega) _
theorem reck_neg (a b : Int) (f : Nat → Bool) (h : 0 ≤ a ∧ a ≤ 4294967295) (hb : 0 ≤ b ∧ b ≤ 4294967295) : Reckons 15 a b f (subR 0 a false) (subF 0 a false) := by
  intro w
  have q := Lib.hid (fun w => difference_any 0 a false (by decide) h w)
  have hR := subR_bd 0 a false
  generalize subR 0 a false = R at *
  generalize subF 0 a false = g at *
  have kR := Blk.new (w.alloc (.cells (fl6 f) 26)) 26 (fl6 fun _ => false)
  go_enter Tryz.func201, Tryz.ntmps201
  go_wp2_with (first | (with_reducible refine (q.out _).mono ?_; rintro e w2 ⟨rfl, bb⟩) | (with_reducible refine store_fl rfl _ _ rfl (w.heap.size + 1) g (fun _ => false) rfl rfl (by simpa using kR.below bb (by simp)) ?_))
  have kb : Below w.heap.size w w2 := (((Below.refl _ _).alloc (Nat.le_refl _) _).alloc (by simp) _).trans (bb.mono (by simp; omega))
  refine bodyPost_ret (v := .tuple #[.int .u32 R, flV g]) (res_sc rfl _ _ (w.heap.size + 1) g _ rfl rfl ((show Blk _ (w.heap.size + 1) _ _ by simpa using kR.below bb (by simp)).row _)) rfl ⟨rfl, ?_⟩
  exact below_rowNew kb (N := w.heap.size + 1) (by omega) _
theorem reck_xor (a b : Int) (f : Nat → Bool) (h : 0 ≤ bits .xor .u32 a b ∧ bits .xor .u32 a b ≤ 4294967295) : Reckons 9 a b f (bits .xor .u32 a b) (resF (bits .xor .u32 a b)) := by
  intro w
  have q := Lib.hid (fun w => byResult_any (bits .xor .u32 a b) h w)
  generalize resF (bits .xor .u32 a b) = g at *
  obtain ⟨X, hX⟩ : ∃ X, bits .xor .u32 a b = X := ⟨_, rfl⟩
  rw [hX] at q h ⊢
  have kR := Blk.new (w.alloc (.cells (fl6 f) 26)) 26 (fl6 fun _ => false)
  go_enter Tryz.func201, Tryz.ntmps201
  go_wp2_with (first | (with_reducible refine (q.out _).mono ?_; rintro e w2 ⟨rfl, bb⟩) | (with_reducible refine store_fl rfl _ _ rfl (w.heap.size + 1) g (fun _ => false) rfl rfl (by simpa using kR.below bb (by simp)) ?_))
  have kb : Below w.heap.size w w2 := (((Below.refl _ _).alloc (Nat.le_refl _) _).alloc (by simp) _).trans (bb.mono (by simp; omega))
  refine bodyPost_ret (v := .tuple #[.int .u32 X, flV g]) (res_sc rfl _ _ (w.heap.size + 1) g _ rfl rfl ((show Blk _ (w.heap.size + 1) _ _ by simpa using kR.below bb (by simp)).row _)) rfl ⟨rfl, ?_⟩
  exact below_rowNew kb (N := w.heap.size + 1) (by omega) _
theorem reck_not (a b : Int) (f : Nat → Bool) (h : 0 ≤ a ∧ a ≤ 4294967295) : Reckons 14 a b f (4294967295 - a) f := by
  intro w
  have hn := u32_not h
  have n1 : IntKind.u32.max = 4294967295 := rfl
  have n3 : IntKind.u32.signed = false := rfl
  have hn2 : IntKind.u32.wrap (4294967295 - a) = 4294967295 - a := by rw [IntKind.wrap_u32]; omega
  go_enter Tryz.func201, Tryz.ntmps201
  go_wp2
  go_region
  go_wp2
  have k : Blk (((w.alloc (.cells (fl6 f) 26)).alloc (.cells (fl6 f) 26)).drew) (w.heap.size + 1) 26 (fl6 f) := by simpa using (Blk.new (w.alloc (.cells (fl6 f) 26)) 26 (fl6 f)).drew
  refine bodyPost_ret (v := .tuple #[.int .u32 (4294967295 - a), flV f]) (res_sc rfl _ _ (w.heap.size + 1) f _ rfl rfl k) rfl ⟨rfl, ?_⟩
  exact (((Below.refl _ _).alloc (Nat.le_refl _) _).alloc (by simp) _).drew
theorem does_cmp (a b R : Int) (f G : Nat → Bool) (k : Nat) (hk : k < 8) (hc : ClassIs 10 k) (q : Reckons 10 a b f R G) : Does 10 a b f a (mixL (wrT k) f G) := by
  intro w tabs
  have q2 := Lib.hid q
  have qW := Lib.hid (fun W tabs => written_any 10 k hk hc f G W tabs)
  clear q hc
  have kF := (Blk.new w 26 (fl6 f)).alloc (.cells (fl6 fun _ => false) 26)
  have kR := Blk.new (w.alloc (.cells (fl6 f) 26)) 26 (fl6 fun _ => false)
  rw [World.size_alloc] at kR
  generalize mixL (wrT k) f G = g at *
  go_enter Tryz.func162, Tryz.ntmps162
  go_wp2_with fail
  refine (q2.out _).mono ?_
  rintro e w2 ⟨rfl, bb⟩
  replace kF := kF.below bb (by simp; omega)
  replace kR := kR.below bb (by simp)
  have kb : Below w.heap.size w w2 := (((Below.refl _ _).alloc (Nat.le_refl _) _).alloc (by simp) _).trans (bb.mono (by simp; omega))
  clear bb
  have tabs2 := tabs.below kb
  have hSB := kb.size
  have kG := Blk.new w2 26 (fl6 G)
  replace kF := kF.alloc (.cells (fl6 G) 26)
  replace kR := kR.alloc (.cells (fl6 G) 26)
  replace tabs2 := tabs2.below ((Below.refl _ _).alloc (Nat.le_refl _) (.cells (fl6 G) 26))
  replace kb := kb.alloc hSB (.cells (fl6 G) 26)
  have hSB2 := kb.size
  go_wp2_with (first | (with_reducible refine load_fl rfl _ rfl w.heap.size f rfl kF ?_) | (with_reducible refine load_fl rfl _ rfl w2.heap.size G rfl kG ?_) | (with_reducible refine (qW.out _ tabs2).mono ?_; rintro e w3 ⟨rfl, bb⟩) | (with_reducible refine store_fl rfl _ _ rfl (w.heap.size + 1) g (fun _ => false) rfl rfl (kR.below bb kR.lt) ?_))
  refine bodyPost_ret (v := .tuple #[.int .u32 a, flV g]) (res_sc rfl _ _ (w.heap.size + 1) g _ rfl rfl ((kR.below bb kR.lt).row _)) rfl ⟨rfl, ?_⟩
  exact below_rowNew (kb.trans (bb.mono hSB2)) (N := w.heap.size + 1) (by omega) _
theorem do_add (a b : Int) (f : Nat → Bool) (h : 0 ≤ a ∧ a ≤ 4294967295) (hb : 0 ≤ b ∧ b ≤ 4294967295) : Does 3 a b f (addR a b false) (addF a b false) := by
  have := does_of 3 a b _ f _ 1 (by decide) classOf_3 rfl rfl (reck_add a b f h hb)
  exact this
theorem do_adc (a b : Int) (f : Nat → Bool) (h : 0 ≤ a ∧ a ≤ 4294967295) (hb : 0 ≤ b ∧ b ≤ 4294967295) : Does 5 a b f (addR a b (f 0)) (addF a b (f 0)) := by
  have := does_of 5 a b _ f _ 2 (by decide) classOf_5 rfl rfl (reck_adc a b f h hb)
  exact this
theorem do_sub (a b : Int) (f : Nat → Bool) (h : 0 ≤ a ∧ a ≤ 4294967295) (hb : 0 ≤ b ∧ b ≤ 4294967295) : Does 8 a b f (subR a b false) (subF a b false) := by
  have := does_of 8 a b _ f _ 1 (by decide) classOf_8 rfl rfl (reck_sub a b f h hb)
  exact this
theorem do_cmp (a b : Int) (f : Nat → Bool) (h : 0 ≤ a ∧ a ≤ 4294967295) (hb : 0 ≤ b ∧ b ≤ 4294967295) : Does 10 a b f a (subF a b false) := by
  have := does_cmp a b _ f _ 1 (by decide) classOf_10 (reck_cmp a b f h hb)
  exact this
theorem do_neg (a b : Int) (f : Nat → Bool) (h : 0 ≤ a ∧ a ≤ 4294967295) (hb : 0 ≤ b ∧ b ≤ 4294967295) : Does 15 a b f (subR 0 a false) (subF 0 a false) := by
  have := does_of 15 a b _ f _ 1 (by decide) classOf_15 rfl rfl (reck_neg a b f h hb)
  exact this
theorem do_xor (a b : Int) (f : Nat → Bool) (h : 0 ≤ bits .xor .u32 a b ∧ bits .xor .u32 a b ≤ 4294967295) : Does 9 a b f (bits .xor .u32 a b) (resF (bits .xor .u32 a b)) := by
  have := does_of 9 a b _ f _ 1 (by decide) classOf_9 rfl rfl (reck_xor a b f h)
  exact this
theorem do_not (a b : Int) (f : Nat → Bool) (h : 0 ≤ a ∧ a ≤ 4294967295) : Does 14 a b f (4294967295 - a) f := by
  have := does_of 14 a b _ f _ 0 (by decide) classOf_14 rfl rfl (reck_not a b f h)
  exact this
end Go.Proofs.YtcdoidnfdkodoaaGreatDoor

/- Conditions. -/
namespace Go.Proofs.YtcdoidnfdkodoaaGreatDoor
open Go.RowKit
set_option linter.unusedVariables false
set_option linter.unusedSimpArgs false
set_option linter.unusedSectionVars false
def evenL (f : Nat → Bool) : Nat → Bool
  | 0 => f 5 | 1 => f 0 | 2 => f 3 | 3 => f 0 || f 3 | 4 => f 4 | 5 => f 1 | 6 => f 4 != f 5 | _ => f 3 || (f 4 != f 5)
def condL (f : Nat → Bool) (c : Nat) : Bool := evenL f (c / 2) != (c % 2 == 1)
end Go.Proofs.YtcdoidnfdkodoaaGreatDoor

/- step: a jump by a number, by a condition. -/
namespace Go.Proofs.YtcdoidnfdkodoaaGreatDoor
open Go.RowKit
set_option linter.unusedVariables false
set_option linter.unusedSimpArgs false
set_option linter.unusedSectionVars false
theorem field32 (x : Int) (h : 0 ≤ x ∧ x ≤ 4294967295) (w : World) : Calls Tryz.prog 251 #[.int .u32 x, .int .i64 0, .int .i64 32] w fun e w' => e = .returned (.int .u32 x) ∧ w = w' := by
  have q := field_any x 0 32 h (by decide) w
  have e : fieldS x 0 32 = x := by
    show mov x 0 % 2 ^ held0 32 = x
    rw [show held0 32 = 32 from rfl, show mov x 0 = x by simp [mov], show (2 : Int) ^ 32 = 4294967296 from rfl]
    omega
  rw [e] at q
  exact q
set_option maxRecDepth 20000 in
theorem read_imm4 (p : Value) (g : Gs) (o : On) (hm : 0 ≤ o.m ∧ o.m ≤ 4294967295) (hk : o.k = 2) (w : World) : Calls Tryz.prog 230 #[p, stV g, opV o, .int .i64 4] w fun e w' => e = .returned (.int .u32 o.m) ∧ Below w.heap.size w w' := by
  obtain ⟨kS, kO, b0⟩ := stO w g o
  have c0 := kO.cell (i := 0) (v := .int .i64 o.k) rfl
  have c2 := kO.cell (i := 2) (v := .int .u32 o.m) rfl
  rw [hk] at c0
  have hR := Lib.hid (fun W => field32 o.m hm W)
  go_enter Tryz.func230, Tryz.ntmps230
  go_wp2_with (first | (with_reducible refine load_st rfl _ rfl w.heap.size (stA g) rfl kS rfl ?_) | ((with_reducible refine (hR.out _).mono ?_); rintro e w1 ⟨rfl, rfl⟩))
  go_ret
  exact ⟨rfl, b0⟩
theorem rd_imm (B : Nat) (g : Gs) (m : Mm) (o : On) (hk : o.k = 2) (hm : 0 ≤ o.m ∧ o.m ≤ 4294967295) : RdY B g m o 4 o.m := fun W hW => oRead_yes hW g o 4 o.m (fun W' _ => read_imm4 (mp B) g o hm hk W')
section
variable {w : World} {G B : Nat} {g g' : Gs} {m m' : Mm}
end
end Go.Proofs.YtcdoidnfdkodoaaGreatDoor

/- step: what Do answers for what a condition decides: a byte set, a register moved, a jump. -/
namespace Go.Proofs.YtcdoidnfdkodoaaGreatDoor
open Go.RowKit
set_option linter.unusedVariables false
set_option linter.unusedSimpArgs false
set_option linter.unusedSectionVars false
section
variable {w : World} {G B : Nat} {g g' : Gs} {m m' : Mm}
end
section
variable {B : Nat} {g g' : Gs} {m m' : Mm}
end
def oz : On := ⟨0, 0, 0, 0, 0, 0⟩
end Go.Proofs.YtcdoidnfdkodoaaGreatDoor

/- StepConds: what Do answers, and what of its answers the law asks. -/
namespace Go.Proofs.YtcdoidnfdkodoaaGreatDoor
open Go.RowKit
set_option linter.unusedVariables false
set_option linter.unusedSimpArgs false
set_option linter.unusedSectionVars false
def cq (g : Gs) (c : Int) : Int := bif condL g.f c.toNat then 1 else 0
section
variable {w : World} {B : Nat} {m : Mm}
end
end Go.Proofs.YtcdoidnfdkodoaaGreatDoor

/- step: the guest's methods, whatever comes of their reads and writes. What puts something in its place. -/
namespace Go.Proofs.YtcdoidnfdkodoaaGreatDoor
open Go.RowKit
set_option linter.unusedVariables false
set_option linter.unusedSimpArgs false
set_option linter.unusedSectionVars false
inductive RdO where
  | ok (v : Int)
  | bad (a t : Int)
inductive RsO where
  | ok (g : Gs) (m : Mm)
  | bad (k a t : Int)
def Aft (G B : Nat) (w : World) : RsO → Ending → World → Prop
  | .ok g' m', e, w' => e = .returned (.tuple #[]) ∧ GuAt w' G B g' m' ∧ But [G, B] w.heap.size w w'
  | .bad k a t, e, w' => e = .panicked (fltQ k a t) ∧ But [G] w.heap.size w w'
theorem But.thenB {S : List Nat} {n : Nat} {w W W' : World} (h : But S n w W) (hn : n ≤ W.heap.size) (k : Below W.heap.size W W') : But S n w W' := h.trans ((But.of k S).mono hn (fun k hk => .inl hk))
theorem But.thenW {S S' : List Nat} {n : Nat} {w W W' : World} (h : But S n w W) (hn : n ≤ W.heap.size) (k : But S' W.heap.size W W') (hS : ∀ k, k ∈ S' → k ∈ S ∨ n ≤ k) : But S n w W' := h.trans (k.mono hn hS)
def GI0 (w : World) (G B : Nat) (g : Gs) (m : Mm) : Bool → World → Prop := fun _ W => GuAt W G B g m ∧ Below w.heap.size w W
section
variable {w : World} {G B : Nat} {g g' : Gs} {m m' : Mm}
end
section
variable {w : World} {G B : Nat} {g g' : Gs} {m m' : Mm}
end
end Go.Proofs.YtcdoidnfdkodoaaGreatDoor

/- step: the guest's jumps, exchange: whatever comes of their reads and writes. -/
namespace Go.Proofs.YtcdoidnfdkodoaaGreatDoor
open Go.RowKit
set_option linter.unusedVariables false
set_option linter.unusedSimpArgs false
set_option linter.unusedSectionVars false
def TgA (G B : Nat) (g : Gs) (m : Mm) (i : In) : RdO → Prop
  | .ok v => ∀ W, GuAt W G B g m → Calls Tryz.prog 167 #[mp G, inV i] W fun e w' => e = .returned (.int .u32 v) ∧ Below W.heap.size W w'
  | .bad a t => ∀ W, GuAt W G B g m → Calls Tryz.prog 167 #[mp G, inV i] W fun e w' => e = .panicked (fltP a t) ∧ Below W.heap.size W w'
theorem TgA.no {G B : Nat} {g : Gs} {m : Mm} {i : In} {a t : Int} (h : TgA G B g m i (.bad a t)) : ∀ W, GuAt W G B g m → Calls Tryz.prog 167 #[mp G, inV i] W fun e w' => e = .panicked (fltP a t) ∧ Below W.heap.size W w' := h
section
variable {w : World} {G B : Nat} {g g' g1 g2 : Gs} {m m' m1 m2 : Mm}
end
end Go.Proofs.YtcdoidnfdkodoaaGreatDoor

/- step: the guest's do, by operation (0). -/
namespace Go.Proofs.YtcdoidnfdkodoaaGreatDoor
open Go.RowKit
set_option linter.unusedVariables false
set_option linter.unusedSimpArgs false
set_option linter.unusedSectionVars false
section
variable {w : World} {G B : Nat} {g : Gs} {m : Mm}
set_option maxRecDepth 20000 in
theorem gdoA3 (h : GuAt w G B g m) (i : In) (hop : i.op = 3) (q : RsO) (hm : ∀ W, GuAt W G B g m → Below w.heap.size w W → Calls Tryz.prog 119 #[mp G, inV i] W (Aft G B W q)) : Calls Tryz.prog 76 #[mp G, inV i] w (Aft G B w q) := by
  have qM := Lib.hid hm
  clear hm
  have b0 := (Below.refl w.heap.size w).alloc (Nat.le_refl _) (.cells (in16 i) 33)
  have kI := Blk.new w 33 (in16 i)
  have hg := h.below b0
  have c0 := kI.cell (i := 0) (v := .int .i64 i.op) rfl
  rw [hop] at c0
  cases q with
  | ok g' m' =>
    go_enter Tryz.func76, Tryz.ntmps76
    go_wp2_with (first | (with_reducible refine load_in rfl _ rfl rfl kI ?_) | ((with_reducible refine (qM.out _ hg b0).mono ?_); rintro e w2 ⟨rfl, hg2, b2⟩))
    exact bodyPost_end (v := .tuple #[]) (by simp [results, Tryz.results76, go_sem]) rfl ⟨rfl, hg2, (But.of b0 [G, B]).trans (b2.mono (S' := [G, B]) b0.size (fun k hk => .inl hk))⟩
  | bad kk a t =>
    go_enter Tryz.func76, Tryz.ntmps76
    go_wp2_with (first | (with_reducible refine load_in rfl _ rfl rfl kI ?_) | ((with_reducible refine (qM.out _ hg b0).mono ?_); rintro e w2 ⟨rfl, b2⟩))
    exact ⟨rfl, rfl, (But.of b0 [G]).trans (b2.mono (S' := [G]) b0.size (fun k hk => .inl hk))⟩
end
end Go.Proofs.YtcdoidnfdkodoaaGreatDoor

/- step: the guest's do, by operation (1). -/
namespace Go.Proofs.YtcdoidnfdkodoaaGreatDoor
open Go.RowKit
set_option linter.unusedVariables false
set_option linter.unusedSimpArgs false
set_option linter.unusedSectionVars false
section
variable {w : World} {G B : Nat} {g : Gs} {m : Mm}
set_option maxRecDepth 20000 in
theorem gdoA8 (h : GuAt w G B g m) (i : In) (hop : i.op = 8) (q : RsO) (hm : ∀ W, GuAt W G B g m → Below w.heap.size w W → Calls Tryz.prog 119 #[mp G, inV i] W (Aft G B W q)) : Calls Tryz.prog 76 #[mp G, inV i] w (Aft G B w q) := by
  have qM := Lib.hid hm
  clear hm
  have b0 := (Below.refl w.heap.size w).alloc (Nat.le_refl _) (.cells (in16 i) 33)
  have kI := Blk.new w 33 (in16 i)
  have hg := h.below b0
  have c0 := kI.cell (i := 0) (v := .int .i64 i.op) rfl
  rw [hop] at c0
  cases q with
  | ok g' m' =>
    go_enter Tryz.func76, Tryz.ntmps76
    go_wp2_with (first | (with_reducible refine load_in rfl _ rfl rfl kI ?_) | ((with_reducible refine (qM.out _ hg b0).mono ?_); rintro e w2 ⟨rfl, hg2, b2⟩))
    exact bodyPost_end (v := .tuple #[]) (by simp [results, Tryz.results76, go_sem]) rfl ⟨rfl, hg2, (But.of b0 [G, B]).trans (b2.mono (S' := [G, B]) b0.size (fun k hk => .inl hk))⟩
  | bad kk a t =>
    go_enter Tryz.func76, Tryz.ntmps76
    go_wp2_with (first | (with_reducible refine load_in rfl _ rfl rfl kI ?_) | ((with_reducible refine (qM.out _ hg b0).mono ?_); rintro e w2 ⟨rfl, b2⟩))
    exact ⟨rfl, rfl, (But.of b0 [G]).trans (b2.mono (S' := [G]) b0.size (fun k hk => .inl hk))⟩
set_option maxRecDepth 20000 in
theorem gdoA14 (h : GuAt w G B g m) (i : In) (hop : i.op = 14) (q : RsO) (hm : ∀ W, GuAt W G B g m → Below w.heap.size w W → Calls Tryz.prog 119 #[mp G, inV i] W (Aft G B W q)) : Calls Tryz.prog 76 #[mp G, inV i] w (Aft G B w q) := by
  have qM := Lib.hid hm
  clear hm
  have b0 := (Below.refl w.heap.size w).alloc (Nat.le_refl _) (.cells (in16 i) 33)
  have kI := Blk.new w 33 (in16 i)
  have hg := h.below b0
  have c0 := kI.cell (i := 0) (v := .int .i64 i.op) rfl
  rw [hop] at c0
  cases q with
  | ok g' m' =>
    go_enter Tryz.func76, Tryz.ntmps76
    go_wp2_with (first | (with_reducible refine load_in rfl _ rfl rfl kI ?_) | ((with_reducible refine (qM.out _ hg b0).mono ?_); rintro e w2 ⟨rfl, hg2, b2⟩))
    exact bodyPost_end (v := .tuple #[]) (by simp [results, Tryz.results76, go_sem]) rfl ⟨rfl, hg2, (But.of b0 [G, B]).trans (b2.mono (S' := [G, B]) b0.size (fun k hk => .inl hk))⟩
  | bad kk a t =>
    go_enter Tryz.func76, Tryz.ntmps76
    go_wp2_with (first | (with_reducible refine load_in rfl _ rfl rfl kI ?_) | ((with_reducible refine (qM.out _ hg b0).mono ?_); rintro e w2 ⟨rfl, b2⟩))
    exact ⟨rfl, rfl, (But.of b0 [G]).trans (b2.mono (S' := [G]) b0.size (fun k hk => .inl hk))⟩
set_option maxRecDepth 20000 in
theorem gdoA23 (h : GuAt w G B g m) (i : In) (hop : i.op = 23) (q : RsO) (hm : ∀ W, GuAt W G B g m → Below w.heap.size w W → Calls Tryz.prog 119 #[mp G, inV i] W (Aft G B W q)) : Calls Tryz.prog 76 #[mp G, inV i] w (Aft G B w q) := by
  have qM := Lib.hid hm
  clear hm
  have b0 := (Below.refl w.heap.size w).alloc (Nat.le_refl _) (.cells (in16 i) 33)
  have kI := Blk.new w 33 (in16 i)
  have hg := h.below b0
  have c0 := kI.cell (i := 0) (v := .int .i64 i.op) rfl
  rw [hop] at c0
  cases q with
  | ok g' m' =>
    go_enter Tryz.func76, Tryz.ntmps76
    go_wp2_with (first | (with_reducible refine load_in rfl _ rfl rfl kI ?_) | ((with_reducible refine (qM.out _ hg b0).mono ?_); rintro e w2 ⟨rfl, hg2, b2⟩))
    exact bodyPost_end (v := .tuple #[]) (by simp [results, Tryz.results76, go_sem]) rfl ⟨rfl, hg2, (But.of b0 [G, B]).trans (b2.mono (S' := [G, B]) b0.size (fun k hk => .inl hk))⟩
  | bad kk a t =>
    go_enter Tryz.func76, Tryz.ntmps76
    go_wp2_with (first | (with_reducible refine load_in rfl _ rfl rfl kI ?_) | ((with_reducible refine (qM.out _ hg b0).mono ?_); rintro e w2 ⟨rfl, b2⟩))
    exact ⟨rfl, rfl, (But.of b0 [G]).trans (b2.mono (S' := [G]) b0.size (fun k hk => .inl hk))⟩
end
end Go.Proofs.YtcdoidnfdkodoaaGreatDoor

/- step: the guest's do, by operation (2). -/
namespace Go.Proofs.YtcdoidnfdkodoaaGreatDoor
open Go.RowKit
set_option linter.unusedVariables false
set_option linter.unusedSimpArgs false
set_option linter.unusedSectionVars false
section
variable {w : World} {G B : Nat} {g : Gs} {m : Mm}
set_option maxRecDepth 20000 in
theorem gdoA5 (h : GuAt w G B g m) (i : In) (hop : i.op = 5) (q : RsO) (hm : ∀ W, GuAt W G B g m → Below w.heap.size w W → Calls Tryz.prog 119 #[mp G, inV i] W (Aft G B W q)) : Calls Tryz.prog 76 #[mp G, inV i] w (Aft G B w q) := by
  have qM := Lib.hid hm
  clear hm
  have b0 := (Below.refl w.heap.size w).alloc (Nat.le_refl _) (.cells (in16 i) 33)
  have kI := Blk.new w 33 (in16 i)
  have hg := h.below b0
  have c0 := kI.cell (i := 0) (v := .int .i64 i.op) rfl
  rw [hop] at c0
  cases q with
  | ok g' m' =>
    go_enter Tryz.func76, Tryz.ntmps76
    go_wp2_with (first | (with_reducible refine load_in rfl _ rfl rfl kI ?_) | ((with_reducible refine (qM.out _ hg b0).mono ?_); rintro e w2 ⟨rfl, hg2, b2⟩))
    exact bodyPost_end (v := .tuple #[]) (by simp [results, Tryz.results76, go_sem]) rfl ⟨rfl, hg2, (But.of b0 [G, B]).trans (b2.mono (S' := [G, B]) b0.size (fun k hk => .inl hk))⟩
  | bad kk a t =>
    go_enter Tryz.func76, Tryz.ntmps76
    go_wp2_with (first | (with_reducible refine load_in rfl _ rfl rfl kI ?_) | ((with_reducible refine (qM.out _ hg b0).mono ?_); rintro e w2 ⟨rfl, b2⟩))
    exact ⟨rfl, rfl, (But.of b0 [G]).trans (b2.mono (S' := [G]) b0.size (fun k hk => .inl hk))⟩
set_option maxRecDepth 20000 in
theorem gdoA9 (h : GuAt w G B g m) (i : In) (hop : i.op = 9) (q : RsO) (hm : ∀ W, GuAt W G B g m → Below w.heap.size w W → Calls Tryz.prog 119 #[mp G, inV i] W (Aft G B W q)) : Calls Tryz.prog 76 #[mp G, inV i] w (Aft G B w q) := by
  have qM := Lib.hid hm
  clear hm
  have b0 := (Below.refl w.heap.size w).alloc (Nat.le_refl _) (.cells (in16 i) 33)
  have kI := Blk.new w 33 (in16 i)
  have hg := h.below b0
  have c0 := kI.cell (i := 0) (v := .int .i64 i.op) rfl
  rw [hop] at c0
  cases q with
  | ok g' m' =>
    go_enter Tryz.func76, Tryz.ntmps76
    go_wp2_with (first | (with_reducible refine load_in rfl _ rfl rfl kI ?_) | ((with_reducible refine (qM.out _ hg b0).mono ?_); rintro e w2 ⟨rfl, hg2, b2⟩))
    exact bodyPost_end (v := .tuple #[]) (by simp [results, Tryz.results76, go_sem]) rfl ⟨rfl, hg2, (But.of b0 [G, B]).trans (b2.mono (S' := [G, B]) b0.size (fun k hk => .inl hk))⟩
  | bad kk a t =>
    go_enter Tryz.func76, Tryz.ntmps76
    go_wp2_with (first | (with_reducible refine load_in rfl _ rfl rfl kI ?_) | ((with_reducible refine (qM.out _ hg b0).mono ?_); rintro e w2 ⟨rfl, b2⟩))
    exact ⟨rfl, rfl, (But.of b0 [G]).trans (b2.mono (S' := [G]) b0.size (fun k hk => .inl hk))⟩
set_option maxRecDepth 20000 in
theorem gdoA15 (h : GuAt w G B g m) (i : In) (hop : i.op = 15) (q : RsO) (hm : ∀ W, GuAt W G B g m → Below w.heap.size w W → Calls Tryz.prog 119 #[mp G, inV i] W (Aft G B W q)) : Calls Tryz.prog 76 #[mp G, inV i] w (Aft G B w q) := by
  have qM := Lib.hid hm
  clear hm
  have b0 := (Below.refl w.heap.size w).alloc (Nat.le_refl _) (.cells (in16 i) 33)
  have kI := Blk.new w 33 (in16 i)
  have hg := h.below b0
  have c0 := kI.cell (i := 0) (v := .int .i64 i.op) rfl
  rw [hop] at c0
  cases q with
  | ok g' m' =>
    go_enter Tryz.func76, Tryz.ntmps76
    go_wp2_with (first | (with_reducible refine load_in rfl _ rfl rfl kI ?_) | ((with_reducible refine (qM.out _ hg b0).mono ?_); rintro e w2 ⟨rfl, hg2, b2⟩))
    exact bodyPost_end (v := .tuple #[]) (by simp [results, Tryz.results76, go_sem]) rfl ⟨rfl, hg2, (But.of b0 [G, B]).trans (b2.mono (S' := [G, B]) b0.size (fun k hk => .inl hk))⟩
  | bad kk a t =>
    go_enter Tryz.func76, Tryz.ntmps76
    go_wp2_with (first | (with_reducible refine load_in rfl _ rfl rfl kI ?_) | ((with_reducible refine (qM.out _ hg b0).mono ?_); rintro e w2 ⟨rfl, b2⟩))
    exact ⟨rfl, rfl, (But.of b0 [G]).trans (b2.mono (S' := [G]) b0.size (fun k hk => .inl hk))⟩
end
end Go.Proofs.YtcdoidnfdkodoaaGreatDoor

/- step: the guest's do, by operation (3). -/
namespace Go.Proofs.YtcdoidnfdkodoaaGreatDoor
open Go.RowKit
set_option linter.unusedVariables false
set_option linter.unusedSimpArgs false
set_option linter.unusedSectionVars false
section
variable {w : World} {G B : Nat} {g : Gs} {m : Mm}
set_option maxRecDepth 20000 in
theorem gdoA12 (h : GuAt w G B g m) (i : In) (hop : i.op = 12) (q : RsO) (hm : ∀ W, GuAt W G B g m → Below w.heap.size w W → Calls Tryz.prog 119 #[mp G, inV i] W (Aft G B W q)) : Calls Tryz.prog 76 #[mp G, inV i] w (Aft G B w q) := by
  have qM := Lib.hid hm
  clear hm
  have b0 := (Below.refl w.heap.size w).alloc (Nat.le_refl _) (.cells (in16 i) 33)
  have kI := Blk.new w 33 (in16 i)
  have hg := h.below b0
  have c0 := kI.cell (i := 0) (v := .int .i64 i.op) rfl
  rw [hop] at c0
  cases q with
  | ok g' m' =>
    go_enter Tryz.func76, Tryz.ntmps76
    go_wp2_with (first | (with_reducible refine load_in rfl _ rfl rfl kI ?_) | ((with_reducible refine (qM.out _ hg b0).mono ?_); rintro e w2 ⟨rfl, hg2, b2⟩))
    exact bodyPost_end (v := .tuple #[]) (by simp [results, Tryz.results76, go_sem]) rfl ⟨rfl, hg2, (But.of b0 [G, B]).trans (b2.mono (S' := [G, B]) b0.size (fun k hk => .inl hk))⟩
  | bad kk a t =>
    go_enter Tryz.func76, Tryz.ntmps76
    go_wp2_with (first | (with_reducible refine load_in rfl _ rfl rfl kI ?_) | ((with_reducible refine (qM.out _ hg b0).mono ?_); rintro e w2 ⟨rfl, b2⟩))
    exact ⟨rfl, rfl, (But.of b0 [G]).trans (b2.mono (S' := [G]) b0.size (fun k hk => .inl hk))⟩
end
end Go.Proofs.YtcdoidnfdkodoaaGreatDoor

/- What Do answers at one instruction, as a premise for walks: DoR (done), DoF (it faults or can't be). -/
namespace Go.Proofs.YtcdoidnfdkodoaaGreatDoor
open Go.RowKit
set_option linter.unusedVariables false
set_option linter.unusedSimpArgs false
set_option linter.unusedSectionVars false
theorem imm13 (v : Int) (w : World) : Calls Tryz.prog 34 #[.int .u32 v] w fun e w' => e = .returned (opV ⟨2, 0, v, 0, 0, 0⟩) ∧ Below w.heap.size w w' := by
  have kx := (Below.refl w.heap.size w).alloc (Nat.le_refl _) (.cells (op6 ⟨2, 0, v, 0, 0, 0⟩) 31)
  go_enter Tryz.func34, Tryz.ntmps34
  go_wp2
  exact bodyPost_ret (v := opV ⟨2, 0, v, 0, 0, 0⟩) (by simp [results, Tryz.results34, go_sem]) rfl ⟨rfl, kx⟩
theorem mem13 (v : Int) (w : World) : Calls Tryz.prog 33 #[.int .u32 v] w fun e w' => e = .returned (opV ⟨3, 0, v, -1, -1, 1⟩) ∧ Below w.heap.size w w' := by
  have kx := (Below.refl w.heap.size w).alloc (Nat.le_refl _) (.cells (op6 ⟨3, 0, v, -1, -1, 1⟩) 31)
  go_enter Tryz.func33, Tryz.ntmps33
  go_wp2
  exact bodyPost_ret (v := opV ⟨3, 0, v, -1, -1, 1⟩) (by simp [results, Tryz.results33, go_sem]) rfl ⟨rfl, kx⟩
def DoR (m : Mm) (g : Gs) (i : In) (g' : Gs) (m' : Mm) : Prop := ∀ (W : World) (B : Nat), PAt W B m → Tb W → Calls Tryz.prog 19 #[mp B, stV g, inV i] W fun e w' => e = .returned (.tuple #[stV g', fltV 0 0 0 0, .bool true]) ∧ PAt w' B m' ∧ But [B] W.heap.size W w'
def DoF (m : Mm) (g : Gs) (i : In) (k pc a wt : Int) : Prop := ∀ (W : World) (B : Nat), PAt W B m → Tb W → Calls Tryz.prog 19 #[mp B, stV g, inV i] W fun e w' => e = .returned (.tuple #[stV g, fltV k pc a wt, .bool false]) ∧ PAt w' B m ∧ But [B] W.heap.size W w'
section
variable {w W : World} {S B : Nat} {m m' : Mm} {g g' : Gs} {i : In}
theorem DoR.pg (h : DoR m g i g' m') (T0 : Tb w) (hS : w.heap.size = S) (ok : m'.ok) (p : Pg S w W B m) :
    Calls Tryz.prog 19 #[mp B, stV g, inV i] W fun e w' => e = .returned (.tuple #[stV g', fltV 0 0 0 0, .bool true]) ∧ Pg S w w' B m' ∧ But [B] W.heap.size W w' :=
  (h W B p.h (T0.below (hS ▸ p.done))).mono fun e w' h => ⟨h.1, p.step h.2.1 ok h.2.2, h.2.2⟩
theorem DoF.pg {k pc a wt : Int} (h : DoF m g i k pc a wt) (T0 : Tb w) (hS : w.heap.size = S) (p : Pg S w W B m) :
    Calls Tryz.prog 19 #[mp B, stV g, inV i] W fun e w' => e = .returned (.tuple #[stV g, fltV k pc a wt, .bool false]) ∧ Pg S w w' B m ∧ But [B] W.heap.size W w' :=
  (h W B p.h (T0.below (hS ▸ p.done))).mono fun e w' h => ⟨h.1, p.step h.2.1 p.ok h.2.2, h.2.2⟩
theorem gok13 (S : Nat) (w : World) (B : Nat) (m m' : Mm) : GOk (fun k W => Pg S w W B (bif k then m' else m)) B :=
  ⟨fun _ _ _ h b => h.below b, fun _ _ _ _ h hl hb => h.store hb hl, fun _ _ h => h.h.lt⟩
theorem Pg.drew (p : Pg S w W B m) : Pg S w W.drew B m := p.below (Below.refl W.heap.size W).drew
theorem Blk.rangeR {N : Nat} (k : Blk W N 29 (stA g)) : W.rangeAt N 0 [.int .u32 (g.r 0), .int .u32 (g.r 1), .int .u32 (g.r 2), .int .u32 (g.r 3), .int .u32 (g.r 4), .int .u32 (g.r 5), .int .u32 (g.r 6), .int .u32 (g.r 7)] := by
  intro j v hv
  have hj : j < 8 := by have := (List.getElem?_eq_some_iff.1 hv).1; simpa using this
  rcases (by omega : j = 0 ∨ j = 1 ∨ j = 2 ∨ j = 3 ∨ j = 4 ∨ j = 5 ∨ j = 6 ∨ j = 7) with rfl | rfl | rfl | rfl | rfl | rfl | rfl | rfl <;> (cases hv; exact k.cell rfl)
end
abbrev cells8 (a : Nat → Int) : Array Value := #[.int .u32 (a 0), .int .u32 (a 1), .int .u32 (a 2), .int .u32 (a 3), .int .u32 (a 4), .int .u32 (a 5), .int .u32 (a 6), .int .u32 (a 7)]
theorem items8 (n : Nat) (a : Nat → Int) (W : World) : ∀ is : List Nat, (∀ i ∈ is, i < 8) → (Op.eqItems (n + 2) 23 1 (cells8 a) (cells8 a) is).run Tryz.prog W = .ok true W
  | [], _ => by simp [Op.eqItems]
  | i :: is, h => by
    have hi := h i (by simp)
    have ha : (cells8 a)[i * 1]? = some (.int .u32 (a i)) := by
      rcases (by omega : i = 0 ∨ i = 1 ∨ i = 2 ∨ i = 3 ∨ i = 4 ∨ i = 5 ∨ i = 6 ∨ i = 7) with rfl | rfl | rfl | rfl | rfl | rfl | rfl | rfl <;> rfl
    have hp := run_part_plain (P := Tryz.prog) W (e := 23) (by kernel_rfl) ha
    have ih := items8 n a W is (fun j hj => h j (by simp [hj]))
    simp only [Op.eqItems, Sem.run_bind, hp, Result.andThen_ok, run_equalIn_int W (n + 1) 23 .u32 .u32 (a i) (a i) Tryz.underlying23]
    simpa using ih
theorem eq8 (n : Nat) (a : Nat → Int) (W : World) : (Op.equalIn (n + 3) 24 (.agg (cells8 a)) (.agg (cells8 a))).run Tryz.prog W = .ok true W := by
  have hsome : (Tryz.prog.info? 23).isSome = true := by kernel_rfl
  obtain ⟨i, hi⟩ := Option.isSome_iff_exists.1 hsome
  rw [run_equalIn_array W (n + 2) _ _ Tryz.underlying24 hi, show Tryz.prog.cellsOf 23 = 1 by kernel_rfl]
  exact items8 n a W _ (fun i hi => by simpa using hi)
theorem run_eqS {ev : Operand → Value} {o : Oper} {w : World} {x y : Operand} (ho : o.op = .binOp .eql 29 x y 29) (g : Gs) (hx : ev x = stV g) (hy : ev y = stV g) : (execOp ev o).run Tryz.prog w = .ok (.value (.bool true)) w := by
  have heq := eq8 9996 g.r w
  unfold execOp
  simp only [ho, hx, hy]
  go_simp
theorem run_eqR {ev : Operand → Value} {o : Oper} {w : World} {x y : Operand} (ho : o.op = .binOp .eql 24 x y 24) (r : Nat → Int) (hx : ev x = .agg (cells8 r)) (hy : ev y = .agg (cells8 r)) : (execOp ev o).run Tryz.prog w = .ok (.value (.bool true)) w := by
  have heq := eq8 9997 r w
  unfold execOp
  simp only [ho, hx, hy]
  go_simp
end Go.Proofs.YtcdoidnfdkodoaaGreatDoor

/- step: exchange; what Do answers, by operation, from what the guest's methods answer. -/
namespace Go.Proofs.YtcdoidnfdkodoaaGreatDoor
open Go.RowKit
set_option linter.unusedVariables false
set_option linter.unusedSimpArgs false
set_option linter.unusedSectionVars false
section
variable {w : World} {G B : Nat} {g g' g1 g2 : Gs} {m m' m1 m2 : Mm}
end
def DoA (B : Nat) (g : Gs) (m : Mm) (i : In) : RsO → Prop
  | .ok g' m' => DoY B g m i g' m'
  | .bad k a t => DoN B g m i k a t
theorem doA_of {B : Nat} {g : Gs} {m : Mm} {i : In} {q : RsO} (h : ∀ W G, GuAt W G B g m → TabsA W → Calls Tryz.prog 76 #[mp G, inV i] W (Aft G B W q)) : DoA B g m i q := by
  cases q with
  | ok g' m' => exact h
  | bad k a t => exact h
theorem DoR.of {m : Mm} {g : Gs} {i : In} {g' : Gs} {m' : Mm} (hi : isB i = true) (hl : 0 ≤ i.len ∧ i.len ≤ 15) (h : ∀ B, DoA B (goOn g i) m i (.ok g' m')) : DoR m g i g' m' := fun W B hW t => Do_yes hW t g i hi hl g' m' (h B)
theorem DoF.of {m : Mm} {g : Gs} {i : In} {k a t : Int} (hi : isB i = true) (hl : 0 ≤ i.len ∧ i.len ≤ 15) (h : ∀ B, DoA B (goOn g i) m i (.bad k a t)) : DoF m g i k g.pc a t := fun W B hW tb =>
  (Do_no hW tb g i hi hl k a t (h B)).mono fun e w' q => ⟨q.1, hW.below q.2 hW.lt, But.of q.2 _⟩
end Go.Proofs.YtcdoidnfdkodoaaGreatDoor

/- StepStack: what Do answers at its instructions. -/
namespace Go.Proofs.YtcdoidnfdkodoaaGreatDoor
open Go.RowKit
set_option linter.unusedVariables false
set_option linter.unusedSimpArgs false
set_option linter.unusedSectionVars false
theorem bytes_there (m : Mm) (A : Nat) (n v : Int) (i : Nat) (h : i < numL n) : (wroteS m A n v).b (A + i) = v / 2 ^ (8 * i) % 256 := by
  show (if A ≤ A + i ∧ A + i < A + (bytesV v (numL n)).length then (bytesV v (numL n)).getD (A + i - A) 0 else m.b (A + i)) = _
  rw [if_pos (by rw [bytesV_len]; omega), show A + i - A = i by omega, bytesV_at _ h]
theorem read_w4 (m : Mm) (A : Nat) (v : Int) (hv : 0 ≤ v ∧ v < 4294967296) : readL (wroteS m A 4 v) A 4 = v := by
  have hb := fun i h => bytes_there m A 4 v i h
  have b0 := hb 0 (by decide)
  have b1 := hb 1 (by decide)
  have b2 := hb 2 (by decide)
  have b3 := hb 3 (by decide)
  simp only [readL, b0, b1, b2, b3]
  omega
theorem plO_at (g : Gs) (a : Int) (h : 0 ≤ a ∧ a ≤ 4294967295) : plO g (atO a) = a := by
  unfold plO
  rw [if_pos rfl]
  show ((regV g (-1) + regV g (-1) * 1 % 4294967296) % 4294967296 + a) % 4294967296 = a
  have : regV g (-1) = 0 := rfl
  rw [this]
  omega
section
variable {m : Mm} {g : Gs}
end
end Go.Proofs.YtcdoidnfdkodoaaGreatDoor

/- StepStack: its walk. -/
namespace Go.Proofs.YtcdoidnfdkodoaaGreatDoor
open Go.RowKit
set_option linter.unusedVariables false
set_option linter.unusedSimpArgs false
set_option linter.unusedSectionVars false
theorem kp_map13 {n0 : Nat} {w0 w : World} {B : Nat} {m : Mm} (p : Pg n0 w0 w B m) (a n v : Int) (ha : I64 a) (he : mapE m a n v = true) : Calls Tryz.prog 29 #[mp B, .int .i64 a, .int .i64 n, .int .i64 v] w fun e w' => e = .returned (.int .i64 0) ∧ Pg n0 w0 w' B (mapS m a n v) ∧ But [B] w.heap.size w w' := by
  have q := pMap p a n v ha
  rw [he] at q
  exact q
end Go.Proofs.YtcdoidnfdkodoaaGreatDoor

/- StepMoves: what Do answers at its instructions. -/
namespace Go.Proofs.YtcdoidnfdkodoaaGreatDoor
open Go.RowKit
set_option linter.unusedVariables false
set_option linter.unusedSimpArgs false
set_option linter.unusedSectionVars false
abbrev oM (v : Int) : On := ⟨3, 0, v, -1, -1, 1⟩
abbrev oI (v : Int) : On := ⟨2, 0, v, 0, 0, 0⟩
theorem plO_M (g : Gs) (a : Int) (h : 0 ≤ a ∧ a ≤ 4294967295) : plO g (oM a) = a := plO_at g a h
section
variable {m : Mm} {g : Gs}
end
end Go.Proofs.YtcdoidnfdkodoaaGreatDoor

/- What shifts make. -/
namespace Go.Proofs.YtcdoidnfdkodoaaGreatDoor
open Go.RowKit
set_option linter.unusedVariables false
set_option maxRecDepth 20000
set_option linter.unusedSimpArgs false
set_option linter.unusedSectionVars false
def shF (a r : Int) (last : Nat) (o : Bool) : Nat → Bool
  | 0 => bitB a last | 1 => evenS r.toNat 8 | 2 => false | 3 => r == 0 | 4 => bitB r 31 | _ => o
set_option maxHeartbeats 2000000 in
theorem shifted_one (op : Int) (k : Nat) (hk : k < 8) (hc : ClassIs op k) (a r : Int)  (last : Nat) (f : Nat → Bool) (h : 0 ≤ a ∧ a ≤ 4294967295) (hr : 0 ≤ r ∧ r ≤ 4294967295) (hl : last ≤ 32) (w : World) (tabs : TabsA w) :
    Calls Tryz.prog 200 #[.int .i64 op, .int .u32 a, .int .u32 r, .int .i64 1, .int .i64 (last : Int), flV f] w fun e w' => e = .returned (.tuple #[.int .u32 r, flV (mixL (wrT k) f (shF a r last (!(bitB a 31 == bitB r 31))))]) ∧ Below w.heap.size w w' := by
  have qW := Lib.hid (fun W tabs => written_any op k hk hc f (shF a r last (!(bitB a 31 == bitB r 31))) W tabs)
  have qR := fun w => byResult_any r hr w
  rw [show flV (resF r) = .agg #[.bool false, .bool (evenS r.toNat 8), .bool false, .bool (r == 0), .bool (bitB r 31), .bool false] from rfl] at qR
  have qL := fun w => bit_any a last h hl w
  have qA := fun w => bit_31 a h w
  have qB := fun w => bit_31 r hr w
  have hv := Lib.hid (show flV (shF a r last (!(bitB a 31 == bitB r 31))) = (Value.agg #[.bool (bitB a last), .bool (evenS r.toNat 8), .bool false, .bool (r == 0), .bool (bitB r 31), .bool (!(bitB a 31 == bitB r 31))]) from rfl)
  clear hc hk
  generalize shF a r last (!(bitB a 31 == bitB r 31)) = s at *
  generalize mixL (wrT k) f s = g at *
  generalize evenS r.toNat 8 = p at *
  generalize bitB a last = b at *
  generalize bitB a 31 = a31 at *
  generalize bitB r 31 = q at *
  generalize (r == 0) = z at *
  replace qR := Lib.hid qR
  replace qL := Lib.hid qL
  replace qA := Lib.hid qA
  replace qB := Lib.hid qB
  have kF := (Blk.new w 26 (fl6 f)).alloc (.cells (fl6 fun _ => false) 26)
  have kR := Blk.new (w.alloc (.cells (fl6 f) 26)) 26 (fl6 fun _ => false)
  rw [World.size_alloc] at kR
  go_enter Tryz.func200, Tryz.ntmps200
  go_wp2_with fail
  refine (qR.out _).mono ?_
  rintro e w1 ⟨rfl, bb⟩
  replace kF := kF.below bb (by simp; omega)
  replace kR := kR.below bb (by simp)
  have kb : Below w.heap.size w w1 := (((Below.refl _ _).alloc (Nat.le_refl _) _).alloc (by simp) _).trans (bb.mono (by simp; omega))
  clear bb
  have hNM := kR.lt
  have hSB := kb.size
  have kM := Blk.new w1 26 #[.bool false, .bool p, .bool false, .bool z, .bool q, .bool false]
  replace kF := kF.alloc (.cells #[.bool false, .bool p, .bool false, .bool z, .bool q, .bool false] 26)
  replace kR := kR.alloc (.cells #[.bool false, .bool p, .bool false, .bool z, .bool q, .bool false] 26)
  replace kb := kb.alloc hSB (.cells #[.bool false, .bool p, .bool false, .bool z, .bool q, .bool false] 26)
  go_wp2_with fail
  generalize w1.alloc (.cells #[.bool false, .bool p, .bool false, .bool z, .bool q, .bool false] 26) = w2 at kM kF kR kb ⊢
  generalize w1.heap.size = M at *
  generalize hN : w.heap.size = N at *
  have hS0 := kF.drew
  replace kM := kM.drew
  replace kR := kR.drew
  replace kb := kb.drew
  refine wp_region_held_drew (S := fun W => Blk W N 26 (fl6 f)) (by kernel_rfl) hS0 (fun hH0 => ?_)
  generalize w2.drew = w3 at *
  refine wpAnyH_take (i := 0) (v := ?_) rfl (by kernel_rfl) (by kernel_rfl) (by kernel_rfl) (fun _ _ _ h => h) (Or.inl ⟨by kernel_rfl, ?_⟩) hH0 ?_
  rotate_left
  · intro W hS
    go_simp
    try rfl
  simp only [Act.put, List.setIfInBounds_toArray, List.set_cons_zero, List.set_cons_succ]
  refine wpAnyH_take (i := 1) (v := ?_) rfl (by kernel_rfl) (by kernel_rfl) (by kernel_rfl) (fun _ _ _ h => h) (Or.inl ⟨by kernel_rfl, ?_⟩) hH0 ?_
  rotate_left
  · intro W hS
    go_simp
    try rfl
  simp only [Act.put, List.setIfInBounds_toArray, List.set_cons_zero, List.set_cons_succ]
  refine wpAnyH_take (i := 3) (v := ?_) rfl (by kernel_rfl) (by kernel_rfl) (by kernel_rfl) (fun _ _ _ h => h) (Or.inl ⟨by kernel_rfl, ?_⟩) hH0 ?_
  rotate_left
  · intro W hS
    go_simp
    try rfl
  simp only [Act.put, List.setIfInBounds_toArray, List.set_cons_zero, List.set_cons_succ]
  refine wpAnyH_take (i := 4) (v := ?_) rfl (by kernel_rfl) (by kernel_rfl) (by kernel_rfl) (fun _ _ _ h => h) (Or.inl ⟨by kernel_rfl, ?_⟩) hH0 ?_
  rotate_left
  · intro W hS
    have c5 := hS.cell (i := 5) (v := .bool (f 5)) rfl
    go_simp
    try rfl
  simp only [Act.put, List.setIfInBounds_toArray, List.set_cons_zero, List.set_cons_succ]
  refine wpAnyH_ready (rs := [2]) (by kernel_rfl) (by simp) ?_
  refine AllReadyH.cons rfl (fun K hK => ?_) AllReadyH.nil
  go_simp
  with_reducible refine (qL.out _).mono ?_
  rintro e w9 ⟨rfl, rfl⟩
  refine hK.out _ _ hH0 (fun _ => ?_)
  clear hK K
  try simp only [Act.put, List.setIfInBounds_toArray, List.set_cons_zero, List.set_cons_succ]
  refine wpAnyH_take (i := 5) (v := ?_) rfl (by kernel_rfl) (by kernel_rfl) (by kernel_rfl) (fun _ _ _ h => h) (Or.inl ⟨by kernel_rfl, ?_⟩) hH0 ?_
  rotate_left
  · intro W hS
    go_simp
    try rfl
  simp only [Act.put, List.setIfInBounds_toArray, List.set_cons_zero, List.set_cons_succ]
  refine wpAnyH_ready (rs := [6]) (by kernel_rfl) (by simp) ?_
  refine AllReadyH.cons rfl (fun K hK => ?_) AllReadyH.nil
  have cq := kM.cell (i := 0) (v := .bool false) rfl
  have fr := kM.fr 0
  go_simp
  have kM2 : Blk (w3.setCell ⟨M, 0, none⟩ (.bool b)) M 26 #[.bool b, .bool p, .bool false, .bool z, .bool q, .bool false] := by simpa using kM.set 0 (.bool b)
  have hH1 := hH0.other (M := M) 0 (.bool b) (by omega)
  have kR2 := kR.other (M := M) 0 (.bool b) (by omega)
  have kb2 := kb.setCell (p := ⟨M, 0, none⟩) (by show N ≤ M; omega) (.bool b)
  clear cq fr
  refine hK.out _ _ hH1 (fun _ => ?_)
  clear hK K
  try simp only [Act.put, List.setIfInBounds_toArray, List.set_cons_zero, List.set_cons_succ, List.getElem_toArray, List.getElem_cons_succ, List.getElem_cons_zero]
  refine wpAnyH_take (i := 7) (v := ?_) rfl (by kernel_rfl) (by kernel_rfl) (by kernel_rfl) (fun _ _ _ h => h) (Or.inl ⟨by kernel_rfl, ?_⟩) hH1 ?_
  rotate_left
  · intro W hS
    go_simp
    try rfl
  simp only [Act.put, List.setIfInBounds_toArray, List.set_cons_zero, List.set_cons_succ]
  refine wpAnyH_ready (rs := [8]) (by kernel_rfl) (by simp) ?_
  refine AllReadyH.cons rfl (fun K hK => ?_) AllReadyH.nil
  have cq := kM2.cell (i := 5) (v := .bool false) rfl
  have fr := kM2.fr 5
  go_simp
  have kM3 : Blk ((w3.setCell ⟨M, 0, none⟩ (.bool b)).setCell ⟨M, 5, none⟩ (.bool (f 5))) M 26 #[.bool b, .bool p, .bool false, .bool z, .bool q, .bool (f 5)] := by simpa using kM2.set 5 (.bool (f 5))
  have hH2 := hH1.other (M := M) 5 (.bool (f 5)) (by omega)
  have kR3 := kR2.other (M := M) 5 (.bool (f 5)) (by omega)
  have kb3 := kb2.setCell (p := ⟨M, 5, none⟩) (by show N ≤ M; omega) (.bool (f 5))
  clear cq fr
  refine hK.out _ _ hH2 (fun _ => ?_)
  clear hK K
  try simp only [Act.put, List.setIfInBounds_toArray, List.set_cons_zero, List.set_cons_succ, List.getElem_toArray, List.getElem_cons_succ, List.getElem_cons_zero]
  refine wpAnyH_done (by kernel_rfl) ?_ _
  generalize (w3.setCell ⟨M, 0, none⟩ (.bool b)).setCell ⟨M, 5, none⟩ (.bool (f 5)) = w4 at *
  have hv2 : fl6 s = #[.bool b, .bool p, .bool false, .bool z, .bool q, .bool (!(a31 == q))] := Value.agg.inj hv.out
  have cq := kM3.cell (i := 5) (v := .bool (f 5)) rfl
  have fr := kM3.fr 5
  have kM4 : Blk (w4.setCell ⟨M, 5, none⟩ (.bool (!(a31 == q)))) M 26 (fl6 s) := by rw [hv2]; simpa using kM3.set 5 (.bool (!(a31 == q)))
  have kF4 := hH2.other (M := M) 5 (.bool (!(a31 == q))) (by omega)
  have kR4 := kR3.other (M := M) 5 (.bool (!(a31 == q))) (by omega)
  have kb4 := kb3.setCell (p := ⟨M, 5, none⟩) (by show N ≤ M; omega) (.bool (!(a31 == q)))
  have tabs4 := tabs.below (hN ▸ kb4)
  have hSB4 := kb4.size
  rw [hN] at hSB4
  clear kb kb2 kb3 kM kM2 kM3 hH0 hH1 hH2 kR kR2 kR3 hS0
  go_wp2_with (first | (with_reducible refine (qA.out _).mono ?_; rintro e w9 ⟨rfl, rfl⟩) | (with_reducible refine (qB.out _).mono ?_; rintro e w9 ⟨rfl, rfl⟩) | (with_reducible refine load_fl rfl _ rfl N f rfl kF4 ?_) | (with_reducible refine load_fl rfl _ rfl M s rfl kM4 ?_) | (with_reducible refine (qW.out _ tabs4).mono ?_; rintro e w5 ⟨rfl, bb⟩) | (with_reducible refine store_fl rfl _ _ rfl (N + 1) g (fun _ => false) rfl rfl (kR4.below bb kR4.lt) ?_))
  refine bodyPost_ret (v := .tuple #[.int .u32 r, flV g]) (res_sc rfl _ _ (N + 1) g _ rfl rfl ((kR4.below bb kR4.lt).row _)) rfl ⟨rfl, ?_⟩
  rw [hN]
  exact below_rowNew (kb4.trans (bb.mono hSB4)) (N := N + 1) (by omega) _
set_option maxHeartbeats 2000000 in
theorem shifted_more (op : Int) (k : Nat) (hk : k < 8) (hc : ClassIs op k) (a r : Int) (by_ : Int) (hby : (by_ == 1) = false) (last : Nat) (f : Nat → Bool) (h : 0 ≤ a ∧ a ≤ 4294967295) (hr : 0 ≤ r ∧ r ≤ 4294967295) (hl : last ≤ 32) (w : World) (tabs : TabsA w) :
    Calls Tryz.prog 200 #[.int .i64 op, .int .u32 a, .int .u32 r, .int .i64 by_, .int .i64 (last : Int), flV f] w fun e w' => e = .returned (.tuple #[.int .u32 r, flV (mixL (wrT k) f (shF a r last (f 5)))]) ∧ Below w.heap.size w w' := by
  have qW := Lib.hid (fun W tabs => written_any op k hk hc f (shF a r last (f 5)) W tabs)
  have qR := fun w => byResult_any r hr w
  rw [show flV (resF r) = .agg #[.bool false, .bool (evenS r.toNat 8), .bool false, .bool (r == 0), .bool (bitB r 31), .bool false] from rfl] at qR
  have qL := fun w => bit_any a last h hl w
  have qA := fun w => bit_31 a h w
  have qB := fun w => bit_31 r hr w
  have hv := Lib.hid (show flV (shF a r last (f 5)) = (Value.agg #[.bool (bitB a last), .bool (evenS r.toNat 8), .bool false, .bool (r == 0), .bool (bitB r 31), .bool (f 5)]) from rfl)
  clear hc hk
  generalize shF a r last (f 5) = s at *
  generalize mixL (wrT k) f s = g at *
  generalize evenS r.toNat 8 = p at *
  generalize bitB a last = b at *
  generalize bitB a 31 = a31 at *
  generalize bitB r 31 = q at *
  generalize (r == 0) = z at *
  replace qR := Lib.hid qR
  replace qL := Lib.hid qL
  replace qA := Lib.hid qA
  replace qB := Lib.hid qB
  have kF := (Blk.new w 26 (fl6 f)).alloc (.cells (fl6 fun _ => false) 26)
  have kR := Blk.new (w.alloc (.cells (fl6 f) 26)) 26 (fl6 fun _ => false)
  rw [World.size_alloc] at kR
  go_enter Tryz.func200, Tryz.ntmps200
  go_wp2_with fail
  refine (qR.out _).mono ?_
  rintro e w1 ⟨rfl, bb⟩
  replace kF := kF.below bb (by simp; omega)
  replace kR := kR.below bb (by simp)
  have kb : Below w.heap.size w w1 := (((Below.refl _ _).alloc (Nat.le_refl _) _).alloc (by simp) _).trans (bb.mono (by simp; omega))
  clear bb
  have hNM := kR.lt
  have hSB := kb.size
  have kM := Blk.new w1 26 #[.bool false, .bool p, .bool false, .bool z, .bool q, .bool false]
  replace kF := kF.alloc (.cells #[.bool false, .bool p, .bool false, .bool z, .bool q, .bool false] 26)
  replace kR := kR.alloc (.cells #[.bool false, .bool p, .bool false, .bool z, .bool q, .bool false] 26)
  replace kb := kb.alloc hSB (.cells #[.bool false, .bool p, .bool false, .bool z, .bool q, .bool false] 26)
  go_wp2_with fail
  generalize w1.alloc (.cells #[.bool false, .bool p, .bool false, .bool z, .bool q, .bool false] 26) = w2 at kM kF kR kb ⊢
  generalize w1.heap.size = M at *
  generalize hN : w.heap.size = N at *
  have hS0 := kF.drew
  replace kM := kM.drew
  replace kR := kR.drew
  replace kb := kb.drew
  refine wp_region_held_drew (S := fun W => Blk W N 26 (fl6 f)) (by kernel_rfl) hS0 (fun hH0 => ?_)
  generalize w2.drew = w3 at *
  refine wpAnyH_take (i := 0) (v := ?_) rfl (by kernel_rfl) (by kernel_rfl) (by kernel_rfl) (fun _ _ _ h => h) (Or.inl ⟨by kernel_rfl, ?_⟩) hH0 ?_
  rotate_left
  · intro W hS
    go_simp
    try rfl
  simp only [Act.put, List.setIfInBounds_toArray, List.set_cons_zero, List.set_cons_succ]
  refine wpAnyH_take (i := 1) (v := ?_) rfl (by kernel_rfl) (by kernel_rfl) (by kernel_rfl) (fun _ _ _ h => h) (Or.inl ⟨by kernel_rfl, ?_⟩) hH0 ?_
  rotate_left
  · intro W hS
    go_simp
    try rfl
  simp only [Act.put, List.setIfInBounds_toArray, List.set_cons_zero, List.set_cons_succ]
  refine wpAnyH_take (i := 3) (v := ?_) rfl (by kernel_rfl) (by kernel_rfl) (by kernel_rfl) (fun _ _ _ h => h) (Or.inl ⟨by kernel_rfl, ?_⟩) hH0 ?_
  rotate_left
  · intro W hS
    go_simp
    try rfl
  simp only [Act.put, List.setIfInBounds_toArray, List.set_cons_zero, List.set_cons_succ]
  refine wpAnyH_take (i := 4) (v := ?_) rfl (by kernel_rfl) (by kernel_rfl) (by kernel_rfl) (fun _ _ _ h => h) (Or.inl ⟨by kernel_rfl, ?_⟩) hH0 ?_
  rotate_left
  · intro W hS
    have c5 := hS.cell (i := 5) (v := .bool (f 5)) rfl
    go_simp
    try rfl
  simp only [Act.put, List.setIfInBounds_toArray, List.set_cons_zero, List.set_cons_succ]
  refine wpAnyH_ready (rs := [2]) (by kernel_rfl) (by simp) ?_
  refine AllReadyH.cons rfl (fun K hK => ?_) AllReadyH.nil
  go_simp
  with_reducible refine (qL.out _).mono ?_
  rintro e w9 ⟨rfl, rfl⟩
  refine hK.out _ _ hH0 (fun _ => ?_)
  clear hK K
  try simp only [Act.put, List.setIfInBounds_toArray, List.set_cons_zero, List.set_cons_succ]
  refine wpAnyH_take (i := 5) (v := ?_) rfl (by kernel_rfl) (by kernel_rfl) (by kernel_rfl) (fun _ _ _ h => h) (Or.inl ⟨by kernel_rfl, ?_⟩) hH0 ?_
  rotate_left
  · intro W hS
    go_simp
    try rfl
  simp only [Act.put, List.setIfInBounds_toArray, List.set_cons_zero, List.set_cons_succ]
  refine wpAnyH_ready (rs := [6]) (by kernel_rfl) (by simp) ?_
  refine AllReadyH.cons rfl (fun K hK => ?_) AllReadyH.nil
  have cq := kM.cell (i := 0) (v := .bool false) rfl
  have fr := kM.fr 0
  go_simp
  have kM2 : Blk (w3.setCell ⟨M, 0, none⟩ (.bool b)) M 26 #[.bool b, .bool p, .bool false, .bool z, .bool q, .bool false] := by simpa using kM.set 0 (.bool b)
  have hH1 := hH0.other (M := M) 0 (.bool b) (by omega)
  have kR2 := kR.other (M := M) 0 (.bool b) (by omega)
  have kb2 := kb.setCell (p := ⟨M, 0, none⟩) (by show N ≤ M; omega) (.bool b)
  clear cq fr
  refine hK.out _ _ hH1 (fun _ => ?_)
  clear hK K
  try simp only [Act.put, List.setIfInBounds_toArray, List.set_cons_zero, List.set_cons_succ, List.getElem_toArray, List.getElem_cons_succ, List.getElem_cons_zero]
  refine wpAnyH_take (i := 7) (v := ?_) rfl (by kernel_rfl) (by kernel_rfl) (by kernel_rfl) (fun _ _ _ h => h) (Or.inl ⟨by kernel_rfl, ?_⟩) hH1 ?_
  rotate_left
  · intro W hS
    go_simp
    try rfl
  simp only [Act.put, List.setIfInBounds_toArray, List.set_cons_zero, List.set_cons_succ]
  refine wpAnyH_ready (rs := [8]) (by kernel_rfl) (by simp) ?_
  refine AllReadyH.cons rfl (fun K hK => ?_) AllReadyH.nil
  have cq := kM2.cell (i := 5) (v := .bool false) rfl
  have fr := kM2.fr 5
  go_simp
  have kM3 : Blk ((w3.setCell ⟨M, 0, none⟩ (.bool b)).setCell ⟨M, 5, none⟩ (.bool (f 5))) M 26 #[.bool b, .bool p, .bool false, .bool z, .bool q, .bool (f 5)] := by simpa using kM2.set 5 (.bool (f 5))
  have hH2 := hH1.other (M := M) 5 (.bool (f 5)) (by omega)
  have kR3 := kR2.other (M := M) 5 (.bool (f 5)) (by omega)
  have kb3 := kb2.setCell (p := ⟨M, 5, none⟩) (by show N ≤ M; omega) (.bool (f 5))
  clear cq fr
  refine hK.out _ _ hH2 (fun _ => ?_)
  clear hK K
  try simp only [Act.put, List.setIfInBounds_toArray, List.set_cons_zero, List.set_cons_succ, List.getElem_toArray, List.getElem_cons_succ, List.getElem_cons_zero]
  refine wpAnyH_done (by kernel_rfl) ?_ _
  generalize (w3.setCell ⟨M, 0, none⟩ (.bool b)).setCell ⟨M, 5, none⟩ (.bool (f 5)) = w4 at *
  have hv2 : fl6 s = #[.bool b, .bool p, .bool false, .bool z, .bool q, .bool (f 5)] := Value.agg.inj hv.out
  have kM4 : Blk w4 M 26 (fl6 s) := by rw [hv2]; exact kM3
  have kF4 := hH2
  have kR4 := kR3
  have kb4 := kb3
  have tabs4 := tabs.below (hN ▸ kb4)
  have hSB4 := kb4.size
  rw [hN] at hSB4
  clear kb kb2 kb3 kM kM2 kM3 hH0 hH1 hH2 kR kR2 kR3 hS0
  go_wp2_with (first | (with_reducible refine (qA.out _).mono ?_; rintro e w9 ⟨rfl, rfl⟩) | (with_reducible refine (qB.out _).mono ?_; rintro e w9 ⟨rfl, rfl⟩) | (with_reducible refine load_fl rfl _ rfl N f rfl kF4 ?_) | (with_reducible refine load_fl rfl _ rfl M s rfl kM4 ?_) | (with_reducible refine (qW.out _ tabs4).mono ?_; rintro e w5 ⟨rfl, bb⟩) | (with_reducible refine store_fl rfl _ _ rfl (N + 1) g (fun _ => false) rfl rfl (kR4.below bb kR4.lt) ?_))
  refine bodyPost_ret (v := .tuple #[.int .u32 r, flV g]) (res_sc rfl _ _ (N + 1) g _ rfl rfl ((kR4.below bb kR4.lt).row _)) rfl ⟨rfl, ?_⟩
  rw [hN]
  exact below_rowNew (kb4.trans (bb.mono hSB4)) (N := N + 1) (by omega) _
end Go.Proofs.YtcdoidnfdkodoaaGreatDoor

/- Shift, operation by operation. -/
namespace Go.Proofs.YtcdoidnfdkodoaaGreatDoor
open Go.RowKit
set_option linter.unusedVariables false
set_option maxRecDepth 20000
set_option linter.unusedSimpArgs false
set_option linter.unusedSectionVars false
theorem wrap_i32 (x : Int) : IntKind.i32.wrap x = wrap32 x := IntWalk.i32_left x
def ofL (k : Nat) (a r : Int) (f : Nat → Bool) : Bool := if k = 1 then !(bitB a 31 == bitB r 31) else f 5
theorem shifted_any (op : Int) (c : Nat) (hc8 : c < 8) (hc : ClassIs op c) (a r : Int) (k last : Nat) (hk : 1 ≤ k ∧ k ≤ 31) (f : Nat → Bool) (h : 0 ≤ a ∧ a ≤ 4294967295) (hr : 0 ≤ r ∧ r ≤ 4294967295) (hl : last ≤ 32) (w : World) (tabs : TabsA w) :
    Calls Tryz.prog 200 #[.int .i64 op, .int .u32 a, .int .u32 r, .int .i64 (k : Int), .int .i64 (last : Int), flV f] w fun e w' => e = .returned (.tuple #[.int .u32 r, flV (mixL (wrT c) f (shF a r last (ofL k a r f)))]) ∧ Below w.heap.size w w' := by
  by_cases h1 : k = 1
  · subst h1
    exact shifted_one op c hc8 hc a r last f h hr hl w tabs
  · have := shifted_more op c hc8 hc a r (k : Int) (by simp; omega) last f h hr hl w tabs
    unfold ofL
    rw [if_neg h1]
    exact this
def shG (c k : Nat) (a r : Int) (last : Nat) (f : Nat → Bool) : Nat → Bool := mixL (wrT c) f (shF a r last (ofL k a r f))
abbrev ShiftsTo (op a n : Int) (f : Nat → Bool) (R : Int) (G : Nat → Bool) : Prop := ∀ w, TabsA w → Calls Tryz.prog 161 #[.int .i64 op, .int .u32 a, .int .u32 n, flV f] w fun e w' => e = .returned (.tuple #[.int .u32 R, flV G]) ∧ Below w.heap.size w w'
theorem shift_zero (op a n : Int) (f : Nat → Bool) (hn : 0 ≤ n ∧ n ≤ 4294967295) (h0 : n % 32 = 0) : ShiftsTo op a n f a f := by
  intro w tabs
  go_enter Tryz.func161, Tryz.ntmps161
  go_wp2
  go_region
  go_wp2
  have k : Blk (((w.alloc (.cells (fl6 f) 26)).alloc (.cells (fl6 f) 26)).drew) (w.heap.size + 1) 26 (fl6 f) := by simpa using (Blk.new (w.alloc (.cells (fl6 f) 26)) 26 (fl6 f)).drew
  refine bodyPost_ret (v := .tuple #[.int .u32 a, flV f]) (res_sc rfl _ _ (w.heap.size + 1) f _ rfl rfl k) rfl ⟨rfl, ?_⟩
  exact (((Below.refl _ _).alloc (Nat.le_refl _) _).alloc (by simp) _).drew
set_option maxHeartbeats 2000000 in
theorem shift_shl (a n : Int) (f : Nat → Bool) (k : Nat) (hk : 1 ≤ k ∧ k ≤ 31) (h : 0 ≤ a ∧ a ≤ 4294967295) (hn : 0 ≤ n ∧ n ≤ 4294967295) (hm : n % 32 = (k : Int)) (hR : 0 ≤ a * 2 ^ k % 4294967296 ∧ a * 2 ^ k % 4294967296 ≤ 4294967295) :
    ShiftsTo 23 a n f (a * 2 ^ k % 4294967296) (shG 4 k a (a * 2 ^ k % 4294967296) (32 - k) f) := by
  intro w tabs
  have qS := fun W tabs => shifted_any 23 4 (by decide) classOf_23 a (a * 2 ^ k % 4294967296) k (32 - k) hk f h hR (by omega) W tabs
  rw [show ((32 - k : Nat) : Int) = 32 - (k : Int) by omega, show mixL (wrT 4) f (shF a (a * 2 ^ k % 4294967296) (32 - k) (ofL k a (a * 2 ^ k % 4294967296) f)) = shG 4 k a (a * 2 ^ k % 4294967296) (32 - k) f from rfl] at qS
  generalize shG 4 k a (a * 2 ^ k % 4294967296) (32 - k) f = g at *
  obtain ⟨R, eR⟩ : ∃ R, R = a * 2 ^ k % 4294967296 := ⟨_, rfl⟩
  have eW : IntKind.u32.wrap (a * 2 ^ k) = R := by subst eR; (try simp only [IntKind.wrap_u32, wrap_i32])
  rw [← eR] at qS ⊢
  clear hR
  rw [← eW] at qS
  replace eW := Lib.hid eW
  clear eR
  replace qS := Lib.hid qS
  have hk0 : ((k : Int) == 0) = false := by simp; omega
  have hk1 : (0 : Int) ≤ (k : Int) := by omega
  have hk2 : (k : Int) ≤ 31 := by omega
  have hk3 : (32 - (k : Int)).toNat = 32 - k := by omega
  have hw1 : IntKind.i64.wrap (32 - (k : Int)) = 32 - (k : Int) := by rw [IntKind.wrap_i64]; omega
  have hw2 : IntKind.i64.wrap ((k : Int) - 1) = (k : Int) - 1 := by rw [IntKind.wrap_i64]; omega
  have kF := (Blk.new w 26 (fl6 f)).alloc (.cells (fl6 fun _ => false) 26)
  have kR := Blk.new (w.alloc (.cells (fl6 f) 26)) 26 (fl6 fun _ => false)
  rw [World.size_alloc] at kR
  have kb : Below w.heap.size w ((w.alloc (.cells (fl6 f) 26)).alloc (.cells (fl6 fun _ => false) 26)) := ((Below.refl _ _).alloc (Nat.le_refl _) _).alloc (by simp) _
  go_enter Tryz.func161, Tryz.ntmps161
  go_wp2_with fail
  generalize (w.alloc (.cells (fl6 f) 26)).alloc (.cells (fl6 fun _ => false) 26) = w1 at kF kR kb ⊢
  generalize hN : w.heap.size = N at *
  have hS0 := kF.drew
  replace kR := kR.drew
  replace kb := kb.drew
  refine wp_region_held_drew (S := fun W => Blk W N 26 (fl6 f)) (by kernel_rfl) hS0 (fun hH0 => ?_)
  generalize w1.drew = w2 at *
  have tabs2 := tabs.below (hN ▸ kb)
  have hSB := kb.size
  rw [hN] at hSB
  refine wpAnyH_take (i := 0) (v := ?_) rfl (by kernel_rfl) (by kernel_rfl) (by kernel_rfl) (fun _ _ _ h => h) (Or.inl ⟨by kernel_rfl, ?_⟩) hH0 ?_
  rotate_left
  · intro W hS
    go_simp
    try rfl
  simp only [Act.put, List.setIfInBounds_toArray, List.set_cons_zero, List.set_cons_succ, List.getElem_toArray, List.getElem_cons_succ, List.getElem_cons_zero]
  refine wpAnyH_take (i := 1) (v := ?_) rfl (by kernel_rfl) (by kernel_rfl) (by kernel_rfl) (fun _ _ _ h => h) (Or.inl ⟨by kernel_rfl, ?_⟩) hH0 ?_
  rotate_left
  · intro W hS
    go_simp
    try rfl
  simp only [Act.put, List.setIfInBounds_toArray, List.set_cons_zero, List.set_cons_succ, List.getElem_toArray, List.getElem_cons_succ, List.getElem_cons_zero]
  refine wpAnyH_take (i := 2) (v := ?_) rfl (by kernel_rfl) (by kernel_rfl) (by kernel_rfl) (fun _ _ _ h => h) (Or.inl ⟨by kernel_rfl, ?_⟩) hH0 ?_
  rotate_left
  · intro W hS
    go_simp
    try rfl
  simp only [Act.put, List.setIfInBounds_toArray, List.set_cons_zero, List.set_cons_succ, List.getElem_toArray, List.getElem_cons_succ, List.getElem_cons_zero]
  refine wpAnyH_take (i := 3) (v := ?_) rfl (by kernel_rfl) (by kernel_rfl) (by kernel_rfl) (fun _ _ _ h => h) (Or.inl ⟨by kernel_rfl, ?_⟩) hH0 ?_
  rotate_left
  · intro W hS
    go_simp
    try rfl
  simp only [Act.put, List.setIfInBounds_toArray, List.set_cons_zero, List.set_cons_succ, List.getElem_toArray, List.getElem_cons_succ, List.getElem_cons_zero]
  refine wpAnyH_take (i := 4) (v := ?_) rfl (by kernel_rfl) (by kernel_rfl) (by kernel_rfl) (fun _ _ _ h => h) (Or.inl ⟨by kernel_rfl, ?_⟩) hH0 ?_
  rotate_left
  · intro W hS
    go_simp
    try rfl
  simp only [Act.put, List.setIfInBounds_toArray, List.set_cons_zero, List.set_cons_succ, List.getElem_toArray, List.getElem_cons_succ, List.getElem_cons_zero]
  refine wpAnyH_take (i := 5) (v := ?_) rfl (by kernel_rfl) (by kernel_rfl) (by kernel_rfl) (fun _ _ _ h => h) (Or.inl ⟨by kernel_rfl, ?_⟩) hH0 ?_
  rotate_left
  · intro W hS
    go_simp
    try rfl
  simp only [Act.put, List.setIfInBounds_toArray, List.set_cons_zero, List.set_cons_succ, List.getElem_toArray, List.getElem_cons_succ, List.getElem_cons_zero]
  refine wpAnyH_take (i := 6) (v := ?_) rfl (by kernel_rfl) (by kernel_rfl) (by kernel_rfl) (fun _ _ _ h => h) (Or.inl ⟨by kernel_rfl, ?_⟩) hH0 ?_
  rotate_left
  · intro W hS
    go_simp
    try rfl
  simp only [Act.put, List.setIfInBounds_toArray, List.set_cons_zero, List.set_cons_succ, List.getElem_toArray, List.getElem_cons_succ, List.getElem_cons_zero]
  refine wpAnyH_take (i := 7) (v := ?_) rfl (by kernel_rfl) (by kernel_rfl) (by kernel_rfl) (fun _ _ _ h => h) (Or.inl ⟨by kernel_rfl, ?_⟩) hH0 ?_
  rotate_left
  · intro W hS
    go_simp
    try rfl
  simp only [Act.put, List.setIfInBounds_toArray, List.set_cons_zero, List.set_cons_succ, List.getElem_toArray, List.getElem_cons_succ, List.getElem_cons_zero]
  refine wpAnyH_take (i := 8) (v := ?_) rfl (by kernel_rfl) (by kernel_rfl) (by kernel_rfl) (fun _ _ _ h => h) (Or.inl ⟨by kernel_rfl, ?_⟩) hH0 ?_
  rotate_left
  · intro W hS
    have c0 := hS.cell (i := 0) (v := .bool (f 0)) rfl
    have c1 := hS.cell (i := 1) (v := .bool (f 1)) rfl
    have c2 := hS.cell (i := 2) (v := .bool (f 2)) rfl
    have c3 := hS.cell (i := 3) (v := .bool (f 3)) rfl
    have c4 := hS.cell (i := 4) (v := .bool (f 4)) rfl
    have c5 := hS.cell (i := 5) (v := .bool (f 5)) rfl
    go_simp
    try rfl
  simp only [Act.put, List.setIfInBounds_toArray, List.set_cons_zero, List.set_cons_succ, List.getElem_toArray, List.getElem_cons_succ, List.getElem_cons_zero]
  refine wpAnyH_ready (rs := [9]) (by kernel_rfl) (by simp) ?_
  refine AllReadyH.cons rfl (fun K hK => ?_) AllReadyH.nil
  go_simp
  with_reducible refine (qS.out _ tabs2).mono ?_
  rintro e w3 ⟨rfl, bb⟩
  have hH1 := hH0.below bb hH0.lt
  replace kR := kR.below bb kR.lt
  replace kb := kb.trans (bb.mono hSB)
  clear bb
  refine hK.out _ _ hH1 (fun _ => ?_)
  clear hK K
  try simp only [Act.put, List.setIfInBounds_toArray, List.set_cons_zero, List.set_cons_succ]
  refine wpAnyH_take (i := 10) (v := ?_) rfl (by kernel_rfl) (by kernel_rfl) (by kernel_rfl) (fun _ _ _ h => h) (Or.inl ⟨by kernel_rfl, ?_⟩) hH1 ?_
  rotate_left
  · intro W hS
    go_simp
    try rfl
  simp only [Act.put, List.setIfInBounds_toArray, List.set_cons_zero, List.set_cons_succ, List.getElem_toArray, List.getElem_cons_succ, List.getElem_cons_zero]
  refine wpAnyH_take (i := 11) (v := ?_) rfl (by kernel_rfl) (by kernel_rfl) (by kernel_rfl) (fun _ _ _ h => h) (Or.inl ⟨by kernel_rfl, ?_⟩) hH1 ?_
  rotate_left
  · intro W hS
    go_simp
    try rfl
  simp only [Act.put, List.setIfInBounds_toArray, List.set_cons_zero, List.set_cons_succ, List.getElem_toArray, List.getElem_cons_succ, List.getElem_cons_zero]
  refine wpAnyH_take (i := 12) (v := ?_) rfl (by kernel_rfl) (by kernel_rfl) (by kernel_rfl) (fun _ _ _ h => h) (Or.inl ⟨by kernel_rfl, ?_⟩) hH1 ?_
  rotate_left
  · intro W hS
    go_simp
    try rfl
  simp only [Act.put, List.setIfInBounds_toArray, List.set_cons_zero, List.set_cons_succ, List.getElem_toArray, List.getElem_cons_succ, List.getElem_cons_zero]
  refine wpAnyH_ready (rs := [13]) (by kernel_rfl) (by simp) ?_
  refine AllReadyH.cons rfl (fun K hK => ?_) AllReadyH.nil
  rw [if_pos]
  rotate_left
  · kernel_rfl
  refine wp_store_row 26 _ _ rfl (N + 1) (fl6 g) rfl rfl 26 (fl6 (fun _ => false)) kR.h (szFA g) rfl (fl6_one g) ?_
  have kR2 := kR.row (fl6 g)
  have hH2 := hH1.rowOther (M := N + 1) (fl6 g) (by omega)
  have kb2 := below_rowNew kb (N := N + 1) (by omega) (fl6 g)
  refine hK.out _ _ hH2 (fun _ => ?_)
  clear hK K
  try simp only [Act.put, List.setIfInBounds_toArray, List.set_cons_zero, List.set_cons_succ, List.getElem_toArray, List.getElem_cons_succ, List.getElem_cons_zero]
  refine wpAnyH_done (by kernel_rfl) ?_ _
  go_wp2_with fail
  refine bodyPost_ret (v := .tuple #[.int .u32 (IntKind.u32.wrap (a * 2 ^ k)), flV g]) (res_sc rfl _ _ (N + 1) g _ rfl rfl kR2) rfl ⟨by rw [eW.out], ?_⟩
  rw [hN]
  exact kb2
end Go.Proofs.YtcdoidnfdkodoaaGreatDoor

