/- Read. -/
import Derived.Test.YtmlaancmacipoaaD2
namespace Go.Proofs.Ytmlaancmacipoaa
open Go.RowKit
set_option linter.unusedVariables false
set_option linter.unusedSimpArgs false
set_option linter.unusedSectionVars false

set_option maxRecDepth 20000 in
theorem Read_no {B : Nat} {m : Mm} {w : World} (h : PAt w B m) (ok : m.ok) (A j : Nat) (hA : A ≤ 4294967295) (n r : Int) (hl : lackL m A (singleL r) (numL n) = some j) :
    Calls Try.prog 49 #[mp B, .int .u32 A, .int .i64 n, .int .i64 r] w fun e w' => e = .returned (.tuple #[.int .u32 0, fltV 1 0 ((A + j) % 4294967296) (singleL r), .bool false]) ∧ Below w.heap.size w w' := by
  have hmf : ∀ (fn : Fn) (first cap : Array Value) (w : World), (Instr.makeFunc fn first cap).run Try.prog w = .ok (.func fn first cap) w := fun _ _ _ _ => rfl
  have hB := h.lt
  have k5 := ((((((Below.refl w.heap.size w).alloc (Nat.le_refl _) (.cells #[mp B] 26)).alloc (by simp) (.cells #[.int .u32 A] 23)).alloc (by simp; omega) (.cells #[.int .i64 n] 3)).alloc (by simp; omega) (.cells #[.int .i64 r] 3)).alloc (by simp; omega) (.cells #[.int .i64 0, .int .u32 0, .int .u32 0, .int .i64 0] 32)).alloc (by simp; omega) (.cells #[.int .u32 0] 23)
  have hbx : Boxes ((((((w.alloc (.cells #[mp B] 26)).alloc (.cells #[.int .u32 A] 23)).alloc (.cells #[.int .i64 n] 3)).alloc (.cells #[.int .i64 r] 3)).alloc (.cells #[.int .i64 0, .int .u32 0, .int .u32 0, .int .i64 0] 32)).alloc (.cells #[.int .u32 0] 23)) B w.heap.size (w.heap.size + 1) (w.heap.size + 1 + 1) (w.heap.size + 1 + 1 + 1) m (.int .u32 A) (.int .i64 n) (.int .i64 r) :=
    ⟨(((((h.alloc _).alloc _).alloc _).alloc _).alloc _).alloc _, by simp [go_sem], by simp [go_sem], by simp [go_sem], by simp [go_sem]⟩
  have h4 := (Four.begun ((((w.alloc (.cells #[mp B] 26)).alloc (.cells #[.int .u32 A] 23)).alloc (.cells #[.int .i64 n] 3)).alloc (.cells #[.int .i64 r] 3)) 0 0 0 0 32).but (But.of ((Below.refl (((((w.alloc (.cells #[mp B] 26)).alloc (.cells #[.int .u32 A] 23)).alloc (.cells #[.int .i64 n] 3)).alloc (.cells #[.int .i64 r] 3)).alloc (.cells #[.int .i64 0, .int .u32 0, .int .u32 0, .int .i64 0] 32)).heap.size (((((w.alloc (.cells #[mp B] 26)).alloc (.cells #[.int .u32 A] 23)).alloc (.cells #[.int .i64 n] 3)).alloc (.cells #[.int .i64 r] 3)).alloc (.cells #[.int .i64 0, .int .u32 0, .int .u32 0, .int .i64 0] 32))).alloc (Nat.le_refl _) (.cells #[.int .u32 0] 23)) []) (by simp) (by simp)
  have cv : ((((((w.alloc (.cells #[mp B] 26)).alloc (.cells #[.int .u32 A] 23)).alloc (.cells #[.int .i64 n] 3)).alloc (.cells #[.int .i64 r] 3)).alloc (.cells #[.int .i64 0, .int .u32 0, .int .u32 0, .int .i64 0] 32)).alloc (.cells #[.int .u32 0] 23)).cell? ⟨w.heap.size + 1 + 1 + 1 + 1 + 1, 0, none⟩ = some (.int .u32 0) := by simp [go_sem]
  have fv : ((((((w.alloc (.cells #[mp B] 26)).alloc (.cells #[.int .u32 A] 23)).alloc (.cells #[.int .i64 n] 3)).alloc (.cells #[.int .i64 r] 3)).alloc (.cells #[.int .i64 0, .int .u32 0, .int .u32 0, .int .i64 0] 32)).alloc (.cells #[.int .u32 0] 23)).frozen? ⟨w.heap.size + 1 + 1 + 1 + 1 + 1, 0, none⟩ = false := by simp [go_sem]
  have s5 : ((((((w.alloc (.cells #[mp B] 26)).alloc (.cells #[.int .u32 A] 23)).alloc (.cells #[.int .i64 n] 3)).alloc (.cells #[.int .i64 r] 3)).alloc (.cells #[.int .i64 0, .int .u32 0, .int .u32 0, .int .i64 0] 32)).alloc (.cells #[.int .u32 0] 23)).heap.size = w.heap.size + 6 := by simp
  go_enter Try.func49, Try.ntmps49
  go_wp2_with fail
  have e4 : ((((w.alloc (.cells #[mp B] 26)).alloc (.cells #[.int .u32 A] 23)).alloc (.cells #[.int .i64 n] 3)).alloc (.cells #[.int .i64 r] 3)).heap.size = w.heap.size + 1 + 1 + 1 + 1 := by simp
  rw [e4] at h4
  clear e4
  generalize ((((((w.alloc (.cells #[mp B] 26)).alloc (.cells #[.int .u32 A] 23)).alloc (.cells #[.int .i64 n] 3)).alloc (.cells #[.int .i64 r] 3)).alloc (.cells #[.int .i64 0, .int .u32 0, .int .u32 0, .int .i64 0] 32)).alloc (.cells #[.int .u32 0] 23)) = w5 at *
  refine (triedR_no _ 1 0 ((A + j) % 4294967296) (singleL r) (fun W hW => read1_no ok A j hA n r (hbx.below hW (by omega) (by omega) (by omega) (by omega) (by omega)) hl)).mono ?_
  rintro e w6 ⟨rfl, k6⟩
  replace h4 := h4.but (But.of k6 []) (by omega) (by simp)
  replace cv := (k6.cell (p := ⟨w.heap.size + 1 + 1 + 1 + 1 + 1, 0, none⟩) (show w.heap.size + 1 + 1 + 1 + 1 + 1 < w5.heap.size by omega)).trans cv
  have kx := k5.trans (k6.mono (by omega))
  generalize hR : singleL r = R at *
  have hR' := hid hR
  clear hR
  have s6 := kx.size
  have z4 := size_of_cell h4.c0
  have zv := size_of_cell cv
  have h5 := h4.but (But.of ((Below.refl w6.heap.size w6).alloc (Nat.le_refl _) (.cells #[.int .i64 1, .int .u32 0, .int .u32 ((A + j) % 4294967296), .int .i64 R] 32)) []) z4 (by simp)
  have cv5 := up_cell cv (.cells #[.int .i64 1, .int .u32 0, .int .u32 ((A + j) % 4294967296), .int .i64 R] 32)
  have n5 := Four.begun w6 1 0 ((A + j) % 4294967296) R 32
  have kn := kx.alloc (by omega) (.cells #[.int .i64 1, .int .u32 0, .int .u32 ((A + j) % 4294967296), .int .i64 R] 32)
  clear hmf k5 k6 hbx hl h4 cv fv
  go_wp2_with fail
  generalize w6.alloc (.cells #[.int .i64 1, .int .u32 0, .int .u32 ((A + j) % 4294967296), .int .i64 R] 32) = w7 at *
  have hx : Four ((((w7.setCell ⟨w.heap.size + 1 + 1 + 1 + 1, 0, none⟩ (.int .i64 1)).setCell ⟨w.heap.size + 1 + 1 + 1 + 1, 1, none⟩ (.int .u32 0)).setCell ⟨w.heap.size + 1 + 1 + 1 + 1, 2, none⟩ (.int .u32 ((A + j) % 4294967296))).setCell ⟨w.heap.size + 1 + 1 + 1 + 1, 3, none⟩ (.int .i64 R)).drew (w.heap.size + 1 + 1 + 1 + 1) 1 0 ((A + j) % 4294967296) R := (h5.stored 1 0 ((A + j) % 4294967296) R).drew
  have kz : Below w.heap.size w ((((w7.setCell ⟨w.heap.size + 1 + 1 + 1 + 1, 0, none⟩ (.int .i64 1)).setCell ⟨w.heap.size + 1 + 1 + 1 + 1, 1, none⟩ (.int .u32 0)).setCell ⟨w.heap.size + 1 + 1 + 1 + 1, 2, none⟩ (.int .u32 ((A + j) % 4294967296))).setCell ⟨w.heap.size + 1 + 1 + 1 + 1, 3, none⟩ (.int .i64 R)).drew :=
    ((But.of kn [w.heap.size + 1 + 1 + 1 + 1]).stored4 (K := w.heap.size + 1 + 1 + 1 + 1) (by simp) (.int .i64 1) (.int .u32 0) (.int .u32 ((A + j) % 4294967296)) (.int .i64 R)).drew.below (Nat.le_refl _) (by simp; omega)
  obtain ⟨c0, c1, c2, c3, f⟩ := h5
  obtain ⟨g0, g1, g2, g3, g⟩ := n5
  have f0 := f 0
  have f1 := f 1
  have f2 := f 2
  have f3 := f 3
  clear f g kn kx
  go_region
  clear c0 c1 c2 c3 f0 f1 f2 f3 g0 g1 g2 g3 cv5
  generalize ((((w7.setCell ⟨w.heap.size + 1 + 1 + 1 + 1, 0, none⟩ (.int .i64 1)).setCell ⟨w.heap.size + 1 + 1 + 1 + 1, 1, none⟩ (.int .u32 0)).setCell ⟨w.heap.size + 1 + 1 + 1 + 1, 2, none⟩ (.int .u32 ((A + j) % 4294967296))).setCell ⟨w.heap.size + 1 + 1 + 1 + 1, 3, none⟩ (.int .i64 R)).drew = w8 at *
  obtain ⟨d0, d1, d2, d3, -⟩ := hx
  go_wp2_with fail
  exact bodyPost_ret (v := .tuple #[.int .u32 0, fltV 1 0 ((A + j) % 4294967296) R, .bool false]) (by simp [results, Try.results49, go_sem, d0, d1, d2, d3]) rfl ⟨by rw [hR'.out], kz⟩
set_option maxRecDepth 20000 in
theorem Read_yes {B : Nat} {m : Mm} {w : World} (h : PAt w B m) (ok : m.ok) (A : Nat) (hA : A ≤ 4294967295) (n r : Int) (hl : lackL m A (singleL r) (numL n) = none) :
    Calls Try.prog 49 #[mp B, .int .u32 A, .int .i64 n, .int .i64 r] w fun e w' => e = .returned (.tuple #[.int .u32 (readL m A (numL n)), fltV 0 0 0 0, .bool true]) ∧ Below w.heap.size w w' := by
  have hmf : ∀ (fn : Fn) (first cap : Array Value) (w : World), (Instr.makeFunc fn first cap).run Try.prog w = .ok (.func fn first cap) w := fun _ _ _ _ => rfl
  have hB := h.lt
  have k5 := ((((((Below.refl w.heap.size w).alloc (Nat.le_refl _) (.cells #[mp B] 26)).alloc (by simp) (.cells #[.int .u32 A] 23)).alloc (by simp; omega) (.cells #[.int .i64 n] 3)).alloc (by simp; omega) (.cells #[.int .i64 r] 3)).alloc (by simp; omega) (.cells #[.int .i64 0, .int .u32 0, .int .u32 0, .int .i64 0] 32)).alloc (by simp; omega) (.cells #[.int .u32 0] 23)
  have hbx : Boxes ((((((w.alloc (.cells #[mp B] 26)).alloc (.cells #[.int .u32 A] 23)).alloc (.cells #[.int .i64 n] 3)).alloc (.cells #[.int .i64 r] 3)).alloc (.cells #[.int .i64 0, .int .u32 0, .int .u32 0, .int .i64 0] 32)).alloc (.cells #[.int .u32 0] 23)) B w.heap.size (w.heap.size + 1) (w.heap.size + 1 + 1) (w.heap.size + 1 + 1 + 1) m (.int .u32 A) (.int .i64 n) (.int .i64 r) :=
    ⟨(((((h.alloc _).alloc _).alloc _).alloc _).alloc _).alloc _, by simp [go_sem], by simp [go_sem], by simp [go_sem], by simp [go_sem]⟩
  have h4 := (Four.begun ((((w.alloc (.cells #[mp B] 26)).alloc (.cells #[.int .u32 A] 23)).alloc (.cells #[.int .i64 n] 3)).alloc (.cells #[.int .i64 r] 3)) 0 0 0 0 32).but (But.of ((Below.refl (((((w.alloc (.cells #[mp B] 26)).alloc (.cells #[.int .u32 A] 23)).alloc (.cells #[.int .i64 n] 3)).alloc (.cells #[.int .i64 r] 3)).alloc (.cells #[.int .i64 0, .int .u32 0, .int .u32 0, .int .i64 0] 32)).heap.size (((((w.alloc (.cells #[mp B] 26)).alloc (.cells #[.int .u32 A] 23)).alloc (.cells #[.int .i64 n] 3)).alloc (.cells #[.int .i64 r] 3)).alloc (.cells #[.int .i64 0, .int .u32 0, .int .u32 0, .int .i64 0] 32))).alloc (Nat.le_refl _) (.cells #[.int .u32 0] 23)) []) (by simp) (by simp)
  have cv : ((((((w.alloc (.cells #[mp B] 26)).alloc (.cells #[.int .u32 A] 23)).alloc (.cells #[.int .i64 n] 3)).alloc (.cells #[.int .i64 r] 3)).alloc (.cells #[.int .i64 0, .int .u32 0, .int .u32 0, .int .i64 0] 32)).alloc (.cells #[.int .u32 0] 23)).cell? ⟨w.heap.size + 1 + 1 + 1 + 1 + 1, 0, none⟩ = some (.int .u32 0) := by simp [go_sem]
  have fv : ((((((w.alloc (.cells #[mp B] 26)).alloc (.cells #[.int .u32 A] 23)).alloc (.cells #[.int .i64 n] 3)).alloc (.cells #[.int .i64 r] 3)).alloc (.cells #[.int .i64 0, .int .u32 0, .int .u32 0, .int .i64 0] 32)).alloc (.cells #[.int .u32 0] 23)).frozen? ⟨w.heap.size + 1 + 1 + 1 + 1 + 1, 0, none⟩ = false := by simp [go_sem]
  have s5 : ((((((w.alloc (.cells #[mp B] 26)).alloc (.cells #[.int .u32 A] 23)).alloc (.cells #[.int .i64 n] 3)).alloc (.cells #[.int .i64 r] 3)).alloc (.cells #[.int .i64 0, .int .u32 0, .int .u32 0, .int .i64 0] 32)).alloc (.cells #[.int .u32 0] 23)).heap.size = w.heap.size + 6 := by simp
  go_enter Try.func49, Try.ntmps49
  go_wp2_with fail
  have e4 : ((((w.alloc (.cells #[mp B] 26)).alloc (.cells #[.int .u32 A] 23)).alloc (.cells #[.int .i64 n] 3)).alloc (.cells #[.int .i64 r] 3)).heap.size = w.heap.size + 1 + 1 + 1 + 1 := by simp
  rw [e4] at h4
  clear e4
  generalize ((((((w.alloc (.cells #[mp B] 26)).alloc (.cells #[.int .u32 A] 23)).alloc (.cells #[.int .i64 n] 3)).alloc (.cells #[.int .i64 r] 3)).alloc (.cells #[.int .i64 0, .int .u32 0, .int .u32 0, .int .i64 0] 32)).alloc (.cells #[.int .u32 0] 23)) = w5 at *
  refine (triedR_yes _ [w.heap.size + 1 + 1 + 1 + 1 + 1] (fun W => W.cell? ⟨w.heap.size + 1 + 1 + 1 + 1 + 1, 0, none⟩ = some (.int .u32 (readL m A (numL n)))) (by simp; omega) (fun W W' hr hb => (hb.cell (p := ⟨w.heap.size + 1 + 1 + 1 + 1 + 1, 0, none⟩) (show w.heap.size + 1 + 1 + 1 + 1 + 1 < w5.heap.size by omega)).trans hr)
    (fun W hW => (read1_yes ok A hA n r (hbx.below hW (by omega) (by omega) (by omega) (by omega) (by omega)) hl (by omega) ((hW.cell (p := ⟨w.heap.size + 1 + 1 + 1 + 1 + 1, 0, none⟩) (show w.heap.size + 1 + 1 + 1 + 1 + 1 < w5.heap.size by omega)).trans cv) ((hW.frozen (p := ⟨w.heap.size + 1 + 1 + 1 + 1 + 1, 0, none⟩) (show w.heap.size + 1 + 1 + 1 + 1 + 1 < w5.heap.size by omega)).trans fv)).mono fun e w' hh => ⟨hh.1, hh.2.1, hh.2.2⟩)).mono ?_
  rintro e w6 ⟨rfl, cv2, k6⟩
  replace h4 := h4.but k6 (by omega) (by simp)
  clear cv
  have cv := cv2
  clear cv2
  have kx := k5.trans (k6.below (show w.heap.size ≤ w5.heap.size by omega) (by simp; omega))
  generalize hR : readL m A (numL n) = rd at *
  have hR' := hid hR
  clear hR
  have s6 := kx.size
  have z4 := size_of_cell h4.c0
  have zv := size_of_cell cv
  have h5 := h4.but (But.of ((Below.refl w6.heap.size w6).alloc (Nat.le_refl _) (.cells #[.int .i64 0, .int .u32 0, .int .u32 0, .int .i64 0] 32)) []) z4 (by simp)
  have cv5 := up_cell cv (.cells #[.int .i64 0, .int .u32 0, .int .u32 0, .int .i64 0] 32)
  have n5 := Four.begun w6 0 0 0 0 32
  have kn := kx.alloc (by omega) (.cells #[.int .i64 0, .int .u32 0, .int .u32 0, .int .i64 0] 32)
  clear hmf k5 k6 hbx hl h4 cv fv
  go_wp2_with fail
  generalize w6.alloc (.cells #[.int .i64 0, .int .u32 0, .int .u32 0, .int .i64 0] 32) = w7 at *
  have hx : Four ((((w7.setCell ⟨w.heap.size + 1 + 1 + 1 + 1, 0, none⟩ (.int .i64 0)).setCell ⟨w.heap.size + 1 + 1 + 1 + 1, 1, none⟩ (.int .u32 0)).setCell ⟨w.heap.size + 1 + 1 + 1 + 1, 2, none⟩ (.int .u32 0)).setCell ⟨w.heap.size + 1 + 1 + 1 + 1, 3, none⟩ (.int .i64 0)).drew (w.heap.size + 1 + 1 + 1 + 1) 0 0 0 0 := (h5.stored 0 0 0 0).drew
  have kz : Below w.heap.size w ((((w7.setCell ⟨w.heap.size + 1 + 1 + 1 + 1, 0, none⟩ (.int .i64 0)).setCell ⟨w.heap.size + 1 + 1 + 1 + 1, 1, none⟩ (.int .u32 0)).setCell ⟨w.heap.size + 1 + 1 + 1 + 1, 2, none⟩ (.int .u32 0)).setCell ⟨w.heap.size + 1 + 1 + 1 + 1, 3, none⟩ (.int .i64 0)).drew :=
    ((But.of kn [w.heap.size + 1 + 1 + 1 + 1]).stored4 (K := w.heap.size + 1 + 1 + 1 + 1) (by simp) (.int .i64 0) (.int .u32 0) (.int .u32 0) (.int .i64 0)).drew.below (Nat.le_refl _) (by simp; omega)
  obtain ⟨c0, c1, c2, c3, f⟩ := h5
  obtain ⟨g0, g1, g2, g3, g⟩ := n5
  have f0 := f 0
  have f1 := f 1
  have f2 := f 2
  have f3 := f 3
  clear f g kn kx
  go_region
  clear c0 c1 c2 c3 f0 f1 f2 f3 g0 g1 g2 g3 cv5
  generalize ((((w7.setCell ⟨w.heap.size + 1 + 1 + 1 + 1, 0, none⟩ (.int .i64 0)).setCell ⟨w.heap.size + 1 + 1 + 1 + 1, 1, none⟩ (.int .u32 0)).setCell ⟨w.heap.size + 1 + 1 + 1 + 1, 2, none⟩ (.int .u32 0)).setCell ⟨w.heap.size + 1 + 1 + 1 + 1, 3, none⟩ (.int .i64 0)).drew = w8 at *
  obtain ⟨d0, d1, d2, d3, -⟩ := hx
  go_wp2_with fail
  exact bodyPost_ret (v := .tuple #[.int .u32 rd, fltV 0 0 0 0, .bool true]) (by simp [results, Try.results49, go_sem, d0, d1, d2, d3]) rfl ⟨by rw [hR'.out], kz⟩
end Go.Proofs.Ytmlaancmacipoaa
