import Derived.Test.YtcdoidnfdkodoaaGreatDoorS05
namespace Go.Proofs.YtcdoidnfdkodoaaGreatDoor
open Go.RowKit
set_option linter.unusedVariables false
set_option linter.unusedSimpArgs false
set_option linter.unusedSectionVars false
theorem Boxes.below {w w' : World} {B K0 K1 K2 K3 n : Nat} {m : Mm} {v1 v2 v3 : Value} (b : Boxes w B K0 K1 K2 K3 m v1 v2 v3) (k : Below n w w') (hB : B < n) (h0 : K0 < n) (h1 : K1 < n) (h2 : K2 < n) (h3 : K3 < n) : Boxes w' B K0 K1 K2 K3 m v1 v2 v3 :=
  ⟨b.h.below k hB, (k.cell (p := ⟨K0, 0, none⟩) h0).trans b.c0, (k.cell (p := ⟨K1, 0, none⟩) h1).trans b.c1, (k.cell (p := ⟨K2, 0, none⟩) h2).trans b.c2, (k.cell (p := ⟨K3, 0, none⟩) h3).trans b.c3⟩
structure Four (W : World) (K : Nat) (k p a t : Int) : Prop where
  c0 : W.cell? ⟨K, 0, none⟩ = some (.int .i64 k)
  c1 : W.cell? ⟨K, 1, none⟩ = some (.int .u32 p)
  c2 : W.cell? ⟨K, 2, none⟩ = some (.int .u32 a)
  c3 : W.cell? ⟨K, 3, none⟩ = some (.int .i64 t)
  f : ∀ i, W.frozen? ⟨K, i, none⟩ = false
theorem Four.begun (w : World) (k p a t : Int) (T : TypeId) : Four (w.alloc (.cells #[.int .i64 k, .int .u32 p, .int .u32 a, .int .i64 t] T)) w.heap.size k p a t := by
  refine ⟨?_, ?_, ?_, ?_, fun i => ?_⟩ <;> simp [go_sem]
theorem Four.but {S : List Nat} {W W' : World} {n K : Nat} {k p a t : Int} (h : Four W K k p a t) (b : But S n W W') (hn : K < n) (hS : K ∉ S) : Four W' K k p a t := by
  have h0 : W'.heap[K]? = W.heap[K]? := b.block K hn hS
  obtain ⟨c0, c1, c2, c3, f⟩ := h
  refine ⟨?_, ?_, ?_, ?_, fun i => ?_⟩
  · simp only [World.cell?, h0] at c0 ⊢; exact c0
  · simp only [World.cell?, h0] at c1 ⊢; exact c1
  · simp only [World.cell?, h0] at c2 ⊢; exact c2
  · simp only [World.cell?, h0] at c3 ⊢; exact c3
  · have := f i; simp only [World.frozen?, h0] at this ⊢; exact this
theorem Four.stored {W : World} {K : Nat} {k' p' a' t' : Int} (h : Four W K k' p' a' t') (k p a t : Int) :
    Four ((((W.setCell ⟨K, 0, none⟩ (.int .i64 k)).setCell ⟨K, 1, none⟩ (.int .u32 p)).setCell ⟨K, 2, none⟩ (.int .u32 a)).setCell ⟨K, 3, none⟩ (.int .i64 t)) K k p a t := by
  obtain ⟨c0, c1, c2, c3, f⟩ := h
  refine ⟨?_, ?_, ?_, ?_, fun i => ?_⟩ <;> simp [go_sem, c0, c1, c2, c3, f]
theorem Four.drew {W : World} {K : Nat} {k p a t : Int} (h : Four W K k p a t) : Four W.drew K k p a t := ⟨h.c0, h.c1, h.c2, h.c3, h.f⟩
theorem But.stored4 {S : List Nat} {n : Nat} {w0 W : World} {K : Nat} (h : But S n w0 W) (hK : K ∈ S) (k p a t : Value) :
    But S n w0 ((((W.setCell ⟨K, 0, none⟩ k).setCell ⟨K, 1, none⟩ p).setCell ⟨K, 2, none⟩ a).setCell ⟨K, 3, none⟩ t) :=
  (((h.setCell (p := ⟨K, 0, none⟩) hK _).setCell (p := ⟨K, 1, none⟩) hK _).setCell (p := ⟨K, 2, none⟩) hK _).setCell (p := ⟨K, 3, none⟩) hK _
set_option maxRecDepth 20000 in
theorem Write_no {B : Nat} {m : Mm} {w : World} (h : PAt w B m) (ok : m.ok) (A j : Nat) (hA : A ≤ 4294967295) (n v : Int) (hl : lackL m A 2 (numL n) = some j) :
    Calls Tryz.prog 30 #[mp B, .int .u32 A, .int .i64 n, .int .u32 v] w fun e w' => e = .returned (.tuple #[fltV 1 0 ((A + j) % 4294967296) 2, .bool false]) ∧ Below w.heap.size w w' := by
  have hmf : ∀ (fn : Fn) (first cap : Array Value) (w : World), (Instr.makeFunc fn first cap).run Tryz.prog w = .ok (.func fn first cap) w := fun _ _ _ _ => rfl
  have hB := h.lt
  have k5 := (((((Below.refl w.heap.size w).alloc (Nat.le_refl _) (.cells #[mp B] 35)).alloc (by simp) (.cells #[.int .u32 A] 23)).alloc (by simp; omega) (.cells #[.int .i64 n] 3)).alloc (by simp; omega) (.cells #[.int .u32 v] 23)).alloc (by simp; omega) (.cells #[.int .i64 0, .int .u32 0, .int .u32 0, .int .i64 0] 42)
  have hbx : Boxes (((((w.alloc (.cells #[mp B] 35)).alloc (.cells #[.int .u32 A] 23)).alloc (.cells #[.int .i64 n] 3)).alloc (.cells #[.int .u32 v] 23)).alloc (.cells #[.int .i64 0, .int .u32 0, .int .u32 0, .int .i64 0] 42)) B w.heap.size (w.heap.size + 1) (w.heap.size + 1 + 1) (w.heap.size + 1 + 1 + 1) m (.int .u32 A) (.int .i64 n) (.int .u32 v) :=
    ⟨((((h.alloc _).alloc _).alloc _).alloc _).alloc _, by simp [go_sem], by simp [go_sem], by simp [go_sem], by simp [go_sem]⟩
  have h4 := Four.begun ((((w.alloc (.cells #[mp B] 35)).alloc (.cells #[.int .u32 A] 23)).alloc (.cells #[.int .i64 n] 3)).alloc (.cells #[.int .u32 v] 23)) 0 0 0 0 42
  have s5 : (((((w.alloc (.cells #[mp B] 35)).alloc (.cells #[.int .u32 A] 23)).alloc (.cells #[.int .i64 n] 3)).alloc (.cells #[.int .u32 v] 23)).alloc (.cells #[.int .i64 0, .int .u32 0, .int .u32 0, .int .i64 0] 42)).heap.size = w.heap.size + 5 := by simp
  go_enter Tryz.func30, Tryz.ntmps30
  go_wp2_with fail
  have e4 : ((((w.alloc (.cells #[mp B] 35)).alloc (.cells #[.int .u32 A] 23)).alloc (.cells #[.int .i64 n] 3)).alloc (.cells #[.int .u32 v] 23)).heap.size = w.heap.size + 1 + 1 + 1 + 1 := by simp
  rw [e4] at h4
  clear e4
  generalize (((((w.alloc (.cells #[mp B] 35)).alloc (.cells #[.int .u32 A] 23)).alloc (.cells #[.int .i64 n] 3)).alloc (.cells #[.int .u32 v] 23)).alloc (.cells #[.int .i64 0, .int .u32 0, .int .u32 0, .int .i64 0] 42)) = w5 at *
  refine (triedW_no _ 1 0 ((A + j) % 4294967296) 2 (fun W hW => write1_no ok A j hA n v (hbx.below hW (by omega) (by omega) (by omega) (by omega) (by omega)) hl)).mono ?_
  rintro e w6 ⟨rfl, k6⟩
  replace h4 := h4.but (But.of k6 []) (by omega) (by simp)
  have hx := h4.stored 1 0 ((A + j) % 4294967296) 2
  have kx := (But.of (k5.trans (k6.mono (by omega))) [w.heap.size + 1 + 1 + 1 + 1]).stored4 (K := w.heap.size + 1 + 1 + 1 + 1) (by simp) (.int .i64 1) (.int .u32 0) (.int .u32 ((A + j) % 4294967296)) (.int .i64 2)
  obtain ⟨c0, c1, c2, c3, f⟩ := h4
  have f0 := f 0
  have f1 := f 1
  have f2 := f 2
  have f3 := f 3
  clear f hl hmf k5 k6 hbx
  go_wp2_with fail
  clear c0 c1 c2 c3 f0 f1 f2 f3
  generalize ((((w6.setCell ⟨w.heap.size + 1 + 1 + 1 + 1, 0, none⟩ (.int .i64 1)).setCell ⟨w.heap.size + 1 + 1 + 1 + 1, 1, none⟩ (.int .u32 0)).setCell ⟨w.heap.size + 1 + 1 + 1 + 1, 2, none⟩ (.int .u32 ((A + j) % 4294967296))).setCell ⟨w.heap.size + 1 + 1 + 1 + 1, 3, none⟩ (.int .i64 2)) = w7 at *
  obtain ⟨d0, d1, d2, d3, -⟩ := hx
  exact bodyPost_ret (v := .tuple #[fltV 1 0 ((A + j) % 4294967296) 2, .bool false]) (by simp [results, Tryz.results30, go_sem, d0, d1, d2, d3]) rfl ⟨rfl, kx.below (Nat.le_refl _) (by simp; omega)⟩
set_option maxRecDepth 20000 in
theorem Write_yes {B : Nat} {m : Mm} {w : World} (h : PAt w B m) (ok : m.ok) (A : Nat) (hA : A ≤ 4294967295) (n v : Int) (hv : 0 ≤ v ∧ v ≤ 4294967295) (hl : lackL m A 2 (numL n) = none) :
    Calls Tryz.prog 30 #[mp B, .int .u32 A, .int .i64 n, .int .u32 v] w fun e w' => e = .returned (.tuple #[fltV 0 0 0 0, .bool true]) ∧ PAt w' B (wroteS m A n v) ∧ But [B] w.heap.size w w' := by
  have hmf : ∀ (fn : Fn) (first cap : Array Value) (w : World), (Instr.makeFunc fn first cap).run Tryz.prog w = .ok (.func fn first cap) w := fun _ _ _ _ => rfl
  have hB := h.lt
  have k5 := (((((Below.refl w.heap.size w).alloc (Nat.le_refl _) (.cells #[mp B] 35)).alloc (by simp) (.cells #[.int .u32 A] 23)).alloc (by simp; omega) (.cells #[.int .i64 n] 3)).alloc (by simp; omega) (.cells #[.int .u32 v] 23)).alloc (by simp; omega) (.cells #[.int .i64 0, .int .u32 0, .int .u32 0, .int .i64 0] 42)
  have hbx : Boxes (((((w.alloc (.cells #[mp B] 35)).alloc (.cells #[.int .u32 A] 23)).alloc (.cells #[.int .i64 n] 3)).alloc (.cells #[.int .u32 v] 23)).alloc (.cells #[.int .i64 0, .int .u32 0, .int .u32 0, .int .i64 0] 42)) B w.heap.size (w.heap.size + 1) (w.heap.size + 1 + 1) (w.heap.size + 1 + 1 + 1) m (.int .u32 A) (.int .i64 n) (.int .u32 v) :=
    ⟨((((h.alloc _).alloc _).alloc _).alloc _).alloc _, by simp [go_sem], by simp [go_sem], by simp [go_sem], by simp [go_sem]⟩
  have h4 := Four.begun ((((w.alloc (.cells #[mp B] 35)).alloc (.cells #[.int .u32 A] 23)).alloc (.cells #[.int .i64 n] 3)).alloc (.cells #[.int .u32 v] 23)) 0 0 0 0 42
  have s5 : (((((w.alloc (.cells #[mp B] 35)).alloc (.cells #[.int .u32 A] 23)).alloc (.cells #[.int .i64 n] 3)).alloc (.cells #[.int .u32 v] 23)).alloc (.cells #[.int .i64 0, .int .u32 0, .int .u32 0, .int .i64 0] 42)).heap.size = w.heap.size + 5 := by simp
  go_enter Tryz.func30, Tryz.ntmps30
  go_wp2_with fail
  have e4 : ((((w.alloc (.cells #[mp B] 35)).alloc (.cells #[.int .u32 A] 23)).alloc (.cells #[.int .i64 n] 3)).alloc (.cells #[.int .u32 v] 23)).heap.size = w.heap.size + 1 + 1 + 1 + 1 := by simp
  rw [e4] at h4
  clear e4
  generalize (((((w.alloc (.cells #[mp B] 35)).alloc (.cells #[.int .u32 A] 23)).alloc (.cells #[.int .i64 n] 3)).alloc (.cells #[.int .u32 v] 23)).alloc (.cells #[.int .i64 0, .int .u32 0, .int .u32 0, .int .i64 0] 42)) = w5 at *
  refine (triedW_yes _ [B] (fun W => PAt W B (wroteS m A n v)) (by simp; omega) (fun W W' hr hb => hr.below hb (by omega)) (fun W hW => write1_yes ok A hA n v hv (hbx.below hW (by omega) (by omega) (by omega) (by omega) (by omega)) hl (by omega))).mono ?_
  rintro e w6 ⟨rfl, hp, k6⟩
  replace h4 := h4.but k6 (by omega) (by simp; omega)
  have hx := h4.stored 0 0 0 0
  have z6 := k6.size
  have hp' : PAt ((((w6.setCell ⟨w.heap.size + 1 + 1 + 1 + 1, 0, none⟩ (.int .i64 0)).setCell ⟨w.heap.size + 1 + 1 + 1 + 1, 1, none⟩ (.int .u32 0)).setCell ⟨w.heap.size + 1 + 1 + 1 + 1, 2, none⟩ (.int .u32 0)).setCell ⟨w.heap.size + 1 + 1 + 1 + 1, 3, none⟩ (.int .i64 0)) B (wroteS m A n v) := (((hp.other (by omega)).other (by omega)).other (by omega)).other (by omega)
  have kx := ((But.of k5 [B]).trans (k6.mono (by omega) (fun k hk => .inl hk))).mono (S' := [B, w.heap.size + 1 + 1 + 1 + 1]) (Nat.le_refl _) (fun k hk => .inl (by simp at hk ⊢; omega))
  replace kx := kx.stored4 (K := w.heap.size + 1 + 1 + 1 + 1) (by simp) (.int .i64 0) (.int .u32 0) (.int .u32 0) (.int .i64 0)
  replace kx := kx.mono (S' := [B]) (Nat.le_refl _) (fun k hk => by simp at hk ⊢; omega)
  obtain ⟨c0, c1, c2, c3, f⟩ := h4
  have f0 := f 0
  have f1 := f 1
  have f2 := f 2
  have f3 := f 3
  clear f hl hmf k5 k6 hbx
  go_wp2_with fail
  clear c0 c1 c2 c3 f0 f1 f2 f3
  generalize ((((w6.setCell ⟨w.heap.size + 1 + 1 + 1 + 1, 0, none⟩ (.int .i64 0)).setCell ⟨w.heap.size + 1 + 1 + 1 + 1, 1, none⟩ (.int .u32 0)).setCell ⟨w.heap.size + 1 + 1 + 1 + 1, 2, none⟩ (.int .u32 0)).setCell ⟨w.heap.size + 1 + 1 + 1 + 1, 3, none⟩ (.int .i64 0)) = w7 at *
  obtain ⟨d0, d1, d2, d3, -⟩ := hx
  exact bodyPost_ret (v := .tuple #[fltV 0 0 0 0, .bool true]) (by simp [results, Tryz.results30, go_sem, d0, d1, d2, d3]) rfl ⟨rfl, hp', kx⟩
end Go.Proofs.YtcdoidnfdkodoaaGreatDoor
namespace Go.Proofs.YtcdoidnfdkodoaaGreatDoor
open Go.RowKit
set_option linter.unusedVariables false
set_option linter.unusedSimpArgs false
set_option linter.unusedSectionVars false
set_option maxRecDepth 20000 in
theorem Read_yes {B : Nat} {m : Mm} {w : World} (h : PAt w B m) (ok : m.ok) (A : Nat) (hA : A ≤ 4294967295) (n r : Int) (hl : lackL m A (singleL r) (numL n) = none) :
    Calls Tryz.prog 140 #[mp B, .int .u32 A, .int .i64 n, .int .i64 r] w fun e w' => e = .returned (.tuple #[.int .u32 (readL m A (numL n)), fltV 0 0 0 0, .bool true]) ∧ Below w.heap.size w w' := by
  have hmf : ∀ (fn : Fn) (first cap : Array Value) (w : World), (Instr.makeFunc fn first cap).run Tryz.prog w = .ok (.func fn first cap) w := fun _ _ _ _ => rfl
  have hB := h.lt
  have k5 := ((((((Below.refl w.heap.size w).alloc (Nat.le_refl _) (.cells #[mp B] 35)).alloc (by simp) (.cells #[.int .u32 A] 23)).alloc (by simp; omega) (.cells #[.int .i64 n] 3)).alloc (by simp; omega) (.cells #[.int .i64 r] 3)).alloc (by simp; omega) (.cells #[.int .i64 0, .int .u32 0, .int .u32 0, .int .i64 0] 42)).alloc (by simp; omega) (.cells #[.int .u32 0] 23)
  have hbx : Boxes ((((((w.alloc (.cells #[mp B] 35)).alloc (.cells #[.int .u32 A] 23)).alloc (.cells #[.int .i64 n] 3)).alloc (.cells #[.int .i64 r] 3)).alloc (.cells #[.int .i64 0, .int .u32 0, .int .u32 0, .int .i64 0] 42)).alloc (.cells #[.int .u32 0] 23)) B w.heap.size (w.heap.size + 1) (w.heap.size + 1 + 1) (w.heap.size + 1 + 1 + 1) m (.int .u32 A) (.int .i64 n) (.int .i64 r) :=
    ⟨(((((h.alloc _).alloc _).alloc _).alloc _).alloc _).alloc _, by simp [go_sem], by simp [go_sem], by simp [go_sem], by simp [go_sem]⟩
  have h4 := (Four.begun ((((w.alloc (.cells #[mp B] 35)).alloc (.cells #[.int .u32 A] 23)).alloc (.cells #[.int .i64 n] 3)).alloc (.cells #[.int .i64 r] 3)) 0 0 0 0 42).but (But.of ((Below.refl (((((w.alloc (.cells #[mp B] 35)).alloc (.cells #[.int .u32 A] 23)).alloc (.cells #[.int .i64 n] 3)).alloc (.cells #[.int .i64 r] 3)).alloc (.cells #[.int .i64 0, .int .u32 0, .int .u32 0, .int .i64 0] 42)).heap.size (((((w.alloc (.cells #[mp B] 35)).alloc (.cells #[.int .u32 A] 23)).alloc (.cells #[.int .i64 n] 3)).alloc (.cells #[.int .i64 r] 3)).alloc (.cells #[.int .i64 0, .int .u32 0, .int .u32 0, .int .i64 0] 42))).alloc (Nat.le_refl _) (.cells #[.int .u32 0] 23)) []) (by simp) (by simp)
  have cv : ((((((w.alloc (.cells #[mp B] 35)).alloc (.cells #[.int .u32 A] 23)).alloc (.cells #[.int .i64 n] 3)).alloc (.cells #[.int .i64 r] 3)).alloc (.cells #[.int .i64 0, .int .u32 0, .int .u32 0, .int .i64 0] 42)).alloc (.cells #[.int .u32 0] 23)).cell? ⟨w.heap.size + 1 + 1 + 1 + 1 + 1, 0, none⟩ = some (.int .u32 0) := by simp [go_sem]
  have fv : ((((((w.alloc (.cells #[mp B] 35)).alloc (.cells #[.int .u32 A] 23)).alloc (.cells #[.int .i64 n] 3)).alloc (.cells #[.int .i64 r] 3)).alloc (.cells #[.int .i64 0, .int .u32 0, .int .u32 0, .int .i64 0] 42)).alloc (.cells #[.int .u32 0] 23)).frozen? ⟨w.heap.size + 1 + 1 + 1 + 1 + 1, 0, none⟩ = false := by simp [go_sem]
  have s5 : ((((((w.alloc (.cells #[mp B] 35)).alloc (.cells #[.int .u32 A] 23)).alloc (.cells #[.int .i64 n] 3)).alloc (.cells #[.int .i64 r] 3)).alloc (.cells #[.int .i64 0, .int .u32 0, .int .u32 0, .int .i64 0] 42)).alloc (.cells #[.int .u32 0] 23)).heap.size = w.heap.size + 6 := by simp
  go_enter Tryz.func140, Tryz.ntmps140
  go_wp2_with fail
  have e4 : ((((w.alloc (.cells #[mp B] 35)).alloc (.cells #[.int .u32 A] 23)).alloc (.cells #[.int .i64 n] 3)).alloc (.cells #[.int .i64 r] 3)).heap.size = w.heap.size + 1 + 1 + 1 + 1 := by simp
  rw [e4] at h4
  clear e4
  generalize ((((((w.alloc (.cells #[mp B] 35)).alloc (.cells #[.int .u32 A] 23)).alloc (.cells #[.int .i64 n] 3)).alloc (.cells #[.int .i64 r] 3)).alloc (.cells #[.int .i64 0, .int .u32 0, .int .u32 0, .int .i64 0] 42)).alloc (.cells #[.int .u32 0] 23)) = w5 at *
  refine (triedR_yes _ [w.heap.size + 1 + 1 + 1 + 1 + 1] (fun W => W.cell? ⟨w.heap.size + 1 + 1 + 1 + 1 + 1, 0, none⟩ = some (.int .u32 (readL m A (numL n)))) (by simp; omega) (fun W W' hr hb => (hb.cell (p := ⟨w.heap.size + 1 + 1 + 1 + 1 + 1, 0, none⟩) (show w.heap.size + 1 + 1 + 1 + 1 + 1 < w5.heap.size by omega)).trans hr)
    (fun W hW => (read1_yes ok A hA n r (hbx.below hW (by omega) (by omega) (by omega) (by omega) (by omega)) hl (by omega) ((hW.cell (p := ⟨w.heap.size + 1 + 1 + 1 + 1 + 1, 0, none⟩) (show w.heap.size + 1 + 1 + 1 + 1 + 1 < w5.heap.size by omega)).trans cv) ((hW.frozen (p := ⟨w.heap.size + 1 + 1 + 1 + 1 + 1, 0, none⟩) (show w.heap.size + 1 + 1 + 1 + 1 + 1 < w5.heap.size by omega)).trans fv)).mono fun e w' hh => ⟨hh.1, hh.2.1, hh.2.2⟩)).mono ?_
  rintro e w6 ⟨rfl, cv2, k6⟩
  replace h4 := h4.but k6 (by omega) (by simp)
  clear cv
  have cv := cv2
  clear cv2
  have kx := k5.trans (k6.below (show w.heap.size ≤ w5.heap.size by omega) (by simp; omega))
  generalize hR : readL m A (numL n) = rd at *
  have hR' := hid hR
  clear hR
  have s6 := kx.size
  have z4 := size_of_cell h4.c0
  have zv := size_of_cell cv
  have h5 := h4.but (But.of ((Below.refl w6.heap.size w6).alloc (Nat.le_refl _) (.cells #[.int .i64 0, .int .u32 0, .int .u32 0, .int .i64 0] 42)) []) z4 (by simp)
  have cv5 := up_cell cv (.cells #[.int .i64 0, .int .u32 0, .int .u32 0, .int .i64 0] 42)
  have n5 := Four.begun w6 0 0 0 0 42
  have kn := kx.alloc (by omega) (.cells #[.int .i64 0, .int .u32 0, .int .u32 0, .int .i64 0] 42)
  clear hmf k5 k6 hbx hl h4 cv fv
  go_wp2_with fail
  generalize w6.alloc (.cells #[.int .i64 0, .int .u32 0, .int .u32 0, .int .i64 0] 42) = w7 at *
  have hx : Four ((((w7.setCell ⟨w.heap.size + 1 + 1 + 1 + 1, 0, none⟩ (.int .i64 0)).setCell ⟨w.heap.size + 1 + 1 + 1 + 1, 1, none⟩ (.int .u32 0)).setCell ⟨w.heap.size + 1 + 1 + 1 + 1, 2, none⟩ (.int .u32 0)).setCell ⟨w.heap.size + 1 + 1 + 1 + 1, 3, none⟩ (.int .i64 0)).drew (w.heap.size + 1 + 1 + 1 + 1) 0 0 0 0 := (h5.stored 0 0 0 0).drew
  have kz : Below w.heap.size w ((((w7.setCell ⟨w.heap.size + 1 + 1 + 1 + 1, 0, none⟩ (.int .i64 0)).setCell ⟨w.heap.size + 1 + 1 + 1 + 1, 1, none⟩ (.int .u32 0)).setCell ⟨w.heap.size + 1 + 1 + 1 + 1, 2, none⟩ (.int .u32 0)).setCell ⟨w.heap.size + 1 + 1 + 1 + 1, 3, none⟩ (.int .i64 0)).drew :=
    ((But.of kn [w.heap.size + 1 + 1 + 1 + 1]).stored4 (K := w.heap.size + 1 + 1 + 1 + 1) (by simp) (.int .i64 0) (.int .u32 0) (.int .u32 0) (.int .i64 0)).drew.below (Nat.le_refl _) (by simp; omega)
  obtain ⟨c0, c1, c2, c3, f⟩ := h5
  obtain ⟨g0, g1, g2, g3, g⟩ := n5
  have f0 := f 0
  have f1 := f 1
  have f2 := f 2
  have f3 := f 3
  clear f g kn kx
  go_region
  clear c0 c1 c2 c3 f0 f1 f2 f3 g0 g1 g2 g3 cv5
  generalize ((((w7.setCell ⟨w.heap.size + 1 + 1 + 1 + 1, 0, none⟩ (.int .i64 0)).setCell ⟨w.heap.size + 1 + 1 + 1 + 1, 1, none⟩ (.int .u32 0)).setCell ⟨w.heap.size + 1 + 1 + 1 + 1, 2, none⟩ (.int .u32 0)).setCell ⟨w.heap.size + 1 + 1 + 1 + 1, 3, none⟩ (.int .i64 0)).drew = w8 at *
  obtain ⟨d0, d1, d2, d3, -⟩ := hx
  go_wp2_with fail
  exact bodyPost_ret (v := .tuple #[.int .u32 rd, fltV 0 0 0 0, .bool true]) (by simp [results, Tryz.results140, go_sem, d0, d1, d2, d3]) rfl ⟨by rw [hR'.out], kz⟩
end Go.Proofs.YtcdoidnfdkodoaaGreatDoor
