import Derived.Test.YtcdoidnfdkodoaaGreatDoorS04
import Derived.Defers
import Derived.Recover
import Derived.Laws.Pointers
namespace Go.Proofs.YtcdoidnfdkodoaaGreatDoor
open Go.RowKit
set_option linter.unusedVariables false
set_option linter.unusedSimpArgs false
set_option linter.unusedSectionVars false
theorem assert_yes (k p a t : Int) (w : World) : (Instr.typeAssert (.iface 42 (fltV k p a t)) 20 42 true).run Tryz.prog w = .ok (.tuple #[fltV k p a t, .bool true]) w := by kernel_rfl
theorem assert_no (w : World) : (Instr.typeAssert .nilIface 20 42 true).run Tryz.prog w = .ok (.tuple #[fltV 0 0 0 0, .bool false]) w := by kernel_rfl
theorem up_cell {w : World} {K i : Nat} {v : Value} (h : w.cell? ⟨K, i, none⟩ = some v) (o : Obj) : (w.alloc o).cell? ⟨K, i, none⟩ = some v := by
  rw [World.cell?_alloc_lt _ _ _ (size_of_cell h)]; exact h
theorem up_fro {w : World} {K i : Nat} {b : Bool} (hK : K < w.heap.size) (h : w.frozen? ⟨K, i, none⟩ = b) (o : Obj) : (w.alloc o).frozen? ⟨K, i, none⟩ = b := by
  rw [← h]; exact Below.frozen ((Below.refl w.heap.size w).alloc (Nat.le_refl _) o) (p := ⟨K, i, none⟩) hK
theorem rep14 : Array.replicate 14 undef = #[undef, undef, undef, undef, undef, undef, undef, undef, undef, undef, undef, undef, undef, undef] := rfl
structure Told (W : World) (K : Nat) (k p a t : Int) (ok : Bool) : Prop where
  c0 : W.cell? ⟨K, 0, none⟩ = some (.int .i64 k)
  c1 : W.cell? ⟨K, 1, none⟩ = some (.int .u32 p)
  c2 : W.cell? ⟨K, 2, none⟩ = some (.int .u32 a)
  c3 : W.cell? ⟨K, 3, none⟩ = some (.int .i64 t)
  f : ∀ i, W.frozen? ⟨K, i, none⟩ = false
  d : W.cell? ⟨K + 1, 0, none⟩ = some (.bool ok)
  g : W.frozen? ⟨K + 1, 0, none⟩ = false
theorem Told.begun (w : World) : Told ((w.alloc (.cells #[.int .i64 0, .int .u32 0, .int .u32 0, .int .i64 0] 42)).alloc (.cells #[.bool false] 4)) w.heap.size 0 0 0 0 false := by
  refine ⟨?_, ?_, ?_, ?_, fun i => ?_, ?_, ?_⟩ <;> simp [go_sem]
theorem Told.below {n : Nat} {W W' : World} {K : Nat} {k p a t : Int} {ok : Bool} (h : Told W K k p a t ok) (b : Below n W W') (hn : K + 1 < n) : Told W' K k p a t ok :=
  ⟨(b.cell (p := ⟨K, 0, none⟩) (show K < n by omega)).trans h.c0, (b.cell (p := ⟨K, 1, none⟩) (show K < n by omega)).trans h.c1, (b.cell (p := ⟨K, 2, none⟩) (show K < n by omega)).trans h.c2, (b.cell (p := ⟨K, 3, none⟩) (show K < n by omega)).trans h.c3,
    fun i => (b.frozen (p := ⟨K, i, none⟩) (show K < n by omega)).trans (h.f i), (b.cell (p := ⟨K + 1, 0, none⟩) hn).trans h.d, (b.frozen (p := ⟨K + 1, 0, none⟩) hn).trans h.g⟩
theorem Told.but {S : List Nat} {W W' : World} {K : Nat} {k p a t : Int} {ok : Bool} (h : Told W K k p a t ok) (b : But S W.heap.size W W') (hS : ∀ k, k ∈ S → k < K) : Told W' K k p a t ok := by
  have hz := size_of_cell h.d
  have h0 : W'.heap[K]? = W.heap[K]? := b.block K (by omega) (fun hm => by have := hS _ hm; omega)
  have h1 : W'.heap[K + 1]? = W.heap[K + 1]? := b.block (K + 1) (by omega) (fun hm => by have := hS _ hm; omega)
  obtain ⟨c0, c1, c2, c3, f, d, g⟩ := h
  refine ⟨?_, ?_, ?_, ?_, fun i => ?_, ?_, ?_⟩
  · simp only [World.cell?, h0] at c0 ⊢; exact c0
  · simp only [World.cell?, h0] at c1 ⊢; exact c1
  · simp only [World.cell?, h0] at c2 ⊢; exact c2
  · simp only [World.cell?, h0] at c3 ⊢; exact c3
  · have := f i; simp only [World.frozen?, h0] at this ⊢; exact this
  · simp only [World.cell?, h1] at d ⊢; exact d
  · simp only [World.frozen?, h1] at g ⊢; exact g
theorem Told.alloc {W : World} {K : Nat} {k p a t : Int} {ok : Bool} (h : Told W K k p a t ok) (o : Obj) : Told (W.alloc o) K k p a t ok :=
  h.below ((Below.refl W.heap.size W).alloc (Nat.le_refl _) o) (size_of_cell h.d)
theorem Told.stored {W : World} {K : Nat} {k' p' a' t' : Int} {ok' : Bool} (h : Told W K k' p' a' t' ok') (k p a t : Int) (ok : Bool) :
    Told (((((W.setCell ⟨K, 0, none⟩ (.int .i64 k)).setCell ⟨K, 1, none⟩ (.int .u32 p)).setCell ⟨K, 2, none⟩ (.int .u32 a)).setCell ⟨K, 3, none⟩ (.int .i64 t)).setCell ⟨K + 1, 0, none⟩ (.bool ok)) K k p a t ok := by
  obtain ⟨c0, c1, c2, c3, f, d, g⟩ := h
  refine ⟨?_, ?_, ?_, ?_, fun i => ?_, ?_, ?_⟩ <;> simp [go_sem, c0, c1, c2, c3, f, d, g]
theorem But.stored {S : List Nat} {n : Nat} {w0 W : World} {K : Nat} (h : But S n w0 W) (hK : K ∈ S) (hL : K + 1 ∈ S) (k p a t ok : Value) :
    But S n w0 (((((W.setCell ⟨K, 0, none⟩ k).setCell ⟨K, 1, none⟩ p).setCell ⟨K, 2, none⟩ a).setCell ⟨K, 3, none⟩ t).setCell ⟨K + 1, 0, none⟩ ok) :=
  ((((h.setCell (p := ⟨K, 0, none⟩) hK _).setCell (p := ⟨K, 1, none⟩) hK _).setCell (p := ⟨K, 2, none⟩) hK _).setCell (p := ⟨K, 3, none⟩) hK _).setCell (p := ⟨K + 1, 0, none⟩) hL _
set_option maxRecDepth 20000 in
/-- What is deferred, where there is a fault. -/
theorem catch_flt {K : Nat} {w : World} (k p a t : Int) {k' p' a' t' : Int} {ok' : Bool} (h : Told w K k' p' a' t' ok') (older : List PanicEntry) :
    CallsD Tryz.prog 99 #[cp K, cp (K + 1)] (.panicking ({ v := .iface 42 (fltV k p a t), recovered := false } :: older)) w fun e u' w' =>
      e = .returned (.tuple #[]) ∧ u' = .panicking ({ v := .iface 42 (fltV k p a t), recovered := true } :: older) ∧
      Told w' K k p a t false ∧ But [K, K + 1] w.heap.size w w' := by
  have hay := assert_yes k p a t
  have hz := size_of_cell h.d
  have hT := (h.alloc (.cells #[.int .i64 k, .int .u32 p, .int .u32 a, .int .i64 t] 42)).stored k p a t false
  have kT := ((But.refl [K, K + 1] w.heap.size w).alloc (Nat.le_refl _) (.cells #[.int .i64 k, .int .u32 p, .int .u32 a, .int .i64 t] 42)).stored (K := K) (by simp) (by simp) (.int .i64 k) (.int .u32 p) (.int .u32 a) (.int .i64 t) (.bool false)
  obtain ⟨c0, c1, c2, c3, f, d, g⟩ := h
  have f0 := up_fro (show K < w.heap.size by omega) (f 0)
  have f1 := up_fro (show K < w.heap.size by omega) (f 1)
  have f2 := up_fro (show K < w.heap.size by omega) (f 2)
  have f3 := up_fro (show K < w.heap.size by omega) (f 3)
  have kc0 := up_cell c0
  have kc1 := up_cell c1
  have kc2 := up_cell c2
  have kc3 := up_cell c3
  have kd := up_cell d
  have kg := up_fro hz g
  refine callsD_of_wpS Tryz.func99 rfl fun c₀ cs hu => ?_
  apply wpS_seq
  apply wpS_region
  simp [wpOpsS, go_sem, recoverD, hu, Tryz.ntmps99, Exit.thenS, rep14]
  refine wpS_of_wp ?_
  go_wp2_with fail
  generalize ((((((w.alloc (.cells #[.int .i64 k, .int .u32 p, .int .u32 a, .int .i64 t] 42)).setCell ⟨K, 0, none⟩ (.int .i64 k)).setCell ⟨K, 1, none⟩ (.int .u32 p)).setCell ⟨K, 2, none⟩ (.int .u32 a)).setCell ⟨K, 3, none⟩ (.int .i64 t)).setCell ⟨K + 1, 0, none⟩ (.bool false)) = w' at *
  simp [bodyPostS, results, Tryz.results99, hT, kT]
theorem catch_idle (K : Nat) (w : World) :
    CallsD Tryz.prog 99 #[cp K, cp (K + 1)] .returning w fun e u' w' => e = .returned (.tuple #[]) ∧ u' = .returning ∧ Below w.heap.size w w' := by
  have hay := assert_no
  refine callsD_of_wpS Tryz.func99 rfl fun c₀ cs hu => ?_
  apply wpS_seq
  apply wpS_region
  simp [wpOpsS, go_sem, recoverD, hu, Tryz.ntmps99, Exit.thenS, rep14]
  refine wpS_of_wp ?_
  go_wp2_with fail
  have kx : Below w.heap.size w (w.alloc (.cells #[.int .i64 0, .int .u32 0, .int .u32 0, .int .i64 0] 42)) := (Below.refl _ _).alloc (Nat.le_refl _) _
  simp [bodyPostS, results, Tryz.results99, hu, kx]
  cases c₀
  simp_all
theorem told_run {tm : Array Value} {W : World} {K : Nat} {k p a t : Int} {ok : Bool} (h2 : tm[2]? = some (cp K)) (h3 : tm[3]? = some (cp (K + 1))) (h : Told W K k p a t ok) :
    (results Tryz.f59 tm).run Tryz.prog W = .ok (.tuple #[fltV k p a t, .bool ok]) W := by
  obtain ⟨c0, c1, c2, c3, f, d, g⟩ := h
  simp [results, Tryz.results59, h2, h3, go_sem, c0, c1, c2, c3, d]
abbrev caughtBy (K : Nat) : List Deferred := [{ target := .fn (.func 99) #[cp K, cp (K + 1)], args := #[] }]
theorem tried_caught {K : Nat} {W : World} {k' p' a' t' : Int} {ok' : Bool} {k p a t : Int} (h : Told W K k' p' a' t' ok') {tm : Array Value} (h2 : tm[2]? = some (cp K)) (h3 : tm[3]? = some (cp (K + 1)))
    {R : Ending → World → Prop} (hR : ∀ W', But [K, K + 1] W.heap.size W W' → R (.returned (.tuple #[fltV k p a t, .bool false])) W') :
    Leaves Tryz.prog Tryz.f59 tm R (caughtBy K) (.panicking [{ v := .iface 42 (fltV k p a t), recovered := false }]) W := by
  refine leaves_cons (f := 99) (args := #[cp K, cp (K + 1)]) (by simp) (by simp [go_sem]) ?_
  refine (catch_flt k p a t h []).mono ?_
  rintro e u' W' ⟨rfl, rfl, hx, kx⟩
  exact ⟨_, told_run h2 h3 hx, hR W' kx⟩
theorem tried_left {K : Nat} {W : World} {k p a t : Int} {ok : Bool} (h : Told W K k p a t ok) {tm : Array Value} (h2 : tm[2]? = some (cp K)) (h3 : tm[3]? = some (cp (K + 1)))
    {R : Ending → World → Prop} (hR : ∀ W', Below W.heap.size W W' → R (.returned (.tuple #[fltV k p a t, .bool ok])) W') :
    Leaves Tryz.prog Tryz.f59 tm R (caughtBy K) .returning W := by
  refine leaves_cons (f := 99) (args := #[cp K, cp (K + 1)]) (by simp) (by simp [go_sem]) ?_
  refine (catch_idle K W).mono ?_
  rintro e u' W' ⟨rfl, rfl, bx⟩
  exact ⟨_, told_run h2 h3 (h.below bx (size_of_cell h.d)), hR W' bx⟩
set_option maxRecDepth 20000 in
/-- tried: bytes read. -/
theorem triedR_yes (cap : Array Value) {w : World} (S : List Nat) (R : World → Prop) (hS : ∀ k, k ∈ S → k < w.heap.size) (hR : ∀ W W', R W → Below w.heap.size W W' → R W')
    (h : ∀ W, Below w.heap.size w W → Calls Tryz.prog 188 cap W fun e w' => e = .returned (.tuple #[]) ∧ R w' ∧ But S W.heap.size W w') :
    Calls Tryz.prog 59 #[.func (.func 188) #[] cap] w fun e w' => e = .returned (.tuple #[fltV 0 0 0 0, .bool true]) ∧ R w' ∧ But S w.heap.size w w' := by
  have hmf : ∀ (fn : Fn) (first cap : Array Value) (w : World), (Instr.makeFunc fn first cap).run Tryz.prog w = .ok (.func fn first cap) w := fun _ _ _ _ => rfl
  have hb := Told.begun w
  have k1 := ((Below.refl w.heap.size w).alloc (Nat.le_refl _) (.cells #[.int .i64 0, .int .u32 0, .int .u32 0, .int .i64 0] 42)).alloc (by simp) (.cells #[.bool false] 4)
  have hc := h _ k1
  clear h
  go_enter_defers Tryz.func59, Tryz.ntmps59
  go_wp2_with fail
  generalize ((w.alloc (.cells #[.int .i64 0, .int .u32 0, .int .u32 0, .int .i64 0] 42)).alloc (.cells #[.bool false] 4)) = w1 at *
  refine hc.mono ?_
  rintro e w2 ⟨rfl, hr, k2⟩
  replace hb := hb.but k2 hS
  have z2 := size_of_cell hb.d
  have s1 := k1.size
  have hx := hb.stored 0 0 0 0 true
  have kx := (But.refl [w.heap.size, w.heap.size + 1] w2.heap.size w2).stored (K := w.heap.size) (by simp) (by simp) (.int .i64 0) (.int .u32 0) (.int .u32 0) (.int .i64 0) (.bool true)
  obtain ⟨c0, c1, c2, c3, f, d, g⟩ := hb
  have f0 := f 0
  have f1 := f 1
  have f2 := f 2
  have f3 := f 3
  clear hc f hmf
  go_wp2_with fail
  generalize (((((w2.setCell ⟨w.heap.size, 0, none⟩ (.int .i64 0)).setCell ⟨w.heap.size, 1, none⟩ (.int .u32 0)).setCell ⟨w.heap.size, 2, none⟩ (.int .u32 0)).setCell ⟨w.heap.size, 3, none⟩ (.int .i64 0)).setCell ⟨w.heap.size + 1, 0, none⟩ (.bool true)) = w3 at *
  refine tried_left hx rfl rfl fun W' k3 => ⟨rfl, ?_, ?_⟩
  · exact hR _ _ hr ((kx.below (show w.heap.size ≤ w2.heap.size by omega) (by simp)).trans (k3.mono (by have := kx.size; omega)))
  · exact (But.of k1 S).trans ((k2.mono s1 (fun k hk => .inl hk)).trans (But.of ((kx.below (show w.heap.size ≤ w2.heap.size by omega) (by simp)).trans (k3.mono (by have := kx.size; omega))) S))
set_option maxRecDepth 20000 in
/-- tried: bytes written, a fault. -/
theorem triedW_no (cap : Array Value) {w : World} (k p a t : Int) (h : ∀ W, Below w.heap.size w W → Calls Tryz.prog 60 cap W fun e w' => e = .panicked [{ v := .iface 42 (fltV k p a t), recovered := false }] ∧ Below W.heap.size W w') :
    Calls Tryz.prog 59 #[.func (.func 60) #[] cap] w fun e w' => e = .returned (.tuple #[fltV k p a t, .bool false]) ∧ Below w.heap.size w w' := by
  have hmf : ∀ (fn : Fn) (first cap : Array Value) (w : World), (Instr.makeFunc fn first cap).run Tryz.prog w = .ok (.func fn first cap) w := fun _ _ _ _ => rfl
  have hb := Told.begun w
  have k1 := ((Below.refl w.heap.size w).alloc (Nat.le_refl _) (.cells #[.int .i64 0, .int .u32 0, .int .u32 0, .int .i64 0] 42)).alloc (by simp) (.cells #[.bool false] 4)
  have hc := h _ k1
  clear h
  go_enter_defers Tryz.func59, Tryz.ntmps59
  go_wp2_with fail
  generalize ((w.alloc (.cells #[.int .i64 0, .int .u32 0, .int .u32 0, .int .i64 0] 42)).alloc (.cells #[.bool false] 4)) = w1 at *
  refine hc.mono ?_
  rintro e w2 ⟨rfl, k2⟩
  have z1 := size_of_cell hb.d
  have s2 := k2.size
  exact tried_caught (hb.below k2 z1) rfl rfl fun W' k3 => ⟨rfl, k1.trans ((k2.mono k1.size).trans (k3.below (by omega) (by simp)))⟩
set_option maxRecDepth 20000 in
/-- tried: bytes written. -/
theorem triedW_yes (cap : Array Value) {w : World} (S : List Nat) (R : World → Prop) (hS : ∀ k, k ∈ S → k < w.heap.size) (hR : ∀ W W', R W → Below w.heap.size W W' → R W')
    (h : ∀ W, Below w.heap.size w W → Calls Tryz.prog 60 cap W fun e w' => e = .returned (.tuple #[]) ∧ R w' ∧ But S W.heap.size W w') :
    Calls Tryz.prog 59 #[.func (.func 60) #[] cap] w fun e w' => e = .returned (.tuple #[fltV 0 0 0 0, .bool true]) ∧ R w' ∧ But S w.heap.size w w' := by
  have hmf : ∀ (fn : Fn) (first cap : Array Value) (w : World), (Instr.makeFunc fn first cap).run Tryz.prog w = .ok (.func fn first cap) w := fun _ _ _ _ => rfl
  have hb := Told.begun w
  have k1 := ((Below.refl w.heap.size w).alloc (Nat.le_refl _) (.cells #[.int .i64 0, .int .u32 0, .int .u32 0, .int .i64 0] 42)).alloc (by simp) (.cells #[.bool false] 4)
  have hc := h _ k1
  clear h
  go_enter_defers Tryz.func59, Tryz.ntmps59
  go_wp2_with fail
  generalize ((w.alloc (.cells #[.int .i64 0, .int .u32 0, .int .u32 0, .int .i64 0] 42)).alloc (.cells #[.bool false] 4)) = w1 at *
  refine hc.mono ?_
  rintro e w2 ⟨rfl, hr, k2⟩
  replace hb := hb.but k2 hS
  have z2 := size_of_cell hb.d
  have s1 := k1.size
  have hx := hb.stored 0 0 0 0 true
  have kx := (But.refl [w.heap.size, w.heap.size + 1] w2.heap.size w2).stored (K := w.heap.size) (by simp) (by simp) (.int .i64 0) (.int .u32 0) (.int .u32 0) (.int .i64 0) (.bool true)
  obtain ⟨c0, c1, c2, c3, f, d, g⟩ := hb
  have f0 := f 0
  have f1 := f 1
  have f2 := f 2
  have f3 := f 3
  clear hc f hmf
  go_wp2_with fail
  generalize (((((w2.setCell ⟨w.heap.size, 0, none⟩ (.int .i64 0)).setCell ⟨w.heap.size, 1, none⟩ (.int .u32 0)).setCell ⟨w.heap.size, 2, none⟩ (.int .u32 0)).setCell ⟨w.heap.size, 3, none⟩ (.int .i64 0)).setCell ⟨w.heap.size + 1, 0, none⟩ (.bool true)) = w3 at *
  refine tried_left hx rfl rfl fun W' k3 => ⟨rfl, ?_, ?_⟩
  · exact hR _ _ hr ((kx.below (show w.heap.size ≤ w2.heap.size by omega) (by simp)).trans (k3.mono (by have := kx.size; omega)))
  · exact (But.of k1 S).trans ((k2.mono s1 (fun k hk => .inl hk)).trans (But.of ((kx.below (show w.heap.size ≤ w2.heap.size by omega) (by simp)).trans (k3.mono (by have := kx.size; omega))) S))
end Go.Proofs.YtcdoidnfdkodoaaGreatDoor
