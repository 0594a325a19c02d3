import Derived.Test.YtcdoidnfdkodoaaGreatDoorS06
import Derived.Lib.Hide
import Derived.Test.YtcdoidnfdkodoaaGreatDoorS00
namespace Go.Proofs.YtcdoidnfdkodoaaGreatDoor
open Go.RowKit
set_option linter.unusedVariables false
set_option linter.unusedSimpArgs false
set_option linter.unusedSectionVars false
def wroteM (m : Mm) (a n v : Int) : Mm := if (lackL m a 2 (numL n)).isNone = true then wroteS m a.toNat n v else m
abbrev U32 (a : Int) : Prop := 0 ≤ a ∧ a ≤ 4294967295
theorem right_in {x r : Int} (hx : 0 ≤ x ∧ x ≤ 7) (hr : r = 1 ∨ r = 2 ∨ r = 4) (h : x / r % 2 ≠ 0) : x ≠ 0 := by
  rintro rfl
  rcases hr with rfl | rfl | rfl <;> simp at h
theorem wroteM_ok {m : Mm} (ok : m.ok) (a : Int) (ha : U32 a) (n v : Int) : (wroteM m a n v).ok := by
  unfold wroteM
  split
  · rename_i h
    have hl := Option.isNone_iff_eq_none.1 h
    have hn := num_bd n
    have he := lack_end ok ha hn.2 hl hn.1
    unfold wroteS
    refine putB_ok ok _ _ (bytesV_bd _ _) fun i hi => ?_
    rw [bytesV_len] at hi
    have := lack_none hl i hi
    unfold lackP at this
    have e : (a + i) % 4294967296 = a + i := Int.emod_eq_of_lt (by omega) (by omega)
    rw [decide_eq_false_iff_not, e] at this
    rw [show (a.toNat + i) / 256 = ((a + i) / 256).toNat by omega]
    exact right_in (ok.r _) (by omega) this
  · exact ok
structure Pg (n0 : Nat) (w0 w : World) (B : Nat) (m : Mm) : Prop where
  h : PAt w B m
  ok : m.ok
  k : But [B] n0 w0 w
  l : n0 ≤ B
section
variable {n0 : Nat} {w0 w : World} {B : Nat} {m : Mm}
theorem Pg.done (p : Pg n0 w0 w B m) : Below n0 w0 w := p.k.below (Nat.le_refl _) (by simpa using p.l)
theorem Pg.sz (p : Pg n0 w0 w B m) : n0 ≤ w.heap.size := Nat.le_of_lt (Nat.lt_of_le_of_lt p.l p.h.lt)
theorem Pg.step {w' : World} {m' : Mm} (p : Pg n0 w0 w B m) (h : PAt w' B m') (ok : m'.ok) (k : But [B] w.heap.size w w') : Pg n0 w0 w' B m' := ⟨h, ok, p.k.trans (k.mono p.sz (by simp)), p.l⟩
theorem Pg.below {w' : World} (p : Pg n0 w0 w B m) (k : Below w.heap.size w w') : Pg n0 w0 w' B m := p.step (p.h.below k p.h.lt) p.ok (But.of k _)
theorem pNew (w : World) : Calls Tryz.prog 28 #[] w fun e w' => e = .returned (mp w.heap.size) ∧ Pg w.heap.size w w' w.heap.size Mm.new :=
  (New_any w).mono fun e w' h => ⟨h.1, h.2.1, new_okM, But.of h.2.2 _, Nat.le_refl _⟩
theorem pMap (p : Pg n0 w0 w B m) (pg n v : Int) (hp : I64 pg) : Calls Tryz.prog 29 #[mp B, .int .i64 pg, .int .i64 n, .int .i64 v] w fun e w' => e = .returned (.int .i64 (errM (mapE m pg n v))) ∧ Pg n0 w0 w' B (mapS m pg n v) ∧ But [B] w.heap.size w w' :=
  (Map_any p.h pg n v hp).mono fun e w' h => ⟨h.1, p.step h.2.1 (mapS_ok p.ok _ _ _) h.2.2, h.2.2⟩
end
end Go.Proofs.YtcdoidnfdkodoaaGreatDoor
namespace Go.Proofs.YtcdoidnfdkodoaaGreatDoor
open Go.RowKit
set_option linter.unusedVariables false
set_option linter.unusedSimpArgs false
set_option linter.unusedSectionVars false
set_option maxRecDepth 20000 in
/-- What is deferred, where there is a fault. -/
theorem ocatch_flt {K : Nat} {w : World} (k p a t : Int) {k' p' a' t' : Int} {ok' : Bool} (h : Told w K k' p' a' t' ok') (older : List PanicEntry) :
    CallsD Tryz.prog 242 #[cp K, cp (K + 1)] (.panicking ({ v := .iface 42 (fltV k p a t), recovered := false } :: older)) w fun e u' w' =>
      e = .returned (.tuple #[]) ∧ u' = .panicking ({ v := .iface 42 (fltV k p a t), recovered := true } :: older) ∧
      Told w' K k p a t false ∧ But [K, K + 1] w.heap.size w w' := by
  have hay := assert_yes k p a t
  have hz := size_of_cell h.d
  have hT := (h.alloc (.cells #[.int .i64 k, .int .u32 p, .int .u32 a, .int .i64 t] 42)).stored k p a t false
  have kT := ((But.refl [K, K + 1] w.heap.size w).alloc (Nat.le_refl _) (.cells #[.int .i64 k, .int .u32 p, .int .u32 a, .int .i64 t] 42)).stored (K := K) (by simp) (by simp) (.int .i64 k) (.int .u32 p) (.int .u32 a) (.int .i64 t) (.bool false)
  obtain ⟨c0, c1, c2, c3, f, d, g⟩ := h
  have f0 := up_fro (show K < w.heap.size by omega) (f 0)
  have f1 := up_fro (show K < w.heap.size by omega) (f 1)
  have f2 := up_fro (show K < w.heap.size by omega) (f 2)
  have f3 := up_fro (show K < w.heap.size by omega) (f 3)
  have kc0 := up_cell c0
  have kc1 := up_cell c1
  have kc2 := up_cell c2
  have kc3 := up_cell c3
  have kd := up_cell d
  have kg := up_fro hz g
  refine callsD_of_wpS Tryz.func242 rfl fun c₀ cs hu => ?_
  apply wpS_seq
  apply wpS_region
  simp [wpOpsS, go_sem, recoverD, hu, Tryz.ntmps242, Exit.thenS, rep14]
  refine wpS_of_wp ?_
  go_wp2_with fail
  generalize ((((((w.alloc (.cells #[.int .i64 k, .int .u32 p, .int .u32 a, .int .i64 t] 42)).setCell ⟨K, 0, none⟩ (.int .i64 k)).setCell ⟨K, 1, none⟩ (.int .u32 p)).setCell ⟨K, 2, none⟩ (.int .u32 a)).setCell ⟨K, 3, none⟩ (.int .i64 t)).setCell ⟨K + 1, 0, none⟩ (.bool false)) = w' at *
  simp [bodyPostS, results, Tryz.results242, hT, kT]
theorem ocatch_idle (K : Nat) (w : World) :
    CallsD Tryz.prog 242 #[cp K, cp (K + 1)] .returning w fun e u' w' => e = .returned (.tuple #[]) ∧ u' = .returning ∧ Below w.heap.size w w' := by
  have hay := assert_no
  refine callsD_of_wpS Tryz.func242 rfl fun c₀ cs hu => ?_
  apply wpS_seq
  apply wpS_region
  simp [wpOpsS, go_sem, recoverD, hu, Tryz.ntmps242, Exit.thenS, rep14]
  refine wpS_of_wp ?_
  go_wp2_with fail
  have kx : Below w.heap.size w (w.alloc (.cells #[.int .i64 0, .int .u32 0, .int .u32 0, .int .i64 0] 42)) := (Below.refl _ _).alloc (Nat.le_refl _) _
  simp [bodyPostS, results, Tryz.results242, hu, kx]
  cases c₀
  simp_all
theorem otold_run {tm : Array Value} {W : World} {K : Nat} {k p a t : Int} {ok : Bool} (h2 : tm[2]? = some (cp K)) (h3 : tm[3]? = some (cp (K + 1))) (h : Told W K k p a t ok) :
    (results Tryz.f211 tm).run Tryz.prog W = .ok (.tuple #[fltV k p a t, .bool ok]) W := by
  obtain ⟨c0, c1, c2, c3, f, d, g⟩ := h
  simp [results, Tryz.results211, h2, h3, go_sem, c0, c1, c2, c3, d]
abbrev ocaughtBy (K : Nat) : List Deferred := [{ target := .fn (.func 242) #[cp K, cp (K + 1)], args := #[] }]
theorem otried_caught {K : Nat} {W : World} {k' p' a' t' : Int} {ok' : Bool} {k p a t : Int} (h : Told W K k' p' a' t' ok') {tm : Array Value} (h2 : tm[2]? = some (cp K)) (h3 : tm[3]? = some (cp (K + 1)))
    {R : Ending → World → Prop} (hR : ∀ W', But [K, K + 1] W.heap.size W W' → R (.returned (.tuple #[fltV k p a t, .bool false])) W') :
    Leaves Tryz.prog Tryz.f211 tm R (ocaughtBy K) (.panicking [{ v := .iface 42 (fltV k p a t), recovered := false }]) W := by
  refine leaves_cons (f := 242) (args := #[cp K, cp (K + 1)]) (by simp) (by simp [go_sem]) ?_
  refine (ocatch_flt k p a t h []).mono ?_
  rintro e u' W' ⟨rfl, rfl, hx, kx⟩
  exact ⟨_, otold_run h2 h3 hx, hR W' kx⟩
theorem otried_left {K : Nat} {W : World} {k p a t : Int} {ok : Bool} (h : Told W K k p a t ok) {tm : Array Value} (h2 : tm[2]? = some (cp K)) (h3 : tm[3]? = some (cp (K + 1)))
    {R : Ending → World → Prop} (hR : ∀ W', Below W.heap.size W W' → R (.returned (.tuple #[fltV k p a t, .bool ok])) W') :
    Leaves Tryz.prog Tryz.f211 tm R (ocaughtBy K) .returning W := by
  refine leaves_cons (f := 242) (args := #[cp K, cp (K + 1)]) (by simp) (by simp [go_sem]) ?_
  refine (ocatch_idle K W).mono ?_
  rintro e u' W' ⟨rfl, rfl, bx⟩
  exact ⟨_, otold_run h2 h3 (h.below bx (size_of_cell h.d)), hR W' bx⟩
set_option maxRecDepth 20000 in
/-- tried: bytes read. -/
theorem otriedR_yes (cap : Array Value) {w : World} (S : List Nat) (R : World → Prop) (hS : ∀ k, k ∈ S → k < w.heap.size) (hR : ∀ W W', R W → Below w.heap.size W W' → R W')
    (h : ∀ W, Below w.heap.size w W → Calls Tryz.prog 229 cap W fun e w' => e = .returned (.tuple #[]) ∧ R w' ∧ But S W.heap.size W w') :
    Calls Tryz.prog 211 #[.func (.func 229) #[] cap] w fun e w' => e = .returned (.tuple #[fltV 0 0 0 0, .bool true]) ∧ R w' ∧ But S w.heap.size w w' := by
  have hmf : ∀ (fn : Fn) (first cap : Array Value) (w : World), (Instr.makeFunc fn first cap).run Tryz.prog w = .ok (.func fn first cap) w := fun _ _ _ _ => rfl
  have hb := Told.begun w
  have k1 := ((Below.refl w.heap.size w).alloc (Nat.le_refl _) (.cells #[.int .i64 0, .int .u32 0, .int .u32 0, .int .i64 0] 42)).alloc (by simp) (.cells #[.bool false] 4)
  have hc := h _ k1
  clear h
  go_enter_defers Tryz.func211, Tryz.ntmps211
  go_wp2_with fail
  generalize ((w.alloc (.cells #[.int .i64 0, .int .u32 0, .int .u32 0, .int .i64 0] 42)).alloc (.cells #[.bool false] 4)) = w1 at *
  refine hc.mono ?_
  rintro e w2 ⟨rfl, hr, k2⟩
  replace hb := hb.but k2 hS
  have z2 := size_of_cell hb.d
  have s1 := k1.size
  have hx := hb.stored 0 0 0 0 true
  have kx := (But.refl [w.heap.size, w.heap.size + 1] w2.heap.size w2).stored (K := w.heap.size) (by simp) (by simp) (.int .i64 0) (.int .u32 0) (.int .u32 0) (.int .i64 0) (.bool true)
  obtain ⟨c0, c1, c2, c3, f, d, g⟩ := hb
  have f0 := f 0
  have f1 := f 1
  have f2 := f 2
  have f3 := f 3
  clear hc f hmf
  go_wp2_with fail
  generalize (((((w2.setCell ⟨w.heap.size, 0, none⟩ (.int .i64 0)).setCell ⟨w.heap.size, 1, none⟩ (.int .u32 0)).setCell ⟨w.heap.size, 2, none⟩ (.int .u32 0)).setCell ⟨w.heap.size, 3, none⟩ (.int .i64 0)).setCell ⟨w.heap.size + 1, 0, none⟩ (.bool true)) = w3 at *
  refine otried_left hx rfl rfl fun W' k3 => ⟨rfl, ?_, ?_⟩
  · exact hR _ _ hr ((kx.below (show w.heap.size ≤ w2.heap.size by omega) (by simp)).trans (k3.mono (by have := kx.size; omega)))
  · exact (But.of k1 S).trans ((k2.mono s1 (fun k hk => .inl hk)).trans (But.of ((kx.below (show w.heap.size ≤ w2.heap.size by omega) (by simp)).trans (k3.mono (by have := kx.size; omega))) S))
set_option maxRecDepth 20000 in
/-- tried: bytes read, a fault. -/
theorem otriedW_no (cap : Array Value) {w : World} (k p a t : Int) (h : ∀ W, Below w.heap.size w W → Calls Tryz.prog 226 cap W fun e w' => e = .panicked [{ v := .iface 42 (fltV k p a t), recovered := false }] ∧ Below W.heap.size W w') :
    Calls Tryz.prog 211 #[.func (.func 226) #[] cap] w fun e w' => e = .returned (.tuple #[fltV k p a t, .bool false]) ∧ Below w.heap.size w w' := by
  have hmf : ∀ (fn : Fn) (first cap : Array Value) (w : World), (Instr.makeFunc fn first cap).run Tryz.prog w = .ok (.func fn first cap) w := fun _ _ _ _ => rfl
  have hb := Told.begun w
  have k1 := ((Below.refl w.heap.size w).alloc (Nat.le_refl _) (.cells #[.int .i64 0, .int .u32 0, .int .u32 0, .int .i64 0] 42)).alloc (by simp) (.cells #[.bool false] 4)
  have hc := h _ k1
  clear h
  go_enter_defers Tryz.func211, Tryz.ntmps211
  go_wp2_with fail
  generalize ((w.alloc (.cells #[.int .i64 0, .int .u32 0, .int .u32 0, .int .i64 0] 42)).alloc (.cells #[.bool false] 4)) = w1 at *
  refine hc.mono ?_
  rintro e w2 ⟨rfl, k2⟩
  have z1 := size_of_cell hb.d
  have s2 := k2.size
  exact otried_caught (hb.below k2 z1) rfl rfl fun W' k3 => ⟨rfl, k1.trans ((k2.mono k1.size).trans (k3.below (by omega) (by simp)))⟩
set_option maxRecDepth 20000 in
/-- tried: bytes read. -/
theorem otriedW_yes (cap : Array Value) {w : World} (S : List Nat) (R : World → Prop) (hS : ∀ k, k ∈ S → k < w.heap.size) (hR : ∀ W W', R W → Below w.heap.size W W' → R W')
    (h : ∀ W, Below w.heap.size w W → Calls Tryz.prog 226 cap W fun e w' => e = .returned (.tuple #[]) ∧ R w' ∧ But S W.heap.size W w') :
    Calls Tryz.prog 211 #[.func (.func 226) #[] cap] w fun e w' => e = .returned (.tuple #[fltV 0 0 0 0, .bool true]) ∧ R w' ∧ But S w.heap.size w w' := by
  have hmf : ∀ (fn : Fn) (first cap : Array Value) (w : World), (Instr.makeFunc fn first cap).run Tryz.prog w = .ok (.func fn first cap) w := fun _ _ _ _ => rfl
  have hb := Told.begun w
  have k1 := ((Below.refl w.heap.size w).alloc (Nat.le_refl _) (.cells #[.int .i64 0, .int .u32 0, .int .u32 0, .int .i64 0] 42)).alloc (by simp) (.cells #[.bool false] 4)
  have hc := h _ k1
  clear h
  go_enter_defers Tryz.func211, Tryz.ntmps211
  go_wp2_with fail
  generalize ((w.alloc (.cells #[.int .i64 0, .int .u32 0, .int .u32 0, .int .i64 0] 42)).alloc (.cells #[.bool false] 4)) = w1 at *
  refine hc.mono ?_
  rintro e w2 ⟨rfl, hr, k2⟩
  replace hb := hb.but k2 hS
  have z2 := size_of_cell hb.d
  have s1 := k1.size
  have hx := hb.stored 0 0 0 0 true
  have kx := (But.refl [w.heap.size, w.heap.size + 1] w2.heap.size w2).stored (K := w.heap.size) (by simp) (by simp) (.int .i64 0) (.int .u32 0) (.int .u32 0) (.int .i64 0) (.bool true)
  obtain ⟨c0, c1, c2, c3, f, d, g⟩ := hb
  have f0 := f 0
  have f1 := f 1
  have f2 := f 2
  have f3 := f 3
  clear hc f hmf
  go_wp2_with fail
  generalize (((((w2.setCell ⟨w.heap.size, 0, none⟩ (.int .i64 0)).setCell ⟨w.heap.size, 1, none⟩ (.int .u32 0)).setCell ⟨w.heap.size, 2, none⟩ (.int .u32 0)).setCell ⟨w.heap.size, 3, none⟩ (.int .i64 0)).setCell ⟨w.heap.size + 1, 0, none⟩ (.bool true)) = w3 at *
  refine otried_left hx rfl rfl fun W' k3 => ⟨rfl, ?_, ?_⟩
  · exact hR _ _ hr ((kx.below (show w.heap.size ≤ w2.heap.size by omega) (by simp)).trans (k3.mono (by have := kx.size; omega)))
  · exact (But.of k1 S).trans ((k2.mono s1 (fun k hk => .inl hk)).trans (But.of ((kx.below (show w.heap.size ≤ w2.heap.size by omega) (by simp)).trans (k3.mono (by have := kx.size; omega))) S))
set_option maxRecDepth 20000 in
/-- tried: bytes read. -/
theorem otriedC_yes (cap : Array Value) {w : World} (S : List Nat) (R : World → Prop) (hS : ∀ k, k ∈ S → k < w.heap.size) (hR : ∀ W W', R W → Below w.heap.size W W' → R W')
    (h : ∀ W, Below w.heap.size w W → Calls Tryz.prog 232 cap W fun e w' => e = .returned (.tuple #[]) ∧ R w' ∧ But S W.heap.size W w') :
    Calls Tryz.prog 211 #[.func (.func 232) #[] cap] w fun e w' => e = .returned (.tuple #[fltV 0 0 0 0, .bool true]) ∧ R w' ∧ But S w.heap.size w w' := by
  have hmf : ∀ (fn : Fn) (first cap : Array Value) (w : World), (Instr.makeFunc fn first cap).run Tryz.prog w = .ok (.func fn first cap) w := fun _ _ _ _ => rfl
  have hb := Told.begun w
  have k1 := ((Below.refl w.heap.size w).alloc (Nat.le_refl _) (.cells #[.int .i64 0, .int .u32 0, .int .u32 0, .int .i64 0] 42)).alloc (by simp) (.cells #[.bool false] 4)
  have hc := h _ k1
  clear h
  go_enter_defers Tryz.func211, Tryz.ntmps211
  go_wp2_with fail
  generalize ((w.alloc (.cells #[.int .i64 0, .int .u32 0, .int .u32 0, .int .i64 0] 42)).alloc (.cells #[.bool false] 4)) = w1 at *
  refine hc.mono ?_
  rintro e w2 ⟨rfl, hr, k2⟩
  replace hb := hb.but k2 hS
  have z2 := size_of_cell hb.d
  have s1 := k1.size
  have hx := hb.stored 0 0 0 0 true
  have kx := (But.refl [w.heap.size, w.heap.size + 1] w2.heap.size w2).stored (K := w.heap.size) (by simp) (by simp) (.int .i64 0) (.int .u32 0) (.int .u32 0) (.int .i64 0) (.bool true)
  obtain ⟨c0, c1, c2, c3, f, d, g⟩ := hb
  have f0 := f 0
  have f1 := f 1
  have f2 := f 2
  have f3 := f 3
  clear hc f hmf
  go_wp2_with fail
  generalize (((((w2.setCell ⟨w.heap.size, 0, none⟩ (.int .i64 0)).setCell ⟨w.heap.size, 1, none⟩ (.int .u32 0)).setCell ⟨w.heap.size, 2, none⟩ (.int .u32 0)).setCell ⟨w.heap.size, 3, none⟩ (.int .i64 0)).setCell ⟨w.heap.size + 1, 0, none⟩ (.bool true)) = w3 at *
  refine otried_left hx rfl rfl fun W' k3 => ⟨rfl, ?_, ?_⟩
  · exact hR _ _ hr ((kx.below (show w.heap.size ≤ w2.heap.size by omega) (by simp)).trans (k3.mono (by have := kx.size; omega)))
  · exact (But.of k1 S).trans ((k2.mono s1 (fun k hk => .inl hk)).trans (But.of ((kx.below (show w.heap.size ≤ w2.heap.size by omega) (by simp)).trans (k3.mono (by have := kx.size; omega))) S))
end Go.Proofs.YtcdoidnfdkodoaaGreatDoor
