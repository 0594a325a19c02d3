import Derived.Test.YtcdoidnfdkodoaaGreatDoorS15
import Derived.Test.YtcdoidnfdkodoaaGreatDoorS07
import Derived.Test.YtcdoidnfdkodoaaGreatDoorS14
import Derived.Test.YtcdoidnfdkodoaaGreatDoorS00
namespace Go.Proofs.YtcdoidnfdkodoaaGreatDoor
open Go.RowKit
set_option linter.unusedVariables false
set_option linter.unusedSimpArgs false
set_option linter.unusedSectionVars false
theorem rep16 : Array.replicate 16 undef = #[undef, undef, undef, undef, undef, undef, undef, undef, undef, undef, undef, undef, undef, undef, undef, undef] := rfl
set_option maxRecDepth 20000 in
/-- What is deferred, where there is a fault. -/
theorem scatch_flt {P K : Nat} {w : World} (k p a t pc : Int) {k' p' a' t' : Int} {ok' : Bool} (h : Told w K k' p' a' t' ok') (hp : w.cell? ⟨P, 0, none⟩ = some (.int .u32 pc)) (older : List PanicEntry) :
    CallsD Tryz.prog 75 #[cp P, cp K, cp (K + 1)] (.panicking ({ v := .iface 42 (fltV k p a t), recovered := false } :: older)) w fun e u' w' =>
      e = .returned (.tuple #[]) ∧ u' = .panicking ({ v := .iface 42 (fltV k p a t), recovered := true } :: older) ∧
      Told w' K k pc a t false ∧ But [K, K + 1] w.heap.size w w' := by
  have hay := assert_yes k p a t
  have hz := size_of_cell h.d
  have b1 : Below w.heap.size w (w.alloc (.cells #[.int .i64 k, .int .u32 pc, .int .u32 a, .int .i64 t] 42)) := (Below.refl w.heap.size w).alloc (Nat.le_refl _) _
  have hT := (h.below b1 hz).stored k pc a t false
  have kT := (But.of b1 [K, K + 1]).stored (K := K) (by simp) (by simp) (.int .i64 k) (.int .u32 pc) (.int .u32 a) (.int .i64 t) (.bool false)
  have q := h.below b1 hz
  have kp := (b1.cell (p := ⟨P, 0, none⟩) (size_of_cell hp)).trans hp
  have kp0 := up_cell hp (.cells #[.int .i64 k, .int .u32 p, .int .u32 a, .int .i64 t] 42)
  obtain ⟨c0, c1, c2, c3, f, d, g⟩ := q
  have f0 := f 0
  have f1 := f 1
  have f2 := f 2
  have f3 := f 3
  refine callsD_of_wpS Tryz.func75 rfl fun c₀ cs hu => ?_
  apply wpS_seq
  apply wpS_region
  simp [wpOpsS, go_sem, recoverD, hu, Tryz.ntmps75, Exit.thenS, rep16]
  refine wpS_of_wp ?_
  go_wp2_with fail
  clear c0 c1 c2 c3 f0 f1 f2 f3 d g kp kp0
  generalize ((((((w.alloc (.cells #[.int .i64 k, .int .u32 pc, .int .u32 a, .int .i64 t] 42)).setCell ⟨K, 0, none⟩ (.int .i64 k)).setCell ⟨K, 1, none⟩ (.int .u32 pc)).setCell ⟨K, 2, none⟩ (.int .u32 a)).setCell ⟨K, 3, none⟩ (.int .i64 t)).setCell ⟨K + 1, 0, none⟩ (.bool false)) = w' at *
  simp [bodyPostS, results, Tryz.results75, hT, kT]
theorem scatch_idle (P K : Nat) (w : World) :
    CallsD Tryz.prog 75 #[cp P, cp K, cp (K + 1)] .returning w fun e u' w' => e = .returned (.tuple #[]) ∧ u' = .returning ∧ Below w.heap.size w w' := by
  have hay := assert_no
  refine callsD_of_wpS Tryz.func75 rfl fun c₀ cs hu => ?_
  apply wpS_seq
  apply wpS_region
  simp [wpOpsS, go_sem, recoverD, hu, Tryz.ntmps75, Exit.thenS, rep16]
  refine wpS_of_wp ?_
  go_wp2_with fail
  have kx : Below w.heap.size w (w.alloc (.cells #[.int .i64 0, .int .u32 0, .int .u32 0, .int .i64 0] 42)) := (Below.refl _ _).alloc (Nat.le_refl _) _
  simp [bodyPostS, results, Tryz.results75, hu, kx]
  cases c₀
  simp_all
theorem stold_run {tm : Array Value} {W : World} {K : Nat} {k p a t : Int} {ok : Bool} (h2 : tm[4]? = some (cp K)) (h3 : tm[5]? = some (cp (K + 1))) (h : Told W K k p a t ok) :
    (results Tryz.f40 tm).run Tryz.prog W = .ok (.tuple #[fltV k p a t, .bool ok]) W := by
  obtain ⟨c0, c1, c2, c3, f, d, g⟩ := h
  simp [results, Tryz.results40, h2, h3, go_sem, c0, c1, c2, c3, d]
abbrev scaughtBy (P K : Nat) : List Deferred := [{ target := .fn (.func 75) #[cp P, cp K, cp (K + 1)], args := #[] }]
theorem stried_caught {P K : Nat} {W : World} {k' p' a' t' : Int} {ok' : Bool} {k p a t pc : Int} (h : Told W K k' p' a' t' ok') (hp : W.cell? ⟨P, 0, none⟩ = some (.int .u32 pc)) {tm : Array Value} (h2 : tm[4]? = some (cp K)) (h3 : tm[5]? = some (cp (K + 1)))
    {R : Ending → World → Prop} (hR : ∀ W', But [K, K + 1] W.heap.size W W' → R (.returned (.tuple #[fltV k pc a t, .bool false])) W') :
    Leaves Tryz.prog Tryz.f40 tm R (scaughtBy P K) (.panicking [{ v := .iface 42 (fltV k p a t), recovered := false }]) W := by
  refine leaves_cons (f := 75) (args := #[cp P, cp K, cp (K + 1)]) (by simp) (by simp [go_sem]) ?_
  refine (scatch_flt k p a t pc h hp []).mono ?_
  rintro e u' W' ⟨rfl, rfl, hx, kx⟩
  exact ⟨_, stold_run h2 h3 hx, hR W' kx⟩
theorem stried_left {P K : Nat} {W : World} {k p a t : Int} {ok : Bool} (h : Told W K k p a t ok) {tm : Array Value} (h2 : tm[4]? = some (cp K)) (h3 : tm[5]? = some (cp (K + 1)))
    {R : Ending → World → Prop} (hR : ∀ W', Below W.heap.size W W' → R (.returned (.tuple #[fltV k p a t, .bool ok])) W') :
    Leaves Tryz.prog Tryz.f40 tm R (scaughtBy P K) .returning W := by
  refine leaves_cons (f := 75) (args := #[cp P, cp K, cp (K + 1)]) (by simp) (by simp [go_sem]) ?_
  refine (scatch_idle P K W).mono ?_
  rintro e u' W' ⟨rfl, rfl, bx⟩
  exact ⟨_, stold_run h2 h3 (h.below bx (size_of_cell h.d)), hR W' bx⟩
set_option maxRecDepth 20000 in
theorem striedD_no (cap : Array Value) {w : World} (pc k p a t : Int) (h : ∀ W, Below w.heap.size w W → Calls Tryz.prog 41 cap W fun e w' => e = .panicked [{ v := .iface 42 (fltV k p a t), recovered := false }] ∧ Below W.heap.size W w') :
    Calls Tryz.prog 40 #[.int .u32 pc, .func (.func 41) #[] cap] w fun e w' => e = .returned (.tuple #[fltV k pc a t, .bool false]) ∧ Below w.heap.size w w' := by
  have hmf : ∀ (fn : Fn) (first cap : Array Value) (w : World), (Instr.makeFunc fn first cap).run Tryz.prog w = .ok (.func fn first cap) w := fun _ _ _ _ => rfl
  have hb := Told.begun (w.alloc (.cells #[.int .u32 pc] 23))
  have k1 := (((Below.refl w.heap.size w).alloc (Nat.le_refl _) (.cells #[.int .u32 pc] 23)).alloc (by simp) (.cells #[.int .i64 0, .int .u32 0, .int .u32 0, .int .i64 0] 42)).alloc (by simp; omega) (.cells #[.bool false] 4)
  have hp : (((w.alloc (.cells #[.int .u32 pc] 23)).alloc (.cells #[.int .i64 0, .int .u32 0, .int .u32 0, .int .i64 0] 42)).alloc (.cells #[.bool false] 4)).cell? ⟨w.heap.size, 0, none⟩ = some (.int .u32 pc) := by simp [go_sem]
  have hc := h _ k1
  simp only [World.size_alloc] at hb
  clear h
  go_enter_defers Tryz.func40, Tryz.ntmps40
  go_wp2_with fail
  generalize (((w.alloc (.cells #[.int .u32 pc] 23)).alloc (.cells #[.int .i64 0, .int .u32 0, .int .u32 0, .int .i64 0] 42)).alloc (.cells #[.bool false] 4)) = w1 at *
  refine hc.mono ?_
  rintro e w2 ⟨rfl, k2⟩
  have z1 := size_of_cell hb.d
  have s2 := k2.size
  exact stried_caught (hb.below k2 z1) ((k2.cell (p := ⟨w.heap.size, 0, none⟩) (size_of_cell hp)).trans hp) rfl rfl fun W' k3 => ⟨rfl, k1.trans ((k2.mono k1.size).trans (k3.below (by omega) (by simp; omega)))⟩
set_option maxRecDepth 20000 in
theorem striedD_yes (cap : Array Value) {w : World} (pc : Int) (S : List Nat) (R : World → Prop) (hS : ∀ k, k ∈ S → k < w.heap.size) (hR : ∀ W W', R W → Below w.heap.size W W' → R W')
    (h : ∀ W, Below w.heap.size w W → Calls Tryz.prog 41 cap W fun e w' => e = .returned (.tuple #[]) ∧ R w' ∧ But S W.heap.size W w') :
    Calls Tryz.prog 40 #[.int .u32 pc, .func (.func 41) #[] cap] w fun e w' => e = .returned (.tuple #[fltV 0 0 0 0, .bool true]) ∧ R w' ∧ But S w.heap.size w w' := by
  have hmf : ∀ (fn : Fn) (first cap : Array Value) (w : World), (Instr.makeFunc fn first cap).run Tryz.prog w = .ok (.func fn first cap) w := fun _ _ _ _ => rfl
  have hb := Told.begun (w.alloc (.cells #[.int .u32 pc] 23))
  have k1 := (((Below.refl w.heap.size w).alloc (Nat.le_refl _) (.cells #[.int .u32 pc] 23)).alloc (by simp) (.cells #[.int .i64 0, .int .u32 0, .int .u32 0, .int .i64 0] 42)).alloc (by simp; omega) (.cells #[.bool false] 4)
  have hc := h _ k1
  simp only [World.size_alloc] at hb
  clear h
  go_enter_defers Tryz.func40, Tryz.ntmps40
  go_wp2_with fail
  generalize (((w.alloc (.cells #[.int .u32 pc] 23)).alloc (.cells #[.int .i64 0, .int .u32 0, .int .u32 0, .int .i64 0] 42)).alloc (.cells #[.bool false] 4)) = w1 at *
  refine hc.mono ?_
  rintro e w2 ⟨rfl, hr, k2⟩
  replace hb := hb.but k2 (fun k hk => by have := hS k hk; omega)
  have z2 := size_of_cell hb.d
  have s1 := k1.size
  have hx := hb.stored 0 0 0 0 true
  have kx := (But.refl [w.heap.size + 1, w.heap.size + 1 + 1] w2.heap.size w2).stored (K := w.heap.size + 1) (by simp) (by simp) (.int .i64 0) (.int .u32 0) (.int .u32 0) (.int .i64 0) (.bool true)
  obtain ⟨c0, c1, c2, c3, f, d, g⟩ := hb
  have f0 := f 0
  have f1 := f 1
  have f2 := f 2
  have f3 := f 3
  clear hc f hmf
  go_wp2_with fail
  generalize (((((w2.setCell ⟨w.heap.size + 1, 0, none⟩ (.int .i64 0)).setCell ⟨w.heap.size + 1, 1, none⟩ (.int .u32 0)).setCell ⟨w.heap.size + 1, 2, none⟩ (.int .u32 0)).setCell ⟨w.heap.size + 1, 3, none⟩ (.int .i64 0)).setCell ⟨w.heap.size + 1 + 1, 0, none⟩ (.bool true)) = w3 at *
  refine stried_left hx rfl rfl fun W' k3 => ⟨rfl, ?_, ?_⟩
  · exact hR _ _ hr ((kx.below (show w.heap.size ≤ w2.heap.size by omega) (by simp; omega)).trans (k3.mono (by have := kx.size; omega)))
  · exact (But.of k1 S).trans ((k2.mono s1 (fun k hk => .inl hk)).trans (But.of ((kx.below (show w.heap.size ≤ w2.heap.size by omega) (by simp; omega)).trans (k3.mono (by have := kx.size; omega))) S))
set_option maxRecDepth 20000 in
theorem striedF_yes (cap : Array Value) {w : World} (pc : Int) (S : List Nat) (R : World → Prop) (hS : ∀ k, k ∈ S → k < w.heap.size) (hR : ∀ W W', R W → Below w.heap.size W W' → R W')
    (h : ∀ W, Below w.heap.size w W → Calls Tryz.prog 52 cap W fun e w' => e = .returned (.tuple #[]) ∧ R w' ∧ But S W.heap.size W w') :
    Calls Tryz.prog 40 #[.int .u32 pc, .func (.func 52) #[] cap] w fun e w' => e = .returned (.tuple #[fltV 0 0 0 0, .bool true]) ∧ R w' ∧ But S w.heap.size w w' := by
  have hmf : ∀ (fn : Fn) (first cap : Array Value) (w : World), (Instr.makeFunc fn first cap).run Tryz.prog w = .ok (.func fn first cap) w := fun _ _ _ _ => rfl
  have hb := Told.begun (w.alloc (.cells #[.int .u32 pc] 23))
  have k1 := (((Below.refl w.heap.size w).alloc (Nat.le_refl _) (.cells #[.int .u32 pc] 23)).alloc (by simp) (.cells #[.int .i64 0, .int .u32 0, .int .u32 0, .int .i64 0] 42)).alloc (by simp; omega) (.cells #[.bool false] 4)
  have hc := h _ k1
  simp only [World.size_alloc] at hb
  clear h
  go_enter_defers Tryz.func40, Tryz.ntmps40
  go_wp2_with fail
  generalize (((w.alloc (.cells #[.int .u32 pc] 23)).alloc (.cells #[.int .i64 0, .int .u32 0, .int .u32 0, .int .i64 0] 42)).alloc (.cells #[.bool false] 4)) = w1 at *
  refine hc.mono ?_
  rintro e w2 ⟨rfl, hr, k2⟩
  replace hb := hb.but k2 (fun k hk => by have := hS k hk; omega)
  have z2 := size_of_cell hb.d
  have s1 := k1.size
  have hx := hb.stored 0 0 0 0 true
  have kx := (But.refl [w.heap.size + 1, w.heap.size + 1 + 1] w2.heap.size w2).stored (K := w.heap.size + 1) (by simp) (by simp) (.int .i64 0) (.int .u32 0) (.int .u32 0) (.int .i64 0) (.bool true)
  obtain ⟨c0, c1, c2, c3, f, d, g⟩ := hb
  have f0 := f 0
  have f1 := f 1
  have f2 := f 2
  have f3 := f 3
  clear hc f hmf
  go_wp2_with fail
  generalize (((((w2.setCell ⟨w.heap.size + 1, 0, none⟩ (.int .i64 0)).setCell ⟨w.heap.size + 1, 1, none⟩ (.int .u32 0)).setCell ⟨w.heap.size + 1, 2, none⟩ (.int .u32 0)).setCell ⟨w.heap.size + 1, 3, none⟩ (.int .i64 0)).setCell ⟨w.heap.size + 1 + 1, 0, none⟩ (.bool true)) = w3 at *
  refine stried_left hx rfl rfl fun W' k3 => ⟨rfl, ?_, ?_⟩
  · exact hR _ _ hr ((kx.below (show w.heap.size ≤ w2.heap.size by omega) (by simp; omega)).trans (k3.mono (by have := kx.size; omega)))
  · exact (But.of k1 S).trans ((k2.mono s1 (fun k hk => .inl hk)).trans (But.of ((kx.below (show w.heap.size ≤ w2.heap.size by omega) (by simp; omega)).trans (k3.mono (by have := kx.size; omega))) S))
end Go.Proofs.YtcdoidnfdkodoaaGreatDoor
namespace Go.Proofs.YtcdoidnfdkodoaaGreatDoor
open Go.RowKit
set_option linter.unusedVariables false
set_option linter.unusedSimpArgs false
end Go.Proofs.YtcdoidnfdkodoaaGreatDoor
namespace Go.Proofs.YtcdoidnfdkodoaaGreatDoor
open Go.RowKit
set_option linter.unusedVariables false
/-! ### BitsBack -/
/-! ### Signs -/
/-! ### Fields -/
theorem field_low (x : Int) (k : Nat) (hk : k ≤ 32) : fieldS x 0 k = x % 2 ^ k := by
  unfold fieldS
  rw [show held0 (k : Int) = k by unfold held0; split <;> (try split) <;> omega, show mov x 0 = x by unfold mov; simp]
theorem field_at (x : Int) (k n : Nat) (hn : n ≤ 32) (hk : k ≤ 32) : fieldS x k n = x / 2 ^ k % 2 ^ n := by
  unfold fieldS
  rw [show held0 (n : Int) = n by unfold held0; split <;> (try split) <;> omega]
  unfold mov; rw [if_pos (by omega), Int.toNat_natCast, show min k 32 = k by omega]
/-! ### Parity -/
theorem field_one (x : Int) (k : Nat) (hk : k ≤ 32) : fieldS x k 1 = x / 2 ^ k % 2 := by
  have := field_at x k 1 (by decide) hk
  rwa [Int.pow_succ, Int.pow_zero, Int.one_mul] at this
/-! ### BitsLong -/
/-! ### BitsBytes -/
end Go.Proofs.YtcdoidnfdkodoaaGreatDoor
namespace Go.Proofs.YtcdoidnfdkodoaaGreatDoor
open Go.RowKit
set_option linter.unusedVariables false
set_option linter.unusedSimpArgs false
def le4 (zs : List Int) (p : Nat) : Int := zs.getD p 0 + zs.getD (p + 1) 0 * 256 + zs.getD (p + 2) 0 * 65536 + zs.getD (p + 3) 0 * 16777216
def num (zs : List Int) (p n : Nat) : Int := if n = 1 then zs.getD p 0 else le4 zs p
def sx (z : Int) : Int := IntKind.i8.wrap z % 4294967296
def distM (zs : List Int) (p : Nat) (how base x s : Int) : Option (On × Nat) :=
  if how = 1 then (if p + 1 ≤ zs.length then some (onMem (sx (zs.getD p 0)) base x s, p + 1) else none)
  else if how = 2 then (if p + 4 ≤ zs.length then some (onMem (le4 zs p) base x s, p + 4) else none)
  else if base = 5 then (if p + 4 ≤ zs.length then some (onMem (le4 zs p) (-1) x s, p + 4) else none)
  else some (onMem 0 base x s, p)
def placeM (zs : List Int) (p : Nat) (m : Int) : Option (On × Nat) :=
  if m / 64 % 4 = 3 then some (onReg (m % 8), p)
  else if m % 8 = 4 then
    (if p + 1 ≤ zs.length then
      (if zs.getD p 0 / 8 % 8 = 4 then distM zs (p + 1) (m / 64 % 4) (zs.getD p 0 % 8) (-1) 1
       else distM zs (p + 1) (m / 64 % 4) (zs.getD p 0 % 8) (zs.getD p 0 / 8 % 8) (2 ^ (zs.getD p 0 / 64 % 4).toNat))
     else none)
  else distM zs p (m / 64 % 4) (m % 8) (-1) 1
def operM (zs : List Int) (c m : Int) (p : Nat) (k : Int) : Option (On × Nat) :=
  if k = 1 then some (onReg 0, p) else
  if k = 2 then some (onReg 1, p) else
  if k = 3 then some (onImm 1, p) else
  if k = 4 then some (onReg (c % 8), p) else
  if k = 5 then some (onReg (m / 8 % 8), p) else
  if k = 6 then placeM zs p m else
  if k = 7 then (if p + 1 ≤ zs.length then some (onImm (zs.getD p 0), p + 1) else none) else
  if k = 8 then (if p + 1 ≤ zs.length then some (onImm (sx (zs.getD p 0)), p + 1) else none) else
  if k = 9 then (if p + 4 ≤ zs.length then some (onImm (le4 zs p), p + 4) else none) else
  some (onZ, p)
def opM (c m : Int) (r : Rw) : Int := if r.op < 54 then r.op else grp (r.op - 54).toNat ((if r.g = 65479 then c else m) / 8 % 8).toNat
def inZ : In := ⟨0, 0, onZ, onZ, false, 0⟩
def restM (zs : List Int) (c m : Int) (p : Nat) (r : Rw) : Except Int In :=
  if opM c m r = 0 then .ok inZ else
  if opM c m r = -1 then .error 90 else
  match operM zs c m p r.a with
  | none => .error 10
  | some (A, q) =>
  match operM zs c m q r.b with
  | none => .error 10
  | some (B, q') => .ok ⟨opM c m r, if r.g = 65520 then c % 16 else 0, A, B, c / 256 == 243, q'⟩
def byM (zs : List Int) (c : Int) (p : Nat) (r : Rw) : Except Int In :=
  if r.a = 6 ∨ r.b = 6 then (if p + 1 ≤ zs.length then restM zs c (zs.getD p 0) (p + 1) r else .error 10) else restM zs c 0 p r
def fitB (c : Int) (r : Rw) : Bool := bits .and .u32 c r.g == r.c
def firstM (zs : List Int) (c : Int) (p : Nat) : List Rw → Except Int (Option In)
  | [] => .ok none
  | r :: rs => if fitB c r then (match byM zs c p r with
      | .error x => .error x
      | .ok i => if isB i then .ok (some i) else firstM zs c p rs) else firstM zs c p rs
def openM (zs : List Int) : Option (Int × Nat) :=
  if 1 ≤ zs.length then
    (if zs.getD 0 0 = 15 ∨ zs.getD 0 0 = 217 ∨ zs.getD 0 0 = 243 then
      (if 2 ≤ zs.length then some (zs.getD 0 0 * 256 + zs.getD 1 0, 2) else none)
     else some (zs.getD 0 0, 1))
  else none
def decM (zs : List Int) : Except Int In :=
  match openM zs with
  | none => .error 10
  | some (c, p) => match firstM zs c p (singleLD ++ doubleL) with
    | .error x => .error x
    | .ok none => .error 12
    | .ok (some i) => .ok i
def decI (zs : List Int) : In := match decM zs with | .ok i => i | .error _ => inZ
def decE (zs : List Int) : Int := match decM zs with | .ok _ => 0 | .error x => x
theorem num1 (zs : List Int) (p : Nat) : num zs p 1 = zs.getD p 0 := rfl
theorem num4 (zs : List Int) (p : Nat) : num zs p 4 = le4 zs p := rfl
theorem word_take (zs : List Int) (p n : Nat) (hn : n = 1 ∨ n = 4) (h : p + n ≤ zs.length) : wordS ((zs.drop p).take n) = num zs p n := by
  have g : ∀ i, i < n → ((zs.drop p).take n).getD i 0 = zs.getD (p + i) 0 := fun i hi => by
    simp [List.getD_eq_getElem?_getD, List.getElem?_take, hi, List.getElem?_drop]
  have o : ∀ i, n ≤ i → ((zs.drop p).take n).getD i 0 = 0 := fun i hi => by
    simp [List.getD_eq_getElem?_getD, List.getElem?_take, Nat.not_lt.2 hi]
  rcases hn with rfl | rfl
  · unfold wordS
    rw [g 0 (by decide), o 1 (by decide), o 2 (by decide), o 3 (by decide)]
    simp [num]
  · unfold wordS
    rw [g 0 (by decide), g 1 (by decide), g 2 (by decide), g 3 (by decide)]
    simp [num, le4]
theorem openM_bd {zs : List Int} (hz : ∀ z ∈ zs, 0 ≤ z ∧ z ≤ 255) {c : Int} {p : Nat} (h : openM zs = some (c, p)) : 0 ≤ c ∧ c ≤ 65535 ∧ p ≤ zs.length := by
  have b0 := getD_bd hz 0
  have b1 := getD_bd hz 1
  unfold openM at h
  split at h
  · split at h
    · split at h
      · obtain ⟨rfl, rfl⟩ := Prod.mk.inj (Option.some.inj h); omega
      · cases h
    · obtain ⟨rfl, rfl⟩ := Prod.mk.inj (Option.some.inj h); omega
  · cases h
end Go.Proofs.YtcdoidnfdkodoaaGreatDoor
