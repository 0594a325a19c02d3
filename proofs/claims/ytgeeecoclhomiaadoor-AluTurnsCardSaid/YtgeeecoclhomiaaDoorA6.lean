/- Shift, operation by operation. -/
import Derived.Test.YtgeeecoclhomiaaDoorA5
import Derived.Deep.RegionHeld
namespace Go.Proofs.YtgeeecoclhomiaaDoor
open Go.RowKit
set_option linter.unusedVariables false
set_option linter.unusedSimpArgs false
set_option linter.unusedSectionVars false

theorem wrap_i32 (x : Int) : IntKind.i32.wrap x = wrap32 x := IntWalk.i32_left x
/-- OF behind a shift by k. -/
def ofL (k : Nat) (a r : Int) (f : Nat → Bool) : Bool := if k = 1 then !(bitB a 31 == bitB r 31) else f 5
theorem shifted_any (op : Int) (c : Nat) (hc8 : c < 8) (hc : ClassIs op c) (a r : Int) (k last : Nat) (hk : 1 ≤ k ∧ k ≤ 31) (f : Nat → Bool) (h : 0 ≤ a ∧ a ≤ 4294967295) (hr : 0 ≤ r ∧ r ≤ 4294967295) (hl : last ≤ 32) (w : World) (tabs : Tabs w) :
    Calls Tryd.prog 32 #[.int .i64 op, .int .u32 a, .int .u32 r, .int .i64 (k : Int), .int .i64 (last : Int), flV f] w fun e w' => e = .returned (.tuple #[.int .u32 r, flV (mixL (wrT c) f (shF a r last (ofL k a r f)))]) ∧ Below w.heap.size w w' := by
  by_cases h1 : k = 1
  · subst h1
    exact shifted_one op c hc8 hc a r last f h hr hl w tabs
  · have := shifted_more op c hc8 hc a r (k : Int) (by simp; omega) last f h hr hl w tabs
    unfold ofL
    rw [if_neg h1]
    exact this
/-- Flags behind a shift of class c. -/
def shG (c k : Nat) (a r : Int) (last : Nat) (f : Nat → Bool) : Nat → Bool := mixL (wrT c) f (shF a r last (ofL k a r f))
abbrev ShiftsTo (op a n : Int) (f : Nat → Bool) (R : Int) (G : Nat → Bool) : Prop := ∀ w, Tabs w → Calls Tryd.prog 19 #[.int .i64 op, .int .u32 a, .int .u32 n, flV f] w fun e w' => e = .returned (.tuple #[.int .u32 R, flV G]) ∧ Below w.heap.size w w'
theorem shift_zero (op a n : Int) (f : Nat → Bool) (hn : 0 ≤ n ∧ n ≤ 4294967295) (h0 : n % 32 = 0) : ShiftsTo op a n f a f := by
  intro w tabs
  go_enter Tryd.func19, Tryd.ntmps19
  go_wp2
  go_region
  go_wp2
  have k : Blk (((w.alloc (.cells (fl6 f) 24)).alloc (.cells (fl6 f) 24)).drew) (w.heap.size + 1) 24 (fl6 f) := by simpa using (Blk.new (w.alloc (.cells (fl6 f) 24)) 24 (fl6 f)).drew
  refine bodyPost_ret (v := .tuple #[.int .u32 a, flV f]) (res_sc rfl _ _ (w.heap.size + 1) f _ rfl rfl k) rfl ⟨rfl, ?_⟩
  exact (((Below.refl _ _).alloc (Nat.le_refl _) _).alloc (by simp) _).drew

set_option maxHeartbeats 2000000 in
theorem shift_shl (a n : Int) (f : Nat → Bool) (k : Nat) (hk : 1 ≤ k ∧ k ≤ 31) (h : 0 ≤ a ∧ a ≤ 4294967295) (hn : 0 ≤ n ∧ n ≤ 4294967295) (hm : n % 32 = (k : Int)) (hR : 0 ≤ a * 2 ^ k % 4294967296 ∧ a * 2 ^ k % 4294967296 ≤ 4294967295) :
    ShiftsTo 23 a n f (a * 2 ^ k % 4294967296) (shG 4 k a (a * 2 ^ k % 4294967296) (32 - k) f) := by
  intro w tabs
  have qS := fun W tabs => shifted_any 23 4 (by decide) classOf_23 a (a * 2 ^ k % 4294967296) k (32 - k) hk f h hR (by omega) W tabs
  rw [show ((32 - k : Nat) : Int) = 32 - (k : Int) by omega, show mixL (wrT 4) f (shF a (a * 2 ^ k % 4294967296) (32 - k) (ofL k a (a * 2 ^ k % 4294967296) f)) = shG 4 k a (a * 2 ^ k % 4294967296) (32 - k) f from rfl] at qS
  generalize shG 4 k a (a * 2 ^ k % 4294967296) (32 - k) f = g at *
  obtain ⟨R, eR⟩ : ∃ R, R = a * 2 ^ k % 4294967296 := ⟨_, rfl⟩
  have eW : IntKind.u32.wrap (a * 2 ^ k) = R := by subst eR; (try simp only [IntKind.wrap_u32, wrap_i32])
  rw [← eR] at qS ⊢
  clear hR
  rw [← eW] at qS
  replace eW := Lib.hid eW
  clear eR
  replace qS := Lib.hid qS
  have hk0 : ((k : Int) == 0) = false := by simp; omega
  have hk1 : (0 : Int) ≤ (k : Int) := by omega
  have hk2 : (k : Int) ≤ 31 := by omega
  have hk3 : (32 - (k : Int)).toNat = 32 - k := by omega
  have hw1 : IntKind.i64.wrap (32 - (k : Int)) = 32 - (k : Int) := by rw [IntKind.wrap_i64]; omega
  have hw2 : IntKind.i64.wrap ((k : Int) - 1) = (k : Int) - 1 := by rw [IntKind.wrap_i64]; omega
  have kF := (Blk.new w 24 (fl6 f)).alloc (.cells (fl6 fun _ => false) 24)
  have kR := Blk.new (w.alloc (.cells (fl6 f) 24)) 24 (fl6 fun _ => false)
  rw [World.size_alloc] at kR
  have kb : Below w.heap.size w ((w.alloc (.cells (fl6 f) 24)).alloc (.cells (fl6 fun _ => false) 24)) := ((Below.refl _ _).alloc (Nat.le_refl _) _).alloc (by simp) _
  go_enter Tryd.func19, Tryd.ntmps19
  go_wp2_with fail
  generalize (w.alloc (.cells (fl6 f) 24)).alloc (.cells (fl6 fun _ => false) 24) = w1 at kF kR kb ⊢
  generalize hN : w.heap.size = N at *
  have hS0 := kF.drew
  replace kR := kR.drew
  replace kb := kb.drew
  refine wp_region_held_drew (S := fun W => Blk W N 24 (fl6 f)) (by kernel_rfl) hS0 (fun hH0 => ?_)
  generalize w1.drew = w2 at *
  have tabs2 := tabs.below (hN ▸ kb)
  have hSB := kb.size
  rw [hN] at hSB
  refine wpAnyH_take (i := 0) (v := ?_) rfl (by kernel_rfl) (by kernel_rfl) (by kernel_rfl) (fun _ _ _ h => h) (Or.inl ⟨by kernel_rfl, ?_⟩) hH0 ?_
  rotate_left
  · intro W hS
    go_simp
    try rfl
  simp only [Act.put, List.setIfInBounds_toArray, List.set_cons_zero, List.set_cons_succ, List.getElem_toArray, List.getElem_cons_succ, List.getElem_cons_zero]
  refine wpAnyH_take (i := 1) (v := ?_) rfl (by kernel_rfl) (by kernel_rfl) (by kernel_rfl) (fun _ _ _ h => h) (Or.inl ⟨by kernel_rfl, ?_⟩) hH0 ?_
  rotate_left
  · intro W hS
    go_simp
    try rfl
  simp only [Act.put, List.setIfInBounds_toArray, List.set_cons_zero, List.set_cons_succ, List.getElem_toArray, List.getElem_cons_succ, List.getElem_cons_zero]
  refine wpAnyH_take (i := 2) (v := ?_) rfl (by kernel_rfl) (by kernel_rfl) (by kernel_rfl) (fun _ _ _ h => h) (Or.inl ⟨by kernel_rfl, ?_⟩) hH0 ?_
  rotate_left
  · intro W hS
    go_simp
    try rfl
  simp only [Act.put, List.setIfInBounds_toArray, List.set_cons_zero, List.set_cons_succ, List.getElem_toArray, List.getElem_cons_succ, List.getElem_cons_zero]
  refine wpAnyH_take (i := 3) (v := ?_) rfl (by kernel_rfl) (by kernel_rfl) (by kernel_rfl) (fun _ _ _ h => h) (Or.inl ⟨by kernel_rfl, ?_⟩) hH0 ?_
  rotate_left
  · intro W hS
    go_simp
    try rfl
  simp only [Act.put, List.setIfInBounds_toArray, List.set_cons_zero, List.set_cons_succ, List.getElem_toArray, List.getElem_cons_succ, List.getElem_cons_zero]
  refine wpAnyH_take (i := 4) (v := ?_) rfl (by kernel_rfl) (by kernel_rfl) (by kernel_rfl) (fun _ _ _ h => h) (Or.inl ⟨by kernel_rfl, ?_⟩) hH0 ?_
  rotate_left
  · intro W hS
    go_simp
    try rfl
  simp only [Act.put, List.setIfInBounds_toArray, List.set_cons_zero, List.set_cons_succ, List.getElem_toArray, List.getElem_cons_succ, List.getElem_cons_zero]
  refine wpAnyH_take (i := 5) (v := ?_) rfl (by kernel_rfl) (by kernel_rfl) (by kernel_rfl) (fun _ _ _ h => h) (Or.inl ⟨by kernel_rfl, ?_⟩) hH0 ?_
  rotate_left
  · intro W hS
    go_simp
    try rfl
  simp only [Act.put, List.setIfInBounds_toArray, List.set_cons_zero, List.set_cons_succ, List.getElem_toArray, List.getElem_cons_succ, List.getElem_cons_zero]
  refine wpAnyH_take (i := 6) (v := ?_) rfl (by kernel_rfl) (by kernel_rfl) (by kernel_rfl) (fun _ _ _ h => h) (Or.inl ⟨by kernel_rfl, ?_⟩) hH0 ?_
  rotate_left
  · intro W hS
    go_simp
    try rfl
  simp only [Act.put, List.setIfInBounds_toArray, List.set_cons_zero, List.set_cons_succ, List.getElem_toArray, List.getElem_cons_succ, List.getElem_cons_zero]
  refine wpAnyH_take (i := 7) (v := ?_) rfl (by kernel_rfl) (by kernel_rfl) (by kernel_rfl) (fun _ _ _ h => h) (Or.inl ⟨by kernel_rfl, ?_⟩) hH0 ?_
  rotate_left
  · intro W hS
    go_simp
    try rfl
  simp only [Act.put, List.setIfInBounds_toArray, List.set_cons_zero, List.set_cons_succ, List.getElem_toArray, List.getElem_cons_succ, List.getElem_cons_zero]
  refine wpAnyH_take (i := 8) (v := ?_) rfl (by kernel_rfl) (by kernel_rfl) (by kernel_rfl) (fun _ _ _ h => h) (Or.inl ⟨by kernel_rfl, ?_⟩) hH0 ?_
  rotate_left
  · intro W hS
    have c0 := hS.cell (i := 0) (v := .bool (f 0)) rfl
    have c1 := hS.cell (i := 1) (v := .bool (f 1)) rfl
    have c2 := hS.cell (i := 2) (v := .bool (f 2)) rfl
    have c3 := hS.cell (i := 3) (v := .bool (f 3)) rfl
    have c4 := hS.cell (i := 4) (v := .bool (f 4)) rfl
    have c5 := hS.cell (i := 5) (v := .bool (f 5)) rfl
    go_simp
    try rfl
  simp only [Act.put, List.setIfInBounds_toArray, List.set_cons_zero, List.set_cons_succ, List.getElem_toArray, List.getElem_cons_succ, List.getElem_cons_zero]
  refine wpAnyH_ready (rs := [9]) (by kernel_rfl) (by simp) ?_
  refine AllReadyH.cons rfl (fun K hK => ?_) AllReadyH.nil
  go_simp
  with_reducible refine (qS.out _ tabs2).mono ?_
  rintro e w3 ⟨rfl, bb⟩
  have hH1 := hH0.below bb hH0.lt
  replace kR := kR.below bb kR.lt
  replace kb := kb.trans (bb.mono hSB)
  clear bb
  refine hK.out _ _ hH1 (fun _ => ?_)
  clear hK K
  try simp only [Act.put, List.setIfInBounds_toArray, List.set_cons_zero, List.set_cons_succ]
  refine wpAnyH_take (i := 10) (v := ?_) rfl (by kernel_rfl) (by kernel_rfl) (by kernel_rfl) (fun _ _ _ h => h) (Or.inl ⟨by kernel_rfl, ?_⟩) hH1 ?_
  rotate_left
  · intro W hS
    go_simp
    try rfl
  simp only [Act.put, List.setIfInBounds_toArray, List.set_cons_zero, List.set_cons_succ, List.getElem_toArray, List.getElem_cons_succ, List.getElem_cons_zero]
  refine wpAnyH_take (i := 11) (v := ?_) rfl (by kernel_rfl) (by kernel_rfl) (by kernel_rfl) (fun _ _ _ h => h) (Or.inl ⟨by kernel_rfl, ?_⟩) hH1 ?_
  rotate_left
  · intro W hS
    go_simp
    try rfl
  simp only [Act.put, List.setIfInBounds_toArray, List.set_cons_zero, List.set_cons_succ, List.getElem_toArray, List.getElem_cons_succ, List.getElem_cons_zero]
  refine wpAnyH_take (i := 12) (v := ?_) rfl (by kernel_rfl) (by kernel_rfl) (by kernel_rfl) (fun _ _ _ h => h) (Or.inl ⟨by kernel_rfl, ?_⟩) hH1 ?_
  rotate_left
  · intro W hS
    go_simp
    try rfl
  simp only [Act.put, List.setIfInBounds_toArray, List.set_cons_zero, List.set_cons_succ, List.getElem_toArray, List.getElem_cons_succ, List.getElem_cons_zero]
  refine wpAnyH_ready (rs := [13]) (by kernel_rfl) (by simp) ?_
  refine AllReadyH.cons rfl (fun K hK => ?_) AllReadyH.nil
  rw [if_pos]
  rotate_left
  · kernel_rfl
  refine wp_store_row 24 _ _ rfl (N + 1) (fl6 g) rfl rfl 24 (fl6 (fun _ => false)) kR.h (szF g) rfl (fl6_one g) ?_
  have kR2 := kR.row (fl6 g)
  have hH2 := hH1.rowOther (M := N + 1) (fl6 g) (by omega)
  have kb2 := below_rowNew kb (N := N + 1) (by omega) (fl6 g)
  refine hK.out _ _ hH2 (fun _ => ?_)
  clear hK K
  try simp only [Act.put, List.setIfInBounds_toArray, List.set_cons_zero, List.set_cons_succ, List.getElem_toArray, List.getElem_cons_succ, List.getElem_cons_zero]
  refine wpAnyH_done (by kernel_rfl) ?_ _

  go_wp2_with fail
  refine bodyPost_ret (v := .tuple #[.int .u32 (IntKind.u32.wrap (a * 2 ^ k)), flV g]) (res_sc rfl _ _ (N + 1) g _ rfl rfl kR2) rfl ⟨by rw [eW.out], ?_⟩
  rw [hN]
  exact kb2
set_option maxHeartbeats 2000000 in
theorem shift_rol (a n : Int) (f : Nat → Bool) (k : Nat) (hk : 1 ≤ k ∧ k ≤ 31) (h : 0 ≤ a ∧ a ≤ 4294967295) (hn : 0 ≤ n ∧ n ≤ 4294967295) (hm : n % 32 = (k : Int)) (hR : 0 ≤ bits .or .u32 (a * 2 ^ k % 4294967296) (a / 2 ^ (32 - k)) ∧ bits .or .u32 (a * 2 ^ k % 4294967296) (a / 2 ^ (32 - k)) ≤ 4294967295) :
    ShiftsTo 21 a n f (bits .or .u32 (a * 2 ^ k % 4294967296) (a / 2 ^ (32 - k))) (shG 5 k a (bits .or .u32 (a * 2 ^ k % 4294967296) (a / 2 ^ (32 - k))) (32 - k) f) := by
  intro w tabs
  have qS := fun W tabs => shifted_any 21 5 (by decide) classOf_21 a (bits .or .u32 (a * 2 ^ k % 4294967296) (a / 2 ^ (32 - k))) k (32 - k) hk f h hR (by omega) W tabs
  rw [show ((32 - k : Nat) : Int) = 32 - (k : Int) by omega, show mixL (wrT 5) f (shF a (bits .or .u32 (a * 2 ^ k % 4294967296) (a / 2 ^ (32 - k))) (32 - k) (ofL k a (bits .or .u32 (a * 2 ^ k % 4294967296) (a / 2 ^ (32 - k))) f)) = shG 5 k a (bits .or .u32 (a * 2 ^ k % 4294967296) (a / 2 ^ (32 - k))) (32 - k) f from rfl] at qS
  generalize shG 5 k a (bits .or .u32 (a * 2 ^ k % 4294967296) (a / 2 ^ (32 - k))) (32 - k) f = g at *
  obtain ⟨R, eR⟩ : ∃ R, R = bits .or .u32 (a * 2 ^ k % 4294967296) (a / 2 ^ (32 - k)) := ⟨_, rfl⟩
  have eW : bits .or .u32 (IntKind.u32.wrap (a * 2 ^ k)) (a / 2 ^ (32 - k)) = R := by subst eR; (try simp only [IntKind.wrap_u32, wrap_i32])
  rw [← eR] at qS ⊢
  clear hR
  rw [← eW] at qS
  replace eW := Lib.hid eW
  clear eR
  replace qS := Lib.hid qS
  have hk0 : ((k : Int) == 0) = false := by simp; omega
  have hk1 : (0 : Int) ≤ (k : Int) := by omega
  have hk2 : (k : Int) ≤ 31 := by omega
  have hk3 : (32 - (k : Int)).toNat = 32 - k := by omega
  have hw1 : IntKind.i64.wrap (32 - (k : Int)) = 32 - (k : Int) := by rw [IntKind.wrap_i64]; omega
  have hw2 : IntKind.i64.wrap ((k : Int) - 1) = (k : Int) - 1 := by rw [IntKind.wrap_i64]; omega
  have kF := (Blk.new w 24 (fl6 f)).alloc (.cells (fl6 fun _ => false) 24)
  have kR := Blk.new (w.alloc (.cells (fl6 f) 24)) 24 (fl6 fun _ => false)
  rw [World.size_alloc] at kR
  have kb : Below w.heap.size w ((w.alloc (.cells (fl6 f) 24)).alloc (.cells (fl6 fun _ => false) 24)) := ((Below.refl _ _).alloc (Nat.le_refl _) _).alloc (by simp) _
  go_enter Tryd.func19, Tryd.ntmps19
  go_wp2_with fail
  generalize (w.alloc (.cells (fl6 f) 24)).alloc (.cells (fl6 fun _ => false) 24) = w1 at kF kR kb ⊢
  generalize hN : w.heap.size = N at *
  have hS0 := kF.drew
  replace kR := kR.drew
  replace kb := kb.drew
  refine wp_region_held_drew (S := fun W => Blk W N 24 (fl6 f)) (by kernel_rfl) hS0 (fun hH0 => ?_)
  generalize w1.drew = w2 at *
  have tabs2 := tabs.below (hN ▸ kb)
  have hSB := kb.size
  rw [hN] at hSB
  refine wpAnyH_take (i := 0) (v := ?_) rfl (by kernel_rfl) (by kernel_rfl) (by kernel_rfl) (fun _ _ _ h => h) (Or.inl ⟨by kernel_rfl, ?_⟩) hH0 ?_
  rotate_left
  · intro W hS
    go_simp
    try rfl
  simp only [Act.put, List.setIfInBounds_toArray, List.set_cons_zero, List.set_cons_succ, List.getElem_toArray, List.getElem_cons_succ, List.getElem_cons_zero]
  refine wpAnyH_take (i := 1) (v := ?_) rfl (by kernel_rfl) (by kernel_rfl) (by kernel_rfl) (fun _ _ _ h => h) (Or.inl ⟨by kernel_rfl, ?_⟩) hH0 ?_
  rotate_left
  · intro W hS
    go_simp
    try rfl
  simp only [Act.put, List.setIfInBounds_toArray, List.set_cons_zero, List.set_cons_succ, List.getElem_toArray, List.getElem_cons_succ, List.getElem_cons_zero]
  refine wpAnyH_take (i := 2) (v := ?_) rfl (by kernel_rfl) (by kernel_rfl) (by kernel_rfl) (fun _ _ _ h => h) (Or.inl ⟨by kernel_rfl, ?_⟩) hH0 ?_
  rotate_left
  · intro W hS
    go_simp
    try rfl
  simp only [Act.put, List.setIfInBounds_toArray, List.set_cons_zero, List.set_cons_succ, List.getElem_toArray, List.getElem_cons_succ, List.getElem_cons_zero]
  refine wpAnyH_take (i := 3) (v := ?_) rfl (by kernel_rfl) (by kernel_rfl) (by kernel_rfl) (fun _ _ _ h => h) (Or.inl ⟨by kernel_rfl, ?_⟩) hH0 ?_
  rotate_left
  · intro W hS
    go_simp
    try rfl
  simp only [Act.put, List.setIfInBounds_toArray, List.set_cons_zero, List.set_cons_succ, List.getElem_toArray, List.getElem_cons_succ, List.getElem_cons_zero]
  refine wpAnyH_take (i := 4) (v := ?_) rfl (by kernel_rfl) (by kernel_rfl) (by kernel_rfl) (fun _ _ _ h => h) (Or.inl ⟨by kernel_rfl, ?_⟩) hH0 ?_
  rotate_left
  · intro W hS
    go_simp
    try rfl
  simp only [Act.put, List.setIfInBounds_toArray, List.set_cons_zero, List.set_cons_succ, List.getElem_toArray, List.getElem_cons_succ, List.getElem_cons_zero]
  refine wpAnyH_take (i := 5) (v := ?_) rfl (by kernel_rfl) (by kernel_rfl) (by kernel_rfl) (fun _ _ _ h => h) (Or.inl ⟨by kernel_rfl, ?_⟩) hH0 ?_
  rotate_left
  · intro W hS
    go_simp
    try rfl
  simp only [Act.put, List.setIfInBounds_toArray, List.set_cons_zero, List.set_cons_succ, List.getElem_toArray, List.getElem_cons_succ, List.getElem_cons_zero]
  refine wpAnyH_take (i := 6) (v := ?_) rfl (by kernel_rfl) (by kernel_rfl) (by kernel_rfl) (fun _ _ _ h => h) (Or.inl ⟨by kernel_rfl, ?_⟩) hH0 ?_
  rotate_left
  · intro W hS
    go_simp
    try rfl
  simp only [Act.put, List.setIfInBounds_toArray, List.set_cons_zero, List.set_cons_succ, List.getElem_toArray, List.getElem_cons_succ, List.getElem_cons_zero]
  refine wpAnyH_take (i := 7) (v := ?_) rfl (by kernel_rfl) (by kernel_rfl) (by kernel_rfl) (fun _ _ _ h => h) (Or.inl ⟨by kernel_rfl, ?_⟩) hH0 ?_
  rotate_left
  · intro W hS
    go_simp
    try rfl
  simp only [Act.put, List.setIfInBounds_toArray, List.set_cons_zero, List.set_cons_succ, List.getElem_toArray, List.getElem_cons_succ, List.getElem_cons_zero]
  refine wpAnyH_take (i := 8) (v := ?_) rfl (by kernel_rfl) (by kernel_rfl) (by kernel_rfl) (fun _ _ _ h => h) (Or.inl ⟨by kernel_rfl, ?_⟩) hH0 ?_
  rotate_left
  · intro W hS
    go_simp
    try rfl
  simp only [Act.put, List.setIfInBounds_toArray, List.set_cons_zero, List.set_cons_succ, List.getElem_toArray, List.getElem_cons_succ, List.getElem_cons_zero]
  refine wpAnyH_take (i := 9) (v := ?_) rfl (by kernel_rfl) (by kernel_rfl) (by kernel_rfl) (fun _ _ _ h => h) (Or.inl ⟨by kernel_rfl, ?_⟩) hH0 ?_
  rotate_left
  · intro W hS
    go_simp
    try rfl
  simp only [Act.put, List.setIfInBounds_toArray, List.set_cons_zero, List.set_cons_succ, List.getElem_toArray, List.getElem_cons_succ, List.getElem_cons_zero]
  refine wpAnyH_take (i := 10) (v := ?_) rfl (by kernel_rfl) (by kernel_rfl) (by kernel_rfl) (fun _ _ _ h => h) (Or.inl ⟨by kernel_rfl, ?_⟩) hH0 ?_
  rotate_left
  · intro W hS
    go_simp
    try rfl
  simp only [Act.put, List.setIfInBounds_toArray, List.set_cons_zero, List.set_cons_succ, List.getElem_toArray, List.getElem_cons_succ, List.getElem_cons_zero]
  refine wpAnyH_take (i := 11) (v := ?_) rfl (by kernel_rfl) (by kernel_rfl) (by kernel_rfl) (fun _ _ _ h => h) (Or.inl ⟨by kernel_rfl, ?_⟩) hH0 ?_
  rotate_left
  · intro W hS
    go_simp
    try rfl
  simp only [Act.put, List.setIfInBounds_toArray, List.set_cons_zero, List.set_cons_succ, List.getElem_toArray, List.getElem_cons_succ, List.getElem_cons_zero]
  refine wpAnyH_take (i := 12) (v := ?_) rfl (by kernel_rfl) (by kernel_rfl) (by kernel_rfl) (fun _ _ _ h => h) (Or.inl ⟨by kernel_rfl, ?_⟩) hH0 ?_
  rotate_left
  · intro W hS
    go_simp
    try rfl
  simp only [Act.put, List.setIfInBounds_toArray, List.set_cons_zero, List.set_cons_succ, List.getElem_toArray, List.getElem_cons_succ, List.getElem_cons_zero]
  refine wpAnyH_take (i := 13) (v := ?_) rfl (by kernel_rfl) (by kernel_rfl) (by kernel_rfl) (fun _ _ _ h => h) (Or.inl ⟨by kernel_rfl, ?_⟩) hH0 ?_
  rotate_left
  · intro W hS
    have c0 := hS.cell (i := 0) (v := .bool (f 0)) rfl
    have c1 := hS.cell (i := 1) (v := .bool (f 1)) rfl
    have c2 := hS.cell (i := 2) (v := .bool (f 2)) rfl
    have c3 := hS.cell (i := 3) (v := .bool (f 3)) rfl
    have c4 := hS.cell (i := 4) (v := .bool (f 4)) rfl
    have c5 := hS.cell (i := 5) (v := .bool (f 5)) rfl
    go_simp
    try rfl
  simp only [Act.put, List.setIfInBounds_toArray, List.set_cons_zero, List.set_cons_succ, List.getElem_toArray, List.getElem_cons_succ, List.getElem_cons_zero]
  refine wpAnyH_ready (rs := [14]) (by kernel_rfl) (by simp) ?_
  refine AllReadyH.cons rfl (fun K hK => ?_) AllReadyH.nil
  go_simp
  with_reducible refine (qS.out _ tabs2).mono ?_
  rintro e w3 ⟨rfl, bb⟩
  have hH1 := hH0.below bb hH0.lt
  replace kR := kR.below bb kR.lt
  replace kb := kb.trans (bb.mono hSB)
  clear bb
  refine hK.out _ _ hH1 (fun _ => ?_)
  clear hK K
  try simp only [Act.put, List.setIfInBounds_toArray, List.set_cons_zero, List.set_cons_succ]
  refine wpAnyH_take (i := 15) (v := ?_) rfl (by kernel_rfl) (by kernel_rfl) (by kernel_rfl) (fun _ _ _ h => h) (Or.inl ⟨by kernel_rfl, ?_⟩) hH1 ?_
  rotate_left
  · intro W hS
    go_simp
    try rfl
  simp only [Act.put, List.setIfInBounds_toArray, List.set_cons_zero, List.set_cons_succ, List.getElem_toArray, List.getElem_cons_succ, List.getElem_cons_zero]
  refine wpAnyH_take (i := 16) (v := ?_) rfl (by kernel_rfl) (by kernel_rfl) (by kernel_rfl) (fun _ _ _ h => h) (Or.inl ⟨by kernel_rfl, ?_⟩) hH1 ?_
  rotate_left
  · intro W hS
    go_simp
    try rfl
  simp only [Act.put, List.setIfInBounds_toArray, List.set_cons_zero, List.set_cons_succ, List.getElem_toArray, List.getElem_cons_succ, List.getElem_cons_zero]
  refine wpAnyH_take (i := 17) (v := ?_) rfl (by kernel_rfl) (by kernel_rfl) (by kernel_rfl) (fun _ _ _ h => h) (Or.inl ⟨by kernel_rfl, ?_⟩) hH1 ?_
  rotate_left
  · intro W hS
    go_simp
    try rfl
  simp only [Act.put, List.setIfInBounds_toArray, List.set_cons_zero, List.set_cons_succ, List.getElem_toArray, List.getElem_cons_succ, List.getElem_cons_zero]
  refine wpAnyH_ready (rs := [18]) (by kernel_rfl) (by simp) ?_
  refine AllReadyH.cons rfl (fun K hK => ?_) AllReadyH.nil
  rw [if_pos]
  rotate_left
  · kernel_rfl
  refine wp_store_row 24 _ _ rfl (N + 1) (fl6 g) rfl rfl 24 (fl6 (fun _ => false)) kR.h (szF g) rfl (fl6_one g) ?_
  have kR2 := kR.row (fl6 g)
  have hH2 := hH1.rowOther (M := N + 1) (fl6 g) (by omega)
  have kb2 := below_rowNew kb (N := N + 1) (by omega) (fl6 g)
  refine hK.out _ _ hH2 (fun _ => ?_)
  clear hK K
  try simp only [Act.put, List.setIfInBounds_toArray, List.set_cons_zero, List.set_cons_succ, List.getElem_toArray, List.getElem_cons_succ, List.getElem_cons_zero]
  refine wpAnyH_done (by kernel_rfl) ?_ _

  go_wp2_with fail
  refine bodyPost_ret (v := .tuple #[.int .u32 (bits .or .u32 (IntKind.u32.wrap (a * 2 ^ k)) (a / 2 ^ (32 - k))), flV g]) (res_sc rfl _ _ (N + 1) g _ rfl rfl kR2) rfl ⟨by rw [eW.out], ?_⟩
  rw [hN]
  exact kb2
set_option maxHeartbeats 2000000 in
theorem shift_shr (a n : Int) (f : Nat → Bool) (k : Nat) (hk : 1 ≤ k ∧ k ≤ 31) (h : 0 ≤ a ∧ a ≤ 4294967295) (hn : 0 ≤ n ∧ n ≤ 4294967295) (hm : n % 32 = (k : Int)) (hR : 0 ≤ a / 2 ^ k ∧ a / 2 ^ k ≤ 4294967295) :
    ShiftsTo 24 a n f (a / 2 ^ k) (shG 4 k a (a / 2 ^ k) (k - 1) f) := by
  intro w tabs
  have qS := fun W tabs => shifted_any 24 4 (by decide) classOf_24 a (a / 2 ^ k) k (k - 1) hk f h hR (by omega) W tabs
  rw [show ((k - 1 : Nat) : Int) = (k : Int) - 1 by omega, show mixL (wrT 4) f (shF a (a / 2 ^ k) (k - 1) (ofL k a (a / 2 ^ k) f)) = shG 4 k a (a / 2 ^ k) (k - 1) f from rfl] at qS
  generalize shG 4 k a (a / 2 ^ k) (k - 1) f = g at *
  obtain ⟨R, eR⟩ : ∃ R, R = a / 2 ^ k := ⟨_, rfl⟩
  have eW : a / 2 ^ k = R := by subst eR; (try simp only [IntKind.wrap_u32, wrap_i32])
  rw [← eR] at qS ⊢
  clear hR
  rw [← eW] at qS
  replace eW := Lib.hid eW
  clear eR
  replace qS := Lib.hid qS
  have hk0 : ((k : Int) == 0) = false := by simp; omega
  have hk1 : (0 : Int) ≤ (k : Int) := by omega
  have hk2 : (k : Int) ≤ 31 := by omega
  have hk3 : (32 - (k : Int)).toNat = 32 - k := by omega
  have hw1 : IntKind.i64.wrap (32 - (k : Int)) = 32 - (k : Int) := by rw [IntKind.wrap_i64]; omega
  have hw2 : IntKind.i64.wrap ((k : Int) - 1) = (k : Int) - 1 := by rw [IntKind.wrap_i64]; omega
  have kF := (Blk.new w 24 (fl6 f)).alloc (.cells (fl6 fun _ => false) 24)
  have kR := Blk.new (w.alloc (.cells (fl6 f) 24)) 24 (fl6 fun _ => false)
  rw [World.size_alloc] at kR
  have kb : Below w.heap.size w ((w.alloc (.cells (fl6 f) 24)).alloc (.cells (fl6 fun _ => false) 24)) := ((Below.refl _ _).alloc (Nat.le_refl _) _).alloc (by simp) _
  go_enter Tryd.func19, Tryd.ntmps19
  go_wp2_with fail
  generalize (w.alloc (.cells (fl6 f) 24)).alloc (.cells (fl6 fun _ => false) 24) = w1 at kF kR kb ⊢
  generalize hN : w.heap.size = N at *
  have hS0 := kF.drew
  replace kR := kR.drew
  replace kb := kb.drew
  refine wp_region_held_drew (S := fun W => Blk W N 24 (fl6 f)) (by kernel_rfl) hS0 (fun hH0 => ?_)
  generalize w1.drew = w2 at *
  have tabs2 := tabs.below (hN ▸ kb)
  have hSB := kb.size
  rw [hN] at hSB
  refine wpAnyH_take (i := 0) (v := ?_) rfl (by kernel_rfl) (by kernel_rfl) (by kernel_rfl) (fun _ _ _ h => h) (Or.inl ⟨by kernel_rfl, ?_⟩) hH0 ?_
  rotate_left
  · intro W hS
    go_simp
    try rfl
  simp only [Act.put, List.setIfInBounds_toArray, List.set_cons_zero, List.set_cons_succ, List.getElem_toArray, List.getElem_cons_succ, List.getElem_cons_zero]
  refine wpAnyH_take (i := 1) (v := ?_) rfl (by kernel_rfl) (by kernel_rfl) (by kernel_rfl) (fun _ _ _ h => h) (Or.inl ⟨by kernel_rfl, ?_⟩) hH0 ?_
  rotate_left
  · intro W hS
    go_simp
    try rfl
  simp only [Act.put, List.setIfInBounds_toArray, List.set_cons_zero, List.set_cons_succ, List.getElem_toArray, List.getElem_cons_succ, List.getElem_cons_zero]
  refine wpAnyH_take (i := 2) (v := ?_) rfl (by kernel_rfl) (by kernel_rfl) (by kernel_rfl) (fun _ _ _ h => h) (Or.inl ⟨by kernel_rfl, ?_⟩) hH0 ?_
  rotate_left
  · intro W hS
    go_simp
    try rfl
  simp only [Act.put, List.setIfInBounds_toArray, List.set_cons_zero, List.set_cons_succ, List.getElem_toArray, List.getElem_cons_succ, List.getElem_cons_zero]
  refine wpAnyH_take (i := 3) (v := ?_) rfl (by kernel_rfl) (by kernel_rfl) (by kernel_rfl) (fun _ _ _ h => h) (Or.inl ⟨by kernel_rfl, ?_⟩) hH0 ?_
  rotate_left
  · intro W hS
    go_simp
    try rfl
  simp only [Act.put, List.setIfInBounds_toArray, List.set_cons_zero, List.set_cons_succ, List.getElem_toArray, List.getElem_cons_succ, List.getElem_cons_zero]
  refine wpAnyH_take (i := 4) (v := ?_) rfl (by kernel_rfl) (by kernel_rfl) (by kernel_rfl) (fun _ _ _ h => h) (Or.inl ⟨by kernel_rfl, ?_⟩) hH0 ?_
  rotate_left
  · intro W hS
    go_simp
    try rfl
  simp only [Act.put, List.setIfInBounds_toArray, List.set_cons_zero, List.set_cons_succ, List.getElem_toArray, List.getElem_cons_succ, List.getElem_cons_zero]
  refine wpAnyH_take (i := 5) (v := ?_) rfl (by kernel_rfl) (by kernel_rfl) (by kernel_rfl) (fun _ _ _ h => h) (Or.inl ⟨by kernel_rfl, ?_⟩) hH0 ?_
  rotate_left
  · intro W hS
    go_simp
    try rfl
  simp only [Act.put, List.setIfInBounds_toArray, List.set_cons_zero, List.set_cons_succ, List.getElem_toArray, List.getElem_cons_succ, List.getElem_cons_zero]
  refine wpAnyH_take (i := 6) (v := ?_) rfl (by kernel_rfl) (by kernel_rfl) (by kernel_rfl) (fun _ _ _ h => h) (Or.inl ⟨by kernel_rfl, ?_⟩) hH0 ?_
  rotate_left
  · intro W hS
    go_simp
    try rfl
  simp only [Act.put, List.setIfInBounds_toArray, List.set_cons_zero, List.set_cons_succ, List.getElem_toArray, List.getElem_cons_succ, List.getElem_cons_zero]
  refine wpAnyH_take (i := 7) (v := ?_) rfl (by kernel_rfl) (by kernel_rfl) (by kernel_rfl) (fun _ _ _ h => h) (Or.inl ⟨by kernel_rfl, ?_⟩) hH0 ?_
  rotate_left
  · intro W hS
    go_simp
    try rfl
  simp only [Act.put, List.setIfInBounds_toArray, List.set_cons_zero, List.set_cons_succ, List.getElem_toArray, List.getElem_cons_succ, List.getElem_cons_zero]
  refine wpAnyH_take (i := 8) (v := ?_) rfl (by kernel_rfl) (by kernel_rfl) (by kernel_rfl) (fun _ _ _ h => h) (Or.inl ⟨by kernel_rfl, ?_⟩) hH0 ?_
  rotate_left
  · intro W hS
    have c0 := hS.cell (i := 0) (v := .bool (f 0)) rfl
    have c1 := hS.cell (i := 1) (v := .bool (f 1)) rfl
    have c2 := hS.cell (i := 2) (v := .bool (f 2)) rfl
    have c3 := hS.cell (i := 3) (v := .bool (f 3)) rfl
    have c4 := hS.cell (i := 4) (v := .bool (f 4)) rfl
    have c5 := hS.cell (i := 5) (v := .bool (f 5)) rfl
    go_simp
    try rfl
  simp only [Act.put, List.setIfInBounds_toArray, List.set_cons_zero, List.set_cons_succ, List.getElem_toArray, List.getElem_cons_succ, List.getElem_cons_zero]
  refine wpAnyH_ready (rs := [9]) (by kernel_rfl) (by simp) ?_
  refine AllReadyH.cons rfl (fun K hK => ?_) AllReadyH.nil
  go_simp
  with_reducible refine (qS.out _ tabs2).mono ?_
  rintro e w3 ⟨rfl, bb⟩
  have hH1 := hH0.below bb hH0.lt
  replace kR := kR.below bb kR.lt
  replace kb := kb.trans (bb.mono hSB)
  clear bb
  refine hK.out _ _ hH1 (fun _ => ?_)
  clear hK K
  try simp only [Act.put, List.setIfInBounds_toArray, List.set_cons_zero, List.set_cons_succ]
  refine wpAnyH_take (i := 10) (v := ?_) rfl (by kernel_rfl) (by kernel_rfl) (by kernel_rfl) (fun _ _ _ h => h) (Or.inl ⟨by kernel_rfl, ?_⟩) hH1 ?_
  rotate_left
  · intro W hS
    go_simp
    try rfl
  simp only [Act.put, List.setIfInBounds_toArray, List.set_cons_zero, List.set_cons_succ, List.getElem_toArray, List.getElem_cons_succ, List.getElem_cons_zero]
  refine wpAnyH_take (i := 11) (v := ?_) rfl (by kernel_rfl) (by kernel_rfl) (by kernel_rfl) (fun _ _ _ h => h) (Or.inl ⟨by kernel_rfl, ?_⟩) hH1 ?_
  rotate_left
  · intro W hS
    go_simp
    try rfl
  simp only [Act.put, List.setIfInBounds_toArray, List.set_cons_zero, List.set_cons_succ, List.getElem_toArray, List.getElem_cons_succ, List.getElem_cons_zero]
  refine wpAnyH_take (i := 12) (v := ?_) rfl (by kernel_rfl) (by kernel_rfl) (by kernel_rfl) (fun _ _ _ h => h) (Or.inl ⟨by kernel_rfl, ?_⟩) hH1 ?_
  rotate_left
  · intro W hS
    go_simp
    try rfl
  simp only [Act.put, List.setIfInBounds_toArray, List.set_cons_zero, List.set_cons_succ, List.getElem_toArray, List.getElem_cons_succ, List.getElem_cons_zero]
  refine wpAnyH_ready (rs := [13]) (by kernel_rfl) (by simp) ?_
  refine AllReadyH.cons rfl (fun K hK => ?_) AllReadyH.nil
  rw [if_pos]
  rotate_left
  · kernel_rfl
  refine wp_store_row 24 _ _ rfl (N + 1) (fl6 g) rfl rfl 24 (fl6 (fun _ => false)) kR.h (szF g) rfl (fl6_one g) ?_
  have kR2 := kR.row (fl6 g)
  have hH2 := hH1.rowOther (M := N + 1) (fl6 g) (by omega)
  have kb2 := below_rowNew kb (N := N + 1) (by omega) (fl6 g)
  refine hK.out _ _ hH2 (fun _ => ?_)
  clear hK K
  try simp only [Act.put, List.setIfInBounds_toArray, List.set_cons_zero, List.set_cons_succ, List.getElem_toArray, List.getElem_cons_succ, List.getElem_cons_zero]
  refine wpAnyH_done (by kernel_rfl) ?_ _

  go_wp2_with fail
  refine bodyPost_ret (v := .tuple #[.int .u32 (a / 2 ^ k), flV g]) (res_sc rfl _ _ (N + 1) g _ rfl rfl kR2) rfl ⟨by rw [eW.out], ?_⟩
  rw [hN]
  exact kb2
set_option maxHeartbeats 2000000 in
theorem shift_ror (a n : Int) (f : Nat → Bool) (k : Nat) (hk : 1 ≤ k ∧ k ≤ 31) (h : 0 ≤ a ∧ a ≤ 4294967295) (hn : 0 ≤ n ∧ n ≤ 4294967295) (hm : n % 32 = (k : Int)) (hR : 0 ≤ bits .or .u32 (a / 2 ^ k) (a * 2 ^ (32 - k) % 4294967296) ∧ bits .or .u32 (a / 2 ^ k) (a * 2 ^ (32 - k) % 4294967296) ≤ 4294967295) :
    ShiftsTo 22 a n f (bits .or .u32 (a / 2 ^ k) (a * 2 ^ (32 - k) % 4294967296)) (shG 5 k a (bits .or .u32 (a / 2 ^ k) (a * 2 ^ (32 - k) % 4294967296)) (k - 1) f) := by
  intro w tabs
  have qS := fun W tabs => shifted_any 22 5 (by decide) classOf_22 a (bits .or .u32 (a / 2 ^ k) (a * 2 ^ (32 - k) % 4294967296)) k (k - 1) hk f h hR (by omega) W tabs
  rw [show ((k - 1 : Nat) : Int) = (k : Int) - 1 by omega, show mixL (wrT 5) f (shF a (bits .or .u32 (a / 2 ^ k) (a * 2 ^ (32 - k) % 4294967296)) (k - 1) (ofL k a (bits .or .u32 (a / 2 ^ k) (a * 2 ^ (32 - k) % 4294967296)) f)) = shG 5 k a (bits .or .u32 (a / 2 ^ k) (a * 2 ^ (32 - k) % 4294967296)) (k - 1) f from rfl] at qS
  generalize shG 5 k a (bits .or .u32 (a / 2 ^ k) (a * 2 ^ (32 - k) % 4294967296)) (k - 1) f = g at *
  obtain ⟨R, eR⟩ : ∃ R, R = bits .or .u32 (a / 2 ^ k) (a * 2 ^ (32 - k) % 4294967296) := ⟨_, rfl⟩
  have eW : bits .or .u32 (a / 2 ^ k) (IntKind.u32.wrap (a * 2 ^ (32 - k))) = R := by subst eR; (try simp only [IntKind.wrap_u32, wrap_i32])
  rw [← eR] at qS ⊢
  clear hR
  rw [← eW] at qS
  replace eW := Lib.hid eW
  clear eR
  replace qS := Lib.hid qS
  have hk0 : ((k : Int) == 0) = false := by simp; omega
  have hk1 : (0 : Int) ≤ (k : Int) := by omega
  have hk2 : (k : Int) ≤ 31 := by omega
  have hk3 : (32 - (k : Int)).toNat = 32 - k := by omega
  have hw1 : IntKind.i64.wrap (32 - (k : Int)) = 32 - (k : Int) := by rw [IntKind.wrap_i64]; omega
  have hw2 : IntKind.i64.wrap ((k : Int) - 1) = (k : Int) - 1 := by rw [IntKind.wrap_i64]; omega
  have kF := (Blk.new w 24 (fl6 f)).alloc (.cells (fl6 fun _ => false) 24)
  have kR := Blk.new (w.alloc (.cells (fl6 f) 24)) 24 (fl6 fun _ => false)
  rw [World.size_alloc] at kR
  have kb : Below w.heap.size w ((w.alloc (.cells (fl6 f) 24)).alloc (.cells (fl6 fun _ => false) 24)) := ((Below.refl _ _).alloc (Nat.le_refl _) _).alloc (by simp) _
  go_enter Tryd.func19, Tryd.ntmps19
  go_wp2_with fail
  generalize (w.alloc (.cells (fl6 f) 24)).alloc (.cells (fl6 fun _ => false) 24) = w1 at kF kR kb ⊢
  generalize hN : w.heap.size = N at *
  have hS0 := kF.drew
  replace kR := kR.drew
  replace kb := kb.drew
  refine wp_region_held_drew (S := fun W => Blk W N 24 (fl6 f)) (by kernel_rfl) hS0 (fun hH0 => ?_)
  generalize w1.drew = w2 at *
  have tabs2 := tabs.below (hN ▸ kb)
  have hSB := kb.size
  rw [hN] at hSB
  refine wpAnyH_take (i := 0) (v := ?_) rfl (by kernel_rfl) (by kernel_rfl) (by kernel_rfl) (fun _ _ _ h => h) (Or.inl ⟨by kernel_rfl, ?_⟩) hH0 ?_
  rotate_left
  · intro W hS
    go_simp
    try rfl
  simp only [Act.put, List.setIfInBounds_toArray, List.set_cons_zero, List.set_cons_succ, List.getElem_toArray, List.getElem_cons_succ, List.getElem_cons_zero]
  refine wpAnyH_take (i := 1) (v := ?_) rfl (by kernel_rfl) (by kernel_rfl) (by kernel_rfl) (fun _ _ _ h => h) (Or.inl ⟨by kernel_rfl, ?_⟩) hH0 ?_
  rotate_left
  · intro W hS
    go_simp
    try rfl
  simp only [Act.put, List.setIfInBounds_toArray, List.set_cons_zero, List.set_cons_succ, List.getElem_toArray, List.getElem_cons_succ, List.getElem_cons_zero]
  refine wpAnyH_take (i := 2) (v := ?_) rfl (by kernel_rfl) (by kernel_rfl) (by kernel_rfl) (fun _ _ _ h => h) (Or.inl ⟨by kernel_rfl, ?_⟩) hH0 ?_
  rotate_left
  · intro W hS
    go_simp
    try rfl
  simp only [Act.put, List.setIfInBounds_toArray, List.set_cons_zero, List.set_cons_succ, List.getElem_toArray, List.getElem_cons_succ, List.getElem_cons_zero]
  refine wpAnyH_take (i := 3) (v := ?_) rfl (by kernel_rfl) (by kernel_rfl) (by kernel_rfl) (fun _ _ _ h => h) (Or.inl ⟨by kernel_rfl, ?_⟩) hH0 ?_
  rotate_left
  · intro W hS
    go_simp
    try rfl
  simp only [Act.put, List.setIfInBounds_toArray, List.set_cons_zero, List.set_cons_succ, List.getElem_toArray, List.getElem_cons_succ, List.getElem_cons_zero]
  refine wpAnyH_take (i := 4) (v := ?_) rfl (by kernel_rfl) (by kernel_rfl) (by kernel_rfl) (fun _ _ _ h => h) (Or.inl ⟨by kernel_rfl, ?_⟩) hH0 ?_
  rotate_left
  · intro W hS
    go_simp
    try rfl
  simp only [Act.put, List.setIfInBounds_toArray, List.set_cons_zero, List.set_cons_succ, List.getElem_toArray, List.getElem_cons_succ, List.getElem_cons_zero]
  refine wpAnyH_take (i := 5) (v := ?_) rfl (by kernel_rfl) (by kernel_rfl) (by kernel_rfl) (fun _ _ _ h => h) (Or.inl ⟨by kernel_rfl, ?_⟩) hH0 ?_
  rotate_left
  · intro W hS
    go_simp
    try rfl
  simp only [Act.put, List.setIfInBounds_toArray, List.set_cons_zero, List.set_cons_succ, List.getElem_toArray, List.getElem_cons_succ, List.getElem_cons_zero]
  refine wpAnyH_take (i := 6) (v := ?_) rfl (by kernel_rfl) (by kernel_rfl) (by kernel_rfl) (fun _ _ _ h => h) (Or.inl ⟨by kernel_rfl, ?_⟩) hH0 ?_
  rotate_left
  · intro W hS
    go_simp
    try rfl
  simp only [Act.put, List.setIfInBounds_toArray, List.set_cons_zero, List.set_cons_succ, List.getElem_toArray, List.getElem_cons_succ, List.getElem_cons_zero]
  refine wpAnyH_take (i := 7) (v := ?_) rfl (by kernel_rfl) (by kernel_rfl) (by kernel_rfl) (fun _ _ _ h => h) (Or.inl ⟨by kernel_rfl, ?_⟩) hH0 ?_
  rotate_left
  · intro W hS
    go_simp
    try rfl
  simp only [Act.put, List.setIfInBounds_toArray, List.set_cons_zero, List.set_cons_succ, List.getElem_toArray, List.getElem_cons_succ, List.getElem_cons_zero]
  refine wpAnyH_take (i := 8) (v := ?_) rfl (by kernel_rfl) (by kernel_rfl) (by kernel_rfl) (fun _ _ _ h => h) (Or.inl ⟨by kernel_rfl, ?_⟩) hH0 ?_
  rotate_left
  · intro W hS
    go_simp
    try rfl
  simp only [Act.put, List.setIfInBounds_toArray, List.set_cons_zero, List.set_cons_succ, List.getElem_toArray, List.getElem_cons_succ, List.getElem_cons_zero]
  refine wpAnyH_take (i := 9) (v := ?_) rfl (by kernel_rfl) (by kernel_rfl) (by kernel_rfl) (fun _ _ _ h => h) (Or.inl ⟨by kernel_rfl, ?_⟩) hH0 ?_
  rotate_left
  · intro W hS
    go_simp
    try rfl
  simp only [Act.put, List.setIfInBounds_toArray, List.set_cons_zero, List.set_cons_succ, List.getElem_toArray, List.getElem_cons_succ, List.getElem_cons_zero]
  refine wpAnyH_take (i := 10) (v := ?_) rfl (by kernel_rfl) (by kernel_rfl) (by kernel_rfl) (fun _ _ _ h => h) (Or.inl ⟨by kernel_rfl, ?_⟩) hH0 ?_
  rotate_left
  · intro W hS
    go_simp
    try rfl
  simp only [Act.put, List.setIfInBounds_toArray, List.set_cons_zero, List.set_cons_succ, List.getElem_toArray, List.getElem_cons_succ, List.getElem_cons_zero]
  refine wpAnyH_take (i := 11) (v := ?_) rfl (by kernel_rfl) (by kernel_rfl) (by kernel_rfl) (fun _ _ _ h => h) (Or.inl ⟨by kernel_rfl, ?_⟩) hH0 ?_
  rotate_left
  · intro W hS
    go_simp
    try rfl
  simp only [Act.put, List.setIfInBounds_toArray, List.set_cons_zero, List.set_cons_succ, List.getElem_toArray, List.getElem_cons_succ, List.getElem_cons_zero]
  refine wpAnyH_take (i := 12) (v := ?_) rfl (by kernel_rfl) (by kernel_rfl) (by kernel_rfl) (fun _ _ _ h => h) (Or.inl ⟨by kernel_rfl, ?_⟩) hH0 ?_
  rotate_left
  · intro W hS
    go_simp
    try rfl
  simp only [Act.put, List.setIfInBounds_toArray, List.set_cons_zero, List.set_cons_succ, List.getElem_toArray, List.getElem_cons_succ, List.getElem_cons_zero]
  refine wpAnyH_take (i := 13) (v := ?_) rfl (by kernel_rfl) (by kernel_rfl) (by kernel_rfl) (fun _ _ _ h => h) (Or.inl ⟨by kernel_rfl, ?_⟩) hH0 ?_
  rotate_left
  · intro W hS
    have c0 := hS.cell (i := 0) (v := .bool (f 0)) rfl
    have c1 := hS.cell (i := 1) (v := .bool (f 1)) rfl
    have c2 := hS.cell (i := 2) (v := .bool (f 2)) rfl
    have c3 := hS.cell (i := 3) (v := .bool (f 3)) rfl
    have c4 := hS.cell (i := 4) (v := .bool (f 4)) rfl
    have c5 := hS.cell (i := 5) (v := .bool (f 5)) rfl
    go_simp
    try rfl
  simp only [Act.put, List.setIfInBounds_toArray, List.set_cons_zero, List.set_cons_succ, List.getElem_toArray, List.getElem_cons_succ, List.getElem_cons_zero]
  refine wpAnyH_ready (rs := [14]) (by kernel_rfl) (by simp) ?_
  refine AllReadyH.cons rfl (fun K hK => ?_) AllReadyH.nil
  go_simp
  with_reducible refine (qS.out _ tabs2).mono ?_
  rintro e w3 ⟨rfl, bb⟩
  have hH1 := hH0.below bb hH0.lt
  replace kR := kR.below bb kR.lt
  replace kb := kb.trans (bb.mono hSB)
  clear bb
  refine hK.out _ _ hH1 (fun _ => ?_)
  clear hK K
  try simp only [Act.put, List.setIfInBounds_toArray, List.set_cons_zero, List.set_cons_succ]
  refine wpAnyH_take (i := 15) (v := ?_) rfl (by kernel_rfl) (by kernel_rfl) (by kernel_rfl) (fun _ _ _ h => h) (Or.inl ⟨by kernel_rfl, ?_⟩) hH1 ?_
  rotate_left
  · intro W hS
    go_simp
    try rfl
  simp only [Act.put, List.setIfInBounds_toArray, List.set_cons_zero, List.set_cons_succ, List.getElem_toArray, List.getElem_cons_succ, List.getElem_cons_zero]
  refine wpAnyH_take (i := 16) (v := ?_) rfl (by kernel_rfl) (by kernel_rfl) (by kernel_rfl) (fun _ _ _ h => h) (Or.inl ⟨by kernel_rfl, ?_⟩) hH1 ?_
  rotate_left
  · intro W hS
    go_simp
    try rfl
  simp only [Act.put, List.setIfInBounds_toArray, List.set_cons_zero, List.set_cons_succ, List.getElem_toArray, List.getElem_cons_succ, List.getElem_cons_zero]
  refine wpAnyH_take (i := 17) (v := ?_) rfl (by kernel_rfl) (by kernel_rfl) (by kernel_rfl) (fun _ _ _ h => h) (Or.inl ⟨by kernel_rfl, ?_⟩) hH1 ?_
  rotate_left
  · intro W hS
    go_simp
    try rfl
  simp only [Act.put, List.setIfInBounds_toArray, List.set_cons_zero, List.set_cons_succ, List.getElem_toArray, List.getElem_cons_succ, List.getElem_cons_zero]
  refine wpAnyH_ready (rs := [18]) (by kernel_rfl) (by simp) ?_
  refine AllReadyH.cons rfl (fun K hK => ?_) AllReadyH.nil
  rw [if_pos]
  rotate_left
  · kernel_rfl
  refine wp_store_row 24 _ _ rfl (N + 1) (fl6 g) rfl rfl 24 (fl6 (fun _ => false)) kR.h (szF g) rfl (fl6_one g) ?_
  have kR2 := kR.row (fl6 g)
  have hH2 := hH1.rowOther (M := N + 1) (fl6 g) (by omega)
  have kb2 := below_rowNew kb (N := N + 1) (by omega) (fl6 g)
  refine hK.out _ _ hH2 (fun _ => ?_)
  clear hK K
  try simp only [Act.put, List.setIfInBounds_toArray, List.set_cons_zero, List.set_cons_succ, List.getElem_toArray, List.getElem_cons_succ, List.getElem_cons_zero]
  refine wpAnyH_done (by kernel_rfl) ?_ _

  go_wp2_with fail
  refine bodyPost_ret (v := .tuple #[.int .u32 (bits .or .u32 (a / 2 ^ k) (IntKind.u32.wrap (a * 2 ^ (32 - k)))), flV g]) (res_sc rfl _ _ (N + 1) g _ rfl rfl kR2) rfl ⟨by rw [eW.out], ?_⟩
  rw [hN]
  exact kb2
set_option maxHeartbeats 2000000 in
theorem shift_sar (a n : Int) (f : Nat → Bool) (k : Nat) (hk : 1 ≤ k ∧ k ≤ 31) (h : 0 ≤ a ∧ a ≤ 4294967295) (hn : 0 ≤ n ∧ n ≤ 4294967295) (hm : n % 32 = (k : Int)) (hR : 0 ≤ wrap32 a / 2 ^ k % 4294967296 ∧ wrap32 a / 2 ^ k % 4294967296 ≤ 4294967295) :
    ShiftsTo 25 a n f (wrap32 a / 2 ^ k % 4294967296) (shG 4 k a (wrap32 a / 2 ^ k % 4294967296) (k - 1) f) := by
  intro w tabs
  have qS := fun W tabs => shifted_any 25 4 (by decide) classOf_25 a (wrap32 a / 2 ^ k % 4294967296) k (k - 1) hk f h hR (by omega) W tabs
  rw [show ((k - 1 : Nat) : Int) = (k : Int) - 1 by omega, show mixL (wrT 4) f (shF a (wrap32 a / 2 ^ k % 4294967296) (k - 1) (ofL k a (wrap32 a / 2 ^ k % 4294967296) f)) = shG 4 k a (wrap32 a / 2 ^ k % 4294967296) (k - 1) f from rfl] at qS
  generalize shG 4 k a (wrap32 a / 2 ^ k % 4294967296) (k - 1) f = g at *
  obtain ⟨R, eR⟩ : ∃ R, R = wrap32 a / 2 ^ k % 4294967296 := ⟨_, rfl⟩
  have eW : IntKind.u32.wrap (IntKind.i32.wrap a / 2 ^ k) = R := by subst eR; (try simp only [IntKind.wrap_u32, wrap_i32])
  rw [← eR] at qS ⊢
  clear hR
  rw [← eW] at qS
  replace eW := Lib.hid eW
  clear eR
  replace qS := Lib.hid qS
  have hk0 : ((k : Int) == 0) = false := by simp; omega
  have hk1 : (0 : Int) ≤ (k : Int) := by omega
  have hk2 : (k : Int) ≤ 31 := by omega
  have hk3 : (32 - (k : Int)).toNat = 32 - k := by omega
  have hw1 : IntKind.i64.wrap (32 - (k : Int)) = 32 - (k : Int) := by rw [IntKind.wrap_i64]; omega
  have hw2 : IntKind.i64.wrap ((k : Int) - 1) = (k : Int) - 1 := by rw [IntKind.wrap_i64]; omega
  have kF := (Blk.new w 24 (fl6 f)).alloc (.cells (fl6 fun _ => false) 24)
  have kR := Blk.new (w.alloc (.cells (fl6 f) 24)) 24 (fl6 fun _ => false)
  rw [World.size_alloc] at kR
  have kb : Below w.heap.size w ((w.alloc (.cells (fl6 f) 24)).alloc (.cells (fl6 fun _ => false) 24)) := ((Below.refl _ _).alloc (Nat.le_refl _) _).alloc (by simp) _
  go_enter Tryd.func19, Tryd.ntmps19
  go_wp2_with fail
  generalize (w.alloc (.cells (fl6 f) 24)).alloc (.cells (fl6 fun _ => false) 24) = w1 at kF kR kb ⊢
  generalize hN : w.heap.size = N at *
  have hS0 := kF.drew
  replace kR := kR.drew
  replace kb := kb.drew
  refine wp_region_held_drew (S := fun W => Blk W N 24 (fl6 f)) (by kernel_rfl) hS0 (fun hH0 => ?_)
  generalize w1.drew = w2 at *
  have tabs2 := tabs.below (hN ▸ kb)
  have hSB := kb.size
  rw [hN] at hSB
  refine wpAnyH_take (i := 0) (v := ?_) rfl (by kernel_rfl) (by kernel_rfl) (by kernel_rfl) (fun _ _ _ h => h) (Or.inl ⟨by kernel_rfl, ?_⟩) hH0 ?_
  rotate_left
  · intro W hS
    go_simp
    try rfl
  simp only [Act.put, List.setIfInBounds_toArray, List.set_cons_zero, List.set_cons_succ, List.getElem_toArray, List.getElem_cons_succ, List.getElem_cons_zero]
  refine wpAnyH_take (i := 1) (v := ?_) rfl (by kernel_rfl) (by kernel_rfl) (by kernel_rfl) (fun _ _ _ h => h) (Or.inl ⟨by kernel_rfl, ?_⟩) hH0 ?_
  rotate_left
  · intro W hS
    go_simp
    try rfl
  simp only [Act.put, List.setIfInBounds_toArray, List.set_cons_zero, List.set_cons_succ, List.getElem_toArray, List.getElem_cons_succ, List.getElem_cons_zero]
  refine wpAnyH_take (i := 2) (v := ?_) rfl (by kernel_rfl) (by kernel_rfl) (by kernel_rfl) (fun _ _ _ h => h) (Or.inl ⟨by kernel_rfl, ?_⟩) hH0 ?_
  rotate_left
  · intro W hS
    go_simp
    try rfl
  simp only [Act.put, List.setIfInBounds_toArray, List.set_cons_zero, List.set_cons_succ, List.getElem_toArray, List.getElem_cons_succ, List.getElem_cons_zero]
  refine wpAnyH_take (i := 3) (v := ?_) rfl (by kernel_rfl) (by kernel_rfl) (by kernel_rfl) (fun _ _ _ h => h) (Or.inl ⟨by kernel_rfl, ?_⟩) hH0 ?_
  rotate_left
  · intro W hS
    go_simp
    try rfl
  simp only [Act.put, List.setIfInBounds_toArray, List.set_cons_zero, List.set_cons_succ, List.getElem_toArray, List.getElem_cons_succ, List.getElem_cons_zero]
  refine wpAnyH_take (i := 4) (v := ?_) rfl (by kernel_rfl) (by kernel_rfl) (by kernel_rfl) (fun _ _ _ h => h) (Or.inl ⟨by kernel_rfl, ?_⟩) hH0 ?_
  rotate_left
  · intro W hS
    go_simp
    try rfl
  simp only [Act.put, List.setIfInBounds_toArray, List.set_cons_zero, List.set_cons_succ, List.getElem_toArray, List.getElem_cons_succ, List.getElem_cons_zero]
  refine wpAnyH_take (i := 5) (v := ?_) rfl (by kernel_rfl) (by kernel_rfl) (by kernel_rfl) (fun _ _ _ h => h) (Or.inl ⟨by kernel_rfl, ?_⟩) hH0 ?_
  rotate_left
  · intro W hS
    go_simp
    try rfl
  simp only [Act.put, List.setIfInBounds_toArray, List.set_cons_zero, List.set_cons_succ, List.getElem_toArray, List.getElem_cons_succ, List.getElem_cons_zero]
  refine wpAnyH_take (i := 6) (v := ?_) rfl (by kernel_rfl) (by kernel_rfl) (by kernel_rfl) (fun _ _ _ h => h) (Or.inl ⟨by kernel_rfl, ?_⟩) hH0 ?_
  rotate_left
  · intro W hS
    go_simp
    try rfl
  simp only [Act.put, List.setIfInBounds_toArray, List.set_cons_zero, List.set_cons_succ, List.getElem_toArray, List.getElem_cons_succ, List.getElem_cons_zero]
  refine wpAnyH_take (i := 7) (v := ?_) rfl (by kernel_rfl) (by kernel_rfl) (by kernel_rfl) (fun _ _ _ h => h) (Or.inl ⟨by kernel_rfl, ?_⟩) hH0 ?_
  rotate_left
  · intro W hS
    go_simp
    try rfl
  simp only [Act.put, List.setIfInBounds_toArray, List.set_cons_zero, List.set_cons_succ, List.getElem_toArray, List.getElem_cons_succ, List.getElem_cons_zero]
  refine wpAnyH_take (i := 8) (v := ?_) rfl (by kernel_rfl) (by kernel_rfl) (by kernel_rfl) (fun _ _ _ h => h) (Or.inl ⟨by kernel_rfl, ?_⟩) hH0 ?_
  rotate_left
  · intro W hS
    go_simp
    try rfl
  simp only [Act.put, List.setIfInBounds_toArray, List.set_cons_zero, List.set_cons_succ, List.getElem_toArray, List.getElem_cons_succ, List.getElem_cons_zero]
  refine wpAnyH_take (i := 9) (v := ?_) rfl (by kernel_rfl) (by kernel_rfl) (by kernel_rfl) (fun _ _ _ h => h) (Or.inl ⟨by kernel_rfl, ?_⟩) hH0 ?_
  rotate_left
  · intro W hS
    go_simp
    try rfl
  simp only [Act.put, List.setIfInBounds_toArray, List.set_cons_zero, List.set_cons_succ, List.getElem_toArray, List.getElem_cons_succ, List.getElem_cons_zero]
  refine wpAnyH_take (i := 10) (v := ?_) rfl (by kernel_rfl) (by kernel_rfl) (by kernel_rfl) (fun _ _ _ h => h) (Or.inl ⟨by kernel_rfl, ?_⟩) hH0 ?_
  rotate_left
  · intro W hS
    have c0 := hS.cell (i := 0) (v := .bool (f 0)) rfl
    have c1 := hS.cell (i := 1) (v := .bool (f 1)) rfl
    have c2 := hS.cell (i := 2) (v := .bool (f 2)) rfl
    have c3 := hS.cell (i := 3) (v := .bool (f 3)) rfl
    have c4 := hS.cell (i := 4) (v := .bool (f 4)) rfl
    have c5 := hS.cell (i := 5) (v := .bool (f 5)) rfl
    go_simp
    try rfl
  simp only [Act.put, List.setIfInBounds_toArray, List.set_cons_zero, List.set_cons_succ, List.getElem_toArray, List.getElem_cons_succ, List.getElem_cons_zero]
  refine wpAnyH_ready (rs := [11]) (by kernel_rfl) (by simp) ?_
  refine AllReadyH.cons rfl (fun K hK => ?_) AllReadyH.nil
  go_simp
  with_reducible refine (qS.out _ tabs2).mono ?_
  rintro e w3 ⟨rfl, bb⟩
  have hH1 := hH0.below bb hH0.lt
  replace kR := kR.below bb kR.lt
  replace kb := kb.trans (bb.mono hSB)
  clear bb
  refine hK.out _ _ hH1 (fun _ => ?_)
  clear hK K
  try simp only [Act.put, List.setIfInBounds_toArray, List.set_cons_zero, List.set_cons_succ]
  refine wpAnyH_take (i := 12) (v := ?_) rfl (by kernel_rfl) (by kernel_rfl) (by kernel_rfl) (fun _ _ _ h => h) (Or.inl ⟨by kernel_rfl, ?_⟩) hH1 ?_
  rotate_left
  · intro W hS
    go_simp
    try rfl
  simp only [Act.put, List.setIfInBounds_toArray, List.set_cons_zero, List.set_cons_succ, List.getElem_toArray, List.getElem_cons_succ, List.getElem_cons_zero]
  refine wpAnyH_take (i := 13) (v := ?_) rfl (by kernel_rfl) (by kernel_rfl) (by kernel_rfl) (fun _ _ _ h => h) (Or.inl ⟨by kernel_rfl, ?_⟩) hH1 ?_
  rotate_left
  · intro W hS
    go_simp
    try rfl
  simp only [Act.put, List.setIfInBounds_toArray, List.set_cons_zero, List.set_cons_succ, List.getElem_toArray, List.getElem_cons_succ, List.getElem_cons_zero]
  refine wpAnyH_take (i := 14) (v := ?_) rfl (by kernel_rfl) (by kernel_rfl) (by kernel_rfl) (fun _ _ _ h => h) (Or.inl ⟨by kernel_rfl, ?_⟩) hH1 ?_
  rotate_left
  · intro W hS
    go_simp
    try rfl
  simp only [Act.put, List.setIfInBounds_toArray, List.set_cons_zero, List.set_cons_succ, List.getElem_toArray, List.getElem_cons_succ, List.getElem_cons_zero]
  refine wpAnyH_ready (rs := [15]) (by kernel_rfl) (by simp) ?_
  refine AllReadyH.cons rfl (fun K hK => ?_) AllReadyH.nil
  rw [if_pos]
  rotate_left
  · kernel_rfl
  refine wp_store_row 24 _ _ rfl (N + 1) (fl6 g) rfl rfl 24 (fl6 (fun _ => false)) kR.h (szF g) rfl (fl6_one g) ?_
  have kR2 := kR.row (fl6 g)
  have hH2 := hH1.rowOther (M := N + 1) (fl6 g) (by omega)
  have kb2 := below_rowNew kb (N := N + 1) (by omega) (fl6 g)
  refine hK.out _ _ hH2 (fun _ => ?_)
  clear hK K
  try simp only [Act.put, List.setIfInBounds_toArray, List.set_cons_zero, List.set_cons_succ, List.getElem_toArray, List.getElem_cons_succ, List.getElem_cons_zero]
  refine wpAnyH_done (by kernel_rfl) ?_ _

  go_wp2_with fail
  refine bodyPost_ret (v := .tuple #[.int .u32 (IntKind.u32.wrap (IntKind.i32.wrap a / 2 ^ k)), flV g]) (res_sc rfl _ _ (N + 1) g _ rfl rfl kR2) rfl ⟨by rw [eW.out], ?_⟩
  rw [hN]
  exact kb2
end Go.Proofs.YtgeeecoclhomiaaDoor
