/- Products, the document's too. -/
import Derived.Test.YtgeeecoclhomiaaDoorA6
import Derived.Deep.RegionHeld
namespace Go.Proofs.YtgeeecoclhomiaaDoor
open Go.RowKit
set_option linter.unusedVariables false
set_option linter.unusedSimpArgs false
set_option linter.unusedSectionVars false

/-- f with CF and OF as b. -/
def beyF (f : Nat → Bool) (b : Bool) : Nat → Bool
  | 0 => b | 5 => b | i => f i
/-- A word of the sign of x. -/
def signW (x : Int) : Int := wrap32 x / 2147483648 % 4294967296
theorem signOf_any (x : Int) (w : World) : Calls Tryd.prog 25 #[.int .u32 x] w fun e w' => e = .returned (.int .u32 (signW x)) ∧ w = w' := by
  go_enter Tryd.func25, Tryd.ntmps25
  go_wp2
  go_ret
  exact ⟨rfl, rfl⟩
theorem byBeyond_any (op : Int) (hc : ClassIs op 6) (f : Nat → Bool) (b : Bool) (w : World) (tabs : Tabs w) : Calls Tryd.prog 23 #[.int .i64 op, flV f, .bool b] w fun e w' => e = .returned (flV (beyF f b)) ∧ Below w.heap.size w w' := by
  obtain ⟨s, hs⟩ : ∃ s : Nat → Bool, s = fun i => if i = 0 ∨ i = 5 then b else false := ⟨_, rfl⟩
  have qW := fun W tabs => written_any op 6 (by decide) hc f s W tabs
  have hv := Lib.hid (show flV s = .agg #[.bool b, .bool false, .bool false, .bool false, .bool false, .bool b] by rw [hs]; rfl)
  rw [show flV (mixL (wrT 6) f s) = flV (beyF f b) by rw [hs]; rfl, hv.out] at qW
  clear hs hc
  generalize beyF f b = g at *
  replace qW := Lib.hid qW
  have kF := (Blk.new w 24 (fl6 f)).alloc (.cells (fl6 fun _ => false) 24)
  have kR := Blk.new (w.alloc (.cells (fl6 f) 24)) 24 (fl6 fun _ => false)
  rw [World.size_alloc] at kR
  have kb : Below w.heap.size w ((w.alloc (.cells (fl6 f) 24)).alloc (.cells (fl6 fun _ => false) 24)) := ((Below.refl _ _).alloc (Nat.le_refl _) _).alloc (by simp) _
  have tabs2 := tabs.below kb
  have hSB := kb.size
  go_enter Tryd.func23, Tryd.ntmps23
  go_wp2_with (first | (with_reducible refine (qW.out _ tabs2).mono ?_; rintro e w3 ⟨rfl, bb⟩) | (with_reducible refine store_fl rfl _ _ rfl (w.heap.size + 1) g (fun _ => false) rfl rfl (kR.below bb kR.lt) ?_))
  refine bodyPost_ret (v := flV g) (res_c rfl _ _ (w.heap.size + 1) g rfl ((kR.below bb kR.lt).row _)) rfl ⟨rfl, ?_⟩
  exact below_rowNew (kb.trans (bb.mono hSB)) (N := w.heap.size + 1) (by omega) _
abbrev Muls (op a b : Int) (f : Nat → Bool) (x y : Int) (g : Nat → Bool) : Prop := ∀ w, Tabs w → Calls Tryd.prog 14 #[.int .i64 op, .int .u32 a, .int .u32 b, flV f] w fun e w' => e = .returned (.tuple #[.int .u32 x, .int .u32 y, flV g]) ∧ Below w.heap.size w w'
abbrev RMuls (op a b : Int) (f : Nat → Bool) (x y : Int) (g : Nat → Bool) : Prop := ∀ w, Calls Tryd.prog 15 #[.int .i64 op, .int .u32 a, .int .u32 b, flV f] w fun e w' => e = .returned (.tuple #[.int .u32 x, .int .u32 y, flV g]) ∧ Below w.heap.size w w'
def loU (a b : Int) : Int := a * b % 4294967296
def hiU (a b : Int) : Int := a * b / 4294967296
def loS (a b : Int) : Int := wrap32 a * wrap32 b % 4294967296
def hiS (a b : Int) : Int := wrap32 a * wrap32 b / 4294967296 % 4294967296
theorem mul_u (a b : Int) (f : Nat → Bool) (h : 0 ≤ a ∧ a ≤ 4294967295) (hb : 0 ≤ b ∧ b ≤ 4294967295) : Muls 16 a b f (loU a b) (hiU a b) (beyF f (hiU a b != 0)) := by
  intro w tabs
  have qM : ∀ w, Calls Tryd.prog 22 #[.int .u32 a, .int .u32 b] w fun e w' => e = .returned (.tuple #[.int .u32 (loU a b), .int .u32 (hiU a b)]) ∧ w = w' := fun w => mulU_any a b h hb w
  have qB := fun W tabs => byBeyond_any 16 classOf_16 f (hiU a b != 0) W tabs
  generalize beyF f (hiU a b != 0) = g at *
  generalize loU a b = lo at *
  generalize hiU a b = hi at *
  replace qM := Lib.hid qM
  replace qB := Lib.hid qB
  have kF := (Blk.new w 24 (fl6 f)).alloc (.cells (fl6 fun _ => false) 24)
  have kR := Blk.new (w.alloc (.cells (fl6 f) 24)) 24 (fl6 fun _ => false)
  rw [World.size_alloc] at kR
  have kb : Below w.heap.size w ((w.alloc (.cells (fl6 f) 24)).alloc (.cells (fl6 fun _ => false) 24)) := ((Below.refl _ _).alloc (Nat.le_refl _) _).alloc (by simp) _
  have tabs2 := tabs.below kb
  have hSB := kb.size
  go_enter Tryd.func14, Tryd.ntmps14
  go_wp2_with (first | (with_reducible refine (qM.out _).mono ?_; rintro e w9 ⟨rfl, rfl⟩) | (with_reducible refine (qB.out _ tabs2).mono ?_; rintro e w3 ⟨rfl, bb⟩) | (with_reducible refine store_fl rfl _ _ rfl (w.heap.size + 1) g (fun _ => false) rfl rfl (kR.below bb kR.lt) ?_))
  refine bodyPost_ret (v := .tuple #[.int .u32 lo, .int .u32 hi, flV g]) (res_ssc rfl _ _ (w.heap.size + 1) g _ _ rfl rfl rfl ((kR.below bb kR.lt).row _)) rfl ⟨rfl, ?_⟩
  exact below_rowNew (kb.trans (bb.mono hSB)) (N := w.heap.size + 1) (by omega) _
theorem mul_other (op a b : Int) (f : Nat → Bool) (h1 : (op == 16) = false) (h2 : (op == 17) = false) (h3 : (op == 18) = false) : Muls op a b f a 0 f := by
  intro w tabs
  go_enter Tryd.func14, Tryd.ntmps14
  go_wp2
  go_region
  go_wp2
  have k : Blk (((w.alloc (.cells (fl6 f) 24)).alloc (.cells (fl6 f) 24)).drew) (w.heap.size + 1) 24 (fl6 f) := by simpa using (Blk.new (w.alloc (.cells (fl6 f) 24)) 24 (fl6 f)).drew
  refine bodyPost_ret (v := .tuple #[.int .u32 a, .int .u32 0, flV f]) (res_ssc rfl _ _ (w.heap.size + 1) f _ _ rfl rfl rfl k) rfl ⟨rfl, ?_⟩
  exact (((Below.refl _ _).alloc (Nat.le_refl _) _).alloc (by simp) _).drew

set_option maxHeartbeats 2000000 in
theorem mul_s (a b : Int) (f : Nat → Bool) (h : 0 ≤ a ∧ a ≤ 4294967295) (hb : 0 ≤ b ∧ b ≤ 4294967295) : Muls 17 a b f (loS a b) (hiS a b) (beyF f (hiS a b != signW (loS a b))) := by
  intro w tabs
  have qM : ∀ w, Calls Tryd.prog 24 #[.int .u32 a, .int .u32 b] w fun e w' => e = .returned (.tuple #[.int .u32 (loS a b), .int .u32 (hiS a b)]) ∧ w = w' := fun w => mulS_any a b w
  have qB := fun W tabs => byBeyond_any 17 classOf_17 f (hiS a b != signW (loS a b)) W tabs
  have qS := fun W => signOf_any (loS a b) W
  generalize beyF f (hiS a b != signW (loS a b)) = g at *
  generalize signW (loS a b) = s at *
  generalize loS a b = lo at *
  generalize hiS a b = hi at *
  replace qM := Lib.hid qM
  replace qB := Lib.hid qB
  replace qS := Lib.hid qS
  have kF := (Blk.new w 24 (fl6 f)).alloc (.cells (fl6 fun _ => false) 24)
  have kR := Blk.new (w.alloc (.cells (fl6 f) 24)) 24 (fl6 fun _ => false)
  rw [World.size_alloc] at kR
  have kb : Below w.heap.size w ((w.alloc (.cells (fl6 f) 24)).alloc (.cells (fl6 fun _ => false) 24)) := ((Below.refl _ _).alloc (Nat.le_refl _) _).alloc (by simp) _
  go_enter Tryd.func14, Tryd.ntmps14
  go_wp2_with (first | (with_reducible refine (qM.out _).mono ?_; rintro e w9 ⟨rfl, rfl⟩))
  generalize (w.alloc (.cells (fl6 f) 24)).alloc (.cells (fl6 fun _ => false) 24) = w1 at kF kR kb ⊢
  generalize hN : w.heap.size = N at *
  have hS0 := kF.drew
  replace kR := kR.drew
  replace kb := kb.drew
  refine wp_region_held_drew (S := fun W => Blk W N 24 (fl6 f)) (by kernel_rfl) hS0 (fun hH0 => ?_)
  generalize w1.drew = w2 at *
  have tabs2 := tabs.below (hN ▸ kb)
  have hSB := kb.size
  rw [hN] at hSB
  refine wpAnyH_take (i := 0) (v := ?_) rfl (by kernel_rfl) (by kernel_rfl) (by kernel_rfl) (fun _ _ _ h => h) (Or.inl ⟨by kernel_rfl, ?_⟩) hH0 ?_
  rotate_left
  · intro W hS
    go_simp
    try rfl
  simp only [Act.put, List.setIfInBounds_toArray, List.set_cons_zero, List.set_cons_succ, List.getElem_toArray, List.getElem_cons_succ, List.getElem_cons_zero]
  refine wpAnyH_take (i := 1) (v := ?_) rfl (by kernel_rfl) (by kernel_rfl) (by kernel_rfl) (fun _ _ _ h => h) (Or.inl ⟨by kernel_rfl, ?_⟩) hH0 ?_
  rotate_left
  · intro W hS
    go_simp
    try rfl
  simp only [Act.put, List.setIfInBounds_toArray, List.set_cons_zero, List.set_cons_succ, List.getElem_toArray, List.getElem_cons_succ, List.getElem_cons_zero]
  refine wpAnyH_take (i := 2) (v := ?_) rfl (by kernel_rfl) (by kernel_rfl) (by kernel_rfl) (fun _ _ _ h => h) (Or.inl ⟨by kernel_rfl, ?_⟩) hH0 ?_
  rotate_left
  · intro W hS
    go_simp
    try rfl
  simp only [Act.put, List.setIfInBounds_toArray, List.set_cons_zero, List.set_cons_succ, List.getElem_toArray, List.getElem_cons_succ, List.getElem_cons_zero]
  refine wpAnyH_take (i := 3) (v := ?_) rfl (by kernel_rfl) (by kernel_rfl) (by kernel_rfl) (fun _ _ _ h => h) (Or.inl ⟨by kernel_rfl, ?_⟩) hH0 ?_
  rotate_left
  · intro W hS
    have c0 := hS.cell (i := 0) (v := .bool (f 0)) rfl
    have c1 := hS.cell (i := 1) (v := .bool (f 1)) rfl
    have c2 := hS.cell (i := 2) (v := .bool (f 2)) rfl
    have c3 := hS.cell (i := 3) (v := .bool (f 3)) rfl
    have c4 := hS.cell (i := 4) (v := .bool (f 4)) rfl
    have c5 := hS.cell (i := 5) (v := .bool (f 5)) rfl
    go_simp
    try rfl
  simp only [Act.put, List.setIfInBounds_toArray, List.set_cons_zero, List.set_cons_succ, List.getElem_toArray, List.getElem_cons_succ, List.getElem_cons_zero]
  refine wpAnyH_take (i := 4) (v := ?_) rfl (by kernel_rfl) (by kernel_rfl) (by kernel_rfl) (fun _ _ _ h => h) (Or.inl ⟨by kernel_rfl, ?_⟩) hH0 ?_
  rotate_left
  · intro W hS
    go_simp
    try rfl
  simp only [Act.put, List.setIfInBounds_toArray, List.set_cons_zero, List.set_cons_succ, List.getElem_toArray, List.getElem_cons_succ, List.getElem_cons_zero]
  refine wpAnyH_take (i := 5) (v := ?_) rfl (by kernel_rfl) (by kernel_rfl) (by kernel_rfl) (fun _ _ _ h => h) (Or.inl ⟨by kernel_rfl, ?_⟩) hH0 ?_
  rotate_left
  · intro W hS
    go_simp
    try rfl
  simp only [Act.put, List.setIfInBounds_toArray, List.set_cons_zero, List.set_cons_succ, List.getElem_toArray, List.getElem_cons_succ, List.getElem_cons_zero]
  refine wpAnyH_ready (rs := [6]) (by kernel_rfl) (by simp) ?_
  refine AllReadyH.cons rfl (fun K hK => ?_) AllReadyH.nil
  go_simp
  with_reducible refine (qS.out _).mono ?_
  rintro e w8 ⟨rfl, rfl⟩
  refine hK.out _ _ hH0 (fun _ => ?_)
  clear hK K
  try simp only [Act.put, List.setIfInBounds_toArray, List.set_cons_zero, List.set_cons_succ]
  refine wpAnyH_take (i := 7) (v := ?_) rfl (by kernel_rfl) (by kernel_rfl) (by kernel_rfl) (fun _ _ _ h => h) (Or.inl ⟨by kernel_rfl, ?_⟩) hH0 ?_
  rotate_left
  · intro W hS
    go_simp
    try rfl
  simp only [Act.put, List.setIfInBounds_toArray, List.set_cons_zero, List.set_cons_succ, List.getElem_toArray, List.getElem_cons_succ, List.getElem_cons_zero]
  refine wpAnyH_ready (rs := [8]) (by kernel_rfl) (by simp) ?_
  refine AllReadyH.cons rfl (fun K hK => ?_) AllReadyH.nil
  go_simp
  with_reducible refine (qB.out _ tabs2).mono ?_
  rintro e w3 ⟨rfl, bb⟩
  have hH1 := hH0.below bb hH0.lt
  replace kR := kR.below bb kR.lt
  replace kb := kb.trans (bb.mono hSB)
  clear bb
  refine hK.out _ _ hH1 (fun _ => ?_)
  clear hK K
  try simp only [Act.put, List.setIfInBounds_toArray, List.set_cons_zero, List.set_cons_succ]
  refine wpAnyH_take (i := 9) (v := ?_) rfl (by kernel_rfl) (by kernel_rfl) (by kernel_rfl) (fun _ _ _ h => h) (Or.inl ⟨by kernel_rfl, ?_⟩) hH1 ?_
  rotate_left
  · intro W hS
    go_simp
    try rfl
  simp only [Act.put, List.setIfInBounds_toArray, List.set_cons_zero, List.set_cons_succ, List.getElem_toArray, List.getElem_cons_succ, List.getElem_cons_zero]
  refine wpAnyH_take (i := 10) (v := ?_) rfl (by kernel_rfl) (by kernel_rfl) (by kernel_rfl) (fun _ _ _ h => h) (Or.inl ⟨by kernel_rfl, ?_⟩) hH1 ?_
  rotate_left
  · intro W hS
    go_simp
    try rfl
  simp only [Act.put, List.setIfInBounds_toArray, List.set_cons_zero, List.set_cons_succ, List.getElem_toArray, List.getElem_cons_succ, List.getElem_cons_zero]
  refine wpAnyH_ready (rs := [11]) (by kernel_rfl) (by simp) ?_
  refine AllReadyH.cons rfl (fun K hK => ?_) AllReadyH.nil
  rw [if_pos]
  rotate_left
  · kernel_rfl
  refine wp_store_row 24 _ _ rfl (N + 1) (fl6 g) rfl rfl 24 (fl6 (fun _ => false)) kR.h (szF g) rfl (fl6_one g) ?_
  have kR2 := kR.row (fl6 g)
  have hH2 := hH1.rowOther (M := N + 1) (fl6 g) (by omega)
  have kb2 := below_rowNew kb (N := N + 1) (by omega) (fl6 g)
  refine hK.out _ _ hH2 (fun _ => ?_)
  clear hK K
  try simp only [Act.put, List.setIfInBounds_toArray, List.set_cons_zero, List.set_cons_succ, List.getElem_toArray, List.getElem_cons_succ, List.getElem_cons_zero]
  refine wpAnyH_done (by kernel_rfl) ?_ _

  go_wp2_with fail
  refine bodyPost_ret (v := .tuple #[.int .u32 lo, .int .u32 hi, flV g]) (res_ssc rfl _ _ (N + 1) g _ _ rfl rfl rfl kR2) rfl ⟨rfl, ?_⟩
  rw [hN]
  exact kb2
set_option maxHeartbeats 2000000 in
theorem mul_s2 (a b : Int) (f : Nat → Bool) (h : 0 ≤ a ∧ a ≤ 4294967295) (hb : 0 ≤ b ∧ b ≤ 4294967295) : Muls 18 a b f (loS a b) 0 (beyF f (hiS a b != signW (loS a b))) := by
  intro w tabs
  have qM : ∀ w, Calls Tryd.prog 24 #[.int .u32 a, .int .u32 b] w fun e w' => e = .returned (.tuple #[.int .u32 (loS a b), .int .u32 (hiS a b)]) ∧ w = w' := fun w => mulS_any a b w
  have qB := fun W tabs => byBeyond_any 18 classOf_18 f (hiS a b != signW (loS a b)) W tabs
  have qS := fun W => signOf_any (loS a b) W
  generalize beyF f (hiS a b != signW (loS a b)) = g at *
  generalize signW (loS a b) = s at *
  generalize loS a b = lo at *
  generalize hiS a b = hi at *
  replace qM := Lib.hid qM
  replace qB := Lib.hid qB
  replace qS := Lib.hid qS
  have kF := (Blk.new w 24 (fl6 f)).alloc (.cells (fl6 fun _ => false) 24)
  have kR := Blk.new (w.alloc (.cells (fl6 f) 24)) 24 (fl6 fun _ => false)
  rw [World.size_alloc] at kR
  have kb : Below w.heap.size w ((w.alloc (.cells (fl6 f) 24)).alloc (.cells (fl6 fun _ => false) 24)) := ((Below.refl _ _).alloc (Nat.le_refl _) _).alloc (by simp) _
  go_enter Tryd.func14, Tryd.ntmps14
  go_wp2_with (first | (with_reducible refine (qM.out _).mono ?_; rintro e w9 ⟨rfl, rfl⟩))
  generalize (w.alloc (.cells (fl6 f) 24)).alloc (.cells (fl6 fun _ => false) 24) = w1 at kF kR kb ⊢
  generalize hN : w.heap.size = N at *
  have hS0 := kF.drew
  replace kR := kR.drew
  replace kb := kb.drew
  refine wp_region_held_drew (S := fun W => Blk W N 24 (fl6 f)) (by kernel_rfl) hS0 (fun hH0 => ?_)
  generalize w1.drew = w2 at *
  have tabs2 := tabs.below (hN ▸ kb)
  have hSB := kb.size
  rw [hN] at hSB
  refine wpAnyH_take (i := 0) (v := ?_) rfl (by kernel_rfl) (by kernel_rfl) (by kernel_rfl) (fun _ _ _ h => h) (Or.inl ⟨by kernel_rfl, ?_⟩) hH0 ?_
  rotate_left
  · intro W hS
    go_simp
    try rfl
  simp only [Act.put, List.setIfInBounds_toArray, List.set_cons_zero, List.set_cons_succ, List.getElem_toArray, List.getElem_cons_succ, List.getElem_cons_zero]
  refine wpAnyH_take (i := 1) (v := ?_) rfl (by kernel_rfl) (by kernel_rfl) (by kernel_rfl) (fun _ _ _ h => h) (Or.inl ⟨by kernel_rfl, ?_⟩) hH0 ?_
  rotate_left
  · intro W hS
    go_simp
    try rfl
  simp only [Act.put, List.setIfInBounds_toArray, List.set_cons_zero, List.set_cons_succ, List.getElem_toArray, List.getElem_cons_succ, List.getElem_cons_zero]
  refine wpAnyH_take (i := 2) (v := ?_) rfl (by kernel_rfl) (by kernel_rfl) (by kernel_rfl) (fun _ _ _ h => h) (Or.inl ⟨by kernel_rfl, ?_⟩) hH0 ?_
  rotate_left
  · intro W hS
    have c0 := hS.cell (i := 0) (v := .bool (f 0)) rfl
    have c1 := hS.cell (i := 1) (v := .bool (f 1)) rfl
    have c2 := hS.cell (i := 2) (v := .bool (f 2)) rfl
    have c3 := hS.cell (i := 3) (v := .bool (f 3)) rfl
    have c4 := hS.cell (i := 4) (v := .bool (f 4)) rfl
    have c5 := hS.cell (i := 5) (v := .bool (f 5)) rfl
    go_simp
    try rfl
  simp only [Act.put, List.setIfInBounds_toArray, List.set_cons_zero, List.set_cons_succ, List.getElem_toArray, List.getElem_cons_succ, List.getElem_cons_zero]
  refine wpAnyH_take (i := 3) (v := ?_) rfl (by kernel_rfl) (by kernel_rfl) (by kernel_rfl) (fun _ _ _ h => h) (Or.inl ⟨by kernel_rfl, ?_⟩) hH0 ?_
  rotate_left
  · intro W hS
    go_simp
    try rfl
  simp only [Act.put, List.setIfInBounds_toArray, List.set_cons_zero, List.set_cons_succ, List.getElem_toArray, List.getElem_cons_succ, List.getElem_cons_zero]
  refine wpAnyH_take (i := 4) (v := ?_) rfl (by kernel_rfl) (by kernel_rfl) (by kernel_rfl) (fun _ _ _ h => h) (Or.inl ⟨by kernel_rfl, ?_⟩) hH0 ?_
  rotate_left
  · intro W hS
    go_simp
    try rfl
  simp only [Act.put, List.setIfInBounds_toArray, List.set_cons_zero, List.set_cons_succ, List.getElem_toArray, List.getElem_cons_succ, List.getElem_cons_zero]
  refine wpAnyH_ready (rs := [5]) (by kernel_rfl) (by simp) ?_
  refine AllReadyH.cons rfl (fun K hK => ?_) AllReadyH.nil
  go_simp
  with_reducible refine (qS.out _).mono ?_
  rintro e w8 ⟨rfl, rfl⟩
  refine hK.out _ _ hH0 (fun _ => ?_)
  clear hK K
  try simp only [Act.put, List.setIfInBounds_toArray, List.set_cons_zero, List.set_cons_succ]
  refine wpAnyH_take (i := 6) (v := ?_) rfl (by kernel_rfl) (by kernel_rfl) (by kernel_rfl) (fun _ _ _ h => h) (Or.inl ⟨by kernel_rfl, ?_⟩) hH0 ?_
  rotate_left
  · intro W hS
    go_simp
    try rfl
  simp only [Act.put, List.setIfInBounds_toArray, List.set_cons_zero, List.set_cons_succ, List.getElem_toArray, List.getElem_cons_succ, List.getElem_cons_zero]
  refine wpAnyH_ready (rs := [7]) (by kernel_rfl) (by simp) ?_
  refine AllReadyH.cons rfl (fun K hK => ?_) AllReadyH.nil
  go_simp
  with_reducible refine (qB.out _ tabs2).mono ?_
  rintro e w3 ⟨rfl, bb⟩
  have hH1 := hH0.below bb hH0.lt
  replace kR := kR.below bb kR.lt
  replace kb := kb.trans (bb.mono hSB)
  clear bb
  refine hK.out _ _ hH1 (fun _ => ?_)
  clear hK K
  try simp only [Act.put, List.setIfInBounds_toArray, List.set_cons_zero, List.set_cons_succ]
  refine wpAnyH_take (i := 8) (v := ?_) rfl (by kernel_rfl) (by kernel_rfl) (by kernel_rfl) (fun _ _ _ h => h) (Or.inl ⟨by kernel_rfl, ?_⟩) hH1 ?_
  rotate_left
  · intro W hS
    go_simp
    try rfl
  simp only [Act.put, List.setIfInBounds_toArray, List.set_cons_zero, List.set_cons_succ, List.getElem_toArray, List.getElem_cons_succ, List.getElem_cons_zero]
  refine wpAnyH_take (i := 9) (v := ?_) rfl (by kernel_rfl) (by kernel_rfl) (by kernel_rfl) (fun _ _ _ h => h) (Or.inl ⟨by kernel_rfl, ?_⟩) hH1 ?_
  rotate_left
  · intro W hS
    go_simp
    try rfl
  simp only [Act.put, List.setIfInBounds_toArray, List.set_cons_zero, List.set_cons_succ, List.getElem_toArray, List.getElem_cons_succ, List.getElem_cons_zero]
  refine wpAnyH_ready (rs := [10]) (by kernel_rfl) (by simp) ?_
  refine AllReadyH.cons rfl (fun K hK => ?_) AllReadyH.nil
  rw [if_pos]
  rotate_left
  · kernel_rfl
  refine wp_store_row 24 _ _ rfl (N + 1) (fl6 g) rfl rfl 24 (fl6 (fun _ => false)) kR.h (szF g) rfl (fl6_one g) ?_
  have kR2 := kR.row (fl6 g)
  have hH2 := hH1.rowOther (M := N + 1) (fl6 g) (by omega)
  have kb2 := below_rowNew kb (N := N + 1) (by omega) (fl6 g)
  refine hK.out _ _ hH2 (fun _ => ?_)
  clear hK K
  try simp only [Act.put, List.setIfInBounds_toArray, List.set_cons_zero, List.set_cons_succ, List.getElem_toArray, List.getElem_cons_succ, List.getElem_cons_zero]
  refine wpAnyH_done (by kernel_rfl) ?_ _

  go_wp2_with fail
  refine bodyPost_ret (v := .tuple #[.int .u32 lo, .int .u32 0, flV g]) (res_ssc rfl _ _ (N + 1) g _ _ rfl rfl rfl kR2) rfl ⟨rfl, ?_⟩
  rw [hN]
  exact kb2
end Go.Proofs.YtgeeecoclhomiaaDoor
