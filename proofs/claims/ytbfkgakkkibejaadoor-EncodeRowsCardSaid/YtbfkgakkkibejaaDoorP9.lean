/- What stands for a row's operation. -/
import Derived.Test.YtbfkgakkkibejaaDoorP8
namespace Go.Proofs.YtbfkgakkkibejaaDoor
open Go.RowKit
set_option linter.unusedVariables false
set_option linter.unusedSimpArgs false
set_option linter.unusedSectionVars false

/-- A row as the tables have them. -/
def Rw.ok (r : Rw) : Prop :=
  (r.a = 0 ∨ r.a = 1 ∨ r.a = 2 ∨ r.a = 3 ∨ r.a = 4 ∨ r.a = 5 ∨ r.a = 6 ∨ r.a = 7 ∨ r.a = 8 ∨ r.a = 9) ∧
  (r.b = 0 ∨ r.b = 1 ∨ r.b = 2 ∨ r.b = 3 ∨ r.b = 4 ∨ r.b = 5 ∨ r.b = 6 ∨ r.b = 7 ∨ r.b = 8 ∨ r.b = 9) ∧ r.op < 64
instance (r : Rw) : Decidable r.ok := by unfold Rw.ok; infer_instance
theorem rows_ok : ∀ r ∈ singleL ++ doubleL, r.ok := by decide
theorem ix_grp (b k : Nat) (h : k < 10) (W : World) : (Instr.indexAt 115 (.pointer (some ⟨b, 0, none⟩)) (.int .i64 (k : Int))).run Tryd.prog W = .ok (.pointer (some ⟨b, k * 8, none⟩)) W := by
  have s1 : ∀ W, (sizeOf 43).run Tryd.prog W = .ok 8 W := fun W => by kernel_rfl
  have hj : (k : Int) < 10 := by omega
  simp [Instr.indexAt, run_underlying Tryd.underlying115, s1, go_sem, hj, h, Instr.sureAddr]
theorem ix_grp2 (b o k : Nat) (h : k < 8) (W : World) : (Instr.indexAt 43 (.pointer (some ⟨b, o, none⟩)) (.int .i64 (k : Int))).run Tryd.prog W = .ok (.pointer (some ⟨b, o + k, none⟩)) W := by
  have s1 : ∀ W, (sizeOf 3).run Tryd.prog W = .ok 1 W := fun W => by kernel_rfl
  have hj : (k : Int) < 8 := by omega
  simp [Instr.indexAt, run_underlying Tryd.underlying43, s1, go_sem, hj, h, Instr.sureAddr]
section
variable {w : World} {N B : Nat} {a : Option Addr} {len cap : Nat} {zs : List Int} {p : Nat} {c m : Int}
set_option maxRecDepth 8000 in
theorem operation_low (R : Rd w N B a len cap zs p c m) (r : Rw) (h : r.op < 54) :
    Calls Tryd.prog 88 #[rp B, rwV r] w fun e w' => e = .returned (.int .i64 r.op) ∧ Below w.heap.size w w' := by
  have kE := Blk.new w 101 (rw5 r)
  have d2 := kE.cell (i := 2) (v := .int .i64 r.op) rfl
  have kb := (Below.refl w.heap.size w).alloc (Nat.le_refl _) (.cells (rw5 r) 101)
  generalize r.op = op at *
  go_enter Tryd.func88, Tryd.ntmps88
  go_wp2
  go_ret
  exact ⟨rfl, kb⟩
set_option maxRecDepth 8000 in
theorem operation_code (R : Rd w N B a len cap zs p c m) (tabs : Tabs w) (r : Rw) (h : ¬ r.op < 54) (h2 : r.op < 64) (hg : r.g = 65479) :
    Calls Tryd.prog 88 #[rp B, rwV r] w fun e w' => e = .returned (.int .i64 (opM c m r)) ∧ Below w.heap.size w w' := by
  have kE := Blk.new w 101 (rw5 r)
  have kb := (Below.refl w.heap.size w).alloc (Nat.le_refl _) (.cells (rw5 r) 101)
  have R2 := R.alloc (.cells (rw5 r) 101)
  have tabs2 := tabs.below kb
  have d0 := kE.cell (i := 0) (v := .int .u32 r.g) rfl
  have d2 := kE.cell (i := 2) (v := .int .i64 r.op) rfl
  have c2 := R2.c2
  have c3 := R2.c3
  have hM := fun w => middle_any c (by first | exact R.cb | exact R.mb) w
  have hx : 0 ≤ c / 8 % 8 ∧ c / 8 % 8 < 8 := by omega
  have hres : opM c m r = grp (r.op - 54).toNat (c / 8 % 8).toNat := by unfold opM; rw [if_neg h, if_pos hg]
  rw [hres]
  obtain ⟨k, hk⟩ := Int.eq_ofNat_of_zero_le (show 0 ≤ r.op - 54 by omega)
  obtain ⟨x, hx2⟩ := Int.eq_ofNat_of_zero_le hx.1
  have hk10 : k < 10 := by omega
  have hx8 : x < 8 := by omega
  have hop : r.op = 54 + k := by omega
  have hrs : rwV r = .agg (rw5 r) := rfl
  have cg := tabs2.2.1 k hk10 x hx8
  rw [hk, hx2, Int.toNat_natCast, Int.toNat_natCast]
  rw [hx2] at hM
  have g1 := fun W => ix_grp 3 k hk10 W
  have g2 := fun W => ix_grp2 3 (k * 8) x hx8 W
  have hsb : IntKind.i64.wrap (r.op - 54) = k := by rw [IntKind.wrap_i64, hk]; omega
  have e54 : decide (r.op < 54) = false := decide_eq_false h
  have hgd : (r.g == 65479) = true := by simp [hg]
  generalize hR5 : rw5 r = r5 at *
  rw [hrs]
  generalize r.op = op at *
  generalize r.g = g at *
  generalize grp k x = res at *
  clear hres hop hk hx2 hx tabs tabs2 hR5
  go_enter Tryd.func88, Tryd.ntmps88
  go_wp2_with fail
  have hsz : w.heap.size < (w.alloc (.cells r5 101)).heap.size := by simp
  generalize w.alloc (.cells r5 101) = w1 at *
  clear c2 c3
  refine wp_region_held_drew (S := fun W => W.cell? ⟨w.heap.size, 2, none⟩ = some (.int .i64 op) ∧ W.cell? ⟨3, k * 8 + x, none⟩ = some (.int .i64 res) ∧ Below w.heap.size w W) (by kernel_rfl) ⟨d2, cg, ⟨kb.os, kb.tape, kb.output, kb.size, kb.block⟩⟩ (fun hHeld => ?_)
  refine wpAnyH_take (i := 0) (v := ?_) rfl (by kernel_rfl) (by kernel_rfl) (by kernel_rfl) (fun _ _ _ h => h) (Or.inl ⟨by kernel_rfl, ?_⟩) hHeld ?_
  rotate_left
  · intro W hS
    go_simp
    try rfl
  simp only [Act.put, List.setIfInBounds_toArray, List.set_cons_zero, List.set_cons_succ, List.getElem_toArray, List.getElem_cons_succ, List.getElem_cons_zero]
  refine wpAnyH_take (i := 1) (v := ?_) rfl (by kernel_rfl) (by kernel_rfl) (by kernel_rfl) (fun _ _ _ h => h) (Or.inl ⟨by kernel_rfl, ?_⟩) hHeld ?_
  rotate_left
  · intro W hS
    obtain ⟨s1, s2, s3⟩ := hS
    go_simp
    try rfl
  simp only [Act.put, List.setIfInBounds_toArray, List.set_cons_zero, List.set_cons_succ, List.getElem_toArray, List.getElem_cons_succ, List.getElem_cons_zero]
  refine wpAnyH_take (i := 2) (v := ?_) rfl (by kernel_rfl) (by kernel_rfl) (by kernel_rfl) (fun _ _ _ h => h) (Or.inl ⟨by kernel_rfl, ?_⟩) hHeld ?_
  rotate_left
  · intro W hS
    go_simp
    try rfl
  simp only [Act.put, List.setIfInBounds_toArray, List.set_cons_zero, List.set_cons_succ, List.getElem_toArray, List.getElem_cons_succ, List.getElem_cons_zero]
  refine wpAnyH_take (i := 3) (v := ?_) rfl (by kernel_rfl) (by kernel_rfl) (by kernel_rfl) (fun _ _ _ h => h) (Or.inl ⟨by kernel_rfl, ?_⟩) hHeld ?_
  rotate_left
  · intro W hS
    go_simp
    try rfl
  simp only [Act.put, List.setIfInBounds_toArray, List.set_cons_zero, List.set_cons_succ, List.getElem_toArray, List.getElem_cons_succ, List.getElem_cons_zero]
  refine wpAnyH_take (i := 5) (v := ?_) rfl (by kernel_rfl) (by kernel_rfl) (by kernel_rfl) (fun _ _ _ h => h) (Or.inl ⟨by kernel_rfl, ?_⟩) hHeld ?_
  rotate_left
  · intro W hS
    go_simp
    try rfl
  simp only [Act.put, List.setIfInBounds_toArray, List.set_cons_zero, List.set_cons_succ, List.getElem_toArray, List.getElem_cons_succ, List.getElem_cons_zero]
  refine wpAnyH_ready (rs := [4]) (by kernel_rfl) (by simp) ?_
  refine AllReadyH.cons rfl (fun K hK => ?_) AllReadyH.nil
  go_simp
  with_reducible refine (hM _).mono ?_
  rintro e w2 ⟨rfl, rfl⟩
  refine hK.out _ _ hHeld (fun _ => ?_)
  clear hK K
  try simp only [Act.put, List.setIfInBounds_toArray, List.set_cons_zero, List.set_cons_succ]
  refine wpAnyH_take (i := 6) (v := ?_) rfl (by kernel_rfl) (by kernel_rfl) (by kernel_rfl) (fun _ _ _ h => h) (Or.inl ⟨by kernel_rfl, ?_⟩) hHeld ?_
  rotate_left
  · intro W hS
    go_simp
    try rfl
  simp only [Act.put, List.setIfInBounds_toArray, List.set_cons_zero, List.set_cons_succ, List.getElem_toArray, List.getElem_cons_succ, List.getElem_cons_zero]
  refine wpAnyH_take (i := 7) (v := ?_) rfl (by kernel_rfl) (by kernel_rfl) (by kernel_rfl) (fun _ _ _ h => h) (Or.inl ⟨by kernel_rfl, ?_⟩) hHeld ?_
  rotate_left
  · intro W hS
    obtain ⟨s1, s2, s3⟩ := hS
    go_simp
    try rfl
  simp only [Act.put, List.setIfInBounds_toArray, List.set_cons_zero, List.set_cons_succ, List.getElem_toArray, List.getElem_cons_succ, List.getElem_cons_zero]
  refine wpAnyH_take (i := 8) (v := ?_) rfl (by kernel_rfl) (by kernel_rfl) (by kernel_rfl) (fun _ _ _ h => h) (Or.inl ⟨by kernel_rfl, ?_⟩) hHeld ?_
  rotate_left
  · intro W hS
    go_simp
    try rfl
  simp only [Act.put, List.setIfInBounds_toArray, List.set_cons_zero, List.set_cons_succ, List.getElem_toArray, List.getElem_cons_succ, List.getElem_cons_zero]
  refine wpAnyH_done (by kernel_rfl) ?_ _
  go_wp2
  go_ret
  exact ⟨rfl, hHeld.2.2⟩
set_option maxRecDepth 8000 in
theorem operation_mod (R : Rd w N B a len cap zs p c m) (tabs : Tabs w) (r : Rw) (h : ¬ r.op < 54) (h2 : r.op < 64) (hg : ¬ r.g = 65479) :
    Calls Tryd.prog 88 #[rp B, rwV r] w fun e w' => e = .returned (.int .i64 (opM c m r)) ∧ Below w.heap.size w w' := by
  have kE := Blk.new w 101 (rw5 r)
  have kb := (Below.refl w.heap.size w).alloc (Nat.le_refl _) (.cells (rw5 r) 101)
  have R2 := R.alloc (.cells (rw5 r) 101)
  have tabs2 := tabs.below kb
  have d0 := kE.cell (i := 0) (v := .int .u32 r.g) rfl
  have d2 := kE.cell (i := 2) (v := .int .i64 r.op) rfl
  have c2 := R2.c2
  have c3 := R2.c3
  have hM := fun w => middle_any m (by first | exact R.cb | exact R.mb) w
  have hx : 0 ≤ m / 8 % 8 ∧ m / 8 % 8 < 8 := by omega
  have hres : opM c m r = grp (r.op - 54).toNat (m / 8 % 8).toNat := by unfold opM; rw [if_neg h, if_neg hg]
  rw [hres]
  obtain ⟨k, hk⟩ := Int.eq_ofNat_of_zero_le (show 0 ≤ r.op - 54 by omega)
  obtain ⟨x, hx2⟩ := Int.eq_ofNat_of_zero_le hx.1
  have hk10 : k < 10 := by omega
  have hx8 : x < 8 := by omega
  have hop : r.op = 54 + k := by omega
  have hrs : rwV r = .agg (rw5 r) := rfl
  have cg := tabs2.2.1 k hk10 x hx8
  rw [hk, hx2, Int.toNat_natCast, Int.toNat_natCast]
  rw [hx2] at hM
  have g1 := fun W => ix_grp 3 k hk10 W
  have g2 := fun W => ix_grp2 3 (k * 8) x hx8 W
  have hsb : IntKind.i64.wrap (r.op - 54) = k := by rw [IntKind.wrap_i64, hk]; omega
  have e54 : decide (r.op < 54) = false := decide_eq_false h
  have hgd : (r.g == 65479) = false := by simp [hg]
  generalize hR5 : rw5 r = r5 at *
  rw [hrs]
  generalize r.op = op at *
  generalize r.g = g at *
  generalize grp k x = res at *
  clear hres hop hk hx2 hx tabs tabs2 hR5
  go_enter Tryd.func88, Tryd.ntmps88
  go_wp2_with fail
  have hsz : w.heap.size < (w.alloc (.cells r5 101)).heap.size := by simp
  generalize w.alloc (.cells r5 101) = w1 at *
  clear c2 c3
  refine wp_region_held_drew (S := fun W => W.cell? ⟨w.heap.size, 2, none⟩ = some (.int .i64 op) ∧ W.cell? ⟨3, k * 8 + x, none⟩ = some (.int .i64 res) ∧ Below w.heap.size w W) (by kernel_rfl) ⟨d2, cg, ⟨kb.os, kb.tape, kb.output, kb.size, kb.block⟩⟩ (fun hHeld => ?_)
  refine wpAnyH_take (i := 0) (v := ?_) rfl (by kernel_rfl) (by kernel_rfl) (by kernel_rfl) (fun _ _ _ h => h) (Or.inl ⟨by kernel_rfl, ?_⟩) hHeld ?_
  rotate_left
  · intro W hS
    go_simp
    try rfl
  simp only [Act.put, List.setIfInBounds_toArray, List.set_cons_zero, List.set_cons_succ, List.getElem_toArray, List.getElem_cons_succ, List.getElem_cons_zero]
  refine wpAnyH_take (i := 1) (v := ?_) rfl (by kernel_rfl) (by kernel_rfl) (by kernel_rfl) (fun _ _ _ h => h) (Or.inl ⟨by kernel_rfl, ?_⟩) hHeld ?_
  rotate_left
  · intro W hS
    obtain ⟨s1, s2, s3⟩ := hS
    go_simp
    try rfl
  simp only [Act.put, List.setIfInBounds_toArray, List.set_cons_zero, List.set_cons_succ, List.getElem_toArray, List.getElem_cons_succ, List.getElem_cons_zero]
  refine wpAnyH_take (i := 2) (v := ?_) rfl (by kernel_rfl) (by kernel_rfl) (by kernel_rfl) (fun _ _ _ h => h) (Or.inl ⟨by kernel_rfl, ?_⟩) hHeld ?_
  rotate_left
  · intro W hS
    go_simp
    try rfl
  simp only [Act.put, List.setIfInBounds_toArray, List.set_cons_zero, List.set_cons_succ, List.getElem_toArray, List.getElem_cons_succ, List.getElem_cons_zero]
  refine wpAnyH_take (i := 3) (v := ?_) rfl (by kernel_rfl) (by kernel_rfl) (by kernel_rfl) (fun _ _ _ h => h) (Or.inl ⟨by kernel_rfl, ?_⟩) hHeld ?_
  rotate_left
  · intro W hS
    go_simp
    try rfl
  simp only [Act.put, List.setIfInBounds_toArray, List.set_cons_zero, List.set_cons_succ, List.getElem_toArray, List.getElem_cons_succ, List.getElem_cons_zero]
  refine wpAnyH_take (i := 5) (v := ?_) rfl (by kernel_rfl) (by kernel_rfl) (by kernel_rfl) (fun _ _ _ h => h) (Or.inl ⟨by kernel_rfl, ?_⟩) hHeld ?_
  rotate_left
  · intro W hS
    go_simp
    try rfl
  simp only [Act.put, List.setIfInBounds_toArray, List.set_cons_zero, List.set_cons_succ, List.getElem_toArray, List.getElem_cons_succ, List.getElem_cons_zero]
  refine wpAnyH_ready (rs := [4]) (by kernel_rfl) (by simp) ?_
  refine AllReadyH.cons rfl (fun K hK => ?_) AllReadyH.nil
  go_simp
  with_reducible refine (hM _).mono ?_
  rintro e w2 ⟨rfl, rfl⟩
  refine hK.out _ _ hHeld (fun _ => ?_)
  clear hK K
  try simp only [Act.put, List.setIfInBounds_toArray, List.set_cons_zero, List.set_cons_succ]
  refine wpAnyH_take (i := 6) (v := ?_) rfl (by kernel_rfl) (by kernel_rfl) (by kernel_rfl) (fun _ _ _ h => h) (Or.inl ⟨by kernel_rfl, ?_⟩) hHeld ?_
  rotate_left
  · intro W hS
    go_simp
    try rfl
  simp only [Act.put, List.setIfInBounds_toArray, List.set_cons_zero, List.set_cons_succ, List.getElem_toArray, List.getElem_cons_succ, List.getElem_cons_zero]
  refine wpAnyH_take (i := 7) (v := ?_) rfl (by kernel_rfl) (by kernel_rfl) (by kernel_rfl) (fun _ _ _ h => h) (Or.inl ⟨by kernel_rfl, ?_⟩) hHeld ?_
  rotate_left
  · intro W hS
    obtain ⟨s1, s2, s3⟩ := hS
    go_simp
    try rfl
  simp only [Act.put, List.setIfInBounds_toArray, List.set_cons_zero, List.set_cons_succ, List.getElem_toArray, List.getElem_cons_succ, List.getElem_cons_zero]
  refine wpAnyH_take (i := 8) (v := ?_) rfl (by kernel_rfl) (by kernel_rfl) (by kernel_rfl) (fun _ _ _ h => h) (Or.inl ⟨by kernel_rfl, ?_⟩) hHeld ?_
  rotate_left
  · intro W hS
    go_simp
    try rfl
  simp only [Act.put, List.setIfInBounds_toArray, List.set_cons_zero, List.set_cons_succ, List.getElem_toArray, List.getElem_cons_succ, List.getElem_cons_zero]
  refine wpAnyH_done (by kernel_rfl) ?_ _
  go_wp2
  go_ret
  exact ⟨rfl, hHeld.2.2⟩
theorem operation_any (R : Rd w N B a len cap zs p c m) (tabs : Tabs w) (r : Rw) (h2 : r.op < 64) :
    Calls Tryd.prog 88 #[rp B, rwV r] w fun e w' => e = .returned (.int .i64 (opM c m r)) ∧ Below w.heap.size w w' := by
  by_cases h : r.op < 54
  · have := operation_low R r h
    rw [show opM c m r = r.op from if_pos h]
    exact this
  · by_cases hg : r.g = 65479
    · exact operation_code R tabs r h h2 hg
    · exact operation_mod R tabs r h h2 hg
end
/-- Where a row is tried: the reader's copy, the row, the result, all blocks of the call's own. -/
structure BF (w W : World) (N : Nat) (a : Option Addr) (len cap : Nat) (zs : List Int) (p : Nat) (c m : Int) (x : Rw) (cs : Array Value) : Prop where
  r : Rd W N w.heap.size a len cap zs p c m
  e : Blk W (w.heap.size + 1) 101 (rw5 x)
  z : Blk W (w.heap.size + 2) 26 cs
  k : Below w.heap.size w W
  t : Tabs W
section
variable {w W W' : World} {N : Nat} {a : Option Addr} {len cap : Nat} {zs : List Int} {p : Nat} {c m : Int} {r : Rw} {cs : Array Value}
theorem BF.lt (h : BF w W N a len cap zs p c m r cs) : w.heap.size + 2 < W.heap.size := h.z.lt
theorem BF.drew (h : BF w W N a len cap zs p c m r cs) : BF w W.drew N a len cap zs p c m r cs := ⟨h.r.drew, h.e.drew, h.z.drew, ⟨h.k.os, h.k.tape, h.k.output, h.k.size, h.k.block⟩, h.t⟩
theorem tabs_but {S : List Nat} {n : Nat} {W W' : World} (h : Tabs W) (b : But S n W W') (hn : W.heap.size ≤ n) (hS : ∀ x, x ∈ S → W.heap.size ≤ x) : Tabs W' := h.below (b.below hn hS)
theorem BF.read (tabs : Tabs w) (h : BF w W N a len cap zs p c m r cs) {q : Nat} {d e : Int} (R : Rd W' N w.heap.size a len cap zs q d e) (k : But [w.heap.size] W.heap.size W W') : BF w W' N a len cap zs q d e r cs := by
  have hl := h.lt
  have k2 : Below w.heap.size w W' := h.k.trans (k.below h.k.size (by simp))
  exact ⟨R, h.e.but k (by omega) (by simp), h.z.but k (by omega) (by simp), k2, tabs.below k2⟩
theorem BF.but (tabs : Tabs w) (h : BF w W N a len cap zs p c m r cs) {S : List Nat} (k : But S W.heap.size W W') (hS : ∀ x, x ∈ S → w.heap.size + 2 < x) : BF w W' N a len cap zs p c m r cs := by
  have hl := h.lt
  have hnb := h.r.nb
  have k2 : Below w.heap.size w W' := h.k.trans (k.below h.k.size (fun x hx => by have := hS _ hx; omega))
  exact ⟨h.r.but k h.r.lt (fun hm => by have := hS _ hm; omega) (fun x hx => by have := hS _ hx; omega), h.e.but k (by omega) (fun hm => by have := hS _ hm; omega), h.z.but k (by omega) (fun hm => by have := hS _ hm; omega), k2, tabs.below k2⟩
theorem BF.below (tabs : Tabs w) (h : BF w W N a len cap zs p c m r cs) (k : Below W.heap.size W W') : BF w W' N a len cap zs p c m r cs := h.but tabs (But.of k []) (by simp)
theorem BF.cell (tabs : Tabs w) (h : BF w W N a len cap zs p c m r cs) {K : Nat} (hK : w.heap.size + 2 < K) (i : Nat) (v : Value) : BF w (W.setCell ⟨K, i, none⟩ v) N a len cap zs p c m r cs :=
  h.but tabs (But.cell1 W K i v) (by simpa using hK)
theorem BF.set3 (tabs : Tabs w) (h : BF w W N a len cap zs p c m r cs) (d : Int) (hd : 0 ≤ d ∧ d ≤ 4294967295) : BF w (W.setCell ⟨w.heap.size, 3, none⟩ (.int .u32 d)) N a len cap zs p c d r cs :=
  h.read tabs (h.r.set3 d hd) (But.cell1 _ _ _ _)
theorem BF.done (tabs : Tabs w) (h : BF w W N a len cap zs p c m r cs) {cs' : Array Value} (z : Blk W' (w.heap.size + 2) 26 cs') (k : But [w.heap.size + 2] W.heap.size W W') : BF w W' N a len cap zs p c m r cs' := by
  have hl := h.lt
  have hnb := h.r.nb
  have k2 : Below w.heap.size w W' := h.k.trans (k.below h.k.size (by simp))
  exact ⟨h.r.but k h.r.lt (by simp) (by simp; omega), h.e.but k (by omega) (by simp), z, k2, tabs.below k2⟩
end
end Go.Proofs.YtbfkgakkkibejaaDoor
