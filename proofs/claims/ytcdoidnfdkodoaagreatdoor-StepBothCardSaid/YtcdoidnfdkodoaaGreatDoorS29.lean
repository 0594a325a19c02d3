import Derived.Test.YtcdoidnfdkodoaaGreatDoorS28
import Derived.Deep.MidRow
namespace Go.Proofs.YtcdoidnfdkodoaaGreatDoor
open Go.RowKit
set_option linter.unusedVariables false
set_option linter.unusedSimpArgs false
set_option linter.unusedSectionVars false
def Rw.ok (r : Rw) : Prop :=
  (r.a = 0 ∨ r.a = 1 ∨ r.a = 2 ∨ r.a = 3 ∨ r.a = 4 ∨ r.a = 5 ∨ r.a = 6 ∨ r.a = 7 ∨ r.a = 8 ∨ r.a = 9) ∧
  (r.b = 0 ∨ r.b = 1 ∨ r.b = 2 ∨ r.b = 3 ∨ r.b = 4 ∨ r.b = 5 ∨ r.b = 6 ∨ r.b = 7 ∨ r.b = 8 ∨ r.b = 9) ∧ r.op < 64
instance (r : Rw) : Decidable r.ok := by unfold Rw.ok; infer_instance
theorem ix_grp (b k : Nat) (h : k < 10) (W : World) : (Instr.indexAt 256 (.pointer (some ⟨b, 0, none⟩)) (.int .i64 (k : Int))).run Tryz.prog W = .ok (.pointer (some ⟨b, k * 8, none⟩)) W := by
  have s1 : ∀ W, (sizeOf 77).run Tryz.prog W = .ok 8 W := fun W => by kernel_rfl
  have hj : (k : Int) < 10 := by omega
  simp [Instr.indexAt, run_underlying Tryz.underlying256, s1, go_sem, hj, h, Instr.sureAddr]
theorem ix_grp2 (b o k : Nat) (h : k < 8) (W : World) : (Instr.indexAt 77 (.pointer (some ⟨b, o, none⟩)) (.int .i64 (k : Int))).run Tryz.prog W = .ok (.pointer (some ⟨b, o + k, none⟩)) W := by
  have s1 : ∀ W, (sizeOf 3).run Tryz.prog W = .ok 1 W := fun W => by kernel_rfl
  have hj : (k : Int) < 8 := by omega
  simp [Instr.indexAt, run_underlying Tryz.underlying77, s1, go_sem, hj, h, Instr.sureAddr]
section
variable {w : World} {N B : Nat} {a : Option Addr} {len cap : Nat} {zs : List Int} {p : Nat} {c m : Int}
set_option maxRecDepth 8000 in
theorem operation_low (R : Rd w N B a len cap zs p c m) (r : Rw) (h : r.op < 54) :
    Calls Tryz.prog 258 #[rp B, rwV r] w fun e w' => e = .returned (.int .i64 r.op) ∧ Below w.heap.size w w' := by
  have kE := Blk.new w 226 (rw5 r)
  have d2 := kE.cell (i := 2) (v := .int .i64 r.op) rfl
  have kb := (Below.refl w.heap.size w).alloc (Nat.le_refl _) (.cells (rw5 r) 226)
  generalize r.op = op at *
  go_enter Tryz.func258, Tryz.ntmps258
  go_wp2
  go_ret
  exact ⟨rfl, kb⟩
set_option maxRecDepth 8000 in
theorem operation_code (R : Rd w N B a len cap zs p c m) (tabs : Tabs w) (r : Rw) (h : ¬ r.op < 54) (h2 : r.op < 64) (hg : r.g = 65479) :
    Calls Tryz.prog 258 #[rp B, rwV r] w fun e w' => e = .returned (.int .i64 (opM c m r)) ∧ Below w.heap.size w w' := by
  have kE := Blk.new w 226 (rw5 r)
  have kb := (Below.refl w.heap.size w).alloc (Nat.le_refl _) (.cells (rw5 r) 226)
  have R2 := R.alloc (.cells (rw5 r) 226)
  have tabs2 := tabs.below kb
  have d0 := kE.cell (i := 0) (v := .int .u32 r.g) rfl
  have d2 := kE.cell (i := 2) (v := .int .i64 r.op) rfl
  have c2 := R2.c2
  have c3 := R2.c3
  have hM := fun w => middle_any c (by first | exact R.cb | exact R.mb) w
  have hx : 0 ≤ c / 8 % 8 ∧ c / 8 % 8 < 8 := by omega
  have hres : opM c m r = grp (r.op - 54).toNat (c / 8 % 8).toNat := by unfold opM; rw [if_neg h, if_pos hg]
  rw [hres]
  obtain ⟨k, hk⟩ := Int.eq_ofNat_of_zero_le (show 0 ≤ r.op - 54 by omega)
  obtain ⟨x, hx2⟩ := Int.eq_ofNat_of_zero_le hx.1
  have hk10 : k < 10 := by omega
  have hx8 : x < 8 := by omega
  have hop : r.op = 54 + k := by omega
  have hrs : rwV r = .agg (rw5 r) := rfl
  have cg := tabs2.2.1 k hk10 x hx8
  rw [hk, hx2, Int.toNat_natCast, Int.toNat_natCast]
  rw [hx2] at hM
  have g1 := fun W => ix_grp 6 k hk10 W
  have g2 := fun W => ix_grp2 6 (k * 8) x hx8 W
  have hsb : IntKind.i64.wrap (r.op - 54) = k := by rw [IntKind.wrap_i64, hk]; omega
  have e54 : decide (r.op < 54) = false := decide_eq_false h
  have hgd : (r.g == 65479) = true := by simp [hg]
  generalize hR5 : rw5 r = r5 at *
  rw [hrs]
  generalize r.op = op at *
  generalize r.g = g at *
  generalize grp k x = res at *
  clear hres hop hk hx2 hx tabs tabs2 hR5
  go_enter Tryz.func258, Tryz.ntmps258
  go_wp2_with fail
  have hsz : w.heap.size < (w.alloc (.cells r5 226)).heap.size := by simp
  generalize w.alloc (.cells r5 226) = w1 at *
  clear c2 c3
  refine wp_region_held_drew (S := fun W => W.cell? ⟨w.heap.size, 2, none⟩ = some (.int .i64 op) ∧ W.cell? ⟨6, k * 8 + x, none⟩ = some (.int .i64 res) ∧ Below w.heap.size w W) (by kernel_rfl) ⟨d2, cg, ⟨kb.os, kb.tape, kb.output, kb.size, kb.block⟩⟩ (fun hHeld => ?_)
  refine wpAnyH_take (i := 0) (v := ?_) rfl (by kernel_rfl) (by kernel_rfl) (by kernel_rfl) (fun _ _ _ h => h) (Or.inl ⟨by kernel_rfl, ?_⟩) hHeld ?_
  rotate_left
  · intro W hS
    go_simp
    try rfl
  simp only [Act.put, List.setIfInBounds_toArray, List.set_cons_zero, List.set_cons_succ, List.getElem_toArray, List.getElem_cons_succ, List.getElem_cons_zero]
  refine wpAnyH_take (i := 1) (v := ?_) rfl (by kernel_rfl) (by kernel_rfl) (by kernel_rfl) (fun _ _ _ h => h) (Or.inl ⟨by kernel_rfl, ?_⟩) hHeld ?_
  rotate_left
  · intro W hS
    obtain ⟨s1, s2, s3⟩ := hS
    go_simp
    try rfl
  simp only [Act.put, List.setIfInBounds_toArray, List.set_cons_zero, List.set_cons_succ, List.getElem_toArray, List.getElem_cons_succ, List.getElem_cons_zero]
  refine wpAnyH_take (i := 2) (v := ?_) rfl (by kernel_rfl) (by kernel_rfl) (by kernel_rfl) (fun _ _ _ h => h) (Or.inl ⟨by kernel_rfl, ?_⟩) hHeld ?_
  rotate_left
  · intro W hS
    go_simp
    try rfl
  simp only [Act.put, List.setIfInBounds_toArray, List.set_cons_zero, List.set_cons_succ, List.getElem_toArray, List.getElem_cons_succ, List.getElem_cons_zero]
  refine wpAnyH_take (i := 3) (v := ?_) rfl (by kernel_rfl) (by kernel_rfl) (by kernel_rfl) (fun _ _ _ h => h) (Or.inl ⟨by kernel_rfl, ?_⟩) hHeld ?_
  rotate_left
  · intro W hS
    go_simp
    try rfl
  simp only [Act.put, List.setIfInBounds_toArray, List.set_cons_zero, List.set_cons_succ, List.getElem_toArray, List.getElem_cons_succ, List.getElem_cons_zero]
  refine wpAnyH_take (i := 5) (v := ?_) rfl (by kernel_rfl) (by kernel_rfl) (by kernel_rfl) (fun _ _ _ h => h) (Or.inl ⟨by kernel_rfl, ?_⟩) hHeld ?_
  rotate_left
  · intro W hS
    go_simp
    try rfl
  simp only [Act.put, List.setIfInBounds_toArray, List.set_cons_zero, List.set_cons_succ, List.getElem_toArray, List.getElem_cons_succ, List.getElem_cons_zero]
  refine wpAnyH_ready (rs := [4]) (by kernel_rfl) (by simp) ?_
  refine AllReadyH.cons rfl (fun K hK => ?_) AllReadyH.nil
  go_simp
  with_reducible refine (hM _).mono ?_
  rintro e w2 ⟨rfl, rfl⟩
  refine hK.out _ _ hHeld (fun _ => ?_)
  clear hK K
  try simp only [Act.put, List.setIfInBounds_toArray, List.set_cons_zero, List.set_cons_succ]
  refine wpAnyH_take (i := 6) (v := ?_) rfl (by kernel_rfl) (by kernel_rfl) (by kernel_rfl) (fun _ _ _ h => h) (Or.inl ⟨by kernel_rfl, ?_⟩) hHeld ?_
  rotate_left
  · intro W hS
    go_simp
    try rfl
  simp only [Act.put, List.setIfInBounds_toArray, List.set_cons_zero, List.set_cons_succ, List.getElem_toArray, List.getElem_cons_succ, List.getElem_cons_zero]
  refine wpAnyH_take (i := 7) (v := ?_) rfl (by kernel_rfl) (by kernel_rfl) (by kernel_rfl) (fun _ _ _ h => h) (Or.inl ⟨by kernel_rfl, ?_⟩) hHeld ?_
  rotate_left
  · intro W hS
    obtain ⟨s1, s2, s3⟩ := hS
    go_simp
    try rfl
  simp only [Act.put, List.setIfInBounds_toArray, List.set_cons_zero, List.set_cons_succ, List.getElem_toArray, List.getElem_cons_succ, List.getElem_cons_zero]
  refine wpAnyH_take (i := 8) (v := ?_) rfl (by kernel_rfl) (by kernel_rfl) (by kernel_rfl) (fun _ _ _ h => h) (Or.inl ⟨by kernel_rfl, ?_⟩) hHeld ?_
  rotate_left
  · intro W hS
    go_simp
    try rfl
  simp only [Act.put, List.setIfInBounds_toArray, List.set_cons_zero, List.set_cons_succ, List.getElem_toArray, List.getElem_cons_succ, List.getElem_cons_zero]
  refine wpAnyH_done (by kernel_rfl) ?_ _
  go_wp2
  go_ret
  exact ⟨rfl, hHeld.2.2⟩
set_option maxRecDepth 8000 in
theorem operation_mod (R : Rd w N B a len cap zs p c m) (tabs : Tabs w) (r : Rw) (h : ¬ r.op < 54) (h2 : r.op < 64) (hg : ¬ r.g = 65479) :
    Calls Tryz.prog 258 #[rp B, rwV r] w fun e w' => e = .returned (.int .i64 (opM c m r)) ∧ Below w.heap.size w w' := by
  have kE := Blk.new w 226 (rw5 r)
  have kb := (Below.refl w.heap.size w).alloc (Nat.le_refl _) (.cells (rw5 r) 226)
  have R2 := R.alloc (.cells (rw5 r) 226)
  have tabs2 := tabs.below kb
  have d0 := kE.cell (i := 0) (v := .int .u32 r.g) rfl
  have d2 := kE.cell (i := 2) (v := .int .i64 r.op) rfl
  have c2 := R2.c2
  have c3 := R2.c3
  have hM := fun w => middle_any m (by first | exact R.cb | exact R.mb) w
  have hx : 0 ≤ m / 8 % 8 ∧ m / 8 % 8 < 8 := by omega
  have hres : opM c m r = grp (r.op - 54).toNat (m / 8 % 8).toNat := by unfold opM; rw [if_neg h, if_neg hg]
  rw [hres]
  obtain ⟨k, hk⟩ := Int.eq_ofNat_of_zero_le (show 0 ≤ r.op - 54 by omega)
  obtain ⟨x, hx2⟩ := Int.eq_ofNat_of_zero_le hx.1
  have hk10 : k < 10 := by omega
  have hx8 : x < 8 := by omega
  have hop : r.op = 54 + k := by omega
  have hrs : rwV r = .agg (rw5 r) := rfl
  have cg := tabs2.2.1 k hk10 x hx8
  rw [hk, hx2, Int.toNat_natCast, Int.toNat_natCast]
  rw [hx2] at hM
  have g1 := fun W => ix_grp 6 k hk10 W
  have g2 := fun W => ix_grp2 6 (k * 8) x hx8 W
  have hsb : IntKind.i64.wrap (r.op - 54) = k := by rw [IntKind.wrap_i64, hk]; omega
  have e54 : decide (r.op < 54) = false := decide_eq_false h
  have hgd : (r.g == 65479) = false := by simp [hg]
  generalize hR5 : rw5 r = r5 at *
  rw [hrs]
  generalize r.op = op at *
  generalize r.g = g at *
  generalize grp k x = res at *
  clear hres hop hk hx2 hx tabs tabs2 hR5
  go_enter Tryz.func258, Tryz.ntmps258
  go_wp2_with fail
  have hsz : w.heap.size < (w.alloc (.cells r5 226)).heap.size := by simp
  generalize w.alloc (.cells r5 226) = w1 at *
  clear c2 c3
  refine wp_region_held_drew (S := fun W => W.cell? ⟨w.heap.size, 2, none⟩ = some (.int .i64 op) ∧ W.cell? ⟨6, k * 8 + x, none⟩ = some (.int .i64 res) ∧ Below w.heap.size w W) (by kernel_rfl) ⟨d2, cg, ⟨kb.os, kb.tape, kb.output, kb.size, kb.block⟩⟩ (fun hHeld => ?_)
  refine wpAnyH_take (i := 0) (v := ?_) rfl (by kernel_rfl) (by kernel_rfl) (by kernel_rfl) (fun _ _ _ h => h) (Or.inl ⟨by kernel_rfl, ?_⟩) hHeld ?_
  rotate_left
  · intro W hS
    go_simp
    try rfl
  simp only [Act.put, List.setIfInBounds_toArray, List.set_cons_zero, List.set_cons_succ, List.getElem_toArray, List.getElem_cons_succ, List.getElem_cons_zero]
  refine wpAnyH_take (i := 1) (v := ?_) rfl (by kernel_rfl) (by kernel_rfl) (by kernel_rfl) (fun _ _ _ h => h) (Or.inl ⟨by kernel_rfl, ?_⟩) hHeld ?_
  rotate_left
  · intro W hS
    obtain ⟨s1, s2, s3⟩ := hS
    go_simp
    try rfl
  simp only [Act.put, List.setIfInBounds_toArray, List.set_cons_zero, List.set_cons_succ, List.getElem_toArray, List.getElem_cons_succ, List.getElem_cons_zero]
  refine wpAnyH_take (i := 2) (v := ?_) rfl (by kernel_rfl) (by kernel_rfl) (by kernel_rfl) (fun _ _ _ h => h) (Or.inl ⟨by kernel_rfl, ?_⟩) hHeld ?_
  rotate_left
  · intro W hS
    go_simp
    try rfl
  simp only [Act.put, List.setIfInBounds_toArray, List.set_cons_zero, List.set_cons_succ, List.getElem_toArray, List.getElem_cons_succ, List.getElem_cons_zero]
  refine wpAnyH_take (i := 3) (v := ?_) rfl (by kernel_rfl) (by kernel_rfl) (by kernel_rfl) (fun _ _ _ h => h) (Or.inl ⟨by kernel_rfl, ?_⟩) hHeld ?_
  rotate_left
  · intro W hS
    go_simp
    try rfl
  simp only [Act.put, List.setIfInBounds_toArray, List.set_cons_zero, List.set_cons_succ, List.getElem_toArray, List.getElem_cons_succ, List.getElem_cons_zero]
  refine wpAnyH_take (i := 5) (v := ?_) rfl (by kernel_rfl) (by kernel_rfl) (by kernel_rfl) (fun _ _ _ h => h) (Or.inl ⟨by kernel_rfl, ?_⟩) hHeld ?_
  rotate_left
  · intro W hS
    go_simp
    try rfl
  simp only [Act.put, List.setIfInBounds_toArray, List.set_cons_zero, List.set_cons_succ, List.getElem_toArray, List.getElem_cons_succ, List.getElem_cons_zero]
  refine wpAnyH_ready (rs := [4]) (by kernel_rfl) (by simp) ?_
  refine AllReadyH.cons rfl (fun K hK => ?_) AllReadyH.nil
  go_simp
  with_reducible refine (hM _).mono ?_
  rintro e w2 ⟨rfl, rfl⟩
  refine hK.out _ _ hHeld (fun _ => ?_)
  clear hK K
  try simp only [Act.put, List.setIfInBounds_toArray, List.set_cons_zero, List.set_cons_succ]
  refine wpAnyH_take (i := 6) (v := ?_) rfl (by kernel_rfl) (by kernel_rfl) (by kernel_rfl) (fun _ _ _ h => h) (Or.inl ⟨by kernel_rfl, ?_⟩) hHeld ?_
  rotate_left
  · intro W hS
    go_simp
    try rfl
  simp only [Act.put, List.setIfInBounds_toArray, List.set_cons_zero, List.set_cons_succ, List.getElem_toArray, List.getElem_cons_succ, List.getElem_cons_zero]
  refine wpAnyH_take (i := 7) (v := ?_) rfl (by kernel_rfl) (by kernel_rfl) (by kernel_rfl) (fun _ _ _ h => h) (Or.inl ⟨by kernel_rfl, ?_⟩) hHeld ?_
  rotate_left
  · intro W hS
    obtain ⟨s1, s2, s3⟩ := hS
    go_simp
    try rfl
  simp only [Act.put, List.setIfInBounds_toArray, List.set_cons_zero, List.set_cons_succ, List.getElem_toArray, List.getElem_cons_succ, List.getElem_cons_zero]
  refine wpAnyH_take (i := 8) (v := ?_) rfl (by kernel_rfl) (by kernel_rfl) (by kernel_rfl) (fun _ _ _ h => h) (Or.inl ⟨by kernel_rfl, ?_⟩) hHeld ?_
  rotate_left
  · intro W hS
    go_simp
    try rfl
  simp only [Act.put, List.setIfInBounds_toArray, List.set_cons_zero, List.set_cons_succ, List.getElem_toArray, List.getElem_cons_succ, List.getElem_cons_zero]
  refine wpAnyH_done (by kernel_rfl) ?_ _
  go_wp2
  go_ret
  exact ⟨rfl, hHeld.2.2⟩
theorem operation_any (R : Rd w N B a len cap zs p c m) (tabs : Tabs w) (r : Rw) (h2 : r.op < 64) :
    Calls Tryz.prog 258 #[rp B, rwV r] w fun e w' => e = .returned (.int .i64 (opM c m r)) ∧ Below w.heap.size w w' := by
  by_cases h : r.op < 54
  · have := operation_low R r h
    rw [show opM c m r = r.op from if_pos h]
    exact this
  · by_cases hg : r.g = 65479
    · exact operation_code R tabs r h h2 hg
    · exact operation_mod R tabs r h h2 hg
end
structure BF (w W : World) (N : Nat) (a : Option Addr) (len cap : Nat) (zs : List Int) (p : Nat) (c m : Int) (x : Rw) (cs : Array Value) : Prop where
  r : Rd W N w.heap.size a len cap zs p c m
  e : Blk W (w.heap.size + 1) 226 (rw5 x)
  z : Blk W (w.heap.size + 2) 33 cs
  k : Below w.heap.size w W
  t : Tabs W
section
variable {w W W' : World} {N : Nat} {a : Option Addr} {len cap : Nat} {zs : List Int} {p : Nat} {c m : Int} {r : Rw} {cs : Array Value}
theorem BF.lt (h : BF w W N a len cap zs p c m r cs) : w.heap.size + 2 < W.heap.size := h.z.lt
theorem BF.drew (h : BF w W N a len cap zs p c m r cs) : BF w W.drew N a len cap zs p c m r cs := ⟨h.r.drew, h.e.drew, h.z.drew, ⟨h.k.os, h.k.tape, h.k.output, h.k.size, h.k.block⟩, h.t⟩
theorem BF.read (tabs : Tabs w) (h : BF w W N a len cap zs p c m r cs) {q : Nat} {d e : Int} (R : Rd W' N w.heap.size a len cap zs q d e) (k : But [w.heap.size] W.heap.size W W') : BF w W' N a len cap zs q d e r cs := by
  have hl := h.lt
  have k2 : Below w.heap.size w W' := h.k.trans (k.below h.k.size (by simp))
  exact ⟨R, h.e.but k (by omega) (by simp), h.z.but k (by omega) (by simp), k2, tabs.below k2⟩
theorem BF.but (tabs : Tabs w) (h : BF w W N a len cap zs p c m r cs) {S : List Nat} (k : But S W.heap.size W W') (hS : ∀ x, x ∈ S → w.heap.size + 2 < x) : BF w W' N a len cap zs p c m r cs := by
  have hl := h.lt
  have hnb := h.r.nb
  have k2 : Below w.heap.size w W' := h.k.trans (k.below h.k.size (fun x hx => by have := hS _ hx; omega))
  exact ⟨h.r.but k h.r.lt (fun hm => by have := hS _ hm; omega) (fun x hx => by have := hS _ hx; omega), h.e.but k (by omega) (fun hm => by have := hS _ hm; omega), h.z.but k (by omega) (fun hm => by have := hS _ hm; omega), k2, tabs.below k2⟩
theorem BF.below (tabs : Tabs w) (h : BF w W N a len cap zs p c m r cs) (k : Below W.heap.size W W') : BF w W' N a len cap zs p c m r cs := h.but tabs (But.of k []) (by simp)
theorem BF.cell (tabs : Tabs w) (h : BF w W N a len cap zs p c m r cs) {K : Nat} (hK : w.heap.size + 2 < K) (i : Nat) (v : Value) : BF w (W.setCell ⟨K, i, none⟩ v) N a len cap zs p c m r cs :=
  h.but tabs (But.cell1 W K i v) (by simpa using hK)
theorem BF.set3 (tabs : Tabs w) (h : BF w W N a len cap zs p c m r cs) (d : Int) (hd : 0 ≤ d ∧ d ≤ 4294967295) : BF w (W.setCell ⟨w.heap.size, 3, none⟩ (.int .u32 d)) N a len cap zs p c d r cs :=
  h.read tabs (h.r.set3 d hd) (But.cell1 _ _ _ _)
theorem BF.done (tabs : Tabs w) (h : BF w W N a len cap zs p c m r cs) {cs' : Array Value} (z : Blk W' (w.heap.size + 2) 33 cs') (k : But [w.heap.size + 2] W.heap.size W W') : BF w W' N a len cap zs p c m r cs' := by
  have hl := h.lt
  have hnb := h.r.nb
  have k2 : Below w.heap.size w W' := h.k.trans (k.below h.k.size (by simp))
  exact ⟨h.r.but k h.r.lt (by simp) (by simp; omega), h.e.but k (by omega) (by simp), z, k2, tabs.below k2⟩
end
end Go.Proofs.YtcdoidnfdkodoaaGreatDoor
namespace Go.Proofs.YtcdoidnfdkodoaaGreatDoor
open Go.RowKit
set_option linter.unusedVariables false
set_option linter.unusedSimpArgs false
set_option linter.unusedSectionVars false
theorem Blk.there {W : World} {K : Nat} {t : TypeId} {cs : Array Value} (k : Blk W K t cs) (o n : Nat) (h : o + n ≤ cs.size) : W.there K o n := by
  intro i hi
  refine ⟨?_, k.fr _⟩
  rw [k.cell (v := cs[o + i]'(by omega)) (by simp)]
  rfl
theorem store_opA {ops : Array Oper} {rest : List Oper} {op : Oper} {a : Act} {w : World} {Q : Exit → Act → World → Prop} (hgd : op.guard = none) (x y : Operand) (ho : op.op = .store 31 x y)
    (K : Nat) (i : In) (o : On) (hx : a.eval x = .pointer (some ⟨K, 2, none⟩)) (hy : a.eval y = opV o) (k : Blk w K 33 (in16 i))
    (h : ∀ W, Blk W K 33 (in16 { i with A := o }) → But [K] w.heap.size w W → W.heap.size = w.heap.size → wpList Tryz.prog ops Q rest (a.put op.dst undef) W) :
    wpList Tryz.prog ops Q (op :: rest) a w := by
  refine wpList_store_mid hgd 31 x y ho K 2 (op6 o) hx hy (k.there 2 6 (by simp)) (szOp o) (op6_one o) ?_
  refine h _ ((((((k.set 2 (.int .i64 o.k)).set 3 (.int .i64 o.r)).set 4 (.int .u32 o.m)).set 5 (.int .i64 o.b)).set 6 (.int .i64 o.x)).set 7 (.int .u32 o.s)) ?_ ?_
  · exact ((((((But.refl [K] w.heap.size w).setCell (p := ⟨K, 2, none⟩) (by simp) _).setCell (p := ⟨K, 3, none⟩) (by simp) _).setCell (p := ⟨K, 4, none⟩) (by simp) _).setCell (p := ⟨K, 5, none⟩) (by simp) _).setCell (p := ⟨K, 6, none⟩) (by simp) _).setCell (p := ⟨K, 7, none⟩) (by simp) _
  · simp [World.setCells, World.setCell]
theorem store_opB {ops : Array Oper} {rest : List Oper} {op : Oper} {a : Act} {w : World} {Q : Exit → Act → World → Prop} (hgd : op.guard = none) (x y : Operand) (ho : op.op = .store 31 x y)
    (K : Nat) (i : In) (o : On) (hx : a.eval x = .pointer (some ⟨K, 8, none⟩)) (hy : a.eval y = opV o) (k : Blk w K 33 (in16 i))
    (h : ∀ W, Blk W K 33 (in16 { i with B := o }) → But [K] w.heap.size w W → W.heap.size = w.heap.size → wpList Tryz.prog ops Q rest (a.put op.dst undef) W) :
    wpList Tryz.prog ops Q (op :: rest) a w := by
  refine wpList_store_mid hgd 31 x y ho K 8 (op6 o) hx hy (k.there 8 6 (by simp)) (szOp o) (op6_one o) ?_
  refine h _ ((((((k.set 8 (.int .i64 o.k)).set 9 (.int .i64 o.r)).set 10 (.int .u32 o.m)).set 11 (.int .i64 o.b)).set 12 (.int .i64 o.x)).set 13 (.int .u32 o.s)) ?_ ?_
  · exact ((((((But.refl [K] w.heap.size w).setCell (p := ⟨K, 8, none⟩) (by simp) _).setCell (p := ⟨K, 9, none⟩) (by simp) _).setCell (p := ⟨K, 10, none⟩) (by simp) _).setCell (p := ⟨K, 11, none⟩) (by simp) _).setCell (p := ⟨K, 12, none⟩) (by simp) _).setCell (p := ⟨K, 13, none⟩) (by simp) _
  · simp [World.setCells, World.setCell]
theorem store_cell {ops : Array Oper} {rest : List Oper} {op : Oper} {a : Act} {w : World} {Q : Exit → Act → World → Prop} (hgd : op.guard = none) (ty : TypeId) (x y : Operand) (ho : op.op = .store ty x y)
    (hs : (Tryz.prog.info? ty).map (·.size) = some 1)
    (K : Nat) (t : TypeId) (cs cs' : Array Value) (j : Nat) (v : Value) (hx : a.eval x = .pointer (some ⟨K, j, none⟩)) (hy : a.eval y = v) (k : Blk w K t cs) (hj : j < cs.size) (hv : v.cells = #[v]) (h1 : v.oneCell' = true) (hcs : cs.setIfInBounds j v = cs')
    (h : ∀ W, Blk W K t cs' → But [K] w.heap.size w W → W.heap.size = w.heap.size → wpList Tryz.prog ops Q rest (a.put op.dst undef) W) :
    wpList Tryz.prog ops Q (op :: rest) a w := by
  refine wpList_plain hgd fun _ hK => ?_
  have ht := k.there j 1 (by omega)
  have hst := run_storeCells_cells (P := Tryz.prog) K j [v] 0 w (fun i hi => by simpa using (ht i (by simpa using hi)).1) (fun i hi => by simpa using (ht i (by simpa using hi)).2) (fun u hu => by simp at hu; subst hu; exact h1)
  have hst2 : (storeVar ty ⟨K, j, none⟩ v).run Tryz.prog w = .ok () (w.setCell ⟨K, j, none⟩ v) := by
    cases hq : Tryz.prog.info? ty with
    | none => simp [hq] at hs
    | some inf =>
      have hz : inf.size = 1 := by simpa [hq] using hs
      simp only [Nat.add_zero] at hst
      have hv2 : v.cells.toList = [v] := by rw [hv]
      have hv3 : v.cells.size = 1 := by rw [hv]; rfl
      simp [storeVar, sizeOf, typeInfo, hq, hz, hv, hv2, hv3, hst, World.setCells]
  unfold Oper.wp execOp
  simp only [ho, hx, hy, Instr.storeAt, Instr.sureAddr, Sem.run_bind, Sem.run_pure, Result.andThen_ok, hst2]
  exact hK _ _ (h _ (hcs ▸ k.set j v) (But.cell1 _ _ _ _) (by simp [World.setCell]))
abbrev rdV (a : Option Addr) (len cap p : Nat) (c m : Int) : Value := .agg #[.slice a len cap, .int .i64 p, .int .u32 c, .int .u32 m]
structure Rv (w : World) (N : Nat) (a : Option Addr) (len cap : Nat) (zs : List Int) (p : Nat) (c m : Int) : Prop where
  row : RowN w N a len zs
  nb : N ≤ w.heap.size
  lc : len ≤ cap
  cm : cap ≤ 9223372036854775807
  pl : p ≤ len
  mb : 0 ≤ m ∧ m ≤ 4294967295
  cb : 0 ≤ c ∧ c ≤ 4294967295
abbrev zI (op : Int) : Array Value := #[.int .i64 op, .int .i64 0, .int .i64 0, .int .i64 0, .int .u32 0, .int .i64 0, .int .i64 0, .int .u32 0, .int .i64 0, .int .i64 0, .int .u32 0, .int .i64 0, .int .i64 0, .int .u32 0, .bool false, .int .i64 0]
theorem zI_size (op : Int) : (zI op).size = 16 := rfl
theorem zI_one (op : Int) : (zI op).all (·.oneCell') = true := by simp [Value.oneCell']
theorem szRw (r : Rw) : (Tryz.prog.info? 226).map (·.size) = some (rw5 r).size := by kernel_rfl
theorem load_rwR {ops : Array Oper} {rest : List Oper} {o : Oper} {a : Act} {w : World} {Q : Exit → Act → World → Prop} (hgd : o.guard = none) (x : Operand) (ho : o.op = .load 226 x)
    (K : Nat) (r : Rw) (hx : a.eval x = .pointer (some ⟨K, 0, none⟩)) (k : Blk w K 226 (rw5 r))
    (h : wpList Tryz.prog ops Q rest (a.put o.dst (rwV r)) w) : wpList Tryz.prog ops Q (o :: rest) a w :=
  wpList_load_row hgd 226 x ho K hx 226 (rw5 r) (0, 0) _ k.h Tryz.underlying226 rfl (szRw r) h
theorem BF.start {w : World} {N : Nat} {a : Option Addr} {len cap : Nat} {zs : List Int} {p : Nat} {c m : Int} (V : Rv w N a len cap zs p c m) (tabs : Tabs w) (r : Rw) :
    BF w (((w.alloc (.cells #[.slice a len cap, .int .i64 p, .int .u32 c, .int .u32 m] 202)).alloc (.cells (rw5 r) 226)).alloc (.cells z16 33)) N a len cap zs p c m r z16 := by
  have h3 := alloc3 w (.cells #[.slice a len cap, .int .i64 p, .int .u32 c, .int .u32 m] 202) (.cells (rw5 r) 226) (.cells z16 33)
  have kb := (((Below.refl w.heap.size w).alloc (Nat.le_refl _) (.cells #[.slice a len cap, .int .i64 p, .int .u32 c, .int .u32 m] 202)).alloc (by simp) (.cells (rw5 r) 226)).alloc (by simp; omega) (.cells z16 33)
  exact ⟨⟨⟨h3.1⟩, V.row.but (But.of kb []) V.nb (by simp), V.nb, V.lc, V.cm, V.pl, V.mb, V.cb⟩, ⟨h3.2.1⟩, ⟨h3.2.2⟩, kb, tabs.below kb⟩
def endM (x : Except Int In) : Ending := match x with | .ok i => .returned (inV i) | .error n => .panicked (errP n)
end Go.Proofs.YtcdoidnfdkodoaaGreatDoor
