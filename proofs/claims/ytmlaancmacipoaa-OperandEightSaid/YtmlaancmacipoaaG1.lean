/- operand: places; bytes of memory, or the panic; rights asked. -/
import Derived.Test.YtmlaancmacipoaaG0
import Derived.Deep.CutRange
namespace Go.Proofs.Ytmlaancmacipoaa
open Go.RowKit
set_option linter.unusedVariables false
set_option linter.unusedSimpArgs false
set_option linter.unusedSectionVars false

theorem run_load_row {P : Program} {ev : Operand → Value} {o : Oper} {w : World} {ty : TypeId} {x : Operand} (ho : o.op = .load ty x) {b : Nat} (hx : ev x = .pointer (some ⟨b, 0, none⟩)) (t : TypeId) (cs : Array Value) (fr : Nat × Nat) (d : TypeDesc)
    (hg : w.heap[b]? = some (.cells cs t fr)) (hu : P.underlying ty = some d) (hd : (match d with | .struct _ | .array _ _ => true | _ => false) = true) (hi : (P.info? ty).map (·.size) = some cs.size) :
    (execOp ev o).run P w = .ok (.value (.agg cs)) w := by
  unfold execOp
  simp only [ho, hx, Instr.loadAt, Instr.sureAddr, Sem.run_bind, Sem.run_pure, Result.andThen_ok, run_loadVar_row w b t ty cs fr d hg hu hd hi]
theorem stO (w : World) (g : Gs) (o : On) : Blk ((w.alloc (.cells (stA g) 44)).alloc (.cells (op6 o) 47)) w.heap.size 44 (stA g) ∧ Blk ((w.alloc (.cells (stA g) 44)).alloc (.cells (op6 o) 47)) (w.heap.size + 1) 47 (op6 o) ∧ Below w.heap.size w ((w.alloc (.cells (stA g) 44)).alloc (.cells (op6 o) 47)) := by
  refine ⟨(Blk.new w 44 (stA g)).alloc _, ?_, ((Below.refl w.heap.size w).alloc (Nat.le_refl _) _).alloc (by simp) _⟩
  have := Blk.new (w.alloc (.cells (stA g) 44)) 47 (op6 o)
  rwa [World.size_alloc] at this
set_option maxRecDepth 20000 in
theorem Place_any (g : Gs) (o : On) (w : World) : Calls Try.prog 17 #[stV g, opV o] w fun e w' => e = .returned (.int .u32 (plO g o)) ∧ Below w.heap.size w w' := by
  obtain ⟨kS, kO, b0⟩ := stO w g o
  have c0 := kO.cell (i := 0) (v := .int .i64 o.k) rfl
  unfold plO
  by_cases h : o.k = 3
  · rw [if_pos h]
    have h3 : (o.k != 3) = false := by simp [h]
    clear h
    have hB := Lib.hid (fun W => register_any g o.b W)
    have hX := Lib.hid (fun W => register_any g o.x W)
    generalize regV g o.b = rb at *
    generalize regV g o.x = rx at *
    go_enter Try.func17, Try.ntmps17
    go_upto_region 3 with fail
    generalize (w.alloc (.cells (stA g) 44)).alloc (.cells (op6 o) 47) = W at *
    clear c0
    have bd := b0.trans ((Below.refl W.heap.size W).drew.mono b0.size)
    refine wp_region_held_drew (S := fun V => Blk V w.heap.size 44 (stA g) ∧ Blk V (w.heap.size + 1) 47 (op6 o)) (by kernel_rfl) ⟨kS.drew, kO.drew⟩ (fun hH => ?_)
    generalize W.drew = W1 at *
    refine wpAnyH_take (i := 0) (v := stV g) rfl (by kernel_rfl) (by kernel_rfl) (by kernel_rfl) (fun _ _ _ h => h) (Or.inl ⟨by kernel_rfl, ?_⟩) hH ?_
    · intro W hS
      exact run_load_row (by rfl) (by rfl) 44 _ (0, 0) _ hS.1.h Try.underlying44 rfl szS
    simp only [Act.put, List.setIfInBounds_toArray, List.set_cons_zero, List.set_cons_succ]
    refine wpAnyH_take (i := 1) (v := ?_) rfl (by kernel_rfl) (by kernel_rfl) (by kernel_rfl) (fun _ _ _ h => h) (Or.inl ⟨by kernel_rfl, ?_⟩) hH ?_
    rotate_left
    · intro W hS
      go_simp
      try rfl
    simp only [Act.put, List.setIfInBounds_toArray, List.set_cons_zero, List.set_cons_succ, List.getElem_toArray, List.getElem_cons_succ, List.getElem_cons_zero]
    refine wpAnyH_take (i := 2) (v := ?_) rfl (by kernel_rfl) (by kernel_rfl) (by kernel_rfl) (fun _ _ _ h => h) (Or.inl ⟨by kernel_rfl, ?_⟩) hH ?_
    rotate_left
    · intro W hS
      have cx := hS.2.cell (i := 3) (v := .int .i64 o.b) rfl
      go_simp
      try rfl
    simp only [Act.put, List.setIfInBounds_toArray, List.set_cons_zero, List.set_cons_succ, List.getElem_toArray, List.getElem_cons_succ, List.getElem_cons_zero]
    refine wpAnyH_take (i := 4) (v := stV g) rfl (by kernel_rfl) (by kernel_rfl) (by kernel_rfl) (fun _ _ _ h => h) (Or.inl ⟨by kernel_rfl, ?_⟩) hH ?_
    · intro W hS
      exact run_load_row (by rfl) (by rfl) 44 _ (0, 0) _ hS.1.h Try.underlying44 rfl szS
    simp only [Act.put, List.setIfInBounds_toArray, List.set_cons_zero, List.set_cons_succ]
    refine wpAnyH_take (i := 5) (v := ?_) rfl (by kernel_rfl) (by kernel_rfl) (by kernel_rfl) (fun _ _ _ h => h) (Or.inl ⟨by kernel_rfl, ?_⟩) hH ?_
    rotate_left
    · intro W hS
      go_simp
      try rfl
    simp only [Act.put, List.setIfInBounds_toArray, List.set_cons_zero, List.set_cons_succ, List.getElem_toArray, List.getElem_cons_succ, List.getElem_cons_zero]
    refine wpAnyH_take (i := 6) (v := ?_) rfl (by kernel_rfl) (by kernel_rfl) (by kernel_rfl) (fun _ _ _ h => h) (Or.inl ⟨by kernel_rfl, ?_⟩) hH ?_
    rotate_left
    · intro W hS
      have cx := hS.2.cell (i := 4) (v := .int .i64 o.x) rfl
      go_simp
      try rfl
    simp only [Act.put, List.setIfInBounds_toArray, List.set_cons_zero, List.set_cons_succ, List.getElem_toArray, List.getElem_cons_succ, List.getElem_cons_zero]
    refine wpAnyH_take (i := 8) (v := ?_) rfl (by kernel_rfl) (by kernel_rfl) (by kernel_rfl) (fun _ _ _ h => h) (Or.inl ⟨by kernel_rfl, ?_⟩) hH ?_
    rotate_left
    · intro W hS
      go_simp
      try rfl
    simp only [Act.put, List.setIfInBounds_toArray, List.set_cons_zero, List.set_cons_succ, List.getElem_toArray, List.getElem_cons_succ, List.getElem_cons_zero]
    refine wpAnyH_take (i := 9) (v := ?_) rfl (by kernel_rfl) (by kernel_rfl) (by kernel_rfl) (fun _ _ _ h => h) (Or.inl ⟨by kernel_rfl, ?_⟩) hH ?_
    rotate_left
    · intro W hS
      have cx := hS.2.cell (i := 5) (v := .int .u32 o.s) rfl
      go_simp
      try rfl
    simp only [Act.put, List.setIfInBounds_toArray, List.set_cons_zero, List.set_cons_succ, List.getElem_toArray, List.getElem_cons_succ, List.getElem_cons_zero]
    refine wpAnyH_take (i := 12) (v := ?_) rfl (by kernel_rfl) (by kernel_rfl) (by kernel_rfl) (fun _ _ _ h => h) (Or.inl ⟨by kernel_rfl, ?_⟩) hH ?_
    rotate_left
    · intro W hS
      go_simp
      try rfl
    simp only [Act.put, List.setIfInBounds_toArray, List.set_cons_zero, List.set_cons_succ, List.getElem_toArray, List.getElem_cons_succ, List.getElem_cons_zero]
    refine wpAnyH_take (i := 13) (v := ?_) rfl (by kernel_rfl) (by kernel_rfl) (by kernel_rfl) (fun _ _ _ h => h) (Or.inl ⟨by kernel_rfl, ?_⟩) hH ?_
    rotate_left
    · intro W hS
      have cx := hS.2.cell (i := 2) (v := .int .u32 o.m) rfl
      go_simp
      try rfl
    simp only [Act.put, List.setIfInBounds_toArray, List.set_cons_zero, List.set_cons_succ, List.getElem_toArray, List.getElem_cons_succ, List.getElem_cons_zero]
    refine wpAnyH_ready (rs := [3]) (by kernel_rfl) (by simp) ?_
    refine AllReadyH.cons rfl (fun K hK => ?_) AllReadyH.nil
    go_simp
    with_reducible refine (hB.out _).mono ?_
    rintro e w2 ⟨rfl, b2⟩
    have hH2 := And.intro (hH.1.below b2 hH.1.lt) (hH.2.below b2 hH.2.lt)
    refine hK.out _ _ hH2 (fun _ => ?_)
    clear hK K
    try simp only [Act.put, List.setIfInBounds_toArray, List.set_cons_zero, List.set_cons_succ]
    refine wpAnyH_ready (rs := [7]) (by kernel_rfl) (by simp) ?_
    refine AllReadyH.cons rfl (fun K hK => ?_) AllReadyH.nil
    go_simp
    with_reducible refine (hX.out _).mono ?_
    rintro e w3 ⟨rfl, b3⟩
    have hH3 := And.intro (hH2.1.below b3 hH2.1.lt) (hH2.2.below b3 hH2.2.lt)
    refine hK.out _ _ hH3 (fun _ => ?_)
    clear hK K
    try simp only [Act.put, List.setIfInBounds_toArray, List.set_cons_zero, List.set_cons_succ]
    refine wpAnyH_take (i := 10) (v := ?_) rfl (by kernel_rfl) (by kernel_rfl) (by kernel_rfl) (fun _ _ _ h => h) (Or.inl ⟨by kernel_rfl, ?_⟩) hH3 ?_
    rotate_left
    · intro W hS
      go_simp
      try rfl
    simp only [Act.put, List.setIfInBounds_toArray, List.set_cons_zero, List.set_cons_succ, List.getElem_toArray, List.getElem_cons_succ, List.getElem_cons_zero]
    refine wpAnyH_take (i := 11) (v := ?_) rfl (by kernel_rfl) (by kernel_rfl) (by kernel_rfl) (fun _ _ _ h => h) (Or.inl ⟨by kernel_rfl, ?_⟩) hH3 ?_
    rotate_left
    · intro W hS
      go_simp
      try rfl
    simp only [Act.put, List.setIfInBounds_toArray, List.set_cons_zero, List.set_cons_succ, List.getElem_toArray, List.getElem_cons_succ, List.getElem_cons_zero]
    refine wpAnyH_take (i := 14) (v := ?_) rfl (by kernel_rfl) (by kernel_rfl) (by kernel_rfl) (fun _ _ _ h => h) (Or.inl ⟨by kernel_rfl, ?_⟩) hH3 ?_
    rotate_left
    · intro W hS
      go_simp
      try rfl
    simp only [Act.put, List.setIfInBounds_toArray, List.set_cons_zero, List.set_cons_succ, List.getElem_toArray, List.getElem_cons_succ, List.getElem_cons_zero]
    refine wpAnyH_take (i := 15) (v := ?_) rfl (by kernel_rfl) (by kernel_rfl) (by kernel_rfl) (fun _ _ _ h => h) (Or.inl ⟨by kernel_rfl, ?_⟩) hH3 ?_
    rotate_left
    · intro W hS
      go_simp
      try rfl
    simp only [Act.put, List.setIfInBounds_toArray, List.set_cons_zero, List.set_cons_succ, List.getElem_toArray, List.getElem_cons_succ, List.getElem_cons_zero]
    refine wpAnyH_done (by kernel_rfl) ?_ _
    go_wp2_with fail
    go_ret
    exact ⟨rfl, bd.trans ((b2.trans (b3.mono b2.size)).mono bd.size)⟩
  · rw [if_neg h]
    have h3 : (o.k != 3) = true := by simp [h]
    go_enter Try.func17, Try.ntmps17
    go_wp2_with fail
    go_ret
    exact ⟨rfl, b0⟩
set_option maxRecDepth 20000 in
theorem load_yes {B : Nat} {m : Mm} {w : World} (h : PAt w B m) (ok : m.ok) (A : Nat) (hA : A ≤ 4294967295) (n : Int) (hl : lackL m A 1 (numL n) = none) :
    Calls Try.prog 32 #[mp B, .int .u32 A, .int .i64 n] w fun e w' => e = .returned (.int .u32 (readL m A (numL n))) ∧ Below w.heap.size w w' := by
  have hR := Lib.hid (Read_yes h ok A hA n 1 hl)
  clear hl
  generalize readL m A (numL n) = v at *
  go_enter Try.func32, Try.ntmps32
  go_wp2_with ((with_reducible refine hR.out.mono ?_); rintro e w1 ⟨rfl, b1⟩; have b2 := b1.alloc b1.size (.cells #[.int .i64 0, .int .u32 0, .int .u32 0, .int .i64 0] 32))
  go_ret
  exact ⟨rfl, b2⟩
set_option maxRecDepth 20000 in
theorem load_no {B : Nat} {m : Mm} {w : World} (h : PAt w B m) (ok : m.ok) (A j : Nat) (hA : A ≤ 4294967295) (n : Int) (hl : lackL m A 1 (numL n) = some j) :
    Calls Try.prog 32 #[mp B, .int .u32 A, .int .i64 n] w fun e w' => e = .panicked (fltP ((A + j) % 4294967296) 1) ∧ Below w.heap.size w w' := by
  have hR := Lib.hid (Read_no h ok A j hA n 1 hl)
  clear hl
  rw [show singleL 1 = 1 from rfl] at hR
  generalize ((A : Int) + j) % 4294967296 = a at *
  go_enter Try.func32, Try.ntmps32
  go_wp2_with ((with_reducible refine hR.out.mono ?_); rintro e w1 ⟨rfl, b1⟩; have b2 := b1.alloc b1.size (.cells #[.int .i64 1, .int .u32 0, .int .u32 a, .int .i64 1] 32); obtain ⟨d0, d1, d2, d3, -⟩ := Four.begun w1 1 0 a 1 32)
  exact ⟨rfl, rfl, b2⟩
set_option maxRecDepth 20000 in
theorem store_yes {B : Nat} {m : Mm} {w : World} (h : PAt w B m) (ok : m.ok) (A : Nat) (hA : A ≤ 4294967295) (n v : Int) (hv : 0 ≤ v ∧ v ≤ 4294967295) (hl : lackL m A 2 (numL n) = none) :
    Calls Try.prog 27 #[mp B, .int .u32 A, .int .i64 n, .int .u32 v] w fun e w' => e = .returned (.tuple #[]) ∧ PAt w' B (wroteS m A n v) ∧ But [B] w.heap.size w w' := by
  have hR := Lib.hid (Write_yes h ok A hA n v hv hl)
  clear hl
  go_enter Try.func27, Try.ntmps27
  go_wp2_with ((with_reducible refine hR.out.mono ?_); rintro e w1 ⟨rfl, p1, b1⟩; have p2 := p1.alloc (.cells #[.int .i64 0, .int .u32 0, .int .u32 0, .int .i64 0] 32); have b2 := b1.alloc b1.size (.cells #[.int .i64 0, .int .u32 0, .int .u32 0, .int .i64 0] 32))
  exact bodyPost_end (v := .tuple #[]) (by simp [results, Try.results27, go_sem]) rfl ⟨rfl, p2, b2⟩
set_option maxRecDepth 20000 in
theorem store_no {B : Nat} {m : Mm} {w : World} (h : PAt w B m) (ok : m.ok) (A j : Nat) (hA : A ≤ 4294967295) (n v : Int) (hl : lackL m A 2 (numL n) = some j) :
    Calls Try.prog 27 #[mp B, .int .u32 A, .int .i64 n, .int .u32 v] w fun e w' => e = .panicked (fltP ((A + j) % 4294967296) 2) ∧ Below w.heap.size w w' := by
  have hR := Lib.hid (Write_no h ok A j hA n v hl)
  clear hl
  generalize ((A : Int) + j) % 4294967296 = a at *
  go_enter Try.func27, Try.ntmps27
  go_wp2_with ((with_reducible refine hR.out.mono ?_); rintro e w1 ⟨rfl, b1⟩; have b2 := b1.alloc b1.size (.cells #[.int .i64 1, .int .u32 0, .int .u32 a, .int .i64 2] 32); obtain ⟨d0, d1, d2, d3, -⟩ := Four.begun w1 1 0 a 2 32)
  exact ⟨rfl, rfl, b2⟩
/-- The rights that lack at a place, of those asked for. -/
def lkL (m : Mm) (rt a : Int) : Int := bits .andNot .i64 (bits .and .i64 rt 7) (placeL m a)
def wantL (x : Int) : Int := bits .and .i64 x (wrap64 (-x))
theorem oRights {B : Nat} {m : Mm} {w : World} (h : PAt w B m) (ok : m.ok) (a : Int) (ha : 0 ≤ a ∧ a ≤ 4294967295) : Calls Try.prog 28 #[mp B, .int .i64 (a / 256)] w fun e w' => e = .returned (.int .i64 (placeL m a)) ∧ w = w' := by
  have hr := Rights_any h (a / 256)
  have he : rightsL m (a / 256) = placeL m a := by
    unfold rightsL placeL
    split
    · rfl
    · rw [ok.out _ (by omega)]
  rwa [he] at hr
theorem askAt_any {B : Nat} {m : Mm} {w : World} (h : PAt w B m) (ok : m.ok) (rt a : Int) (ha : 0 ≤ a ∧ a ≤ 4294967295) :
    Calls Try.prog 45 #[mp B, .int .u32 a, .int .i64 rt] w fun e w' => e = (if lkL m rt a = 0 then .returned (.tuple #[]) else .panicked (fltP a (wantL (lkL m rt a)))) ∧ w = w' := by
  have hR := Lib.hid (oRights h ok a ha)
  have ha2 : a / 256 < 16777216 := by omega
  unfold lkL
  generalize placeL m a = x at *
  by_cases hx : bits .andNot .i64 (bits .and .i64 rt 7) x = 0
  · rw [if_pos hx]
    have hx2 : (bits .andNot .i64 (bits .and .i64 rt 7) x != 0) = false := by simp [hx]
    clear hx
    go_enter Try.func45, Try.ntmps45
    go_wp2_with ((with_reducible refine hR.out.mono ?_); rintro e w1 ⟨rfl, rfl⟩)
    exact bodyPost_end (v := .tuple #[]) (by simp [results, Try.results45, go_sem]) rfl ⟨rfl, rfl⟩
  · rw [if_neg hx]
    have hx2 : (bits .andNot .i64 (bits .and .i64 rt 7) x != 0) = true := by simp [hx]
    clear hx
    unfold wantL
    go_enter Try.func45, Try.ntmps45
    go_wp2_with ((with_reducible refine hR.out.mono ?_); rintro e w1 ⟨rfl, rfl⟩)
    exact ⟨rfl, rfl, rfl⟩
set_option maxRecDepth 20000 in
theorem ask_yes {B : Nat} {m : Mm} {w : World} (h : PAt w B m) (ok : m.ok) (rt a : Int) (ha : 0 ≤ a ∧ a ≤ 4294967295) (n : Nat) (hn : n ≤ 100) (hl : ∀ i, i < n → lkL m rt ((a + i) % 4294967296) = 0) :
    Calls Try.prog 26 #[mp B, .int .u32 a, .int .i64 n, .int .i64 rt] w fun e w' => e = .returned (.tuple #[]) ∧ w = w' := by
  have hL := Lib.hid hl
  clear hl
  go_enter Try.func26, Try.ntmps26
  go_wp2_with fail
  go_loopw [11] (fun ii W => ∃ k : Nat, k ≤ n ∧ ii = .int .i64 k ∧ W = w) (fun ii _ => (n - intOf ii).toNat)
  case atStart => exact ⟨0, by omega, rfl, rfl⟩
  case round =>
    obtain ⟨k, hk, rfl, rfl⟩ := hrel
    by_cases hlt : k < n
    · have hq := askAt_any h ok rt ((a + k) % 4294967296) (by omega)
      rw [if_pos (hL.out k hlt)] at hq
      have hQ := Lib.hid hq
      clear hq
      go_wp2_with ((with_reducible refine hQ.out.mono ?_); rintro e w1 ⟨rfl, rfl⟩)
      go_roundw
      case rel => exact ⟨k + 1, by omega, by go_num, trivial⟩
      case measure => simp [intOf]; omega
    · obtain rfl : k = n := by omega
      go_wp2_with fail
      exact bodyPost_end (v := .tuple #[]) (by simp [results, Try.results26, go_sem]) rfl ⟨rfl, rfl⟩
set_option maxRecDepth 20000 in
theorem ask_no {B : Nat} {m : Mm} {w : World} (h : PAt w B m) (ok : m.ok) (rt a : Int) (ha : 0 ≤ a ∧ a ≤ 4294967295) (n j : Nat) (hn : n ≤ 100) (hj : j < n) (hl : ∀ i, i < j → lkL m rt ((a + i) % 4294967296) = 0) (hx : ¬ lkL m rt ((a + j) % 4294967296) = 0) :
    Calls Try.prog 26 #[mp B, .int .u32 a, .int .i64 n, .int .i64 rt] w fun e w' => e = .panicked (fltP ((a + j) % 4294967296) (wantL (lkL m rt ((a + j) % 4294967296)))) ∧ w = w' := by
  have hL := Lib.hid hl
  have hX := Lib.hid hx
  clear hl hx
  go_enter Try.func26, Try.ntmps26
  go_wp2_with fail
  go_loopw [11] (fun ii W => ∃ k : Nat, k ≤ j ∧ ii = .int .i64 k ∧ W = w) (fun ii _ => (n - intOf ii).toNat)
  case atStart => exact ⟨0, by omega, rfl, rfl⟩
  case round =>
    obtain ⟨k, hk, rfl, rfl⟩ := hrel
    have hlt : k < n := by omega
    have hq := askAt_any h ok rt ((a + k) % 4294967296) (by omega)
    by_cases hkj : k < j
    · rw [if_pos (hL.out k hkj)] at hq
      have hQ := Lib.hid hq
      clear hq
      go_wp2_with ((with_reducible refine hQ.out.mono ?_); rintro e w1 ⟨rfl, rfl⟩)
      go_roundw
      case rel => exact ⟨k + 1, by omega, by go_num, trivial⟩
      case measure => simp [intOf]; omega
    · obtain rfl : k = j := by omega
      rw [if_neg hX.out] at hq
      have hQ := Lib.hid hq
      clear hq
      go_wp2_with ((with_reducible refine hQ.out.mono ?_); rintro e w1 ⟨rfl, rfl⟩)
      exact ⟨rfl, rfl, rfl⟩
end Go.Proofs.Ytmlaancmacipoaa
