import Derived.Test.YtcdoidnfdkodoaaGreatDoorS09
import Derived.Test.YtcdoidnfdkodoaaGreatDoorS10
namespace Go.Proofs.YtcdoidnfdkodoaaGreatDoor
open Go.RowKit
set_option linter.unusedVariables false
set_option linter.unusedSimpArgs false
set_option linter.unusedSectionVars false
theorem But.cellAt {S : List Nat} {n : Nat} {W W' : World} (b : But S n W W') {K i : Nat} {v : Value} (h : W.cell? ⟨K, i, none⟩ = some v) (hn : K < n) (hS : K ∉ S) : W'.cell? ⟨K, i, none⟩ = some v := by
  have h0 : W'.heap[K]? = W.heap[K]? := b.block K hn hS
  simp only [World.cell?, h0] at h ⊢
  exact h
structure WBx (W : World) (B Km Ks Ko Kn Kv : Nat) (g : Gs) (o : On) (n v : Int) : Prop where
  m : W.cell? ⟨Km, 0, none⟩ = some (mp B)
  s : Blk W Ks 29 (stA g)
  o : Blk W Ko 31 (op6 o)
  n : W.cell? ⟨Kn, 0, none⟩ = some (.int .i64 n)
  v : W.cell? ⟨Kv, 0, none⟩ = some (.int .u32 v)
structure OffW (S : List Nat) (Km Ks Ko Kn Kv : Nat) : Prop where
  m : Km ∉ S
  s : Ks ∉ S
  o : Ko ∉ S
  n : Kn ∉ S
  v : Kv ∉ S
theorem WBx.but {S : List Nat} {W W' : World} {B Km Ks Ko Kn Kv : Nat} {g : Gs} {o : On} {n v : Int} (k : WBx W B Km Ks Ko Kn Kv g o n v) (b : But S W.heap.size W W') (q : OffW S Km Ks Ko Kn Kv) : WBx W' B Km Ks Ko Kn Kv g o n v :=
  ⟨b.cellAt k.m (size_of_cell k.m) q.m, k.s.but b k.s.lt q.s, k.o.but b k.o.lt q.o, b.cellAt k.n (size_of_cell k.n) q.n, b.cellAt k.v (size_of_cell k.v) q.v⟩
theorem OffW.nil (Km Ks Ko Kn Kv : Nat) : OffW [] Km Ks Ko Kn Kv := ⟨by simp, by simp, by simp, by simp, by simp⟩
theorem WBx.drew {W : World} {B Km Ks Ko Kn Kv : Nat} {g : Gs} {o : On} {n v : Int} (k : WBx W B Km Ks Ko Kn Kv g o n v) : WBx W.drew B Km Ks Ko Kn Kv g o n v := k.but (But.of (Below.refl _ _).drew []) (OffW.nil ..)
theorem MAt.rowOther {T : TypeId} {w : World} {B K : Nat} {m : Mm} (h : MAt T w B m) (cs : Array Value) (hne : ¬ B = K) : MAt T (w.setRow K cs) B m := by
  obtain ⟨A, hA, hc⟩ := h.blk
  exact ⟨⟨A, (setRow_other w K B cs hne).trans hA, hc⟩⟩
theorem stA_one (g : Gs) : (stA g).all (·.oneCell') = true := by simp [Value.oneCell']
set_option maxRecDepth 20000 in
theorem owrite1_no {B Km Ks Ko Kn Kv Ka : Nat} {m : Mm} {g : Gs} {o : On} {n v : Int} {w : World} (h : PAt w B m) (k : WBx w B Km Ks Ko Kn Kv g o n v) (a t : Int) (hr : ∀ W, PAt W B m → Calls Tryz.prog 227 #[mp B, stV g, opV o, .int .i64 (numO n), .int .u32 v] W fun e w' => e = .panicked (fltP a t) ∧ Below W.heap.size W w') : Calls Tryz.prog 226 #[cp Km, cp Ks, cp Ko, cp Kn, cp Kv, cp Ka] w fun e w' => e = .panicked (fltP a t) ∧ Below w.heap.size w w' := by
  have hR := Lib.hid hr
  have hN := Lib.hid (fun W => onumber_any n W)
  clear hr
  generalize numO n = q0 at *
  go_enter Tryz.func226, Tryz.ntmps226
  go_upto_region 0 with fail
  have bd := (Below.refl w.heap.size w).drew
  have hd := h.drew
  refine wp_region_held_drew (S := fun V => WBx V B Km Ks Ko Kn Kv g o n v) (by kernel_rfl) k.drew (fun hH => ?_)
  have hsz := Lib.hid (show w.heap.size = w.drew.heap.size from rfl)
  generalize w.drew = W1 at *
  refine wpAnyH_take (i := 0) (v := ?_) rfl (by kernel_rfl) (by kernel_rfl) (by kernel_rfl) (fun _ _ _ h => h) (Or.inl ⟨by kernel_rfl, ?_⟩) hH ?_
  rotate_left
  · intro W hS
    have c1 := hS.m
    go_simp
    try rfl
  simp only [Act.put, List.setIfInBounds_toArray, List.set_cons_zero, List.set_cons_succ, List.getElem_toArray, List.getElem_cons_succ, List.getElem_cons_zero]
  refine wpAnyH_take (i := 1) (v := stV g) rfl (by kernel_rfl) (by kernel_rfl) (by kernel_rfl) (fun _ _ _ h => h) (Or.inl ⟨by kernel_rfl, ?_⟩) hH ?_
  · intro W hS
    exact run_load_row (by rfl) (by rfl) 29 _ (0, 0) _ hS.s.h Tryz.underlying29 rfl szS
  simp only [Act.put, List.setIfInBounds_toArray, List.set_cons_zero, List.set_cons_succ]
  refine wpAnyH_take (i := 2) (v := opV o) rfl (by kernel_rfl) (by kernel_rfl) (by kernel_rfl) (fun _ _ _ h => h) (Or.inl ⟨by kernel_rfl, ?_⟩) hH ?_
  · intro W hS
    exact run_load_row (by rfl) (by rfl) 31 _ (0, 0) _ hS.o.h Tryz.underlying31 rfl szO
  simp only [Act.put, List.setIfInBounds_toArray, List.set_cons_zero, List.set_cons_succ]
  refine wpAnyH_take (i := 3) (v := ?_) rfl (by kernel_rfl) (by kernel_rfl) (by kernel_rfl) (fun _ _ _ h => h) (Or.inl ⟨by kernel_rfl, ?_⟩) hH ?_
  rotate_left
  · intro W hS
    have c1 := hS.n
    go_simp
    try rfl
  simp only [Act.put, List.setIfInBounds_toArray, List.set_cons_zero, List.set_cons_succ, List.getElem_toArray, List.getElem_cons_succ, List.getElem_cons_zero]
  refine wpAnyH_take (i := 5) (v := ?_) rfl (by kernel_rfl) (by kernel_rfl) (by kernel_rfl) (fun _ _ _ h => h) (Or.inl ⟨by kernel_rfl, ?_⟩) hH ?_
  rotate_left
  · intro W hS
    have c1 := hS.v
    go_simp
    try rfl
  simp only [Act.put, List.setIfInBounds_toArray, List.set_cons_zero, List.set_cons_succ, List.getElem_toArray, List.getElem_cons_succ, List.getElem_cons_zero]
  refine wpAnyH_ready (rs := [4]) (by kernel_rfl) (by simp) ?_
  refine AllReadyH.cons rfl (fun K hK => ?_) AllReadyH.nil
  go_simp
  with_reducible refine (hN.out _).mono ?_
  rintro e w2 ⟨rfl, hw⟩
  subst hw
  refine hK.out _ _ hH (fun _ => ?_)
  clear hK K
  try simp only [Act.put, List.setIfInBounds_toArray, List.set_cons_zero, List.set_cons_succ]
  refine wpAnyH_ready (rs := [6]) (by kernel_rfl) (by simp) ?_
  refine AllReadyH.cons rfl (fun K hK => ?_) AllReadyH.nil
  go_simp
  with_reducible refine (hR.out _ hd).mono ?_
  rintro e w3 ⟨rfl, b3⟩
  exact ⟨rfl, rfl, bd.trans (b3.mono (Nat.le_of_eq hsz.out))⟩
set_option maxRecDepth 20000 in
theorem owrite1_yes {B Km Ks Ko Kn Kv Ka : Nat} {m : Mm} {g : Gs} {o : On} {n v : Int} {w : World} (h : PAt w B m) (k : WBx w B Km Ks Ko Kn Kv g o n v) (g' : Gs) (m' : Mm) (hr : ∀ W, PAt W B m → Calls Tryz.prog 227 #[mp B, stV g, opV o, .int .i64 (numO n), .int .u32 v] W fun e w' => e = .returned (stV g') ∧ PAt w' B m' ∧ But [B] W.heap.size W w') (old : Array Value) (hz : old.size = 17) (ka : Blk w Ka 29 old) (hB : ¬ B = Ka) (q : OffW [B] Km Ks Ko Kn Kv) (q2 : OffW [Ka] Km Ks Ko Kn Kv) :
    Calls Tryz.prog 226 #[cp Km, cp Ks, cp Ko, cp Kn, cp Kv, cp Ka] w fun e w' => e = .returned (.tuple #[]) ∧ (Blk w' Ka 29 (stA g') ∧ PAt w' B m') ∧ But [B, Ka] w.heap.size w w' := by
  have hR := Lib.hid hr
  have hN := Lib.hid (fun W => onumber_any n W)
  clear hr
  generalize numO n = q0 at *
  go_enter Tryz.func226, Tryz.ntmps226
  go_upto_region 0 with fail
  have bd := (Below.refl w.heap.size w).drew
  have hd := h.drew
  have ka1 := ka.drew
  have hBl := h.lt
  refine wp_region_held_drew (S := fun V => WBx V B Km Ks Ko Kn Kv g o n v) (by kernel_rfl) k.drew (fun hH => ?_)
  have hsz := Lib.hid (show w.heap.size = w.drew.heap.size from rfl)
  generalize w.drew = W1 at *
  refine wpAnyH_take (i := 0) (v := ?_) rfl (by kernel_rfl) (by kernel_rfl) (by kernel_rfl) (fun _ _ _ h => h) (Or.inl ⟨by kernel_rfl, ?_⟩) hH ?_
  rotate_left
  · intro W hS
    have c1 := hS.m
    go_simp
    try rfl
  simp only [Act.put, List.setIfInBounds_toArray, List.set_cons_zero, List.set_cons_succ, List.getElem_toArray, List.getElem_cons_succ, List.getElem_cons_zero]
  refine wpAnyH_take (i := 1) (v := stV g) rfl (by kernel_rfl) (by kernel_rfl) (by kernel_rfl) (fun _ _ _ h => h) (Or.inl ⟨by kernel_rfl, ?_⟩) hH ?_
  · intro W hS
    exact run_load_row (by rfl) (by rfl) 29 _ (0, 0) _ hS.s.h Tryz.underlying29 rfl szS
  simp only [Act.put, List.setIfInBounds_toArray, List.set_cons_zero, List.set_cons_succ]
  refine wpAnyH_take (i := 2) (v := opV o) rfl (by kernel_rfl) (by kernel_rfl) (by kernel_rfl) (fun _ _ _ h => h) (Or.inl ⟨by kernel_rfl, ?_⟩) hH ?_
  · intro W hS
    exact run_load_row (by rfl) (by rfl) 31 _ (0, 0) _ hS.o.h Tryz.underlying31 rfl szO
  simp only [Act.put, List.setIfInBounds_toArray, List.set_cons_zero, List.set_cons_succ]
  refine wpAnyH_take (i := 3) (v := ?_) rfl (by kernel_rfl) (by kernel_rfl) (by kernel_rfl) (fun _ _ _ h => h) (Or.inl ⟨by kernel_rfl, ?_⟩) hH ?_
  rotate_left
  · intro W hS
    have c1 := hS.n
    go_simp
    try rfl
  simp only [Act.put, List.setIfInBounds_toArray, List.set_cons_zero, List.set_cons_succ, List.getElem_toArray, List.getElem_cons_succ, List.getElem_cons_zero]
  refine wpAnyH_take (i := 5) (v := ?_) rfl (by kernel_rfl) (by kernel_rfl) (by kernel_rfl) (fun _ _ _ h => h) (Or.inl ⟨by kernel_rfl, ?_⟩) hH ?_
  rotate_left
  · intro W hS
    have c1 := hS.v
    go_simp
    try rfl
  simp only [Act.put, List.setIfInBounds_toArray, List.set_cons_zero, List.set_cons_succ, List.getElem_toArray, List.getElem_cons_succ, List.getElem_cons_zero]
  refine wpAnyH_ready (rs := [4]) (by kernel_rfl) (by simp) ?_
  refine AllReadyH.cons rfl (fun K hK => ?_) AllReadyH.nil
  go_simp
  with_reducible refine (hN.out _).mono ?_
  rintro e w2 ⟨rfl, hw⟩
  subst hw
  refine hK.out _ _ hH (fun _ => ?_)
  clear hK K
  try simp only [Act.put, List.setIfInBounds_toArray, List.set_cons_zero, List.set_cons_succ]
  refine wpAnyH_ready (rs := [6]) (by kernel_rfl) (by simp) ?_
  refine AllReadyH.cons rfl (fun K hK => ?_) AllReadyH.nil
  go_simp
  with_reducible refine (hR.out _ hd).mono ?_
  rintro e w3 ⟨rfl, p3, b3⟩
  have hH3 := hH.but b3 q
  have ka3 := ka1.but b3 ka1.lt (by simpa using fun e => hB e.symm)
  refine hK.out _ _ hH3 (fun _ => ?_)
  clear hK K
  try simp only [Act.put, List.setIfInBounds_toArray, List.set_cons_zero, List.set_cons_succ]
  refine wpAnyH_ready (rs := [7]) (by kernel_rfl) (by simp) ?_
  refine AllReadyH.cons rfl (fun K hK => ?_) AllReadyH.nil
  rw [if_pos (by kernel_rfl)]
  refine wp_store_row 29 _ _ rfl Ka (stA g') rfl rfl 29 old ka3.h szS hz (stA_one g') ?_
  have ka4 := ka3.row (stA g')
  have b4 := (((But.of bd [B, Ka]).trans (b3.mono (Nat.le_of_eq hsz.out) (by simp))).setRow (g := Ka) (by simp) (stA g'))
  have p4 := p3.rowOther (K := Ka) (stA g') hB
  have hH4 := hH3.but (S := [Ka]) ((But.refl [Ka] _ _).setRow (g := Ka) (by simp) (stA g')) q2
  refine hK.out _ _ hH4 (fun _ => ?_)
  clear hK K
  try simp only [Act.put, List.setIfInBounds_toArray, List.set_cons_zero, List.set_cons_succ, List.getElem_toArray, List.getElem_cons_succ, List.getElem_cons_zero]
  refine wpAnyH_done (by kernel_rfl) ?_ _
  go_wp2_with fail
  exact bodyPost_end (v := .tuple #[]) (by simp [results, Tryz.results226, go_sem]) rfl ⟨rfl, ⟨ka4, p4⟩, b4⟩
theorem wbx_new {B : Nat} {m : Mm} {w : World} (h : PAt w B m) (g : Gs) (o : On) (n v : Int) : ∃ W, W = (((((((w.alloc (.cells #[mp B] 35)).alloc (.cells (stA g) 29)).alloc (.cells (op6 o) 31)).alloc (.cells #[.int .i64 n] 3)).alloc (.cells #[.int .u32 v] 23)).alloc (.cells z17 29)).alloc (.cells f0A 42)) ∧ PAt W B m ∧ WBx W B (w.heap.size) (w.heap.size + 1) (w.heap.size + 1 + 1) (w.heap.size + 1 + 1 + 1) (w.heap.size + 1 + 1 + 1 + 1) g o n v ∧ Blk W (w.heap.size + 1 + 1 + 1 + 1 + 1) 29 z17 ∧ Blk W (w.heap.size + 1 + 1 + 1 + 1 + 1 + 1) 42 f0A ∧ Below w.heap.size w W ∧ W.heap.size = w.heap.size + 7 := by
  refine ⟨_, rfl, ?_⟩
  have b : Below w.heap.size w (((((((w.alloc (.cells #[mp B] 35)).alloc (.cells (stA g) 29)).alloc (.cells (op6 o) 31)).alloc (.cells #[.int .i64 n] 3)).alloc (.cells #[.int .u32 v] 23)).alloc (.cells z17 29)).alloc (.cells f0A 42)) := (((((((((Below.refl w.heap.size w).alloc (Nat.le_refl _) (.cells #[mp B] 35)).alloc (by simp) (.cells (stA g) 29)).alloc (by simp; omega) (.cells (op6 o) 31)).alloc (by simp; omega) (.cells #[.int .i64 n] 3)).alloc (by simp; omega) (.cells #[.int .u32 v] 23)).alloc (by simp; omega) (.cells z17 29)).alloc (by simp; omega) (.cells f0A 42)))
  have k1 := ((((((Blk.new (w.alloc (.cells #[mp B] 35)) 29 (stA g)).alloc (.cells (op6 o) 31)).alloc (.cells #[.int .i64 n] 3)).alloc (.cells #[.int .u32 v] 23)).alloc (.cells z17 29)).alloc (.cells f0A 42))
  have k2 := (((((Blk.new ((w.alloc (.cells #[mp B] 35)).alloc (.cells (stA g) 29)) 31 (op6 o)).alloc (.cells #[.int .i64 n] 3)).alloc (.cells #[.int .u32 v] 23)).alloc (.cells z17 29)).alloc (.cells f0A 42))
  have k5 := ((Blk.new (((((w.alloc (.cells #[mp B] 35)).alloc (.cells (stA g) 29)).alloc (.cells (op6 o) 31)).alloc (.cells #[.int .i64 n] 3)).alloc (.cells #[.int .u32 v] 23)) 29 z17).alloc (.cells f0A 42))
  have k6 := (Blk.new ((((((w.alloc (.cells #[mp B] 35)).alloc (.cells (stA g) 29)).alloc (.cells (op6 o) 31)).alloc (.cells #[.int .i64 n] 3)).alloc (.cells #[.int .u32 v] 23)).alloc (.cells z17 29)) 42 f0A)
  simp only [World.size_alloc] at k1 k2 k5 k6
  exact ⟨(((((((h.alloc _).alloc _).alloc _).alloc _).alloc _).alloc _).alloc _), ⟨by simp [go_sem], k1, k2, by simp [go_sem], by simp [go_sem]⟩, k5, k6, b, by simp⟩
set_option maxRecDepth 20000 in
set_option maxHeartbeats 2000000 in
theorem oWrite_yes {B : Nat} {m : Mm} {w : World} (h : PAt w B m) (g : Gs) (o : On) (n v : Int) (g' : Gs) (m' : Mm) (hr : ∀ W, PAt W B m → Calls Tryz.prog 227 #[mp B, stV g, opV o, .int .i64 (numO n), .int .u32 v] W fun e w' => e = .returned (stV g') ∧ PAt w' B m' ∧ But [B] W.heap.size W w') : Calls Tryz.prog 196 #[mp B, stV g, opV o, .int .i64 n, .int .u32 v] w fun e w' => e = .returned (.tuple #[.agg (stA g'), fltV 0 0 0 0, .bool true]) ∧ PAt w' B m' ∧ But [B] w.heap.size w w' := by
  have hmf : ∀ (fn : Fn) (first cap : Array Value) (w : World), (Instr.makeFunc fn first cap).run Tryz.prog w = .ok (.func fn first cap) w := fun _ _ _ _ => rfl
  obtain ⟨w5, e5, h5, hbx, k5, k6, b5, s5⟩ := wbx_new h g o n v
  have hR := Lib.hid hr
  have hBl := h.lt
  clear hr
  have E5 := Lib.hid e5
  go_enter Tryz.func196, Tryz.ntmps196
  go_upto_region 1 with fail
  have e5' := E5.out
  rw [show (((((((w.alloc (.cells #[mp B] 35)).alloc (.cells (stA g) 29)).alloc (.cells (op6 o) 31)).alloc (.cells #[.int .i64 n] 3)).alloc (.cells #[.int .u32 v] 23)).alloc (.cells z17 29)).alloc (.cells f0A 42)) = w5 from e5'.symm]
  clear e5' E5 e5
  have kS5 := hbx.s
  have hw := Lib.hid (show w5.heap.size = (w.heap.size + 1 + 1 + 1 + 1 + 1 + 1 + 1) from s5)
  clear s5
  go_upto_region 2 with (first | (with_reducible refine load_st rfl _ rfl (w.heap.size + 1) (stA g) rfl kS5 rfl ?_))
  have k7 := Blk.new w5 29 (stA g)
  rw [hw.out] at k7 ⊢
  have s5 : w5.heap.size = w.heap.size + 7 := hw.out
  replace h5 := h5.alloc (.cells (stA g) 29)
  replace hbx := hbx.but (But.of ((Below.refl w5.heap.size w5).alloc (Nat.le_refl _) (.cells (stA g) 29)) []) (OffW.nil ..)
  replace k5 := k5.alloc (.cells (stA g) 29)
  replace k6 := k6.alloc (.cells (stA g) 29)
  replace b5 := b5.alloc b5.size (.cells (stA g) 29)
  have s8 : (w5.alloc (.cells (stA g) 29)).heap.size = w.heap.size + 8 := by simp; omega
  clear kS5 hw s5
  have s5 := s8
  clear s8
  generalize w5.alloc (.cells (stA g) 29) = w9 at *
  clear w5
  generalize w9 = w5 at *
  go_wp2_with fail
  refine (otriedW_yes _ [B, w.heap.size + 1 + 1 + 1 + 1 + 1 + 1 + 1] (fun W => Blk W (w.heap.size + 1 + 1 + 1 + 1 + 1 + 1 + 1) 29 (stA g') ∧ PAt W B m') (by simp; omega) (fun W W' hr hb => ⟨hr.1.below hb (by omega), hr.2.below hb (by omega)⟩)
    (fun W hW => owrite1_yes (h5.below hW h5.lt) (hbx.but (But.of hW []) (OffW.nil ..)) g' m' hR.out (stA g) rfl (k7.below hW k7.lt) (by omega) ⟨by simp; omega, by simp; omega, by simp; omega, by simp; omega, by simp; omega⟩ ⟨by simp <;> omega, by simp <;> omega, by simp <;> omega, by simp <;> omega, by simp <;> omega⟩)).mono ?_
  rintro e w6 ⟨rfl, ⟨k7', p6⟩, r6'⟩
  replace k5 := k5.but r6' k5.lt (by simp; omega)
  replace k6 := k6.but r6' k6.lt (by simp; omega)
  clear k7
  have k7 := k7'
  clear k7'
  have z5 := k5.lt
  have z6 := k6.lt
  have z7 := k7.lt
  have kF := Blk.new w6 42 #[.int .i64 0, .int .u32 0, .int .u32 0, .int .i64 0]
  replace k5 := k5.alloc (.cells #[.int .i64 0, .int .u32 0, .int .u32 0, .int .i64 0] 42)
  replace k6 := k6.alloc (.cells #[.int .i64 0, .int .u32 0, .int .u32 0, .int .i64 0] 42)
  replace k7 := k7.alloc (.cells #[.int .i64 0, .int .u32 0, .int .u32 0, .int .i64 0] 42)
  replace p6 := p6.alloc (.cells #[.int .i64 0, .int .u32 0, .int .u32 0, .int .i64 0] 42)
  have rz := ((But.of b5 [B, w.heap.size + 1 + 1 + 1 + 1 + 1 + 1 + 1]).trans (r6'.mono (S' := [B, w.heap.size + 1 + 1 + 1 + 1 + 1 + 1 + 1]) (by omega) (fun k hk => .inl hk))).alloc (by have := r6'.size; omega) (.cells #[.int .i64 0, .int .u32 0, .int .u32 0, .int .i64 0] 42)
  clear hmf hbx hR r6'
  go_wp2_with fail
  generalize w6.alloc (.cells #[.int .i64 0, .int .u32 0, .int .u32 0, .int .i64 0] 42) = w7 at *
  refine wp_region_held_drew (S := fun V => Blk V (w.heap.size + 1 + 1 + 1 + 1 + 1 + 1 + 1) 29 (stA g') ∧ Blk V w6.heap.size 42 #[.int .i64 0, .int .u32 0, .int .u32 0, .int .i64 0]) (by kernel_rfl) ⟨k7.drew, kF.drew⟩ (fun hH => ?_)
  replace k5 := k5.drew
  replace k6 := k6.drew
  replace rz := rz.drew
  replace p6 := p6.drew
  have hsz := Lib.hid (show w6.heap.size = w6.heap.size from rfl)
  generalize w7.drew = w8 at *
  refine wpAnyH_take (i := 0) (v := .agg (stA g')) rfl (by kernel_rfl) (by kernel_rfl) (by kernel_rfl) (fun _ _ _ h => h) (Or.inl ⟨by kernel_rfl, ?_⟩) hH ?_
  · intro W hS
    exact run_load_row (by rfl) (by rfl) 29 _ (0, 0) _ hS.1.h Tryz.underlying29 rfl szS
  simp only [Act.put, List.setIfInBounds_toArray, List.set_cons_zero, List.set_cons_succ]
  refine wpAnyH_take (i := 1) (v := .agg #[.int .i64 0, .int .u32 0, .int .u32 0, .int .i64 0]) rfl (by kernel_rfl) (by kernel_rfl) (by kernel_rfl) (fun _ _ _ h => h) (Or.inl ⟨by kernel_rfl, ?_⟩) hH ?_
  · intro W hS
    exact run_load_row (by rfl) (by rfl) 42 _ (0, 0) _ hS.2.h Tryz.underlying42 rfl szF
  simp only [Act.put, List.setIfInBounds_toArray, List.set_cons_zero, List.set_cons_succ]
  refine wpAnyH_take (i := 2) (v := ?_) rfl (by kernel_rfl) (by kernel_rfl) (by kernel_rfl) (fun _ _ _ h => h) (Or.inl ⟨by kernel_rfl, ?_⟩) hH ?_
  rotate_left
  · intro W hS
    go_simp
    try rfl
  simp only [Act.put, List.setIfInBounds_toArray, List.set_cons_zero, List.set_cons_succ, List.getElem_toArray, List.getElem_cons_succ, List.getElem_cons_zero]
  refine wpAnyH_ready (rs := [3]) (by kernel_rfl) (by simp) ?_
  refine AllReadyH.cons rfl (fun K hK => ?_) AllReadyH.nil
  rw [if_pos (by kernel_rfl)]
  refine wp_store_row 29 _ _ rfl (w.heap.size + 1 + 1 + 1 + 1 + 1) (stA g') rfl rfl 29 z17 k5.h szS rfl (stA_one g') ?_
  replace k5 := k5.row (stA g')
  replace k6 := k6.rowOther (M := w.heap.size + 1 + 1 + 1 + 1 + 1) (stA g') (by omega)
  have hH2 := And.intro (hH.1.rowOther (M := w.heap.size + 1 + 1 + 1 + 1 + 1) (stA g') (by omega)) (hH.2.rowOther (M := w.heap.size + 1 + 1 + 1 + 1 + 1) (stA g') (by omega))
  replace rz := (rz.mono (S' := [B, w.heap.size + 1 + 1 + 1 + 1 + 1, w.heap.size + 1 + 1 + 1 + 1 + 1 + 1, w.heap.size + 1 + 1 + 1 + 1 + 1 + 1 + 1]) (Nat.le_refl _) (fun k hk => .inl (by simp at hk ⊢; omega))).setRow (g := w.heap.size + 1 + 1 + 1 + 1 + 1) (by simp) (stA g')
  replace p6 := p6.rowOther (K := w.heap.size + 1 + 1 + 1 + 1 + 1) (stA g') (by omega)
  refine hK.out _ _ hH2 (fun _ => ?_)
  clear hK K
  try simp only [Act.put, List.setIfInBounds_toArray, List.set_cons_zero, List.set_cons_succ, List.getElem_toArray, List.getElem_cons_succ, List.getElem_cons_zero]
  refine wpAnyH_ready (rs := [4]) (by kernel_rfl) (by simp) ?_
  refine AllReadyH.cons rfl (fun K hK => ?_) AllReadyH.nil
  rw [if_pos (by kernel_rfl)]
  refine wp_store_row 42 _ _ rfl (w.heap.size + 1 + 1 + 1 + 1 + 1 + 1) #[.int .i64 0, .int .u32 0, .int .u32 0, .int .i64 0] rfl rfl 42 f0A k6.h szF rfl (by simp [Value.oneCell']) ?_
  replace k6 := k6.row #[.int .i64 0, .int .u32 0, .int .u32 0, .int .i64 0]
  replace k5 := k5.rowOther (M := w.heap.size + 1 + 1 + 1 + 1 + 1 + 1) #[.int .i64 0, .int .u32 0, .int .u32 0, .int .i64 0] (by omega)
  have hH3 := And.intro (hH2.1.rowOther (M := w.heap.size + 1 + 1 + 1 + 1 + 1 + 1) #[.int .i64 0, .int .u32 0, .int .u32 0, .int .i64 0] (by omega)) (hH2.2.rowOther (M := w.heap.size + 1 + 1 + 1 + 1 + 1 + 1) #[.int .i64 0, .int .u32 0, .int .u32 0, .int .i64 0] (by omega))
  replace rz := rz.setRow (g := w.heap.size + 1 + 1 + 1 + 1 + 1 + 1) (by simp) #[.int .i64 0, .int .u32 0, .int .u32 0, .int .i64 0]
  replace p6 := p6.rowOther (K := w.heap.size + 1 + 1 + 1 + 1 + 1 + 1) #[.int .i64 0, .int .u32 0, .int .u32 0, .int .i64 0] (by omega)
  refine hK.out _ _ hH3 (fun _ => ?_)
  clear hK K
  try simp only [Act.put, List.setIfInBounds_toArray, List.set_cons_zero, List.set_cons_succ, List.getElem_toArray, List.getElem_cons_succ, List.getElem_cons_zero]
  refine wpAnyH_take (i := 5) (v := ?_) rfl (by kernel_rfl) (by kernel_rfl) (by kernel_rfl) (fun _ _ _ h => h) (Or.inl ⟨by kernel_rfl, ?_⟩) hH3 ?_
  rotate_left
  · intro W hS
    go_simp
    try rfl
  simp only [Act.put, List.setIfInBounds_toArray, List.set_cons_zero, List.set_cons_succ, List.getElem_toArray, List.getElem_cons_succ, List.getElem_cons_zero]
  refine wpAnyH_done (by kernel_rfl) ?_ _
  have s20 := k5.cell (i := 0) rfl
  have s21 := k5.cell (i := 1) rfl
  have s22 := k5.cell (i := 2) rfl
  have s23 := k5.cell (i := 3) rfl
  have s24 := k5.cell (i := 4) rfl
  have s25 := k5.cell (i := 5) rfl
  have s26 := k5.cell (i := 6) rfl
  have s27 := k5.cell (i := 7) rfl
  have s28 := k5.cell (i := 8) rfl
  have s29 := k5.cell (i := 9) rfl
  have s30 := k5.cell (i := 10) rfl
  have s31 := k5.cell (i := 11) rfl
  have s32 := k5.cell (i := 12) rfl
  have s33 := k5.cell (i := 13) rfl
  have s34 := k5.cell (i := 14) rfl
  have s35 := k5.cell (i := 15) rfl
  have s36 := k5.cell (i := 16) rfl
  have d0 := k6.cell (i := 0) rfl
  have d1 := k6.cell (i := 1) rfl
  have d2 := k6.cell (i := 2) rfl
  have d3 := k6.cell (i := 3) rfl
  go_wp2_with fail
  exact bodyPost_ret (v := .tuple #[.agg (stA g'), fltV 0 0 0 0, .bool true]) (by simp [results, Tryz.results196, go_sem, s20, s21, s22, s23, s24, s25, s26, s27, s28, s29, s30, s31, s32, s33, s34, s35, s36, d0, d1, d2, d3]) rfl ⟨rfl, p6, rz.mono (Nat.le_refl _) (fun k hk => by simp at hk ⊢; omega)⟩
end Go.Proofs.YtcdoidnfdkodoaaGreatDoor
