/- operand.Can. -/
import Derived.Test.YtmlaancmacipoaaG1
namespace Go.Proofs.Ytmlaancmacipoaa
open Go.RowKit
set_option linter.unusedVariables false
set_option linter.unusedSimpArgs false
set_option linter.unusedSectionVars false

/-- What Can has boxed: the operand, the memory, the state, how many bytes, which rights. -/
structure CBx (W : World) (B Km Ks Ko Kn Kr : Nat) (m : Mm) (g : Gs) (o : On) (n rt : Int) : Prop where
  h : PAt W B m
  m : W.cell? ⟨Km, 0, none⟩ = some (mp B)
  s : Blk W Ks 44 (stA g)
  o : Blk W Ko 47 (op6 o)
  n : W.cell? ⟨Kn, 0, none⟩ = some (.int .i64 n)
  r : W.cell? ⟨Kr, 0, none⟩ = some (.int .i64 rt)
theorem CBx.below {W W' : World} {B Km Ks Ko Kn Kr : Nat} {m : Mm} {g : Gs} {o : On} {n rt : Int} (k : CBx W B Km Ks Ko Kn Kr m g o n rt) (b : Below W.heap.size W W') : CBx W' B Km Ks Ko Kn Kr m g o n rt :=
  ⟨k.h.below b k.h.lt, (b.cell (p := ⟨Km, 0, none⟩) (size_of_cell k.m)).trans k.m, k.s.below b k.s.lt, k.o.below b k.o.lt, (b.cell (p := ⟨Kn, 0, none⟩) (size_of_cell k.n)).trans k.n, (b.cell (p := ⟨Kr, 0, none⟩) (size_of_cell k.r)).trans k.r⟩
theorem CBx.drew {W : World} {B Km Ks Ko Kn Kr : Nat} {m : Mm} {g : Gs} {o : On} {n rt : Int} (k : CBx W B Km Ks Ko Kn Kr m g o n rt) : CBx W.drew B Km Ks Ko Kn Kr m g o n rt := k.below (Below.refl _ _).drew
set_option maxRecDepth 20000 in
theorem can1_yes {B Km Ks Ko Kn Kr : Nat} {m : Mm} {g : Gs} {o : On} {n : Nat} {rt : Int} {w : World} (k : CBx w B Km Ks Ko Kn Kr m g o n rt) (ok : m.ok) (hk : o.k = 3) (hn : n ≤ 100) (hl : ∀ i, i < n → lkL m rt ((plO g o + i) % 4294967296) = 0) : Calls Try.prog 42 #[cp Ko, cp Km, cp Ks, cp Kn, cp Kr] w fun e w' => e = .returned (.tuple #[]) ∧ Below w.heap.size w w' := by
  have hA := Lib.hid (fun W (h : PAt W B m) => ask_yes h ok rt (plO g o) (plO_bd g o) n hn hl)
  have hP := Lib.hid (fun W => Place_any g o W)
  clear hl
  have c0 := k.o.cell (i := 0) (v := .int .i64 o.k) rfl
  rw [hk] at c0
  go_enter Try.func42, Try.ntmps42
  go_upto_region 1 with fail
  clear c0
  have bd := (Below.refl w.heap.size w).drew
  refine wp_region_held_drew (S := fun V => CBx V B Km Ks Ko Kn Kr m g o n rt) (by kernel_rfl) k.drew (fun hH => ?_)
  generalize w.drew = W1 at *
  refine wpAnyH_take (i := 0) (v := ?_) rfl (by kernel_rfl) (by kernel_rfl) (by kernel_rfl) (fun _ _ _ h => h) (Or.inl ⟨by kernel_rfl, ?_⟩) hH ?_
  rotate_left
  · intro W hS
    have c1 := hS.m
    go_simp
    try rfl
  simp only [Act.put, List.setIfInBounds_toArray, List.set_cons_zero, List.set_cons_succ, List.getElem_toArray, List.getElem_cons_succ, List.getElem_cons_zero]
  refine wpAnyH_take (i := 1) (v := stV g) rfl (by kernel_rfl) (by kernel_rfl) (by kernel_rfl) (fun _ _ _ h => h) (Or.inl ⟨by kernel_rfl, ?_⟩) hH ?_
  · intro W hS
    exact run_load_row (by rfl) (by rfl) 44 _ (0, 0) _ hS.s.h Try.underlying44 rfl szS
  simp only [Act.put, List.setIfInBounds_toArray, List.set_cons_zero, List.set_cons_succ]
  refine wpAnyH_take (i := 2) (v := opV o) rfl (by kernel_rfl) (by kernel_rfl) (by kernel_rfl) (fun _ _ _ h => h) (Or.inl ⟨by kernel_rfl, ?_⟩) hH ?_
  · intro W hS
    exact run_load_row (by rfl) (by rfl) 47 _ (0, 0) _ hS.o.h Try.underlying47 rfl szO
  simp only [Act.put, List.setIfInBounds_toArray, List.set_cons_zero, List.set_cons_succ]
  refine wpAnyH_take (i := 4) (v := ?_) rfl (by kernel_rfl) (by kernel_rfl) (by kernel_rfl) (fun _ _ _ h => h) (Or.inl ⟨by kernel_rfl, ?_⟩) hH ?_
  rotate_left
  · intro W hS
    have c1 := hS.n
    go_simp
    try rfl
  simp only [Act.put, List.setIfInBounds_toArray, List.set_cons_zero, List.set_cons_succ, List.getElem_toArray, List.getElem_cons_succ, List.getElem_cons_zero]
  refine wpAnyH_take (i := 5) (v := ?_) rfl (by kernel_rfl) (by kernel_rfl) (by kernel_rfl) (fun _ _ _ h => h) (Or.inl ⟨by kernel_rfl, ?_⟩) hH ?_
  rotate_left
  · intro W hS
    have c1 := hS.r
    go_simp
    try rfl
  simp only [Act.put, List.setIfInBounds_toArray, List.set_cons_zero, List.set_cons_succ, List.getElem_toArray, List.getElem_cons_succ, List.getElem_cons_zero]
  refine wpAnyH_ready (rs := [3]) (by kernel_rfl) (by simp) ?_
  refine AllReadyH.cons rfl (fun K hK => ?_) AllReadyH.nil
  go_simp
  with_reducible refine (hP.out _).mono ?_
  rintro e w2 ⟨rfl, b2⟩
  have hH2 := hH.below b2
  refine hK.out _ _ hH2 (fun _ => ?_)
  clear hK K
  try simp only [Act.put, List.setIfInBounds_toArray, List.set_cons_zero, List.set_cons_succ]
  refine wpAnyH_ready (rs := [6]) (by kernel_rfl) (by simp) ?_
  refine AllReadyH.cons rfl (fun K hK => ?_) AllReadyH.nil
  go_simp
  with_reducible refine (hA.out _ hH2.h).mono ?_
  rintro e w3 ⟨rfl, hw⟩
  subst hw
  refine hK.out _ _ hH2 (fun _ => ?_)
  clear hK K
  try simp only [Act.put, List.setIfInBounds_toArray, List.set_cons_zero, List.set_cons_succ]
  refine wpAnyH_done (by kernel_rfl) ?_ _
  go_wp2_with fail
  exact bodyPost_end (v := .tuple #[]) (by simp [results, Try.results42, go_sem]) rfl ⟨rfl, bd.trans (b2.mono bd.size)⟩
set_option maxRecDepth 20000 in
theorem can1_no {B Km Ks Ko Kn Kr : Nat} {m : Mm} {g : Gs} {o : On} {n : Nat} {rt : Int} {w : World} (k : CBx w B Km Ks Ko Kn Kr m g o n rt) (ok : m.ok) (hk : o.k = 3) (hn : n ≤ 100) (j : Nat) (hj : j < n) (hl : ∀ i, i < j → lkL m rt ((plO g o + i) % 4294967296) = 0) (hx : ¬ lkL m rt ((plO g o + j) % 4294967296) = 0) : Calls Try.prog 42 #[cp Ko, cp Km, cp Ks, cp Kn, cp Kr] w fun e w' => e = .panicked (fltP ((plO g o + j) % 4294967296) (wantL (lkL m rt ((plO g o + j) % 4294967296)))) ∧ Below w.heap.size w w' := by
  have hA := Lib.hid (fun W (h : PAt W B m) => ask_no h ok rt (plO g o) (plO_bd g o) n j hn hj hl hx)
  have hP := Lib.hid (fun W => Place_any g o W)
  clear hl hx
  have c0 := k.o.cell (i := 0) (v := .int .i64 o.k) rfl
  rw [hk] at c0
  go_enter Try.func42, Try.ntmps42
  go_upto_region 1 with fail
  clear c0
  have bd := (Below.refl w.heap.size w).drew
  refine wp_region_held_drew (S := fun V => CBx V B Km Ks Ko Kn Kr m g o n rt) (by kernel_rfl) k.drew (fun hH => ?_)
  generalize w.drew = W1 at *
  refine wpAnyH_take (i := 0) (v := ?_) rfl (by kernel_rfl) (by kernel_rfl) (by kernel_rfl) (fun _ _ _ h => h) (Or.inl ⟨by kernel_rfl, ?_⟩) hH ?_
  rotate_left
  · intro W hS
    have c1 := hS.m
    go_simp
    try rfl
  simp only [Act.put, List.setIfInBounds_toArray, List.set_cons_zero, List.set_cons_succ, List.getElem_toArray, List.getElem_cons_succ, List.getElem_cons_zero]
  refine wpAnyH_take (i := 1) (v := stV g) rfl (by kernel_rfl) (by kernel_rfl) (by kernel_rfl) (fun _ _ _ h => h) (Or.inl ⟨by kernel_rfl, ?_⟩) hH ?_
  · intro W hS
    exact run_load_row (by rfl) (by rfl) 44 _ (0, 0) _ hS.s.h Try.underlying44 rfl szS
  simp only [Act.put, List.setIfInBounds_toArray, List.set_cons_zero, List.set_cons_succ]
  refine wpAnyH_take (i := 2) (v := opV o) rfl (by kernel_rfl) (by kernel_rfl) (by kernel_rfl) (fun _ _ _ h => h) (Or.inl ⟨by kernel_rfl, ?_⟩) hH ?_
  · intro W hS
    exact run_load_row (by rfl) (by rfl) 47 _ (0, 0) _ hS.o.h Try.underlying47 rfl szO
  simp only [Act.put, List.setIfInBounds_toArray, List.set_cons_zero, List.set_cons_succ]
  refine wpAnyH_take (i := 4) (v := ?_) rfl (by kernel_rfl) (by kernel_rfl) (by kernel_rfl) (fun _ _ _ h => h) (Or.inl ⟨by kernel_rfl, ?_⟩) hH ?_
  rotate_left
  · intro W hS
    have c1 := hS.n
    go_simp
    try rfl
  simp only [Act.put, List.setIfInBounds_toArray, List.set_cons_zero, List.set_cons_succ, List.getElem_toArray, List.getElem_cons_succ, List.getElem_cons_zero]
  refine wpAnyH_take (i := 5) (v := ?_) rfl (by kernel_rfl) (by kernel_rfl) (by kernel_rfl) (fun _ _ _ h => h) (Or.inl ⟨by kernel_rfl, ?_⟩) hH ?_
  rotate_left
  · intro W hS
    have c1 := hS.r
    go_simp
    try rfl
  simp only [Act.put, List.setIfInBounds_toArray, List.set_cons_zero, List.set_cons_succ, List.getElem_toArray, List.getElem_cons_succ, List.getElem_cons_zero]
  refine wpAnyH_ready (rs := [3]) (by kernel_rfl) (by simp) ?_
  refine AllReadyH.cons rfl (fun K hK => ?_) AllReadyH.nil
  go_simp
  with_reducible refine (hP.out _).mono ?_
  rintro e w2 ⟨rfl, b2⟩
  have hH2 := hH.below b2
  refine hK.out _ _ hH2 (fun _ => ?_)
  clear hK K
  try simp only [Act.put, List.setIfInBounds_toArray, List.set_cons_zero, List.set_cons_succ]
  refine wpAnyH_ready (rs := [6]) (by kernel_rfl) (by simp) ?_
  refine AllReadyH.cons rfl (fun K hK => ?_) AllReadyH.nil
  go_simp
  with_reducible refine (hA.out _ hH2.h).mono ?_
  rintro e w3 ⟨rfl, hw⟩
  subst hw
  exact ⟨rfl, rfl, bd.trans (b2.mono bd.size)⟩
set_option maxRecDepth 20000 in
theorem can1_other {B Km Ks Ko Kn Kr : Nat} {m : Mm} {g : Gs} {o : On} {n : Int} {rt : Int} {w : World} (k : CBx w B Km Ks Ko Kn Kr m g o n rt) (hk : (o.k == 3) = false) : Calls Try.prog 42 #[cp Ko, cp Km, cp Ks, cp Kn, cp Kr] w fun e w' => e = .returned (.tuple #[]) ∧ Below w.heap.size w w' := by
  have c0 := k.o.cell (i := 0) (v := .int .i64 o.k) rfl
  go_enter Try.func42, Try.ntmps42
  go_wp2_with fail
  exact bodyPost_end (v := .tuple #[]) (by simp [results, Try.results42, go_sem]) rfl ⟨rfl, Below.refl _ _⟩
abbrev f0A : Array Value := #[.int .i64 0, .int .u32 0, .int .u32 0, .int .i64 0]
theorem cbx_new {B : Nat} {m : Mm} {w : World} (h : PAt w B m) (g : Gs) (o : On) (n rt : Int) : CBx ((((((w.alloc (.cells #[mp B] 26)).alloc (.cells (stA g) 44)).alloc (.cells (op6 o) 47)).alloc (.cells #[.int .i64 n] 3)).alloc (.cells #[.int .i64 rt] 3)).alloc (.cells f0A 32)) B (w.heap.size) (w.heap.size + 1) (w.heap.size + 1 + 1) (w.heap.size + 1 + 1 + 1) (w.heap.size + 1 + 1 + 1 + 1) m g o n rt ∧ Four ((((((w.alloc (.cells #[mp B] 26)).alloc (.cells (stA g) 44)).alloc (.cells (op6 o) 47)).alloc (.cells #[.int .i64 n] 3)).alloc (.cells #[.int .i64 rt] 3)).alloc (.cells f0A 32)) (w.heap.size + 1 + 1 + 1 + 1 + 1) 0 0 0 0 ∧ Below w.heap.size w ((((((w.alloc (.cells #[mp B] 26)).alloc (.cells (stA g) 44)).alloc (.cells (op6 o) 47)).alloc (.cells #[.int .i64 n] 3)).alloc (.cells #[.int .i64 rt] 3)).alloc (.cells f0A 32)) ∧ ((((((w.alloc (.cells #[mp B] 26)).alloc (.cells (stA g) 44)).alloc (.cells (op6 o) 47)).alloc (.cells #[.int .i64 n] 3)).alloc (.cells #[.int .i64 rt] 3)).alloc (.cells f0A 32)).heap.size = w.heap.size + 6 := by
  have b := (((((((Below.refl w.heap.size w).alloc (Nat.le_refl _) (.cells #[mp B] 26)).alloc (by simp) (.cells (stA g) 44)).alloc (by simp; omega) (.cells (op6 o) 47)).alloc (by simp; omega) (.cells #[.int .i64 n] 3)).alloc (by simp; omega) (.cells #[.int .i64 rt] 3)).alloc (by simp; omega) (.cells f0A 32))
  have k1 := (((((Blk.new (w.alloc (.cells #[mp B] 26)) 44 (stA g)).alloc (.cells (op6 o) 47)).alloc (.cells #[.int .i64 n] 3)).alloc (.cells #[.int .i64 rt] 3)).alloc (.cells f0A 32))
  have k2 := ((((Blk.new ((w.alloc (.cells #[mp B] 26)).alloc (.cells (stA g) 44)) 47 (op6 o)).alloc (.cells #[.int .i64 n] 3)).alloc (.cells #[.int .i64 rt] 3)).alloc (.cells f0A 32))
  have f5 := Four.begun (((((w.alloc (.cells #[mp B] 26)).alloc (.cells (stA g) 44)).alloc (.cells (op6 o) 47)).alloc (.cells #[.int .i64 n] 3)).alloc (.cells #[.int .i64 rt] 3)) 0 0 0 0 32
  simp only [World.size_alloc] at k1 k2 f5
  refine ⟨⟨((((((h.alloc _).alloc _).alloc _).alloc _).alloc _).alloc _), by simp [go_sem], k1, k2, by simp [go_sem], by simp [go_sem]⟩, f5, b, by simp⟩
set_option maxRecDepth 20000 in
theorem Can_yes {B : Nat} {m : Mm} {w : World} (h : PAt w B m) (ok : m.ok) (g : Gs) (o : On) (n : Nat) (rt : Int) (hk : o.k = 3) (hn : n ≤ 100) (hl : ∀ i, i < n → lkL m rt ((plO g o + i) % 4294967296) = 0) : Calls Try.prog 20 #[mp B, stV g, opV o, .int .i64 n, .int .i64 rt] w fun e w' => e = .returned (.tuple #[fltV 0 0 0 0, .bool true]) ∧ Below w.heap.size w w' := by
  have hmf : ∀ (fn : Fn) (first cap : Array Value) (w : World), (Instr.makeFunc fn first cap).run Try.prog w = .ok (.func fn first cap) w := fun _ _ _ _ => rfl
  obtain ⟨hbx, h4, k5, s5⟩ := cbx_new h g o n rt
  have hc := Lib.hid (fun (W : World) (hW : Below ((((((w.alloc (.cells #[mp B] 26)).alloc (.cells (stA g) 44)).alloc (.cells (op6 o) 47)).alloc (.cells #[.int .i64 n] 3)).alloc (.cells #[.int .i64 rt] 3)).alloc (.cells f0A 32)).heap.size ((((((w.alloc (.cells #[mp B] 26)).alloc (.cells (stA g) 44)).alloc (.cells (op6 o) 47)).alloc (.cells #[.int .i64 n] 3)).alloc (.cells #[.int .i64 rt] 3)).alloc (.cells f0A 32)) W) => can1_yes (hbx.below hW) ok hk hn hl)
  clear hl
  go_enter Try.func20, Try.ntmps20
  go_wp2_with fail
  generalize ((((((w.alloc (.cells #[mp B] 26)).alloc (.cells (stA g) 44)).alloc (.cells (op6 o) 47)).alloc (.cells #[.int .i64 n] 3)).alloc (.cells #[.int .i64 rt] 3)).alloc (.cells #[.int .i64 0, .int .u32 0, .int .u32 0, .int .i64 0] 32)) = w5 at *
  refine (otriedC_yes _ [] (fun _ => True) (by simp) (fun _ _ _ _ => trivial) (fun W hW => (hc.out W hW).mono fun e w' hh => ⟨hh.1, trivial, But.of hh.2 _⟩)).mono ?_
  rintro e w6 ⟨rfl, -, k6'⟩
  have k6 := k6'.below (Nat.le_refl _) (by simp)
  clear k6'
  replace h4 := h4.but (But.of k6 []) (by omega) (by simp)
  have hx := h4.stored 0 0 0 0
  have kx := (But.of (k5.trans (k6.mono (by omega))) [w.heap.size + 1 + 1 + 1 + 1 + 1]).stored4 (K := w.heap.size + 1 + 1 + 1 + 1 + 1) (by simp) (.int .i64 0) (.int .u32 0) (.int .u32 0) (.int .i64 0)
  obtain ⟨c0, c1, c2, c3, f⟩ := h4
  have q0 := f 0
  have q1 := f 1
  have q2 := f 2
  have q3 := f 3
  clear f hmf k5 k6 hbx hc
  go_wp2_with fail
  clear c0 c1 c2 c3 q0 q1 q2 q3
  generalize ((((w6.setCell ⟨w.heap.size + 1 + 1 + 1 + 1 + 1, 0, none⟩ (.int .i64 0)).setCell ⟨w.heap.size + 1 + 1 + 1 + 1 + 1, 1, none⟩ (.int .u32 0)).setCell ⟨w.heap.size + 1 + 1 + 1 + 1 + 1, 2, none⟩ (.int .u32 0)).setCell ⟨w.heap.size + 1 + 1 + 1 + 1 + 1, 3, none⟩ (.int .i64 0)) = w7 at *
  obtain ⟨d0, d1, d2, d3, -⟩ := hx
  exact bodyPost_ret (v := .tuple #[fltV 0 0 0 0, .bool true]) (by simp [results, Try.results20, go_sem, d0, d1, d2, d3]) rfl ⟨rfl, kx.below (Nat.le_refl _) (by simp; omega)⟩
set_option maxRecDepth 20000 in
theorem Can_no {B : Nat} {m : Mm} {w : World} (h : PAt w B m) (ok : m.ok) (g : Gs) (o : On) (n : Nat) (rt : Int) (hk : o.k = 3) (hn : n ≤ 100) (j : Nat) (hj : j < n) (hl : ∀ i, i < j → lkL m rt ((plO g o + i) % 4294967296) = 0) (hx : ¬ lkL m rt ((plO g o + j) % 4294967296) = 0) : Calls Try.prog 20 #[mp B, stV g, opV o, .int .i64 n, .int .i64 rt] w fun e w' => e = .returned (.tuple #[fltV 1 0 ((plO g o + j) % 4294967296) (wantL (lkL m rt ((plO g o + j) % 4294967296))), .bool false]) ∧ Below w.heap.size w w' := by
  have hmf : ∀ (fn : Fn) (first cap : Array Value) (w : World), (Instr.makeFunc fn first cap).run Try.prog w = .ok (.func fn first cap) w := fun _ _ _ _ => rfl
  obtain ⟨hbx, h4, k5, s5⟩ := cbx_new h g o n rt
  have hc := Lib.hid (fun (W : World) (hW : Below ((((((w.alloc (.cells #[mp B] 26)).alloc (.cells (stA g) 44)).alloc (.cells (op6 o) 47)).alloc (.cells #[.int .i64 n] 3)).alloc (.cells #[.int .i64 rt] 3)).alloc (.cells f0A 32)).heap.size ((((((w.alloc (.cells #[mp B] 26)).alloc (.cells (stA g) 44)).alloc (.cells (op6 o) 47)).alloc (.cells #[.int .i64 n] 3)).alloc (.cells #[.int .i64 rt] 3)).alloc (.cells f0A 32)) W) => can1_no (hbx.below hW) ok hk hn j hj hl hx)
  clear hl hx
  generalize hA : (plO g o + j) % 4294967296 = A at *
  generalize hT : wantL (lkL m rt A) = T at *
  have HA := Lib.hid hA
  have HT := Lib.hid hT
  clear hA hT
  go_enter Try.func20, Try.ntmps20
  go_wp2_with fail
  generalize ((((((w.alloc (.cells #[mp B] 26)).alloc (.cells (stA g) 44)).alloc (.cells (op6 o) 47)).alloc (.cells #[.int .i64 n] 3)).alloc (.cells #[.int .i64 rt] 3)).alloc (.cells #[.int .i64 0, .int .u32 0, .int .u32 0, .int .i64 0] 32)) = w5 at *
  refine (otriedC_no _ 1 0 A T (fun W hW => hc.out W hW)).mono ?_
  rintro e w6 ⟨rfl, k6⟩
  replace h4 := h4.but (But.of k6 []) (by omega) (by simp)
  have hx := h4.stored 1 0 A T
  have kx := (But.of (k5.trans (k6.mono (by omega))) [w.heap.size + 1 + 1 + 1 + 1 + 1]).stored4 (K := w.heap.size + 1 + 1 + 1 + 1 + 1) (by simp) (.int .i64 1) (.int .u32 0) (.int .u32 A) (.int .i64 T)
  obtain ⟨c0, c1, c2, c3, f⟩ := h4
  have q0 := f 0
  have q1 := f 1
  have q2 := f 2
  have q3 := f 3
  clear f hmf k5 k6 hbx hc
  go_wp2_with fail
  clear c0 c1 c2 c3 q0 q1 q2 q3
  generalize ((((w6.setCell ⟨w.heap.size + 1 + 1 + 1 + 1 + 1, 0, none⟩ (.int .i64 1)).setCell ⟨w.heap.size + 1 + 1 + 1 + 1 + 1, 1, none⟩ (.int .u32 0)).setCell ⟨w.heap.size + 1 + 1 + 1 + 1 + 1, 2, none⟩ (.int .u32 A)).setCell ⟨w.heap.size + 1 + 1 + 1 + 1 + 1, 3, none⟩ (.int .i64 T)) = w7 at *
  obtain ⟨d0, d1, d2, d3, -⟩ := hx
  exact bodyPost_ret (v := .tuple #[fltV 1 0 A T, .bool false]) (by simp [results, Try.results20, go_sem, d0, d1, d2, d3]) rfl ⟨by have h1 := HA.out; subst h1; have h2 := HT.out; subst h2; rfl, kx.below (Nat.le_refl _) (by simp; omega)⟩
set_option maxRecDepth 20000 in
theorem Can_other {B : Nat} {m : Mm} {w : World} (h : PAt w B m) (ok : m.ok) (g : Gs) (o : On) (n : Nat) (rt : Int) (hk : (o.k == 3) = false) : Calls Try.prog 20 #[mp B, stV g, opV o, .int .i64 n, .int .i64 rt] w fun e w' => e = .returned (.tuple #[fltV 0 0 0 0, .bool true]) ∧ Below w.heap.size w w' := by
  have hmf : ∀ (fn : Fn) (first cap : Array Value) (w : World), (Instr.makeFunc fn first cap).run Try.prog w = .ok (.func fn first cap) w := fun _ _ _ _ => rfl
  obtain ⟨hbx, h4, k5, s5⟩ := cbx_new h g o n rt
  have hc := Lib.hid (fun (W : World) (hW : Below ((((((w.alloc (.cells #[mp B] 26)).alloc (.cells (stA g) 44)).alloc (.cells (op6 o) 47)).alloc (.cells #[.int .i64 n] 3)).alloc (.cells #[.int .i64 rt] 3)).alloc (.cells f0A 32)).heap.size ((((((w.alloc (.cells #[mp B] 26)).alloc (.cells (stA g) 44)).alloc (.cells (op6 o) 47)).alloc (.cells #[.int .i64 n] 3)).alloc (.cells #[.int .i64 rt] 3)).alloc (.cells f0A 32)) W) => can1_other (hbx.below hW) hk)
  go_enter Try.func20, Try.ntmps20
  go_wp2_with fail
  generalize ((((((w.alloc (.cells #[mp B] 26)).alloc (.cells (stA g) 44)).alloc (.cells (op6 o) 47)).alloc (.cells #[.int .i64 n] 3)).alloc (.cells #[.int .i64 rt] 3)).alloc (.cells #[.int .i64 0, .int .u32 0, .int .u32 0, .int .i64 0] 32)) = w5 at *
  refine (otriedC_yes _ [] (fun _ => True) (by simp) (fun _ _ _ _ => trivial) (fun W hW => (hc.out W hW).mono fun e w' hh => ⟨hh.1, trivial, But.of hh.2 _⟩)).mono ?_
  rintro e w6 ⟨rfl, -, k6'⟩
  have k6 := k6'.below (Nat.le_refl _) (by simp)
  clear k6'
  replace h4 := h4.but (But.of k6 []) (by omega) (by simp)
  have hx := h4.stored 0 0 0 0
  have kx := (But.of (k5.trans (k6.mono (by omega))) [w.heap.size + 1 + 1 + 1 + 1 + 1]).stored4 (K := w.heap.size + 1 + 1 + 1 + 1 + 1) (by simp) (.int .i64 0) (.int .u32 0) (.int .u32 0) (.int .i64 0)
  obtain ⟨c0, c1, c2, c3, f⟩ := h4
  have q0 := f 0
  have q1 := f 1
  have q2 := f 2
  have q3 := f 3
  clear f hmf k5 k6 hbx hc
  go_wp2_with fail
  clear c0 c1 c2 c3 q0 q1 q2 q3
  generalize ((((w6.setCell ⟨w.heap.size + 1 + 1 + 1 + 1 + 1, 0, none⟩ (.int .i64 0)).setCell ⟨w.heap.size + 1 + 1 + 1 + 1 + 1, 1, none⟩ (.int .u32 0)).setCell ⟨w.heap.size + 1 + 1 + 1 + 1 + 1, 2, none⟩ (.int .u32 0)).setCell ⟨w.heap.size + 1 + 1 + 1 + 1 + 1, 3, none⟩ (.int .i64 0)) = w7 at *
  obtain ⟨d0, d1, d2, d3, -⟩ := hx
  exact bodyPost_ret (v := .tuple #[fltV 0 0 0 0, .bool true]) (by simp [results, Try.results20, go_sem, d0, d1, d2, d3]) rfl ⟨rfl, kx.below (Nat.le_refl _) (by simp; omega)⟩
end Go.Proofs.Ytmlaancmacipoaa
