import Derived.Test.YtcdoidnfdkodoaaGreatDoorS08
namespace Go.Proofs.YtcdoidnfdkodoaaGreatDoor
open Go.RowKit
set_option linter.unusedVariables false
set_option linter.unusedSimpArgs false
set_option linter.unusedSectionVars false
structure CBx (W : World) (B Km Ks Ko Kn Kr : Nat) (m : Mm) (g : Gs) (o : On) (n rt : Int) : Prop where
  h : PAt W B m
  m : W.cell? ⟨Km, 0, none⟩ = some (mp B)
  s : Blk W Ks 29 (stA g)
  o : Blk W Ko 31 (op6 o)
  n : W.cell? ⟨Kn, 0, none⟩ = some (.int .i64 n)
  r : W.cell? ⟨Kr, 0, none⟩ = some (.int .i64 rt)
theorem CBx.below {W W' : World} {B Km Ks Ko Kn Kr : Nat} {m : Mm} {g : Gs} {o : On} {n rt : Int} (k : CBx W B Km Ks Ko Kn Kr m g o n rt) (b : Below W.heap.size W W') : CBx W' B Km Ks Ko Kn Kr m g o n rt :=
  ⟨k.h.below b k.h.lt, (b.cell (p := ⟨Km, 0, none⟩) (size_of_cell k.m)).trans k.m, k.s.below b k.s.lt, k.o.below b k.o.lt, (b.cell (p := ⟨Kn, 0, none⟩) (size_of_cell k.n)).trans k.n, (b.cell (p := ⟨Kr, 0, none⟩) (size_of_cell k.r)).trans k.r⟩
theorem CBx.drew {W : World} {B Km Ks Ko Kn Kr : Nat} {m : Mm} {g : Gs} {o : On} {n rt : Int} (k : CBx W B Km Ks Ko Kn Kr m g o n rt) : CBx W.drew B Km Ks Ko Kn Kr m g o n rt := k.below (Below.refl _ _).drew
set_option maxRecDepth 20000 in
theorem can1_other {B Km Ks Ko Kn Kr : Nat} {m : Mm} {g : Gs} {o : On} {n : Int} {rt : Int} {w : World} (k : CBx w B Km Ks Ko Kn Kr m g o n rt) (hk : (o.k == 3) = false) : Calls Tryz.prog 232 #[cp Ko, cp Km, cp Ks, cp Kn, cp Kr] w fun e w' => e = .returned (.tuple #[]) ∧ Below w.heap.size w w' := by
  have c0 := k.o.cell (i := 0) (v := .int .i64 o.k) rfl
  go_enter Tryz.func232, Tryz.ntmps232
  go_wp2_with fail
  exact bodyPost_end (v := .tuple #[]) (by simp [results, Tryz.results232, go_sem]) rfl ⟨rfl, Below.refl _ _⟩
abbrev f0A : Array Value := #[.int .i64 0, .int .u32 0, .int .u32 0, .int .i64 0]
theorem cbx_new {B : Nat} {m : Mm} {w : World} (h : PAt w B m) (g : Gs) (o : On) (n rt : Int) : CBx ((((((w.alloc (.cells #[mp B] 35)).alloc (.cells (stA g) 29)).alloc (.cells (op6 o) 31)).alloc (.cells #[.int .i64 n] 3)).alloc (.cells #[.int .i64 rt] 3)).alloc (.cells f0A 42)) B (w.heap.size) (w.heap.size + 1) (w.heap.size + 1 + 1) (w.heap.size + 1 + 1 + 1) (w.heap.size + 1 + 1 + 1 + 1) m g o n rt ∧ Four ((((((w.alloc (.cells #[mp B] 35)).alloc (.cells (stA g) 29)).alloc (.cells (op6 o) 31)).alloc (.cells #[.int .i64 n] 3)).alloc (.cells #[.int .i64 rt] 3)).alloc (.cells f0A 42)) (w.heap.size + 1 + 1 + 1 + 1 + 1) 0 0 0 0 ∧ Below w.heap.size w ((((((w.alloc (.cells #[mp B] 35)).alloc (.cells (stA g) 29)).alloc (.cells (op6 o) 31)).alloc (.cells #[.int .i64 n] 3)).alloc (.cells #[.int .i64 rt] 3)).alloc (.cells f0A 42)) ∧ ((((((w.alloc (.cells #[mp B] 35)).alloc (.cells (stA g) 29)).alloc (.cells (op6 o) 31)).alloc (.cells #[.int .i64 n] 3)).alloc (.cells #[.int .i64 rt] 3)).alloc (.cells f0A 42)).heap.size = w.heap.size + 6 := by
  have b := (((((((Below.refl w.heap.size w).alloc (Nat.le_refl _) (.cells #[mp B] 35)).alloc (by simp) (.cells (stA g) 29)).alloc (by simp; omega) (.cells (op6 o) 31)).alloc (by simp; omega) (.cells #[.int .i64 n] 3)).alloc (by simp; omega) (.cells #[.int .i64 rt] 3)).alloc (by simp; omega) (.cells f0A 42))
  have k1 := (((((Blk.new (w.alloc (.cells #[mp B] 35)) 29 (stA g)).alloc (.cells (op6 o) 31)).alloc (.cells #[.int .i64 n] 3)).alloc (.cells #[.int .i64 rt] 3)).alloc (.cells f0A 42))
  have k2 := ((((Blk.new ((w.alloc (.cells #[mp B] 35)).alloc (.cells (stA g) 29)) 31 (op6 o)).alloc (.cells #[.int .i64 n] 3)).alloc (.cells #[.int .i64 rt] 3)).alloc (.cells f0A 42))
  have f5 := Four.begun (((((w.alloc (.cells #[mp B] 35)).alloc (.cells (stA g) 29)).alloc (.cells (op6 o) 31)).alloc (.cells #[.int .i64 n] 3)).alloc (.cells #[.int .i64 rt] 3)) 0 0 0 0 42
  simp only [World.size_alloc] at k1 k2 f5
  refine ⟨⟨((((((h.alloc _).alloc _).alloc _).alloc _).alloc _).alloc _), by simp [go_sem], k1, k2, by simp [go_sem], by simp [go_sem]⟩, f5, b, by simp⟩
set_option maxRecDepth 20000 in
theorem Can_other {B : Nat} {m : Mm} {w : World} (h : PAt w B m) (ok : m.ok) (g : Gs) (o : On) (n : Nat) (rt : Int) (hk : (o.k == 3) = false) : Calls Tryz.prog 199 #[mp B, stV g, opV o, .int .i64 n, .int .i64 rt] w fun e w' => e = .returned (.tuple #[fltV 0 0 0 0, .bool true]) ∧ Below w.heap.size w w' := by
  have hmf : ∀ (fn : Fn) (first cap : Array Value) (w : World), (Instr.makeFunc fn first cap).run Tryz.prog w = .ok (.func fn first cap) w := fun _ _ _ _ => rfl
  obtain ⟨hbx, h4, k5, s5⟩ := cbx_new h g o n rt
  have hc := Lib.hid (fun (W : World) (hW : Below ((((((w.alloc (.cells #[mp B] 35)).alloc (.cells (stA g) 29)).alloc (.cells (op6 o) 31)).alloc (.cells #[.int .i64 n] 3)).alloc (.cells #[.int .i64 rt] 3)).alloc (.cells f0A 42)).heap.size ((((((w.alloc (.cells #[mp B] 35)).alloc (.cells (stA g) 29)).alloc (.cells (op6 o) 31)).alloc (.cells #[.int .i64 n] 3)).alloc (.cells #[.int .i64 rt] 3)).alloc (.cells f0A 42)) W) => can1_other (hbx.below hW) hk)
  go_enter Tryz.func199, Tryz.ntmps199
  go_wp2_with fail
  generalize ((((((w.alloc (.cells #[mp B] 35)).alloc (.cells (stA g) 29)).alloc (.cells (op6 o) 31)).alloc (.cells #[.int .i64 n] 3)).alloc (.cells #[.int .i64 rt] 3)).alloc (.cells #[.int .i64 0, .int .u32 0, .int .u32 0, .int .i64 0] 42)) = w5 at *
  refine (otriedC_yes _ [] (fun _ => True) (by simp) (fun _ _ _ _ => trivial) (fun W hW => (hc.out W hW).mono fun e w' hh => ⟨hh.1, trivial, But.of hh.2 _⟩)).mono ?_
  rintro e w6 ⟨rfl, -, k6'⟩
  have k6 := k6'.below (Nat.le_refl _) (by simp)
  clear k6'
  replace h4 := h4.but (But.of k6 []) (by omega) (by simp)
  have hx := h4.stored 0 0 0 0
  have kx := (But.of (k5.trans (k6.mono (by omega))) [w.heap.size + 1 + 1 + 1 + 1 + 1]).stored4 (K := w.heap.size + 1 + 1 + 1 + 1 + 1) (by simp) (.int .i64 0) (.int .u32 0) (.int .u32 0) (.int .i64 0)
  obtain ⟨c0, c1, c2, c3, f⟩ := h4
  have q0 := f 0
  have q1 := f 1
  have q2 := f 2
  have q3 := f 3
  clear f hmf k5 k6 hbx hc
  go_wp2_with fail
  clear c0 c1 c2 c3 q0 q1 q2 q3
  generalize ((((w6.setCell ⟨w.heap.size + 1 + 1 + 1 + 1 + 1, 0, none⟩ (.int .i64 0)).setCell ⟨w.heap.size + 1 + 1 + 1 + 1 + 1, 1, none⟩ (.int .u32 0)).setCell ⟨w.heap.size + 1 + 1 + 1 + 1 + 1, 2, none⟩ (.int .u32 0)).setCell ⟨w.heap.size + 1 + 1 + 1 + 1 + 1, 3, none⟩ (.int .i64 0)) = w7 at *
  obtain ⟨d0, d1, d2, d3, -⟩ := hx
  exact bodyPost_ret (v := .tuple #[fltV 0 0 0 0, .bool true]) (by simp [results, Tryz.results199, go_sem, d0, d1, d2, d3]) rfl ⟨rfl, kx.below (Nat.le_refl _) (by simp; omega)⟩
end Go.Proofs.YtcdoidnfdkodoaaGreatDoor
namespace Go.Proofs.YtcdoidnfdkodoaaGreatDoor
open Go.RowKit
set_option linter.unusedVariables false
set_option linter.unusedSimpArgs false
set_option linter.unusedSectionVars false
structure RBx (W : World) (B Km Ks Ko Kn : Nat) (m : Mm) (g : Gs) (o : On) (n : Int) : Prop where
  h : PAt W B m
  m : W.cell? ⟨Km, 0, none⟩ = some (mp B)
  s : Blk W Ks 29 (stA g)
  o : Blk W Ko 31 (op6 o)
  n : W.cell? ⟨Kn, 0, none⟩ = some (.int .i64 n)
theorem RBx.below {W W' : World} {B Km Ks Ko Kn : Nat} {m : Mm} {g : Gs} {o : On} {n : Int} (k : RBx W B Km Ks Ko Kn m g o n) (b : Below W.heap.size W W') : RBx W' B Km Ks Ko Kn m g o n :=
  ⟨k.h.below b k.h.lt, (b.cell (p := ⟨Km, 0, none⟩) (size_of_cell k.m)).trans k.m, k.s.below b k.s.lt, k.o.below b k.o.lt, (b.cell (p := ⟨Kn, 0, none⟩) (size_of_cell k.n)).trans k.n⟩
structure Off (Kv B Km Ks Ko Kn : Nat) : Prop where
  b : ¬ B = Kv
  m : ¬ Km = Kv
  s : ¬ Ks = Kv
  o : ¬ Ko = Kv
  n : ¬ Kn = Kv
theorem RBx.set {W : World} {B Km Ks Ko Kn Kv : Nat} {m : Mm} {g : Gs} {o : On} {n : Int} (k : RBx W B Km Ks Ko Kn m g o n) (q : Off Kv B Km Ks Ko Kn) (v : Int) : RBx (W.setCell ⟨Kv, 0, none⟩ (.int .u32 v)) B Km Ks Ko Kn m g o n :=
  ⟨k.h.other q.b, (World.cell?_setCell_far _ _ _ _ (fun e => q.m e.symm)).trans k.m, k.s.other 0 _ q.s, k.o.other 0 _ q.o, (World.cell?_setCell_far _ _ _ _ (fun e => q.n e.symm)).trans k.n⟩
theorem RBx.drew {W : World} {B Km Ks Ko Kn : Nat} {m : Mm} {g : Gs} {o : On} {n : Int} (k : RBx W B Km Ks Ko Kn m g o n) : RBx W.drew B Km Ks Ko Kn m g o n := k.below (Below.refl _ _).drew
set_option maxRecDepth 20000 in
theorem oread1_yes {B Km Ks Ko Kn Kv : Nat} {m : Mm} {g : Gs} {o : On} {n : Int} {w : World} (k : RBx w B Km Ks Ko Kn m g o n) (v : Int) (hr : ∀ W, PAt W B m → Calls Tryz.prog 230 #[mp B, stV g, opV o, .int .i64 (numO n)] W fun e w' => e = .returned (.int .u32 v) ∧ Below W.heap.size W w') (cv : w.cell? ⟨Kv, 0, none⟩ = some (.int .u32 0)) (fv : w.frozen? ⟨Kv, 0, none⟩ = false) (hne : Off Kv B Km Ks Ko Kn) :
    Calls Tryz.prog 229 #[cp Km, cp Ks, cp Ko, cp Kn, cp Kv] w fun e w' => e = .returned (.tuple #[]) ∧ w'.cell? ⟨Kv, 0, none⟩ = some (.int .u32 v) ∧ But [Kv] w.heap.size w w' := by
  have hR := Lib.hid hr
  have hN := Lib.hid (fun W => onumber_any n W)
  clear hr
  generalize numO n = q at *
  go_enter Tryz.func229, Tryz.ntmps229
  go_upto_region 0 with fail
  have bd := (Below.refl w.heap.size w).drew
  have zv := size_of_cell cv
  replace cv := (bd.cell (p := ⟨Kv, 0, none⟩) zv).trans cv
  replace fv := (bd.frozen (p := ⟨Kv, 0, none⟩) zv).trans fv
  refine wp_region_held_drew (S := fun V => RBx V B Km Ks Ko Kn m g o n) (by kernel_rfl) k.drew (fun hH => ?_)
  have hsz := Lib.hid (show w.heap.size = w.drew.heap.size from rfl)
  generalize w.drew = W1 at *
  refine wpAnyH_take (i := 0) (v := ?_) rfl (by kernel_rfl) (by kernel_rfl) (by kernel_rfl) (fun _ _ _ h => h) (Or.inl ⟨by kernel_rfl, ?_⟩) hH ?_
  rotate_left
  · intro W hS
    have c1 := hS.m
    go_simp
    try rfl
  simp only [Act.put, List.setIfInBounds_toArray, List.set_cons_zero, List.set_cons_succ, List.getElem_toArray, List.getElem_cons_succ, List.getElem_cons_zero]
  refine wpAnyH_take (i := 1) (v := stV g) rfl (by kernel_rfl) (by kernel_rfl) (by kernel_rfl) (fun _ _ _ h => h) (Or.inl ⟨by kernel_rfl, ?_⟩) hH ?_
  · intro W hS
    exact run_load_row (by rfl) (by rfl) 29 _ (0, 0) _ hS.s.h Tryz.underlying29 rfl szS
  simp only [Act.put, List.setIfInBounds_toArray, List.set_cons_zero, List.set_cons_succ]
  refine wpAnyH_take (i := 2) (v := opV o) rfl (by kernel_rfl) (by kernel_rfl) (by kernel_rfl) (fun _ _ _ h => h) (Or.inl ⟨by kernel_rfl, ?_⟩) hH ?_
  · intro W hS
    exact run_load_row (by rfl) (by rfl) 31 _ (0, 0) _ hS.o.h Tryz.underlying31 rfl szO
  simp only [Act.put, List.setIfInBounds_toArray, List.set_cons_zero, List.set_cons_succ]
  refine wpAnyH_take (i := 3) (v := ?_) rfl (by kernel_rfl) (by kernel_rfl) (by kernel_rfl) (fun _ _ _ h => h) (Or.inl ⟨by kernel_rfl, ?_⟩) hH ?_
  rotate_left
  · intro W hS
    have c1 := hS.n
    go_simp
    try rfl
  simp only [Act.put, List.setIfInBounds_toArray, List.set_cons_zero, List.set_cons_succ, List.getElem_toArray, List.getElem_cons_succ, List.getElem_cons_zero]
  refine wpAnyH_ready (rs := [4]) (by kernel_rfl) (by simp) ?_
  refine AllReadyH.cons rfl (fun K hK => ?_) AllReadyH.nil
  go_simp
  with_reducible refine (hN.out _).mono ?_
  rintro e w2 ⟨rfl, hw⟩
  subst hw
  refine hK.out _ _ hH (fun _ => ?_)
  clear hK K
  try simp only [Act.put, List.setIfInBounds_toArray, List.set_cons_zero, List.set_cons_succ]
  refine wpAnyH_ready (rs := [5]) (by kernel_rfl) (by simp) ?_
  refine AllReadyH.cons rfl (fun K hK => ?_) AllReadyH.nil
  go_simp
  with_reducible refine (hR.out _ hH.h).mono ?_
  rintro e w3 ⟨rfl, b3⟩
  have hH3 := hH.below b3
  refine hK.out _ _ hH3 (fun _ => ?_)
  clear hK K
  try simp only [Act.put, List.setIfInBounds_toArray, List.set_cons_zero, List.set_cons_succ]
  refine wpAnyH_ready (rs := [6]) (by kernel_rfl) (by simp) ?_
  refine AllReadyH.cons rfl (fun K hK => ?_) AllReadyH.nil
  rw [if_pos (by kernel_rfl)]
  have hs := hsz.out
  have cw := (b3.cell (p := ⟨Kv, 0, none⟩) (by rw [← hs]; exact zv)).trans cv
  have fw := (b3.frozen (p := ⟨Kv, 0, none⟩) (by rw [← hs]; exact zv)).trans fv
  clear hs
  go_simp
  have c9 : (w3.setCell ⟨Kv, 0, none⟩ (.int .u32 v)).cell? ⟨Kv, 0, none⟩ = some (.int .u32 v) := by simp [go_sem, cw]
  have k9 := (But.of (bd.trans (b3.mono (Nat.le_of_eq hsz.out))) [Kv]).setCell (p := ⟨Kv, 0, none⟩) (by simp) (.int .u32 v)
  have hH4 : RBx (w3.setCell ⟨Kv, 0, none⟩ (.int .u32 v)) B Km Ks Ko Kn m g o n := hH3.set hne v
  refine hK.out _ _ hH4 (fun _ => ?_)
  clear hK K
  try simp only [Act.put, List.setIfInBounds_toArray, List.set_cons_zero, List.set_cons_succ, List.getElem_toArray, List.getElem_cons_succ, List.getElem_cons_zero]
  refine wpAnyH_done (by kernel_rfl) ?_ _
  go_wp2_with fail
  exact bodyPost_end (v := .tuple #[]) (by simp [results, Tryz.results229, go_sem]) rfl ⟨rfl, c9, k9⟩
theorem rbx_new {B : Nat} {m : Mm} {w : World} (h : PAt w B m) (g : Gs) (o : On) (n : Int) : RBx ((((((w.alloc (.cells #[mp B] 35)).alloc (.cells (stA g) 29)).alloc (.cells (op6 o) 31)).alloc (.cells #[.int .i64 n] 3)).alloc (.cells f0A 42)).alloc (.cells #[.int .u32 0] 23)) B (w.heap.size) (w.heap.size + 1) (w.heap.size + 1 + 1) (w.heap.size + 1 + 1 + 1) m g o n ∧ Four ((((((w.alloc (.cells #[mp B] 35)).alloc (.cells (stA g) 29)).alloc (.cells (op6 o) 31)).alloc (.cells #[.int .i64 n] 3)).alloc (.cells f0A 42)).alloc (.cells #[.int .u32 0] 23)) (w.heap.size + 1 + 1 + 1 + 1) 0 0 0 0 ∧ ((((((w.alloc (.cells #[mp B] 35)).alloc (.cells (stA g) 29)).alloc (.cells (op6 o) 31)).alloc (.cells #[.int .i64 n] 3)).alloc (.cells f0A 42)).alloc (.cells #[.int .u32 0] 23)).cell? ⟨(w.heap.size + 1 + 1 + 1 + 1 + 1), 0, none⟩ = some (.int .u32 0) ∧ ((((((w.alloc (.cells #[mp B] 35)).alloc (.cells (stA g) 29)).alloc (.cells (op6 o) 31)).alloc (.cells #[.int .i64 n] 3)).alloc (.cells f0A 42)).alloc (.cells #[.int .u32 0] 23)).frozen? ⟨(w.heap.size + 1 + 1 + 1 + 1 + 1), 0, none⟩ = false ∧ Below w.heap.size w ((((((w.alloc (.cells #[mp B] 35)).alloc (.cells (stA g) 29)).alloc (.cells (op6 o) 31)).alloc (.cells #[.int .i64 n] 3)).alloc (.cells f0A 42)).alloc (.cells #[.int .u32 0] 23)) ∧ ((((((w.alloc (.cells #[mp B] 35)).alloc (.cells (stA g) 29)).alloc (.cells (op6 o) 31)).alloc (.cells #[.int .i64 n] 3)).alloc (.cells f0A 42)).alloc (.cells #[.int .u32 0] 23)).heap.size = w.heap.size + 6 ∧ Off (w.heap.size + 1 + 1 + 1 + 1 + 1) B (w.heap.size) (w.heap.size + 1) (w.heap.size + 1 + 1) (w.heap.size + 1 + 1 + 1) := by
  have b := (((((((Below.refl w.heap.size w).alloc (Nat.le_refl _) (.cells #[mp B] 35)).alloc (by simp) (.cells (stA g) 29)).alloc (by simp; omega) (.cells (op6 o) 31)).alloc (by simp; omega) (.cells #[.int .i64 n] 3)).alloc (by simp; omega) (.cells f0A 42)).alloc (by simp; omega) (.cells #[.int .u32 0] 23))
  have k1 := (((((Blk.new (w.alloc (.cells #[mp B] 35)) 29 (stA g)).alloc (.cells (op6 o) 31)).alloc (.cells #[.int .i64 n] 3)).alloc (.cells f0A 42)).alloc (.cells #[.int .u32 0] 23))
  have k2 := ((((Blk.new ((w.alloc (.cells #[mp B] 35)).alloc (.cells (stA g) 29)) 31 (op6 o)).alloc (.cells #[.int .i64 n] 3)).alloc (.cells f0A 42)).alloc (.cells #[.int .u32 0] 23))
  have f5 := (Four.begun ((((w.alloc (.cells #[mp B] 35)).alloc (.cells (stA g) 29)).alloc (.cells (op6 o) 31)).alloc (.cells #[.int .i64 n] 3)) 0 0 0 0 42).but (But.of ((Below.refl (((((w.alloc (.cells #[mp B] 35)).alloc (.cells (stA g) 29)).alloc (.cells (op6 o) 31)).alloc (.cells #[.int .i64 n] 3)).alloc (.cells f0A 42)).heap.size (((((w.alloc (.cells #[mp B] 35)).alloc (.cells (stA g) 29)).alloc (.cells (op6 o) 31)).alloc (.cells #[.int .i64 n] 3)).alloc (.cells f0A 42))).alloc (Nat.le_refl _) (.cells #[.int .u32 0] 23)) []) (by simp) (by simp)
  have hB := h.lt
  simp only [World.size_alloc] at k1 k2 f5
  exact ⟨⟨((((((h.alloc _).alloc _).alloc _).alloc _).alloc _).alloc _), by simp [go_sem], k1, k2, by simp [go_sem]⟩, f5, by simp [go_sem], by simp [go_sem], b, by simp, ⟨by omega, by omega, by omega, by omega, by omega⟩⟩
set_option maxRecDepth 20000 in
theorem oRead_yes {B : Nat} {m : Mm} {w : World} (h : PAt w B m) (g : Gs) (o : On) (n : Int) (v : Int) (hr : ∀ W, PAt W B m → Calls Tryz.prog 230 #[mp B, stV g, opV o, .int .i64 (numO n)] W fun e w' => e = .returned (.int .u32 v) ∧ Below W.heap.size W w') : Calls Tryz.prog 197 #[mp B, stV g, opV o, .int .i64 n] w fun e w' => e = .returned (.tuple #[.int .u32 v, fltV 0 0 0 0, .bool true]) ∧ Below w.heap.size w w' := by
  have hmf : ∀ (fn : Fn) (first cap : Array Value) (w : World), (Instr.makeFunc fn first cap).run Tryz.prog w = .ok (.func fn first cap) w := fun _ _ _ _ => rfl
  obtain ⟨hbx, h4, cv, fv, k5, s5, hoff⟩ := rbx_new h g o n
  have hR := Lib.hid hr
  clear hr
  go_enter Tryz.func197, Tryz.ntmps197
  go_wp2_with fail
  generalize ((((((w.alloc (.cells #[mp B] 35)).alloc (.cells (stA g) 29)).alloc (.cells (op6 o) 31)).alloc (.cells #[.int .i64 n] 3)).alloc (.cells #[.int .i64 0, .int .u32 0, .int .u32 0, .int .i64 0] 42)).alloc (.cells #[.int .u32 0] 23)) = w5 at *
  refine (otriedR_yes _ [w.heap.size + 1 + 1 + 1 + 1 + 1] (fun W => W.cell? ⟨w.heap.size + 1 + 1 + 1 + 1 + 1, 0, none⟩ = some (.int .u32 v)) (by simp; omega) (fun W W' hr hb => (hb.cell (p := ⟨w.heap.size + 1 + 1 + 1 + 1 + 1, 0, none⟩) (show w.heap.size + 1 + 1 + 1 + 1 + 1 < w5.heap.size by omega)).trans hr)
    (fun W hW => (oread1_yes (hbx.below hW) v hR.out ((hW.cell (p := ⟨w.heap.size + 1 + 1 + 1 + 1 + 1, 0, none⟩) (show w.heap.size + 1 + 1 + 1 + 1 + 1 < w5.heap.size by omega)).trans cv) ((hW.frozen (p := ⟨w.heap.size + 1 + 1 + 1 + 1 + 1, 0, none⟩) (show w.heap.size + 1 + 1 + 1 + 1 + 1 < w5.heap.size by omega)).trans fv) hoff))).mono ?_
  rintro e w6 ⟨rfl, cv2, k6⟩
  replace h4 := h4.but k6 (by omega) (by simp)
  clear cv
  have cv := cv2
  clear cv2
  have kx := k5.trans (k6.below (show w.heap.size ≤ w5.heap.size by omega) (by simp; omega))
  have s6 := kx.size
  have z4 := size_of_cell h4.c0
  have zv := size_of_cell cv
  have h5 := h4.but (But.of ((Below.refl w6.heap.size w6).alloc (Nat.le_refl _) (.cells #[.int .i64 0, .int .u32 0, .int .u32 0, .int .i64 0] 42)) []) z4 (by simp)
  have cv5 := up_cell cv (.cells #[.int .i64 0, .int .u32 0, .int .u32 0, .int .i64 0] 42)
  have n5 := Four.begun w6 0 0 0 0 42
  have kn := kx.alloc (by omega) (.cells #[.int .i64 0, .int .u32 0, .int .u32 0, .int .i64 0] 42)
  clear hmf k5 k6 hbx h4 cv fv hR hoff
  go_wp2_with fail
  generalize w6.alloc (.cells #[.int .i64 0, .int .u32 0, .int .u32 0, .int .i64 0] 42) = w7 at *
  have hx : Four ((((w7.setCell ⟨w.heap.size + 1 + 1 + 1 + 1, 0, none⟩ (.int .i64 0)).setCell ⟨w.heap.size + 1 + 1 + 1 + 1, 1, none⟩ (.int .u32 0)).setCell ⟨w.heap.size + 1 + 1 + 1 + 1, 2, none⟩ (.int .u32 0)).setCell ⟨w.heap.size + 1 + 1 + 1 + 1, 3, none⟩ (.int .i64 0)).drew (w.heap.size + 1 + 1 + 1 + 1) 0 0 0 0 := (h5.stored 0 0 0 0).drew
  have kz : Below w.heap.size w ((((w7.setCell ⟨w.heap.size + 1 + 1 + 1 + 1, 0, none⟩ (.int .i64 0)).setCell ⟨w.heap.size + 1 + 1 + 1 + 1, 1, none⟩ (.int .u32 0)).setCell ⟨w.heap.size + 1 + 1 + 1 + 1, 2, none⟩ (.int .u32 0)).setCell ⟨w.heap.size + 1 + 1 + 1 + 1, 3, none⟩ (.int .i64 0)).drew :=
    ((But.of kn [w.heap.size + 1 + 1 + 1 + 1]).stored4 (K := w.heap.size + 1 + 1 + 1 + 1) (by simp) (.int .i64 0) (.int .u32 0) (.int .u32 0) (.int .i64 0)).drew.below (Nat.le_refl _) (by simp; omega)
  obtain ⟨c0, c1, c2, c3, f⟩ := h5
  obtain ⟨g0, g1, g2, g3, gg⟩ := n5
  have f0 := f 0
  have f1 := f 1
  have f2 := f 2
  have f3 := f 3
  clear f gg kn kx
  go_region
  clear c0 c1 c2 c3 f0 f1 f2 f3 g0 g1 g2 g3 cv5
  generalize ((((w7.setCell ⟨w.heap.size + 1 + 1 + 1 + 1, 0, none⟩ (.int .i64 0)).setCell ⟨w.heap.size + 1 + 1 + 1 + 1, 1, none⟩ (.int .u32 0)).setCell ⟨w.heap.size + 1 + 1 + 1 + 1, 2, none⟩ (.int .u32 0)).setCell ⟨w.heap.size + 1 + 1 + 1 + 1, 3, none⟩ (.int .i64 0)).drew = w8 at *
  obtain ⟨d0, d1, d2, d3, -⟩ := hx
  go_wp2_with fail
  exact bodyPost_ret (v := .tuple #[.int .u32 v, fltV 0 0 0 0, .bool true]) (by simp [results, Tryz.results197, go_sem, d0, d1, d2, d3]) rfl ⟨rfl, kz⟩
end Go.Proofs.YtcdoidnfdkodoaaGreatDoor
