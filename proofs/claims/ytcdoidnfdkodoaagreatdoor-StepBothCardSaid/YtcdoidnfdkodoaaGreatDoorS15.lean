import Derived.Test.YtcdoidnfdkodoaaGreatDoorS13
import Derived.Test.YtcdoidnfdkodoaaGreatDoorS14
namespace Go.Proofs.YtcdoidnfdkodoaaGreatDoor
open Go.RowKit
set_option linter.unusedVariables false
set_option linter.unusedSimpArgs false
set_option linter.unusedSectionVars false
abbrev RdY (B : Nat) (g : Gs) (m : Mm) (o : On) (n v : Int) : Prop := ∀ W, PAt W B m → Calls Tryz.prog 197 #[mp B, stV g, opV o, .int .i64 n] W fun e w' => e = .returned (.tuple #[.int .u32 v, fltV 0 0 0 0, .bool true]) ∧ Below W.heap.size W w'
abbrev RdN (B : Nat) (g : Gs) (m : Mm) (o : On) (n a t : Int) : Prop := ∀ W, PAt W B m → Calls Tryz.prog 197 #[mp B, stV g, opV o, .int .i64 n] W fun e w' => e = .returned (.tuple #[.int .u32 0, fltV 1 0 a t, .bool false]) ∧ Below W.heap.size W w'
abbrev WrY (B : Nat) (g : Gs) (m : Mm) (o : On) (n v : Int) (g' : Gs) (m' : Mm) : Prop := ∀ W, PAt W B m → Calls Tryz.prog 196 #[mp B, stV g, opV o, .int .i64 n, .int .u32 v] W fun e w' => e = .returned (.tuple #[stV g', fltV 0 0 0 0, .bool true]) ∧ PAt w' B m' ∧ But [B] W.heap.size W w'
abbrev WrN (B : Nat) (g : Gs) (m : Mm) (o : On) (n v a t : Int) : Prop := ∀ W, PAt W B m → Calls Tryz.prog 196 #[mp B, stV g, opV o, .int .i64 n, .int .u32 v] W fun e w' => e = .returned (.tuple #[stV g, fltV 1 0 a t, .bool false]) ∧ Below W.heap.size W w'
abbrev CanY (B : Nat) (g : Gs) (m : Mm) (o : On) : Prop := ∀ W, PAt W B m → Calls Tryz.prog 199 #[mp B, stV g, opV o, .int .i64 4, .int .i64 3] W fun e w' => e = .returned (.tuple #[fltV 0 0 0 0, .bool true]) ∧ Below W.heap.size W w'
theorem szI : (Tryz.prog.info? 33).map (·.size) = some 16 := by kernel_rfl
theorem in_A {w : World} {K : Nat} {i : In} (h : Blk w K 33 (in16 i)) : w.rangeAt K 2 (op6 i.A).toList := by
  intro j v hv
  have hj : j < 6 := by have := (List.getElem?_eq_some_iff.1 hv).1; simpa using this
  refine h.cell ?_
  rcases (by omega : j = 0 ∨ j = 1 ∨ j = 2 ∨ j = 3 ∨ j = 4 ∨ j = 5) with rfl | rfl | rfl | rfl | rfl | rfl <;> simpa using hv
theorem in_B {w : World} {K : Nat} {i : In} (h : Blk w K 33 (in16 i)) : w.rangeAt K 8 (op6 i.B).toList := by
  intro j v hv
  have hj : j < 6 := by have := (List.getElem?_eq_some_iff.1 hv).1; simpa using this
  refine h.cell ?_
  rcases (by omega : j = 0 ∨ j = 1 ∨ j = 2 ∨ j = 3 ∨ j = 4 ∨ j = 5) with rfl | rfl | rfl | rfl | rfl | rfl <;> simpa using hv
theorem run_load_iA {ev : Operand → Value} {o : Oper} {w : World} {x : Operand} (ho : o.op = .load 31 x) {K : Nat} {i : In} (hx : ev x = .pointer (some ⟨K, 2, none⟩)) (h : Blk w K 33 (in16 i)) :
    (execOp ev o).run Tryz.prog w = .ok (.value (opV i.A)) w := by
  have := run_load_mid (P := Tryz.prog) ho hx (op6 i.A).toList _ (in_A h) Tryz.underlying31 rfl (by kernel_rfl)
  simpa using this
theorem run_load_iB {ev : Operand → Value} {o : Oper} {w : World} {x : Operand} (ho : o.op = .load 31 x) {K : Nat} {i : In} (hx : ev x = .pointer (some ⟨K, 8, none⟩)) (h : Blk w K 33 (in16 i)) :
    (execOp ev o).run Tryz.prog w = .ok (.value (opV i.B)) w := by
  have := run_load_mid (P := Tryz.prog) ho hx (op6 i.B).toList _ (in_B h) Tryz.underlying31 rfl (by kernel_rfl)
  simpa using this
theorem run_load_in {ev : Operand → Value} {o : Oper} {w : World} {x : Operand} (ho : o.op = .load 33 x) {K : Nat} {i : In} (hx : ev x = .pointer (some ⟨K, 0, none⟩)) (h : Blk w K 33 (in16 i)) :
    (execOp ev o).run Tryz.prog w = .ok (.value (inV i)) w := run_load_row ho hx 33 _ (0, 0) _ h.h Tryz.underlying33 rfl szI
section
variable {ops : Array Oper} {rest : List Oper} {op : Oper} {a : Act} {w : World} {Q : Exit → Act → World → Prop} {K : Nat} {i : In}
theorem load_iA (hgd : op.guard = none) (x : Operand) (ho : op.op = .load 31 x) (hx : a.eval x = .pointer (some ⟨K, 2, none⟩)) (h : Blk w K 33 (in16 i))
    (k : wpList Tryz.prog ops Q rest (a.put op.dst (opV i.A)) w) : wpList Tryz.prog ops Q (op :: rest) a w :=
  wpList_load_mid hgd 31 x ho K 2 hx (op6 i.A).toList _ (in_A h) Tryz.underlying31 rfl (by kernel_rfl) (by simpa using k)
theorem load_iB (hgd : op.guard = none) (x : Operand) (ho : op.op = .load 31 x) (hx : a.eval x = .pointer (some ⟨K, 8, none⟩)) (h : Blk w K 33 (in16 i))
    (k : wpList Tryz.prog ops Q rest (a.put op.dst (opV i.B)) w) : wpList Tryz.prog ops Q (op :: rest) a w :=
  wpList_load_mid hgd 31 x ho K 8 hx (op6 i.B).toList _ (in_B h) Tryz.underlying31 rfl (by kernel_rfl) (by simpa using k)
theorem load_in (hgd : op.guard = none) (x : Operand) (ho : op.op = .load 33 x) (hx : a.eval x = .pointer (some ⟨K, 0, none⟩)) (h : Blk w K 33 (in16 i))
    (k : wpList Tryz.prog ops Q rest (a.put op.dst (inV i)) w) : wpList Tryz.prog ops Q (op :: rest) a w :=
  wpList_load_row hgd 33 x ho K hx 33 (in16 i) (0, 0) _ h.h Tryz.underlying33 rfl szI k
end
def topL (g : Gs) : Int := (g.r 4 - 4) % 4294967296
def popL (g : Gs) : Int := (g.r 4 + 4) % 4294967296
section
variable {w : World} {G B : Nat} {g g' : Gs} {m m' : Mm}
set_option maxRecDepth 8000 in
theorem gpush_yes (h : GuAt w G B g m) (v : Int) (hr : WrY B g m (atO (topL g)) 4 v g m') : Calls Tryz.prog 165 #[mp G, .int .u32 v] w fun e w' => e = .returned (.tuple #[]) ∧ GuAt w' G B (setr g 4 (topL g)) m' ∧ But [G, B] w.heap.size w w' := by
  have hA := Lib.hid (fun W => at_any (topL g) W)
  have hW := Lib.hid (fun W (hW : GuAt W G B g m) => gwrite_yes hW (atO (topL g)) 4 v g m' hr)
  have c5 := h.c.cell (i := 5) rfl
  have ht : (g.r 4 - 4) % 4294967296 = topL g := rfl
  clear hr
  go_enter Tryz.func165, Tryz.ntmps165
  go_wp2_with (first | ((with_reducible refine (hA.out _).mono ?_); rintro e w1 ⟨rfl, b1⟩; have h1 := h.below b1) | ((with_reducible refine (hW.out _ h1).mono ?_); rintro e w2 ⟨rfl, h2, b2⟩; have d5 := h2.c.cell (i := 5) rfl; have f5 := h2.c.fr 5))
  obtain ⟨h3, b3⟩ := h2.reg 4 (by decide) (topL g)
  exact bodyPost_end (v := .tuple #[]) (by simp [results, Tryz.results165, go_sem]) rfl ⟨rfl, h3, (But.of b1 _).trans ((b2.mono (S' := [G, B]) b1.size (fun k hk => .inl (by simp at hk ⊢; omega))).trans (b3.mono (S' := [G, B]) (Nat.le_trans b1.size b2.size) (fun k hk => .inl (by simp at hk ⊢; omega))))⟩
set_option maxRecDepth 8000 in
theorem gpush_no (h : GuAt w G B g m) (v a t : Int) (hr : WrN B g m (atO (topL g)) 4 v a t) : Calls Tryz.prog 165 #[mp G, .int .u32 v] w fun e w' => e = .panicked (fltP a t) ∧ Below w.heap.size w w' := by
  have hA := Lib.hid (fun W => at_any (topL g) W)
  have hW := Lib.hid (fun W (hW : GuAt W G B g m) => gwrite_no hW (atO (topL g)) 4 v a t hr)
  have c5 := h.c.cell (i := 5) rfl
  have ht : (g.r 4 - 4) % 4294967296 = topL g := rfl
  clear hr
  go_enter Tryz.func165, Tryz.ntmps165
  go_wp2_with (first | ((with_reducible refine (hA.out _).mono ?_); rintro e w1 ⟨rfl, b1⟩; have h1 := h.below b1) | ((with_reducible refine (hW.out _ h1).mono ?_); rintro e w2 ⟨rfl, b2⟩))
  exact ⟨rfl, rfl, b1.trans (b2.mono b1.size)⟩
set_option maxRecDepth 8000 in
theorem gpop_yes (h : GuAt w G B g m) (v : Int) (hr : RdY B g m (atO (g.r 4)) 4 v) : Calls Tryz.prog 166 #[mp G] w fun e w' => e = .returned (.int .u32 v) ∧ GuAt w' G B (setr g 4 (popL g)) m ∧ But [G] w.heap.size w w' := by
  have hA := Lib.hid (fun W => at_any (g.r 4) W)
  have hW := Lib.hid (fun W (hW : GuAt W G B g m) => gread_yes hW (atO (g.r 4)) 4 v hr)
  have c5 := h.c.cell (i := 5) rfl
  have ht : (g.r 4 + 4) % 4294967296 = popL g := rfl
  clear hr
  go_enter Tryz.func166, Tryz.ntmps166
  go_upto_region 2 with (first | ((with_reducible refine (hA.out _).mono ?_); rintro e w1 ⟨rfl, b1⟩; have h1 := h.below b1) | ((with_reducible refine (hW.out _ h1).mono ?_); rintro e w2 ⟨rfl, b2⟩; have h2 := h1.below b2))
  have d5 := h2.c.cell (i := 5) rfl
  have f5 := h2.c.fr 5
  have hd := h2.drew
  go_region
  obtain ⟨h3, b3⟩ := h2.reg 4 (by decide) (popL g)
  go_wp2_with fail
  go_ret
  exact ⟨rfl, h3.drew, ((But.of (b1.trans (b2.mono b1.size)) [G]).trans (b3.mono (Nat.le_trans b1.size b2.size) (fun k hk => .inl hk))).drew⟩
set_option maxRecDepth 20000 in
set_option maxHeartbeats 2000000 in
theorem greck_yes (h : GuAt w G B g m) (i : In) (a b R : Int) (f : Nat → Bool) (tabs : TabsA w) (hs : ¬ (21 ≤ i.op ∧ i.op ≤ 25)) (hA : RdY B g m i.A 4 a) (hB : RdY B g m i.B 4 b)
    (hD : ∀ W, TabsA W → Calls Tryz.prog 162 #[.int .i64 i.op, .int .u32 a, .int .u32 b, .agg #[.bool (g.f 0), .bool (g.f 1), .bool (g.f 2), .bool (g.f 3), .bool (g.f 4), .bool (g.f 5)]] W fun e w' => e = .returned (.tuple #[.int .u32 R, .agg #[.bool (f 0), .bool (f 1), .bool (f 2), .bool (f 3), .bool (f 4), .bool (f 5)]]) ∧ Below W.heap.size W w') :
    Calls Tryz.prog 120 #[mp G, inV i] w fun e w' => e = .returned (.tuple #[.int .u32 R, .agg #[.bool (f 0), .bool (f 1), .bool (f 2), .bool (f 3), .bool (f 4), .bool (f 5)]]) ∧ Below w.heap.size w w' := by
  have qA := Lib.hid (fun W (hW : GuAt W G B g m) => gread_yes hW i.A 4 a hA)
  have qB := Lib.hid (fun W (hW : GuAt W G B g m) => gread_yes hW i.B 4 b hB)
  have qD := Lib.hid hD
  clear hA hB hD
  have b0 := ((Below.refl w.heap.size w).alloc (Nat.le_refl _) (.cells (in16 i) 33)).alloc (by simp) (.cells #[.bool false, .bool false, .bool false, .bool false, .bool false, .bool false] 26)
  have kI := (Blk.new w 33 (in16 i)).alloc (.cells #[.bool false, .bool false, .bool false, .bool false, .bool false, .bool false] 26)
  have kF := Blk.new (w.alloc (.cells (in16 i) 33)) 26 #[.bool false, .bool false, .bool false, .bool false, .bool false, .bool false]
  simp only [World.size_alloc] at kF
  have hg := h.below b0
  have tb := tabs.below b0
  have nG := Lib.hid (show G < w.heap.size from h.c.lt)
  have nB := Lib.hid (show B < w.heap.size from h.p.lt)
  go_enter Tryz.func120, Tryz.ntmps120
  go_upto_region 1 with fail
  generalize (w.alloc (.cells (in16 i) 33)).alloc (.cells #[.bool false, .bool false, .bool false, .bool false, .bool false, .bool false] 26) = W0 at *
  clear h tabs
  refine wp_region_held_drew (S := fun V => GuAt V G B g m ∧ Blk V w.heap.size 33 (in16 i)) (by kernel_rfl) ⟨hg.drew, kI.drew⟩ (fun hH => ?_)
  replace kF := kF.drew
  replace tb := tb.below (Below.refl _ _).drew
  replace b0 := b0.drew
  generalize W0.drew = W at *
  clear hg kI
  refine wpAnyH_take (i := 0) (v := ?_) rfl (by kernel_rfl) (by kernel_rfl) (by kernel_rfl) (fun _ _ _ h => h) (Or.inl ⟨by kernel_rfl, ?_⟩) hH ?_
  rotate_left
  · intro W hS
    go_simp
    try rfl
  simp only [Act.put, List.setIfInBounds_toArray, List.set_cons_zero, List.set_cons_succ, List.getElem_toArray, List.getElem_cons_succ, List.getElem_cons_zero]
  refine wpAnyH_take (i := 1) (v := ?_) rfl (by kernel_rfl) (by kernel_rfl) (by kernel_rfl) (fun _ _ _ h => h) (Or.inl ⟨by kernel_rfl, ?_⟩) hH ?_
  rotate_left
  · intro W hS
    go_simp
    try rfl
  simp only [Act.put, List.setIfInBounds_toArray, List.set_cons_zero, List.set_cons_succ, List.getElem_toArray, List.getElem_cons_succ, List.getElem_cons_zero]
  refine wpAnyH_take (i := 2) (v := opV i.A) rfl (by kernel_rfl) (by kernel_rfl) (by kernel_rfl) (fun _ _ _ h => h) (Or.inl ⟨by kernel_rfl, ?_⟩) hH ?_
  · intro W hS
    exact run_load_iA (by rfl) (by rfl) hS.2
  simp only [Act.put, List.setIfInBounds_toArray, List.set_cons_zero, List.set_cons_succ]
  refine wpAnyH_take (i := 4) (v := ?_) rfl (by kernel_rfl) (by kernel_rfl) (by kernel_rfl) (fun _ _ _ h => h) (Or.inl ⟨by kernel_rfl, ?_⟩) hH ?_
  rotate_left
  · intro W hS
    go_simp
    try rfl
  simp only [Act.put, List.setIfInBounds_toArray, List.set_cons_zero, List.set_cons_succ, List.getElem_toArray, List.getElem_cons_succ, List.getElem_cons_zero]
  refine wpAnyH_take (i := 5) (v := ?_) rfl (by kernel_rfl) (by kernel_rfl) (by kernel_rfl) (fun _ _ _ h => h) (Or.inl ⟨by kernel_rfl, ?_⟩) hH ?_
  rotate_left
  · intro W hS
    go_simp
    try rfl
  simp only [Act.put, List.setIfInBounds_toArray, List.set_cons_zero, List.set_cons_succ, List.getElem_toArray, List.getElem_cons_succ, List.getElem_cons_zero]
  refine wpAnyH_take (i := 6) (v := opV i.B) rfl (by kernel_rfl) (by kernel_rfl) (by kernel_rfl) (fun _ _ _ h => h) (Or.inl ⟨by kernel_rfl, ?_⟩) hH ?_
  · intro W hS
    exact run_load_iB (by rfl) (by rfl) hS.2
  simp only [Act.put, List.setIfInBounds_toArray, List.set_cons_zero, List.set_cons_succ]
  refine wpAnyH_ready (rs := [3]) (by kernel_rfl) (by simp) ?_
  refine AllReadyH.cons rfl (fun K hK => ?_) AllReadyH.nil
  go_simp
  with_reducible refine (qA.out _ hH.1).mono ?_
  rintro e w2 ⟨rfl, b2⟩
  have hH2 := And.intro (hH.1.below b2) (hH.2.below b2 hH.2.lt)
  replace kF := kF.below b2 kF.lt
  replace tb := tb.below b2
  replace b0 := b0.trans (b2.mono b0.size)
  refine hK.out _ _ hH2 (fun _ => ?_)
  clear hK K
  try simp only [Act.put, List.setIfInBounds_toArray, List.set_cons_zero, List.set_cons_succ]
  refine wpAnyH_ready (rs := [7]) (by kernel_rfl) (by simp) ?_
  refine AllReadyH.cons rfl (fun K hK => ?_) AllReadyH.nil
  go_simp
  with_reducible refine (qB.out _ hH2.1).mono ?_
  rintro e w3 ⟨rfl, b3⟩
  have hH3 := And.intro (hH2.1.below b3) (hH2.2.below b3 hH2.2.lt)
  replace kF := kF.below b3 kF.lt
  replace tb := tb.below b3
  replace b0 := b0.trans (b3.mono b0.size)
  refine hK.out _ _ hH3 (fun _ => ?_)
  clear hK K
  try simp only [Act.put, List.setIfInBounds_toArray, List.set_cons_zero, List.set_cons_succ]
  refine wpAnyH_take (i := 8) (v := ?_) rfl (by kernel_rfl) (by kernel_rfl) (by kernel_rfl) (fun _ _ _ h => h) (Or.inl ⟨by kernel_rfl, ?_⟩) hH3 ?_
  rotate_left
  · intro W hS
    go_simp
    try rfl
  simp only [Act.put, List.setIfInBounds_toArray, List.set_cons_zero, List.set_cons_succ, List.getElem_toArray, List.getElem_cons_succ, List.getElem_cons_zero]
  refine wpAnyH_take (i := 9) (v := ?_) rfl (by kernel_rfl) (by kernel_rfl) (by kernel_rfl) (fun _ _ _ h => h) (Or.inl ⟨by kernel_rfl, ?_⟩) hH3 ?_
  rotate_left
  · intro W hS
    go_simp
    try rfl
  simp only [Act.put, List.setIfInBounds_toArray, List.set_cons_zero, List.set_cons_succ, List.getElem_toArray, List.getElem_cons_succ, List.getElem_cons_zero]
  refine wpAnyH_done (by kernel_rfl) ?_ _
  have c0 := hH3.2.cell (i := 0) (v := .int .i64 i.op) rfl
  have e21 : (i.op == 21) = false := by simp; omega
  have e22 : (i.op == 22) = false := by simp; omega
  have e23 : (i.op == 23) = false := by simp; omega
  have e24 : (i.op == 24) = false := by simp; omega
  have e25 : (i.op == 25) = false := by simp; omega
  clear hs hH hH2
  go_upto_region 9 with fail
  clear c0 e21 e22 e23 e24 e25
  obtain ⟨hg, kI⟩ := hH3
  refine wp_region_held_drew (S := fun V => GuAt V G B g m ∧ Blk V w.heap.size 33 (in16 i)) (by kernel_rfl) ⟨hg.drew, kI.drew⟩ (fun hH => ?_)
  replace kF := kF.drew
  replace tb := tb.below (Below.refl _ _).drew
  replace b0 := b0.drew
  generalize w3.drew = W3 at *
  clear hg kI
  refine wpAnyH_take (i := 0) (v := ?_) rfl (by kernel_rfl) (by kernel_rfl) (by kernel_rfl) (fun _ _ _ h => h) (Or.inl ⟨by kernel_rfl, ?_⟩) hH ?_
  rotate_left
  · intro W hS
    go_simp
    try rfl
  simp only [Act.put, List.setIfInBounds_toArray, List.set_cons_zero, List.set_cons_succ, List.getElem_toArray, List.getElem_cons_succ, List.getElem_cons_zero]
  refine wpAnyH_take (i := 1) (v := ?_) rfl (by kernel_rfl) (by kernel_rfl) (by kernel_rfl) (fun _ _ _ h => h) (Or.inl ⟨by kernel_rfl, ?_⟩) hH ?_
  rotate_left
  · intro W hS
    have c1 := hS.2.cell (i := 0) (v := .int .i64 i.op) rfl
    go_simp
    try rfl
  simp only [Act.put, List.setIfInBounds_toArray, List.set_cons_zero, List.set_cons_succ, List.getElem_toArray, List.getElem_cons_succ, List.getElem_cons_zero]
  refine wpAnyH_take (i := 2) (v := ?_) rfl (by kernel_rfl) (by kernel_rfl) (by kernel_rfl) (fun _ _ _ h => h) (Or.inl ⟨by kernel_rfl, ?_⟩) hH ?_
  rotate_left
  · intro W hS
    go_simp
    try rfl
  simp only [Act.put, List.setIfInBounds_toArray, List.set_cons_zero, List.set_cons_succ, List.getElem_toArray, List.getElem_cons_succ, List.getElem_cons_zero]
  refine wpAnyH_take (i := 3) (v := ?_) rfl (by kernel_rfl) (by kernel_rfl) (by kernel_rfl) (fun _ _ _ h => h) (Or.inl ⟨by kernel_rfl, ?_⟩) hH ?_
  rotate_left
  · intro W hS
    go_simp
    try rfl
  simp only [Act.put, List.setIfInBounds_toArray, List.set_cons_zero, List.set_cons_succ, List.getElem_toArray, List.getElem_cons_succ, List.getElem_cons_zero]
  refine wpAnyH_take (i := 4) (v := ?_) rfl (by kernel_rfl) (by kernel_rfl) (by kernel_rfl) (fun _ _ _ h => h) (Or.inl ⟨by kernel_rfl, ?_⟩) hH ?_
  rotate_left
  · intro W hS
    go_simp
    try rfl
  simp only [Act.put, List.setIfInBounds_toArray, List.set_cons_zero, List.set_cons_succ, List.getElem_toArray, List.getElem_cons_succ, List.getElem_cons_zero]
  refine wpAnyH_take (i := 5) (v := ?_) rfl (by kernel_rfl) (by kernel_rfl) (by kernel_rfl) (fun _ _ _ h => h) (Or.inl ⟨by kernel_rfl, ?_⟩) hH ?_
  rotate_left
  · intro W hS
    go_simp
    try rfl
  simp only [Act.put, List.setIfInBounds_toArray, List.set_cons_zero, List.set_cons_succ, List.getElem_toArray, List.getElem_cons_succ, List.getElem_cons_zero]
  refine wpAnyH_take (i := 6) (v := ?_) rfl (by kernel_rfl) (by kernel_rfl) (by kernel_rfl) (fun _ _ _ h => h) (Or.inl ⟨by kernel_rfl, ?_⟩) hH ?_
  rotate_left
  · intro W hS
    go_simp
    try rfl
  simp only [Act.put, List.setIfInBounds_toArray, List.set_cons_zero, List.set_cons_succ, List.getElem_toArray, List.getElem_cons_succ, List.getElem_cons_zero]
  refine wpAnyH_take (i := 7) (v := ?_) rfl (by kernel_rfl) (by kernel_rfl) (by kernel_rfl) (fun _ _ _ h => h) (Or.inl ⟨by kernel_rfl, ?_⟩) hH ?_
  rotate_left
  · intro W hS
    go_simp
    try rfl
  simp only [Act.put, List.setIfInBounds_toArray, List.set_cons_zero, List.set_cons_succ, List.getElem_toArray, List.getElem_cons_succ, List.getElem_cons_zero]
  refine wpAnyH_take (i := 8) (v := .agg #[.bool (g.f 0), .bool (g.f 1), .bool (g.f 2), .bool (g.f 3), .bool (g.f 4), .bool (g.f 5)]) rfl (by kernel_rfl) (by kernel_rfl) (by kernel_rfl) (fun _ _ _ h => h) (Or.inl ⟨by kernel_rfl, ?_⟩) hH ?_
  · intro W hS
    exact run_load_gfl (by rfl) (by rfl) hS.1
  simp only [Act.put, List.setIfInBounds_toArray, List.set_cons_zero, List.set_cons_succ]
  refine wpAnyH_ready (rs := [9]) (by kernel_rfl) (by simp) ?_
  refine AllReadyH.cons rfl (fun K hK => ?_) AllReadyH.nil
  go_simp
  with_reducible refine (qD.out _ tb).mono ?_
  rintro e w4 ⟨rfl, b4⟩
  have hH2 := And.intro (hH.1.below b4) (hH.2.below b4 hH.2.lt)
  replace kF := kF.below b4 kF.lt
  replace tb := tb.below b4
  replace b0 := b0.trans (b4.mono b0.size)
  refine hK.out _ _ hH2 (fun _ => ?_)
  clear hK K
  try simp only [Act.put, List.setIfInBounds_toArray, List.set_cons_zero, List.set_cons_succ]
  refine wpAnyH_take (i := 10) (v := ?_) rfl (by kernel_rfl) (by kernel_rfl) (by kernel_rfl) (fun _ _ _ h => h) (Or.inl ⟨by kernel_rfl, ?_⟩) hH2 ?_
  rotate_left
  · intro W hS
    go_simp
    try rfl
  simp only [Act.put, List.setIfInBounds_toArray, List.set_cons_zero, List.set_cons_succ, List.getElem_toArray, List.getElem_cons_succ, List.getElem_cons_zero]
  refine wpAnyH_take (i := 11) (v := ?_) rfl (by kernel_rfl) (by kernel_rfl) (by kernel_rfl) (fun _ _ _ h => h) (Or.inl ⟨by kernel_rfl, ?_⟩) hH2 ?_
  rotate_left
  · intro W hS
    go_simp
    try rfl
  simp only [Act.put, List.setIfInBounds_toArray, List.set_cons_zero, List.set_cons_succ, List.getElem_toArray, List.getElem_cons_succ, List.getElem_cons_zero]
  refine wpAnyH_take (i := 12) (v := ?_) rfl (by kernel_rfl) (by kernel_rfl) (by kernel_rfl) (fun _ _ _ h => h) (Or.inl ⟨by kernel_rfl, ?_⟩) hH2 ?_
  rotate_left
  · intro W hS
    go_simp
    try rfl
  simp only [Act.put, List.setIfInBounds_toArray, List.set_cons_zero, List.set_cons_succ, List.getElem_toArray, List.getElem_cons_succ, List.getElem_cons_zero]
  refine wpAnyH_ready (rs := [13]) (by kernel_rfl) (by simp) ?_
  refine AllReadyH.cons rfl (fun K hK => ?_) AllReadyH.nil
  rw [if_pos (by kernel_rfl)]
  refine wp_store_row 26 _ _ rfl (w.heap.size + 1) #[.bool (f 0), .bool (f 1), .bool (f 2), .bool (f 3), .bool (f 4), .bool (f 5)] rfl rfl 26 #[.bool false, .bool false, .bool false, .bool false, .bool false, .bool false] kF.h (by kernel_rfl) rfl (by simp [Value.oneCell']) ?_
  replace kF := kF.row #[.bool (f 0), .bool (f 1), .bool (f 2), .bool (f 3), .bool (f 4), .bool (f 5)]
  have bx := (But.refl [w.heap.size + 1] w4.heap.size w4).setRow (g := w.heap.size + 1) (by simp) #[.bool (f 0), .bool (f 1), .bool (f 2), .bool (f 3), .bool (f 4), .bool (f 5)]
  have hH3 := And.intro (hH2.1.but bx (by have := nB.out; simp; omega) (by have := nG.out; simp; omega)) (hH2.2.but bx hH2.2.lt (by simp))
  replace b0 := b0.trans (bx.below b0.size (by simp))
  refine hK.out _ _ hH3 (fun _ => ?_)
  clear hK K
  try simp only [Act.put, List.setIfInBounds_toArray, List.set_cons_zero, List.set_cons_succ, List.getElem_toArray, List.getElem_cons_succ, List.getElem_cons_zero]
  refine wpAnyH_done (by kernel_rfl) ?_ _
  have d0 := kF.cell (i := 0) rfl
  have d1 := kF.cell (i := 1) rfl
  have d2 := kF.cell (i := 2) rfl
  have d3 := kF.cell (i := 3) rfl
  have d4 := kF.cell (i := 4) rfl
  have d5 := kF.cell (i := 5) rfl
  go_wp2_with fail
  exact bodyPost_ret (v := .tuple #[.int .u32 R, .agg #[.bool (f 0), .bool (f 1), .bool (f 2), .bool (f 3), .bool (f 4), .bool (f 5)]]) (by simp [results, Tryz.results120, go_sem, d0, d1, d2, d3, d4, d5]) rfl ⟨rfl, b0⟩
end
end Go.Proofs.YtcdoidnfdkodoaaGreatDoor
