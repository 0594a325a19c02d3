import Derived.Test.YtcdoidnfdkodoaaGreatDoorS48
import Derived.Test.YtcdoidnfdkodoaaGreatDoorS47
namespace Go.Proofs.YtcdoidnfdkodoaaGreatDoor
open Go.RowKit
set_option linter.unusedVariables false
set_option linter.unusedSimpArgs false
set_option linter.unusedSectionVars false
def PopW (B : Nat) (g : Gs) (m : Mm) (o : On) : RdO → RsO → Prop
  | .ok v, q => WrA B (setr g 4 (popL g)) m o 4 v q
  | .bad a t, q => q = .bad 1 a t
section
variable {w : World} {G B : Nat} {g g' g1 g2 : Gs} {m m' m1 m2 : Mm}
/-! ### pop -/
set_option maxRecDepth 20000 in
theorem gpop_no (h : GuAt w G B g m) (a t : Int) (hr : RdN B g m (atO (g.r 4)) 4 a t) : Calls Tryz.prog 166 #[mp G] w fun e w' => e = .panicked (fltP a t) ∧ Below w.heap.size w w' := by
  have hA := Lib.hid (fun W => at_any (g.r 4) W)
  have hW := Lib.hid (fun W (hW : GuAt W G B g m) => gread_no hW (atO (g.r 4)) 4 a t hr)
  clear hr
  have c5 := h.c.cell (i := 5) (v := .int .u32 (g.r 4)) rfl
  go_enter Tryz.func166, Tryz.ntmps166
  go_wp2_with (first | ((with_reducible refine (hA.out _).mono ?_); rintro e w1 ⟨rfl, b1⟩; have hg1 := h.below b1) | ((with_reducible refine (hW.out _ hg1).mono ?_); rintro e w2 ⟨rfl, b2⟩))
  exact ⟨rfl, rfl, b1.trans (b2.mono b1.size)⟩
/-! ### stack: pop -/
set_option maxRecDepth 20000 in
set_option maxHeartbeats 2000000 in
theorem gstack_pop (h : GuAt w G B g m) (i : In) (hop : i.op = 29) (r : RdO) (q : RsO) (hB : RdA B g m (atO (g.r 4)) 4 r) (hq : PopW B g m i.A r q) : Calls Tryz.prog 123 #[mp G, inV i] w (Aft G B w q) := by
  cases r with
  | bad a t =>
    subst hq
    have qR := Lib.hid (fun W (hW : GuAt W G B g m) => gpop_no hW a t hB)
    clear hB
    have b0 := (Below.refl w.heap.size w).alloc (Nat.le_refl _) (.cells (in16 i) 33)
    have kI := Blk.new w 33 (in16 i)
    have hg := h.below b0
    have nG := Lib.hid (show G < w.heap.size from h.c.lt)
    have nB := Lib.hid (show B < w.heap.size from h.p.lt)
    have c0 := kI.cell (i := 0) (v := .int .i64 i.op) rfl
    rw [hop] at c0
    go_enter Tryz.func123, Tryz.ntmps123
    go_upto_region 3 with fail
    generalize w.alloc (.cells (in16 i) 33) = W0 at *
    have kk := Lib.hid (show ∀ x ∈ [(w.heap.size, 33, in16 i)], Blk W0 x.1 x.2.1 x.2.2 from List.forall_mem_cons.2 ⟨kI, fun x hx => by cases hx⟩)
    clear kI c0
    refine wp_region_inv (F := ?_) (fun c W => c = fltQ 1 a t ∧ But [G] w.heap.size w W) (fun c a' W hd hq => by obtain ⟨rfl, hb⟩ := hq; exact ⟨hd, rfl, hb⟩) [some 13, some 14, some 15, some 16, some 17, some 18] [some (mp G), some (.pointer (some ⟨w.heap.size, 2, none⟩)), some (opV i.A), some (mp G), some undef, some (.tuple #[])] (RI (GI0 w G B g m) (w.heap.size - 1) 6 4 [(w.heap.size, 33, in16 i)] []) (fun _ => 0) (by kernel_rfl) (by kernel_rfl) (fun s => ?_) (RI.start ⟨hg.drew, b0.drew⟩ (fun x hx => (kk.out x hx).drew) _) ?_ (fun s Wq h => ?_)
    rotate_left
    · simp only [vsOf, putD, Act.put, Nat.reduceAdd, List.setIfInBounds_toArray, List.set_cons_zero, List.set_cons_succ]
      rfl
    · refine AllOps.cons ?_ (AllOps.cons ?_ (AllOps.cons ?_ (AllOps.cons ?_ (AllOps.cons ?_ (AllOps.cons ?_ AllOps.nil)))))
      · refine ObOp.val (fun s => mp G) (by kernel_rfl) (fun _ => rfl) (fun s => by kernel_rfl) (fun s D w hd hcl h => ?_)
        go_simp
        try rfl
      · refine ObOp.val (fun s => .pointer (some ⟨w.heap.size, 2, none⟩)) (by kernel_rfl) (fun _ => rfl) (fun s => by kernel_rfl) (fun s D w hd hcl h => ?_)
        go_simp
        try rfl
      · refine ObOp.val (fun s => opV i.A) (by kernel_rfl) (fun _ => rfl) (fun s => by kernel_rfl) (fun s D w hd hcl h => ?_)
        exact run_load_iA (by rfl) (by rfl) (h.k _ List.mem_cons_self)
      · refine ObOp.val (fun s => mp G) (by kernel_rfl) (fun _ => rfl) (fun s => by kernel_rfl) (fun s D w hd hcl h => ?_)
        go_simp
        try rfl
      · refine ObOp.panics (166) (fun s => #[mp G]) (fun s => by kernel_rfl) (fun s D w ha h => ?_) (fun s k w hg => ?_)
        · go_simp
          try rfl
        · exact (qR.out _ hg.1).mono (fun e W h => ⟨_, h.1, rfl, (But.of hg.2 [G]).thenB hg.2.size h.2⟩)
      · exact ObOp.behind (by kernel_rfl)
    cases (show true = false from h.e)
  | ok v =>
    have qR := Lib.hid (fun W (hW : GuAt W G B g m) => gpop_yes hW v hB)
    clear hB
    cases q with
    | bad k a t =>
      obtain ⟨rfl, hW⟩ := hq
      have qW := Lib.hid (fun W (hg : GuAt W G B (setr g 4 (popL g)) m) => gwrite_no hg i.A 4 v a t hW)
      clear hW
      have b0 := (Below.refl w.heap.size w).alloc (Nat.le_refl _) (.cells (in16 i) 33)
      have kI := Blk.new w 33 (in16 i)
      have hg := h.below b0
      have nG := Lib.hid (show G < w.heap.size from h.c.lt)
      have nB := Lib.hid (show B < w.heap.size from h.p.lt)
      have c0 := kI.cell (i := 0) (v := .int .i64 i.op) rfl
      rw [hop] at c0
      go_enter Tryz.func123, Tryz.ntmps123
      go_upto_region 3 with fail
      generalize w.alloc (.cells (in16 i) 33) = W0 at *
      refine wp_region_held_drew (S := fun V => Blk V w.heap.size 33 (in16 i)) (by kernel_rfl) kI.drew (fun hH => ?_)
      replace b0 := b0.drew
      replace hg := hg.drew
      generalize W0.drew = W at *
      clear kI h c0
      refine wpAnyH_take (i := 0) (v := ?_) rfl (by kernel_rfl) (by kernel_rfl) (by kernel_rfl) (fun _ _ _ h => h) (Or.inl ⟨by kernel_rfl, ?_⟩) hH ?_
      rotate_left
      · intro W hS
        go_simp
        try rfl
      simp only [Act.put, List.setIfInBounds_toArray, List.set_cons_zero, List.set_cons_succ, List.getElem_toArray, List.getElem_cons_succ, List.getElem_cons_zero]
      refine wpAnyH_take (i := 1) (v := ?_) rfl (by kernel_rfl) (by kernel_rfl) (by kernel_rfl) (fun _ _ _ h => h) (Or.inl ⟨by kernel_rfl, ?_⟩) hH ?_
      rotate_left
      · intro W hS
        go_simp
        try rfl
      simp only [Act.put, List.setIfInBounds_toArray, List.set_cons_zero, List.set_cons_succ, List.getElem_toArray, List.getElem_cons_succ, List.getElem_cons_zero]
      refine wpAnyH_take (i := 2) (v := opV i.A) rfl (by kernel_rfl) (by kernel_rfl) (by kernel_rfl) (fun _ _ _ h => h) (Or.inl ⟨by kernel_rfl, ?_⟩) hH ?_
      · intro W hS
        exact run_load_iA (by rfl) (by rfl) hS
      simp only [Act.put, List.setIfInBounds_toArray, List.set_cons_zero, List.set_cons_succ]
      refine wpAnyH_take (i := 3) (v := ?_) rfl (by kernel_rfl) (by kernel_rfl) (by kernel_rfl) (fun _ _ _ h => h) (Or.inl ⟨by kernel_rfl, ?_⟩) hH ?_
      rotate_left
      · intro W hS
        go_simp
        try rfl
      simp only [Act.put, List.setIfInBounds_toArray, List.set_cons_zero, List.set_cons_succ, List.getElem_toArray, List.getElem_cons_succ, List.getElem_cons_zero]
      refine wpAnyH_ready (rs := [4]) (by kernel_rfl) (by simp) ?_
      refine AllReadyH.cons rfl (fun K hK => ?_) AllReadyH.nil
      go_simp
      with_reducible refine (qR.out _ hg).mono ?_
      rintro e w2 ⟨rfl, hg2, b2⟩
      have hH2 := hH.but b2 hH.lt (by have := nG.out; simp; omega)
      have b3 := (But.of b0 [G]).thenW b0.size b2 (fun k hk => .inl hk)
      refine hK.out _ _ hH2 (fun _ => ?_)
      clear hK K
      try simp only [Act.put, List.setIfInBounds_toArray, List.set_cons_zero, List.set_cons_succ]
      refine wpAnyH_ready (rs := [5]) (by kernel_rfl) (by simp) ?_
      refine AllReadyH.cons rfl (fun K hK => ?_) AllReadyH.nil
      go_simp
      with_reducible refine (qW.out _ hg2).mono ?_
      rintro e w3 ⟨rfl, b4⟩
      exact ⟨rfl, rfl, b3.thenB b3.size b4⟩
    | ok g' m' =>
      have qW := Lib.hid (fun W (hg : GuAt W G B (setr g 4 (popL g)) m) => gwrite_yes hg i.A 4 v g' m' hq)
      clear hq
      have b0 := (Below.refl w.heap.size w).alloc (Nat.le_refl _) (.cells (in16 i) 33)
      have kI := Blk.new w 33 (in16 i)
      have hg := h.below b0
      have nG := Lib.hid (show G < w.heap.size from h.c.lt)
      have nB := Lib.hid (show B < w.heap.size from h.p.lt)
      have c0 := kI.cell (i := 0) (v := .int .i64 i.op) rfl
      rw [hop] at c0
      go_enter Tryz.func123, Tryz.ntmps123
      go_upto_region 3 with fail
      generalize w.alloc (.cells (in16 i) 33) = W0 at *
      refine wp_region_held_drew (S := fun V => Blk V w.heap.size 33 (in16 i)) (by kernel_rfl) kI.drew (fun hH => ?_)
      replace b0 := b0.drew
      replace hg := hg.drew
      generalize W0.drew = W at *
      clear kI h c0
      refine wpAnyH_take (i := 0) (v := ?_) rfl (by kernel_rfl) (by kernel_rfl) (by kernel_rfl) (fun _ _ _ h => h) (Or.inl ⟨by kernel_rfl, ?_⟩) hH ?_
      rotate_left
      · intro W hS
        go_simp
        try rfl
      simp only [Act.put, List.setIfInBounds_toArray, List.set_cons_zero, List.set_cons_succ, List.getElem_toArray, List.getElem_cons_succ, List.getElem_cons_zero]
      refine wpAnyH_take (i := 1) (v := ?_) rfl (by kernel_rfl) (by kernel_rfl) (by kernel_rfl) (fun _ _ _ h => h) (Or.inl ⟨by kernel_rfl, ?_⟩) hH ?_
      rotate_left
      · intro W hS
        go_simp
        try rfl
      simp only [Act.put, List.setIfInBounds_toArray, List.set_cons_zero, List.set_cons_succ, List.getElem_toArray, List.getElem_cons_succ, List.getElem_cons_zero]
      refine wpAnyH_take (i := 2) (v := opV i.A) rfl (by kernel_rfl) (by kernel_rfl) (by kernel_rfl) (fun _ _ _ h => h) (Or.inl ⟨by kernel_rfl, ?_⟩) hH ?_
      · intro W hS
        exact run_load_iA (by rfl) (by rfl) hS
      simp only [Act.put, List.setIfInBounds_toArray, List.set_cons_zero, List.set_cons_succ]
      refine wpAnyH_take (i := 3) (v := ?_) rfl (by kernel_rfl) (by kernel_rfl) (by kernel_rfl) (fun _ _ _ h => h) (Or.inl ⟨by kernel_rfl, ?_⟩) hH ?_
      rotate_left
      · intro W hS
        go_simp
        try rfl
      simp only [Act.put, List.setIfInBounds_toArray, List.set_cons_zero, List.set_cons_succ, List.getElem_toArray, List.getElem_cons_succ, List.getElem_cons_zero]
      refine wpAnyH_ready (rs := [4]) (by kernel_rfl) (by simp) ?_
      refine AllReadyH.cons rfl (fun K hK => ?_) AllReadyH.nil
      go_simp
      with_reducible refine (qR.out _ hg).mono ?_
      rintro e w2 ⟨rfl, hg2, b2⟩
      have hH2 := hH.but b2 hH.lt (by have := nG.out; simp; omega)
      have b3 := (But.of b0 [G]).thenW b0.size b2 (fun k hk => .inl hk)
      refine hK.out _ _ hH2 (fun _ => ?_)
      clear hK K
      try simp only [Act.put, List.setIfInBounds_toArray, List.set_cons_zero, List.set_cons_succ]
      refine wpAnyH_ready (rs := [5]) (by kernel_rfl) (by simp) ?_
      refine AllReadyH.cons rfl (fun K hK => ?_) AllReadyH.nil
      go_simp
      with_reducible refine (qW.out _ hg2).mono ?_
      rintro e w3 ⟨rfl, hg3, b4⟩
      have hH3 := hH2.but b4 hH2.lt (by have := nG.out; have := nB.out; simp; omega)
      have b5 := (b3.mono (S' := [G, B]) (Nat.le_refl _) (fun k hk => .inl (by simp at hk ⊢; omega))).thenW b3.size b4 (fun k hk => .inl hk)
      refine hK.out _ _ hH3 (fun _ => ?_)
      clear hK K
      try simp only [Act.put, List.setIfInBounds_toArray, List.set_cons_zero, List.set_cons_succ]
      refine wpAnyH_done (by kernel_rfl) ?_ _
      go_wp2_with fail
      exact bodyPost_end (v := .tuple #[]) (by simp [results, Tryz.results123, go_sem]) rfl ⟨rfl, hg3, b5⟩
end
end Go.Proofs.YtcdoidnfdkodoaaGreatDoor
namespace Go.Proofs.YtcdoidnfdkodoaaGreatDoor
open Go.RowKit
set_option linter.unusedVariables false
set_option linter.unusedSimpArgs false
set_option linter.unusedSectionVars false
def tgL (g : Gs) (i : In) (v : Int) : Int := if i.A.k = 2 then (g.pc + v) % 4294967296 else v
def TgA (G B : Nat) (g : Gs) (m : Mm) (i : In) : RdO → Prop
  | .ok v => ∀ W, GuAt W G B g m → Calls Tryz.prog 167 #[mp G, inV i] W fun e w' => e = .returned (.int .u32 v) ∧ Below W.heap.size W w'
  | .bad a t => ∀ W, GuAt W G B g m → Calls Tryz.prog 167 #[mp G, inV i] W fun e w' => e = .panicked (fltP a t) ∧ Below W.heap.size W w'
theorem TgA.no {G B : Nat} {g : Gs} {m : Mm} {i : In} {a t : Int} (h : TgA G B g m i (.bad a t)) : ∀ W, GuAt W G B g m → Calls Tryz.prog 167 #[mp G, inV i] W fun e w' => e = .panicked (fltP a t) ∧ Below W.heap.size W w' := h
theorem TgA.yes {G B : Nat} {g : Gs} {m : Mm} {i : In} {v : Int} (h : TgA G B g m i (.ok v)) : ∀ W, GuAt W G B g m → Calls Tryz.prog 167 #[mp G, inV i] W fun e w' => e = .returned (.int .u32 v) ∧ Below W.heap.size W w' := h
def RdO.tg (g : Gs) (i : In) : RdO → RdO
  | .ok v => .ok (tgL g i v)
  | .bad a t => .bad a t
section
variable {w : World} {G B : Nat} {g g' g1 g2 : Gs} {m m' m1 m2 : Mm}
set_option maxRecDepth 20000 in
theorem gtarget_reg (h : GuAt w G B g m) (i : In) (hk : (i.A.k == 2) = false) (v : Int) (hA : RdY B g m i.A 4 v) : Calls Tryz.prog 167 #[mp G, inV i] w fun e w' => e = .returned (.int .u32 v) ∧ Below w.heap.size w w' := by
  have qA := Lib.hid (fun W (hW : GuAt W G B g m) => gread_yes hW i.A 4 v hA)
  clear hA
  have b0 := (Below.refl w.heap.size w).alloc (Nat.le_refl _) (.cells (in16 i) 33)
  have kI := Blk.new w 33 (in16 i)
  have hg := h.below b0
  go_enter Tryz.func167, Tryz.ntmps167
  go_wp2_with (first | (with_reducible refine load_iA rfl _ rfl rfl kI ?_) | ((with_reducible refine (qA.out _ hg).mono ?_); rintro e w1 ⟨rfl, b1⟩; have hg1 := hg.below b1; have kI1 := kI.below b1 kI.lt; have c2 := kI1.cell (i := 2) (v := .int .i64 i.A.k) rfl))
  go_ret
  exact ⟨rfl, b0.trans (b1.mono b0.size)⟩
set_option maxRecDepth 20000 in
theorem gtarget_no (h : GuAt w G B g m) (i : In) (a t : Int) (hA : RdN B g m i.A 4 a t) : Calls Tryz.prog 167 #[mp G, inV i] w fun e w' => e = .panicked (fltP a t) ∧ Below w.heap.size w w' := by
  have qA := Lib.hid (fun W (hW : GuAt W G B g m) => gread_no hW i.A 4 a t hA)
  clear hA
  have b0 := (Below.refl w.heap.size w).alloc (Nat.le_refl _) (.cells (in16 i) 33)
  have kI := Blk.new w 33 (in16 i)
  have hg := h.below b0
  go_enter Tryz.func167, Tryz.ntmps167
  go_wp2_with (first | (with_reducible refine load_iA rfl _ rfl rfl kI ?_) | ((with_reducible refine (qA.out _ hg).mono ?_); rintro e w1 ⟨rfl, b1⟩))
  exact ⟨rfl, rfl, b0.trans (b1.mono b0.size)⟩
theorem gtarget_any (i : In) (r : RdO) (hA : RdA B g m i.A 4 r) : TgA G B g m i (r.tg g i) := by
  cases r with
  | bad a t => exact fun W hW => gtarget_no hW i a t hA
  | ok v =>
    intro W hW
    by_cases hk : i.A.k = 2
    · show Calls Tryz.prog 167 #[mp G, inV i] W fun e w' => e = .returned (.int .u32 (tgL g i v)) ∧ Below W.heap.size W w'
      unfold tgL
      rw [if_pos hk]
      exact gtarget_imm hW i hk v hA
    · show Calls Tryz.prog 167 #[mp G, inV i] W fun e w' => e = .returned (.int .u32 (tgL g i v)) ∧ Below W.heap.size W w'
      unfold tgL
      rw [if_neg hk]
      exact gtarget_reg hW i (by simpa using hk) v hA
def CallW (B : Nat) (g : Gs) (m : Mm) : RdO → RsO → Prop
  | .bad a t, q => q = .bad 1 a t
  | .ok v, .bad k a t => k = 1 ∧ WrN B g m (atO (topL g)) 4 g.pc a t
  | .ok v, .ok g' m' => g' = { setr g 4 (topL g) with pc := v } ∧ WrY B g m (atO (topL g)) 4 g.pc g m'
set_option maxRecDepth 20000 in
theorem gjump_call (h : GuAt w G B g m) (i : In) (hop : i.op = 30) (r : RdO) (q : RsO) (hT : TgA G B g m i r) (hq : CallW B g m r q) : Calls Tryz.prog 124 #[mp G, inV i] w (Aft G B w q) := by
  have qT := Lib.hid hT
  clear hT
  have b0 := (Below.refl w.heap.size w).alloc (Nat.le_refl _) (.cells (in16 i) 33)
  have kI := Blk.new w 33 (in16 i)
  have hg := h.below b0
  have nG := Lib.hid (show G < w.heap.size from h.c.lt)
  have nB := Lib.hid (show B < w.heap.size from h.p.lt)
  have c0 := kI.cell (i := 0) (v := .int .i64 i.op) rfl
  rw [hop] at c0
  cases r with
  | bad a t =>
    replace qT := Lib.hid qT.out.no
    subst hq
    go_enter Tryz.func124, Tryz.ntmps124
    go_wp2_with (first | (with_reducible refine load_in rfl _ rfl rfl kI ?_) | ((with_reducible refine (qT.out _ hg).mono ?_); rintro e w1 ⟨rfl, b1⟩))
    exact ⟨rfl, rfl, But.of (b0.trans (b1.mono b0.size)) _⟩
  | ok v =>
    replace qT := Lib.hid qT.out.yes
    cases q with
    | bad k a t =>
      obtain ⟨rfl, hW⟩ := hq
      have qP := Lib.hid (fun W (hW2 : GuAt W G B g m) => gpush_no hW2 g.pc a t hW)
      clear hW
      go_enter Tryz.func124, Tryz.ntmps124
      go_wp2_with (first | (with_reducible refine load_in rfl _ rfl rfl kI ?_) | ((with_reducible refine (qT.out _ hg).mono ?_); rintro e w1 ⟨rfl, b1⟩; have hg1 := hg.below b1; have c9 := hg1.c.cell (i := 9) (v := .int .u32 g.pc) rfl) | ((with_reducible refine (qP.out _ hg1).mono ?_); rintro e w2 ⟨rfl, b2⟩))
      exact ⟨rfl, rfl, But.of ((b0.trans (b1.mono b0.size)).trans (b2.mono (Nat.le_trans b0.size b1.size))) _⟩
    | ok g' m' =>
      obtain ⟨rfl, hW⟩ := hq
      have qP := Lib.hid (fun W (hW2 : GuAt W G B g m) => gpush_yes hW2 g.pc hW)
      clear hW
      go_enter Tryz.func124, Tryz.ntmps124
      go_wp2_with (first | (with_reducible refine load_in rfl _ rfl rfl kI ?_) | ((with_reducible refine (qT.out _ hg).mono ?_); rintro e w1 ⟨rfl, b1⟩; have hg1 := hg.below b1; have c9 := hg1.c.cell (i := 9) (v := .int .u32 g.pc) rfl) | ((with_reducible refine (qP.out _ hg1).mono ?_); rintro e w2 ⟨rfl, hg2, b2⟩; have c9' := hg2.c.cell (i := 9) (v := .int .u32 g.pc) rfl; have f9 := hg2.c.fr 9))
      obtain ⟨hg3, b3⟩ := hg2.pc v
      have bb := b0.trans (b1.mono b0.size)
      have b5 := ((But.of bb [G, B]).thenW bb.size b2 (fun k hk => .inl hk))
      exact bodyPost_end (v := .tuple #[]) (by simp [results, Tryz.results124, go_sem]) rfl ⟨rfl, hg3, b5.thenW b5.size b3 (fun k hk => .inl (by simp at hk ⊢; omega))⟩
def RetW (g : Gs) (m : Mm) : RdO → RsO
  | .bad a t => .bad 1 a t
  | .ok v => .ok { setr g 4 (popL g) with pc := v } m
set_option maxRecDepth 20000 in
theorem gjump_ret (h : GuAt w G B g m) (i : In) (hop : i.op = 31) (r : RdO) (hB : RdA B g m (atO (g.r 4)) 4 r) : Calls Tryz.prog 124 #[mp G, inV i] w (Aft G B w (RetW g m r)) := by
  have b0 := (Below.refl w.heap.size w).alloc (Nat.le_refl _) (.cells (in16 i) 33)
  have kI := Blk.new w 33 (in16 i)
  have hg := h.below b0
  have nG := Lib.hid (show G < w.heap.size from h.c.lt)
  have nB := Lib.hid (show B < w.heap.size from h.p.lt)
  have c0 := kI.cell (i := 0) (v := .int .i64 i.op) rfl
  rw [hop] at c0
  cases r with
  | bad a t =>
    have qP := Lib.hid (fun W (hW2 : GuAt W G B g m) => gpop_no hW2 a t hB)
    clear hB
    go_enter Tryz.func124, Tryz.ntmps124
    go_wp2_with (first | ((with_reducible refine (qP.out _ hg).mono ?_); rintro e w1 ⟨rfl, b1⟩))
    exact ⟨rfl, rfl, But.of (b0.trans (b1.mono b0.size)) _⟩
  | ok v =>
    have qP := Lib.hid (fun W (hW2 : GuAt W G B g m) => gpop_yes hW2 v hB)
    clear hB
    go_enter Tryz.func124, Tryz.ntmps124
    go_wp2_with (first | ((with_reducible refine (qP.out _ hg).mono ?_); rintro e w1 ⟨rfl, hg2, b2⟩; have c9' := hg2.c.cell (i := 9) (v := .int .u32 g.pc) rfl; have f9 := hg2.c.fr 9))
    obtain ⟨hg3, b3⟩ := hg2.pc v
    have b5 := ((But.of b0 [G, B]).thenW b0.size b2 (fun k hk => .inl (by simp at hk ⊢; omega)))
    exact bodyPost_end (v := .tuple #[]) (by simp [results, Tryz.results124, go_sem]) rfl ⟨rfl, hg3, b5.thenW b5.size b3 (fun k hk => .inl (by simp at hk ⊢; omega))⟩
end
end Go.Proofs.YtcdoidnfdkodoaaGreatDoor
namespace Go.Proofs.YtcdoidnfdkodoaaGreatDoor
open Go.RowKit
set_option linter.unusedVariables false
set_option linter.unusedSimpArgs false
set_option linter.unusedSectionVars false
section
variable {w : World} {G B : Nat} {g : Gs} {m : Mm}
set_option maxRecDepth 20000 in
theorem gdoA1 (h : GuAt w G B g m) (i : In) (hop : i.op = 1) (q : RsO) (hm : ∀ W, GuAt W G B g m → Below w.heap.size w W → Calls Tryz.prog 118 #[mp G, inV i] W (Aft G B W q)) : Calls Tryz.prog 76 #[mp G, inV i] w (Aft G B w q) := by
  have qM := Lib.hid hm
  clear hm
  have b0 := (Below.refl w.heap.size w).alloc (Nat.le_refl _) (.cells (in16 i) 33)
  have kI := Blk.new w 33 (in16 i)
  have hg := h.below b0
  have c0 := kI.cell (i := 0) (v := .int .i64 i.op) rfl
  rw [hop] at c0
  cases q with
  | ok g' m' =>
    go_enter Tryz.func76, Tryz.ntmps76
    go_wp2_with (first | (with_reducible refine load_in rfl _ rfl rfl kI ?_) | ((with_reducible refine (qM.out _ hg b0).mono ?_); rintro e w2 ⟨rfl, hg2, b2⟩))
    exact bodyPost_end (v := .tuple #[]) (by simp [results, Tryz.results76, go_sem]) rfl ⟨rfl, hg2, (But.of b0 [G, B]).trans (b2.mono (S' := [G, B]) b0.size (fun k hk => .inl hk))⟩
  | bad kk a t =>
    go_enter Tryz.func76, Tryz.ntmps76
    go_wp2_with (first | (with_reducible refine load_in rfl _ rfl rfl kI ?_) | ((with_reducible refine (qM.out _ hg b0).mono ?_); rintro e w2 ⟨rfl, b2⟩))
    exact ⟨rfl, rfl, (But.of b0 [G]).trans (b2.mono (S' := [G]) b0.size (fun k hk => .inl hk))⟩
set_option maxRecDepth 20000 in
theorem gdoA31 (h : GuAt w G B g m) (i : In) (hop : i.op = 31) (q : RsO) (hm : ∀ W, GuAt W G B g m → Below w.heap.size w W → Calls Tryz.prog 124 #[mp G, inV i] W (Aft G B W q)) : Calls Tryz.prog 76 #[mp G, inV i] w (Aft G B w q) := by
  have qM := Lib.hid hm
  clear hm
  have b0 := (Below.refl w.heap.size w).alloc (Nat.le_refl _) (.cells (in16 i) 33)
  have kI := Blk.new w 33 (in16 i)
  have hg := h.below b0
  have c0 := kI.cell (i := 0) (v := .int .i64 i.op) rfl
  rw [hop] at c0
  cases q with
  | ok g' m' =>
    go_enter Tryz.func76, Tryz.ntmps76
    go_wp2_with (first | (with_reducible refine load_in rfl _ rfl rfl kI ?_) | ((with_reducible refine (qM.out _ hg b0).mono ?_); rintro e w2 ⟨rfl, hg2, b2⟩))
    exact bodyPost_end (v := .tuple #[]) (by simp [results, Tryz.results76, go_sem]) rfl ⟨rfl, hg2, (But.of b0 [G, B]).trans (b2.mono (S' := [G, B]) b0.size (fun k hk => .inl hk))⟩
  | bad kk a t =>
    go_enter Tryz.func76, Tryz.ntmps76
    go_wp2_with (first | (with_reducible refine load_in rfl _ rfl rfl kI ?_) | ((with_reducible refine (qM.out _ hg b0).mono ?_); rintro e w2 ⟨rfl, b2⟩))
    exact ⟨rfl, rfl, (But.of b0 [G]).trans (b2.mono (S' := [G]) b0.size (fun k hk => .inl hk))⟩
end
end Go.Proofs.YtcdoidnfdkodoaaGreatDoor
namespace Go.Proofs.YtcdoidnfdkodoaaGreatDoor
open Go.RowKit
set_option linter.unusedVariables false
set_option linter.unusedSimpArgs false
set_option linter.unusedSectionVars false
section
variable {w : World} {G B : Nat} {g : Gs} {m : Mm}
set_option maxRecDepth 20000 in
theorem gdoA28 (h : GuAt w G B g m) (i : In) (hop : i.op = 28) (q : RsO) (hm : ∀ W, GuAt W G B g m → Below w.heap.size w W → Calls Tryz.prog 123 #[mp G, inV i] W (Aft G B W q)) : Calls Tryz.prog 76 #[mp G, inV i] w (Aft G B w q) := by
  have qM := Lib.hid hm
  clear hm
  have b0 := (Below.refl w.heap.size w).alloc (Nat.le_refl _) (.cells (in16 i) 33)
  have kI := Blk.new w 33 (in16 i)
  have hg := h.below b0
  have c0 := kI.cell (i := 0) (v := .int .i64 i.op) rfl
  rw [hop] at c0
  cases q with
  | ok g' m' =>
    go_enter Tryz.func76, Tryz.ntmps76
    go_wp2_with (first | (with_reducible refine load_in rfl _ rfl rfl kI ?_) | ((with_reducible refine (qM.out _ hg b0).mono ?_); rintro e w2 ⟨rfl, hg2, b2⟩))
    exact bodyPost_end (v := .tuple #[]) (by simp [results, Tryz.results76, go_sem]) rfl ⟨rfl, hg2, (But.of b0 [G, B]).trans (b2.mono (S' := [G, B]) b0.size (fun k hk => .inl hk))⟩
  | bad kk a t =>
    go_enter Tryz.func76, Tryz.ntmps76
    go_wp2_with (first | (with_reducible refine load_in rfl _ rfl rfl kI ?_) | ((with_reducible refine (qM.out _ hg b0).mono ?_); rintro e w2 ⟨rfl, b2⟩))
    exact ⟨rfl, rfl, (But.of b0 [G]).trans (b2.mono (S' := [G]) b0.size (fun k hk => .inl hk))⟩
end
end Go.Proofs.YtcdoidnfdkodoaaGreatDoor
namespace Go.Proofs.YtcdoidnfdkodoaaGreatDoor
open Go.RowKit
set_option linter.unusedVariables false
set_option linter.unusedSimpArgs false
set_option linter.unusedSectionVars false
section
variable {w : World} {G B : Nat} {g : Gs} {m : Mm}
set_option maxRecDepth 20000 in
theorem gdoA26 (h : GuAt w G B g m) (i : In) (hop : i.op = 26) (q : RsO) (hm : ∀ W, GuAt W G B g m → Below w.heap.size w W → Calls Tryz.prog 118 #[mp G, inV i] W (Aft G B W q)) : Calls Tryz.prog 76 #[mp G, inV i] w (Aft G B w q) := by
  have qM := Lib.hid hm
  clear hm
  have b0 := (Below.refl w.heap.size w).alloc (Nat.le_refl _) (.cells (in16 i) 33)
  have kI := Blk.new w 33 (in16 i)
  have hg := h.below b0
  have c0 := kI.cell (i := 0) (v := .int .i64 i.op) rfl
  rw [hop] at c0
  cases q with
  | ok g' m' =>
    go_enter Tryz.func76, Tryz.ntmps76
    go_wp2_with (first | (with_reducible refine load_in rfl _ rfl rfl kI ?_) | ((with_reducible refine (qM.out _ hg b0).mono ?_); rintro e w2 ⟨rfl, hg2, b2⟩))
    exact bodyPost_end (v := .tuple #[]) (by simp [results, Tryz.results76, go_sem]) rfl ⟨rfl, hg2, (But.of b0 [G, B]).trans (b2.mono (S' := [G, B]) b0.size (fun k hk => .inl hk))⟩
  | bad kk a t =>
    go_enter Tryz.func76, Tryz.ntmps76
    go_wp2_with (first | (with_reducible refine load_in rfl _ rfl rfl kI ?_) | ((with_reducible refine (qM.out _ hg b0).mono ?_); rintro e w2 ⟨rfl, b2⟩))
    exact ⟨rfl, rfl, (But.of b0 [G]).trans (b2.mono (S' := [G]) b0.size (fun k hk => .inl hk))⟩
set_option maxRecDepth 20000 in
theorem gdoA36 (h : GuAt w G B g m) (i : In) (hop : i.op = 36) (q : RsO) (hm : ∀ W, GuAt W G B g m → Below w.heap.size w W → Calls Tryz.prog 118 #[mp G, inV i] W (Aft G B W q)) : Calls Tryz.prog 76 #[mp G, inV i] w (Aft G B w q) := by
  have qM := Lib.hid hm
  clear hm
  have b0 := (Below.refl w.heap.size w).alloc (Nat.le_refl _) (.cells (in16 i) 33)
  have kI := Blk.new w 33 (in16 i)
  have hg := h.below b0
  have c0 := kI.cell (i := 0) (v := .int .i64 i.op) rfl
  rw [hop] at c0
  cases q with
  | ok g' m' =>
    go_enter Tryz.func76, Tryz.ntmps76
    go_wp2_with (first | (with_reducible refine load_in rfl _ rfl rfl kI ?_) | ((with_reducible refine (qM.out _ hg b0).mono ?_); rintro e w2 ⟨rfl, hg2, b2⟩))
    exact bodyPost_end (v := .tuple #[]) (by simp [results, Tryz.results76, go_sem]) rfl ⟨rfl, hg2, (But.of b0 [G, B]).trans (b2.mono (S' := [G, B]) b0.size (fun k hk => .inl hk))⟩
  | bad kk a t =>
    go_enter Tryz.func76, Tryz.ntmps76
    go_wp2_with (first | (with_reducible refine load_in rfl _ rfl rfl kI ?_) | ((with_reducible refine (qM.out _ hg b0).mono ?_); rintro e w2 ⟨rfl, b2⟩))
    exact ⟨rfl, rfl, (But.of b0 [G]).trans (b2.mono (S' := [G]) b0.size (fun k hk => .inl hk))⟩
set_option maxRecDepth 20000 in
theorem gdoA29 (h : GuAt w G B g m) (i : In) (hop : i.op = 29) (q : RsO) (hm : ∀ W, GuAt W G B g m → Below w.heap.size w W → Calls Tryz.prog 123 #[mp G, inV i] W (Aft G B W q)) : Calls Tryz.prog 76 #[mp G, inV i] w (Aft G B w q) := by
  have qM := Lib.hid hm
  clear hm
  have b0 := (Below.refl w.heap.size w).alloc (Nat.le_refl _) (.cells (in16 i) 33)
  have kI := Blk.new w 33 (in16 i)
  have hg := h.below b0
  have c0 := kI.cell (i := 0) (v := .int .i64 i.op) rfl
  rw [hop] at c0
  cases q with
  | ok g' m' =>
    go_enter Tryz.func76, Tryz.ntmps76
    go_wp2_with (first | (with_reducible refine load_in rfl _ rfl rfl kI ?_) | ((with_reducible refine (qM.out _ hg b0).mono ?_); rintro e w2 ⟨rfl, hg2, b2⟩))
    exact bodyPost_end (v := .tuple #[]) (by simp [results, Tryz.results76, go_sem]) rfl ⟨rfl, hg2, (But.of b0 [G, B]).trans (b2.mono (S' := [G, B]) b0.size (fun k hk => .inl hk))⟩
  | bad kk a t =>
    go_enter Tryz.func76, Tryz.ntmps76
    go_wp2_with (first | (with_reducible refine load_in rfl _ rfl rfl kI ?_) | ((with_reducible refine (qM.out _ hg b0).mono ?_); rintro e w2 ⟨rfl, b2⟩))
    exact ⟨rfl, rfl, (But.of b0 [G]).trans (b2.mono (S' := [G]) b0.size (fun k hk => .inl hk))⟩
end
end Go.Proofs.YtcdoidnfdkodoaaGreatDoor
namespace Go.Proofs.YtcdoidnfdkodoaaGreatDoor
open Go.RowKit
set_option linter.unusedVariables false
set_option linter.unusedSimpArgs false
set_option linter.unusedSectionVars false
section
variable {w : World} {G B : Nat} {g : Gs} {m : Mm}
set_option maxRecDepth 20000 in
theorem gdoA27 (h : GuAt w G B g m) (i : In) (hop : i.op = 27) (q : RsO) (hm : ∀ W, GuAt W G B g m → Below w.heap.size w W → Calls Tryz.prog 118 #[mp G, inV i] W (Aft G B W q)) : Calls Tryz.prog 76 #[mp G, inV i] w (Aft G B w q) := by
  have qM := Lib.hid hm
  clear hm
  have b0 := (Below.refl w.heap.size w).alloc (Nat.le_refl _) (.cells (in16 i) 33)
  have kI := Blk.new w 33 (in16 i)
  have hg := h.below b0
  have c0 := kI.cell (i := 0) (v := .int .i64 i.op) rfl
  rw [hop] at c0
  cases q with
  | ok g' m' =>
    go_enter Tryz.func76, Tryz.ntmps76
    go_wp2_with (first | (with_reducible refine load_in rfl _ rfl rfl kI ?_) | ((with_reducible refine (qM.out _ hg b0).mono ?_); rintro e w2 ⟨rfl, hg2, b2⟩))
    exact bodyPost_end (v := .tuple #[]) (by simp [results, Tryz.results76, go_sem]) rfl ⟨rfl, hg2, (But.of b0 [G, B]).trans (b2.mono (S' := [G, B]) b0.size (fun k hk => .inl hk))⟩
  | bad kk a t =>
    go_enter Tryz.func76, Tryz.ntmps76
    go_wp2_with (first | (with_reducible refine load_in rfl _ rfl rfl kI ?_) | ((with_reducible refine (qM.out _ hg b0).mono ?_); rintro e w2 ⟨rfl, b2⟩))
    exact ⟨rfl, rfl, (But.of b0 [G]).trans (b2.mono (S' := [G]) b0.size (fun k hk => .inl hk))⟩
set_option maxRecDepth 20000 in
theorem gdoA37 (h : GuAt w G B g m) (i : In) (hop : i.op = 37) (q : RsO) (hm : ∀ W, GuAt W G B g m → Below w.heap.size w W → Calls Tryz.prog 118 #[mp G, inV i] W (Aft G B W q)) : Calls Tryz.prog 76 #[mp G, inV i] w (Aft G B w q) := by
  have qM := Lib.hid hm
  clear hm
  have b0 := (Below.refl w.heap.size w).alloc (Nat.le_refl _) (.cells (in16 i) 33)
  have kI := Blk.new w 33 (in16 i)
  have hg := h.below b0
  have c0 := kI.cell (i := 0) (v := .int .i64 i.op) rfl
  rw [hop] at c0
  cases q with
  | ok g' m' =>
    go_enter Tryz.func76, Tryz.ntmps76
    go_wp2_with (first | (with_reducible refine load_in rfl _ rfl rfl kI ?_) | ((with_reducible refine (qM.out _ hg b0).mono ?_); rintro e w2 ⟨rfl, hg2, b2⟩))
    exact bodyPost_end (v := .tuple #[]) (by simp [results, Tryz.results76, go_sem]) rfl ⟨rfl, hg2, (But.of b0 [G, B]).trans (b2.mono (S' := [G, B]) b0.size (fun k hk => .inl hk))⟩
  | bad kk a t =>
    go_enter Tryz.func76, Tryz.ntmps76
    go_wp2_with (first | (with_reducible refine load_in rfl _ rfl rfl kI ?_) | ((with_reducible refine (qM.out _ hg b0).mono ?_); rintro e w2 ⟨rfl, b2⟩))
    exact ⟨rfl, rfl, (But.of b0 [G]).trans (b2.mono (S' := [G]) b0.size (fun k hk => .inl hk))⟩
set_option maxRecDepth 20000 in
theorem gdoA30 (h : GuAt w G B g m) (i : In) (hop : i.op = 30) (q : RsO) (hm : ∀ W, GuAt W G B g m → Below w.heap.size w W → Calls Tryz.prog 124 #[mp G, inV i] W (Aft G B W q)) : Calls Tryz.prog 76 #[mp G, inV i] w (Aft G B w q) := by
  have qM := Lib.hid hm
  clear hm
  have b0 := (Below.refl w.heap.size w).alloc (Nat.le_refl _) (.cells (in16 i) 33)
  have kI := Blk.new w 33 (in16 i)
  have hg := h.below b0
  have c0 := kI.cell (i := 0) (v := .int .i64 i.op) rfl
  rw [hop] at c0
  cases q with
  | ok g' m' =>
    go_enter Tryz.func76, Tryz.ntmps76
    go_wp2_with (first | (with_reducible refine load_in rfl _ rfl rfl kI ?_) | ((with_reducible refine (qM.out _ hg b0).mono ?_); rintro e w2 ⟨rfl, hg2, b2⟩))
    exact bodyPost_end (v := .tuple #[]) (by simp [results, Tryz.results76, go_sem]) rfl ⟨rfl, hg2, (But.of b0 [G, B]).trans (b2.mono (S' := [G, B]) b0.size (fun k hk => .inl hk))⟩
  | bad kk a t =>
    go_enter Tryz.func76, Tryz.ntmps76
    go_wp2_with (first | (with_reducible refine load_in rfl _ rfl rfl kI ?_) | ((with_reducible refine (qM.out _ hg b0).mono ?_); rintro e w2 ⟨rfl, b2⟩))
    exact ⟨rfl, rfl, (But.of b0 [G]).trans (b2.mono (S' := [G]) b0.size (fun k hk => .inl hk))⟩
end
end Go.Proofs.YtcdoidnfdkodoaaGreatDoor
namespace Go.Proofs.YtcdoidnfdkodoaaGreatDoor
open Go.RowKit
set_option linter.unusedVariables false
set_option linter.unusedSimpArgs false
set_option linter.unusedSectionVars false
section
variable {w : World} {G B : Nat} {g g' g1 g2 : Gs} {m m' m1 m2 : Mm}
set_option maxRecDepth 20000 in
set_option maxHeartbeats 2000000 in
theorem gexch (h : GuAt w G B g m) (i : In) (x y : Int) (hC : CanY B g m i.A) (hA : RdY B g m i.A 4 x) (hB : RdY B g m i.B 4 y) (h1 : WrY B g m i.A 4 y g1 m1) (h2 : WrY B g1 m1 i.B 4 x g2 m2) : Calls Tryz.prog 159 #[mp G, inV i] w (Aft G B w (.ok g2 m2)) := by
  have qC := Lib.hid (fun W (hW : GuAt W G B g m) => gboth_yes hW i.A hC)
  have qA := Lib.hid (fun W (hW : GuAt W G B g m) => gread_yes hW i.A 4 x hA)
  have qB := Lib.hid (fun W (hW : GuAt W G B g m) => gread_yes hW i.B 4 y hB)
  have q1 := Lib.hid (fun W (hg : GuAt W G B g m) => gwrite_yes hg i.A 4 y g1 m1 h1)
  have q2 := Lib.hid (fun W (hg : GuAt W G B g1 m1) => gwrite_yes hg i.B 4 x g2 m2 h2)
  clear hC hA hB h1 h2
  have b0 := (Below.refl w.heap.size w).alloc (Nat.le_refl _) (.cells (in16 i) 33)
  have kI := Blk.new w 33 (in16 i)
  have hg := h.below b0
  have nG := Lib.hid (show G < w.heap.size from h.c.lt)
  have nB := Lib.hid (show B < w.heap.size from h.p.lt)
  go_enter Tryz.func159, Tryz.ntmps159
  go_upto_region 2 with (first | (with_reducible refine load_iA rfl _ rfl rfl kI ?_) | ((with_reducible refine (qC.out _ hg).mono ?_); rintro e w1 ⟨rfl, b1⟩))
  replace hg := hg.below b1
  replace kI := kI.below b1 kI.lt
  replace b0 := b0.trans (b1.mono b0.size)
  clear b1
  generalize w1 = W0 at *
  have kk := Lib.hid (show ∀ x ∈ [(w.heap.size, 33, in16 i)], Blk W0 x.1 x.2.1 x.2.2 from List.forall_mem_cons.2 ⟨kI, fun x hx => by cases hx⟩)
  clear kI
  refine wp_region_inv (F := ?_) (fun _ _ => False) (fun _ _ _ _ h => h.elim) [some 10, some 11, some 12, some 13, some 14, some 15, some 16, some 17, some 4, some 5] [some (mp G), some (.pointer (some ⟨w.heap.size, 2, none⟩)), some (opV i.A), some (.int .u32 x), some (mp G), some (.pointer (some ⟨w.heap.size, 8, none⟩)), some (opV i.B), some (.int .u32 y), some (.int .u32 x), some (.int .u32 y)] (RI (GI0 w G B g m) (w.heap.size - 1) 10 10 [(w.heap.size, 33, in16 i)] []) (fun _ => 0) (by kernel_rfl) (by kernel_rfl) (fun s => ?_) (RI.start ⟨hg.drew, b0.drew⟩ (fun x hx => (kk.out x hx).drew) _) ?_ (fun s Wq h => ?_)
  rotate_left
  · simp only [vsOf, putD, Act.put, Nat.reduceAdd, List.setIfInBounds_toArray, List.set_cons_zero, List.set_cons_succ]
    rfl
  · refine AllOps.cons ?_ (AllOps.cons ?_ (AllOps.cons ?_ (AllOps.cons ?_ (AllOps.cons ?_ (AllOps.cons ?_ (AllOps.cons ?_ (AllOps.cons ?_ (AllOps.cons ?_ (AllOps.cons ?_ AllOps.nil)))))))))
    · refine ObOp.val (fun s => mp G) (by kernel_rfl) (fun _ => rfl) (fun s => by kernel_rfl) (fun s D w hd hcl h => ?_)
      go_simp
      try rfl
    · refine ObOp.val (fun s => .pointer (some ⟨w.heap.size, 2, none⟩)) (by kernel_rfl) (fun _ => rfl) (fun s => by kernel_rfl) (fun s D w hd hcl h => ?_)
      go_simp
      try rfl
    · refine ObOp.val (fun s => opV i.A) (by kernel_rfl) (fun _ => rfl) (fun s => by kernel_rfl) (fun s D w hd hcl h => ?_)
      exact run_load_iA (by rfl) (by rfl) (h.k _ List.mem_cons_self)
    · refine ObOp.calls (gi0_ok nG.out nB.out) (fun s => .int .u32 x) (154) (fun s => #[mp G, opV i.A, .int .i64 4]) (by kernel_rfl) (fun _ => rfl) (fun s => by kernel_rfl) (fun s D w ha h => ?_) (fun s D w hd hcl h => ?_)
      · go_simp
        try rfl
      · exact qA.out _ h.g.1
    · refine ObOp.val (fun s => mp G) (by kernel_rfl) (fun _ => rfl) (fun s => by kernel_rfl) (fun s D w hd hcl h => ?_)
      go_simp
      try rfl
    · refine ObOp.val (fun s => .pointer (some ⟨w.heap.size, 8, none⟩)) (by kernel_rfl) (fun _ => rfl) (fun s => by kernel_rfl) (fun s D w hd hcl h => ?_)
      go_simp
      try rfl
    · refine ObOp.val (fun s => opV i.B) (by kernel_rfl) (fun _ => rfl) (fun s => by kernel_rfl) (fun s D w hd hcl h => ?_)
      exact run_load_iB (by rfl) (by rfl) (h.k _ List.mem_cons_self)
    · refine ObOp.calls (gi0_ok nG.out nB.out) (fun s => .int .u32 y) (154) (fun s => #[mp G, opV i.B, .int .i64 4]) (by kernel_rfl) (fun _ => rfl) (fun s => by kernel_rfl) (fun s D w ha h => ?_) (fun s D w hd hcl h => ?_)
      · go_simp
        try rfl
      · exact qB.out _ h.g.1
    · refine ObOp.val (fun s => .int .u32 x) (by kernel_rfl) (fun _ => rfl) (fun s => by kernel_rfl) (fun s D w hd hcl h => ?_)
      go_simp
      try rfl
    · refine ObOp.val (fun s => .int .u32 y) (by kernel_rfl) (fun _ => rfl) (fun s => by kernel_rfl) (fun s D w hd hcl h => ?_)
      go_simp
      try rfl
  have hg1 : GuAt Wq G B g m := h.g.1
  have bb : But [G, B] w.heap.size w Wq := But.of h.g.2 _
  have kI : Blk Wq w.heap.size 33 (in16 i) := h.k _ List.mem_cons_self
  clear h hg b0 kk s
  have nI := kI.lt
  go_upto_region 4 with (first | (with_reducible refine load_iA rfl _ rfl rfl kI ?_) | ((with_reducible refine (q1.out _ hg1).mono ?_); rintro e w3 ⟨rfl, hg3, b3⟩))
  have kI3 := kI.but b3 kI.lt (by have := nG.out; have := nB.out; simp; omega)
  have bb3 := bb.thenW bb.size b3 (fun k hk => .inl hk)
  go_wp2_with (first | (with_reducible refine load_iB rfl _ rfl rfl kI3 ?_) | ((with_reducible refine (q2.out _ hg3).mono ?_); rintro e w4 ⟨rfl, hg4, b4⟩))
  exact bodyPost_end (v := .tuple #[]) (by simp [results, Tryz.results159, go_sem]) rfl ⟨rfl, hg4, bb3.thenW bb3.size b4 (fun k hk => .inl hk)⟩
set_option maxRecDepth 20000 in
theorem gmv27 (h : GuAt w G B g m) (i : In) (hop : i.op = 27) (q : RsO) (hm : ∀ W, GuAt W G B g m → Calls Tryz.prog 159 #[mp G, inV i] W (Aft G B W q)) : Calls Tryz.prog 118 #[mp G, inV i] w (Aft G B w q) := by
  have qM := Lib.hid hm
  clear hm
  have b0 := (Below.refl w.heap.size w).alloc (Nat.le_refl _) (.cells (in16 i) 33)
  have kI := Blk.new w 33 (in16 i)
  have hg := h.below b0
  have nG := Lib.hid (show G < w.heap.size from h.c.lt)
  have nB := Lib.hid (show B < w.heap.size from h.p.lt)
  have c0 := kI.cell (i := 0) (v := .int .i64 i.op) rfl
  rw [hop] at c0
  cases q with
  | bad kk a t =>
    go_enter Tryz.func118, Tryz.ntmps118
    go_wp2_with (first | (with_reducible refine load_in rfl _ rfl rfl kI ?_) | ((with_reducible refine (qM.out _ hg).mono ?_); rintro e w1 ⟨rfl, b1⟩))
    exact ⟨rfl, rfl, (But.of b0 [G]).thenW b0.size b1 (fun k hk => .inl hk)⟩
  | ok g' m' =>
    go_enter Tryz.func118, Tryz.ntmps118
    go_wp2_with (first | (with_reducible refine load_in rfl _ rfl rfl kI ?_) | ((with_reducible refine (qM.out _ hg).mono ?_); rintro e w1 ⟨rfl, hg1, b1⟩))
    exact bodyPost_end (v := .tuple #[]) (by simp [results, Tryz.results118, go_sem]) rfl ⟨rfl, hg1, (But.of b0 [G, B]).thenW b0.size b1 (fun k hk => .inl hk)⟩
def PushW (B : Nat) (g : Gs) (m : Mm) : RdO → RsO → Prop
  | .bad a t, q => q = .bad 1 a t
  | .ok v, .bad k a t => k = 1 ∧ WrN B g m (atO (topL g)) 4 v a t
  | .ok v, .ok g' m' => g' = setr g 4 (topL g) ∧ WrY B g m (atO (topL g)) 4 v g m'
set_option maxRecDepth 20000 in
theorem gstack_push (h : GuAt w G B g m) (i : In) (hop : i.op = 28) (r : RdO) (q : RsO) (hA : RdA B g m i.A 4 r) (hq : PushW B g m r q) : Calls Tryz.prog 123 #[mp G, inV i] w (Aft G B w q) := by
  cases r with
  | bad a t =>
    subst hq
    have qA := Lib.hid (fun W (hW : GuAt W G B g m) => gread_no hW i.A 4 a t hA)
    clear hA
    have b0 := (Below.refl w.heap.size w).alloc (Nat.le_refl _) (.cells (in16 i) 33)
    have kI := Blk.new w 33 (in16 i)
    have hg := h.below b0
    have nG := Lib.hid (show G < w.heap.size from h.c.lt)
    have nB := Lib.hid (show B < w.heap.size from h.p.lt)
    have c0 := kI.cell (i := 0) (v := .int .i64 i.op) rfl
    rw [hop] at c0
    go_enter Tryz.func123, Tryz.ntmps123
    go_wp2_with (first | (with_reducible refine load_iA rfl _ rfl rfl kI ?_) | ((with_reducible refine (qA.out _ hg).mono ?_); rintro e w1 ⟨rfl, b1⟩))
    exact ⟨rfl, rfl, But.of (b0.trans (b1.mono b0.size)) _⟩
  | ok v =>
    cases q with
    | bad k a t =>
      obtain ⟨rfl, hW⟩ := hq
      exact (gstack_push_no h i v a t hop hA hW).mono fun e w' h => ⟨h.1, But.of h.2 _⟩
    | ok g' m' =>
      obtain ⟨rfl, hW⟩ := hq
      exact gstack_push_yes h i v hop hA hW
end
def DoA (B : Nat) (g : Gs) (m : Mm) (i : In) : RsO → Prop
  | .ok g' m' => DoY B g m i g' m'
  | .bad k a t => DoN B g m i k a t
theorem doA_of {B : Nat} {g : Gs} {m : Mm} {i : In} {q : RsO} (h : ∀ W G, GuAt W G B g m → TabsA W → Calls Tryz.prog 76 #[mp G, inV i] W (Aft G B W q)) : DoA B g m i q := by
  cases q with
  | ok g' m' => exact h
  | bad k a t => exact h
theorem DoR.of {m : Mm} {g : Gs} {i : In} {g' : Gs} {m' : Mm} (hi : isB i = true) (hl : 0 ≤ i.len ∧ i.len ≤ 15) (h : ∀ B, DoA B (goOn g i) m i (.ok g' m')) : DoR m g i g' m' := fun W B hW t => Do_yes hW t g i hi hl g' m' (h B)
theorem DoF.of {m : Mm} {g : Gs} {i : In} {k a t : Int} (hi : isB i = true) (hl : 0 ≤ i.len ∧ i.len ≤ 15) (h : ∀ B, DoA B (goOn g i) m i (.bad k a t)) : DoF m g i k g.pc a t := fun W B hW tb =>
  (Do_no hW tb g i hi hl k a t (h B)).mono fun e w' q => ⟨q.1, hW.below q.2 hW.lt, But.of q.2 _⟩
end Go.Proofs.YtcdoidnfdkodoaaGreatDoor
