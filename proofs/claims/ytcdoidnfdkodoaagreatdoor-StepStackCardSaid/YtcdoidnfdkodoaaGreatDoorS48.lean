import Derived.Test.YtcdoidnfdkodoaaGreatDoorS45
import Derived.Test.YtcdoidnfdkodoaaGreatDoorS46
namespace Go.Proofs.YtcdoidnfdkodoaaGreatDoor
open Go.RowKit
set_option linter.unusedVariables false
set_option linter.unusedSimpArgs false
set_option linter.unusedSectionVars false
inductive RdO where
  | ok (v : Int)
  | bad (a t : Int)
inductive RsO where
  | ok (g : Gs) (m : Mm)
  | bad (k a t : Int)
def RdA (B : Nat) (g : Gs) (m : Mm) (o : On) (n : Int) : RdO → Prop
  | .ok v => RdY B g m o n v
  | .bad a t => RdN B g m o n a t
def WrA (B : Nat) (g : Gs) (m : Mm) (o : On) (n v : Int) : RsO → Prop
  | .ok g' m' => WrY B g m o n v g' m'
  | .bad k a t => k = 1 ∧ WrN B g m o n v a t
def Aft (G B : Nat) (w : World) : RsO → Ending → World → Prop
  | .ok g' m', e, w' => e = .returned (.tuple #[]) ∧ GuAt w' G B g' m' ∧ But [G, B] w.heap.size w w'
  | .bad k a t, e, w' => e = .panicked (fltQ k a t) ∧ But [G] w.heap.size w w'
def ThenW (B : Nat) (g : Gs) (m : Mm) (o : On) (n : Int) (f : Int → Int) : RdO → RsO → Prop
  | .ok v, q => WrA B g m o n (f v) q
  | .bad a t, q => q = .bad 1 a t
theorem But.thenB {S : List Nat} {n : Nat} {w W W' : World} (h : But S n w W) (hn : n ≤ W.heap.size) (k : Below W.heap.size W W') : But S n w W' := h.trans ((But.of k S).mono hn (fun k hk => .inl hk))
theorem But.thenW {S S' : List Nat} {n : Nat} {w W W' : World} (h : But S n w W) (hn : n ≤ W.heap.size) (k : But S' W.heap.size W W') (hS : ∀ k, k ∈ S' → k ∈ S ∨ n ≤ k) : But S n w W' := h.trans (k.mono hn hS)
def GI (w : World) (G B : Nat) (g g' : Gs) (m m' : Mm) : Bool → World → Prop
  | false, W => GuAt W G B g m ∧ Below w.heap.size w W
  | true, W => GuAt W G B g' m' ∧ But [G, B] w.heap.size w W
def GI0 (w : World) (G B : Nat) (g : Gs) (m : Mm) : Bool → World → Prop := fun _ W => GuAt W G B g m ∧ Below w.heap.size w W
section
variable {w : World} {G B : Nat} {g g' : Gs} {m m' : Mm}
theorem gi0_ok (hG : G < w.heap.size) (hB : B < w.heap.size) : GOk (GI0 w G B g m) (w.heap.size - 1) := by
  refine ⟨fun k W W' h b => ⟨h.1.below b, h.2.trans (b.mono h.2.size)⟩, fun k W W' M h hl b => ?_, fun k W h => ?_⟩
  · exact ⟨h.1.but b (by simp; omega) (by simp; omega), below_but h.2 b h.2.size (by simp; omega)⟩
  · have := h.2.size; omega
theorem gi_ok (hG : G < w.heap.size) (hB : B < w.heap.size) : GOk (GI w G B g g' m m') (w.heap.size - 1) := by
  refine ⟨fun k W W' h b => ?_, fun k W W' M h hl b => ?_, fun k W h => ?_⟩
  · cases k
    · exact ⟨h.1.below b, h.2.trans (b.mono h.2.size)⟩
    · exact ⟨h.1.below b, h.2.thenB h.2.size b⟩
  · have h1 : B ∉ [M] := by simp; omega
    have h2 : G ∉ [M] := by simp; omega
    cases k
    · exact ⟨h.1.but b h1 h2, below_but h.2 b h.2.size (by simp; omega)⟩
    · exact ⟨h.1.but b h1 h2, h.2.thenW h.2.size b (by simp; omega)⟩
  · cases k
    · have := h.2.size; omega
    · have := h.2.size; omega
end
section
variable {w : World} {G B : Nat} {g g' : Gs} {m m' : Mm}
set_option maxRecDepth 20000 in
set_option maxHeartbeats 2000000 in
theorem gmv1 (h : GuAt w G B g m) (i : In) (hop : i.op = 1) (r : RdO) (q : RsO) (hB : RdA B g m i.B 4 r) (hq : ThenW B g m i.A 4 (fun v => v) r q) : Calls Tryz.prog 118 #[mp G, inV i] w (Aft G B w q) := by
  cases r with
  | bad a t =>
    subst hq
    have qR := Lib.hid (fun W (hW : GuAt W G B g m) => gread_no hW i.B 4 a t hB)
    clear hB
    have b0 := (Below.refl w.heap.size w).alloc (Nat.le_refl _) (.cells (in16 i) 33)
    have kI := Blk.new w 33 (in16 i)
    have hg := h.below b0
    have nG := Lib.hid (show G < w.heap.size from h.c.lt)
    have nB := Lib.hid (show B < w.heap.size from h.p.lt)
    have c0 := kI.cell (i := 0) (v := .int .i64 i.op) rfl
    rw [hop] at c0
    go_enter Tryz.func118, Tryz.ntmps118
    go_upto_region 3 with fail
    generalize w.alloc (.cells (in16 i) 33) = W0 at *
    have kk := Lib.hid (show ∀ x ∈ [(w.heap.size, 33, in16 i)], Blk W0 x.1 x.2.1 x.2.2 from List.forall_mem_cons.2 ⟨kI, fun x hx => by cases hx⟩)
    clear kI c0
    refine wp_region_inv (F := ?_) (fun c W => c = fltQ 1 a t ∧ But [G] w.heap.size w W) (fun c a' W hd hq => by obtain ⟨rfl, hb⟩ := hq; exact ⟨hd, rfl, hb⟩) [some 8, some 9, some 10, some 11, some 12, some 13, some 14, some 15] [some (mp G), some (.pointer (some ⟨w.heap.size, 2, none⟩)), some (opV i.A), some (mp G), some (.pointer (some ⟨w.heap.size, 8, none⟩)), some (opV i.B), some undef, some (.tuple #[])] (RI (GI0 w G B g m) (w.heap.size - 1) 8 6 [(w.heap.size, 33, in16 i)] []) (fun _ => 0) (by kernel_rfl) (by kernel_rfl) (fun s => ?_) (RI.start ⟨hg.drew, b0.drew⟩ (fun x hx => (kk.out x hx).drew) _) ?_ (fun s Wq h => ?_)
    rotate_left
    · simp only [vsOf, putD, Act.put, Nat.reduceAdd, List.setIfInBounds_toArray, List.set_cons_zero, List.set_cons_succ]
      rfl
    · refine AllOps.cons ?_ (AllOps.cons ?_ (AllOps.cons ?_ (AllOps.cons ?_ (AllOps.cons ?_ (AllOps.cons ?_ (AllOps.cons ?_ (AllOps.cons ?_ AllOps.nil)))))))
      · refine ObOp.val (fun s => mp G) (by kernel_rfl) (fun _ => rfl) (fun s => by kernel_rfl) (fun s D w hd hcl h => ?_)
        go_simp
        try rfl
      · refine ObOp.val (fun s => .pointer (some ⟨w.heap.size, 2, none⟩)) (by kernel_rfl) (fun _ => rfl) (fun s => by kernel_rfl) (fun s D w hd hcl h => ?_)
        go_simp
        try rfl
      · refine ObOp.val (fun s => opV i.A) (by kernel_rfl) (fun _ => rfl) (fun s => by kernel_rfl) (fun s D w hd hcl h => ?_)
        exact run_load_iA (by rfl) (by rfl) (h.k _ List.mem_cons_self)
      · refine ObOp.val (fun s => mp G) (by kernel_rfl) (fun _ => rfl) (fun s => by kernel_rfl) (fun s D w hd hcl h => ?_)
        go_simp
        try rfl
      · refine ObOp.val (fun s => .pointer (some ⟨w.heap.size, 8, none⟩)) (by kernel_rfl) (fun _ => rfl) (fun s => by kernel_rfl) (fun s D w hd hcl h => ?_)
        go_simp
        try rfl
      · refine ObOp.val (fun s => opV i.B) (by kernel_rfl) (fun _ => rfl) (fun s => by kernel_rfl) (fun s D w hd hcl h => ?_)
        exact run_load_iB (by rfl) (by rfl) (h.k _ List.mem_cons_self)
      · refine ObOp.panics (154) (fun s => #[mp G, opV i.B, .int .i64 4]) (fun s => by kernel_rfl) (fun s D w ha h => ?_) (fun s k w hg => ?_)
        · go_simp
          try rfl
        · exact (qR.out _ hg.1).mono (fun e W h => ⟨_, h.1, rfl, (But.of hg.2 [G]).thenB hg.2.size h.2⟩)
      · exact ObOp.behind (by kernel_rfl)
    cases (show true = false from h.e)
  | ok v =>
    have qR := Lib.hid (fun W (hW : GuAt W G B g m) => gread_yes hW i.B 4 v hB)
    clear hB
    cases q with
    | bad k a t =>
      obtain ⟨rfl, hW⟩ := hq
      have qW := Lib.hid (fun W (hg : GuAt W G B g m) => gwrite_no hg i.A 4 v a t hW)
      clear hW
      have b0 := (Below.refl w.heap.size w).alloc (Nat.le_refl _) (.cells (in16 i) 33)
      have kI := Blk.new w 33 (in16 i)
      have hg := h.below b0
      have nG := Lib.hid (show G < w.heap.size from h.c.lt)
      have nB := Lib.hid (show B < w.heap.size from h.p.lt)
      have c0 := kI.cell (i := 0) (v := .int .i64 i.op) rfl
      rw [hop] at c0
      go_enter Tryz.func118, Tryz.ntmps118
      go_upto_region 3 with fail
      generalize w.alloc (.cells (in16 i) 33) = W0 at *
      have kk := Lib.hid (show ∀ x ∈ [(w.heap.size, 33, in16 i)], Blk W0 x.1 x.2.1 x.2.2 from List.forall_mem_cons.2 ⟨kI, fun x hx => by cases hx⟩)
      clear kI c0
      refine wp_region_inv (F := ?_) (fun c W => c = fltQ 1 a t ∧ But [G] w.heap.size w W) (fun c a' W hd hq => by obtain ⟨rfl, hb⟩ := hq; exact ⟨hd, rfl, hb⟩) [some 8, some 9, some 10, some 11, some 12, some 13, some 14, some 15] [some (mp G), some (.pointer (some ⟨w.heap.size, 2, none⟩)), some (opV i.A), some (mp G), some (.pointer (some ⟨w.heap.size, 8, none⟩)), some (opV i.B), some (.int .u32 v), some (.tuple #[])] (RI (GI0 w G B g m) (w.heap.size - 1) 8 7 [(w.heap.size, 33, in16 i)] []) (fun _ => 0) (by kernel_rfl) (by kernel_rfl) (fun s => ?_) (RI.start ⟨hg.drew, b0.drew⟩ (fun x hx => (kk.out x hx).drew) _) ?_ (fun s Wq h => ?_)
      rotate_left
      · simp only [vsOf, putD, Act.put, Nat.reduceAdd, List.setIfInBounds_toArray, List.set_cons_zero, List.set_cons_succ]
        rfl
      · refine AllOps.cons ?_ (AllOps.cons ?_ (AllOps.cons ?_ (AllOps.cons ?_ (AllOps.cons ?_ (AllOps.cons ?_ (AllOps.cons ?_ (AllOps.cons ?_ AllOps.nil)))))))
        · refine ObOp.val (fun s => mp G) (by kernel_rfl) (fun _ => rfl) (fun s => by kernel_rfl) (fun s D w hd hcl h => ?_)
          go_simp
          try rfl
        · refine ObOp.val (fun s => .pointer (some ⟨w.heap.size, 2, none⟩)) (by kernel_rfl) (fun _ => rfl) (fun s => by kernel_rfl) (fun s D w hd hcl h => ?_)
          go_simp
          try rfl
        · refine ObOp.val (fun s => opV i.A) (by kernel_rfl) (fun _ => rfl) (fun s => by kernel_rfl) (fun s D w hd hcl h => ?_)
          exact run_load_iA (by rfl) (by rfl) (h.k _ List.mem_cons_self)
        · refine ObOp.val (fun s => mp G) (by kernel_rfl) (fun _ => rfl) (fun s => by kernel_rfl) (fun s D w hd hcl h => ?_)
          go_simp
          try rfl
        · refine ObOp.val (fun s => .pointer (some ⟨w.heap.size, 8, none⟩)) (by kernel_rfl) (fun _ => rfl) (fun s => by kernel_rfl) (fun s D w hd hcl h => ?_)
          go_simp
          try rfl
        · refine ObOp.val (fun s => opV i.B) (by kernel_rfl) (fun _ => rfl) (fun s => by kernel_rfl) (fun s D w hd hcl h => ?_)
          exact run_load_iB (by rfl) (by rfl) (h.k _ List.mem_cons_self)
        · refine ObOp.calls (gi0_ok nG.out nB.out) (fun s => .int .u32 v) (154) (fun s => #[mp G, opV i.B, .int .i64 4]) (by kernel_rfl) (fun _ => rfl) (fun s => by kernel_rfl) (fun s D w ha h => ?_) (fun s D w hd hcl h => ?_)
          · go_simp
            try rfl
          · exact qR.out _ h.g.1
        · refine ObOp.panics (153) (fun s => #[mp G, opV i.A, .int .i64 4, .int .u32 v]) (fun s => by kernel_rfl) (fun s D w ha h => ?_) (fun s k w hg => ?_)
          · go_simp
            try rfl
          · exact (qW.out _ hg.1).mono (fun e W h => ⟨_, h.1, rfl, (But.of hg.2 [G]).thenB hg.2.size h.2⟩)
      cases (show true = false from h.e)
    | ok g' m' =>
      have qW := Lib.hid (fun W (hg : GuAt W G B g m) => gwrite_yes hg i.A 4 v g' m' hq)
      clear hq
      have b0 := (Below.refl w.heap.size w).alloc (Nat.le_refl _) (.cells (in16 i) 33)
      have kI := Blk.new w 33 (in16 i)
      have hg := h.below b0
      have nG := Lib.hid (show G < w.heap.size from h.c.lt)
      have nB := Lib.hid (show B < w.heap.size from h.p.lt)
      have c0 := kI.cell (i := 0) (v := .int .i64 i.op) rfl
      rw [hop] at c0
      go_enter Tryz.func118, Tryz.ntmps118
      go_upto_region 3 with fail
      generalize w.alloc (.cells (in16 i) 33) = W0 at *
      have kk := Lib.hid (show ∀ x ∈ [(w.heap.size, 33, in16 i)], Blk W0 x.1 x.2.1 x.2.2 from List.forall_mem_cons.2 ⟨kI, fun x hx => by cases hx⟩)
      clear kI c0
      refine wp_region_inv (F := ?_) (fun _ _ => False) (fun _ _ _ _ h => h.elim) [some 8, some 9, some 10, some 11, some 12, some 13, some 14, some 15] [some (mp G), some (.pointer (some ⟨w.heap.size, 2, none⟩)), some (opV i.A), some (mp G), some (.pointer (some ⟨w.heap.size, 8, none⟩)), some (opV i.B), some (.int .u32 v), some (.tuple #[])] (RI (GI w G B g g' m m') (w.heap.size - 1) 7 8 [(w.heap.size, 33, in16 i)] []) (fun _ => 0) (by kernel_rfl) (by kernel_rfl) (fun s => ?_) (RI.start ⟨hg.drew, b0.drew⟩ (fun x hx => (kk.out x hx).drew) _) ?_ (fun s Wq h => ?_)
      rotate_left
      · simp only [vsOf, putD, Act.put, Nat.reduceAdd, List.setIfInBounds_toArray, List.set_cons_zero, List.set_cons_succ]
        rfl
      · refine AllOps.cons ?_ (AllOps.cons ?_ (AllOps.cons ?_ (AllOps.cons ?_ (AllOps.cons ?_ (AllOps.cons ?_ (AllOps.cons ?_ (AllOps.cons ?_ AllOps.nil)))))))
        · refine ObOp.val (fun s => mp G) (by kernel_rfl) (fun _ => rfl) (fun s => by kernel_rfl) (fun s D w hd hcl h => ?_)
          go_simp
          try rfl
        · refine ObOp.val (fun s => .pointer (some ⟨w.heap.size, 2, none⟩)) (by kernel_rfl) (fun _ => rfl) (fun s => by kernel_rfl) (fun s D w hd hcl h => ?_)
          go_simp
          try rfl
        · refine ObOp.val (fun s => opV i.A) (by kernel_rfl) (fun _ => rfl) (fun s => by kernel_rfl) (fun s D w hd hcl h => ?_)
          exact run_load_iA (by rfl) (by rfl) (h.k _ List.mem_cons_self)
        · refine ObOp.val (fun s => mp G) (by kernel_rfl) (fun _ => rfl) (fun s => by kernel_rfl) (fun s D w hd hcl h => ?_)
          go_simp
          try rfl
        · refine ObOp.val (fun s => .pointer (some ⟨w.heap.size, 8, none⟩)) (by kernel_rfl) (fun _ => rfl) (fun s => by kernel_rfl) (fun s D w hd hcl h => ?_)
          go_simp
          try rfl
        · refine ObOp.val (fun s => opV i.B) (by kernel_rfl) (fun _ => rfl) (fun s => by kernel_rfl) (fun s D w hd hcl h => ?_)
          exact run_load_iB (by rfl) (by rfl) (h.k _ List.mem_cons_self)
        · refine ObOp.calls (gi_ok nG.out nB.out) (fun s => .int .u32 v) (154) (fun s => #[mp G, opV i.B, .int .i64 4]) (by kernel_rfl) (fun _ => rfl) (fun s => by kernel_rfl) (fun s D w ha h => ?_) (fun s D w hd hcl h => ?_)
          · go_simp
            try rfl
          · exact qR.out _ (h.gf hd hcl (by kernel_rfl)).1
        · refine ObOp.guest (Sx := [G, B]) (fun k hk => by have := nG.out; have := nB.out; simp at hk; omega) (fun s => .tuple #[]) (153) (fun s => #[mp G, opV i.A, .int .i64 4, .int .u32 v]) (by kernel_rfl) (List.forall_mem_cons.2 ⟨by have := nG.out; have := nB.out; simp; omega, fun x hx => by cases hx⟩) (fun _ => rfl) (fun s => by kernel_rfl) (fun s D w ha h => ?_) (fun s w hg => ?_)
          · go_simp
            try rfl
          · exact (qW.out _ hg.1).mono (fun e W h => ⟨h.1, ⟨h.2.1, (But.of hg.2 [G, B]).thenW hg.2.size h.2.2 (fun k hk => .inl hk)⟩, h.2.2⟩)
      go_wp2_with fail
      exact bodyPost_end (v := .tuple #[]) (by simp [results, Tryz.results118, go_sem]) rfl ⟨rfl, h.g.1, h.g.2⟩
set_option maxRecDepth 20000 in
set_option maxHeartbeats 2000000 in
theorem gmv36 (h : GuAt w G B g m) (i : In) (hop : i.op = 36) (r : RdO) (q : RsO) (hB : RdA B g m i.B 1 r) (hq : ThenW B g m i.A 4 (fun v => v) r q) : Calls Tryz.prog 118 #[mp G, inV i] w (Aft G B w q) := by
  cases r with
  | bad a t =>
    subst hq
    have qR := Lib.hid (fun W (hW : GuAt W G B g m) => gread_no hW i.B 1 a t hB)
    clear hB
    have b0 := (Below.refl w.heap.size w).alloc (Nat.le_refl _) (.cells (in16 i) 33)
    have kI := Blk.new w 33 (in16 i)
    have hg := h.below b0
    have nG := Lib.hid (show G < w.heap.size from h.c.lt)
    have nB := Lib.hid (show B < w.heap.size from h.p.lt)
    have c0 := kI.cell (i := 0) (v := .int .i64 i.op) rfl
    rw [hop] at c0
    go_enter Tryz.func118, Tryz.ntmps118
    go_upto_region 7 with fail
    generalize w.alloc (.cells (in16 i) 33) = W0 at *
    have kk := Lib.hid (show ∀ x ∈ [(w.heap.size, 33, in16 i)], Blk W0 x.1 x.2.1 x.2.2 from List.forall_mem_cons.2 ⟨kI, fun x hx => by cases hx⟩)
    clear kI c0
    refine wp_region_inv (F := ?_) (fun c W => c = fltQ 1 a t ∧ But [G] w.heap.size w W) (fun c a' W hd hq => by obtain ⟨rfl, hb⟩ := hq; exact ⟨hd, rfl, hb⟩) [some 28, some 29, some 30, some 31, some 32, some 33, some 34, some 35] [some (mp G), some (.pointer (some ⟨w.heap.size, 2, none⟩)), some (opV i.A), some (mp G), some (.pointer (some ⟨w.heap.size, 8, none⟩)), some (opV i.B), some undef, some (.tuple #[])] (RI (GI0 w G B g m) (w.heap.size - 1) 8 6 [(w.heap.size, 33, in16 i)] []) (fun _ => 0) (by kernel_rfl) (by kernel_rfl) (fun s => ?_) (RI.start ⟨hg.drew, b0.drew⟩ (fun x hx => (kk.out x hx).drew) _) ?_ (fun s Wq h => ?_)
    rotate_left
    · simp only [vsOf, putD, Act.put, Nat.reduceAdd, List.setIfInBounds_toArray, List.set_cons_zero, List.set_cons_succ]
      rfl
    · refine AllOps.cons ?_ (AllOps.cons ?_ (AllOps.cons ?_ (AllOps.cons ?_ (AllOps.cons ?_ (AllOps.cons ?_ (AllOps.cons ?_ (AllOps.cons ?_ AllOps.nil)))))))
      · refine ObOp.val (fun s => mp G) (by kernel_rfl) (fun _ => rfl) (fun s => by kernel_rfl) (fun s D w hd hcl h => ?_)
        go_simp
        try rfl
      · refine ObOp.val (fun s => .pointer (some ⟨w.heap.size, 2, none⟩)) (by kernel_rfl) (fun _ => rfl) (fun s => by kernel_rfl) (fun s D w hd hcl h => ?_)
        go_simp
        try rfl
      · refine ObOp.val (fun s => opV i.A) (by kernel_rfl) (fun _ => rfl) (fun s => by kernel_rfl) (fun s D w hd hcl h => ?_)
        exact run_load_iA (by rfl) (by rfl) (h.k _ List.mem_cons_self)
      · refine ObOp.val (fun s => mp G) (by kernel_rfl) (fun _ => rfl) (fun s => by kernel_rfl) (fun s D w hd hcl h => ?_)
        go_simp
        try rfl
      · refine ObOp.val (fun s => .pointer (some ⟨w.heap.size, 8, none⟩)) (by kernel_rfl) (fun _ => rfl) (fun s => by kernel_rfl) (fun s D w hd hcl h => ?_)
        go_simp
        try rfl
      · refine ObOp.val (fun s => opV i.B) (by kernel_rfl) (fun _ => rfl) (fun s => by kernel_rfl) (fun s D w hd hcl h => ?_)
        exact run_load_iB (by rfl) (by rfl) (h.k _ List.mem_cons_self)
      · refine ObOp.panics (154) (fun s => #[mp G, opV i.B, .int .i64 1]) (fun s => by kernel_rfl) (fun s D w ha h => ?_) (fun s k w hg => ?_)
        · go_simp
          try rfl
        · exact (qR.out _ hg.1).mono (fun e W h => ⟨_, h.1, rfl, (But.of hg.2 [G]).thenB hg.2.size h.2⟩)
      · exact ObOp.behind (by kernel_rfl)
    cases (show true = false from h.e)
  | ok v =>
    have qR := Lib.hid (fun W (hW : GuAt W G B g m) => gread_yes hW i.B 1 v hB)
    clear hB
    cases q with
    | bad k a t =>
      obtain ⟨rfl, hW⟩ := hq
      have qW := Lib.hid (fun W (hg : GuAt W G B g m) => gwrite_no hg i.A 4 v a t hW)
      clear hW
      have b0 := (Below.refl w.heap.size w).alloc (Nat.le_refl _) (.cells (in16 i) 33)
      have kI := Blk.new w 33 (in16 i)
      have hg := h.below b0
      have nG := Lib.hid (show G < w.heap.size from h.c.lt)
      have nB := Lib.hid (show B < w.heap.size from h.p.lt)
      have c0 := kI.cell (i := 0) (v := .int .i64 i.op) rfl
      rw [hop] at c0
      go_enter Tryz.func118, Tryz.ntmps118
      go_upto_region 7 with fail
      generalize w.alloc (.cells (in16 i) 33) = W0 at *
      have kk := Lib.hid (show ∀ x ∈ [(w.heap.size, 33, in16 i)], Blk W0 x.1 x.2.1 x.2.2 from List.forall_mem_cons.2 ⟨kI, fun x hx => by cases hx⟩)
      clear kI c0
      refine wp_region_inv (F := ?_) (fun c W => c = fltQ 1 a t ∧ But [G] w.heap.size w W) (fun c a' W hd hq => by obtain ⟨rfl, hb⟩ := hq; exact ⟨hd, rfl, hb⟩) [some 28, some 29, some 30, some 31, some 32, some 33, some 34, some 35] [some (mp G), some (.pointer (some ⟨w.heap.size, 2, none⟩)), some (opV i.A), some (mp G), some (.pointer (some ⟨w.heap.size, 8, none⟩)), some (opV i.B), some (.int .u32 v), some (.tuple #[])] (RI (GI0 w G B g m) (w.heap.size - 1) 8 7 [(w.heap.size, 33, in16 i)] []) (fun _ => 0) (by kernel_rfl) (by kernel_rfl) (fun s => ?_) (RI.start ⟨hg.drew, b0.drew⟩ (fun x hx => (kk.out x hx).drew) _) ?_ (fun s Wq h => ?_)
      rotate_left
      · simp only [vsOf, putD, Act.put, Nat.reduceAdd, List.setIfInBounds_toArray, List.set_cons_zero, List.set_cons_succ]
        rfl
      · refine AllOps.cons ?_ (AllOps.cons ?_ (AllOps.cons ?_ (AllOps.cons ?_ (AllOps.cons ?_ (AllOps.cons ?_ (AllOps.cons ?_ (AllOps.cons ?_ AllOps.nil)))))))
        · refine ObOp.val (fun s => mp G) (by kernel_rfl) (fun _ => rfl) (fun s => by kernel_rfl) (fun s D w hd hcl h => ?_)
          go_simp
          try rfl
        · refine ObOp.val (fun s => .pointer (some ⟨w.heap.size, 2, none⟩)) (by kernel_rfl) (fun _ => rfl) (fun s => by kernel_rfl) (fun s D w hd hcl h => ?_)
          go_simp
          try rfl
        · refine ObOp.val (fun s => opV i.A) (by kernel_rfl) (fun _ => rfl) (fun s => by kernel_rfl) (fun s D w hd hcl h => ?_)
          exact run_load_iA (by rfl) (by rfl) (h.k _ List.mem_cons_self)
        · refine ObOp.val (fun s => mp G) (by kernel_rfl) (fun _ => rfl) (fun s => by kernel_rfl) (fun s D w hd hcl h => ?_)
          go_simp
          try rfl
        · refine ObOp.val (fun s => .pointer (some ⟨w.heap.size, 8, none⟩)) (by kernel_rfl) (fun _ => rfl) (fun s => by kernel_rfl) (fun s D w hd hcl h => ?_)
          go_simp
          try rfl
        · refine ObOp.val (fun s => opV i.B) (by kernel_rfl) (fun _ => rfl) (fun s => by kernel_rfl) (fun s D w hd hcl h => ?_)
          exact run_load_iB (by rfl) (by rfl) (h.k _ List.mem_cons_self)
        · refine ObOp.calls (gi0_ok nG.out nB.out) (fun s => .int .u32 v) (154) (fun s => #[mp G, opV i.B, .int .i64 1]) (by kernel_rfl) (fun _ => rfl) (fun s => by kernel_rfl) (fun s D w ha h => ?_) (fun s D w hd hcl h => ?_)
          · go_simp
            try rfl
          · exact qR.out _ h.g.1
        · refine ObOp.panics (153) (fun s => #[mp G, opV i.A, .int .i64 4, .int .u32 v]) (fun s => by kernel_rfl) (fun s D w ha h => ?_) (fun s k w hg => ?_)
          · go_simp
            try rfl
          · exact (qW.out _ hg.1).mono (fun e W h => ⟨_, h.1, rfl, (But.of hg.2 [G]).thenB hg.2.size h.2⟩)
      cases (show true = false from h.e)
    | ok g' m' =>
      have qW := Lib.hid (fun W (hg : GuAt W G B g m) => gwrite_yes hg i.A 4 v g' m' hq)
      clear hq
      have b0 := (Below.refl w.heap.size w).alloc (Nat.le_refl _) (.cells (in16 i) 33)
      have kI := Blk.new w 33 (in16 i)
      have hg := h.below b0
      have nG := Lib.hid (show G < w.heap.size from h.c.lt)
      have nB := Lib.hid (show B < w.heap.size from h.p.lt)
      have c0 := kI.cell (i := 0) (v := .int .i64 i.op) rfl
      rw [hop] at c0
      go_enter Tryz.func118, Tryz.ntmps118
      go_upto_region 7 with fail
      generalize w.alloc (.cells (in16 i) 33) = W0 at *
      have kk := Lib.hid (show ∀ x ∈ [(w.heap.size, 33, in16 i)], Blk W0 x.1 x.2.1 x.2.2 from List.forall_mem_cons.2 ⟨kI, fun x hx => by cases hx⟩)
      clear kI c0
      refine wp_region_inv (F := ?_) (fun _ _ => False) (fun _ _ _ _ h => h.elim) [some 28, some 29, some 30, some 31, some 32, some 33, some 34, some 35] [some (mp G), some (.pointer (some ⟨w.heap.size, 2, none⟩)), some (opV i.A), some (mp G), some (.pointer (some ⟨w.heap.size, 8, none⟩)), some (opV i.B), some (.int .u32 v), some (.tuple #[])] (RI (GI w G B g g' m m') (w.heap.size - 1) 7 8 [(w.heap.size, 33, in16 i)] []) (fun _ => 0) (by kernel_rfl) (by kernel_rfl) (fun s => ?_) (RI.start ⟨hg.drew, b0.drew⟩ (fun x hx => (kk.out x hx).drew) _) ?_ (fun s Wq h => ?_)
      rotate_left
      · simp only [vsOf, putD, Act.put, Nat.reduceAdd, List.setIfInBounds_toArray, List.set_cons_zero, List.set_cons_succ]
        rfl
      · refine AllOps.cons ?_ (AllOps.cons ?_ (AllOps.cons ?_ (AllOps.cons ?_ (AllOps.cons ?_ (AllOps.cons ?_ (AllOps.cons ?_ (AllOps.cons ?_ AllOps.nil)))))))
        · refine ObOp.val (fun s => mp G) (by kernel_rfl) (fun _ => rfl) (fun s => by kernel_rfl) (fun s D w hd hcl h => ?_)
          go_simp
          try rfl
        · refine ObOp.val (fun s => .pointer (some ⟨w.heap.size, 2, none⟩)) (by kernel_rfl) (fun _ => rfl) (fun s => by kernel_rfl) (fun s D w hd hcl h => ?_)
          go_simp
          try rfl
        · refine ObOp.val (fun s => opV i.A) (by kernel_rfl) (fun _ => rfl) (fun s => by kernel_rfl) (fun s D w hd hcl h => ?_)
          exact run_load_iA (by rfl) (by rfl) (h.k _ List.mem_cons_self)
        · refine ObOp.val (fun s => mp G) (by kernel_rfl) (fun _ => rfl) (fun s => by kernel_rfl) (fun s D w hd hcl h => ?_)
          go_simp
          try rfl
        · refine ObOp.val (fun s => .pointer (some ⟨w.heap.size, 8, none⟩)) (by kernel_rfl) (fun _ => rfl) (fun s => by kernel_rfl) (fun s D w hd hcl h => ?_)
          go_simp
          try rfl
        · refine ObOp.val (fun s => opV i.B) (by kernel_rfl) (fun _ => rfl) (fun s => by kernel_rfl) (fun s D w hd hcl h => ?_)
          exact run_load_iB (by rfl) (by rfl) (h.k _ List.mem_cons_self)
        · refine ObOp.calls (gi_ok nG.out nB.out) (fun s => .int .u32 v) (154) (fun s => #[mp G, opV i.B, .int .i64 1]) (by kernel_rfl) (fun _ => rfl) (fun s => by kernel_rfl) (fun s D w ha h => ?_) (fun s D w hd hcl h => ?_)
          · go_simp
            try rfl
          · exact qR.out _ (h.gf hd hcl (by kernel_rfl)).1
        · refine ObOp.guest (Sx := [G, B]) (fun k hk => by have := nG.out; have := nB.out; simp at hk; omega) (fun s => .tuple #[]) (153) (fun s => #[mp G, opV i.A, .int .i64 4, .int .u32 v]) (by kernel_rfl) (List.forall_mem_cons.2 ⟨by have := nG.out; have := nB.out; simp; omega, fun x hx => by cases hx⟩) (fun _ => rfl) (fun s => by kernel_rfl) (fun s D w ha h => ?_) (fun s w hg => ?_)
          · go_simp
            try rfl
          · exact (qW.out _ hg.1).mono (fun e W h => ⟨h.1, ⟨h.2.1, (But.of hg.2 [G, B]).thenW hg.2.size h.2.2 (fun k hk => .inl hk)⟩, h.2.2⟩)
      go_wp2_with fail
      exact bodyPost_end (v := .tuple #[]) (by simp [results, Tryz.results118, go_sem]) rfl ⟨rfl, h.g.1, h.g.2⟩
set_option maxRecDepth 20000 in
set_option maxHeartbeats 2000000 in
theorem gmv37 (h : GuAt w G B g m) (i : In) (hop : i.op = 37) (r : RdO) (q : RsO) (hB : RdA B g m i.B 1 r) (hq : ThenW B g m i.A 4 (fun v => IntKind.i8.wrap v % 4294967296) r q) : Calls Tryz.prog 118 #[mp G, inV i] w (Aft G B w q) := by
  cases r with
  | bad a t =>
    subst hq
    have qR := Lib.hid (fun W (hW : GuAt W G B g m) => gread_no hW i.B 1 a t hB)
    clear hB
    have b0 := (Below.refl w.heap.size w).alloc (Nat.le_refl _) (.cells (in16 i) 33)
    have kI := Blk.new w 33 (in16 i)
    have hg := h.below b0
    have nG := Lib.hid (show G < w.heap.size from h.c.lt)
    have nB := Lib.hid (show B < w.heap.size from h.p.lt)
    have c0 := kI.cell (i := 0) (v := .int .i64 i.op) rfl
    rw [hop] at c0
    go_enter Tryz.func118, Tryz.ntmps118
    go_upto_region 9 with fail
    generalize w.alloc (.cells (in16 i) 33) = W0 at *
    have kk := Lib.hid (show ∀ x ∈ [(w.heap.size, 33, in16 i)], Blk W0 x.1 x.2.1 x.2.2 from List.forall_mem_cons.2 ⟨kI, fun x hx => by cases hx⟩)
    clear kI c0
    refine wp_region_inv (F := ?_) (fun c W => c = fltQ 1 a t ∧ But [G] w.heap.size w W) (fun c a' W hd hq => by obtain ⟨rfl, hb⟩ := hq; exact ⟨hd, rfl, hb⟩) [some 38, some 39, some 40, some 41, some 42, some 43, some 44, some 45, some 46] [some (mp G), some (.pointer (some ⟨w.heap.size, 2, none⟩)), some (opV i.A), some (mp G), some (.pointer (some ⟨w.heap.size, 8, none⟩)), some (opV i.B), some undef, some undef, some (.tuple #[])] (RI (GI0 w G B g m) (w.heap.size - 1) 9 6 [(w.heap.size, 33, in16 i)] []) (fun _ => 0) (by kernel_rfl) (by kernel_rfl) (fun s => ?_) (RI.start ⟨hg.drew, b0.drew⟩ (fun x hx => (kk.out x hx).drew) _) ?_ (fun s Wq h => ?_)
    rotate_left
    · simp only [vsOf, putD, Act.put, Nat.reduceAdd, List.setIfInBounds_toArray, List.set_cons_zero, List.set_cons_succ]
      rfl
    · refine AllOps.cons ?_ (AllOps.cons ?_ (AllOps.cons ?_ (AllOps.cons ?_ (AllOps.cons ?_ (AllOps.cons ?_ (AllOps.cons ?_ (AllOps.cons ?_ (AllOps.cons ?_ AllOps.nil))))))))
      · refine ObOp.val (fun s => mp G) (by kernel_rfl) (fun _ => rfl) (fun s => by kernel_rfl) (fun s D w hd hcl h => ?_)
        go_simp
        try rfl
      · refine ObOp.val (fun s => .pointer (some ⟨w.heap.size, 2, none⟩)) (by kernel_rfl) (fun _ => rfl) (fun s => by kernel_rfl) (fun s D w hd hcl h => ?_)
        go_simp
        try rfl
      · refine ObOp.val (fun s => opV i.A) (by kernel_rfl) (fun _ => rfl) (fun s => by kernel_rfl) (fun s D w hd hcl h => ?_)
        exact run_load_iA (by rfl) (by rfl) (h.k _ List.mem_cons_self)
      · refine ObOp.val (fun s => mp G) (by kernel_rfl) (fun _ => rfl) (fun s => by kernel_rfl) (fun s D w hd hcl h => ?_)
        go_simp
        try rfl
      · refine ObOp.val (fun s => .pointer (some ⟨w.heap.size, 8, none⟩)) (by kernel_rfl) (fun _ => rfl) (fun s => by kernel_rfl) (fun s D w hd hcl h => ?_)
        go_simp
        try rfl
      · refine ObOp.val (fun s => opV i.B) (by kernel_rfl) (fun _ => rfl) (fun s => by kernel_rfl) (fun s D w hd hcl h => ?_)
        exact run_load_iB (by rfl) (by rfl) (h.k _ List.mem_cons_self)
      · refine ObOp.panics (154) (fun s => #[mp G, opV i.B, .int .i64 1]) (fun s => by kernel_rfl) (fun s D w ha h => ?_) (fun s k w hg => ?_)
        · go_simp
          try rfl
        · exact (qR.out _ hg.1).mono (fun e W h => ⟨_, h.1, rfl, (But.of hg.2 [G]).thenB hg.2.size h.2⟩)
      · exact ObOp.behind (by kernel_rfl)
      · exact ObOp.behind (by kernel_rfl)
    cases (show true = false from h.e)
  | ok v =>
    have qR := Lib.hid (fun W (hW : GuAt W G B g m) => gread_yes hW i.B 1 v hB)
    clear hB
    cases q with
    | bad k a t =>
      obtain ⟨rfl, hW⟩ := hq
      have qW := Lib.hid (fun W (hg : GuAt W G B g m) => gwrite_no hg i.A 4 (IntKind.i8.wrap v % 4294967296) a t hW)
      clear hW
      have b0 := (Below.refl w.heap.size w).alloc (Nat.le_refl _) (.cells (in16 i) 33)
      have kI := Blk.new w 33 (in16 i)
      have hg := h.below b0
      have nG := Lib.hid (show G < w.heap.size from h.c.lt)
      have nB := Lib.hid (show B < w.heap.size from h.p.lt)
      have c0 := kI.cell (i := 0) (v := .int .i64 i.op) rfl
      rw [hop] at c0
      go_enter Tryz.func118, Tryz.ntmps118
      go_upto_region 9 with fail
      generalize w.alloc (.cells (in16 i) 33) = W0 at *
      have kk := Lib.hid (show ∀ x ∈ [(w.heap.size, 33, in16 i)], Blk W0 x.1 x.2.1 x.2.2 from List.forall_mem_cons.2 ⟨kI, fun x hx => by cases hx⟩)
      clear kI c0
      refine wp_region_inv (F := ?_) (fun c W => c = fltQ 1 a t ∧ But [G] w.heap.size w W) (fun c a' W hd hq => by obtain ⟨rfl, hb⟩ := hq; exact ⟨hd, rfl, hb⟩) [some 38, some 39, some 40, some 41, some 42, some 43, some 44, some 45, some 46] [some (mp G), some (.pointer (some ⟨w.heap.size, 2, none⟩)), some (opV i.A), some (mp G), some (.pointer (some ⟨w.heap.size, 8, none⟩)), some (opV i.B), some (.int .u32 v), some (.int .u32 (IntKind.i8.wrap v % 4294967296)), some (.tuple #[])] (RI (GI0 w G B g m) (w.heap.size - 1) 9 8 [(w.heap.size, 33, in16 i)] []) (fun _ => 0) (by kernel_rfl) (by kernel_rfl) (fun s => ?_) (RI.start ⟨hg.drew, b0.drew⟩ (fun x hx => (kk.out x hx).drew) _) ?_ (fun s Wq h => ?_)
      rotate_left
      · simp only [vsOf, putD, Act.put, Nat.reduceAdd, List.setIfInBounds_toArray, List.set_cons_zero, List.set_cons_succ]
        rfl
      · refine AllOps.cons ?_ (AllOps.cons ?_ (AllOps.cons ?_ (AllOps.cons ?_ (AllOps.cons ?_ (AllOps.cons ?_ (AllOps.cons ?_ (AllOps.cons ?_ (AllOps.cons ?_ AllOps.nil))))))))
        · refine ObOp.val (fun s => mp G) (by kernel_rfl) (fun _ => rfl) (fun s => by kernel_rfl) (fun s D w hd hcl h => ?_)
          go_simp
          try rfl
        · refine ObOp.val (fun s => .pointer (some ⟨w.heap.size, 2, none⟩)) (by kernel_rfl) (fun _ => rfl) (fun s => by kernel_rfl) (fun s D w hd hcl h => ?_)
          go_simp
          try rfl
        · refine ObOp.val (fun s => opV i.A) (by kernel_rfl) (fun _ => rfl) (fun s => by kernel_rfl) (fun s D w hd hcl h => ?_)
          exact run_load_iA (by rfl) (by rfl) (h.k _ List.mem_cons_self)
        · refine ObOp.val (fun s => mp G) (by kernel_rfl) (fun _ => rfl) (fun s => by kernel_rfl) (fun s D w hd hcl h => ?_)
          go_simp
          try rfl
        · refine ObOp.val (fun s => .pointer (some ⟨w.heap.size, 8, none⟩)) (by kernel_rfl) (fun _ => rfl) (fun s => by kernel_rfl) (fun s D w hd hcl h => ?_)
          go_simp
          try rfl
        · refine ObOp.val (fun s => opV i.B) (by kernel_rfl) (fun _ => rfl) (fun s => by kernel_rfl) (fun s D w hd hcl h => ?_)
          exact run_load_iB (by rfl) (by rfl) (h.k _ List.mem_cons_self)
        · refine ObOp.calls (gi0_ok nG.out nB.out) (fun s => .int .u32 v) (154) (fun s => #[mp G, opV i.B, .int .i64 1]) (by kernel_rfl) (fun _ => rfl) (fun s => by kernel_rfl) (fun s D w ha h => ?_) (fun s D w hd hcl h => ?_)
          · go_simp
            try rfl
          · exact qR.out _ h.g.1
        · refine ObOp.calls (gi0_ok nG.out nB.out) (fun s => .int .u32 (IntKind.i8.wrap v % 4294967296)) (155) (fun s => #[.int .u32 v]) (by kernel_rfl) (fun _ => rfl) (fun s => by kernel_rfl) (fun s D w ha h => ?_) (fun s D w hd hcl h => ?_)
          · go_simp
            try rfl
          · exact (sign8_any v _).mono (fun e W h => ⟨h.1, h.2 ▸ Below.refl _ _⟩)
        · refine ObOp.panics (153) (fun s => #[mp G, opV i.A, .int .i64 4, .int .u32 (IntKind.i8.wrap v % 4294967296)]) (fun s => by kernel_rfl) (fun s D w ha h => ?_) (fun s k w hg => ?_)
          · go_simp
            try rfl
          · exact (qW.out _ hg.1).mono (fun e W h => ⟨_, h.1, rfl, (But.of hg.2 [G]).thenB hg.2.size h.2⟩)
      cases (show true = false from h.e)
    | ok g' m' =>
      have qW := Lib.hid (fun W (hg : GuAt W G B g m) => gwrite_yes hg i.A 4 (IntKind.i8.wrap v % 4294967296) g' m' hq)
      clear hq
      have b0 := (Below.refl w.heap.size w).alloc (Nat.le_refl _) (.cells (in16 i) 33)
      have kI := Blk.new w 33 (in16 i)
      have hg := h.below b0
      have nG := Lib.hid (show G < w.heap.size from h.c.lt)
      have nB := Lib.hid (show B < w.heap.size from h.p.lt)
      have c0 := kI.cell (i := 0) (v := .int .i64 i.op) rfl
      rw [hop] at c0
      go_enter Tryz.func118, Tryz.ntmps118
      go_upto_region 9 with fail
      generalize w.alloc (.cells (in16 i) 33) = W0 at *
      have kk := Lib.hid (show ∀ x ∈ [(w.heap.size, 33, in16 i)], Blk W0 x.1 x.2.1 x.2.2 from List.forall_mem_cons.2 ⟨kI, fun x hx => by cases hx⟩)
      clear kI c0
      refine wp_region_inv (F := ?_) (fun _ _ => False) (fun _ _ _ _ h => h.elim) [some 38, some 39, some 40, some 41, some 42, some 43, some 44, some 45, some 46] [some (mp G), some (.pointer (some ⟨w.heap.size, 2, none⟩)), some (opV i.A), some (mp G), some (.pointer (some ⟨w.heap.size, 8, none⟩)), some (opV i.B), some (.int .u32 v), some (.int .u32 (IntKind.i8.wrap v % 4294967296)), some (.tuple #[])] (RI (GI w G B g g' m m') (w.heap.size - 1) 8 9 [(w.heap.size, 33, in16 i)] []) (fun _ => 0) (by kernel_rfl) (by kernel_rfl) (fun s => ?_) (RI.start ⟨hg.drew, b0.drew⟩ (fun x hx => (kk.out x hx).drew) _) ?_ (fun s Wq h => ?_)
      rotate_left
      · simp only [vsOf, putD, Act.put, Nat.reduceAdd, List.setIfInBounds_toArray, List.set_cons_zero, List.set_cons_succ]
        rfl
      · refine AllOps.cons ?_ (AllOps.cons ?_ (AllOps.cons ?_ (AllOps.cons ?_ (AllOps.cons ?_ (AllOps.cons ?_ (AllOps.cons ?_ (AllOps.cons ?_ (AllOps.cons ?_ AllOps.nil))))))))
        · refine ObOp.val (fun s => mp G) (by kernel_rfl) (fun _ => rfl) (fun s => by kernel_rfl) (fun s D w hd hcl h => ?_)
          go_simp
          try rfl
        · refine ObOp.val (fun s => .pointer (some ⟨w.heap.size, 2, none⟩)) (by kernel_rfl) (fun _ => rfl) (fun s => by kernel_rfl) (fun s D w hd hcl h => ?_)
          go_simp
          try rfl
        · refine ObOp.val (fun s => opV i.A) (by kernel_rfl) (fun _ => rfl) (fun s => by kernel_rfl) (fun s D w hd hcl h => ?_)
          exact run_load_iA (by rfl) (by rfl) (h.k _ List.mem_cons_self)
        · refine ObOp.val (fun s => mp G) (by kernel_rfl) (fun _ => rfl) (fun s => by kernel_rfl) (fun s D w hd hcl h => ?_)
          go_simp
          try rfl
        · refine ObOp.val (fun s => .pointer (some ⟨w.heap.size, 8, none⟩)) (by kernel_rfl) (fun _ => rfl) (fun s => by kernel_rfl) (fun s D w hd hcl h => ?_)
          go_simp
          try rfl
        · refine ObOp.val (fun s => opV i.B) (by kernel_rfl) (fun _ => rfl) (fun s => by kernel_rfl) (fun s D w hd hcl h => ?_)
          exact run_load_iB (by rfl) (by rfl) (h.k _ List.mem_cons_self)
        · refine ObOp.calls (gi_ok nG.out nB.out) (fun s => .int .u32 v) (154) (fun s => #[mp G, opV i.B, .int .i64 1]) (by kernel_rfl) (fun _ => rfl) (fun s => by kernel_rfl) (fun s D w ha h => ?_) (fun s D w hd hcl h => ?_)
          · go_simp
            try rfl
          · exact qR.out _ (h.gf hd hcl (by kernel_rfl)).1
        · refine ObOp.calls (gi_ok nG.out nB.out) (fun s => .int .u32 (IntKind.i8.wrap v % 4294967296)) (155) (fun s => #[.int .u32 v]) (by kernel_rfl) (fun _ => rfl) (fun s => by kernel_rfl) (fun s D w ha h => ?_) (fun s D w hd hcl h => ?_)
          · go_simp
            try rfl
          · exact (sign8_any v _).mono (fun e W h => ⟨h.1, h.2 ▸ Below.refl _ _⟩)
        · refine ObOp.guest (Sx := [G, B]) (fun k hk => by have := nG.out; have := nB.out; simp at hk; omega) (fun s => .tuple #[]) (153) (fun s => #[mp G, opV i.A, .int .i64 4, .int .u32 (IntKind.i8.wrap v % 4294967296)]) (by kernel_rfl) (List.forall_mem_cons.2 ⟨by have := nG.out; have := nB.out; simp; omega, fun x hx => by cases hx⟩) (fun _ => rfl) (fun s => by kernel_rfl) (fun s D w ha h => ?_) (fun s w hg => ?_)
          · go_simp
            try rfl
          · exact (qW.out _ hg.1).mono (fun e W h => ⟨h.1, ⟨h.2.1, (But.of hg.2 [G, B]).thenW hg.2.size h.2.2 (fun k hk => .inl hk)⟩, h.2.2⟩)
      go_wp2_with fail
      exact bodyPost_end (v := .tuple #[]) (by simp [results, Tryz.results118, go_sem]) rfl ⟨rfl, h.g.1, h.g.2⟩
set_option maxRecDepth 20000 in
set_option maxHeartbeats 2000000 in
theorem gmv26 (h : GuAt w G B g m) (i : In) (hop : i.op = 26) (q : RsO) (hq : WrA B g m i.A 4 (plO g i.B) q) : Calls Tryz.prog 118 #[mp G, inV i] w (Aft G B w q) := by
  cases q with
  | bad k a t =>
    obtain ⟨rfl, hW⟩ := hq
    have qW := Lib.hid (fun W (hg : GuAt W G B g m) => gwrite_no hg i.A 4 (plO g i.B) a t hW)
    clear hW
    have b0 := (Below.refl w.heap.size w).alloc (Nat.le_refl _) (.cells (in16 i) 33)
    have kI := Blk.new w 33 (in16 i)
    have hg := h.below b0
    have nG := Lib.hid (show G < w.heap.size from h.c.lt)
    have nB := Lib.hid (show B < w.heap.size from h.p.lt)
    have c0 := kI.cell (i := 0) (v := .int .i64 i.op) rfl
    rw [hop] at c0
    go_enter Tryz.func118, Tryz.ntmps118
    go_upto_region 11 with fail
    generalize w.alloc (.cells (in16 i) 33) = W0 at *
    have kk := Lib.hid (show ∀ x ∈ [(w.heap.size, 33, in16 i)], Blk W0 x.1 x.2.1 x.2.2 from List.forall_mem_cons.2 ⟨kI, fun x hx => by cases hx⟩)
    clear kI c0
    refine wp_region_inv (F := ?_) (fun c W => c = fltQ 1 a t ∧ But [G] w.heap.size w W) (fun c a' W hd hq => by obtain ⟨rfl, hb⟩ := hq; exact ⟨hd, rfl, hb⟩) [some 49, some 50, some 51, some 52, some 53, some 54, some 55, some 56, some 57, some 58, some 59] [some (mp G), some (.pointer (some ⟨w.heap.size, 2, none⟩)), some (opV i.A), some (mp G), some (mp G), some (.pointer (some ⟨G, 1, none⟩)), some (stV g), some (.pointer (some ⟨w.heap.size, 8, none⟩)), some (opV i.B), some (.int .u32 (plO g i.B)), some (.tuple #[])] (RI (GI0 w G B g m) (w.heap.size - 1) 11 10 [(w.heap.size, 33, in16 i)] []) (fun _ => 0) (by kernel_rfl) (by kernel_rfl) (fun s => ?_) (RI.start ⟨hg.drew, b0.drew⟩ (fun x hx => (kk.out x hx).drew) _) ?_ (fun s Wq h => ?_)
    rotate_left
    · simp only [vsOf, putD, Act.put, Nat.reduceAdd, List.setIfInBounds_toArray, List.set_cons_zero, List.set_cons_succ]
      rfl
    · refine AllOps.cons ?_ (AllOps.cons ?_ (AllOps.cons ?_ (AllOps.cons ?_ (AllOps.cons ?_ (AllOps.cons ?_ (AllOps.cons ?_ (AllOps.cons ?_ (AllOps.cons ?_ (AllOps.cons ?_ (AllOps.cons ?_ AllOps.nil))))))))))
      · refine ObOp.val (fun s => mp G) (by kernel_rfl) (fun _ => rfl) (fun s => by kernel_rfl) (fun s D w hd hcl h => ?_)
        go_simp
        try rfl
      · refine ObOp.val (fun s => .pointer (some ⟨w.heap.size, 2, none⟩)) (by kernel_rfl) (fun _ => rfl) (fun s => by kernel_rfl) (fun s D w hd hcl h => ?_)
        go_simp
        try rfl
      · refine ObOp.val (fun s => opV i.A) (by kernel_rfl) (fun _ => rfl) (fun s => by kernel_rfl) (fun s D w hd hcl h => ?_)
        exact run_load_iA (by rfl) (by rfl) (h.k _ List.mem_cons_self)
      · refine ObOp.val (fun s => mp G) (by kernel_rfl) (fun _ => rfl) (fun s => by kernel_rfl) (fun s D w hd hcl h => ?_)
        go_simp
        try rfl
      · refine ObOp.val (fun s => mp G) (by kernel_rfl) (fun _ => rfl) (fun s => by kernel_rfl) (fun s D w hd hcl h => ?_)
        go_simp
        try rfl
      · refine ObOp.val (fun s => .pointer (some ⟨G, 1, none⟩)) (by kernel_rfl) (fun _ => rfl) (fun s => by kernel_rfl) (fun s D w hd hcl h => ?_)
        go_simp
        try rfl
      · refine ObOp.val (fun s => stV g) (by kernel_rfl) (fun _ => rfl) (fun s => by kernel_rfl) (fun s D w hd hcl h => ?_)
        exact run_load_gst (by rfl) (by rfl) h.g.1
      · refine ObOp.val (fun s => .pointer (some ⟨w.heap.size, 8, none⟩)) (by kernel_rfl) (fun _ => rfl) (fun s => by kernel_rfl) (fun s D w hd hcl h => ?_)
        go_simp
        try rfl
      · refine ObOp.val (fun s => opV i.B) (by kernel_rfl) (fun _ => rfl) (fun s => by kernel_rfl) (fun s D w hd hcl h => ?_)
        exact run_load_iB (by rfl) (by rfl) (h.k _ List.mem_cons_self)
      · refine ObOp.calls (gi0_ok nG.out nB.out) (fun s => .int .u32 (plO g i.B)) (156) (fun s => #[stV g, opV i.B]) (by kernel_rfl) (fun _ => rfl) (fun s => by kernel_rfl) (fun s D w ha h => ?_) (fun s D w hd hcl h => ?_)
        · go_simp
          try rfl
        · exact Place_any g i.B _
      · refine ObOp.panics (153) (fun s => #[mp G, opV i.A, .int .i64 4, .int .u32 (plO g i.B)]) (fun s => by kernel_rfl) (fun s D w ha h => ?_) (fun s k w hg => ?_)
        · go_simp
          try rfl
        · exact (qW.out _ hg.1).mono (fun e W h => ⟨_, h.1, rfl, (But.of hg.2 [G]).thenB hg.2.size h.2⟩)
    cases (show true = false from h.e)
  | ok g' m' =>
    have qW := Lib.hid (fun W (hg : GuAt W G B g m) => gwrite_yes hg i.A 4 (plO g i.B) g' m' hq)
    clear hq
    have b0 := (Below.refl w.heap.size w).alloc (Nat.le_refl _) (.cells (in16 i) 33)
    have kI := Blk.new w 33 (in16 i)
    have hg := h.below b0
    have nG := Lib.hid (show G < w.heap.size from h.c.lt)
    have nB := Lib.hid (show B < w.heap.size from h.p.lt)
    have c0 := kI.cell (i := 0) (v := .int .i64 i.op) rfl
    rw [hop] at c0
    go_enter Tryz.func118, Tryz.ntmps118
    go_upto_region 11 with fail
    generalize w.alloc (.cells (in16 i) 33) = W0 at *
    have kk := Lib.hid (show ∀ x ∈ [(w.heap.size, 33, in16 i)], Blk W0 x.1 x.2.1 x.2.2 from List.forall_mem_cons.2 ⟨kI, fun x hx => by cases hx⟩)
    clear kI c0
    refine wp_region_inv (F := ?_) (fun _ _ => False) (fun _ _ _ _ h => h.elim) [some 49, some 50, some 51, some 52, some 53, some 54, some 55, some 56, some 57, some 58, some 59] [some (mp G), some (.pointer (some ⟨w.heap.size, 2, none⟩)), some (opV i.A), some (mp G), some (mp G), some (.pointer (some ⟨G, 1, none⟩)), some (stV g), some (.pointer (some ⟨w.heap.size, 8, none⟩)), some (opV i.B), some (.int .u32 (plO g i.B)), some (.tuple #[])] (RI (GI w G B g g' m m') (w.heap.size - 1) 10 11 [(w.heap.size, 33, in16 i)] []) (fun _ => 0) (by kernel_rfl) (by kernel_rfl) (fun s => ?_) (RI.start ⟨hg.drew, b0.drew⟩ (fun x hx => (kk.out x hx).drew) _) ?_ (fun s Wq h => ?_)
    rotate_left
    · simp only [vsOf, putD, Act.put, Nat.reduceAdd, List.setIfInBounds_toArray, List.set_cons_zero, List.set_cons_succ]
      rfl
    · refine AllOps.cons ?_ (AllOps.cons ?_ (AllOps.cons ?_ (AllOps.cons ?_ (AllOps.cons ?_ (AllOps.cons ?_ (AllOps.cons ?_ (AllOps.cons ?_ (AllOps.cons ?_ (AllOps.cons ?_ (AllOps.cons ?_ AllOps.nil))))))))))
      · refine ObOp.val (fun s => mp G) (by kernel_rfl) (fun _ => rfl) (fun s => by kernel_rfl) (fun s D w hd hcl h => ?_)
        go_simp
        try rfl
      · refine ObOp.val (fun s => .pointer (some ⟨w.heap.size, 2, none⟩)) (by kernel_rfl) (fun _ => rfl) (fun s => by kernel_rfl) (fun s D w hd hcl h => ?_)
        go_simp
        try rfl
      · refine ObOp.val (fun s => opV i.A) (by kernel_rfl) (fun _ => rfl) (fun s => by kernel_rfl) (fun s D w hd hcl h => ?_)
        exact run_load_iA (by rfl) (by rfl) (h.k _ List.mem_cons_self)
      · refine ObOp.val (fun s => mp G) (by kernel_rfl) (fun _ => rfl) (fun s => by kernel_rfl) (fun s D w hd hcl h => ?_)
        go_simp
        try rfl
      · refine ObOp.val (fun s => mp G) (by kernel_rfl) (fun _ => rfl) (fun s => by kernel_rfl) (fun s D w hd hcl h => ?_)
        go_simp
        try rfl
      · refine ObOp.val (fun s => .pointer (some ⟨G, 1, none⟩)) (by kernel_rfl) (fun _ => rfl) (fun s => by kernel_rfl) (fun s D w hd hcl h => ?_)
        go_simp
        try rfl
      · refine ObOp.val (fun s => stV g) (by kernel_rfl) (fun _ => rfl) (fun s => by kernel_rfl) (fun s D w hd hcl h => ?_)
        exact run_load_gst (by rfl) (by rfl) (h.gf hd hcl (by kernel_rfl)).1
      · refine ObOp.val (fun s => .pointer (some ⟨w.heap.size, 8, none⟩)) (by kernel_rfl) (fun _ => rfl) (fun s => by kernel_rfl) (fun s D w hd hcl h => ?_)
        go_simp
        try rfl
      · refine ObOp.val (fun s => opV i.B) (by kernel_rfl) (fun _ => rfl) (fun s => by kernel_rfl) (fun s D w hd hcl h => ?_)
        exact run_load_iB (by rfl) (by rfl) (h.k _ List.mem_cons_self)
      · refine ObOp.calls (gi_ok nG.out nB.out) (fun s => .int .u32 (plO g i.B)) (156) (fun s => #[stV g, opV i.B]) (by kernel_rfl) (fun _ => rfl) (fun s => by kernel_rfl) (fun s D w ha h => ?_) (fun s D w hd hcl h => ?_)
        · go_simp
          try rfl
        · exact Place_any g i.B _
      · refine ObOp.guest (Sx := [G, B]) (fun k hk => by have := nG.out; have := nB.out; simp at hk; omega) (fun s => .tuple #[]) (153) (fun s => #[mp G, opV i.A, .int .i64 4, .int .u32 (plO g i.B)]) (by kernel_rfl) (List.forall_mem_cons.2 ⟨by have := nG.out; have := nB.out; simp; omega, fun x hx => by cases hx⟩) (fun _ => rfl) (fun s => by kernel_rfl) (fun s D w ha h => ?_) (fun s w hg => ?_)
        · go_simp
          try rfl
        · exact (qW.out _ hg.1).mono (fun e W h => ⟨h.1, ⟨h.2.1, (But.of hg.2 [G, B]).thenW hg.2.size h.2.2 (fun k hk => .inl hk)⟩, h.2.2⟩)
    go_wp2_with fail
    exact bodyPost_end (v := .tuple #[]) (by simp [results, Tryz.results118, go_sem]) rfl ⟨rfl, h.g.1, h.g.2⟩
end
end Go.Proofs.YtcdoidnfdkodoaaGreatDoor
