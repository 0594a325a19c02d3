import Derived.Test.YtcdoidnfdkodoaaGreatDoorS49
import Derived.Test.YtcdoidnfdkodoaaGreatDoorS41
import Derived.Test.YtcdoidnfdkodoaaGreatDoorS46
import Derived.Test.YtcdoidnfdkodoaaGreatDoorS51
import Derived.Test.YtcdoidnfdkodoaaGreatDoorS50
namespace Go.Proofs.YtcdoidnfdkodoaaGreatDoor
open Go.RowKit
set_option linter.unusedVariables false
set_option linter.unusedSimpArgs false
set_option linter.unusedSectionVars false
section
variable {w : World} {G B : Nat} {g g' : Gs} {m m' : Mm}
end
end Go.Proofs.YtcdoidnfdkodoaaGreatDoor
namespace Go.Proofs.YtcdoidnfdkodoaaGreatDoor
open Go.RowKit
set_option linter.unusedVariables false
set_option linter.unusedSimpArgs false
set_option linter.unusedSectionVars false
section
variable {w : World} {G B : Nat} {g g' : Gs} {m m' : Mm}
inductive Rk where
  | ok (R : Int) (f : Nat → Bool)
  | bad (a t : Int)
end
end Go.Proofs.YtcdoidnfdkodoaaGreatDoor
namespace Go.Proofs.YtcdoidnfdkodoaaGreatDoor
open Go.RowKit
set_option linter.unusedVariables false
set_option linter.unusedSimpArgs false
set_option linter.unusedSectionVars false
structure RJ (G : Nat → World → Prop) (dds : List Nat) (dead : Nat) (old : List (Nat × TypeId × Array Value)) (D : Nat → Bool) (w : World) : Prop where
  g : G (dds.countP D) w
  k : ∀ x ∈ old, Blk w x.1 x.2.1 x.2.2
  e : D dead = false
def offJ (dds : List Nat) (dead i : Nat) : Bool := dds.all (fun d => d != i) && dead != i
section
variable {G : Nat → World → Prop} {dds : List Nat} {dead : Nat} {old : List (Nat × TypeId × Array Value)} {D : Nat → Bool} {w w' : World} {ops : Array Oper}
theorem countP_off {i : Nat} : ∀ {l : List Nat}, (∀ d ∈ l, d ≠ i) → l.countP (fun j => j == i || D j) = l.countP D
  | [], _ => rfl
  | x :: r, h => by
    have hx : (x == i) = false := by simpa using h x (by simp)
    rw [List.countP_cons, List.countP_cons, countP_off (fun d hd => h d (by simp [hd])), hx, Bool.false_or]
theorem offJ_spec {i : Nat} (h : offJ dds dead i = true) : (∀ d ∈ dds, d ≠ i) ∧ (dead == i) = false := by
  simp only [offJ, Bool.and_eq_true, List.all_eq_true, bne_iff_ne, ne_eq] at h
  exact ⟨h.1, by simpa using h.2⟩
theorem RJ.start (g : G 0 w) (k : ∀ x ∈ old, Blk w x.1 x.2.1 x.2.2) (N : Nat → Nat) : RJ G dds dead old (fun _ => false) w :=
  ⟨by rw [show dds.countP (fun _ => false) = 0 from by simp]; exact g, k, rfl⟩
theorem RJ.pure {i : Nat} (hi : offJ dds dead i = true) (h : RJ G dds dead old D w) : RJ G dds dead old (fun j => j == i || D j) w := by
  obtain ⟨h1, h2⟩ := offJ_spec hi
  exact ⟨by rw [countP_off h1]; exact h.g, h.k, by simp only [h2, Bool.false_or]; exact h.e⟩
theorem RJ.call (ok : ∀ k w w', G k w → Below w.heap.size w w' → G k w') {i : Nat} (hi : offJ dds dead i = true) (h : RJ G dds dead old D w) (bx : Below w.heap.size w w') : RJ G dds dead old (fun j => j == i || D j) w' := by
  obtain ⟨h1, h2⟩ := offJ_spec hi
  exact ⟨by rw [countP_off h1]; exact ok _ _ _ h.g bx, fun x hx => (h.k x hx).below bx (h.k x hx).lt, by simp only [h2, Bool.false_or]; exact h.e⟩
theorem RJ.g0 {i : Nat} (h : RJ G dds dead old D w) (hd : D i = false) (hcl : Closed ops D) (hb : dds.all (fun d => waits ops i 30 d) = true) : G 0 w := by
  have h0 : dds.countP D = 0 := by
    rw [List.countP_eq_zero]
    intro d hdd hD
    have := waits_spec hcl 30 d (List.all_eq_true.1 hb d hdd) hD
    rw [hd] at this
    cases this
  have := h.g
  rwa [h0] at this
theorem RJ.done {n : Nat} (h : RJ G dds dead old (fun j => decide (j < n)) w) (hb : dds.all (fun d => decide (d < n)) = true) : G dds.length w := by
  have h0 : dds.countP (fun j => decide (j < n)) = dds.length := by
    rw [List.countP_eq_length]
    exact fun d hd => by simpa using List.all_eq_true.1 hb d hd
  have := h.g
  rwa [h0] at this
end
section
variable {Qp : List PanicEntry → World → Prop} {P : Program} {ops : Array Oper} {F : (Nat → Nat) → Act} {es : List (Option Value)}
variable {G : Nat → World → Prop} {dds : List Nat} {dead : Nat} {old : List (Nat × TypeId × Array Value)}
theorem ObJ.val {i : Nat} {o : Oper} (V : (Nat → Nat) → Value) (hi : offJ dds dead i = true) (hV : ∀ s, valOf es s i = V s) (hw : ∀ s, Region.wanted o (yielded ops (F s).tmps) = true)
    (h : ∀ s D w, D i = false → Closed ops D → RJ G dds dead old D w → (execOp (F s).eval o).run P w = .ok (.value (V s)) w) :
    ObOp Qp P ops F es (fun _ => RJ G dds dead old) i o :=
  ObOp.pure (fun s D w h => h.pure hi) hw fun s D w hd hcl ha hI => by rw [hV s]; exact h s D w hd hcl hI
theorem ObJ.calls (ok : ∀ k w w', G k w → Below w.heap.size w w' → G k w') {i : Nat} {o : Oper} (V : (Nat → Nat) → Value) (f : FuncId) (args : (Nat → Nat) → Array Value) (hi : offJ dds dead i = true) (hV : ∀ s, valOf es s i = V s)
    (hw : ∀ s, Region.wanted o (yielded ops (F s).tmps) = true)
    (he : ∀ s D w, (∀ e ∈ o.after, Region.binds .any e = true → D e.on = true) → RJ G dds dead old D w → (execOp (F s).eval o).run P w = .ok (.enter f (args s)) w)
    (h : ∀ s D w, D i = false → Closed ops D → RJ G dds dead old D w → Calls P f (args s) w fun e w' => e = .returned (V s) ∧ Below w.heap.size w w') :
    ObOp Qp P ops F es (fun _ => RJ G dds dead old) i o := by
  intro s D w hd hcl ha hI K hK
  rw [if_pos (hw s)]
  unfold Oper.wp
  rw [he s D w ha hI]
  refine (h s D w hd hcl hI).mono ?_
  rintro e w' ⟨rfl, bx⟩
  exact hK.out _ _ s (by rw [hV]) (fun _ _ => rfl) (hI.call ok hi bx)
theorem ObJ.panics {o : Oper} (f : FuncId) (args : (Nat → Nat) → Array Value)
    (hw : ∀ s, Region.wanted o (yielded ops (F s).tmps) = true) (hb : dds.all (fun d => waits ops dead 30 d) = true)
    (he : ∀ s D w, (∀ e ∈ o.after, Region.binds .any e = true → D e.on = true) → RJ G dds dead old D w → (execOp (F s).eval o).run P w = .ok (.enter f (args s)) w)
    (h : ∀ s w, G 0 w → Calls P f (args s) w fun e w' => ∃ c, e = .panicked c ∧ Qp c w') :
    ObOp Qp P ops F es (fun _ => RJ G dds dead old) dead o := by
  intro s D w hd hcl ha hI K hK
  rw [if_pos (hw s)]
  unfold Oper.wp
  rw [he s D w ha hI]
  refine (h s w (hI.g0 hd hcl hb)).mono ?_
  rintro e w' ⟨c, rfl, hq⟩
  exact hq
theorem ObJ.behind {i : Nat} {o : Oper} (haf : o.after.any (fun e => Region.binds .any e && (e.on == dead || waits ops dead 30 e.on)) = true) : ObOp Qp P ops F es (fun _ => RJ G dds dead old) i o := by
  intro s D w hd hcl ha hI K hK
  obtain ⟨e, he, hb⟩ := Array.any_eq_true'.1 haf
  simp only [Bool.and_eq_true, Bool.or_eq_true, beq_iff_eq] at hb
  have h1 := ha e he hb.1
  have h2 : D dead = true := by
    rcases hb.2 with h3 | h3
    · rw [← h3]; exact h1
    · exact waits_spec hcl 30 e.on h3 h1
  rw [hI.e] at h2
  cases h2
theorem countP_append_one {D : Nat → Bool} {a b : List Nat} {i : Nat} (ha : ∀ d ∈ a, D d = true) (hb : ∀ d ∈ b, D d = false) (hi : D i = false) : (a ++ i :: b).countP D = a.length := by
  rw [List.countP_append, List.countP_cons, hi, List.countP_eq_length.2 ha, List.countP_eq_zero.2 (fun d hd => by rw [hb d hd]; exact Bool.noConfusion)]
  simp
theorem ObJ.level {o : Oper} {i : Nat} (a b : List Nat) (hs : dds = a ++ i :: b) (hn : (dead != i && b.all (fun d => d != i) && a.all (fun d => d != i)) = true)
    (hbef : a.all (fun d => o.after.any (fun e => Region.binds .any e && (e.on == d || waits ops d 30 e.on))) = true) (hbeh : b.all (fun d => waits ops i 30 d) = true)
    (hw : ∀ s, Region.wanted o (yielded ops (F s).tmps) = true)
    (h : ∀ (s : Nat → Nat) (w : World) (K : Act → World → Prop), G a.length w → (∀ x ∈ old, Blk w x.1 x.2.1 x.2.2) → Shut (∀ w', G (a.length + 1) w' → (∀ x ∈ old, Blk w' x.1 x.2.1 x.2.2) → K ((F s).put o.dst (valOf es s i)) w') → Oper.wp P o (F s) w K (OnP Qp)) :
    ObOp Qp P ops F es (fun _ => RJ G dds dead old) i o := by
  intro s D w hd hcl ha hI K hK
  rw [if_pos (hw s)]
  simp only [Bool.and_eq_true, List.all_eq_true, bne_iff_ne, ne_eq] at hn
  have h1 : ∀ d ∈ a, D d = true := fun d hda => by
    obtain ⟨e, he, hb⟩ := Array.any_eq_true'.1 (List.all_eq_true.1 hbef d hda)
    simp only [Bool.and_eq_true, Bool.or_eq_true, beq_iff_eq] at hb
    have h1 := ha e he hb.1
    rcases hb.2 with h3 | h3
    · rw [← h3]; exact h1
    · exact waits_spec hcl 30 e.on h3 h1
  have h2 : ∀ d ∈ b, D d = false := fun d hdb => before_false hcl hd (List.all_eq_true.1 hbeh d hdb)
  have hg := hI.g
  rw [hs, countP_append_one h1 h2 hd] at hg
  refine h s w K hg hI.k (fun w' hg' hk' => hK.out _ _ s rfl (fun _ _ => rfl) ⟨?_, hk', ?_⟩)
  · have hc : dds.countP (fun j => j == i || D j) = a.length + 1 := by
      rw [hs, List.countP_append, List.countP_cons]
      have e1 : a.countP (fun j => j == i || D j) = a.length := List.countP_eq_length.2 (fun d hd => by simp [h1 d hd])
      have e2 : b.countP (fun j => j == i || D j) = 0 := List.countP_eq_zero.2 (fun d hd => by
        have : (d == i) = false := by simpa using hn.1.2 d hd
        simp [this, h2 d hd])
      rw [e1, e2]
      simp
    rw [hc]
    exact hg'
  · have : (dead == i) = false := by simpa using hn.1.1
    simp only [this, Bool.false_or]
    exact hI.e
end
end Go.Proofs.YtcdoidnfdkodoaaGreatDoor
namespace Go.Proofs.YtcdoidnfdkodoaaGreatDoor
open Go.RowKit
set_option linter.unusedVariables false
set_option linter.unusedSimpArgs false
set_option linter.unusedSectionVars false
def MulW (g : Gs) (m : Mm) (lo hi : Int → Int) (f : Int → Nat → Bool) : RdO → RsO
  | .bad a t => .bad 1 a t
  | .ok d => .ok { setr (setr g 0 (lo d)) 2 (hi d) with f := f d } m
def GL (w : World) (G B : Nat) (gs : Nat → Gs) (m : Mm) : Nat → World → Prop
  | 0, W => GuAt W G B (gs 0) m ∧ Below w.heap.size w W
  | k + 1, W => GuAt W G B (gs (k + 1)) m ∧ But [G] w.heap.size w W
section
variable {w : World} {G B : Nat} {g g' : Gs} {gs : Nat → Gs} {m m' : Mm}
theorem GL.st {W : World} {k : Nat} (h : GL w G B gs m k W) : GuAt W G B (gs k) m ∧ But [G] w.heap.size w W := by
  cases k with
  | zero => exact ⟨h.1, But.of h.2 _⟩
  | succ k => exact h
theorem gl_ok : ∀ k W W', GL w G B gs m k W → Below W.heap.size W W' → GL w G B gs m k W' := fun k W W' h b => by
  cases k with
  | zero => exact ⟨h.1.below b, h.2.trans (b.mono h.2.size)⟩
  | succ k => exact ⟨h.1.below b, h.2.thenB h.2.size b⟩
theorem gl_reg {W : World} {k : Nat} (h : GL w G B gs m k W) (j : Nat) (hj : j < 8) (v : Int) (he : setr (gs k) j v = gs (k + 1)) : GL w G B gs m (k + 1) (W.setCell ⟨G, 1 + j, none⟩ (.int .u32 v)) := by
  obtain ⟨h1, h2⟩ := h.st.1.reg j hj v
  exact ⟨he ▸ h1, h.st.2.thenW h.st.2.size h2 (fun k hk => .inl hk)⟩
theorem gl_fl {W : World} {k : Nat} (h : GL w G B gs m k W) (f : Nat → Bool) (he : ({ gs k with f := f } : Gs) = gs (k + 1)) : GL w G B gs m (k + 1) (W.setCells G 10 [.bool (f 0), .bool (f 1), .bool (f 2), .bool (f 3), .bool (f 4), .bool (f 5)]) := by
  have hb : But [G] W.heap.size W (W.setCells G 10 [.bool (f 0), .bool (f 1), .bool (f 2), .bool (f 3), .bool (f 4), .bool (f 5)]) := by
    exact ((((((But.refl [G] W.heap.size W).setCell (p := ⟨G, 10, none⟩) (by simp) _).setCell (p := ⟨G, 11, none⟩) (by simp) _).setCell (p := ⟨G, 12, none⟩) (by simp) _).setCell (p := ⟨G, 13, none⟩) (by simp) _).setCell (p := ⟨G, 14, none⟩) (by simp) _).setCell (p := ⟨G, 15, none⟩) (by simp) _
  refine ⟨?_, h.st.2.thenW h.st.2.size hb (fun k hk => .inl hk)⟩
  rw [← he]
  exact ⟨h.st.1.p.but hb h.st.1.p.lt (by simpa using h.st.1.ne), (((((((h.st.1.c.set 10 _).set 11 _).set 12 _).set 13 _).set 14 _).set 15 _)), h.st.1.ne⟩
theorem blk_fl {W : World} {I : Nat} {t : TypeId} {cs : Array Value} (k : Blk W I t cs) (hI : I ≠ G) (f : Nat → Bool) : Blk (W.setCells G 10 [.bool (f 0), .bool (f 1), .bool (f 2), .bool (f 3), .bool (f 4), .bool (f 5)]) I t cs :=
  (((((k.other 10 _ hI).other 11 _ hI).other 12 _ hI).other 13 _ hI).other 14 _ hI).other 15 _ hI
set_option maxRecDepth 20000 in
set_option maxHeartbeats 2000000 in
theorem gmultiply (h : GuAt w G B g m) (i : In) (hop : (i.op == 18) = false) (r : RdO) (lo hi : Int → Int) (f : Int → Nat → Bool) (tabs : TabsA w) (hA : RdA B g m i.A 4 r)
    (hM : ∀ d, r = .ok d → Muls i.op (g.r 0) d g.f (lo d) (hi d) (f d)) : Calls Tryz.prog 121 #[mp G, inV i] w (Aft G B w (MulW g m lo hi f r)) := by
  have b0 := (Below.refl w.heap.size w).alloc (Nat.le_refl _) (.cells (in16 i) 33)
  have kI := Blk.new w 33 (in16 i)
  have hg := h.below b0
  have nG := Lib.hid (show G < w.heap.size from h.c.lt)
  have nB := Lib.hid (show B < w.heap.size from h.p.lt)
  have c0 := kI.cell (i := 0) (v := .int .i64 i.op) rfl
  cases r with
  | bad a t =>
    have qA := Lib.hid (fun W (hW : GuAt W G B g m) => gread_no hW i.A 4 a t hA)
    clear hA hM
    go_enter Tryz.func121, Tryz.ntmps121
    go_wp2_with (first | (with_reducible refine load_iA rfl _ rfl rfl kI ?_) | ((with_reducible refine (qA.out _ hg).mono ?_); rintro e w1 ⟨rfl, b1⟩))
    exact ⟨rfl, rfl, But.of (b0.trans (b1.mono b0.size)) _⟩
  | ok d =>
    have qA := Lib.hid (fun W (hW : GuAt W G B g m) => gread_yes hW i.A 4 d hA)
    have qM := Lib.hid (hM d rfl)
    show Calls Tryz.prog 121 #[mp G, inV i] w (Aft G B w (.ok { setr (setr g 0 (lo d)) 2 (hi d) with f := f d } m))
    generalize lo d = lo at *
    generalize hi d = hi at *
    generalize f d = f at *
    clear hA hM
    go_enter Tryz.func121, Tryz.ntmps121
    go_upto_region 6 with (first | (with_reducible refine load_iA rfl _ rfl rfl kI ?_) | ((with_reducible refine (qA.out _ hg).mono ?_); rintro e w1 ⟨rfl, b1⟩; have kI1 := kI.below b1 kI.lt; have c1 := kI1.cell (i := 0) (v := .int .i64 i.op) rfl))
    have hg1 := hg.below b1
    have bb := b0.trans (b1.mono b0.size)
    replace tabs := Lib.hid tabs
    have nI := Lib.hid (show ∀ x ∈ [(w.heap.size, 33, in16 i)], x.1 ≠ G from List.forall_mem_cons.2 ⟨by have := nG.out; omega, fun x hx => by cases hx⟩)
    have kk := Lib.hid (show ∀ x ∈ [(w.heap.size, 33, in16 i)], Blk w1 x.1 x.2.1 x.2.2 from List.forall_mem_cons.2 ⟨kI1, fun x hx => by cases hx⟩)
    clear kI kI1 c0 c1 hg
    refine wp_region_inv (F := ?_) (fun _ _ => False) (fun _ _ _ _ h => h.elim) [some 43, some 44, some 45, some 46, some 47, some 48, some 49, some 50, some 51, some 52, some 53, some 54, some 55, some 56, some 57, some 58, some 59, some 60, some 42, some 61, some 62, some 63, some 64, some 65, some 66, some 67, none, some 68, some 69, some 70, some 71, none, some 72, some 73, some 74, none] [some (.pointer (some ⟨G, 0, none⟩)), some (.pointer (some ⟨G, 0, none⟩)), some (.pointer (some ⟨G, 0, none⟩)), some (.pointer (some ⟨w.heap.size, 0, none⟩)), some (.int .i64 i.op), some (.pointer (some ⟨G, 0, none⟩)), some (.pointer (some ⟨G, 0, none⟩)), some (.pointer (some ⟨G, 1, none⟩)), some (.pointer (some ⟨G, 1, none⟩)), some (.pointer (some ⟨G, 1, none⟩)), some (.int .u32 (g.r 0)), some (.int .u32 d), some (.pointer (some ⟨G, 0, none⟩)), some (.pointer (some ⟨G, 0, none⟩)), some (.pointer (some ⟨G, 1, none⟩)), some (.pointer (some ⟨G, 10, none⟩)), some (.agg #[.bool (g.f 0), .bool (g.f 1), .bool (g.f 2), .bool (g.f 3), .bool (g.f 4), .bool (g.f 5)]), some (.tuple #[.int .u32 lo, .int .u32 hi, .agg #[.bool (f 0), .bool (f 1), .bool (f 2), .bool (f 3), .bool (f 4), .bool (f 5)]]), some (.tuple #[.int .u32 lo, .int .u32 hi, .agg #[.bool (f 0), .bool (f 1), .bool (f 2), .bool (f 3), .bool (f 4), .bool (f 5)]]), some (.int .u32 lo), some (.int .u32 hi), some (.agg #[.bool (f 0), .bool (f 1), .bool (f 2), .bool (f 3), .bool (f 4), .bool (f 5)]), some (.pointer (some ⟨G, 0, none⟩)), some (.pointer (some ⟨G, 1, none⟩)), some (.pointer (some ⟨G, 1, none⟩)), some (.pointer (some ⟨G, 1, none⟩)), some undef, some (.pointer (some ⟨G, 0, none⟩)), some (.pointer (some ⟨G, 1, none⟩)), some (.pointer (some ⟨G, 1, none⟩)), some (.pointer (some ⟨G, 3, none⟩)), some undef, some (.pointer (some ⟨G, 0, none⟩)), some (.pointer (some ⟨G, 1, none⟩)), some (.pointer (some ⟨G, 10, none⟩)), some undef] (fun _ => RJ (GL w G B (fun k => match k with | 0 => g | 1 => setr g 0 lo | 2 => setr (setr g 0 lo) 2 hi | _ => { setr (setr g 0 lo) 2 hi with f := f }) m) [26, 31, 35] 36 [(w.heap.size, 33, in16 i)]) (fun _ => 0) (by kernel_rfl) (by kernel_rfl) (fun s => ?_) (RJ.start ⟨hg1.drew, bb.drew⟩ (fun x hx => (kk.out x hx).drew) (fun _ => 0)) ?_ (fun s Wq h => ?_)
    rotate_left
    · simp only [vsOf, putD, Act.put, Nat.reduceAdd, List.setIfInBounds_toArray, List.set_cons_zero, List.set_cons_succ]
      rfl
    · refine AllOps.cons ?_ (AllOps.cons ?_ (AllOps.cons ?_ (AllOps.cons ?_ (AllOps.cons ?_ (AllOps.cons ?_ (AllOps.cons ?_ (AllOps.cons ?_ (AllOps.cons ?_ (AllOps.cons ?_ (AllOps.cons ?_ (AllOps.cons ?_ (AllOps.cons ?_ (AllOps.cons ?_ (AllOps.cons ?_ (AllOps.cons ?_ (AllOps.cons ?_ (AllOps.cons ?_ (AllOps.cons ?_ (AllOps.cons ?_ (AllOps.cons ?_ (AllOps.cons ?_ (AllOps.cons ?_ (AllOps.cons ?_ (AllOps.cons ?_ (AllOps.cons ?_ (AllOps.cons ?_ (AllOps.cons ?_ (AllOps.cons ?_ (AllOps.cons ?_ (AllOps.cons ?_ (AllOps.cons ?_ (AllOps.cons ?_ (AllOps.cons ?_ (AllOps.cons ?_ (AllOps.cons ?_ AllOps.nil)))))))))))))))))))))))))))))))))))
      · refine ObJ.val (fun s => .pointer (some ⟨G, 0, none⟩)) (by kernel_rfl) (fun _ => rfl) (fun s => by kernel_rfl) (fun s D w hd hcl h => ?_)
        go_simp
        try rfl
      · refine ObJ.val (fun s => .pointer (some ⟨G, 0, none⟩)) (by kernel_rfl) (fun _ => rfl) (fun s => by kernel_rfl) (fun s D w hd hcl h => ?_)
        go_simp
        try rfl
      · refine ObJ.val (fun s => .pointer (some ⟨G, 0, none⟩)) (by kernel_rfl) (fun _ => rfl) (fun s => by kernel_rfl) (fun s D w hd hcl h => ?_)
        go_simp
        try rfl
      · refine ObJ.val (fun s => .pointer (some ⟨w.heap.size, 0, none⟩)) (by kernel_rfl) (fun _ => rfl) (fun s => by kernel_rfl) (fun s D w hd hcl h => ?_)
        go_simp
        try rfl
      · refine ObJ.val (fun s => .int .i64 i.op) (by kernel_rfl) (fun _ => rfl) (fun s => by kernel_rfl) (fun s D w hd hcl h => ?_)
        have c := (h.k _ List.mem_cons_self).cell (i := 0) (v := .int .i64 i.op) rfl
        go_simp
        try rfl
      · refine ObJ.val (fun s => .pointer (some ⟨G, 0, none⟩)) (by kernel_rfl) (fun _ => rfl) (fun s => by kernel_rfl) (fun s D w hd hcl h => ?_)
        go_simp
        try rfl
      · refine ObJ.val (fun s => .pointer (some ⟨G, 0, none⟩)) (by kernel_rfl) (fun _ => rfl) (fun s => by kernel_rfl) (fun s D w hd hcl h => ?_)
        go_simp
        try rfl
      · refine ObJ.val (fun s => .pointer (some ⟨G, 1, none⟩)) (by kernel_rfl) (fun _ => rfl) (fun s => by kernel_rfl) (fun s D w hd hcl h => ?_)
        go_simp
        try rfl
      · refine ObJ.val (fun s => .pointer (some ⟨G, 1, none⟩)) (by kernel_rfl) (fun _ => rfl) (fun s => by kernel_rfl) (fun s D w hd hcl h => ?_)
        go_simp
        try rfl
      · refine ObJ.val (fun s => .pointer (some ⟨G, 1, none⟩)) (by kernel_rfl) (fun _ => rfl) (fun s => by kernel_rfl) (fun s D w hd hcl h => ?_)
        go_simp
        try rfl
      · refine ObJ.val (fun s => .int .u32 (g.r 0)) (by kernel_rfl) (fun _ => rfl) (fun s => by kernel_rfl) (fun s D w hd hcl h => ?_)
        have c := (h.g0 hd hcl (by kernel_rfl)).1.c.cell (i := 1) (v := .int .u32 (g.r 0)) rfl
        go_simp
        try rfl
      · refine ObJ.val (fun s => .int .u32 d) (by kernel_rfl) (fun _ => rfl) (fun s => by kernel_rfl) (fun s D w hd hcl h => ?_)
        go_simp
        try rfl
      · refine ObJ.val (fun s => .pointer (some ⟨G, 0, none⟩)) (by kernel_rfl) (fun _ => rfl) (fun s => by kernel_rfl) (fun s D w hd hcl h => ?_)
        go_simp
        try rfl
      · refine ObJ.val (fun s => .pointer (some ⟨G, 0, none⟩)) (by kernel_rfl) (fun _ => rfl) (fun s => by kernel_rfl) (fun s D w hd hcl h => ?_)
        go_simp
        try rfl
      · refine ObJ.val (fun s => .pointer (some ⟨G, 1, none⟩)) (by kernel_rfl) (fun _ => rfl) (fun s => by kernel_rfl) (fun s D w hd hcl h => ?_)
        go_simp
        try rfl
      · refine ObJ.val (fun s => .pointer (some ⟨G, 10, none⟩)) (by kernel_rfl) (fun _ => rfl) (fun s => by kernel_rfl) (fun s D w hd hcl h => ?_)
        go_simp
        try rfl
      · refine ObJ.val (fun s => .agg #[.bool (g.f 0), .bool (g.f 1), .bool (g.f 2), .bool (g.f 3), .bool (g.f 4), .bool (g.f 5)]) (by kernel_rfl) (fun _ => rfl) (fun s => by kernel_rfl) (fun s D w hd hcl h => ?_)
        exact run_load_gfl (by rfl) (by rfl) (h.g0 hd hcl (by kernel_rfl)).1
      · refine ObJ.calls gl_ok (fun s => .tuple #[.int .u32 lo, .int .u32 hi, .agg #[.bool (f 0), .bool (f 1), .bool (f 2), .bool (f 3), .bool (f 4), .bool (f 5)]]) (163) (fun s => #[.int .i64 i.op, .int .u32 (g.r 0), .int .u32 d, .agg #[.bool (g.f 0), .bool (g.f 1), .bool (g.f 2), .bool (g.f 3), .bool (g.f 4), .bool (g.f 5)]]) (by kernel_rfl) (fun _ => rfl) (fun s => by kernel_rfl) (fun s D w ha h => ?_) (fun s D w hd hcl h => ?_)
        · go_simp
          try rfl
        · exact qM.out _ (tabs.out.below (h.g0 hd hcl (by kernel_rfl)).2)
      · refine ObJ.val (fun s => .tuple #[.int .u32 lo, .int .u32 hi, .agg #[.bool (f 0), .bool (f 1), .bool (f 2), .bool (f 3), .bool (f 4), .bool (f 5)]]) (by kernel_rfl) (fun _ => rfl) (fun s => by kernel_rfl) (fun s D w hd hcl h => ?_)
        go_simp
        try rfl
      · refine ObJ.val (fun s => .int .u32 lo) (by kernel_rfl) (fun _ => rfl) (fun s => by kernel_rfl) (fun s D w hd hcl h => ?_)
        go_simp
        try rfl
      · refine ObJ.val (fun s => .int .u32 hi) (by kernel_rfl) (fun _ => rfl) (fun s => by kernel_rfl) (fun s D w hd hcl h => ?_)
        go_simp
        try rfl
      · refine ObJ.val (fun s => .agg #[.bool (f 0), .bool (f 1), .bool (f 2), .bool (f 3), .bool (f 4), .bool (f 5)]) (by kernel_rfl) (fun _ => rfl) (fun s => by kernel_rfl) (fun s D w hd hcl h => ?_)
        go_simp
        try rfl
      · refine ObJ.val (fun s => .pointer (some ⟨G, 0, none⟩)) (by kernel_rfl) (fun _ => rfl) (fun s => by kernel_rfl) (fun s D w hd hcl h => ?_)
        go_simp
        try rfl
      · refine ObJ.val (fun s => .pointer (some ⟨G, 1, none⟩)) (by kernel_rfl) (fun _ => rfl) (fun s => by kernel_rfl) (fun s D w hd hcl h => ?_)
        go_simp
        try rfl
      · refine ObJ.val (fun s => .pointer (some ⟨G, 1, none⟩)) (by kernel_rfl) (fun _ => rfl) (fun s => by kernel_rfl) (fun s D w hd hcl h => ?_)
        go_simp
        try rfl
      · refine ObJ.val (fun s => .pointer (some ⟨G, 1, none⟩)) (by kernel_rfl) (fun _ => rfl) (fun s => by kernel_rfl) (fun s D w hd hcl h => ?_)
        go_simp
        try rfl
      · refine ObJ.level [] [31, 35] rfl (by kernel_rfl) (by kernel_rfl) (by kernel_rfl) (fun s => by kernel_rfl) (fun s w K hg hold hK => ?_)
        have c := hg.st.1.c.cell (i := 1) rfl
        have f := hg.st.1.c.fr 1
        go_simp
        exact hK.out _ (gl_reg hg 0 (by decide) (lo) rfl) (fun x hx => (hold x hx).other 1 _ (nI.out x hx))
      · refine ObJ.val (fun s => .pointer (some ⟨G, 0, none⟩)) (by kernel_rfl) (fun _ => rfl) (fun s => by kernel_rfl) (fun s D w hd hcl h => ?_)
        go_simp
        try rfl
      · refine ObJ.val (fun s => .pointer (some ⟨G, 1, none⟩)) (by kernel_rfl) (fun _ => rfl) (fun s => by kernel_rfl) (fun s D w hd hcl h => ?_)
        go_simp
        try rfl
      · refine ObJ.val (fun s => .pointer (some ⟨G, 1, none⟩)) (by kernel_rfl) (fun _ => rfl) (fun s => by kernel_rfl) (fun s D w hd hcl h => ?_)
        go_simp
        try rfl
      · refine ObJ.val (fun s => .pointer (some ⟨G, 3, none⟩)) (by kernel_rfl) (fun _ => rfl) (fun s => by kernel_rfl) (fun s D w hd hcl h => ?_)
        go_simp
        try rfl
      · refine ObJ.level [26] [35] rfl (by kernel_rfl) (by kernel_rfl) (by kernel_rfl) (fun s => by kernel_rfl) (fun s w K hg hold hK => ?_)
        have c := hg.st.1.c.cell (i := 3) rfl
        have f := hg.st.1.c.fr 3
        go_simp
        exact hK.out _ (gl_reg hg 2 (by decide) (hi) rfl) (fun x hx => (hold x hx).other 3 _ (nI.out x hx))
      · refine ObJ.val (fun s => .pointer (some ⟨G, 0, none⟩)) (by kernel_rfl) (fun _ => rfl) (fun s => by kernel_rfl) (fun s D w hd hcl h => ?_)
        go_simp
        try rfl
      · refine ObJ.val (fun s => .pointer (some ⟨G, 1, none⟩)) (by kernel_rfl) (fun _ => rfl) (fun s => by kernel_rfl) (fun s D w hd hcl h => ?_)
        go_simp
        try rfl
      · refine ObJ.val (fun s => .pointer (some ⟨G, 10, none⟩)) (by kernel_rfl) (fun _ => rfl) (fun s => by kernel_rfl) (fun s D w hd hcl h => ?_)
        go_simp
        try rfl
      · refine ObJ.level [26, 31] [] rfl (by kernel_rfl) (by kernel_rfl) (by kernel_rfl) (fun s => by kernel_rfl) (fun s w K hg hold hK => ?_)
        exact wp_store_mid 26 _ _ rfl G 10 #[.bool (f 0), .bool (f 1), .bool (f 2), .bool (f 3), .bool (f 4), .bool (f 5)] rfl rfl (hg.st.1.c.thereT 10 6 (by simp)) (by kernel_rfl) (by simp [Value.oneCell']) (hK.out _ (gl_fl hg f rfl) (fun x hx => blk_fl (hold x hx) (nI.out x hx) f))
    have hz := (h.done (by kernel_rfl)).st
    go_wp2_with fail
    exact bodyPost_end (v := .tuple #[]) (by simp [results, Tryz.results121, go_sem]) rfl ⟨rfl, hz.1, hz.2.mono (Nat.le_refl _) (fun k hk => .inl (by simp at hk ⊢; omega))⟩
end
end Go.Proofs.YtcdoidnfdkodoaaGreatDoor
namespace Go.Proofs.YtcdoidnfdkodoaaGreatDoor
open Go.RowKit
set_option linter.unusedVariables false
set_option linter.unusedSimpArgs false
set_option linter.unusedSectionVars false
section
variable {w : World} {G B : Nat} {g g' : Gs} {gs : Nat → Gs} {m m' : Mm}
def DivW (g : Gs) (m : Mm) (q r : Int → Int) (ok : Int → Bool) : RdO → RsO
  | .bad a t => .bad 1 a t
  | .ok d => bif ok d then .ok (setr (setr g 0 (q d)) 2 (r d)) m else .bad 2 0 0
set_option maxRecDepth 20000 in
set_option maxHeartbeats 2000000 in
theorem gdivide (h : GuAt w G B g m) (i : In) (r : RdO) (q rr : Int → Int) (ok : Int → Bool) (hA : RdA B g m i.A 4 r)
    (hD : ∀ d, r = .ok d → Divs i.op (g.r 0) (g.r 2) d (q d) (rr d) (ok d)) : Calls Tryz.prog 122 #[mp G, inV i] w (Aft G B w (DivW g m q rr ok r)) := by
  have b0 := (Below.refl w.heap.size w).alloc (Nat.le_refl _) (.cells (in16 i) 33)
  have kI := Blk.new w 33 (in16 i)
  have hg := h.below b0
  have nG := Lib.hid (show G < w.heap.size from h.c.lt)
  have nB := Lib.hid (show B < w.heap.size from h.p.lt)
  cases r with
  | bad a t =>
    have qA := Lib.hid (fun W (hW : GuAt W G B g m) => gread_no hW i.A 4 a t hA)
    clear hA hD
    go_enter Tryz.func122, Tryz.ntmps122
    go_wp2_with (first | (with_reducible refine load_iA rfl _ rfl rfl kI ?_) | ((with_reducible refine (qA.out _ hg).mono ?_); rintro e w1 ⟨rfl, b1⟩))
    exact ⟨rfl, rfl, But.of (b0.trans (b1.mono b0.size)) _⟩
  | ok d =>
    have qA := Lib.hid (fun W (hW : GuAt W G B g m) => gread_yes hW i.A 4 d hA)
    have qD := Lib.hid (hD d rfl)
    have qY := Lib.hid (fun W => must_yes 2 0 0 W)
    have qN := Lib.hid (fun W => must_no 2 0 0 W)
    show Calls Tryz.prog 122 #[mp G, inV i] w (Aft G B w (bif ok d then .ok (setr (setr g 0 (q d)) 2 (rr d)) m else .bad 2 0 0))
    generalize q d = q at *
    generalize rr d = rr at *
    generalize ok d = ok at *
    clear hA hD
    go_enter Tryz.func122, Tryz.ntmps122
    go_upto_region 2 with (first | (with_reducible refine load_iA rfl _ rfl rfl kI ?_) | ((with_reducible refine (qA.out _ hg).mono ?_); rintro e w1 ⟨rfl, b1⟩))
    have kI1 := kI.below b1 kI.lt
    have hg1 := hg.below b1
    have bb := b0.trans (b1.mono b0.size)
    have nI := Lib.hid (show ∀ x ∈ [(w.heap.size, 33, in16 i)], x.1 ≠ G from List.forall_mem_cons.2 ⟨by have := nG.out; omega, fun x hx => by cases hx⟩)
    have kk := Lib.hid (show ∀ x ∈ [(w.heap.size, 33, in16 i)], Blk w1 x.1 x.2.1 x.2.2 from List.forall_mem_cons.2 ⟨kI1, fun x hx => by cases hx⟩)
    clear kI kI1 hg
    refine wp_region_inv (F := ?_) (fun _ _ => False) (fun _ _ _ _ h => h.elim) [some 13, some 14, some 15, some 16, some 17, some 18, some 19, some 20, some 21, some 22, some 23, some 24, some 25, some 26, some 27, some 28, some 12, some 29, some 30, some 31, some 5, some 6, some 7] [some (.pointer (some ⟨w.heap.size, 0, none⟩)), some (.int .i64 i.op), some (.pointer (some ⟨G, 0, none⟩)), some (.pointer (some ⟨G, 0, none⟩)), some (.pointer (some ⟨G, 1, none⟩)), some (.pointer (some ⟨G, 1, none⟩)), some (.pointer (some ⟨G, 1, none⟩)), some (.int .u32 (g.r 0)), some (.pointer (some ⟨G, 0, none⟩)), some (.pointer (some ⟨G, 0, none⟩)), some (.pointer (some ⟨G, 1, none⟩)), some (.pointer (some ⟨G, 1, none⟩)), some (.pointer (some ⟨G, 3, none⟩)), some (.int .u32 (g.r 2)), some (.int .u32 d), some (.tuple #[.int .u32 q, .int .u32 rr, .bool ok]), some (.tuple #[.int .u32 q, .int .u32 rr, .bool ok]), some (.int .u32 q), some (.int .u32 rr), some (.bool ok), some (.int .u32 q), some (.int .u32 rr), some (.bool ok)] (RI (GI0 w G B g m) (w.heap.size - 1) 23 23 [(w.heap.size, 33, in16 i)] []) (fun _ => 0) (by kernel_rfl) (by kernel_rfl) (fun s => ?_) (RI.start ⟨hg1.drew, bb.drew⟩ (fun x hx => (kk.out x hx).drew) _) ?_ (fun s Wq h => ?_)
    rotate_left
    · simp only [vsOf, putD, Act.put, Nat.reduceAdd, List.setIfInBounds_toArray, List.set_cons_zero, List.set_cons_succ]
      rfl
    · refine AllOps.cons ?_ (AllOps.cons ?_ (AllOps.cons ?_ (AllOps.cons ?_ (AllOps.cons ?_ (AllOps.cons ?_ (AllOps.cons ?_ (AllOps.cons ?_ (AllOps.cons ?_ (AllOps.cons ?_ (AllOps.cons ?_ (AllOps.cons ?_ (AllOps.cons ?_ (AllOps.cons ?_ (AllOps.cons ?_ (AllOps.cons ?_ (AllOps.cons ?_ (AllOps.cons ?_ (AllOps.cons ?_ (AllOps.cons ?_ (AllOps.cons ?_ (AllOps.cons ?_ (AllOps.cons ?_ AllOps.nil))))))))))))))))))))))
      · refine ObOp.val (fun s => .pointer (some ⟨w.heap.size, 0, none⟩)) (by kernel_rfl) (fun _ => rfl) (fun s => by kernel_rfl) (fun s D w hd hcl h => ?_)
        go_simp
        try rfl
      · refine ObOp.val (fun s => .int .i64 i.op) (by kernel_rfl) (fun _ => rfl) (fun s => by kernel_rfl) (fun s D w hd hcl h => ?_)
        have c := (h.k _ List.mem_cons_self).cell (i := 0) (v := .int .i64 i.op) rfl
        go_simp
        try rfl
      · refine ObOp.val (fun s => .pointer (some ⟨G, 0, none⟩)) (by kernel_rfl) (fun _ => rfl) (fun s => by kernel_rfl) (fun s D w hd hcl h => ?_)
        go_simp
        try rfl
      · refine ObOp.val (fun s => .pointer (some ⟨G, 0, none⟩)) (by kernel_rfl) (fun _ => rfl) (fun s => by kernel_rfl) (fun s D w hd hcl h => ?_)
        go_simp
        try rfl
      · refine ObOp.val (fun s => .pointer (some ⟨G, 1, none⟩)) (by kernel_rfl) (fun _ => rfl) (fun s => by kernel_rfl) (fun s D w hd hcl h => ?_)
        go_simp
        try rfl
      · refine ObOp.val (fun s => .pointer (some ⟨G, 1, none⟩)) (by kernel_rfl) (fun _ => rfl) (fun s => by kernel_rfl) (fun s D w hd hcl h => ?_)
        go_simp
        try rfl
      · refine ObOp.val (fun s => .pointer (some ⟨G, 1, none⟩)) (by kernel_rfl) (fun _ => rfl) (fun s => by kernel_rfl) (fun s D w hd hcl h => ?_)
        go_simp
        try rfl
      · refine ObOp.val (fun s => .int .u32 (g.r 0)) (by kernel_rfl) (fun _ => rfl) (fun s => by kernel_rfl) (fun s D w hd hcl h => ?_)
        have c := h.g.1.c.cell (i := 1) (v := .int .u32 (g.r 0)) rfl
        go_simp
        try rfl
      · refine ObOp.val (fun s => .pointer (some ⟨G, 0, none⟩)) (by kernel_rfl) (fun _ => rfl) (fun s => by kernel_rfl) (fun s D w hd hcl h => ?_)
        go_simp
        try rfl
      · refine ObOp.val (fun s => .pointer (some ⟨G, 0, none⟩)) (by kernel_rfl) (fun _ => rfl) (fun s => by kernel_rfl) (fun s D w hd hcl h => ?_)
        go_simp
        try rfl
      · refine ObOp.val (fun s => .pointer (some ⟨G, 1, none⟩)) (by kernel_rfl) (fun _ => rfl) (fun s => by kernel_rfl) (fun s D w hd hcl h => ?_)
        go_simp
        try rfl
      · refine ObOp.val (fun s => .pointer (some ⟨G, 1, none⟩)) (by kernel_rfl) (fun _ => rfl) (fun s => by kernel_rfl) (fun s D w hd hcl h => ?_)
        go_simp
        try rfl
      · refine ObOp.val (fun s => .pointer (some ⟨G, 3, none⟩)) (by kernel_rfl) (fun _ => rfl) (fun s => by kernel_rfl) (fun s D w hd hcl h => ?_)
        go_simp
        try rfl
      · refine ObOp.val (fun s => .int .u32 (g.r 2)) (by kernel_rfl) (fun _ => rfl) (fun s => by kernel_rfl) (fun s D w hd hcl h => ?_)
        have c := h.g.1.c.cell (i := 3) (v := .int .u32 (g.r 2)) rfl
        go_simp
        try rfl
      · refine ObOp.val (fun s => .int .u32 d) (by kernel_rfl) (fun _ => rfl) (fun s => by kernel_rfl) (fun s D w hd hcl h => ?_)
        go_simp
        try rfl
      · refine ObOp.calls (gi0_ok nG.out nB.out) (fun s => .tuple #[.int .u32 q, .int .u32 rr, .bool ok]) (164) (fun s => #[.int .i64 i.op, .int .u32 (g.r 0), .int .u32 (g.r 2), .int .u32 d]) (by kernel_rfl) (fun _ => rfl) (fun s => by kernel_rfl) (fun s D w ha h => ?_) (fun s D w hd hcl h => ?_)
        · go_simp
          try rfl
        · exact qD.out _
      · refine ObOp.val (fun s => .tuple #[.int .u32 q, .int .u32 rr, .bool ok]) (by kernel_rfl) (fun _ => rfl) (fun s => by kernel_rfl) (fun s D w hd hcl h => ?_)
        go_simp
        try rfl
      · refine ObOp.val (fun s => .int .u32 q) (by kernel_rfl) (fun _ => rfl) (fun s => by kernel_rfl) (fun s D w hd hcl h => ?_)
        go_simp
        try rfl
      · refine ObOp.val (fun s => .int .u32 rr) (by kernel_rfl) (fun _ => rfl) (fun s => by kernel_rfl) (fun s D w hd hcl h => ?_)
        go_simp
        try rfl
      · refine ObOp.val (fun s => .bool ok) (by kernel_rfl) (fun _ => rfl) (fun s => by kernel_rfl) (fun s D w hd hcl h => ?_)
        go_simp
        try rfl
      · refine ObOp.val (fun s => .int .u32 q) (by kernel_rfl) (fun _ => rfl) (fun s => by kernel_rfl) (fun s D w hd hcl h => ?_)
        go_simp
        try rfl
      · refine ObOp.val (fun s => .int .u32 rr) (by kernel_rfl) (fun _ => rfl) (fun s => by kernel_rfl) (fun s D w hd hcl h => ?_)
        go_simp
        try rfl
      · refine ObOp.val (fun s => .bool ok) (by kernel_rfl) (fun _ => rfl) (fun s => by kernel_rfl) (fun s D w hd hcl h => ?_)
        go_simp
        try rfl
    have hg2 : GuAt Wq G B g m := h.g.1
    have bb2 : Below w.heap.size w Wq := h.g.2
    have kk2 := Lib.hid h.k
    clear h kk bb hg1 b0 b1
    cases ok
    · go_wp2_with (first | ((with_reducible refine (qN.out _).mono ?_); rintro e w3 ⟨rfl, b3⟩))
      exact ⟨rfl, rfl, But.of (bb2.trans (b3.mono bb2.size)) _⟩
    · go_upto_region 4 with (first | ((with_reducible refine (qY.out _).mono ?_); rintro e w3 ⟨rfl, b3⟩))
      have hg4 := hg2.below b3
      have bb4 := bb2.trans (b3.mono bb2.size)
      have kk4 := Lib.hid (fun x hx => (kk2.out x hx).below b3 (kk2.out x hx).lt)
      refine wp_region_inv (F := ?_) (fun _ _ => False) (fun _ _ _ _ h => h.elim) [some 35, some 36, some 37, some 38, some 39, some 40, some 41, some 42, none, some 43, some 44, some 45, some 46, none] [some (.pointer (some ⟨G, 0, none⟩)), some (.pointer (some ⟨G, 0, none⟩)), some (.int .u32 q), some (.int .u32 rr), some (.pointer (some ⟨G, 0, none⟩)), some (.pointer (some ⟨G, 1, none⟩)), some (.pointer (some ⟨G, 1, none⟩)), some (.pointer (some ⟨G, 1, none⟩)), some undef, some (.pointer (some ⟨G, 0, none⟩)), some (.pointer (some ⟨G, 1, none⟩)), some (.pointer (some ⟨G, 1, none⟩)), some (.pointer (some ⟨G, 3, none⟩)), some undef] (fun _ => RJ (GL w G B (fun k => match k with | 0 => g | 1 => setr g 0 q | _ => setr (setr g 0 q) 2 rr) m) [8, 13] 14 [(w.heap.size, 33, in16 i)]) (fun _ => 0) (by kernel_rfl) (by kernel_rfl) (fun s => ?_) (RJ.start ⟨hg4.drew, bb4.drew⟩ (fun x hx => (kk4.out x hx).drew) (fun _ => 0)) ?_ (fun s Wz h => ?_)
      rotate_left
      · simp only [vsOf, putD, Act.put, Nat.reduceAdd, List.setIfInBounds_toArray, List.set_cons_zero, List.set_cons_succ]
        rfl
      · refine AllOps.cons ?_ (AllOps.cons ?_ (AllOps.cons ?_ (AllOps.cons ?_ (AllOps.cons ?_ (AllOps.cons ?_ (AllOps.cons ?_ (AllOps.cons ?_ (AllOps.cons ?_ (AllOps.cons ?_ (AllOps.cons ?_ (AllOps.cons ?_ (AllOps.cons ?_ (AllOps.cons ?_ AllOps.nil)))))))))))))
        · refine ObJ.val (fun s => .pointer (some ⟨G, 0, none⟩)) (by kernel_rfl) (fun _ => rfl) (fun s => by kernel_rfl) (fun s D w hd hcl h => ?_)
          go_simp
          try rfl
        · refine ObJ.val (fun s => .pointer (some ⟨G, 0, none⟩)) (by kernel_rfl) (fun _ => rfl) (fun s => by kernel_rfl) (fun s D w hd hcl h => ?_)
          go_simp
          try rfl
        · refine ObJ.val (fun s => .int .u32 q) (by kernel_rfl) (fun _ => rfl) (fun s => by kernel_rfl) (fun s D w hd hcl h => ?_)
          go_simp
          try rfl
        · refine ObJ.val (fun s => .int .u32 rr) (by kernel_rfl) (fun _ => rfl) (fun s => by kernel_rfl) (fun s D w hd hcl h => ?_)
          go_simp
          try rfl
        · refine ObJ.val (fun s => .pointer (some ⟨G, 0, none⟩)) (by kernel_rfl) (fun _ => rfl) (fun s => by kernel_rfl) (fun s D w hd hcl h => ?_)
          go_simp
          try rfl
        · refine ObJ.val (fun s => .pointer (some ⟨G, 1, none⟩)) (by kernel_rfl) (fun _ => rfl) (fun s => by kernel_rfl) (fun s D w hd hcl h => ?_)
          go_simp
          try rfl
        · refine ObJ.val (fun s => .pointer (some ⟨G, 1, none⟩)) (by kernel_rfl) (fun _ => rfl) (fun s => by kernel_rfl) (fun s D w hd hcl h => ?_)
          go_simp
          try rfl
        · refine ObJ.val (fun s => .pointer (some ⟨G, 1, none⟩)) (by kernel_rfl) (fun _ => rfl) (fun s => by kernel_rfl) (fun s D w hd hcl h => ?_)
          go_simp
          try rfl
        · refine ObJ.level [] [13] rfl (by kernel_rfl) (by kernel_rfl) (by kernel_rfl) (fun s => by kernel_rfl) (fun s w K hg hold hK => ?_)
          have c := hg.st.1.c.cell (i := 1) rfl
          have f := hg.st.1.c.fr 1
          go_simp
          exact hK.out _ (gl_reg hg 0 (by decide) (q) rfl) (fun x hx => (hold x hx).other 1 _ (nI.out x hx))
        · refine ObJ.val (fun s => .pointer (some ⟨G, 0, none⟩)) (by kernel_rfl) (fun _ => rfl) (fun s => by kernel_rfl) (fun s D w hd hcl h => ?_)
          go_simp
          try rfl
        · refine ObJ.val (fun s => .pointer (some ⟨G, 1, none⟩)) (by kernel_rfl) (fun _ => rfl) (fun s => by kernel_rfl) (fun s D w hd hcl h => ?_)
          go_simp
          try rfl
        · refine ObJ.val (fun s => .pointer (some ⟨G, 1, none⟩)) (by kernel_rfl) (fun _ => rfl) (fun s => by kernel_rfl) (fun s D w hd hcl h => ?_)
          go_simp
          try rfl
        · refine ObJ.val (fun s => .pointer (some ⟨G, 3, none⟩)) (by kernel_rfl) (fun _ => rfl) (fun s => by kernel_rfl) (fun s D w hd hcl h => ?_)
          go_simp
          try rfl
        · refine ObJ.level [8] [] rfl (by kernel_rfl) (by kernel_rfl) (by kernel_rfl) (fun s => by kernel_rfl) (fun s w K hg hold hK => ?_)
          have c := hg.st.1.c.cell (i := 3) rfl
          have f := hg.st.1.c.fr 3
          go_simp
          exact hK.out _ (gl_reg hg 2 (by decide) (rr) rfl) (fun x hx => (hold x hx).other 3 _ (nI.out x hx))
      have hz := (h.done (by kernel_rfl)).st
      go_wp2_with fail
      exact bodyPost_end (v := .tuple #[]) (by simp [results, Tryz.results122, go_sem]) rfl ⟨rfl, hz.1, hz.2.mono (Nat.le_refl _) (fun k hk => .inl (by simp at hk ⊢; omega))⟩
set_option maxRecDepth 20000 in
set_option maxHeartbeats 2000000 in
theorem gdoA38 (h : GuAt w G B g m) (i : In) (hop : i.op = 38) (v : Int) (hv : IntKind.u32.wrap (IntKind.i32.wrap (g.r 0) / 2147483648) = v) : Calls Tryz.prog 76 #[mp G, inV i] w (Aft G B w (.ok (setr g 2 v) m)) := by
  have b0 := (Below.refl w.heap.size w).alloc (Nat.le_refl _) (.cells (in16 i) 33)
  have kI := Blk.new w 33 (in16 i)
  have hg := h.below b0
  have nG := Lib.hid (show G < w.heap.size from h.c.lt)
  have nB := Lib.hid (show B < w.heap.size from h.p.lt)
  have c0 := kI.cell (i := 0) (v := .int .i64 i.op) rfl
  rw [hop] at c0
  go_enter Tryz.func76, Tryz.ntmps76
  go_upto_region 39 with fail
  generalize w.alloc (.cells (in16 i) 33) = W0 at *
  have nI := Lib.hid (show ∀ x ∈ [(w.heap.size, 33, in16 i)], x.1 ≠ G from List.forall_mem_cons.2 ⟨by have := nG.out; omega, fun x hx => by cases hx⟩)
  have kk := Lib.hid (show ∀ x ∈ [(w.heap.size, 33, in16 i)], Blk W0 x.1 x.2.1 x.2.2 from List.forall_mem_cons.2 ⟨kI, fun x hx => by cases hx⟩)
  clear kI c0
  refine wp_region_inv (F := ?_) (fun _ _ => False) (fun _ _ _ _ h => h.elim) [some 66, some 67, some 68, some 69, some 70, some 71, some 72, some 73, some 74, some 75, some 76, some 77, some 78, some 79, none] [some (.pointer (some ⟨G, 0, none⟩)), some (.pointer (some ⟨G, 0, none⟩)), some (.pointer (some ⟨G, 0, none⟩)), some (.pointer (some ⟨G, 1, none⟩)), some (.pointer (some ⟨G, 1, none⟩)), some (.pointer (some ⟨G, 1, none⟩)), some (.int .u32 (g.r 0)), some (.int .i32 (IntKind.i32.wrap (g.r 0))), some (.int .i32 (IntKind.i32.wrap (g.r 0) / 2147483648)), some (.int .u32 v), some (.pointer (some ⟨G, 0, none⟩)), some (.pointer (some ⟨G, 1, none⟩)), some (.pointer (some ⟨G, 1, none⟩)), some (.pointer (some ⟨G, 3, none⟩)), some undef] (fun _ => RJ (GL w G B (fun k => match k with | 0 => g | _ => setr g 2 v) m) [14] 15 [(w.heap.size, 33, in16 i)]) (fun _ => 0) (by kernel_rfl) (by kernel_rfl) (fun s => ?_) (RJ.start ⟨hg.drew, b0.drew⟩ (fun x hx => (kk.out x hx).drew) (fun _ => 0)) ?_ (fun s Wq h => ?_)
  rotate_left
  · simp only [vsOf, putD, Act.put, Nat.reduceAdd, List.setIfInBounds_toArray, List.set_cons_zero, List.set_cons_succ]
    rfl
  · refine AllOps.cons ?_ (AllOps.cons ?_ (AllOps.cons ?_ (AllOps.cons ?_ (AllOps.cons ?_ (AllOps.cons ?_ (AllOps.cons ?_ (AllOps.cons ?_ (AllOps.cons ?_ (AllOps.cons ?_ (AllOps.cons ?_ (AllOps.cons ?_ (AllOps.cons ?_ (AllOps.cons ?_ (AllOps.cons ?_ AllOps.nil))))))))))))))
    · refine ObJ.val (fun s => .pointer (some ⟨G, 0, none⟩)) (by kernel_rfl) (fun _ => rfl) (fun s => by kernel_rfl) (fun s D w hd hcl h => ?_)
      go_simp
      try rfl
    · refine ObJ.val (fun s => .pointer (some ⟨G, 0, none⟩)) (by kernel_rfl) (fun _ => rfl) (fun s => by kernel_rfl) (fun s D w hd hcl h => ?_)
      go_simp
      try rfl
    · refine ObJ.val (fun s => .pointer (some ⟨G, 0, none⟩)) (by kernel_rfl) (fun _ => rfl) (fun s => by kernel_rfl) (fun s D w hd hcl h => ?_)
      go_simp
      try rfl
    · refine ObJ.val (fun s => .pointer (some ⟨G, 1, none⟩)) (by kernel_rfl) (fun _ => rfl) (fun s => by kernel_rfl) (fun s D w hd hcl h => ?_)
      go_simp
      try rfl
    · refine ObJ.val (fun s => .pointer (some ⟨G, 1, none⟩)) (by kernel_rfl) (fun _ => rfl) (fun s => by kernel_rfl) (fun s D w hd hcl h => ?_)
      go_simp
      try rfl
    · refine ObJ.val (fun s => .pointer (some ⟨G, 1, none⟩)) (by kernel_rfl) (fun _ => rfl) (fun s => by kernel_rfl) (fun s D w hd hcl h => ?_)
      go_simp
      try rfl
    · refine ObJ.val (fun s => .int .u32 (g.r 0)) (by kernel_rfl) (fun _ => rfl) (fun s => by kernel_rfl) (fun s D w hd hcl h => ?_)
      have c := (h.g0 hd hcl (by kernel_rfl)).1.c.cell (i := 1) (v := .int .u32 (g.r 0)) rfl
      go_simp
      try rfl
    · refine ObJ.val (fun s => .int .i32 (IntKind.i32.wrap (g.r 0))) (by kernel_rfl) (fun _ => rfl) (fun s => by kernel_rfl) (fun s D w hd hcl h => ?_)
      go_simp
      try rfl
    · refine ObJ.val (fun s => .int .i32 (IntKind.i32.wrap (g.r 0) / 2147483648)) (by kernel_rfl) (fun _ => rfl) (fun s => by kernel_rfl) (fun s D w hd hcl h => ?_)
      go_simp
      try rfl
    · refine ObJ.val (fun s => .int .u32 v) (by kernel_rfl) (fun _ => rfl) (fun s => by kernel_rfl) (fun s D w hd hcl h => ?_)
      go_simp
      try exact hv
    · refine ObJ.val (fun s => .pointer (some ⟨G, 0, none⟩)) (by kernel_rfl) (fun _ => rfl) (fun s => by kernel_rfl) (fun s D w hd hcl h => ?_)
      go_simp
      try rfl
    · refine ObJ.val (fun s => .pointer (some ⟨G, 1, none⟩)) (by kernel_rfl) (fun _ => rfl) (fun s => by kernel_rfl) (fun s D w hd hcl h => ?_)
      go_simp
      try rfl
    · refine ObJ.val (fun s => .pointer (some ⟨G, 1, none⟩)) (by kernel_rfl) (fun _ => rfl) (fun s => by kernel_rfl) (fun s D w hd hcl h => ?_)
      go_simp
      try rfl
    · refine ObJ.val (fun s => .pointer (some ⟨G, 3, none⟩)) (by kernel_rfl) (fun _ => rfl) (fun s => by kernel_rfl) (fun s D w hd hcl h => ?_)
      go_simp
      try rfl
    · refine ObJ.level [] [] rfl (by kernel_rfl) (by kernel_rfl) (by kernel_rfl) (fun s => by kernel_rfl) (fun s w K hg hold hK => ?_)
      have c := hg.st.1.c.cell (i := 3) rfl
      have f := hg.st.1.c.fr 3
      go_simp
      exact hK.out _ (gl_reg hg 2 (by decide) (v) rfl) (fun x hx => (hold x hx).other 3 _ (nI.out x hx))
  have hz := (h.done (by kernel_rfl)).st
  go_wp2_with fail
  exact bodyPost_end (v := .tuple #[]) (by simp [results, Tryz.results76, go_sem]) rfl ⟨rfl, hz.1, hz.2.mono (Nat.le_refl _) (fun k hk => .inl (by simp at hk ⊢; omega))⟩
end
end Go.Proofs.YtcdoidnfdkodoaaGreatDoor
namespace Go.Proofs.YtcdoidnfdkodoaaGreatDoor
open Go.RowKit
set_option linter.unusedVariables false
set_option linter.unusedSimpArgs false
set_option linter.unusedSectionVars false
def oR3 : On := ⟨1, 3, 0, 0, 0, 0⟩
def iMl : In := ⟨16, 0, oR3, oz, false, 2⟩
def iDv : In := ⟨19, 0, oR3, oz, false, 2⟩
def iCd : In := ⟨38, 0, oz, oz, false, 1⟩
theorem isB_ml : isB iMl = true := by kernel_rfl
theorem isB_dv : isB iDv = true := by kernel_rfl
theorem isB_cd : isB iCd = true := by kernel_rfl
section
variable {m : Mm} {g : Gs}
theorem wi_mul {a b : Int} (h0 : g.r 0 = a) (h3 : g.r 3 = b) (ha : 0 ≤ a ∧ a ≤ 4294967295) (hb : 0 ≤ b ∧ b ≤ 4294967295) :
    DoR m g iMl { setr (setr (goOn g iMl) 0 (loU a b)) 2 (hiU a b) with f := beyF g.f (hiU a b != 0) } m :=
  DoR.of isB_ml ⟨(by decide : (0 : Int) ≤ 2), (by decide : (2 : Int) ≤ 15)⟩ fun B => doA_of fun W G hG tb => gdoA16 hG _ rfl _ fun W' hG' b' =>
    gmultiply hG' iMl rfl (.ok b) (fun d => loU a d) (fun d => hiU a d) (fun d => beyF g.f (hiU a d != 0)) (tb.below b') (by
      have q := rd_reg B (goOn g iMl) m oR3 rfl
      rwa [show regV (goOn g iMl) oR3.r = b from h3] at q) (fun d hd => by
      cases hd
      show Muls 16 ((goOn g iMl).r 0) b g.f (loU a b) (hiU a b) (beyF g.f (hiU a b != 0))
      rw [show (goOn g iMl).r 0 = a from h0]
      exact mul_u a b g.f ha hb)
theorem wi_div {lo hi d q r : Int} (h0 : g.r 0 = lo) (h2 : g.r 2 = hi) (h3 : g.r 3 = d) (hD : Divs 19 lo hi d q r true) :
    DoR m g iDv (setr (setr (goOn g iDv) 0 q) 2 r) m :=
  DoR.of isB_dv ⟨(by decide : (0 : Int) ≤ 2), (by decide : (2 : Int) ≤ 15)⟩ fun B => doA_of fun W G hG tb => gdoA19 hG _ rfl _ fun W' hG' b' =>
    gdivide hG' iDv (.ok d) (fun _ => q) (fun _ => r) (fun _ => true) (by
      have q := rd_reg B (goOn g iDv) m oR3 rfl
      rwa [show regV (goOn g iDv) oR3.r = d from h3] at q) (fun x hx => by
      cases hx
      show Divs 19 ((goOn g iDv).r 0) ((goOn g iDv).r 2) d q r true
      rw [show (goOn g iDv).r 0 = lo from h0, show (goOn g iDv).r 2 = hi from h2]
      exact hD)
theorem wi_div0 {lo hi : Int} (h0 : g.r 0 = lo) (h2 : g.r 2 = hi) (h3 : g.r 3 = 0) (hl : 0 ≤ lo ∧ lo ≤ 4294967295) (hh : 0 ≤ hi ∧ hi ≤ 4294967295) :
    DoF m g iDv 2 g.pc 0 0 :=
  DoF.of isB_dv ⟨(by decide : (0 : Int) ≤ 2), (by decide : (2 : Int) ≤ 15)⟩ fun B => doA_of fun W G hG tb => gdoA19 hG _ rfl _ fun W' hG' b' =>
    gdivide hG' iDv (.ok 0) (fun _ => 0) (fun _ => 0) (fun _ => false) (by
      have q := rd_reg B (goOn g iDv) m oR3 rfl
      rwa [show regV (goOn g iDv) oR3.r = 0 from h3] at q) (fun x hx => by
      cases hx
      show Divs 19 ((goOn g iDv).r 0) ((goOn g iDv).r 2) 0 0 0 false
      rw [show (goOn g iDv).r 0 = lo from h0, show (goOn g iDv).r 2 = hi from h2]
      exact div_zero 19 lo hi hl hh)
theorem wi_cdq {v : Int} (hv : IntKind.u32.wrap (IntKind.i32.wrap (g.r 0) / 2147483648) = v) : DoR m g iCd (setr (goOn g iCd) 2 v) m :=
  DoR.of isB_cd ⟨(by decide : (0 : Int) ≤ 1), (by decide : (1 : Int) ≤ 15)⟩ fun B => doA_of fun W G hG tb => gdoA38 hG iCd rfl v hv
end
end Go.Proofs.YtcdoidnfdkodoaaGreatDoor
