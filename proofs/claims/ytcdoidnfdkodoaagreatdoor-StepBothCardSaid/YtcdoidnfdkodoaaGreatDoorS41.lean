import Derived.Test.YtcdoidnfdkodoaaGreatDoorS39
import Derived.Test.YtcdoidnfdkodoaaGreatDoorS15
import Derived.Test.YtcdoidnfdkodoaaGreatDoorS36
import Derived.Test.YtcdoidnfdkodoaaGreatDoorS38
namespace Go.Proofs.YtcdoidnfdkodoaaGreatDoor
open Go.RowKit
set_option linter.unusedVariables false
set_option maxRecDepth 20000
set_option linter.unusedSimpArgs false
set_option linter.unusedSectionVars false
abbrev Reckons (op a b : Int) (f : Nat → Bool) (R : Int) (G : Nat → Bool) : Prop := ∀ w, Calls Tryz.prog 201 #[.int .i64 op, .int .u32 a, .int .u32 b, flV f] w fun e w' => e = .returned (.tuple #[.int .u32 R, flV G]) ∧ Below w.heap.size w w'
abbrev Does (op a b : Int) (f : Nat → Bool) (R : Int) (G : Nat → Bool) : Prop := ∀ w, TabsA w → Calls Tryz.prog 162 #[.int .i64 op, .int .u32 a, .int .u32 b, flV f] w fun e w' => e = .returned (.tuple #[.int .u32 R, flV G]) ∧ Below w.heap.size w w'
theorem reck_inc (a b : Int) (f : Nat → Bool) (h : 0 ≤ a ∧ a ≤ 4294967295) (hb : 0 ≤ b ∧ b ≤ 4294967295) : Reckons 12 a b f (addR a 1 false) (addF a 1 false) := by
  intro w
  have q := Lib.hid (fun w => sum_any a 1 false h (by decide) w)
  have hR := addR_bd a 1 false
  generalize addR a 1 false = R at *
  generalize addF a 1 false = g at *
  have kR := Blk.new (w.alloc (.cells (fl6 f) 26)) 26 (fl6 fun _ => false)
  go_enter Tryz.func201, Tryz.ntmps201
  go_wp2_with (first | (with_reducible refine (q.out _).mono ?_; rintro e w2 ⟨rfl, bb⟩) | (with_reducible refine store_fl rfl _ _ rfl (w.heap.size + 1) g (fun _ => false) rfl rfl (by simpa using kR.below bb (by simp)) ?_))
  have kb : Below w.heap.size w w2 := (((Below.refl _ _).alloc (Nat.le_refl _) _).alloc (by simp) _).trans (bb.mono (by simp; omega))
  refine bodyPost_ret (v := .tuple #[.int .u32 R, flV g]) (res_sc rfl _ _ (w.heap.size + 1) g _ rfl rfl ((show Blk _ (w.heap.size + 1) _ _ by simpa using kR.below bb (by simp)).row _)) rfl ⟨rfl, ?_⟩
  exact below_rowNew kb (N := w.heap.size + 1) (by omega) _
theorem does_of (op a b R : Int) (f G : Nat → Bool) (k : Nat) (hk : k < 8) (hc : ClassIs op k) (h10 : (op == 10) = false) (h11 : (op == 11) = false) (q : Reckons op a b f R G) : Does op a b f R (mixL (wrT k) f G) := by
  intro w tabs
  have q2 := Lib.hid q
  have qW := Lib.hid (fun W tabs => written_any op k hk hc f G W tabs)
  clear q hc
  have kF := (Blk.new w 26 (fl6 f)).alloc (.cells (fl6 fun _ => false) 26)
  have kR := Blk.new (w.alloc (.cells (fl6 f) 26)) 26 (fl6 fun _ => false)
  rw [World.size_alloc] at kR
  generalize mixL (wrT k) f G = g at *
  go_enter Tryz.func162, Tryz.ntmps162
  go_wp2_with fail
  refine (q2.out _).mono ?_
  rintro e w2 ⟨rfl, bb⟩
  replace kF := kF.below bb (by simp; omega)
  replace kR := kR.below bb (by simp)
  have kb : Below w.heap.size w w2 := (((Below.refl _ _).alloc (Nat.le_refl _) _).alloc (by simp) _).trans (bb.mono (by simp; omega))
  clear bb
  have tabs2 := tabs.below kb
  have hSB := kb.size
  have kG := Blk.new w2 26 (fl6 G)
  replace kF := kF.alloc (.cells (fl6 G) 26)
  replace kR := kR.alloc (.cells (fl6 G) 26)
  replace tabs2 := tabs2.below ((Below.refl _ _).alloc (Nat.le_refl _) (.cells (fl6 G) 26))
  replace kb := kb.alloc hSB (.cells (fl6 G) 26)
  have hSB2 := kb.size
  go_wp2_with (first | (with_reducible refine load_fl rfl _ rfl w.heap.size f rfl kF ?_) | (with_reducible refine load_fl rfl _ rfl w2.heap.size G rfl kG ?_) | (with_reducible refine (qW.out _ tabs2).mono ?_; rintro e w3 ⟨rfl, bb⟩) | (with_reducible refine store_fl rfl _ _ rfl (w.heap.size + 1) g (fun _ => false) rfl rfl (kR.below bb kR.lt) ?_))
  refine bodyPost_ret (v := .tuple #[.int .u32 R, flV g]) (res_sc rfl _ _ (w.heap.size + 1) g _ rfl rfl ((kR.below bb kR.lt).row _)) rfl ⟨rfl, ?_⟩
  exact below_rowNew (kb.trans (bb.mono hSB2)) (N := w.heap.size + 1) (by omega) _
theorem do_inc (a b : Int) (f : Nat → Bool) (h : 0 ≤ a ∧ a ≤ 4294967295) (hb : 0 ≤ b ∧ b ≤ 4294967295) : Does 12 a b f (addR a 1 false) (mixL (wrT 3) f (addF a 1 false)) := by
  have := does_of 12 a b _ f _ 3 (by decide) classOf_12 rfl rfl (reck_inc a b f h hb)
  exact this
end Go.Proofs.YtcdoidnfdkodoaaGreatDoor
namespace Go.Proofs.YtcdoidnfdkodoaaGreatDoor
open Go.RowKit
set_option linter.unusedVariables false
set_option linter.unusedSimpArgs false
set_option linter.unusedSectionVars false
section
variable {w : World} {G B : Nat} {g g' : Gs} {m m' : Mm}
set_option maxRecDepth 20000 in
set_option maxHeartbeats 1000000 in
theorem gchange_yes (h : GuAt w G B g m) (i : In) (a b R : Int) (f : Nat → Bool) (tabs : TabsA w) (hs : ¬ (21 ≤ i.op ∧ i.op ≤ 25)) (hC : CanY B g m i.A) (hA : RdY B g m i.A 4 a) (hB : RdY B g m i.B 4 b)
    (hD : ∀ W, TabsA W → Calls Tryz.prog 162 #[.int .i64 i.op, .int .u32 a, .int .u32 b, .agg #[.bool (g.f 0), .bool (g.f 1), .bool (g.f 2), .bool (g.f 3), .bool (g.f 4), .bool (g.f 5)]] W fun e w' => e = .returned (.tuple #[.int .u32 R, .agg #[.bool (f 0), .bool (f 1), .bool (f 2), .bool (f 3), .bool (f 4), .bool (f 5)]]) ∧ Below W.heap.size W w')
    (hW : WrY B g m i.A 4 R g' m') :
    Calls Tryz.prog 119 #[mp G, inV i] w fun e w' => e = .returned (.tuple #[]) ∧ GuAt w' G B { g' with f := f } m' ∧ But [G, B] w.heap.size w w' := by
  have qC := Lib.hid (fun W (hW : GuAt W G B g m) => gboth_yes hW i.A hC)
  have qR := Lib.hid (fun W (hW : GuAt W G B g m) (t : TabsA W) => greck_yes hW i a b R f t hs hA hB hD)
  have qW := Lib.hid (fun W (hg : GuAt W G B g m) => gwrite_yes hg i.A 4 R g' m' hW)
  clear hC hA hB hD hW
  have b0 := (Below.refl w.heap.size w).alloc (Nat.le_refl _) (.cells (in16 i) 33)
  have kI := Blk.new w 33 (in16 i)
  have hg := h.below b0
  have tb := tabs.below b0
  have nG := Lib.hid (show G < w.heap.size from h.c.lt)
  have nB := Lib.hid (show B < w.heap.size from h.p.lt)
  go_enter Tryz.func119, Tryz.ntmps119
  go_upto_region 1 with fail
  generalize w.alloc (.cells (in16 i) 33) = W0 at *
  go_upto_region 2 with (first | (with_reducible refine load_iA rfl _ rfl rfl kI ?_) | ((with_reducible refine (qC.out _ hg).mono ?_); rintro e w1 ⟨rfl, b1⟩))
  replace hg := hg.below b1
  replace kI := kI.below b1 kI.lt
  replace tb := tb.below b1
  replace b0 := b0.trans (b1.mono b0.size)
  have nI := kI.lt
  clear b1
  go_upto_region 3 with (first | (with_reducible refine load_in rfl _ rfl rfl kI ?_) | ((with_reducible refine (qR.out _ hg tb).mono ?_); rintro e w2 ⟨rfl, b2⟩))
  have kF := Blk.new w2 26 #[.bool (f 0), .bool (f 1), .bool (f 2), .bool (f 3), .bool (f 4), .bool (f 5)]
  have b3 := b2.alloc b2.size (.cells #[.bool (f 0), .bool (f 1), .bool (f 2), .bool (f 3), .bool (f 4), .bool (f 5)] 26)
  replace hg := hg.below b3
  replace kI := kI.below b3 kI.lt
  have nF := Lib.hid (show w.heap.size < w2.heap.size by have := b2.size; omega)
  replace b0 := b0.trans (b3.mono b0.size)
  clear b2 b3 tb
  generalize w2.alloc (.cells #[.bool (f 0), .bool (f 1), .bool (f 2), .bool (f 3), .bool (f 4), .bool (f 5)] 26) = W3 at *
  generalize w2.heap.size = F at *
  go_upto_region 4 with (first | (with_reducible refine load_iA rfl _ rfl rfl kI ?_) | ((with_reducible refine (qW.out _ hg).mono ?_); rintro e w4 ⟨rfl, hg4, b4⟩))
  replace kF := kF.but b4 kF.lt (by have := nF.out; have := nG.out; have := nB.out; simp; omega)
  have c0 := kF.cell (i := 0) rfl
  have c1 := kF.cell (i := 1) rfl
  have c2 := kF.cell (i := 2) rfl
  have c3 := kF.cell (i := 3) rfl
  have c4 := kF.cell (i := 4) rfl
  have c5 := kF.cell (i := 5) rfl
  go_wp2_with (first | ((with_reducible refine store_gfl rfl _ _ rfl f rfl rfl hg4 ?_); intro w5 hg5 b5 s5))
  exact bodyPost_end (v := .tuple #[]) (by simp [results, Tryz.results119, go_sem]) rfl ⟨rfl, hg5, ((But.of b0 [G, B]).trans (b4.mono (S' := [G, B]) b0.size (fun k hk => .inl hk))).trans (b5.mono (S' := [G, B]) (Nat.le_trans b0.size b4.size) (fun k hk => .inl (by simp at hk ⊢; omega)))⟩
set_option maxRecDepth 20000 in
theorem gstack_push_yes (h : GuAt w G B g m) (i : In) (v : Int) (hop : i.op = 28) (hA : RdY B g m i.A 4 v) (hr : WrY B g m (atO (topL g)) 4 v g m') :
    Calls Tryz.prog 123 #[mp G, inV i] w fun e w' => e = .returned (.tuple #[]) ∧ GuAt w' G B (setr g 4 (topL g)) m' ∧ But [G, B] w.heap.size w w' := by
  have qA := Lib.hid (fun W (hW : GuAt W G B g m) => gread_yes hW i.A 4 v hA)
  have qP := Lib.hid (fun W (hW : GuAt W G B g m) => gpush_yes hW v hr)
  clear hA hr
  have b0 := (Below.refl w.heap.size w).alloc (Nat.le_refl _) (.cells (in16 i) 33)
  have kI := Blk.new w 33 (in16 i)
  have hg := h.below b0
  have c0 := kI.cell (i := 0) (v := .int .i64 i.op) rfl
  rw [hop] at c0
  go_enter Tryz.func123, Tryz.ntmps123
  go_wp2_with (first | (with_reducible refine load_iA rfl _ rfl rfl kI ?_) | ((with_reducible refine (qA.out _ hg).mono ?_); rintro e w1 ⟨rfl, b1⟩; have hg1 := hg.below b1) | ((with_reducible refine (qP.out _ hg1).mono ?_); rintro e w2 ⟨rfl, hg2, b2⟩))
  exact bodyPost_ret (v := .tuple #[]) (by simp [results, Tryz.results123, go_sem]) rfl ⟨rfl, hg2, (But.of (b0.trans (b1.mono b0.size)) [G, B]).trans (b2.mono (S' := [G, B]) (Nat.le_trans b0.size b1.size) (fun k hk => .inl hk))⟩
set_option maxRecDepth 20000 in
theorem gstack_push_no (h : GuAt w G B g m) (i : In) (v a t : Int) (hop : i.op = 28) (hA : RdY B g m i.A 4 v) (hr : WrN B g m (atO (topL g)) 4 v a t) :
    Calls Tryz.prog 123 #[mp G, inV i] w fun e w' => e = .panicked (fltP a t) ∧ Below w.heap.size w w' := by
  have qA := Lib.hid (fun W (hW : GuAt W G B g m) => gread_yes hW i.A 4 v hA)
  have qP := Lib.hid (fun W (hW : GuAt W G B g m) => gpush_no hW v a t hr)
  clear hA hr
  have b0 := (Below.refl w.heap.size w).alloc (Nat.le_refl _) (.cells (in16 i) 33)
  have kI := Blk.new w 33 (in16 i)
  have hg := h.below b0
  have c0 := kI.cell (i := 0) (v := .int .i64 i.op) rfl
  rw [hop] at c0
  go_enter Tryz.func123, Tryz.ntmps123
  go_wp2_with (first | (with_reducible refine load_iA rfl _ rfl rfl kI ?_) | ((with_reducible refine (qA.out _ hg).mono ?_); rintro e w1 ⟨rfl, b1⟩; have hg1 := hg.below b1) | ((with_reducible refine (qP.out _ hg1).mono ?_); rintro e w2 ⟨rfl, b2⟩))
  exact ⟨rfl, rfl, b0.trans ((b1.trans (b2.mono b1.size)).mono b0.size)⟩
set_option maxRecDepth 20000 in
theorem gdo12_yes (h : GuAt w G B g m) (i : In) (hop : i.op = 12) (hm : ∀ W, GuAt W G B g m → Below w.heap.size w W → Calls Tryz.prog 119 #[mp G, inV i] W fun e w' => e = .returned (.tuple #[]) ∧ GuAt w' G B g' m' ∧ But [G, B] W.heap.size W w') : Calls Tryz.prog 76 #[mp G, inV i] w fun e w' => e = .returned (.tuple #[]) ∧ GuAt w' G B g' m' ∧ But [G, B] w.heap.size w w' := by
  have qM := Lib.hid hm
  clear hm
  have b0 := (Below.refl w.heap.size w).alloc (Nat.le_refl _) (.cells (in16 i) 33)
  have kI := Blk.new w 33 (in16 i)
  have hg := h.below b0
  have c0 := kI.cell (i := 0) (v := .int .i64 i.op) rfl
  rw [hop] at c0
  go_enter Tryz.func76, Tryz.ntmps76
  go_wp2_with (first | (with_reducible refine load_in rfl _ rfl rfl kI ?_) | ((with_reducible refine (qM.out _ hg b0).mono ?_); rintro e w2 ⟨rfl, hg2, b2⟩))
  exact bodyPost_end (v := .tuple #[]) (by simp [results, Tryz.results76, go_sem]) rfl ⟨rfl, hg2, (But.of b0 [G, B]).trans (b2.mono (S' := [G, B]) b0.size (fun k hk => .inl hk))⟩
set_option maxRecDepth 20000 in
theorem gdo28_yes (h : GuAt w G B g m) (i : In) (hop : i.op = 28) (hm : ∀ W, GuAt W G B g m → Below w.heap.size w W → Calls Tryz.prog 123 #[mp G, inV i] W fun e w' => e = .returned (.tuple #[]) ∧ GuAt w' G B g' m' ∧ But [G, B] W.heap.size W w') : Calls Tryz.prog 76 #[mp G, inV i] w fun e w' => e = .returned (.tuple #[]) ∧ GuAt w' G B g' m' ∧ But [G, B] w.heap.size w w' := by
  have qM := Lib.hid hm
  clear hm
  have b0 := (Below.refl w.heap.size w).alloc (Nat.le_refl _) (.cells (in16 i) 33)
  have kI := Blk.new w 33 (in16 i)
  have hg := h.below b0
  have c0 := kI.cell (i := 0) (v := .int .i64 i.op) rfl
  rw [hop] at c0
  go_enter Tryz.func76, Tryz.ntmps76
  go_wp2_with (first | (with_reducible refine load_in rfl _ rfl rfl kI ?_) | ((with_reducible refine (qM.out _ hg b0).mono ?_); rintro e w2 ⟨rfl, hg2, b2⟩))
  exact bodyPost_end (v := .tuple #[]) (by simp [results, Tryz.results76, go_sem]) rfl ⟨rfl, hg2, (But.of b0 [G, B]).trans (b2.mono (S' := [G, B]) b0.size (fun k hk => .inl hk))⟩
set_option maxRecDepth 20000 in
theorem gdo28_no (h : GuAt w G B g m) (i : In) (hop : i.op = 28) (p : List PanicEntry) (hm : ∀ W, GuAt W G B g m → Below w.heap.size w W → Calls Tryz.prog 123 #[mp G, inV i] W fun e w' => e = .panicked p ∧ But [G] W.heap.size W w') : Calls Tryz.prog 76 #[mp G, inV i] w fun e w' => e = .panicked p ∧ But [G] w.heap.size w w' := by
  have qM := Lib.hid hm
  clear hm
  have b0 := (Below.refl w.heap.size w).alloc (Nat.le_refl _) (.cells (in16 i) 33)
  have kI := Blk.new w 33 (in16 i)
  have hg := h.below b0
  have c0 := kI.cell (i := 0) (v := .int .i64 i.op) rfl
  rw [hop] at c0
  go_enter Tryz.func76, Tryz.ntmps76
  go_wp2_with (first | (with_reducible refine load_in rfl _ rfl rfl kI ?_) | ((with_reducible refine (qM.out _ hg b0).mono ?_); rintro e w2 ⟨rfl, b2⟩))
  exact ⟨rfl, rfl, (But.of b0 [G]).trans (b2.mono (S' := [G]) b0.size (fun k hk => .inl hk))⟩
set_option maxRecDepth 20000 in
theorem gdo43 (h : GuAt w G B g m) (i : In) (hop : i.op = 43) : Calls Tryz.prog 76 #[mp G, inV i] w fun e w' => e = .returned (.tuple #[]) ∧ GuAt w' G B g m ∧ But [G, B] w.heap.size w w' := by
  have b0 := (Below.refl w.heap.size w).alloc (Nat.le_refl _) (.cells (in16 i) 33)
  have kI := Blk.new w 33 (in16 i)
  have hg := h.below b0
  have c0 := kI.cell (i := 0) (v := .int .i64 i.op) rfl
  rw [hop] at c0
  go_enter Tryz.func76, Tryz.ntmps76
  go_wp2_with fail
  exact bodyPost_end (v := .tuple #[]) (by simp [results, Tryz.results76, go_sem]) rfl ⟨rfl, hg, But.of b0 _⟩
end
end Go.Proofs.YtcdoidnfdkodoaaGreatDoor
namespace Go.Proofs.YtcdoidnfdkodoaaGreatDoor
open Go.RowKit
set_option linter.unusedVariables false
set_option linter.unusedSimpArgs false
set_option linter.unusedSectionVars false
/-! ### Operands that are registers, none -/
theorem rd_reg (B : Nat) (g : Gs) (m : Mm) (o : On) (hk : o.k = 1) : RdY B g m o 4 (regV g o.r) := fun W hW => Read_reg hW g o 4 hk rfl
theorem rd_none (B : Nat) (g : Gs) (m : Mm) (o : On) (n : Int) (hk : o.k = 0) : RdY B g m o n 0 := fun W hW => oRead_yes hW g o n 0 (fun W' _ => read_none (mp B) g o (numO n) hk W')
theorem wr_reg (B : Nat) (g : Gs) (m : Mm) (o : On) (j : Nat) (hj : j < 8) (hk : o.k = 1) (hr : o.r = j) (v : Int) : WrY B g m o 4 v (setr g j v) m := fun W hW => Write_reg hW g o 4 v j hj hk hr rfl
theorem can_o (B : Nat) (g : Gs) (m : Mm) (ok : m.ok) (o : On) (hk : (o.k == 3) = false) : CanY B g m o := fun W hW => Can_other hW ok g o 4 3 hk
theorem rd_mem (B : Nat) (g : Gs) (m : Mm) (ok : m.ok) (o : On) (n : Int) {q : Nat} (hk : o.k = 3) (hq : numL (numO n) = q) (hl : lackL m (plO g o) 1 q = none) : RdY B g m o n (readL m (plO g o).toNat q) := fun W hW => Read_mem hW ok g o n hk hq hl
theorem wr_mem (B : Nat) (g : Gs) (m : Mm) (ok : m.ok) (o : On) (n v : Int) (hv : 0 ≤ v ∧ v ≤ 4294967295) (hk : o.k = 3) (hl : lackL m (plO g o) 2 (numL (numO n)) = none) : WrY B g m o n v g (wroteS m (plO g o).toNat (numO n) v) := fun W hW => Write_mem hW ok g o n v hv hk hl
theorem wr_memN (B : Nat) (g : Gs) (m : Mm) (ok : m.ok) (o : On) (n v : Int) (hk : o.k = 3) (j : Nat) (hl : lackL m (plO g o) 2 (numL (numO n)) = some j) : WrN B g m o n v ((plO g o + j) % 4294967296) 2 := fun W hW => oWrite_no hW g o n v _ 2 (fun W' hW' => written_no hW' ok g o (numO n) v hk j hl)
/-! ### The guest that 'known' makes -/
def gz : Gs := ⟨fun _ => 0, 0, fun _ => false, false, 0⟩
def kM : Mm := pokeS (mapS Mm.new 0 1 7) 0 [64, 80, 205, 128]
theorem kM_ok : kM.ok := pokeS_ok (mapS_ok new_okM _ _ _) 0 (by decide) _ (by decide)
def iInc : In := ⟨12, 0, ⟨1, 0, 0, 0, 0, 0⟩, ⟨0, 0, 0, 0, 0, 0⟩, false, 1⟩
def iPush : In := ⟨28, 0, ⟨1, 0, 0, 0, 0, 0⟩, ⟨0, 0, 0, 0, 0, 0⟩, false, 1⟩
def iInt : In := ⟨43, 0, ⟨2, 0, 128, 0, 0, 0⟩, ⟨0, 0, 0, 0, 0, 0⟩, false, 2⟩
theorem kd1 : decI [64] = iInc ∧ decI [80] = iPush ∧ decI [205, 128] = iInt := by refine ⟨?_, ?_, ?_⟩ <;> kernel_rfl
theorem kd2 : decE [] = 10 ∧ decE [64] = 0 ∧ decE [80] = 0 ∧ decE [205] = 10 ∧ decE [205, 128] = 0 := by refine ⟨?_, ?_, ?_, ?_, ?_⟩ <;> kernel_rfl
theorem kd3 : isB iInc = true ∧ isB iPush = true ∧ isB iInt = true := by refine ⟨?_, ?_, ?_⟩ <;> kernel_rfl
def gK1 : Gs := { setr (goOn gz iInc) 0 (addR 0 1 false) with f := mixL (wrT 3) (fun _ => false) (addF 0 1 false) }
def gK2 : Gs := setr gK1 4 100
def gK3 : Gs := setr (goOn gK2 iPush) 4 96
def gK4 : Gs := goOn gK3 iInt
def kQ2 : Mm := wroteS kM 96 4 1
theorem ks1 : zsF kM 0 0 = [] ∧ zsF kM 0 1 = [64] ∧ zsF kM 1 0 = [] ∧ zsF kM 1 1 = [80] ∧ zsF kQ2 2 0 = [] ∧ zsF kQ2 2 1 = [205] ∧ zsF kQ2 2 2 = [205, 128] := by refine ⟨?_, ?_, ?_, ?_, ?_, ?_, ?_⟩ <;> kernel_rfl
theorem ks2 : lackL kM 0 4 1 = none ∧ lackL kM 1 4 1 = none ∧ lackL kQ2 2 4 1 = none ∧ lackL kQ2 3 4 1 = none := by refine ⟨?_, ?_, ?_, ?_⟩ <;> kernel_rfl
theorem ks3 : lackL kM 4294967292 2 4 = some 0 ∧ lackL kM 96 2 4 = none := by refine ⟨?_, ?_⟩ <;> kernel_rfl
theorem kQ2_ok : kQ2.ok := by
  have h := wroteM_ok kM_ok 96 (by decide) 4 1
  have e : wroteM kM 96 4 1 = kQ2 := by unfold wroteM; rw [show numL 4 = 4 from rfl, ks3.2]; rfl
  rwa [e] at h
section
variable {B : Nat}
theorem fe1 : FeY B kM 0 iInc := fun W hW tb => by
  have q := fetched_ok hW kM_ok tb 0 (by decide) 1 (by decide) (fun j hj => by obtain rfl : j = 0 := (by omega); exact ⟨by rw [ks1.1]; exact kd2.1, ks2.1⟩) (by rw [ks1.2.1]; exact kd2.2.1)
  rwa [ks1.2.1, kd1.1] at q
theorem fe2 : FeY B kM 1 iPush := fun W hW tb => by
  have q := fetched_ok hW kM_ok tb 1 (by decide) 1 (by decide) (fun j hj => by obtain rfl : j = 0 := (by omega); exact ⟨by rw [ks1.2.2.1]; exact kd2.1, ks2.2.1⟩) (by rw [ks1.2.2.2.1]; exact kd2.2.2.1)
  rwa [ks1.2.2.2.1, kd1.2.1] at q
theorem fe3 : FeY B kQ2 2 iInt := fun W hW tb => by
  have q := fetched_ok hW kQ2_ok tb 2 (by decide) 2 (by decide) (fun j hj => by
    rcases (by omega : j = 0 ∨ j = 1) with rfl | rfl
    · exact ⟨by rw [ks1.2.2.2.2.1]; exact kd2.1, ks2.2.2.1⟩
    · exact ⟨by rw [ks1.2.2.2.2.2.1]; exact kd2.2.2.2.1, ks2.2.2.2⟩) (by rw [ks1.2.2.2.2.2.2]; exact kd2.2.2.2.2)
  rwa [ks1.2.2.2.2.2.2, kd1.2.2] at q
theorem do1K : DoY B (goOn gz iInc) kM iInc gK1 kM := fun W G hG tb =>
  gdo12_yes hG iInc rfl (fun W' hG' b' => gchange_yes hG' iInc 0 0 (addR 0 1 false) (mixL (wrT 3) (fun _ => false) (addF 0 1 false)) (tb.below b') (by decide)
    (can_o B _ kM kM_ok _ rfl) (rd_reg B _ kM _ rfl) (rd_none B _ kM _ 4 rfl) (fun W2 t2 => do_inc 0 0 (fun _ => false) (by decide) (by decide) W2 t2) (wr_reg B _ kM iInc.A 0 (by decide) rfl rfl _))
theorem do2K : DoN B (goOn gK1 iPush) kM iPush 1 4294967292 2 := fun W G hG tb =>
  gdo28_no hG iPush rfl _ (fun W' hG' b' => (gstack_push_no hG' iPush _ _ _ rfl (rd_reg B _ kM iPush.A rfl) (wr_memN B _ kM kM_ok _ 4 _ rfl 0 ks3.1)).mono fun e w' h => ⟨h.1, But.of h.2 _⟩)
theorem do3K : DoY B (goOn gK2 iPush) kM iPush gK3 kQ2 := fun W G hG tb =>
  gdo28_yes hG iPush rfl (fun W' hG' b' => gstack_push_yes hG' iPush 1 rfl (rd_reg B _ kM iPush.A rfl) (wr_mem B _ kM kM_ok (atO (topL (goOn gK2 iPush))) 4 1 (by decide) rfl ks3.2))
theorem do4K : DoY B (goOn gK3 iInt) kQ2 iInt gK4 kQ2 := fun W G hG tb => gdo43 hG iInt rfl
end
end Go.Proofs.YtcdoidnfdkodoaaGreatDoor
