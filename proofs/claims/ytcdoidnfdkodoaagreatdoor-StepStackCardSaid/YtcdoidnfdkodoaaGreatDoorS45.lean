import Derived.Test.YtcdoidnfdkodoaaGreatDoorS44
import Derived.Test.YtcdoidnfdkodoaaGreatDoorS41
import Derived.Test.YtcdoidnfdkodoaaGreatDoorS12
namespace Go.Proofs.YtcdoidnfdkodoaaGreatDoor
open Go.RowKit
set_option linter.unusedVariables false
set_option linter.unusedSimpArgs false
set_option linter.unusedSectionVars false
theorem field32 (x : Int) (h : 0 ≤ x ∧ x ≤ 4294967295) (w : World) : Calls Tryz.prog 251 #[.int .u32 x, .int .i64 0, .int .i64 32] w fun e w' => e = .returned (.int .u32 x) ∧ w = w' := by
  have q := field_any x 0 32 h (by decide) w
  have e : fieldS x 0 32 = x := by
    show mov x 0 % 2 ^ held0 32 = x
    rw [show held0 32 = 32 from rfl, show mov x 0 = x by simp [mov], show (2 : Int) ^ 32 = 4294967296 from rfl]
    omega
  rw [e] at q
  exact q
set_option maxRecDepth 20000 in
theorem read_imm4 (p : Value) (g : Gs) (o : On) (hm : 0 ≤ o.m ∧ o.m ≤ 4294967295) (hk : o.k = 2) (w : World) : Calls Tryz.prog 230 #[p, stV g, opV o, .int .i64 4] w fun e w' => e = .returned (.int .u32 o.m) ∧ Below w.heap.size w w' := by
  obtain ⟨kS, kO, b0⟩ := stO w g o
  have c0 := kO.cell (i := 0) (v := .int .i64 o.k) rfl
  have c2 := kO.cell (i := 2) (v := .int .u32 o.m) rfl
  rw [hk] at c0
  have hR := Lib.hid (fun W => field32 o.m hm W)
  go_enter Tryz.func230, Tryz.ntmps230
  go_wp2_with (first | (with_reducible refine load_st rfl _ rfl w.heap.size (stA g) rfl kS rfl ?_) | ((with_reducible refine (hR.out _).mono ?_); rintro e w1 ⟨rfl, rfl⟩))
  go_ret
  exact ⟨rfl, b0⟩
theorem rd_imm (B : Nat) (g : Gs) (m : Mm) (o : On) (hk : o.k = 2) (hm : 0 ≤ o.m ∧ o.m ≤ 4294967295) : RdY B g m o 4 o.m := fun W hW => oRead_yes hW g o 4 o.m (fun W' _ => read_imm4 (mp B) g o hm hk W')
section
variable {w : World} {G B : Nat} {g g' : Gs} {m m' : Mm}
set_option maxRecDepth 20000 in
theorem gtarget_imm (h : GuAt w G B g m) (i : In) (hk : i.A.k = 2) (v : Int) (hA : RdY B g m i.A 4 v) : Calls Tryz.prog 167 #[mp G, inV i] w fun e w' => e = .returned (.int .u32 ((g.pc + v) % 4294967296)) ∧ Below w.heap.size w w' := by
  have qA := Lib.hid (fun W (hW : GuAt W G B g m) => gread_yes hW i.A 4 v hA)
  clear hA
  have b0 := (Below.refl w.heap.size w).alloc (Nat.le_refl _) (.cells (in16 i) 33)
  have kI := Blk.new w 33 (in16 i)
  have hg := h.below b0
  go_enter Tryz.func167, Tryz.ntmps167
  go_wp2_with (first | (with_reducible refine load_iA rfl _ rfl rfl kI ?_) | ((with_reducible refine (qA.out _ hg).mono ?_); rintro e w1 ⟨rfl, b1⟩; have hg1 := hg.below b1; have kI1 := kI.below b1 kI.lt; have c2 := kI1.cell (i := 2) (v := .int .i64 2) (congrArg (fun z => some (Value.int .i64 z)) hk); have c9 := hg1.c.cell (i := 9) (v := .int .u32 g.pc) rfl))
  go_ret
  exact ⟨rfl, b0.trans (b1.mono b0.size)⟩
set_option maxRecDepth 20000 in
theorem gjump_no (h : GuAt w G B g m) (i : In) (hop : i.op = 33) (hc : 0 ≤ i.c ∧ i.c ≤ 15) (hq : condL g.f i.c.toNat = false) : Calls Tryz.prog 124 #[mp G, inV i] w fun e w' => e = .returned (.tuple #[]) ∧ GuAt w' G B g m ∧ But [G, B] w.heap.size w w' := by
  have qH := Lib.hid (fun W (hW : GuAt W G B g m) => gholds hW i hc)
  rw [hq] at qH
  clear hq
  have b0 := (Below.refl w.heap.size w).alloc (Nat.le_refl _) (.cells (in16 i) 33)
  have kI := Blk.new w 33 (in16 i)
  have hg := h.below b0
  have c0 := kI.cell (i := 0) (v := .int .i64 i.op) rfl
  rw [hop] at c0
  go_enter Tryz.func124, Tryz.ntmps124
  go_wp2_with (first | (with_reducible refine load_in rfl _ rfl rfl kI ?_) | ((with_reducible refine (qH.out _ hg).mono ?_); rintro e w1 ⟨rfl, b1⟩; have hg1 := hg.below b1))
  exact bodyPost_end (v := .tuple #[]) (by simp [results, Tryz.results124, go_sem]) rfl ⟨rfl, hg1, But.of (b0.trans (b1.mono b0.size)) _⟩
set_option maxRecDepth 20000 in
theorem gjump_yes (h : GuAt w G B g m) (i : In) (hop : i.op = 33) (hc : 0 ≤ i.c ∧ i.c ≤ 15) (hq : condL g.f i.c.toNat = true) (hk : i.A.k = 2) (v : Int) (hA : RdY B g m i.A 4 v) : Calls Tryz.prog 124 #[mp G, inV i] w fun e w' => e = .returned (.tuple #[]) ∧ GuAt w' G B { g with pc := (g.pc + v) % 4294967296 } m ∧ But [G, B] w.heap.size w w' := by
  have qH := Lib.hid (fun W (hW : GuAt W G B g m) => gholds hW i hc)
  have qT := Lib.hid (fun W (hW : GuAt W G B g m) => gtarget_imm hW i hk v hA)
  rw [hq] at qH
  clear hq hA
  generalize (g.pc + v) % 4294967296 = t0 at *
  have b0 := (Below.refl w.heap.size w).alloc (Nat.le_refl _) (.cells (in16 i) 33)
  have kI := Blk.new w 33 (in16 i)
  have hg := h.below b0
  have c0 := kI.cell (i := 0) (v := .int .i64 i.op) rfl
  rw [hop] at c0
  go_enter Tryz.func124, Tryz.ntmps124
  go_wp2_with (first | (with_reducible refine load_in rfl _ rfl rfl kI ?_) | ((with_reducible refine (qH.out _ hg).mono ?_); rintro e w1 ⟨rfl, b1⟩; have hg1 := hg.below b1; have kI1 := kI.below b1 kI.lt) | (with_reducible refine load_in rfl _ rfl rfl kI1 ?_) | ((with_reducible refine (qT.out _ hg1).mono ?_); rintro e w2 ⟨rfl, b2⟩; have hg2 := hg1.below b2; have c9 := hg2.c.cell (i := 9) (v := .int .u32 g.pc) rfl; have f9 := hg2.c.fr 9))
  obtain ⟨hg3, b3⟩ := hg2.pc t0
  have bb := (b0.trans (b1.mono b0.size)).trans (b2.mono (Nat.le_trans b0.size b1.size))
  exact bodyPost_end (v := .tuple #[]) (by simp [results, Tryz.results124, go_sem]) rfl ⟨rfl, hg3, (But.of bb [G, B]).trans (b3.mono (S' := [G, B]) bb.size (fun k hk => .inl (by simp at hk ⊢; omega)))⟩
end
end Go.Proofs.YtcdoidnfdkodoaaGreatDoor
namespace Go.Proofs.YtcdoidnfdkodoaaGreatDoor
open Go.RowKit
set_option linter.unusedVariables false
set_option linter.unusedSimpArgs false
set_option linter.unusedSectionVars false
section
variable {w : World} {G B : Nat} {g g' : Gs} {m m' : Mm}
set_option maxRecDepth 20000 in
theorem gdo33_yes (h : GuAt w G B g m) (i : In) (hop : i.op = 33) (hm : ∀ W, GuAt W G B g m → Below w.heap.size w W → Calls Tryz.prog 124 #[mp G, inV i] W fun e w' => e = .returned (.tuple #[]) ∧ GuAt w' G B g' m' ∧ But [G, B] W.heap.size W w') : Calls Tryz.prog 76 #[mp G, inV i] w fun e w' => e = .returned (.tuple #[]) ∧ GuAt w' G B g' m' ∧ But [G, B] w.heap.size w w' := by
  have qM := Lib.hid hm
  clear hm
  have b0 := (Below.refl w.heap.size w).alloc (Nat.le_refl _) (.cells (in16 i) 33)
  have kI := Blk.new w 33 (in16 i)
  have hg := h.below b0
  have c0 := kI.cell (i := 0) (v := .int .i64 i.op) rfl
  rw [hop] at c0
  go_enter Tryz.func76, Tryz.ntmps76
  go_wp2_with (first | (with_reducible refine load_in rfl _ rfl rfl kI ?_) | ((with_reducible refine (qM.out _ hg b0).mono ?_); rintro e w2 ⟨rfl, hg2, b2⟩))
  exact bodyPost_end (v := .tuple #[]) (by simp [results, Tryz.results76, go_sem]) rfl ⟨rfl, hg2, (But.of b0 [G, B]).trans (b2.mono (S' := [G, B]) b0.size (fun k hk => .inl hk))⟩
set_option maxRecDepth 20000 in
theorem gdo34_yes (h : GuAt w G B g m) (i : In) (hop : i.op = 34) (hm : ∀ W, GuAt W G B g m → Below w.heap.size w W → Calls Tryz.prog 118 #[mp G, inV i] W fun e w' => e = .returned (.tuple #[]) ∧ GuAt w' G B g' m' ∧ But [G, B] W.heap.size W w') : Calls Tryz.prog 76 #[mp G, inV i] w fun e w' => e = .returned (.tuple #[]) ∧ GuAt w' G B g' m' ∧ But [G, B] w.heap.size w w' := by
  have qM := Lib.hid hm
  clear hm
  have b0 := (Below.refl w.heap.size w).alloc (Nat.le_refl _) (.cells (in16 i) 33)
  have kI := Blk.new w 33 (in16 i)
  have hg := h.below b0
  have c0 := kI.cell (i := 0) (v := .int .i64 i.op) rfl
  rw [hop] at c0
  go_enter Tryz.func76, Tryz.ntmps76
  go_wp2_with (first | (with_reducible refine load_in rfl _ rfl rfl kI ?_) | ((with_reducible refine (qM.out _ hg b0).mono ?_); rintro e w2 ⟨rfl, hg2, b2⟩))
  exact bodyPost_end (v := .tuple #[]) (by simp [results, Tryz.results76, go_sem]) rfl ⟨rfl, hg2, (But.of b0 [G, B]).trans (b2.mono (S' := [G, B]) b0.size (fun k hk => .inl hk))⟩
set_option maxRecDepth 20000 in
theorem gdo35_yes (h : GuAt w G B g m) (i : In) (hop : i.op = 35) (hm : ∀ W, GuAt W G B g m → Below w.heap.size w W → Calls Tryz.prog 118 #[mp G, inV i] W fun e w' => e = .returned (.tuple #[]) ∧ GuAt w' G B g' m' ∧ But [G, B] W.heap.size W w') : Calls Tryz.prog 76 #[mp G, inV i] w fun e w' => e = .returned (.tuple #[]) ∧ GuAt w' G B g' m' ∧ But [G, B] w.heap.size w w' := by
  have qM := Lib.hid hm
  clear hm
  have b0 := (Below.refl w.heap.size w).alloc (Nat.le_refl _) (.cells (in16 i) 33)
  have kI := Blk.new w 33 (in16 i)
  have hg := h.below b0
  have c0 := kI.cell (i := 0) (v := .int .i64 i.op) rfl
  rw [hop] at c0
  go_enter Tryz.func76, Tryz.ntmps76
  go_wp2_with (first | (with_reducible refine load_in rfl _ rfl rfl kI ?_) | ((with_reducible refine (qM.out _ hg b0).mono ?_); rintro e w2 ⟨rfl, hg2, b2⟩))
  exact bodyPost_end (v := .tuple #[]) (by simp [results, Tryz.results76, go_sem]) rfl ⟨rfl, hg2, (But.of b0 [G, B]).trans (b2.mono (S' := [G, B]) b0.size (fun k hk => .inl hk))⟩
end
theorem wr_reg1 (B : Nat) (g : Gs) (h : g.ok) (m : Mm) (o : On) (j : Nat) (hj : j < 8) (hk : o.k = 1) (hr : o.r = j) (v : Int) (hv : 0 ≤ v ∧ v ≤ 4294967295) : WrY B g m o 1 v (setb g j v) m := fun W hW => Write_reg1 hW g h o v hv j hj hk hr
section
variable {B : Nat} {g g' : Gs} {m m' : Mm}
theorem doY_set (i : In) (hop : i.op = 34) (hc : 0 ≤ i.c ∧ i.c ≤ 15) (hr : WrY B g m i.A 1 (bif condL g.f i.c.toNat then 1 else 0) g' m') : DoY B g m i g' m' := fun W G hG tb =>
  gdo34_yes hG i hop (fun W' hG' _ => gmove_set hG' i hop hc hr)
theorem doY_cmov_yes (i : In) (hop : i.op = 35) (hc : 0 ≤ i.c ∧ i.c ≤ 15) (v : Int) (hB : RdY B g m i.B 4 v) (hq : condL g.f i.c.toNat = true) (hr : WrY B g m i.A 4 v g' m') : DoY B g m i g' m' := fun W G hG tb =>
  gdo35_yes hG i hop (fun W' hG' _ => gmove_cmov hG' i hop (fun W2 hG2 => gchoose_yes hG2 i v hc hB hq hr))
theorem doY_cmov_no (i : In) (hop : i.op = 35) (hc : 0 ≤ i.c ∧ i.c ≤ 15) (v : Int) (hB : RdY B g m i.B 4 v) (hq : condL g.f i.c.toNat = false) : DoY B g m i g m := fun W G hG tb =>
  gdo35_yes hG i hop (fun W' hG' _ => gmove_cmov hG' i hop (fun W2 hG2 => gchoose_no hG2 i v hc hB hq))
theorem doY_jcc_yes (i : In) (hop : i.op = 33) (hc : 0 ≤ i.c ∧ i.c ≤ 15) (hq : condL g.f i.c.toNat = true) (hk : i.A.k = 2) (hm : 0 ≤ i.A.m ∧ i.A.m ≤ 4294967295) : DoY B g m i { g with pc := (g.pc + i.A.m) % 4294967296 } m := fun W G hG tb =>
  gdo33_yes hG i hop (fun W' hG' _ => gjump_yes hG' i hop hc hq hk i.A.m (rd_imm B g m i.A hk hm))
theorem doY_jcc_no (i : In) (hop : i.op = 33) (hc : 0 ≤ i.c ∧ i.c ≤ 15) (hq : condL g.f i.c.toNat = false) : DoY B g m i g m := fun W G hG tb =>
  gdo33_yes hG i hop (fun W' hG' _ => gjump_no hG' i hop hc hq)
end
def oz : On := ⟨0, 0, 0, 0, 0, 0⟩
def iSet (c : Int) : In := ⟨34, c, ⟨1, 0, 0, 0, 0, 0⟩, oz, false, 3⟩
def iCmov (c : Int) : In := ⟨35, c, ⟨1, 1, 0, 0, 0, 0⟩, ⟨1, 2, 0, 0, 0, 0⟩, false, 3⟩
def iJcc (c d : Int) : In := ⟨33, c, ⟨2, 0, d, 0, 0, 0⟩, oz, false, 2⟩
theorem sixteen {P : Int → Prop} (h : ∀ n : Nat, n < 16 → P n) (c : Int) (hc : 0 ≤ c ∧ c ≤ 15) : P c := by
  obtain ⟨n, rfl⟩ := Int.eq_ofNat_of_zero_le hc.1
  exact h n (by omega)
theorem isB_set (c : Int) (hc : 0 ≤ c ∧ c ≤ 15) : isB (iSet c) = true := sixteen (P := fun c => isB (iSet c) = true) (by decide) c hc
theorem isB_cmov (c : Int) (hc : 0 ≤ c ∧ c ≤ 15) : isB (iCmov c) = true := sixteen (P := fun c => isB (iCmov c) = true) (by decide) c hc
theorem takes_jcc (d : Int) : takesB 16 (cA ⟨2, 0, d, 0, 0, 0⟩) (cA oz) = true := by
  rw [show cA ⟨2, 0, d, 0, 0, 0⟩ = numA d from rfl]
  unfold numA
  cases d == 128 <;> cases decide (d < 256) <;> decide
theorem isB_jcc (c d : Int) (hc : 0 ≤ c ∧ c ≤ 15) : isB (iJcc c d) = true := by
  have q := takes_jcc d
  have e : isB (iJcc c d) = (decide ((0 : Int) ≤ 2) && decide ((2 : Int) ≤ 15) && (rR 16 || !false) && knowsB 16 c && takesB 16 (cA ⟨2, 0, d, 0, 0, 0⟩) (cA oz)) := by
    unfold isB iJcc
    rw [show rowN 33 = 16 from by decide]
  rw [e, q]
  exact sixteen (P := fun c => (decide ((0 : Int) ≤ 2) && decide ((2 : Int) ≤ 15) && (rR 16 || !false) && knowsB 16 c && true) = true) (by decide) c hc
end Go.Proofs.YtcdoidnfdkodoaaGreatDoor
namespace Go.Proofs.YtcdoidnfdkodoaaGreatDoor
open Go.RowKit
set_option linter.unusedVariables false
set_option linter.unusedSimpArgs false
set_option linter.unusedSectionVars false
theorem flip16 : ∀ c : Nat, c < 16 → (c ^^^ 1) / 2 = c / 2 ∧ ((c ^^^ 1) % 2 == 1) = !(c % 2 == 1) ∧ c ^^^ 1 < 16 := by decide
theorem condL_flip (f : Nat → Bool) (c : Nat) (hc : c < 16) : condL f (c ^^^ 1) = !condL f c := by
  obtain ⟨h1, h2, -⟩ := flip16 c hc
  unfold condL
  rw [h1, h2]
  cases evenL f (c / 2) <;> cases (c % 2 == 1) <;> rfl
theorem setB0 (x v : Int) (hx : 0 ≤ x) (hv : 0 ≤ v ∧ v ≤ 1) : setB x 0 v % 256 = v ∧ setB x 0 v / 256 = x / 256 := by
  unfold setB
  rw [if_pos rfl]
  omega
theorem goOn_ok {g : Gs} (h : g.ok) (i : In) : (goOn g i).ok := ⟨h.r, by show 0 ≤ (g.pc + i.len) % 4294967296 ∧ (g.pc + i.len) % 4294967296 ≤ 4294967295; omega, h.x⟩
def cq (g : Gs) (c : Int) : Int := bif condL g.f c.toNat then 1 else 0
theorem cq_bd (g : Gs) (c : Int) : 0 ≤ cq g c ∧ cq g c ≤ 1 := by
  unfold cq
  cases condL g.f c.toNat <;> decide
section
variable {w : World} {B : Nat} {m : Mm}
theorem do_set (h : PAt w B m) (tabs : Tb w) (g : Gs) (ok : g.ok) (c : Int) (hc : 0 ≤ c ∧ c ≤ 15) : Calls Tryz.prog 19 #[mp B, stV g, inV (iSet c)] w fun e w' => e = .returned (.tuple #[stV (setb (goOn g (iSet c)) 0 (cq g c)), fltV 0 0 0 0, .bool true]) ∧ PAt w' B m ∧ But [B] w.heap.size w w' :=
  Do_yes h tabs g (iSet c) (isB_set c hc) ⟨(by decide : (0 : Int) ≤ 3), (by decide : (3 : Int) ≤ 15)⟩ _ m (doY_set (iSet c) rfl hc (wr_reg1 B _ (goOn_ok ok _) m _ 0 (by decide) rfl rfl _ (by have := cq_bd g c; exact ⟨this.1, by have := this.2; show cq g c ≤ 4294967295; omega⟩)))
theorem do_cmov_yes (h : PAt w B m) (tabs : Tb w) (g : Gs) (c : Int) (hc : 0 ≤ c ∧ c ≤ 15) (hq : condL g.f c.toNat = true) : Calls Tryz.prog 19 #[mp B, stV g, inV (iCmov c)] w fun e w' => e = .returned (.tuple #[stV (setr (goOn g (iCmov c)) 1 (g.r 2)), fltV 0 0 0 0, .bool true]) ∧ PAt w' B m ∧ But [B] w.heap.size w w' :=
  Do_yes h tabs g (iCmov c) (isB_cmov c hc) ⟨(by decide : (0 : Int) ≤ 3), (by decide : (3 : Int) ≤ 15)⟩ _ m (doY_cmov_yes (iCmov c) rfl hc (g.r 2) (rd_reg B _ m _ rfl) hq (wr_reg B _ m _ 1 (by decide) rfl rfl _))
theorem do_cmov_no (h : PAt w B m) (tabs : Tb w) (g : Gs) (c : Int) (hc : 0 ≤ c ∧ c ≤ 15) (hq : condL g.f c.toNat = false) : Calls Tryz.prog 19 #[mp B, stV g, inV (iCmov c)] w fun e w' => e = .returned (.tuple #[stV (goOn g (iCmov c)), fltV 0 0 0 0, .bool true]) ∧ PAt w' B m ∧ But [B] w.heap.size w w' :=
  Do_yes h tabs g (iCmov c) (isB_cmov c hc) ⟨(by decide : (0 : Int) ≤ 3), (by decide : (3 : Int) ≤ 15)⟩ _ m (doY_cmov_no (iCmov c) rfl hc (g.r 2) (rd_reg B _ m _ rfl) hq)
theorem do_jcc_yes (h : PAt w B m) (tabs : Tb w) (g : Gs) (c d : Int) (hc : 0 ≤ c ∧ c ≤ 15) (hd : 0 ≤ d ∧ d ≤ 4294967295) (hq : condL g.f c.toNat = true) : Calls Tryz.prog 19 #[mp B, stV g, inV (iJcc c d)] w fun e w' => e = .returned (.tuple #[stV { g with pc := ((g.pc + 2) % 4294967296 + d) % 4294967296 }, fltV 0 0 0 0, .bool true]) ∧ PAt w' B m ∧ But [B] w.heap.size w w' :=
  Do_yes h tabs g (iJcc c d) (isB_jcc c d hc) ⟨(by decide : (0 : Int) ≤ 2), (by decide : (2 : Int) ≤ 15)⟩ _ m (doY_jcc_yes (g := goOn g (iJcc c d)) (iJcc c d) rfl hc hq rfl hd)
theorem do_jcc_no (h : PAt w B m) (tabs : Tb w) (g : Gs) (c d : Int) (hc : 0 ≤ c ∧ c ≤ 15) (hq : condL g.f c.toNat = false) : Calls Tryz.prog 19 #[mp B, stV g, inV (iJcc c d)] w fun e w' => e = .returned (.tuple #[stV { g with pc := (g.pc + 2) % 4294967296 }, fltV 0 0 0 0, .bool true]) ∧ PAt w' B m ∧ But [B] w.heap.size w w' :=
  Do_yes h tabs g (iJcc c d) (isB_jcc c d hc) ⟨(by decide : (0 : Int) ≤ 2), (by decide : (2 : Int) ≤ 15)⟩ _ m (doY_jcc_no (g := goOn g (iJcc c d)) (iJcc c d) rfl hc hq)
end
end Go.Proofs.YtcdoidnfdkodoaaGreatDoor
