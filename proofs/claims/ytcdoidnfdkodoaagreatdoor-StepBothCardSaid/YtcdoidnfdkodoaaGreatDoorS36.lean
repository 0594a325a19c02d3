import Derived.Test.YtcdoidnfdkodoaaGreatDoorS16
import Derived.Test.YtcdoidnfdkodoaaGreatDoorS20
namespace Go.Proofs.YtcdoidnfdkodoaaGreatDoor
open Go.RowKit
set_option linter.unusedVariables false
set_option linter.unusedSimpArgs false
set_option linter.unusedSectionVars false
def goOn (g : Gs) (i : In) : Gs := { g with pc := (g.pc + i.len) % 4294967296 }
abbrev DoY (B : Nat) (g : Gs) (m : Mm) (i : In) (g' : Gs) (m' : Mm) : Prop := ∀ W G, GuAt W G B g m → TabsA W → Calls Tryz.prog 76 #[mp G, inV i] W fun e w' => e = .returned (.tuple #[]) ∧ GuAt w' G B g' m' ∧ But [G, B] W.heap.size W w'
abbrev DoN (B : Nat) (g : Gs) (m : Mm) (i : In) (k a t : Int) : Prop := ∀ W G, GuAt W G B g m → TabsA W → Calls Tryz.prog 76 #[mp G, inV i] W fun e w' => e = .panicked (fltQ k a t) ∧ But [G] W.heap.size W w'
theorem TabsA.but {W W' : World} {S : List Nat} (h : TabsA W) (b : But S W.heap.size W W') (hS : 3 ∉ S) : TabsA W' := by
  obtain ⟨h0, h1⟩ := h
  refine ⟨Nat.le_trans h0 b.size, fun k hk i hi => ?_⟩
  have e := b.block 3 (by omega) hS
  have := h1 k hk i hi
  simp only [World.cell?] at this ⊢
  rw [e]; exact this
set_option maxRecDepth 20000 in
set_option maxHeartbeats 2000000 in
theorem done_yes {w : World} {B : Nat} {m : Mm} (h : PAt w B m) (tabs : TabsA w) (g : Gs) (i : In) (hl : 0 ≤ i.len ∧ i.len ≤ 15) (g' : Gs) (m' : Mm) (hd : DoY B (goOn g i) m i g' m') : Calls Tryz.prog 42 #[mp B, stV g, inV i] w fun e w' => e = .returned (stV g') ∧ PAt w' B m' ∧ But [B] w.heap.size w w' := by
  have hD := Lib.hid hd
  clear hd
  have b0 := (((Below.refl w.heap.size w).alloc (Nat.le_refl _) (.cells (stA g) 29)).alloc (by simp) (.cells (in16 i) 33)).alloc (by simp; omega) (.cells #[.int .u32 0, .int .u32 0, .int .u32 0, .int .u32 0, .int .u32 0, .int .u32 0, .int .u32 0, .int .u32 0, .int .u32 0, .bool false, .bool false, .bool false, .bool false, .bool false, .bool false, .bool false, .int .u64 0] 29)
  have kS := ((Blk.new w 29 (stA g)).alloc (.cells (in16 i) 33)).alloc (.cells #[.int .u32 0, .int .u32 0, .int .u32 0, .int .u32 0, .int .u32 0, .int .u32 0, .int .u32 0, .int .u32 0, .int .u32 0, .bool false, .bool false, .bool false, .bool false, .bool false, .bool false, .bool false, .int .u64 0] 29)
  have kI := (Blk.new (w.alloc (.cells (stA g) 29)) 33 (in16 i)).alloc (.cells #[.int .u32 0, .int .u32 0, .int .u32 0, .int .u32 0, .int .u32 0, .int .u32 0, .int .u32 0, .int .u32 0, .int .u32 0, .bool false, .bool false, .bool false, .bool false, .bool false, .bool false, .bool false, .int .u64 0] 29)
  have kR := Blk.new ((w.alloc (.cells (stA g) 29)).alloc (.cells (in16 i) 33)) 29 #[.int .u32 0, .int .u32 0, .int .u32 0, .int .u32 0, .int .u32 0, .int .u32 0, .int .u32 0, .int .u32 0, .int .u32 0, .bool false, .bool false, .bool false, .bool false, .bool false, .bool false, .bool false, .int .u64 0]
  simp only [World.size_alloc] at kI kR
  have nB := Lib.hid (show B < w.heap.size from h.lt)
  have p0 := h.below b0 h.lt
  have sz : (((w.alloc (.cells (stA g) 29)).alloc (.cells (in16 i) 33)).alloc (.cells #[.int .u32 0, .int .u32 0, .int .u32 0, .int .u32 0, .int .u32 0, .int .u32 0, .int .u32 0, .int .u32 0, .int .u32 0, .bool false, .bool false, .bool false, .bool false, .bool false, .bool false, .bool false, .int .u64 0] 29)).heap.size = w.heap.size + 3 := by simp
  have tb := tabs.below b0
  clear h tabs
  go_enter Tryz.func42, Tryz.ntmps42
  go_upto_region 1 with fail
  generalize ((w.alloc (.cells (stA g) 29)).alloc (.cells (in16 i) 33)).alloc (.cells #[.int .u32 0, .int .u32 0, .int .u32 0, .int .u32 0, .int .u32 0, .int .u32 0, .int .u32 0, .int .u32 0, .int .u32 0, .bool false, .bool false, .bool false, .bool false, .bool false, .bool false, .bool false, .int .u64 0] 29) = W0 at *
  have hsz := Lib.hid sz
  clear sz
  go_upto_region 2 with (first | (with_reducible refine load_st rfl _ rfl w.heap.size (stA g) rfl kS rfl ?_))
  have kG := Blk.new W0 121 (guA B g)
  have bg := (Below.refl W0.heap.size W0).alloc (Nat.le_refl _) (.cells (guA B g) 121)
  have hG : GuAt (W0.alloc (.cells (guA B g) 121)) W0.heap.size B g m := ⟨p0.below bg p0.lt, kG, by have := nB.out; have := hsz.out; omega⟩
  replace kI := kI.below bg kI.lt
  replace kR := kR.below bg kR.lt
  replace tb := tb.below bg
  replace b0 := b0.trans (bg.mono b0.size)
  clear kS kG bg p0
  generalize W0.alloc (.cells (guA B g) 121) = W1 at *
  generalize hGn : W0.heap.size = G at *
  have c9 := hG.c.cell (i := 9) (v := .int .u32 g.pc) rfl
  have f9 := hG.c.fr 9
  have c15 := kI.cell (i := 15) (v := .int .i64 i.len) rfl
  have hw : i.len % 4294967296 = i.len := by omega
  have nGI := Lib.hid (show w.heap.size + 1 ≠ G by have := hsz.out; omega)
  have nGR := Lib.hid (show w.heap.size + 1 + 1 ≠ G by have := hsz.out; omega)
  have nG3 := Lib.hid (show 3 ∉ [G] by have := tb.1; have := hsz.out; have := nB.out; simp; omega)
  go_region
  obtain ⟨hG2, b2⟩ := hG.pc ((g.pc + i.len) % 4294967296)
  replace hG2 := hG2.drew
  replace b2 := b2.drew
  change GuAt _ G B (goOn g i) m at hG2
  have zw := Lib.hid b0.size
  replace kI := kI.but b2 kI.lt (by have := nGI.out; simpa using this)
  replace kR := kR.but b2 kR.lt (by have := nGR.out; simpa using this)
  replace tb := tb.but b2 nG3.out
  replace b0 := b0.trans (b2.below b0.size (by have := hsz.out; simp; omega))
  clear c9 f9 c15 b2 hG
  generalize (W1.setCell ⟨G, 9, none⟩ (.int .u32 ((g.pc + i.len) % 4294967296))).drew = W2 at *
  clear zw
  go_upto_region 4 with (first | (with_reducible refine load_in rfl _ rfl (K := w.heap.size + 1) (i := i) rfl kI ?_) | ((with_reducible refine (hD.out _ G hG2 tb).mono ?_); rintro e W3 ⟨rfl, hG4, b4⟩))
  replace kR := kR.but b4 kR.lt (by have := nGR.out; have := nB.out; simp; omega)
  have b6 := (But.of b0 [B]).trans (b4.mono (S' := [B]) b0.size (fun k hk => by have := hsz.out; simp at hk ⊢; omega))
  go_wp2_with (first | (with_reducible refine load_gst rfl _ rfl rfl hG4 ?_) | ((with_reducible refine store_st rfl _ _ rfl (w.heap.size + 1 + 1) (stA g') #[.int .u32 0, .int .u32 0, .int .u32 0, .int .u32 0, .int .u32 0, .int .u32 0, .int .u32 0, .int .u32 0, .int .u32 0, .bool false, .bool false, .bool false, .bool false, .bool false, .bool false, .bool false, .int .u64 0] rfl rfl kR rfl rfl (stA_all _) ?_); intro W5 kR5 b5 s5))
  have p5 := hG4.p.but b5 hG4.p.lt (by have := nB.out; simp; omega)
  have b7 := b6.trans (b5.mono (S' := [B]) b6.size (fun k hk => by simp at hk ⊢; omega))
  have s20 := kR5.cell (i := 0) rfl
  have s21 := kR5.cell (i := 1) rfl
  have s22 := kR5.cell (i := 2) rfl
  have s23 := kR5.cell (i := 3) rfl
  have s24 := kR5.cell (i := 4) rfl
  have s25 := kR5.cell (i := 5) rfl
  have s26 := kR5.cell (i := 6) rfl
  have s27 := kR5.cell (i := 7) rfl
  have s28 := kR5.cell (i := 8) rfl
  have s29 := kR5.cell (i := 9) rfl
  have s30 := kR5.cell (i := 10) rfl
  have s31 := kR5.cell (i := 11) rfl
  have s32 := kR5.cell (i := 12) rfl
  have s33 := kR5.cell (i := 13) rfl
  have s34 := kR5.cell (i := 14) rfl
  have s35 := kR5.cell (i := 15) rfl
  have s36 := kR5.cell (i := 16) rfl
  go_wp2_with fail
  exact bodyPost_ret (v := stV g') (by simp [results, Tryz.results42, go_sem, s20, s21, s22, s23, s24, s25, s26, s27, s28, s29, s30, s31, s32, s33, s34, s35, s36]) rfl ⟨rfl, p5, b7⟩
set_option maxRecDepth 20000 in
set_option maxHeartbeats 2000000 in
theorem done_no {w : World} {B : Nat} {m : Mm} (h : PAt w B m) (tabs : TabsA w) (g : Gs) (i : In) (hl : 0 ≤ i.len ∧ i.len ≤ 15) (k a t : Int) (hd : DoN B (goOn g i) m i k a t) : Calls Tryz.prog 42 #[mp B, stV g, inV i] w fun e w' => e = .panicked (fltQ k a t) ∧ Below w.heap.size w w' := by
  have hD := Lib.hid hd
  clear hd
  have b0 := (((Below.refl w.heap.size w).alloc (Nat.le_refl _) (.cells (stA g) 29)).alloc (by simp) (.cells (in16 i) 33)).alloc (by simp; omega) (.cells #[.int .u32 0, .int .u32 0, .int .u32 0, .int .u32 0, .int .u32 0, .int .u32 0, .int .u32 0, .int .u32 0, .int .u32 0, .bool false, .bool false, .bool false, .bool false, .bool false, .bool false, .bool false, .int .u64 0] 29)
  have kS := ((Blk.new w 29 (stA g)).alloc (.cells (in16 i) 33)).alloc (.cells #[.int .u32 0, .int .u32 0, .int .u32 0, .int .u32 0, .int .u32 0, .int .u32 0, .int .u32 0, .int .u32 0, .int .u32 0, .bool false, .bool false, .bool false, .bool false, .bool false, .bool false, .bool false, .int .u64 0] 29)
  have kI := (Blk.new (w.alloc (.cells (stA g) 29)) 33 (in16 i)).alloc (.cells #[.int .u32 0, .int .u32 0, .int .u32 0, .int .u32 0, .int .u32 0, .int .u32 0, .int .u32 0, .int .u32 0, .int .u32 0, .bool false, .bool false, .bool false, .bool false, .bool false, .bool false, .bool false, .int .u64 0] 29)
  have kR := Blk.new ((w.alloc (.cells (stA g) 29)).alloc (.cells (in16 i) 33)) 29 #[.int .u32 0, .int .u32 0, .int .u32 0, .int .u32 0, .int .u32 0, .int .u32 0, .int .u32 0, .int .u32 0, .int .u32 0, .bool false, .bool false, .bool false, .bool false, .bool false, .bool false, .bool false, .int .u64 0]
  simp only [World.size_alloc] at kI kR
  have nB := Lib.hid (show B < w.heap.size from h.lt)
  have p0 := h.below b0 h.lt
  have sz : (((w.alloc (.cells (stA g) 29)).alloc (.cells (in16 i) 33)).alloc (.cells #[.int .u32 0, .int .u32 0, .int .u32 0, .int .u32 0, .int .u32 0, .int .u32 0, .int .u32 0, .int .u32 0, .int .u32 0, .bool false, .bool false, .bool false, .bool false, .bool false, .bool false, .bool false, .int .u64 0] 29)).heap.size = w.heap.size + 3 := by simp
  have tb := tabs.below b0
  clear h tabs
  go_enter Tryz.func42, Tryz.ntmps42
  go_upto_region 1 with fail
  generalize ((w.alloc (.cells (stA g) 29)).alloc (.cells (in16 i) 33)).alloc (.cells #[.int .u32 0, .int .u32 0, .int .u32 0, .int .u32 0, .int .u32 0, .int .u32 0, .int .u32 0, .int .u32 0, .int .u32 0, .bool false, .bool false, .bool false, .bool false, .bool false, .bool false, .bool false, .int .u64 0] 29) = W0 at *
  have hsz := Lib.hid sz
  clear sz
  go_upto_region 2 with (first | (with_reducible refine load_st rfl _ rfl w.heap.size (stA g) rfl kS rfl ?_))
  have kG := Blk.new W0 121 (guA B g)
  have bg := (Below.refl W0.heap.size W0).alloc (Nat.le_refl _) (.cells (guA B g) 121)
  have hG : GuAt (W0.alloc (.cells (guA B g) 121)) W0.heap.size B g m := ⟨p0.below bg p0.lt, kG, by have := nB.out; have := hsz.out; omega⟩
  replace kI := kI.below bg kI.lt
  replace kR := kR.below bg kR.lt
  replace tb := tb.below bg
  replace b0 := b0.trans (bg.mono b0.size)
  clear kS kG bg p0
  generalize W0.alloc (.cells (guA B g) 121) = W1 at *
  generalize hGn : W0.heap.size = G at *
  have c9 := hG.c.cell (i := 9) (v := .int .u32 g.pc) rfl
  have f9 := hG.c.fr 9
  have c15 := kI.cell (i := 15) (v := .int .i64 i.len) rfl
  have hw : i.len % 4294967296 = i.len := by omega
  have nGI := Lib.hid (show w.heap.size + 1 ≠ G by have := hsz.out; omega)
  have nGR := Lib.hid (show w.heap.size + 1 + 1 ≠ G by have := hsz.out; omega)
  have nG3 := Lib.hid (show 3 ∉ [G] by have := tb.1; have := hsz.out; have := nB.out; simp; omega)
  go_region
  obtain ⟨hG2, b2⟩ := hG.pc ((g.pc + i.len) % 4294967296)
  replace hG2 := hG2.drew
  replace b2 := b2.drew
  change GuAt _ G B (goOn g i) m at hG2
  have zw := Lib.hid b0.size
  replace kI := kI.but b2 kI.lt (by have := nGI.out; simpa using this)
  replace kR := kR.but b2 kR.lt (by have := nGR.out; simpa using this)
  replace tb := tb.but b2 nG3.out
  replace b0 := b0.trans (b2.below b0.size (by have := hsz.out; simp; omega))
  clear c9 f9 c15 b2 hG
  generalize (W1.setCell ⟨G, 9, none⟩ (.int .u32 ((g.pc + i.len) % 4294967296))).drew = W2 at *
  clear zw
  go_wp2_with (first | (with_reducible refine load_in rfl _ rfl (K := w.heap.size + 1) (i := i) rfl kI ?_) | ((with_reducible refine (hD.out _ G hG2 tb).mono ?_); rintro e W3 ⟨rfl, b4⟩))
  exact ⟨rfl, rfl, b0.trans (b4.below b0.size (by have := hsz.out; simp; omega))⟩
structure DBx (W : World) (B Km Ks Ki : Nat) (g : Gs) (i : In) : Prop where
  m : W.cell? ⟨Km, 0, none⟩ = some (mp B)
  s : Blk W Ks 29 (stA g)
  i : Blk W Ki 33 (in16 i)
theorem DBx.but {S : List Nat} {W W' : World} {B Km Ks Ki : Nat} {g : Gs} {i : In} (k : DBx W B Km Ks Ki g i) (b : But S W.heap.size W W') (h1 : Km ∉ S) (h2 : Ks ∉ S) (h3 : Ki ∉ S) : DBx W' B Km Ks Ki g i :=
  ⟨b.cellAt k.m (size_of_cell k.m) h1, k.s.but b k.s.lt h2, k.i.but b k.i.lt h3⟩
set_option maxRecDepth 20000 in
theorem do1_yes {B Km Ks Ki Ka : Nat} {m : Mm} {g : Gs} {i : In} {w : World} (h : PAt w B m) (tabs : TabsA w) (k : DBx w B Km Ks Ki g i) (hl : 0 ≤ i.len ∧ i.len ≤ 15) (g' : Gs) (m' : Mm) (hd : DoY B (goOn g i) m i g' m') (old : Array Value) (hz : old.size = 17) (ka : Blk w Ka 29 old) (hB : ¬ Ka = B) :
    Calls Tryz.prog 41 #[cp Km, cp Ks, cp Ki, cp Ka] w fun e w' => e = .returned (.tuple #[]) ∧ (Blk w' Ka 29 (stA g') ∧ PAt w' B m') ∧ But [B, Ka] w.heap.size w w' := by
  have hD := Lib.hid (done_yes h tabs g i hl g' m' hd)
  obtain ⟨c0, kS, kI⟩ := k
  clear hd
  go_enter Tryz.func41, Tryz.ntmps41
  go_wp2_with (first | (with_reducible refine load_st rfl _ rfl Ks (stA g) rfl kS rfl ?_) | (with_reducible refine load_in rfl _ rfl (K := Ki) (i := i) rfl kI ?_) | ((with_reducible refine hD.out.mono ?_); rintro e w1 ⟨rfl, p1, b1⟩; have ka1 := ka.but b1 ka.lt (by simpa using hB)) | ((with_reducible refine store_st rfl _ _ rfl Ka (stA g') old rfl rfl ka1 rfl hz (stA_all _) ?_); intro w2 ka2 b2 s2))
  have p2 := p1.but b2 p1.lt (by simp; omega)
  exact bodyPost_end (v := .tuple #[]) (by simp [results, Tryz.results41, go_sem]) rfl ⟨rfl, ⟨ka2, p2⟩, (b1.mono (S' := [B, Ka]) (Nat.le_refl _) (fun k hk => .inl (by simp at hk ⊢; omega))).trans (b2.mono (S' := [B, Ka]) b1.size (fun k hk => .inl (by simp at hk ⊢; omega)))⟩
set_option maxRecDepth 20000 in
theorem do1_no {B Km Ks Ki Ka : Nat} {m : Mm} {g : Gs} {i : In} {w : World} (h : PAt w B m) (tabs : TabsA w) (k : DBx w B Km Ks Ki g i) (hl : 0 ≤ i.len ∧ i.len ≤ 15) (kk a t : Int) (hd : DoN B (goOn g i) m i kk a t) :
    Calls Tryz.prog 41 #[cp Km, cp Ks, cp Ki, cp Ka] w fun e w' => e = .panicked (fltQ kk a t) ∧ Below w.heap.size w w' := by
  have hD := Lib.hid (done_no h tabs g i hl kk a t hd)
  obtain ⟨c0, kS, kI⟩ := k
  clear hd
  go_enter Tryz.func41, Tryz.ntmps41
  go_wp2_with (first | (with_reducible refine load_st rfl _ rfl Ks (stA g) rfl kS rfl ?_) | (with_reducible refine load_in rfl _ rfl (K := Ki) (i := i) rfl kI ?_) | ((with_reducible refine hD.out.mono ?_); rintro e w1 ⟨rfl, b1⟩))
  exact ⟨rfl, rfl, b1⟩
theorem dbx_new {B : Nat} {m : Mm} {w : World} (h : PAt w B m) (g : Gs) (i : In) : ∃ W, W = (((((w.alloc (.cells #[mp B] 35)).alloc (.cells (stA g) 29)).alloc (.cells (in16 i) 33)).alloc (.cells #[.int .u32 0, .int .u32 0, .int .u32 0, .int .u32 0, .int .u32 0, .int .u32 0, .int .u32 0, .int .u32 0, .int .u32 0, .bool false, .bool false, .bool false, .bool false, .bool false, .bool false, .bool false, .int .u64 0] 29)).alloc (.cells #[.int .i64 0, .int .u32 0, .int .u32 0, .int .i64 0] 42)) ∧ PAt W B m ∧ DBx W B (w.heap.size) (w.heap.size + 1) (w.heap.size + 1 + 1) g i ∧ Blk W (w.heap.size + 1 + 1 + 1) 29 #[.int .u32 0, .int .u32 0, .int .u32 0, .int .u32 0, .int .u32 0, .int .u32 0, .int .u32 0, .int .u32 0, .int .u32 0, .bool false, .bool false, .bool false, .bool false, .bool false, .bool false, .bool false, .int .u64 0] ∧ Blk W (w.heap.size + 1 + 1 + 1 + 1) 42 #[.int .i64 0, .int .u32 0, .int .u32 0, .int .i64 0] ∧ Below w.heap.size w W ∧ W.heap.size = w.heap.size + 5 := by
  refine ⟨_, rfl, ?_⟩
  have b : Below w.heap.size w (((((w.alloc (.cells #[mp B] 35)).alloc (.cells (stA g) 29)).alloc (.cells (in16 i) 33)).alloc (.cells #[.int .u32 0, .int .u32 0, .int .u32 0, .int .u32 0, .int .u32 0, .int .u32 0, .int .u32 0, .int .u32 0, .int .u32 0, .bool false, .bool false, .bool false, .bool false, .bool false, .bool false, .bool false, .int .u64 0] 29)).alloc (.cells #[.int .i64 0, .int .u32 0, .int .u32 0, .int .i64 0] 42)) := ((((((Below.refl w.heap.size w).alloc (Nat.le_refl _) (.cells #[mp B] 35)).alloc (by simp) (.cells (stA g) 29)).alloc (by simp; omega) (.cells (in16 i) 33)).alloc (by simp; omega) (.cells #[.int .u32 0, .int .u32 0, .int .u32 0, .int .u32 0, .int .u32 0, .int .u32 0, .int .u32 0, .int .u32 0, .int .u32 0, .bool false, .bool false, .bool false, .bool false, .bool false, .bool false, .bool false, .int .u64 0] 29)).alloc (by simp; omega) (.cells #[.int .i64 0, .int .u32 0, .int .u32 0, .int .i64 0] 42))
  have k1 := ((((Blk.new (w.alloc (.cells #[mp B] 35)) 29 (stA g)).alloc (.cells (in16 i) 33)).alloc (.cells #[.int .u32 0, .int .u32 0, .int .u32 0, .int .u32 0, .int .u32 0, .int .u32 0, .int .u32 0, .int .u32 0, .int .u32 0, .bool false, .bool false, .bool false, .bool false, .bool false, .bool false, .bool false, .int .u64 0] 29)).alloc (.cells #[.int .i64 0, .int .u32 0, .int .u32 0, .int .i64 0] 42))
  have k2 := (((Blk.new ((w.alloc (.cells #[mp B] 35)).alloc (.cells (stA g) 29)) 33 (in16 i)).alloc (.cells #[.int .u32 0, .int .u32 0, .int .u32 0, .int .u32 0, .int .u32 0, .int .u32 0, .int .u32 0, .int .u32 0, .int .u32 0, .bool false, .bool false, .bool false, .bool false, .bool false, .bool false, .bool false, .int .u64 0] 29)).alloc (.cells #[.int .i64 0, .int .u32 0, .int .u32 0, .int .i64 0] 42))
  have k3 := ((Blk.new (((w.alloc (.cells #[mp B] 35)).alloc (.cells (stA g) 29)).alloc (.cells (in16 i) 33)) 29 #[.int .u32 0, .int .u32 0, .int .u32 0, .int .u32 0, .int .u32 0, .int .u32 0, .int .u32 0, .int .u32 0, .int .u32 0, .bool false, .bool false, .bool false, .bool false, .bool false, .bool false, .bool false, .int .u64 0]).alloc (.cells #[.int .i64 0, .int .u32 0, .int .u32 0, .int .i64 0] 42))
  have k4 := (Blk.new ((((w.alloc (.cells #[mp B] 35)).alloc (.cells (stA g) 29)).alloc (.cells (in16 i) 33)).alloc (.cells #[.int .u32 0, .int .u32 0, .int .u32 0, .int .u32 0, .int .u32 0, .int .u32 0, .int .u32 0, .int .u32 0, .int .u32 0, .bool false, .bool false, .bool false, .bool false, .bool false, .bool false, .bool false, .int .u64 0] 29)) 42 #[.int .i64 0, .int .u32 0, .int .u32 0, .int .i64 0])
  simp only [World.size_alloc] at k1 k2 k3 k4
  exact ⟨(((((h.alloc _).alloc _).alloc _).alloc _).alloc _), ⟨by simp [go_sem], k1, k2⟩, k3, k4, b, by simp⟩
set_option maxRecDepth 20000 in
set_option maxHeartbeats 4000000 in
theorem Do_yes {B : Nat} {m : Mm} {w : World} (h : PAt w B m) (tabs : Tb w) (g : Gs) (i : In) (hi : isB i = true) (hl : 0 ≤ i.len ∧ i.len ≤ 15) (g' : Gs) (m' : Mm) (hd : DoY B (goOn g i) m i g' m') : Calls Tryz.prog 19 #[mp B, stV g, inV i] w fun e w' => e = .returned (.tuple #[stV g', fltV 0 0 0 0, .bool true]) ∧ PAt w' B m' ∧ But [B] w.heap.size w w' := by
  have hmf : ∀ (fn : Fn) (first cap : Array Value) (w : World), (Instr.makeFunc fn first cap).run Tryz.prog w = .ok (.func fn first cap) w := fun _ _ _ _ => rfl
  obtain ⟨w5, e5, h5, hbx, k5, k6, b5, s5⟩ := dbx_new h g i
  have hBl := h.lt
  have tb := tabs.below b5
  have hIs := Lib.hid (Is_any i w5 tb.d)
  rw [hi] at hIs
  have E5 := Lib.hid e5
  have hD := Lib.hid hd
  clear hd h tabs
  go_enter Tryz.func19, Tryz.ntmps19
  go_upto_region 1 with fail
  have e5' := E5.out
  rw [show (((((w.alloc (.cells #[mp B] 35)).alloc (.cells (stA g) 29)).alloc (.cells (in16 i) 33)).alloc (.cells #[.int .u32 0, .int .u32 0, .int .u32 0, .int .u32 0, .int .u32 0, .int .u32 0, .int .u32 0, .int .u32 0, .int .u32 0, .bool false, .bool false, .bool false, .bool false, .bool false, .bool false, .bool false, .int .u64 0] 29)).alloc (.cells #[.int .i64 0, .int .u32 0, .int .u32 0, .int .i64 0] 42)) = w5 from e5'.symm]
  clear e5' E5 e5
  have kI := hbx.i
  have hw := Lib.hid s5
  go_upto_region 3 with (first | (with_reducible refine load_in rfl _ rfl (K := w.heap.size + 1 + 1) (i := i) rfl kI ?_) | ((with_reducible refine hIs.out.mono ?_); rintro e w6 ⟨rfl, b6⟩))
  replace h5 := h5.below b6 h5.lt
  replace hbx := hbx.but (But.of b6 []) (by simp) (by simp) (by simp)
  replace k5 := k5.below b6 k5.lt
  replace k6 := k6.below b6 k6.lt
  replace tb := tb.below b6
  replace b5 := b5.trans (b6.mono b5.size)
  have hA := Lib.hid (show w.heap.size + 5 ≤ w6.heap.size by have := b6.size; omega)
  have kS := hbx.s
  clear kI b6 s5 hw hIs
  go_upto_region 4 with (first | (with_reducible refine load_st rfl _ rfl (w.heap.size + 1) (stA g) rfl kS rfl ?_))
  have ka := Blk.new w6 29 (stA g)
  have ba := (Below.refl w6.heap.size w6).alloc (Nat.le_refl _) (.cells (stA g) 29)
  replace h5 := h5.below ba h5.lt
  replace hbx := hbx.but (But.of ba []) (by simp) (by simp) (by simp)
  replace k5 := k5.below ba k5.lt
  replace k6 := k6.below ba k6.lt
  replace tb := tb.below ba
  replace b5 := b5.trans (ba.mono b5.size)
  clear kS ba
  generalize w6.alloc (.cells (stA g) 29) = w7 at *
  generalize w6.heap.size = A at *
  have cpc := hbx.s.cell (i := 8) (v := .int .u32 g.pc) rfl
  go_wp2_with fail
  have hA' := hA.out
  refine (striedD_yes _ g.pc [B, A] (fun W => Blk W A 29 (stA g') ∧ PAt W B m') (by simp; exact ⟨h5.lt, ka.lt⟩) (fun W W' hr hb => ⟨hr.1.below hb ka.lt, hr.2.below hb h5.lt⟩)
    (fun W hW => do1_yes (h5.below hW h5.lt) (tb.below hW).a (hbx.but (But.of hW []) (by simp) (by simp) (by simp)) hl g' m' hD.out (stA g) rfl (ka.below hW ka.lt) (by omega))).mono ?_
  rintro e w8 ⟨rfl, ⟨ka8, p8⟩, r8⟩
  replace k5 := k5.but r8 k5.lt (by simp; omega)
  replace k6 := k6.but r8 k6.lt (by simp; omega)
  clear ka
  have ka := ka8
  clear ka8
  have rz := (But.of b5 [B]).trans (r8.mono (S' := [B]) b5.size (fun k hk => by simp at hk ⊢; omega))
  clear hmf hbx r8 h5 cpc tb
  have hF := Lib.hid (show w.heap.size + 1 + 1 + 1 + 1 < w8.heap.size from k6.lt)
  have kF := Blk.new w8 42 #[.int .i64 0, .int .u32 0, .int .u32 0, .int .i64 0]
  replace k5 := k5.alloc (.cells #[.int .i64 0, .int .u32 0, .int .u32 0, .int .i64 0] 42)
  replace k6 := k6.alloc (.cells #[.int .i64 0, .int .u32 0, .int .u32 0, .int .i64 0] 42)
  replace ka := ka.alloc (.cells #[.int .i64 0, .int .u32 0, .int .u32 0, .int .i64 0] 42)
  replace p8 := p8.alloc (.cells #[.int .i64 0, .int .u32 0, .int .u32 0, .int .i64 0] 42)
  replace rz := rz.alloc rz.size (.cells #[.int .i64 0, .int .u32 0, .int .u32 0, .int .i64 0] 42)
  go_wp2_with fail
  generalize w8.alloc (.cells #[.int .i64 0, .int .u32 0, .int .u32 0, .int .i64 0] 42) = w9 at *
  generalize w8.heap.size = F at *
  refine wp_region_held_drew (S := fun V => Blk V A 29 (stA g') ∧ Blk V F 42 #[.int .i64 0, .int .u32 0, .int .u32 0, .int .i64 0]) (by kernel_rfl) ⟨ka.drew, kF.drew⟩ (fun hH => ?_)
  replace k5 := k5.drew
  replace k6 := k6.drew
  replace rz := rz.drew
  replace p8 := p8.drew
  clear ka
  have nF := Lib.hid (show w.heap.size + 1 + 1 + 1 ≠ F by have := hF.out; omega)
  have nF2 := Lib.hid (show w.heap.size + 1 + 1 + 1 + 1 ≠ F by have := hF.out; omega)
  clear kF
  generalize w9.drew = w10 at *
  refine wpAnyH_take (i := 0) (v := .agg (stA g')) rfl (by kernel_rfl) (by kernel_rfl) (by kernel_rfl) (fun _ _ _ h => h) (Or.inl ⟨by kernel_rfl, ?_⟩) hH ?_
  · intro W hS
    exact run_load_row (by rfl) (by rfl) 29 _ (0, 0) _ hS.1.h Tryz.underlying29 rfl szS
  simp only [Act.put, List.setIfInBounds_toArray, List.set_cons_zero, List.set_cons_succ]
  refine wpAnyH_take (i := 1) (v := .agg #[.int .i64 0, .int .u32 0, .int .u32 0, .int .i64 0]) rfl (by kernel_rfl) (by kernel_rfl) (by kernel_rfl) (fun _ _ _ h => h) (Or.inl ⟨by kernel_rfl, ?_⟩) hH ?_
  · intro W hS
    exact run_load_row (by rfl) (by rfl) 42 _ (0, 0) _ hS.2.h Tryz.underlying42 rfl szF
  simp only [Act.put, List.setIfInBounds_toArray, List.set_cons_zero, List.set_cons_succ]
  refine wpAnyH_take (i := 2) (v := ?_) rfl (by kernel_rfl) (by kernel_rfl) (by kernel_rfl) (fun _ _ _ h => h) (Or.inl ⟨by kernel_rfl, ?_⟩) hH ?_
  rotate_left
  · intro W hS
    go_simp
    try rfl
  simp only [Act.put, List.setIfInBounds_toArray, List.set_cons_zero, List.set_cons_succ, List.getElem_toArray, List.getElem_cons_succ, List.getElem_cons_zero]
  refine wpAnyH_ready (rs := [3]) (by kernel_rfl) (by simp) ?_
  refine AllReadyH.cons rfl (fun K hK => ?_) AllReadyH.nil
  rw [if_pos (by kernel_rfl)]
  refine wp_store_row 29 _ _ rfl (w.heap.size + 1 + 1 + 1) (stA g') rfl rfl 29 #[.int .u32 0, .int .u32 0, .int .u32 0, .int .u32 0, .int .u32 0, .int .u32 0, .int .u32 0, .int .u32 0, .int .u32 0, .bool false, .bool false, .bool false, .bool false, .bool false, .bool false, .bool false, .int .u64 0] k5.h szS rfl (stA_oneT _) ?_
  replace k5 := k5.row (stA g')
  replace k6 := k6.rowOther (M := w.heap.size + 1 + 1 + 1) (stA g') (by omega)
  have hH2 := And.intro (hH.1.rowOther (M := w.heap.size + 1 + 1 + 1) (stA g') (by omega)) (hH.2.rowOther (M := w.heap.size + 1 + 1 + 1) (stA g') (by have := nF.out; omega))
  replace rz := (rz.mono (S' := [B, w.heap.size + 1 + 1 + 1, w.heap.size + 1 + 1 + 1 + 1]) (Nat.le_refl _) (fun k hk => .inl (by simp at hk ⊢; try omega))).setRow (g := w.heap.size + 1 + 1 + 1) (by simp) (stA g')
  replace p8 := p8.rowOther (K := w.heap.size + 1 + 1 + 1) (stA g') (by omega)
  refine hK.out _ _ hH2 (fun _ => ?_)
  clear hK K
  try simp only [Act.put, List.setIfInBounds_toArray, List.set_cons_zero, List.set_cons_succ, List.getElem_toArray, List.getElem_cons_succ, List.getElem_cons_zero]
  refine wpAnyH_ready (rs := [4]) (by kernel_rfl) (by simp) ?_
  refine AllReadyH.cons rfl (fun K hK => ?_) AllReadyH.nil
  rw [if_pos (by kernel_rfl)]
  refine wp_store_row 42 _ _ rfl (w.heap.size + 1 + 1 + 1 + 1) #[.int .i64 0, .int .u32 0, .int .u32 0, .int .i64 0] rfl rfl 42 #[.int .i64 0, .int .u32 0, .int .u32 0, .int .i64 0] k6.h szF rfl (by simp [Value.oneCell']) ?_
  replace k6 := k6.row #[.int .i64 0, .int .u32 0, .int .u32 0, .int .i64 0]
  replace k5 := k5.rowOther (M := w.heap.size + 1 + 1 + 1 + 1) #[.int .i64 0, .int .u32 0, .int .u32 0, .int .i64 0] (by omega)
  have hH3 := And.intro (hH2.1.rowOther (M := w.heap.size + 1 + 1 + 1 + 1) #[.int .i64 0, .int .u32 0, .int .u32 0, .int .i64 0] (by omega)) (hH2.2.rowOther (M := w.heap.size + 1 + 1 + 1 + 1) #[.int .i64 0, .int .u32 0, .int .u32 0, .int .i64 0] (by have := nF2.out; omega))
  replace rz := rz.setRow (g := w.heap.size + 1 + 1 + 1 + 1) (by simp) #[.int .i64 0, .int .u32 0, .int .u32 0, .int .i64 0]
  replace p8 := p8.rowOther (K := w.heap.size + 1 + 1 + 1 + 1) #[.int .i64 0, .int .u32 0, .int .u32 0, .int .i64 0] (by omega)
  refine hK.out _ _ hH3 (fun _ => ?_)
  clear hK K
  try simp only [Act.put, List.setIfInBounds_toArray, List.set_cons_zero, List.set_cons_succ, List.getElem_toArray, List.getElem_cons_succ, List.getElem_cons_zero]
  refine wpAnyH_take (i := 5) (v := ?_) rfl (by kernel_rfl) (by kernel_rfl) (by kernel_rfl) (fun _ _ _ h => h) (Or.inl ⟨by kernel_rfl, ?_⟩) hH3 ?_
  rotate_left
  · intro W hS
    go_simp
    try rfl
  simp only [Act.put, List.setIfInBounds_toArray, List.set_cons_zero, List.set_cons_succ, List.getElem_toArray, List.getElem_cons_succ, List.getElem_cons_zero]
  refine wpAnyH_done (by kernel_rfl) ?_ _
  have s20 := k5.cell (i := 0) rfl
  have s21 := k5.cell (i := 1) rfl
  have s22 := k5.cell (i := 2) rfl
  have s23 := k5.cell (i := 3) rfl
  have s24 := k5.cell (i := 4) rfl
  have s25 := k5.cell (i := 5) rfl
  have s26 := k5.cell (i := 6) rfl
  have s27 := k5.cell (i := 7) rfl
  have s28 := k5.cell (i := 8) rfl
  have s29 := k5.cell (i := 9) rfl
  have s30 := k5.cell (i := 10) rfl
  have s31 := k5.cell (i := 11) rfl
  have s32 := k5.cell (i := 12) rfl
  have s33 := k5.cell (i := 13) rfl
  have s34 := k5.cell (i := 14) rfl
  have s35 := k5.cell (i := 15) rfl
  have s36 := k5.cell (i := 16) rfl
  have d0 := k6.cell (i := 0) rfl
  have d1 := k6.cell (i := 1) rfl
  have d2 := k6.cell (i := 2) rfl
  have d3 := k6.cell (i := 3) rfl
  go_wp2_with fail
  exact bodyPost_ret (v := .tuple #[.agg (stA g'), fltV 0 0 0 0, .bool true]) (by simp [results, Tryz.results19, go_sem, s20, s21, s22, s23, s24, s25, s26, s27, s28, s29, s30, s31, s32, s33, s34, s35, s36, d0, d1, d2, d3]) rfl ⟨rfl, p8, rz.mono (Nat.le_refl _) (fun k hk => by simp at hk ⊢; omega)⟩
set_option maxRecDepth 20000 in
set_option maxHeartbeats 4000000 in
theorem Do_no {B : Nat} {m : Mm} {w : World} (h : PAt w B m) (tabs : Tb w) (g : Gs) (i : In) (hi : isB i = true) (hl : 0 ≤ i.len ∧ i.len ≤ 15) (kk a t : Int) (hd : DoN B (goOn g i) m i kk a t) : Calls Tryz.prog 19 #[mp B, stV g, inV i] w fun e w' => e = .returned (.tuple #[stV g, fltV kk g.pc a t, .bool false]) ∧ Below w.heap.size w w' := by
  have hmf : ∀ (fn : Fn) (first cap : Array Value) (w : World), (Instr.makeFunc fn first cap).run Tryz.prog w = .ok (.func fn first cap) w := fun _ _ _ _ => rfl
  obtain ⟨w5, e5, h5, hbx, k5, k6, b5, s5⟩ := dbx_new h g i
  have hBl := h.lt
  have tb := tabs.below b5
  have hIs := Lib.hid (Is_any i w5 tb.d)
  rw [hi] at hIs
  have E5 := Lib.hid e5
  have hD := Lib.hid hd
  clear hd h tabs
  go_enter Tryz.func19, Tryz.ntmps19
  go_upto_region 1 with fail
  have e5' := E5.out
  rw [show (((((w.alloc (.cells #[mp B] 35)).alloc (.cells (stA g) 29)).alloc (.cells (in16 i) 33)).alloc (.cells #[.int .u32 0, .int .u32 0, .int .u32 0, .int .u32 0, .int .u32 0, .int .u32 0, .int .u32 0, .int .u32 0, .int .u32 0, .bool false, .bool false, .bool false, .bool false, .bool false, .bool false, .bool false, .int .u64 0] 29)).alloc (.cells #[.int .i64 0, .int .u32 0, .int .u32 0, .int .i64 0] 42)) = w5 from e5'.symm]
  clear e5' E5 e5
  have kI := hbx.i
  have hw := Lib.hid s5
  go_upto_region 3 with (first | (with_reducible refine load_in rfl _ rfl (K := w.heap.size + 1 + 1) (i := i) rfl kI ?_) | ((with_reducible refine hIs.out.mono ?_); rintro e w6 ⟨rfl, b6⟩))
  replace h5 := h5.below b6 h5.lt
  replace hbx := hbx.but (But.of b6 []) (by simp) (by simp) (by simp)
  replace k5 := k5.below b6 k5.lt
  replace k6 := k6.below b6 k6.lt
  replace tb := tb.below b6
  replace b5 := b5.trans (b6.mono b5.size)
  have hA := Lib.hid (show w.heap.size + 5 ≤ w6.heap.size by have := b6.size; omega)
  have kS := hbx.s
  clear kI b6 s5 hw hIs
  go_upto_region 4 with (first | (with_reducible refine load_st rfl _ rfl (w.heap.size + 1) (stA g) rfl kS rfl ?_))
  have ka := Blk.new w6 29 (stA g)
  have ba := (Below.refl w6.heap.size w6).alloc (Nat.le_refl _) (.cells (stA g) 29)
  replace h5 := h5.below ba h5.lt
  replace hbx := hbx.but (But.of ba []) (by simp) (by simp) (by simp)
  replace k5 := k5.below ba k5.lt
  replace k6 := k6.below ba k6.lt
  replace tb := tb.below ba
  replace b5 := b5.trans (ba.mono b5.size)
  clear kS ba
  generalize w6.alloc (.cells (stA g) 29) = w7 at *
  generalize w6.heap.size = A at *
  have cpc := hbx.s.cell (i := 8) (v := .int .u32 g.pc) rfl
  go_wp2_with fail
  have hA' := hA.out
  refine (striedD_no _ g.pc kk 0 a t (fun W hW => do1_no (h5.below hW h5.lt) (tb.below hW).a (hbx.but (But.of hW []) (by simp) (by simp) (by simp)) hl kk a t hD.out)).mono ?_
  rintro e w8 ⟨rfl, r8⟩
  replace k5 := k5.below r8 k5.lt
  replace k6 := k6.below r8 k6.lt
  replace ka := ka.below r8 ka.lt
  have rz := But.of (b5.trans (r8.mono b5.size)) []
  clear hmf hbx r8 h5 cpc tb
  have hF := Lib.hid (show w.heap.size + 1 + 1 + 1 + 1 < w8.heap.size from k6.lt)
  have kF := Blk.new w8 42 #[.int .i64 kk, .int .u32 g.pc, .int .u32 a, .int .i64 t]
  replace k5 := k5.alloc (.cells #[.int .i64 kk, .int .u32 g.pc, .int .u32 a, .int .i64 t] 42)
  replace k6 := k6.alloc (.cells #[.int .i64 kk, .int .u32 g.pc, .int .u32 a, .int .i64 t] 42)
  replace ka := ka.alloc (.cells #[.int .i64 kk, .int .u32 g.pc, .int .u32 a, .int .i64 t] 42)
  replace rz := rz.alloc rz.size (.cells #[.int .i64 kk, .int .u32 g.pc, .int .u32 a, .int .i64 t] 42)
  go_wp2_with fail
  generalize w8.alloc (.cells #[.int .i64 kk, .int .u32 g.pc, .int .u32 a, .int .i64 t] 42) = w9 at *
  generalize w8.heap.size = F at *
  refine wp_region_held_drew (S := fun V => Blk V A 29 (stA g) ∧ Blk V F 42 #[.int .i64 kk, .int .u32 g.pc, .int .u32 a, .int .i64 t]) (by kernel_rfl) ⟨ka.drew, kF.drew⟩ (fun hH => ?_)
  replace k5 := k5.drew
  replace k6 := k6.drew
  replace rz := rz.drew
  clear ka
  have nF := Lib.hid (show w.heap.size + 1 + 1 + 1 ≠ F by have := hF.out; omega)
  have nF2 := Lib.hid (show w.heap.size + 1 + 1 + 1 + 1 ≠ F by have := hF.out; omega)
  clear kF
  generalize w9.drew = w10 at *
  refine wpAnyH_take (i := 0) (v := .agg (stA g)) rfl (by kernel_rfl) (by kernel_rfl) (by kernel_rfl) (fun _ _ _ h => h) (Or.inl ⟨by kernel_rfl, ?_⟩) hH ?_
  · intro W hS
    exact run_load_row (by rfl) (by rfl) 29 _ (0, 0) _ hS.1.h Tryz.underlying29 rfl szS
  simp only [Act.put, List.setIfInBounds_toArray, List.set_cons_zero, List.set_cons_succ]
  refine wpAnyH_take (i := 1) (v := .agg #[.int .i64 kk, .int .u32 g.pc, .int .u32 a, .int .i64 t]) rfl (by kernel_rfl) (by kernel_rfl) (by kernel_rfl) (fun _ _ _ h => h) (Or.inl ⟨by kernel_rfl, ?_⟩) hH ?_
  · intro W hS
    exact run_load_row (by rfl) (by rfl) 42 _ (0, 0) _ hS.2.h Tryz.underlying42 rfl szF
  simp only [Act.put, List.setIfInBounds_toArray, List.set_cons_zero, List.set_cons_succ]
  refine wpAnyH_take (i := 2) (v := ?_) rfl (by kernel_rfl) (by kernel_rfl) (by kernel_rfl) (fun _ _ _ h => h) (Or.inl ⟨by kernel_rfl, ?_⟩) hH ?_
  rotate_left
  · intro W hS
    go_simp
    try rfl
  simp only [Act.put, List.setIfInBounds_toArray, List.set_cons_zero, List.set_cons_succ, List.getElem_toArray, List.getElem_cons_succ, List.getElem_cons_zero]
  refine wpAnyH_ready (rs := [3]) (by kernel_rfl) (by simp) ?_
  refine AllReadyH.cons rfl (fun K hK => ?_) AllReadyH.nil
  rw [if_pos (by kernel_rfl)]
  refine wp_store_row 29 _ _ rfl (w.heap.size + 1 + 1 + 1) (stA g) rfl rfl 29 #[.int .u32 0, .int .u32 0, .int .u32 0, .int .u32 0, .int .u32 0, .int .u32 0, .int .u32 0, .int .u32 0, .int .u32 0, .bool false, .bool false, .bool false, .bool false, .bool false, .bool false, .bool false, .int .u64 0] k5.h szS rfl (stA_oneT _) ?_
  replace k5 := k5.row (stA g)
  replace k6 := k6.rowOther (M := w.heap.size + 1 + 1 + 1) (stA g) (by omega)
  have hH2 := And.intro (hH.1.rowOther (M := w.heap.size + 1 + 1 + 1) (stA g) (by omega)) (hH.2.rowOther (M := w.heap.size + 1 + 1 + 1) (stA g) (by have := nF.out; omega))
  replace rz := (rz.mono (S' := [w.heap.size + 1 + 1 + 1, w.heap.size + 1 + 1 + 1 + 1]) (Nat.le_refl _) (fun k hk => .inl (by simp at hk ⊢; try omega))).setRow (g := w.heap.size + 1 + 1 + 1) (by simp) (stA g)
  refine hK.out _ _ hH2 (fun _ => ?_)
  clear hK K
  try simp only [Act.put, List.setIfInBounds_toArray, List.set_cons_zero, List.set_cons_succ, List.getElem_toArray, List.getElem_cons_succ, List.getElem_cons_zero]
  refine wpAnyH_ready (rs := [4]) (by kernel_rfl) (by simp) ?_
  refine AllReadyH.cons rfl (fun K hK => ?_) AllReadyH.nil
  rw [if_pos (by kernel_rfl)]
  refine wp_store_row 42 _ _ rfl (w.heap.size + 1 + 1 + 1 + 1) #[.int .i64 kk, .int .u32 g.pc, .int .u32 a, .int .i64 t] rfl rfl 42 #[.int .i64 0, .int .u32 0, .int .u32 0, .int .i64 0] k6.h szF rfl (by simp [Value.oneCell']) ?_
  replace k6 := k6.row #[.int .i64 kk, .int .u32 g.pc, .int .u32 a, .int .i64 t]
  replace k5 := k5.rowOther (M := w.heap.size + 1 + 1 + 1 + 1) #[.int .i64 kk, .int .u32 g.pc, .int .u32 a, .int .i64 t] (by omega)
  have hH3 := And.intro (hH2.1.rowOther (M := w.heap.size + 1 + 1 + 1 + 1) #[.int .i64 kk, .int .u32 g.pc, .int .u32 a, .int .i64 t] (by omega)) (hH2.2.rowOther (M := w.heap.size + 1 + 1 + 1 + 1) #[.int .i64 kk, .int .u32 g.pc, .int .u32 a, .int .i64 t] (by have := nF2.out; omega))
  replace rz := rz.setRow (g := w.heap.size + 1 + 1 + 1 + 1) (by simp) #[.int .i64 kk, .int .u32 g.pc, .int .u32 a, .int .i64 t]
  refine hK.out _ _ hH3 (fun _ => ?_)
  clear hK K
  try simp only [Act.put, List.setIfInBounds_toArray, List.set_cons_zero, List.set_cons_succ, List.getElem_toArray, List.getElem_cons_succ, List.getElem_cons_zero]
  refine wpAnyH_take (i := 5) (v := ?_) rfl (by kernel_rfl) (by kernel_rfl) (by kernel_rfl) (fun _ _ _ h => h) (Or.inl ⟨by kernel_rfl, ?_⟩) hH3 ?_
  rotate_left
  · intro W hS
    go_simp
    try rfl
  simp only [Act.put, List.setIfInBounds_toArray, List.set_cons_zero, List.set_cons_succ, List.getElem_toArray, List.getElem_cons_succ, List.getElem_cons_zero]
  refine wpAnyH_done (by kernel_rfl) ?_ _
  have s20 := k5.cell (i := 0) rfl
  have s21 := k5.cell (i := 1) rfl
  have s22 := k5.cell (i := 2) rfl
  have s23 := k5.cell (i := 3) rfl
  have s24 := k5.cell (i := 4) rfl
  have s25 := k5.cell (i := 5) rfl
  have s26 := k5.cell (i := 6) rfl
  have s27 := k5.cell (i := 7) rfl
  have s28 := k5.cell (i := 8) rfl
  have s29 := k5.cell (i := 9) rfl
  have s30 := k5.cell (i := 10) rfl
  have s31 := k5.cell (i := 11) rfl
  have s32 := k5.cell (i := 12) rfl
  have s33 := k5.cell (i := 13) rfl
  have s34 := k5.cell (i := 14) rfl
  have s35 := k5.cell (i := 15) rfl
  have s36 := k5.cell (i := 16) rfl
  have d0 := k6.cell (i := 0) rfl
  have d1 := k6.cell (i := 1) rfl
  have d2 := k6.cell (i := 2) rfl
  have d3 := k6.cell (i := 3) rfl
  go_wp2_with fail
  exact bodyPost_ret (v := .tuple #[.agg (stA g), fltV kk g.pc a t, .bool false]) (by simp [results, Tryz.results19, go_sem, s20, s21, s22, s23, s24, s25, s26, s27, s28, s29, s30, s31, s32, s33, s34, s35, s36, d0, d1, d2, d3]) rfl ⟨rfl, rz.below (Nat.le_refl _) (by simp; omega)⟩
end Go.Proofs.YtcdoidnfdkodoaaGreatDoor
