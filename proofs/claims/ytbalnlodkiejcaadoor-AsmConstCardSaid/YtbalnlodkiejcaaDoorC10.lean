import Derived.Test.YtbalnlodkiejcaaDoorC9
namespace Go.Proofs.YtbalnlodkiejcaaDoor
open Go.RowKit
set_option linter.unusedVariables false
set_option linter.unusedSimpArgs false
set_option linter.unusedSectionVars false

theorem fld_run (a b c d : Value) (w : World) : Sem.run Tryd.prog (Instr.field 64 (.agg #[a, b, c, d]) 0) w = .ok a w := by kernel_rfl
set_option maxRecDepth 10000 in
set_option maxHeartbeats 16000000 in
theorem rdec_any (u : Int) (hu : 0 ≤ u ∧ u ≤ 4294967295) (w : World) :
    Calls Tryd.prog 12 #[.int .u32 u] w fun e w' => e = .returned (wordO u (decL u)) ∧ Below w.heap.size w w' := by
  have hfl := fld_run
  have z7 := and31 (u / 128) (by omega)
  have z15 := and31 (u / 32768) (by omega)
  have z20 := and31 (u / 1048576) (by omega)
  have hB : w.heap.size ≤ w.heap.size := Nat.le_refl _
  have b0 : Below w.heap.size w (w.alloc zeroW) := (Below.refl w.heap.size w).alloc (Nat.le_refl _) _
  have y0 : (w.alloc zeroW).cell? ⟨w.heap.size, 0, none⟩ = some (.int .i64 0) := own_cell (Below.refl _ _) 0 _ rfl
  have y1 : (w.alloc zeroW).cell? ⟨w.heap.size, 1, none⟩ = some (.int .i64 0) := own_cell (Below.refl _ _) 1 _ rfl
  have y2 : (w.alloc zeroW).cell? ⟨w.heap.size, 2, none⟩ = some (.int .i64 0) := own_cell (Below.refl _ _) 2 _ rfl
  have y3 : (w.alloc zeroW).cell? ⟨w.heap.size, 3, none⟩ = some (.int .i64 0) := own_cell (Below.refl _ _) 3 _ rfl
  have y4 : (w.alloc zeroW).cell? ⟨w.heap.size, 4, none⟩ = some (.int .i32 0) := own_cell (Below.refl _ _) 4 _ rfl
  have yf : ∀ i, (w.alloc zeroW).frozen? ⟨w.heap.size, i, none⟩ = false := fun i => own_frozen (Below.refl _ _) i
  have ys : w.heap.size < (w.alloc zeroW).heap.size := by simp
  go_enter Tryd.func12, Tryd.ntmps12
  go_wp2_with fail
  generalize (w.alloc zeroW) = W1 at *
  revert hB
  generalize hBe : w.heap.size = B at *
  intro hB
  go_loopw [7] (fun oo W => ∃ (n : Nat), n ≤ 47 ∧ oo = .int .i64 (n + 1) ∧ (W.cell? ⟨B, 0, none⟩ = some (.int .i64 0) ∧ W.cell? ⟨B, 1, none⟩ = some (.int .i64 0) ∧ W.cell? ⟨B, 2, none⟩ = some (.int .i64 0) ∧ W.cell? ⟨B, 3, none⟩ = some (.int .i64 0) ∧ W.cell? ⟨B, 4, none⟩ = some (.int .i32 0)) ∧ (∀ i, W.frozen? ⟨B, i, none⟩ = false) ∧ B < W.heap.size ∧ Below B w W ∧ decL u = decF u (n + 1) (47 - n)) (fun oo _ => (48 - intOf oo).toNat)
  case atStart => exact ⟨0, by omega, rfl, ⟨y0, y1, y2, y3, y4⟩, yf, ys, b0, rfl⟩
  case round =>
    obtain ⟨n, hn, rfl, ⟨p0, p1, p2, p3, p4⟩, pf, ps, hbw, hd⟩ := hrel
    have hd' := hid hd
    clear hd y0 y1 y2 y3 y4 yf ys b0
    rcases Nat.lt_or_ge n 47 with hlt | hge
    · have h1 : 1 ≤ n + 1 := by omega
      have h2 : n + 1 ≤ 47 := by omega
      have ec : ((n + 1 : Nat) : Int) = (n : Int) + 1 := by simp
      have ho := fun w => of_any (n + 1) h1 h2 w
      unfold shapeV at ho
      rw [ec] at ho
      have za : ∀ o i, (wr.alloc o).cell? ⟨B, i, none⟩ = wr.cell? ⟨B, i, none⟩ := fun o i => ((Below.refl wr.heap.size wr).alloc (Nat.le_refl _) o).cell ps
      have zf : ∀ o i, (wr.alloc o).frozen? ⟨B, i, none⟩ = false := fun o i => (((Below.refl wr.heap.size wr).alloc (Nat.le_refl _) o).frozen ps).trans (pf i)
      have hba : ∀ o, Below B w (wr.alloc o) := fun o => hbw.alloc (by omega) o
      rcases opCases h1 h2 with hf | hf | hf | hf | hf | hf | hf | hf | hf
      · rw [hf] at ho
        go_wp2_with fail
        refine (ho _).mono ?_
        rintro e w1 ⟨rfl, b1⟩
        have q0 : w1.cell? ⟨wr.heap.size, 0, none⟩ = some (.int .i64 ((n : Int) + 1)) := own_cell b1 0 _ rfl
        have q1 : w1.cell? ⟨wr.heap.size, 1, none⟩ = some (.int .i64 0) := own_cell b1 1 _ rfl
        have q2 : w1.cell? ⟨wr.heap.size, 2, none⟩ = some (.int .i64 0) := own_cell b1 2 _ rfl
        have q3 : w1.cell? ⟨wr.heap.size, 3, none⟩ = some (.int .i64 0) := own_cell b1 3 _ rfl
        have q4 : w1.cell? ⟨wr.heap.size, 4, none⟩ = some (.int .i32 0) := own_cell b1 4 _ rfl
        have qf : ∀ i, w1.frozen? ⟨wr.heap.size, i, none⟩ = false := fun i => own_frozen b1 i
        have hs3 := u32_up u hu
        go_wp2_with fail
        clear hs3
        have hne : ¬ (wr.heap.size = B) := by omega
        have pB : ∀ i, w1.cell? ⟨B, i, none⟩ = wr.cell? ⟨B, i, none⟩ := fun i => (b1.cell (by simp; omega)).trans (za _ i)
        have pF : ∀ i, w1.frozen? ⟨B, i, none⟩ = false := fun i => (b1.frozen (by simp; omega)).trans (zf _ i)
        have c0 : ((w1.setCell ⟨wr.heap.size, 1, none⟩ (.int .i64 (u / 128 % 32))).setCell ⟨wr.heap.size, 4, none⟩ (.int .i32 (wrap32 (u / 4096 * 4096)))).cell? ⟨wr.heap.size, 0, none⟩ = some (.int .i64 ((n : Int) + 1)) := by simp [World.cell?_setCell_other, World.cell?_setCell_same', q0, q1, q2, q3, q4]
        have c1 : ((w1.setCell ⟨wr.heap.size, 1, none⟩ (.int .i64 (u / 128 % 32))).setCell ⟨wr.heap.size, 4, none⟩ (.int .i32 (wrap32 (u / 4096 * 4096)))).cell? ⟨wr.heap.size, 1, none⟩ = some (.int .i64 (u / 128 % 32)) := by simp [World.cell?_setCell_other, World.cell?_setCell_same', q0, q1, q2, q3, q4]
        have c2 : ((w1.setCell ⟨wr.heap.size, 1, none⟩ (.int .i64 (u / 128 % 32))).setCell ⟨wr.heap.size, 4, none⟩ (.int .i32 (wrap32 (u / 4096 * 4096)))).cell? ⟨wr.heap.size, 2, none⟩ = some (.int .i64 0) := by simp [World.cell?_setCell_other, World.cell?_setCell_same', q0, q1, q2, q3, q4]
        have c3 : ((w1.setCell ⟨wr.heap.size, 1, none⟩ (.int .i64 (u / 128 % 32))).setCell ⟨wr.heap.size, 4, none⟩ (.int .i32 (wrap32 (u / 4096 * 4096)))).cell? ⟨wr.heap.size, 3, none⟩ = some (.int .i64 0) := by simp [World.cell?_setCell_other, World.cell?_setCell_same', q0, q1, q2, q3, q4]
        have c4 : ((w1.setCell ⟨wr.heap.size, 1, none⟩ (.int .i64 (u / 128 % 32))).setCell ⟨wr.heap.size, 4, none⟩ (.int .i32 (wrap32 (u / 4096 * 4096)))).cell? ⟨wr.heap.size, 4, none⟩ = some (.int .i32 (wrap32 (u / 4096 * 4096))) := by simp [World.cell?_setCell_other, World.cell?_setCell_same', q0, q1, q2, q3, q4]
        have g0 : ((w1.setCell ⟨wr.heap.size, 1, none⟩ (.int .i64 (u / 128 % 32))).setCell ⟨wr.heap.size, 4, none⟩ (.int .i32 (wrap32 (u / 4096 * 4096)))).cell? ⟨B, 0, none⟩ = some (.int .i64 0) := by simp [World.cell?_setCell_other, hne, pB, p0, p1, p2, p3, p4]
        have g1 : ((w1.setCell ⟨wr.heap.size, 1, none⟩ (.int .i64 (u / 128 % 32))).setCell ⟨wr.heap.size, 4, none⟩ (.int .i32 (wrap32 (u / 4096 * 4096)))).cell? ⟨B, 1, none⟩ = some (.int .i64 0) := by simp [World.cell?_setCell_other, hne, pB, p0, p1, p2, p3, p4]
        have g2 : ((w1.setCell ⟨wr.heap.size, 1, none⟩ (.int .i64 (u / 128 % 32))).setCell ⟨wr.heap.size, 4, none⟩ (.int .i32 (wrap32 (u / 4096 * 4096)))).cell? ⟨B, 2, none⟩ = some (.int .i64 0) := by simp [World.cell?_setCell_other, hne, pB, p0, p1, p2, p3, p4]
        have g3 : ((w1.setCell ⟨wr.heap.size, 1, none⟩ (.int .i64 (u / 128 % 32))).setCell ⟨wr.heap.size, 4, none⟩ (.int .i32 (wrap32 (u / 4096 * 4096)))).cell? ⟨B, 3, none⟩ = some (.int .i64 0) := by simp [World.cell?_setCell_other, hne, pB, p0, p1, p2, p3, p4]
        have g4 : ((w1.setCell ⟨wr.heap.size, 1, none⟩ (.int .i64 (u / 128 % 32))).setCell ⟨wr.heap.size, 4, none⟩ (.int .i32 (wrap32 (u / 4096 * 4096)))).cell? ⟨B, 4, none⟩ = some (.int .i32 0) := by simp [World.cell?_setCell_other, hne, pB, p0, p1, p2, p3, p4]
        have gf : ∀ i, ((w1.setCell ⟨wr.heap.size, 1, none⟩ (.int .i64 (u / 128 % 32))).setCell ⟨wr.heap.size, 4, none⟩ (.int .i32 (wrap32 (u / 4096 * 4096)))).frozen? ⟨B, i, none⟩ = false := by intro i; simp [pF]
        have bb : Below B w ((w1.setCell ⟨wr.heap.size, 1, none⟩ (.int .i64 (u / 128 % 32))).setCell ⟨wr.heap.size, 4, none⟩ (.int .i32 (wrap32 (u / 4096 * 4096)))) := ((((hba _).trans (b1.mono (by simp; omega))).setCell (by simp; omega) _).setCell (by simp; omega) _)
        have gs : wr.heap.size < ((w1.setCell ⟨wr.heap.size, 1, none⟩ (.int .i64 (u / 128 % 32))).setCell ⟨wr.heap.size, 4, none⟩ (.int .i32 (wrap32 (u / 4096 * 4096)))).heap.size := by have := b1.size; simp at this; simp; omega
        clear pB pF q0 q1 q2 q3 q4 qf b1 ho za zf hba z7 z15 z20 p0 p1 p2 p3 p4 pf
        generalize ((w1.setCell ⟨wr.heap.size, 1, none⟩ (.int .i64 (u / 128 % 32))).setCell ⟨wr.heap.size, 4, none⟩ (.int .i32 (wrap32 (u / 4096 * 4096)))) = W2 at *
        cases hm : matchL (n + 1) u with
        | true =>
          have hh := fun w => hit_enc (n + 1) h1 h2 u hu hm w
          rw [hf, ec] at hh
          refine (hh _).mono ?_
          rintro e w2 ⟨rfl, b2⟩
          have c0' := (b2.cell (p := ⟨wr.heap.size, 0, none⟩) gs).trans c0
          have c1' := (b2.cell (p := ⟨wr.heap.size, 1, none⟩) gs).trans c1
          have c2' := (b2.cell (p := ⟨wr.heap.size, 2, none⟩) gs).trans c2
          have c3' := (b2.cell (p := ⟨wr.heap.size, 3, none⟩) gs).trans c3
          have c4' := (b2.cell (p := ⟨wr.heap.size, 4, none⟩) gs).trans c4
          have g0' := (b2.cell (p := ⟨B, 0, none⟩) (by simp; omega)).trans g0
          have g1' := (b2.cell (p := ⟨B, 1, none⟩) (by simp; omega)).trans g1
          have g2' := (b2.cell (p := ⟨B, 2, none⟩) (by simp; omega)).trans g2
          have g3' := (b2.cell (p := ⟨B, 3, none⟩) (by simp; omega)).trans g3
          have g4' := (b2.cell (p := ⟨B, 4, none⟩) (by simp; omega)).trans g4
          have gf' : ∀ i, w2.frozen? ⟨B, i, none⟩ = false := fun i => (b2.frozen (p := ⟨B, i, none⟩) (by simp; omega)).trans (gf i)
          clear c0 c1 c2 c3 c4 g0 g1 g2 g3 g4 gf hh
          go_wp2_with fail
          obtain ⟨s0, s1, s2, s3, s4⟩ := set5 w2 B _ _ _ _ _ (.int .i64 ((n : Int) + 1)) (.int .i64 (u / 128 % 32)) (.int .i64 0) (.int .i64 0) (.int .i32 (wrap32 (u / 4096 * 4096))) g0' g1' g2' g3' g4' _ rfl
          (try simp only [Exit.inBlock, Exit.then]); refine bodyPost_ret (v := .tuple #[.agg #[.int .i64 ((n : Int) + 1), .int .i64 (u / 128 % 32), .int .i64 0, .int .i64 0, .int .i32 (wrap32 (u / 4096 * 4096))], .bool true]) (by simp [results, Tryd.results12, go_sem, s0, s1, s2, s3, s4]) rfl ?_
          refine ⟨?_, ?_⟩
          · rw [hd'.out, show 47 - n = 46 - n + 1 by omega, decF_hit hm]
            have ew : wordO u (some (n + 1)) = .tuple #[wordV ((n + 1 : Nat) : Int) (dL (formN (n + 1)) u) (sL (formN (n + 1)) u) (tL (formN (n + 1)) u) (immL (formN (n + 1)) u), .bool true] := rfl
            rw [ew, hf, ec]
            rfl
          · have b3 := bb.trans (b2.mono (by omega))
            exact Below.mono ((((((b3.setCell (by simp) _).setCell (by simp) _).setCell (by simp) _).setCell (by simp) _).setCell (by simp) _)) (by omega)
        | false =>
          have hh := fun w => miss_enc (n + 1) h1 h2 u hu hm w
          rw [hf, ec] at hh
          refine (hh _).mono ?_
          rintro e w2 ⟨⟨y, b, rfl, hy⟩, b2⟩
          have hnext : Value.int .i64 ((n : Int) + 1 + 1) = .int .i64 (((n + 1 : Nat) : Int) + 1) := by simp
          have g0' := (b2.cell (p := ⟨B, 0, none⟩) (by simp; omega)).trans g0
          have g1' := (b2.cell (p := ⟨B, 1, none⟩) (by simp; omega)).trans g1
          have g2' := (b2.cell (p := ⟨B, 2, none⟩) (by simp; omega)).trans g2
          have g3' := (b2.cell (p := ⟨B, 3, none⟩) (by simp; omega)).trans g3
          have g4' := (b2.cell (p := ⟨B, 4, none⟩) (by simp; omega)).trans g4
          have gf' : ∀ i, w2.frozen? ⟨B, i, none⟩ = false := fun i => (b2.frozen (p := ⟨B, i, none⟩) (by simp; omega)).trans (gf i)
          have b3 := bb.trans (b2.mono (by omega))
          have gs' : B < w2.heap.size := by have := b2.size; omega
          have hdd : decL u = decF u (n + 1 + 1) (47 - (n + 1)) := by rw [hd'.out, show 47 - n = 47 - (n + 1) + 1 by omega, decF_miss hm]
          have hdd' := hid hdd
          clear hdd hnext c0 c1 c2 c3 c4 g0 g1 g2 g3 g4 gf hh
          cases b with
          | false =>
            go_wp2_with fail
            exact ⟨⟨n + 1, by omega, by simp, ⟨g0', g1', g2', g3', g4'⟩, gf', gs', b3, hdd'.out⟩, by simp [intOf]; omega⟩
          | true =>
            have hy' : ¬ y = u := by rcases hy with hy | hy; cases hy; exact hy
            clear hy
            go_wp2_with fail
            exact ⟨⟨n + 1, by omega, by simp, ⟨g0', g1', g2', g3', g4'⟩, gf', gs', b3, hdd'.out⟩, by simp [intOf]; omega⟩
      · rw [hf] at ho
        go_wp2_with fail
        refine (ho _).mono ?_
        rintro e w1 ⟨rfl, b1⟩
        have q0 : w1.cell? ⟨wr.heap.size, 0, none⟩ = some (.int .i64 ((n : Int) + 1)) := own_cell b1 0 _ rfl
        have q1 : w1.cell? ⟨wr.heap.size, 1, none⟩ = some (.int .i64 0) := own_cell b1 1 _ rfl
        have q2 : w1.cell? ⟨wr.heap.size, 2, none⟩ = some (.int .i64 0) := own_cell b1 2 _ rfl
        have q3 : w1.cell? ⟨wr.heap.size, 3, none⟩ = some (.int .i64 0) := own_cell b1 3 _ rfl
        have q4 : w1.cell? ⟨wr.heap.size, 4, none⟩ = some (.int .i32 0) := own_cell b1 4 _ rfl
        have qf : ∀ i, w1.frozen? ⟨wr.heap.size, i, none⟩ = false := fun i => own_frozen b1 i
        have hs3 := jor2 u
        go_wp2_with (go_at_call 29; refine (piece_g u hu _ _ _ (by decide) (by decide) (by decide) (by decide) _).mono ?_; rintro e w' ⟨rfl, rfl⟩)
        refine (rsg21 _ (by omega) _).mono ?_
        rintro e w' ⟨rfl, rfl⟩
        go_wp2_with fail
        clear hs3
        have hne : ¬ (wr.heap.size = B) := by omega
        have pB : ∀ i, w1.cell? ⟨B, i, none⟩ = wr.cell? ⟨B, i, none⟩ := fun i => (b1.cell (by simp; omega)).trans (za _ i)
        have pF : ∀ i, w1.frozen? ⟨B, i, none⟩ = false := fun i => (b1.frozen (by simp; omega)).trans (zf _ i)
        have c0 : ((w1.setCell ⟨wr.heap.size, 1, none⟩ (.int .i64 (u / 128 % 32))).setCell ⟨wr.heap.size, 4, none⟩ (.int .i32 (sx 20 (u / 2147483648 % 2 * 1048576 + u / 4096 % 256 * 4096 + u / 1048576 % 2 * 2048 + u / 2097152 % 1024 * 2)))).cell? ⟨wr.heap.size, 0, none⟩ = some (.int .i64 ((n : Int) + 1)) := by simp [World.cell?_setCell_other, World.cell?_setCell_same', q0, q1, q2, q3, q4]
        have c1 : ((w1.setCell ⟨wr.heap.size, 1, none⟩ (.int .i64 (u / 128 % 32))).setCell ⟨wr.heap.size, 4, none⟩ (.int .i32 (sx 20 (u / 2147483648 % 2 * 1048576 + u / 4096 % 256 * 4096 + u / 1048576 % 2 * 2048 + u / 2097152 % 1024 * 2)))).cell? ⟨wr.heap.size, 1, none⟩ = some (.int .i64 (u / 128 % 32)) := by simp [World.cell?_setCell_other, World.cell?_setCell_same', q0, q1, q2, q3, q4]
        have c2 : ((w1.setCell ⟨wr.heap.size, 1, none⟩ (.int .i64 (u / 128 % 32))).setCell ⟨wr.heap.size, 4, none⟩ (.int .i32 (sx 20 (u / 2147483648 % 2 * 1048576 + u / 4096 % 256 * 4096 + u / 1048576 % 2 * 2048 + u / 2097152 % 1024 * 2)))).cell? ⟨wr.heap.size, 2, none⟩ = some (.int .i64 0) := by simp [World.cell?_setCell_other, World.cell?_setCell_same', q0, q1, q2, q3, q4]
        have c3 : ((w1.setCell ⟨wr.heap.size, 1, none⟩ (.int .i64 (u / 128 % 32))).setCell ⟨wr.heap.size, 4, none⟩ (.int .i32 (sx 20 (u / 2147483648 % 2 * 1048576 + u / 4096 % 256 * 4096 + u / 1048576 % 2 * 2048 + u / 2097152 % 1024 * 2)))).cell? ⟨wr.heap.size, 3, none⟩ = some (.int .i64 0) := by simp [World.cell?_setCell_other, World.cell?_setCell_same', q0, q1, q2, q3, q4]
        have c4 : ((w1.setCell ⟨wr.heap.size, 1, none⟩ (.int .i64 (u / 128 % 32))).setCell ⟨wr.heap.size, 4, none⟩ (.int .i32 (sx 20 (u / 2147483648 % 2 * 1048576 + u / 4096 % 256 * 4096 + u / 1048576 % 2 * 2048 + u / 2097152 % 1024 * 2)))).cell? ⟨wr.heap.size, 4, none⟩ = some (.int .i32 (sx 20 (u / 2147483648 % 2 * 1048576 + u / 4096 % 256 * 4096 + u / 1048576 % 2 * 2048 + u / 2097152 % 1024 * 2))) := by simp [World.cell?_setCell_other, World.cell?_setCell_same', q0, q1, q2, q3, q4]
        have g0 : ((w1.setCell ⟨wr.heap.size, 1, none⟩ (.int .i64 (u / 128 % 32))).setCell ⟨wr.heap.size, 4, none⟩ (.int .i32 (sx 20 (u / 2147483648 % 2 * 1048576 + u / 4096 % 256 * 4096 + u / 1048576 % 2 * 2048 + u / 2097152 % 1024 * 2)))).cell? ⟨B, 0, none⟩ = some (.int .i64 0) := by simp [World.cell?_setCell_other, hne, pB, p0, p1, p2, p3, p4]
        have g1 : ((w1.setCell ⟨wr.heap.size, 1, none⟩ (.int .i64 (u / 128 % 32))).setCell ⟨wr.heap.size, 4, none⟩ (.int .i32 (sx 20 (u / 2147483648 % 2 * 1048576 + u / 4096 % 256 * 4096 + u / 1048576 % 2 * 2048 + u / 2097152 % 1024 * 2)))).cell? ⟨B, 1, none⟩ = some (.int .i64 0) := by simp [World.cell?_setCell_other, hne, pB, p0, p1, p2, p3, p4]
        have g2 : ((w1.setCell ⟨wr.heap.size, 1, none⟩ (.int .i64 (u / 128 % 32))).setCell ⟨wr.heap.size, 4, none⟩ (.int .i32 (sx 20 (u / 2147483648 % 2 * 1048576 + u / 4096 % 256 * 4096 + u / 1048576 % 2 * 2048 + u / 2097152 % 1024 * 2)))).cell? ⟨B, 2, none⟩ = some (.int .i64 0) := by simp [World.cell?_setCell_other, hne, pB, p0, p1, p2, p3, p4]
        have g3 : ((w1.setCell ⟨wr.heap.size, 1, none⟩ (.int .i64 (u / 128 % 32))).setCell ⟨wr.heap.size, 4, none⟩ (.int .i32 (sx 20 (u / 2147483648 % 2 * 1048576 + u / 4096 % 256 * 4096 + u / 1048576 % 2 * 2048 + u / 2097152 % 1024 * 2)))).cell? ⟨B, 3, none⟩ = some (.int .i64 0) := by simp [World.cell?_setCell_other, hne, pB, p0, p1, p2, p3, p4]
        have g4 : ((w1.setCell ⟨wr.heap.size, 1, none⟩ (.int .i64 (u / 128 % 32))).setCell ⟨wr.heap.size, 4, none⟩ (.int .i32 (sx 20 (u / 2147483648 % 2 * 1048576 + u / 4096 % 256 * 4096 + u / 1048576 % 2 * 2048 + u / 2097152 % 1024 * 2)))).cell? ⟨B, 4, none⟩ = some (.int .i32 0) := by simp [World.cell?_setCell_other, hne, pB, p0, p1, p2, p3, p4]
        have gf : ∀ i, ((w1.setCell ⟨wr.heap.size, 1, none⟩ (.int .i64 (u / 128 % 32))).setCell ⟨wr.heap.size, 4, none⟩ (.int .i32 (sx 20 (u / 2147483648 % 2 * 1048576 + u / 4096 % 256 * 4096 + u / 1048576 % 2 * 2048 + u / 2097152 % 1024 * 2)))).frozen? ⟨B, i, none⟩ = false := by intro i; simp [pF]
        have bb : Below B w ((w1.setCell ⟨wr.heap.size, 1, none⟩ (.int .i64 (u / 128 % 32))).setCell ⟨wr.heap.size, 4, none⟩ (.int .i32 (sx 20 (u / 2147483648 % 2 * 1048576 + u / 4096 % 256 * 4096 + u / 1048576 % 2 * 2048 + u / 2097152 % 1024 * 2)))) := ((((hba _).trans (b1.mono (by simp; omega))).setCell (by simp; omega) _).setCell (by simp; omega) _)
        have gs : wr.heap.size < ((w1.setCell ⟨wr.heap.size, 1, none⟩ (.int .i64 (u / 128 % 32))).setCell ⟨wr.heap.size, 4, none⟩ (.int .i32 (sx 20 (u / 2147483648 % 2 * 1048576 + u / 4096 % 256 * 4096 + u / 1048576 % 2 * 2048 + u / 2097152 % 1024 * 2)))).heap.size := by have := b1.size; simp at this; simp; omega
        clear pB pF q0 q1 q2 q3 q4 qf b1 ho za zf hba z7 z15 z20 p0 p1 p2 p3 p4 pf
        generalize ((w1.setCell ⟨wr.heap.size, 1, none⟩ (.int .i64 (u / 128 % 32))).setCell ⟨wr.heap.size, 4, none⟩ (.int .i32 (sx 20 (u / 2147483648 % 2 * 1048576 + u / 4096 % 256 * 4096 + u / 1048576 % 2 * 2048 + u / 2097152 % 1024 * 2)))) = W2 at *
        cases hm : matchL (n + 1) u with
        | true =>
          have hh := fun w => hit_enc (n + 1) h1 h2 u hu hm w
          rw [hf, ec] at hh
          refine (hh _).mono ?_
          rintro e w2 ⟨rfl, b2⟩
          have c0' := (b2.cell (p := ⟨wr.heap.size, 0, none⟩) gs).trans c0
          have c1' := (b2.cell (p := ⟨wr.heap.size, 1, none⟩) gs).trans c1
          have c2' := (b2.cell (p := ⟨wr.heap.size, 2, none⟩) gs).trans c2
          have c3' := (b2.cell (p := ⟨wr.heap.size, 3, none⟩) gs).trans c3
          have c4' := (b2.cell (p := ⟨wr.heap.size, 4, none⟩) gs).trans c4
          have g0' := (b2.cell (p := ⟨B, 0, none⟩) (by simp; omega)).trans g0
          have g1' := (b2.cell (p := ⟨B, 1, none⟩) (by simp; omega)).trans g1
          have g2' := (b2.cell (p := ⟨B, 2, none⟩) (by simp; omega)).trans g2
          have g3' := (b2.cell (p := ⟨B, 3, none⟩) (by simp; omega)).trans g3
          have g4' := (b2.cell (p := ⟨B, 4, none⟩) (by simp; omega)).trans g4
          have gf' : ∀ i, w2.frozen? ⟨B, i, none⟩ = false := fun i => (b2.frozen (p := ⟨B, i, none⟩) (by simp; omega)).trans (gf i)
          clear c0 c1 c2 c3 c4 g0 g1 g2 g3 g4 gf hh
          go_wp2_with fail
          obtain ⟨s0, s1, s2, s3, s4⟩ := set5 w2 B _ _ _ _ _ (.int .i64 ((n : Int) + 1)) (.int .i64 (u / 128 % 32)) (.int .i64 0) (.int .i64 0) (.int .i32 (sx 20 (u / 2147483648 % 2 * 1048576 + u / 4096 % 256 * 4096 + u / 1048576 % 2 * 2048 + u / 2097152 % 1024 * 2))) g0' g1' g2' g3' g4' _ rfl
          (try simp only [Exit.inBlock, Exit.then]); refine bodyPost_ret (v := .tuple #[.agg #[.int .i64 ((n : Int) + 1), .int .i64 (u / 128 % 32), .int .i64 0, .int .i64 0, .int .i32 (sx 20 (u / 2147483648 % 2 * 1048576 + u / 4096 % 256 * 4096 + u / 1048576 % 2 * 2048 + u / 2097152 % 1024 * 2))], .bool true]) (by simp [results, Tryd.results12, go_sem, s0, s1, s2, s3, s4]) rfl ?_
          refine ⟨?_, ?_⟩
          · rw [hd'.out, show 47 - n = 46 - n + 1 by omega, decF_hit hm]
            have ew : wordO u (some (n + 1)) = .tuple #[wordV ((n + 1 : Nat) : Int) (dL (formN (n + 1)) u) (sL (formN (n + 1)) u) (tL (formN (n + 1)) u) (immL (formN (n + 1)) u), .bool true] := rfl
            rw [ew, hf, ec]
            rfl
          · have b3 := bb.trans (b2.mono (by omega))
            exact Below.mono ((((((b3.setCell (by simp) _).setCell (by simp) _).setCell (by simp) _).setCell (by simp) _).setCell (by simp) _)) (by omega)
        | false =>
          have hh := fun w => miss_enc (n + 1) h1 h2 u hu hm w
          rw [hf, ec] at hh
          refine (hh _).mono ?_
          rintro e w2 ⟨⟨y, b, rfl, hy⟩, b2⟩
          have hnext : Value.int .i64 ((n : Int) + 1 + 1) = .int .i64 (((n + 1 : Nat) : Int) + 1) := by simp
          have g0' := (b2.cell (p := ⟨B, 0, none⟩) (by simp; omega)).trans g0
          have g1' := (b2.cell (p := ⟨B, 1, none⟩) (by simp; omega)).trans g1
          have g2' := (b2.cell (p := ⟨B, 2, none⟩) (by simp; omega)).trans g2
          have g3' := (b2.cell (p := ⟨B, 3, none⟩) (by simp; omega)).trans g3
          have g4' := (b2.cell (p := ⟨B, 4, none⟩) (by simp; omega)).trans g4
          have gf' : ∀ i, w2.frozen? ⟨B, i, none⟩ = false := fun i => (b2.frozen (p := ⟨B, i, none⟩) (by simp; omega)).trans (gf i)
          have b3 := bb.trans (b2.mono (by omega))
          have gs' : B < w2.heap.size := by have := b2.size; omega
          have hdd : decL u = decF u (n + 1 + 1) (47 - (n + 1)) := by rw [hd'.out, show 47 - n = 47 - (n + 1) + 1 by omega, decF_miss hm]
          have hdd' := hid hdd
          clear hdd hnext c0 c1 c2 c3 c4 g0 g1 g2 g3 g4 gf hh
          cases b with
          | false =>
            go_wp2_with fail
            exact ⟨⟨n + 1, by omega, by simp, ⟨g0', g1', g2', g3', g4'⟩, gf', gs', b3, hdd'.out⟩, by simp [intOf]; omega⟩
          | true =>
            have hy' : ¬ y = u := by rcases hy with hy | hy; cases hy; exact hy
            clear hy
            go_wp2_with fail
            exact ⟨⟨n + 1, by omega, by simp, ⟨g0', g1', g2', g3', g4'⟩, gf', gs', b3, hdd'.out⟩, by simp [intOf]; omega⟩
      · rw [hf] at ho
        go_wp2_with fail
        refine (ho _).mono ?_
        rintro e w1 ⟨rfl, b1⟩
        have q0 : w1.cell? ⟨wr.heap.size, 0, none⟩ = some (.int .i64 ((n : Int) + 1)) := own_cell b1 0 _ rfl
        have q1 : w1.cell? ⟨wr.heap.size, 1, none⟩ = some (.int .i64 0) := own_cell b1 1 _ rfl
        have q2 : w1.cell? ⟨wr.heap.size, 2, none⟩ = some (.int .i64 0) := own_cell b1 2 _ rfl
        have q3 : w1.cell? ⟨wr.heap.size, 3, none⟩ = some (.int .i64 0) := own_cell b1 3 _ rfl
        have q4 : w1.cell? ⟨wr.heap.size, 4, none⟩ = some (.int .i32 0) := own_cell b1 4 _ rfl
        have qf : ∀ i, w1.frozen? ⟨wr.heap.size, i, none⟩ = false := fun i => own_frozen b1 i
        have hs3 := sra20 u hu
        go_wp2_with fail
        clear hs3
        have hne : ¬ (wr.heap.size = B) := by omega
        have pB : ∀ i, w1.cell? ⟨B, i, none⟩ = wr.cell? ⟨B, i, none⟩ := fun i => (b1.cell (by simp; omega)).trans (za _ i)
        have pF : ∀ i, w1.frozen? ⟨B, i, none⟩ = false := fun i => (b1.frozen (by simp; omega)).trans (zf _ i)
        have c0 : (((w1.setCell ⟨wr.heap.size, 1, none⟩ (.int .i64 (u / 128 % 32))).setCell ⟨wr.heap.size, 2, none⟩ (.int .i64 (u / 32768 % 32))).setCell ⟨wr.heap.size, 4, none⟩ (.int .i32 (sx 11 (u / 1048576 % 4096)))).cell? ⟨wr.heap.size, 0, none⟩ = some (.int .i64 ((n : Int) + 1)) := by simp [World.cell?_setCell_other, World.cell?_setCell_same', q0, q1, q2, q3, q4]
        have c1 : (((w1.setCell ⟨wr.heap.size, 1, none⟩ (.int .i64 (u / 128 % 32))).setCell ⟨wr.heap.size, 2, none⟩ (.int .i64 (u / 32768 % 32))).setCell ⟨wr.heap.size, 4, none⟩ (.int .i32 (sx 11 (u / 1048576 % 4096)))).cell? ⟨wr.heap.size, 1, none⟩ = some (.int .i64 (u / 128 % 32)) := by simp [World.cell?_setCell_other, World.cell?_setCell_same', q0, q1, q2, q3, q4]
        have c2 : (((w1.setCell ⟨wr.heap.size, 1, none⟩ (.int .i64 (u / 128 % 32))).setCell ⟨wr.heap.size, 2, none⟩ (.int .i64 (u / 32768 % 32))).setCell ⟨wr.heap.size, 4, none⟩ (.int .i32 (sx 11 (u / 1048576 % 4096)))).cell? ⟨wr.heap.size, 2, none⟩ = some (.int .i64 (u / 32768 % 32)) := by simp [World.cell?_setCell_other, World.cell?_setCell_same', q0, q1, q2, q3, q4]
        have c3 : (((w1.setCell ⟨wr.heap.size, 1, none⟩ (.int .i64 (u / 128 % 32))).setCell ⟨wr.heap.size, 2, none⟩ (.int .i64 (u / 32768 % 32))).setCell ⟨wr.heap.size, 4, none⟩ (.int .i32 (sx 11 (u / 1048576 % 4096)))).cell? ⟨wr.heap.size, 3, none⟩ = some (.int .i64 0) := by simp [World.cell?_setCell_other, World.cell?_setCell_same', q0, q1, q2, q3, q4]
        have c4 : (((w1.setCell ⟨wr.heap.size, 1, none⟩ (.int .i64 (u / 128 % 32))).setCell ⟨wr.heap.size, 2, none⟩ (.int .i64 (u / 32768 % 32))).setCell ⟨wr.heap.size, 4, none⟩ (.int .i32 (sx 11 (u / 1048576 % 4096)))).cell? ⟨wr.heap.size, 4, none⟩ = some (.int .i32 (sx 11 (u / 1048576 % 4096))) := by simp [World.cell?_setCell_other, World.cell?_setCell_same', q0, q1, q2, q3, q4]
        have g0 : (((w1.setCell ⟨wr.heap.size, 1, none⟩ (.int .i64 (u / 128 % 32))).setCell ⟨wr.heap.size, 2, none⟩ (.int .i64 (u / 32768 % 32))).setCell ⟨wr.heap.size, 4, none⟩ (.int .i32 (sx 11 (u / 1048576 % 4096)))).cell? ⟨B, 0, none⟩ = some (.int .i64 0) := by simp [World.cell?_setCell_other, hne, pB, p0, p1, p2, p3, p4]
        have g1 : (((w1.setCell ⟨wr.heap.size, 1, none⟩ (.int .i64 (u / 128 % 32))).setCell ⟨wr.heap.size, 2, none⟩ (.int .i64 (u / 32768 % 32))).setCell ⟨wr.heap.size, 4, none⟩ (.int .i32 (sx 11 (u / 1048576 % 4096)))).cell? ⟨B, 1, none⟩ = some (.int .i64 0) := by simp [World.cell?_setCell_other, hne, pB, p0, p1, p2, p3, p4]
        have g2 : (((w1.setCell ⟨wr.heap.size, 1, none⟩ (.int .i64 (u / 128 % 32))).setCell ⟨wr.heap.size, 2, none⟩ (.int .i64 (u / 32768 % 32))).setCell ⟨wr.heap.size, 4, none⟩ (.int .i32 (sx 11 (u / 1048576 % 4096)))).cell? ⟨B, 2, none⟩ = some (.int .i64 0) := by simp [World.cell?_setCell_other, hne, pB, p0, p1, p2, p3, p4]
        have g3 : (((w1.setCell ⟨wr.heap.size, 1, none⟩ (.int .i64 (u / 128 % 32))).setCell ⟨wr.heap.size, 2, none⟩ (.int .i64 (u / 32768 % 32))).setCell ⟨wr.heap.size, 4, none⟩ (.int .i32 (sx 11 (u / 1048576 % 4096)))).cell? ⟨B, 3, none⟩ = some (.int .i64 0) := by simp [World.cell?_setCell_other, hne, pB, p0, p1, p2, p3, p4]
        have g4 : (((w1.setCell ⟨wr.heap.size, 1, none⟩ (.int .i64 (u / 128 % 32))).setCell ⟨wr.heap.size, 2, none⟩ (.int .i64 (u / 32768 % 32))).setCell ⟨wr.heap.size, 4, none⟩ (.int .i32 (sx 11 (u / 1048576 % 4096)))).cell? ⟨B, 4, none⟩ = some (.int .i32 0) := by simp [World.cell?_setCell_other, hne, pB, p0, p1, p2, p3, p4]
        have gf : ∀ i, (((w1.setCell ⟨wr.heap.size, 1, none⟩ (.int .i64 (u / 128 % 32))).setCell ⟨wr.heap.size, 2, none⟩ (.int .i64 (u / 32768 % 32))).setCell ⟨wr.heap.size, 4, none⟩ (.int .i32 (sx 11 (u / 1048576 % 4096)))).frozen? ⟨B, i, none⟩ = false := by intro i; simp [pF]
        have bb : Below B w (((w1.setCell ⟨wr.heap.size, 1, none⟩ (.int .i64 (u / 128 % 32))).setCell ⟨wr.heap.size, 2, none⟩ (.int .i64 (u / 32768 % 32))).setCell ⟨wr.heap.size, 4, none⟩ (.int .i32 (sx 11 (u / 1048576 % 4096)))) := (((((hba _).trans (b1.mono (by simp; omega))).setCell (by simp; omega) _).setCell (by simp; omega) _).setCell (by simp; omega) _)
        have gs : wr.heap.size < (((w1.setCell ⟨wr.heap.size, 1, none⟩ (.int .i64 (u / 128 % 32))).setCell ⟨wr.heap.size, 2, none⟩ (.int .i64 (u / 32768 % 32))).setCell ⟨wr.heap.size, 4, none⟩ (.int .i32 (sx 11 (u / 1048576 % 4096)))).heap.size := by have := b1.size; simp at this; simp; omega
        clear pB pF q0 q1 q2 q3 q4 qf b1 ho za zf hba z7 z15 z20 p0 p1 p2 p3 p4 pf
        generalize (((w1.setCell ⟨wr.heap.size, 1, none⟩ (.int .i64 (u / 128 % 32))).setCell ⟨wr.heap.size, 2, none⟩ (.int .i64 (u / 32768 % 32))).setCell ⟨wr.heap.size, 4, none⟩ (.int .i32 (sx 11 (u / 1048576 % 4096)))) = W2 at *
        cases hm : matchL (n + 1) u with
        | true =>
          have hh := fun w => hit_enc (n + 1) h1 h2 u hu hm w
          rw [hf, ec] at hh
          refine (hh _).mono ?_
          rintro e w2 ⟨rfl, b2⟩
          have c0' := (b2.cell (p := ⟨wr.heap.size, 0, none⟩) gs).trans c0
          have c1' := (b2.cell (p := ⟨wr.heap.size, 1, none⟩) gs).trans c1
          have c2' := (b2.cell (p := ⟨wr.heap.size, 2, none⟩) gs).trans c2
          have c3' := (b2.cell (p := ⟨wr.heap.size, 3, none⟩) gs).trans c3
          have c4' := (b2.cell (p := ⟨wr.heap.size, 4, none⟩) gs).trans c4
          have g0' := (b2.cell (p := ⟨B, 0, none⟩) (by simp; omega)).trans g0
          have g1' := (b2.cell (p := ⟨B, 1, none⟩) (by simp; omega)).trans g1
          have g2' := (b2.cell (p := ⟨B, 2, none⟩) (by simp; omega)).trans g2
          have g3' := (b2.cell (p := ⟨B, 3, none⟩) (by simp; omega)).trans g3
          have g4' := (b2.cell (p := ⟨B, 4, none⟩) (by simp; omega)).trans g4
          have gf' : ∀ i, w2.frozen? ⟨B, i, none⟩ = false := fun i => (b2.frozen (p := ⟨B, i, none⟩) (by simp; omega)).trans (gf i)
          clear c0 c1 c2 c3 c4 g0 g1 g2 g3 g4 gf hh
          go_wp2_with fail
          obtain ⟨s0, s1, s2, s3, s4⟩ := set5 w2 B _ _ _ _ _ (.int .i64 ((n : Int) + 1)) (.int .i64 (u / 128 % 32)) (.int .i64 (u / 32768 % 32)) (.int .i64 0) (.int .i32 (sx 11 (u / 1048576 % 4096))) g0' g1' g2' g3' g4' _ rfl
          (try simp only [Exit.inBlock, Exit.then]); refine bodyPost_ret (v := .tuple #[.agg #[.int .i64 ((n : Int) + 1), .int .i64 (u / 128 % 32), .int .i64 (u / 32768 % 32), .int .i64 0, .int .i32 (sx 11 (u / 1048576 % 4096))], .bool true]) (by simp [results, Tryd.results12, go_sem, s0, s1, s2, s3, s4]) rfl ?_
          refine ⟨?_, ?_⟩
          · rw [hd'.out, show 47 - n = 46 - n + 1 by omega, decF_hit hm]
            have ew : wordO u (some (n + 1)) = .tuple #[wordV ((n + 1 : Nat) : Int) (dL (formN (n + 1)) u) (sL (formN (n + 1)) u) (tL (formN (n + 1)) u) (immL (formN (n + 1)) u), .bool true] := rfl
            rw [ew, hf, ec]
            rfl
          · have b3 := bb.trans (b2.mono (by omega))
            exact Below.mono ((((((b3.setCell (by simp) _).setCell (by simp) _).setCell (by simp) _).setCell (by simp) _).setCell (by simp) _)) (by omega)
        | false =>
          have hh := fun w => miss_enc (n + 1) h1 h2 u hu hm w
          rw [hf, ec] at hh
          refine (hh _).mono ?_
          rintro e w2 ⟨⟨y, b, rfl, hy⟩, b2⟩
          have hnext : Value.int .i64 ((n : Int) + 1 + 1) = .int .i64 (((n + 1 : Nat) : Int) + 1) := by simp
          have g0' := (b2.cell (p := ⟨B, 0, none⟩) (by simp; omega)).trans g0
          have g1' := (b2.cell (p := ⟨B, 1, none⟩) (by simp; omega)).trans g1
          have g2' := (b2.cell (p := ⟨B, 2, none⟩) (by simp; omega)).trans g2
          have g3' := (b2.cell (p := ⟨B, 3, none⟩) (by simp; omega)).trans g3
          have g4' := (b2.cell (p := ⟨B, 4, none⟩) (by simp; omega)).trans g4
          have gf' : ∀ i, w2.frozen? ⟨B, i, none⟩ = false := fun i => (b2.frozen (p := ⟨B, i, none⟩) (by simp; omega)).trans (gf i)
          have b3 := bb.trans (b2.mono (by omega))
          have gs' : B < w2.heap.size := by have := b2.size; omega
          have hdd : decL u = decF u (n + 1 + 1) (47 - (n + 1)) := by rw [hd'.out, show 47 - n = 47 - (n + 1) + 1 by omega, decF_miss hm]
          have hdd' := hid hdd
          clear hdd hnext c0 c1 c2 c3 c4 g0 g1 g2 g3 g4 gf hh
          cases b with
          | false =>
            go_wp2_with fail
            exact ⟨⟨n + 1, by omega, by simp, ⟨g0', g1', g2', g3', g4'⟩, gf', gs', b3, hdd'.out⟩, by simp [intOf]; omega⟩
          | true =>
            have hy' : ¬ y = u := by rcases hy with hy | hy; cases hy; exact hy
            clear hy
            go_wp2_with fail
            exact ⟨⟨n + 1, by omega, by simp, ⟨g0', g1', g2', g3', g4'⟩, gf', gs', b3, hdd'.out⟩, by simp [intOf]; omega⟩
      · rw [hf] at ho
        go_wp2_with fail
        refine (ho _).mono ?_
        rintro e w1 ⟨rfl, b1⟩
        have q0 : w1.cell? ⟨wr.heap.size, 0, none⟩ = some (.int .i64 ((n : Int) + 1)) := own_cell b1 0 _ rfl
        have q1 : w1.cell? ⟨wr.heap.size, 1, none⟩ = some (.int .i64 0) := own_cell b1 1 _ rfl
        have q2 : w1.cell? ⟨wr.heap.size, 2, none⟩ = some (.int .i64 0) := own_cell b1 2 _ rfl
        have q3 : w1.cell? ⟨wr.heap.size, 3, none⟩ = some (.int .i64 0) := own_cell b1 3 _ rfl
        have q4 : w1.cell? ⟨wr.heap.size, 4, none⟩ = some (.int .i32 0) := own_cell b1 4 _ rfl
        have qf : ∀ i, w1.frozen? ⟨wr.heap.size, i, none⟩ = false := fun i => own_frozen b1 i
        have hs3 := sra20 u hu
        go_wp2_with fail
        clear hs3
        have hne : ¬ (wr.heap.size = B) := by omega
        have pB : ∀ i, w1.cell? ⟨B, i, none⟩ = wr.cell? ⟨B, i, none⟩ := fun i => (b1.cell (by simp; omega)).trans (za _ i)
        have pF : ∀ i, w1.frozen? ⟨B, i, none⟩ = false := fun i => (b1.frozen (by simp; omega)).trans (zf _ i)
        have c0 : (((w1.setCell ⟨wr.heap.size, 1, none⟩ (.int .i64 (u / 128 % 32))).setCell ⟨wr.heap.size, 2, none⟩ (.int .i64 (u / 32768 % 32))).setCell ⟨wr.heap.size, 4, none⟩ (.int .i32 (sx 11 (u / 1048576 % 4096)))).cell? ⟨wr.heap.size, 0, none⟩ = some (.int .i64 ((n : Int) + 1)) := by simp [World.cell?_setCell_other, World.cell?_setCell_same', q0, q1, q2, q3, q4]
        have c1 : (((w1.setCell ⟨wr.heap.size, 1, none⟩ (.int .i64 (u / 128 % 32))).setCell ⟨wr.heap.size, 2, none⟩ (.int .i64 (u / 32768 % 32))).setCell ⟨wr.heap.size, 4, none⟩ (.int .i32 (sx 11 (u / 1048576 % 4096)))).cell? ⟨wr.heap.size, 1, none⟩ = some (.int .i64 (u / 128 % 32)) := by simp [World.cell?_setCell_other, World.cell?_setCell_same', q0, q1, q2, q3, q4]
        have c2 : (((w1.setCell ⟨wr.heap.size, 1, none⟩ (.int .i64 (u / 128 % 32))).setCell ⟨wr.heap.size, 2, none⟩ (.int .i64 (u / 32768 % 32))).setCell ⟨wr.heap.size, 4, none⟩ (.int .i32 (sx 11 (u / 1048576 % 4096)))).cell? ⟨wr.heap.size, 2, none⟩ = some (.int .i64 (u / 32768 % 32)) := by simp [World.cell?_setCell_other, World.cell?_setCell_same', q0, q1, q2, q3, q4]
        have c3 : (((w1.setCell ⟨wr.heap.size, 1, none⟩ (.int .i64 (u / 128 % 32))).setCell ⟨wr.heap.size, 2, none⟩ (.int .i64 (u / 32768 % 32))).setCell ⟨wr.heap.size, 4, none⟩ (.int .i32 (sx 11 (u / 1048576 % 4096)))).cell? ⟨wr.heap.size, 3, none⟩ = some (.int .i64 0) := by simp [World.cell?_setCell_other, World.cell?_setCell_same', q0, q1, q2, q3, q4]
        have c4 : (((w1.setCell ⟨wr.heap.size, 1, none⟩ (.int .i64 (u / 128 % 32))).setCell ⟨wr.heap.size, 2, none⟩ (.int .i64 (u / 32768 % 32))).setCell ⟨wr.heap.size, 4, none⟩ (.int .i32 (sx 11 (u / 1048576 % 4096)))).cell? ⟨wr.heap.size, 4, none⟩ = some (.int .i32 (sx 11 (u / 1048576 % 4096))) := by simp [World.cell?_setCell_other, World.cell?_setCell_same', q0, q1, q2, q3, q4]
        have g0 : (((w1.setCell ⟨wr.heap.size, 1, none⟩ (.int .i64 (u / 128 % 32))).setCell ⟨wr.heap.size, 2, none⟩ (.int .i64 (u / 32768 % 32))).setCell ⟨wr.heap.size, 4, none⟩ (.int .i32 (sx 11 (u / 1048576 % 4096)))).cell? ⟨B, 0, none⟩ = some (.int .i64 0) := by simp [World.cell?_setCell_other, hne, pB, p0, p1, p2, p3, p4]
        have g1 : (((w1.setCell ⟨wr.heap.size, 1, none⟩ (.int .i64 (u / 128 % 32))).setCell ⟨wr.heap.size, 2, none⟩ (.int .i64 (u / 32768 % 32))).setCell ⟨wr.heap.size, 4, none⟩ (.int .i32 (sx 11 (u / 1048576 % 4096)))).cell? ⟨B, 1, none⟩ = some (.int .i64 0) := by simp [World.cell?_setCell_other, hne, pB, p0, p1, p2, p3, p4]
        have g2 : (((w1.setCell ⟨wr.heap.size, 1, none⟩ (.int .i64 (u / 128 % 32))).setCell ⟨wr.heap.size, 2, none⟩ (.int .i64 (u / 32768 % 32))).setCell ⟨wr.heap.size, 4, none⟩ (.int .i32 (sx 11 (u / 1048576 % 4096)))).cell? ⟨B, 2, none⟩ = some (.int .i64 0) := by simp [World.cell?_setCell_other, hne, pB, p0, p1, p2, p3, p4]
        have g3 : (((w1.setCell ⟨wr.heap.size, 1, none⟩ (.int .i64 (u / 128 % 32))).setCell ⟨wr.heap.size, 2, none⟩ (.int .i64 (u / 32768 % 32))).setCell ⟨wr.heap.size, 4, none⟩ (.int .i32 (sx 11 (u / 1048576 % 4096)))).cell? ⟨B, 3, none⟩ = some (.int .i64 0) := by simp [World.cell?_setCell_other, hne, pB, p0, p1, p2, p3, p4]
        have g4 : (((w1.setCell ⟨wr.heap.size, 1, none⟩ (.int .i64 (u / 128 % 32))).setCell ⟨wr.heap.size, 2, none⟩ (.int .i64 (u / 32768 % 32))).setCell ⟨wr.heap.size, 4, none⟩ (.int .i32 (sx 11 (u / 1048576 % 4096)))).cell? ⟨B, 4, none⟩ = some (.int .i32 0) := by simp [World.cell?_setCell_other, hne, pB, p0, p1, p2, p3, p4]
        have gf : ∀ i, (((w1.setCell ⟨wr.heap.size, 1, none⟩ (.int .i64 (u / 128 % 32))).setCell ⟨wr.heap.size, 2, none⟩ (.int .i64 (u / 32768 % 32))).setCell ⟨wr.heap.size, 4, none⟩ (.int .i32 (sx 11 (u / 1048576 % 4096)))).frozen? ⟨B, i, none⟩ = false := by intro i; simp [pF]
        have bb : Below B w (((w1.setCell ⟨wr.heap.size, 1, none⟩ (.int .i64 (u / 128 % 32))).setCell ⟨wr.heap.size, 2, none⟩ (.int .i64 (u / 32768 % 32))).setCell ⟨wr.heap.size, 4, none⟩ (.int .i32 (sx 11 (u / 1048576 % 4096)))) := (((((hba _).trans (b1.mono (by simp; omega))).setCell (by simp; omega) _).setCell (by simp; omega) _).setCell (by simp; omega) _)
        have gs : wr.heap.size < (((w1.setCell ⟨wr.heap.size, 1, none⟩ (.int .i64 (u / 128 % 32))).setCell ⟨wr.heap.size, 2, none⟩ (.int .i64 (u / 32768 % 32))).setCell ⟨wr.heap.size, 4, none⟩ (.int .i32 (sx 11 (u / 1048576 % 4096)))).heap.size := by have := b1.size; simp at this; simp; omega
        clear pB pF q0 q1 q2 q3 q4 qf b1 ho za zf hba z7 z15 z20 p0 p1 p2 p3 p4 pf
        generalize (((w1.setCell ⟨wr.heap.size, 1, none⟩ (.int .i64 (u / 128 % 32))).setCell ⟨wr.heap.size, 2, none⟩ (.int .i64 (u / 32768 % 32))).setCell ⟨wr.heap.size, 4, none⟩ (.int .i32 (sx 11 (u / 1048576 % 4096)))) = W2 at *
        cases hm : matchL (n + 1) u with
        | true =>
          have hh := fun w => hit_enc (n + 1) h1 h2 u hu hm w
          rw [hf, ec] at hh
          refine (hh _).mono ?_
          rintro e w2 ⟨rfl, b2⟩
          have c0' := (b2.cell (p := ⟨wr.heap.size, 0, none⟩) gs).trans c0
          have c1' := (b2.cell (p := ⟨wr.heap.size, 1, none⟩) gs).trans c1
          have c2' := (b2.cell (p := ⟨wr.heap.size, 2, none⟩) gs).trans c2
          have c3' := (b2.cell (p := ⟨wr.heap.size, 3, none⟩) gs).trans c3
          have c4' := (b2.cell (p := ⟨wr.heap.size, 4, none⟩) gs).trans c4
          have g0' := (b2.cell (p := ⟨B, 0, none⟩) (by simp; omega)).trans g0
          have g1' := (b2.cell (p := ⟨B, 1, none⟩) (by simp; omega)).trans g1
          have g2' := (b2.cell (p := ⟨B, 2, none⟩) (by simp; omega)).trans g2
          have g3' := (b2.cell (p := ⟨B, 3, none⟩) (by simp; omega)).trans g3
          have g4' := (b2.cell (p := ⟨B, 4, none⟩) (by simp; omega)).trans g4
          have gf' : ∀ i, w2.frozen? ⟨B, i, none⟩ = false := fun i => (b2.frozen (p := ⟨B, i, none⟩) (by simp; omega)).trans (gf i)
          clear c0 c1 c2 c3 c4 g0 g1 g2 g3 g4 gf hh
          go_wp2_with fail
          obtain ⟨s0, s1, s2, s3, s4⟩ := set5 w2 B _ _ _ _ _ (.int .i64 ((n : Int) + 1)) (.int .i64 (u / 128 % 32)) (.int .i64 (u / 32768 % 32)) (.int .i64 0) (.int .i32 (sx 11 (u / 1048576 % 4096))) g0' g1' g2' g3' g4' _ rfl
          (try simp only [Exit.inBlock, Exit.then]); refine bodyPost_ret (v := .tuple #[.agg #[.int .i64 ((n : Int) + 1), .int .i64 (u / 128 % 32), .int .i64 (u / 32768 % 32), .int .i64 0, .int .i32 (sx 11 (u / 1048576 % 4096))], .bool true]) (by simp [results, Tryd.results12, go_sem, s0, s1, s2, s3, s4]) rfl ?_
          refine ⟨?_, ?_⟩
          · rw [hd'.out, show 47 - n = 46 - n + 1 by omega, decF_hit hm]
            have ew : wordO u (some (n + 1)) = .tuple #[wordV ((n + 1 : Nat) : Int) (dL (formN (n + 1)) u) (sL (formN (n + 1)) u) (tL (formN (n + 1)) u) (immL (formN (n + 1)) u), .bool true] := rfl
            rw [ew, hf, ec]
            rfl
          · have b3 := bb.trans (b2.mono (by omega))
            exact Below.mono ((((((b3.setCell (by simp) _).setCell (by simp) _).setCell (by simp) _).setCell (by simp) _).setCell (by simp) _)) (by omega)
        | false =>
          have hh := fun w => miss_enc (n + 1) h1 h2 u hu hm w
          rw [hf, ec] at hh
          refine (hh _).mono ?_
          rintro e w2 ⟨⟨y, b, rfl, hy⟩, b2⟩
          have hnext : Value.int .i64 ((n : Int) + 1 + 1) = .int .i64 (((n + 1 : Nat) : Int) + 1) := by simp
          have g0' := (b2.cell (p := ⟨B, 0, none⟩) (by simp; omega)).trans g0
          have g1' := (b2.cell (p := ⟨B, 1, none⟩) (by simp; omega)).trans g1
          have g2' := (b2.cell (p := ⟨B, 2, none⟩) (by simp; omega)).trans g2
          have g3' := (b2.cell (p := ⟨B, 3, none⟩) (by simp; omega)).trans g3
          have g4' := (b2.cell (p := ⟨B, 4, none⟩) (by simp; omega)).trans g4
          have gf' : ∀ i, w2.frozen? ⟨B, i, none⟩ = false := fun i => (b2.frozen (p := ⟨B, i, none⟩) (by simp; omega)).trans (gf i)
          have b3 := bb.trans (b2.mono (by omega))
          have gs' : B < w2.heap.size := by have := b2.size; omega
          have hdd : decL u = decF u (n + 1 + 1) (47 - (n + 1)) := by rw [hd'.out, show 47 - n = 47 - (n + 1) + 1 by omega, decF_miss hm]
          have hdd' := hid hdd
          clear hdd hnext c0 c1 c2 c3 c4 g0 g1 g2 g3 g4 gf hh
          cases b with
          | false =>
            go_wp2_with fail
            exact ⟨⟨n + 1, by omega, by simp, ⟨g0', g1', g2', g3', g4'⟩, gf', gs', b3, hdd'.out⟩, by simp [intOf]; omega⟩
          | true =>
            have hy' : ¬ y = u := by rcases hy with hy | hy; cases hy; exact hy
            clear hy
            go_wp2_with fail
            exact ⟨⟨n + 1, by omega, by simp, ⟨g0', g1', g2', g3', g4'⟩, gf', gs', b3, hdd'.out⟩, by simp [intOf]; omega⟩
      · rw [hf] at ho
        go_wp2_with fail
        refine (ho _).mono ?_
        rintro e w1 ⟨rfl, b1⟩
        have q0 : w1.cell? ⟨wr.heap.size, 0, none⟩ = some (.int .i64 ((n : Int) + 1)) := own_cell b1 0 _ rfl
        have q1 : w1.cell? ⟨wr.heap.size, 1, none⟩ = some (.int .i64 0) := own_cell b1 1 _ rfl
        have q2 : w1.cell? ⟨wr.heap.size, 2, none⟩ = some (.int .i64 0) := own_cell b1 2 _ rfl
        have q3 : w1.cell? ⟨wr.heap.size, 3, none⟩ = some (.int .i64 0) := own_cell b1 3 _ rfl
        have q4 : w1.cell? ⟨wr.heap.size, 4, none⟩ = some (.int .i32 0) := own_cell b1 4 _ rfl
        have qf : ∀ i, w1.frozen? ⟨wr.heap.size, i, none⟩ = false := fun i => own_frozen b1 i
        have hs3 := sor2 u
        go_wp2_with (go_at_call 29; refine (piece_g u hu _ _ _ (by decide) (by decide) (by decide) (by decide) _).mono ?_; rintro e w' ⟨rfl, rfl⟩)
        refine (rsg12 _ (by omega) _).mono ?_
        rintro e w' ⟨rfl, rfl⟩
        go_wp2_with fail
        clear hs3
        have hne : ¬ (wr.heap.size = B) := by omega
        have pB : ∀ i, w1.cell? ⟨B, i, none⟩ = wr.cell? ⟨B, i, none⟩ := fun i => (b1.cell (by simp; omega)).trans (za _ i)
        have pF : ∀ i, w1.frozen? ⟨B, i, none⟩ = false := fun i => (b1.frozen (by simp; omega)).trans (zf _ i)
        have c0 : (((w1.setCell ⟨wr.heap.size, 2, none⟩ (.int .i64 (u / 32768 % 32))).setCell ⟨wr.heap.size, 3, none⟩ (.int .i64 (u / 1048576 % 32))).setCell ⟨wr.heap.size, 4, none⟩ (.int .i32 (sx 11 (u / 33554432 % 128 * 32 + u / 128 % 32)))).cell? ⟨wr.heap.size, 0, none⟩ = some (.int .i64 ((n : Int) + 1)) := by simp [World.cell?_setCell_other, World.cell?_setCell_same', q0, q1, q2, q3, q4]
        have c1 : (((w1.setCell ⟨wr.heap.size, 2, none⟩ (.int .i64 (u / 32768 % 32))).setCell ⟨wr.heap.size, 3, none⟩ (.int .i64 (u / 1048576 % 32))).setCell ⟨wr.heap.size, 4, none⟩ (.int .i32 (sx 11 (u / 33554432 % 128 * 32 + u / 128 % 32)))).cell? ⟨wr.heap.size, 1, none⟩ = some (.int .i64 0) := by simp [World.cell?_setCell_other, World.cell?_setCell_same', q0, q1, q2, q3, q4]
        have c2 : (((w1.setCell ⟨wr.heap.size, 2, none⟩ (.int .i64 (u / 32768 % 32))).setCell ⟨wr.heap.size, 3, none⟩ (.int .i64 (u / 1048576 % 32))).setCell ⟨wr.heap.size, 4, none⟩ (.int .i32 (sx 11 (u / 33554432 % 128 * 32 + u / 128 % 32)))).cell? ⟨wr.heap.size, 2, none⟩ = some (.int .i64 (u / 32768 % 32)) := by simp [World.cell?_setCell_other, World.cell?_setCell_same', q0, q1, q2, q3, q4]
        have c3 : (((w1.setCell ⟨wr.heap.size, 2, none⟩ (.int .i64 (u / 32768 % 32))).setCell ⟨wr.heap.size, 3, none⟩ (.int .i64 (u / 1048576 % 32))).setCell ⟨wr.heap.size, 4, none⟩ (.int .i32 (sx 11 (u / 33554432 % 128 * 32 + u / 128 % 32)))).cell? ⟨wr.heap.size, 3, none⟩ = some (.int .i64 (u / 1048576 % 32)) := by simp [World.cell?_setCell_other, World.cell?_setCell_same', q0, q1, q2, q3, q4]
        have c4 : (((w1.setCell ⟨wr.heap.size, 2, none⟩ (.int .i64 (u / 32768 % 32))).setCell ⟨wr.heap.size, 3, none⟩ (.int .i64 (u / 1048576 % 32))).setCell ⟨wr.heap.size, 4, none⟩ (.int .i32 (sx 11 (u / 33554432 % 128 * 32 + u / 128 % 32)))).cell? ⟨wr.heap.size, 4, none⟩ = some (.int .i32 (sx 11 (u / 33554432 % 128 * 32 + u / 128 % 32))) := by simp [World.cell?_setCell_other, World.cell?_setCell_same', q0, q1, q2, q3, q4]
        have g0 : (((w1.setCell ⟨wr.heap.size, 2, none⟩ (.int .i64 (u / 32768 % 32))).setCell ⟨wr.heap.size, 3, none⟩ (.int .i64 (u / 1048576 % 32))).setCell ⟨wr.heap.size, 4, none⟩ (.int .i32 (sx 11 (u / 33554432 % 128 * 32 + u / 128 % 32)))).cell? ⟨B, 0, none⟩ = some (.int .i64 0) := by simp [World.cell?_setCell_other, hne, pB, p0, p1, p2, p3, p4]
        have g1 : (((w1.setCell ⟨wr.heap.size, 2, none⟩ (.int .i64 (u / 32768 % 32))).setCell ⟨wr.heap.size, 3, none⟩ (.int .i64 (u / 1048576 % 32))).setCell ⟨wr.heap.size, 4, none⟩ (.int .i32 (sx 11 (u / 33554432 % 128 * 32 + u / 128 % 32)))).cell? ⟨B, 1, none⟩ = some (.int .i64 0) := by simp [World.cell?_setCell_other, hne, pB, p0, p1, p2, p3, p4]
        have g2 : (((w1.setCell ⟨wr.heap.size, 2, none⟩ (.int .i64 (u / 32768 % 32))).setCell ⟨wr.heap.size, 3, none⟩ (.int .i64 (u / 1048576 % 32))).setCell ⟨wr.heap.size, 4, none⟩ (.int .i32 (sx 11 (u / 33554432 % 128 * 32 + u / 128 % 32)))).cell? ⟨B, 2, none⟩ = some (.int .i64 0) := by simp [World.cell?_setCell_other, hne, pB, p0, p1, p2, p3, p4]
        have g3 : (((w1.setCell ⟨wr.heap.size, 2, none⟩ (.int .i64 (u / 32768 % 32))).setCell ⟨wr.heap.size, 3, none⟩ (.int .i64 (u / 1048576 % 32))).setCell ⟨wr.heap.size, 4, none⟩ (.int .i32 (sx 11 (u / 33554432 % 128 * 32 + u / 128 % 32)))).cell? ⟨B, 3, none⟩ = some (.int .i64 0) := by simp [World.cell?_setCell_other, hne, pB, p0, p1, p2, p3, p4]
        have g4 : (((w1.setCell ⟨wr.heap.size, 2, none⟩ (.int .i64 (u / 32768 % 32))).setCell ⟨wr.heap.size, 3, none⟩ (.int .i64 (u / 1048576 % 32))).setCell ⟨wr.heap.size, 4, none⟩ (.int .i32 (sx 11 (u / 33554432 % 128 * 32 + u / 128 % 32)))).cell? ⟨B, 4, none⟩ = some (.int .i32 0) := by simp [World.cell?_setCell_other, hne, pB, p0, p1, p2, p3, p4]
        have gf : ∀ i, (((w1.setCell ⟨wr.heap.size, 2, none⟩ (.int .i64 (u / 32768 % 32))).setCell ⟨wr.heap.size, 3, none⟩ (.int .i64 (u / 1048576 % 32))).setCell ⟨wr.heap.size, 4, none⟩ (.int .i32 (sx 11 (u / 33554432 % 128 * 32 + u / 128 % 32)))).frozen? ⟨B, i, none⟩ = false := by intro i; simp [pF]
        have bb : Below B w (((w1.setCell ⟨wr.heap.size, 2, none⟩ (.int .i64 (u / 32768 % 32))).setCell ⟨wr.heap.size, 3, none⟩ (.int .i64 (u / 1048576 % 32))).setCell ⟨wr.heap.size, 4, none⟩ (.int .i32 (sx 11 (u / 33554432 % 128 * 32 + u / 128 % 32)))) := (((((hba _).trans (b1.mono (by simp; omega))).setCell (by simp; omega) _).setCell (by simp; omega) _).setCell (by simp; omega) _)
        have gs : wr.heap.size < (((w1.setCell ⟨wr.heap.size, 2, none⟩ (.int .i64 (u / 32768 % 32))).setCell ⟨wr.heap.size, 3, none⟩ (.int .i64 (u / 1048576 % 32))).setCell ⟨wr.heap.size, 4, none⟩ (.int .i32 (sx 11 (u / 33554432 % 128 * 32 + u / 128 % 32)))).heap.size := by have := b1.size; simp at this; simp; omega
        clear pB pF q0 q1 q2 q3 q4 qf b1 ho za zf hba z7 z15 z20 p0 p1 p2 p3 p4 pf
        generalize (((w1.setCell ⟨wr.heap.size, 2, none⟩ (.int .i64 (u / 32768 % 32))).setCell ⟨wr.heap.size, 3, none⟩ (.int .i64 (u / 1048576 % 32))).setCell ⟨wr.heap.size, 4, none⟩ (.int .i32 (sx 11 (u / 33554432 % 128 * 32 + u / 128 % 32)))) = W2 at *
        cases hm : matchL (n + 1) u with
        | true =>
          have hh := fun w => hit_enc (n + 1) h1 h2 u hu hm w
          rw [hf, ec] at hh
          refine (hh _).mono ?_
          rintro e w2 ⟨rfl, b2⟩
          have c0' := (b2.cell (p := ⟨wr.heap.size, 0, none⟩) gs).trans c0
          have c1' := (b2.cell (p := ⟨wr.heap.size, 1, none⟩) gs).trans c1
          have c2' := (b2.cell (p := ⟨wr.heap.size, 2, none⟩) gs).trans c2
          have c3' := (b2.cell (p := ⟨wr.heap.size, 3, none⟩) gs).trans c3
          have c4' := (b2.cell (p := ⟨wr.heap.size, 4, none⟩) gs).trans c4
          have g0' := (b2.cell (p := ⟨B, 0, none⟩) (by simp; omega)).trans g0
          have g1' := (b2.cell (p := ⟨B, 1, none⟩) (by simp; omega)).trans g1
          have g2' := (b2.cell (p := ⟨B, 2, none⟩) (by simp; omega)).trans g2
          have g3' := (b2.cell (p := ⟨B, 3, none⟩) (by simp; omega)).trans g3
          have g4' := (b2.cell (p := ⟨B, 4, none⟩) (by simp; omega)).trans g4
          have gf' : ∀ i, w2.frozen? ⟨B, i, none⟩ = false := fun i => (b2.frozen (p := ⟨B, i, none⟩) (by simp; omega)).trans (gf i)
          clear c0 c1 c2 c3 c4 g0 g1 g2 g3 g4 gf hh
          go_wp2_with fail
          obtain ⟨s0, s1, s2, s3, s4⟩ := set5 w2 B _ _ _ _ _ (.int .i64 ((n : Int) + 1)) (.int .i64 0) (.int .i64 (u / 32768 % 32)) (.int .i64 (u / 1048576 % 32)) (.int .i32 (sx 11 (u / 33554432 % 128 * 32 + u / 128 % 32))) g0' g1' g2' g3' g4' _ rfl
          (try simp only [Exit.inBlock, Exit.then]); refine bodyPost_ret (v := .tuple #[.agg #[.int .i64 ((n : Int) + 1), .int .i64 0, .int .i64 (u / 32768 % 32), .int .i64 (u / 1048576 % 32), .int .i32 (sx 11 (u / 33554432 % 128 * 32 + u / 128 % 32))], .bool true]) (by simp [results, Tryd.results12, go_sem, s0, s1, s2, s3, s4]) rfl ?_
          refine ⟨?_, ?_⟩
          · rw [hd'.out, show 47 - n = 46 - n + 1 by omega, decF_hit hm]
            have ew : wordO u (some (n + 1)) = .tuple #[wordV ((n + 1 : Nat) : Int) (dL (formN (n + 1)) u) (sL (formN (n + 1)) u) (tL (formN (n + 1)) u) (immL (formN (n + 1)) u), .bool true] := rfl
            rw [ew, hf, ec]
            rfl
          · have b3 := bb.trans (b2.mono (by omega))
            exact Below.mono ((((((b3.setCell (by simp) _).setCell (by simp) _).setCell (by simp) _).setCell (by simp) _).setCell (by simp) _)) (by omega)
        | false =>
          have hh := fun w => miss_enc (n + 1) h1 h2 u hu hm w
          rw [hf, ec] at hh
          refine (hh _).mono ?_
          rintro e w2 ⟨⟨y, b, rfl, hy⟩, b2⟩
          have hnext : Value.int .i64 ((n : Int) + 1 + 1) = .int .i64 (((n + 1 : Nat) : Int) + 1) := by simp
          have g0' := (b2.cell (p := ⟨B, 0, none⟩) (by simp; omega)).trans g0
          have g1' := (b2.cell (p := ⟨B, 1, none⟩) (by simp; omega)).trans g1
          have g2' := (b2.cell (p := ⟨B, 2, none⟩) (by simp; omega)).trans g2
          have g3' := (b2.cell (p := ⟨B, 3, none⟩) (by simp; omega)).trans g3
          have g4' := (b2.cell (p := ⟨B, 4, none⟩) (by simp; omega)).trans g4
          have gf' : ∀ i, w2.frozen? ⟨B, i, none⟩ = false := fun i => (b2.frozen (p := ⟨B, i, none⟩) (by simp; omega)).trans (gf i)
          have b3 := bb.trans (b2.mono (by omega))
          have gs' : B < w2.heap.size := by have := b2.size; omega
          have hdd : decL u = decF u (n + 1 + 1) (47 - (n + 1)) := by rw [hd'.out, show 47 - n = 47 - (n + 1) + 1 by omega, decF_miss hm]
          have hdd' := hid hdd
          clear hdd hnext c0 c1 c2 c3 c4 g0 g1 g2 g3 g4 gf hh
          cases b with
          | false =>
            go_wp2_with fail
            exact ⟨⟨n + 1, by omega, by simp, ⟨g0', g1', g2', g3', g4'⟩, gf', gs', b3, hdd'.out⟩, by simp [intOf]; omega⟩
          | true =>
            have hy' : ¬ y = u := by rcases hy with hy | hy; cases hy; exact hy
            clear hy
            go_wp2_with fail
            exact ⟨⟨n + 1, by omega, by simp, ⟨g0', g1', g2', g3', g4'⟩, gf', gs', b3, hdd'.out⟩, by simp [intOf]; omega⟩
      · rw [hf] at ho
        go_wp2_with fail
        refine (ho _).mono ?_
        rintro e w1 ⟨rfl, b1⟩
        have q0 : w1.cell? ⟨wr.heap.size, 0, none⟩ = some (.int .i64 ((n : Int) + 1)) := own_cell b1 0 _ rfl
        have q1 : w1.cell? ⟨wr.heap.size, 1, none⟩ = some (.int .i64 0) := own_cell b1 1 _ rfl
        have q2 : w1.cell? ⟨wr.heap.size, 2, none⟩ = some (.int .i64 0) := own_cell b1 2 _ rfl
        have q3 : w1.cell? ⟨wr.heap.size, 3, none⟩ = some (.int .i64 0) := own_cell b1 3 _ rfl
        have q4 : w1.cell? ⟨wr.heap.size, 4, none⟩ = some (.int .i32 0) := own_cell b1 4 _ rfl
        have qf : ∀ i, w1.frozen? ⟨wr.heap.size, i, none⟩ = false := fun i => own_frozen b1 i
        have hs3 := bor2 u
        go_wp2_with (go_at_call 29; refine (piece_g u hu _ _ _ (by decide) (by decide) (by decide) (by decide) _).mono ?_; rintro e w' ⟨rfl, rfl⟩)
        refine (rsg13 _ (by omega) _).mono ?_
        rintro e w' ⟨rfl, rfl⟩
        go_wp2_with fail
        clear hs3
        have hne : ¬ (wr.heap.size = B) := by omega
        have pB : ∀ i, w1.cell? ⟨B, i, none⟩ = wr.cell? ⟨B, i, none⟩ := fun i => (b1.cell (by simp; omega)).trans (za _ i)
        have pF : ∀ i, w1.frozen? ⟨B, i, none⟩ = false := fun i => (b1.frozen (by simp; omega)).trans (zf _ i)
        have c0 : (((w1.setCell ⟨wr.heap.size, 2, none⟩ (.int .i64 (u / 32768 % 32))).setCell ⟨wr.heap.size, 3, none⟩ (.int .i64 (u / 1048576 % 32))).setCell ⟨wr.heap.size, 4, none⟩ (.int .i32 (sx 12 (u / 2147483648 % 2 * 4096 + u / 128 % 2 * 2048 + u / 33554432 % 64 * 32 + u / 256 % 16 * 2)))).cell? ⟨wr.heap.size, 0, none⟩ = some (.int .i64 ((n : Int) + 1)) := by simp [World.cell?_setCell_other, World.cell?_setCell_same', q0, q1, q2, q3, q4]
        have c1 : (((w1.setCell ⟨wr.heap.size, 2, none⟩ (.int .i64 (u / 32768 % 32))).setCell ⟨wr.heap.size, 3, none⟩ (.int .i64 (u / 1048576 % 32))).setCell ⟨wr.heap.size, 4, none⟩ (.int .i32 (sx 12 (u / 2147483648 % 2 * 4096 + u / 128 % 2 * 2048 + u / 33554432 % 64 * 32 + u / 256 % 16 * 2)))).cell? ⟨wr.heap.size, 1, none⟩ = some (.int .i64 0) := by simp [World.cell?_setCell_other, World.cell?_setCell_same', q0, q1, q2, q3, q4]
        have c2 : (((w1.setCell ⟨wr.heap.size, 2, none⟩ (.int .i64 (u / 32768 % 32))).setCell ⟨wr.heap.size, 3, none⟩ (.int .i64 (u / 1048576 % 32))).setCell ⟨wr.heap.size, 4, none⟩ (.int .i32 (sx 12 (u / 2147483648 % 2 * 4096 + u / 128 % 2 * 2048 + u / 33554432 % 64 * 32 + u / 256 % 16 * 2)))).cell? ⟨wr.heap.size, 2, none⟩ = some (.int .i64 (u / 32768 % 32)) := by simp [World.cell?_setCell_other, World.cell?_setCell_same', q0, q1, q2, q3, q4]
        have c3 : (((w1.setCell ⟨wr.heap.size, 2, none⟩ (.int .i64 (u / 32768 % 32))).setCell ⟨wr.heap.size, 3, none⟩ (.int .i64 (u / 1048576 % 32))).setCell ⟨wr.heap.size, 4, none⟩ (.int .i32 (sx 12 (u / 2147483648 % 2 * 4096 + u / 128 % 2 * 2048 + u / 33554432 % 64 * 32 + u / 256 % 16 * 2)))).cell? ⟨wr.heap.size, 3, none⟩ = some (.int .i64 (u / 1048576 % 32)) := by simp [World.cell?_setCell_other, World.cell?_setCell_same', q0, q1, q2, q3, q4]
        have c4 : (((w1.setCell ⟨wr.heap.size, 2, none⟩ (.int .i64 (u / 32768 % 32))).setCell ⟨wr.heap.size, 3, none⟩ (.int .i64 (u / 1048576 % 32))).setCell ⟨wr.heap.size, 4, none⟩ (.int .i32 (sx 12 (u / 2147483648 % 2 * 4096 + u / 128 % 2 * 2048 + u / 33554432 % 64 * 32 + u / 256 % 16 * 2)))).cell? ⟨wr.heap.size, 4, none⟩ = some (.int .i32 (sx 12 (u / 2147483648 % 2 * 4096 + u / 128 % 2 * 2048 + u / 33554432 % 64 * 32 + u / 256 % 16 * 2))) := by simp [World.cell?_setCell_other, World.cell?_setCell_same', q0, q1, q2, q3, q4]
        have g0 : (((w1.setCell ⟨wr.heap.size, 2, none⟩ (.int .i64 (u / 32768 % 32))).setCell ⟨wr.heap.size, 3, none⟩ (.int .i64 (u / 1048576 % 32))).setCell ⟨wr.heap.size, 4, none⟩ (.int .i32 (sx 12 (u / 2147483648 % 2 * 4096 + u / 128 % 2 * 2048 + u / 33554432 % 64 * 32 + u / 256 % 16 * 2)))).cell? ⟨B, 0, none⟩ = some (.int .i64 0) := by simp [World.cell?_setCell_other, hne, pB, p0, p1, p2, p3, p4]
        have g1 : (((w1.setCell ⟨wr.heap.size, 2, none⟩ (.int .i64 (u / 32768 % 32))).setCell ⟨wr.heap.size, 3, none⟩ (.int .i64 (u / 1048576 % 32))).setCell ⟨wr.heap.size, 4, none⟩ (.int .i32 (sx 12 (u / 2147483648 % 2 * 4096 + u / 128 % 2 * 2048 + u / 33554432 % 64 * 32 + u / 256 % 16 * 2)))).cell? ⟨B, 1, none⟩ = some (.int .i64 0) := by simp [World.cell?_setCell_other, hne, pB, p0, p1, p2, p3, p4]
        have g2 : (((w1.setCell ⟨wr.heap.size, 2, none⟩ (.int .i64 (u / 32768 % 32))).setCell ⟨wr.heap.size, 3, none⟩ (.int .i64 (u / 1048576 % 32))).setCell ⟨wr.heap.size, 4, none⟩ (.int .i32 (sx 12 (u / 2147483648 % 2 * 4096 + u / 128 % 2 * 2048 + u / 33554432 % 64 * 32 + u / 256 % 16 * 2)))).cell? ⟨B, 2, none⟩ = some (.int .i64 0) := by simp [World.cell?_setCell_other, hne, pB, p0, p1, p2, p3, p4]
        have g3 : (((w1.setCell ⟨wr.heap.size, 2, none⟩ (.int .i64 (u / 32768 % 32))).setCell ⟨wr.heap.size, 3, none⟩ (.int .i64 (u / 1048576 % 32))).setCell ⟨wr.heap.size, 4, none⟩ (.int .i32 (sx 12 (u / 2147483648 % 2 * 4096 + u / 128 % 2 * 2048 + u / 33554432 % 64 * 32 + u / 256 % 16 * 2)))).cell? ⟨B, 3, none⟩ = some (.int .i64 0) := by simp [World.cell?_setCell_other, hne, pB, p0, p1, p2, p3, p4]
        have g4 : (((w1.setCell ⟨wr.heap.size, 2, none⟩ (.int .i64 (u / 32768 % 32))).setCell ⟨wr.heap.size, 3, none⟩ (.int .i64 (u / 1048576 % 32))).setCell ⟨wr.heap.size, 4, none⟩ (.int .i32 (sx 12 (u / 2147483648 % 2 * 4096 + u / 128 % 2 * 2048 + u / 33554432 % 64 * 32 + u / 256 % 16 * 2)))).cell? ⟨B, 4, none⟩ = some (.int .i32 0) := by simp [World.cell?_setCell_other, hne, pB, p0, p1, p2, p3, p4]
        have gf : ∀ i, (((w1.setCell ⟨wr.heap.size, 2, none⟩ (.int .i64 (u / 32768 % 32))).setCell ⟨wr.heap.size, 3, none⟩ (.int .i64 (u / 1048576 % 32))).setCell ⟨wr.heap.size, 4, none⟩ (.int .i32 (sx 12 (u / 2147483648 % 2 * 4096 + u / 128 % 2 * 2048 + u / 33554432 % 64 * 32 + u / 256 % 16 * 2)))).frozen? ⟨B, i, none⟩ = false := by intro i; simp [pF]
        have bb : Below B w (((w1.setCell ⟨wr.heap.size, 2, none⟩ (.int .i64 (u / 32768 % 32))).setCell ⟨wr.heap.size, 3, none⟩ (.int .i64 (u / 1048576 % 32))).setCell ⟨wr.heap.size, 4, none⟩ (.int .i32 (sx 12 (u / 2147483648 % 2 * 4096 + u / 128 % 2 * 2048 + u / 33554432 % 64 * 32 + u / 256 % 16 * 2)))) := (((((hba _).trans (b1.mono (by simp; omega))).setCell (by simp; omega) _).setCell (by simp; omega) _).setCell (by simp; omega) _)
        have gs : wr.heap.size < (((w1.setCell ⟨wr.heap.size, 2, none⟩ (.int .i64 (u / 32768 % 32))).setCell ⟨wr.heap.size, 3, none⟩ (.int .i64 (u / 1048576 % 32))).setCell ⟨wr.heap.size, 4, none⟩ (.int .i32 (sx 12 (u / 2147483648 % 2 * 4096 + u / 128 % 2 * 2048 + u / 33554432 % 64 * 32 + u / 256 % 16 * 2)))).heap.size := by have := b1.size; simp at this; simp; omega
        clear pB pF q0 q1 q2 q3 q4 qf b1 ho za zf hba z7 z15 z20 p0 p1 p2 p3 p4 pf
        generalize (((w1.setCell ⟨wr.heap.size, 2, none⟩ (.int .i64 (u / 32768 % 32))).setCell ⟨wr.heap.size, 3, none⟩ (.int .i64 (u / 1048576 % 32))).setCell ⟨wr.heap.size, 4, none⟩ (.int .i32 (sx 12 (u / 2147483648 % 2 * 4096 + u / 128 % 2 * 2048 + u / 33554432 % 64 * 32 + u / 256 % 16 * 2)))) = W2 at *
        cases hm : matchL (n + 1) u with
        | true =>
          have hh := fun w => hit_enc (n + 1) h1 h2 u hu hm w
          rw [hf, ec] at hh
          refine (hh _).mono ?_
          rintro e w2 ⟨rfl, b2⟩
          have c0' := (b2.cell (p := ⟨wr.heap.size, 0, none⟩) gs).trans c0
          have c1' := (b2.cell (p := ⟨wr.heap.size, 1, none⟩) gs).trans c1
          have c2' := (b2.cell (p := ⟨wr.heap.size, 2, none⟩) gs).trans c2
          have c3' := (b2.cell (p := ⟨wr.heap.size, 3, none⟩) gs).trans c3
          have c4' := (b2.cell (p := ⟨wr.heap.size, 4, none⟩) gs).trans c4
          have g0' := (b2.cell (p := ⟨B, 0, none⟩) (by simp; omega)).trans g0
          have g1' := (b2.cell (p := ⟨B, 1, none⟩) (by simp; omega)).trans g1
          have g2' := (b2.cell (p := ⟨B, 2, none⟩) (by simp; omega)).trans g2
          have g3' := (b2.cell (p := ⟨B, 3, none⟩) (by simp; omega)).trans g3
          have g4' := (b2.cell (p := ⟨B, 4, none⟩) (by simp; omega)).trans g4
          have gf' : ∀ i, w2.frozen? ⟨B, i, none⟩ = false := fun i => (b2.frozen (p := ⟨B, i, none⟩) (by simp; omega)).trans (gf i)
          clear c0 c1 c2 c3 c4 g0 g1 g2 g3 g4 gf hh
          go_wp2_with fail
          obtain ⟨s0, s1, s2, s3, s4⟩ := set5 w2 B _ _ _ _ _ (.int .i64 ((n : Int) + 1)) (.int .i64 0) (.int .i64 (u / 32768 % 32)) (.int .i64 (u / 1048576 % 32)) (.int .i32 (sx 12 (u / 2147483648 % 2 * 4096 + u / 128 % 2 * 2048 + u / 33554432 % 64 * 32 + u / 256 % 16 * 2))) g0' g1' g2' g3' g4' _ rfl
          (try simp only [Exit.inBlock, Exit.then]); refine bodyPost_ret (v := .tuple #[.agg #[.int .i64 ((n : Int) + 1), .int .i64 0, .int .i64 (u / 32768 % 32), .int .i64 (u / 1048576 % 32), .int .i32 (sx 12 (u / 2147483648 % 2 * 4096 + u / 128 % 2 * 2048 + u / 33554432 % 64 * 32 + u / 256 % 16 * 2))], .bool true]) (by simp [results, Tryd.results12, go_sem, s0, s1, s2, s3, s4]) rfl ?_
          refine ⟨?_, ?_⟩
          · rw [hd'.out, show 47 - n = 46 - n + 1 by omega, decF_hit hm]
            have ew : wordO u (some (n + 1)) = .tuple #[wordV ((n + 1 : Nat) : Int) (dL (formN (n + 1)) u) (sL (formN (n + 1)) u) (tL (formN (n + 1)) u) (immL (formN (n + 1)) u), .bool true] := rfl
            rw [ew, hf, ec]
            rfl
          · have b3 := bb.trans (b2.mono (by omega))
            exact Below.mono ((((((b3.setCell (by simp) _).setCell (by simp) _).setCell (by simp) _).setCell (by simp) _).setCell (by simp) _)) (by omega)
        | false =>
          have hh := fun w => miss_enc (n + 1) h1 h2 u hu hm w
          rw [hf, ec] at hh
          refine (hh _).mono ?_
          rintro e w2 ⟨⟨y, b, rfl, hy⟩, b2⟩
          have hnext : Value.int .i64 ((n : Int) + 1 + 1) = .int .i64 (((n + 1 : Nat) : Int) + 1) := by simp
          have g0' := (b2.cell (p := ⟨B, 0, none⟩) (by simp; omega)).trans g0
          have g1' := (b2.cell (p := ⟨B, 1, none⟩) (by simp; omega)).trans g1
          have g2' := (b2.cell (p := ⟨B, 2, none⟩) (by simp; omega)).trans g2
          have g3' := (b2.cell (p := ⟨B, 3, none⟩) (by simp; omega)).trans g3
          have g4' := (b2.cell (p := ⟨B, 4, none⟩) (by simp; omega)).trans g4
          have gf' : ∀ i, w2.frozen? ⟨B, i, none⟩ = false := fun i => (b2.frozen (p := ⟨B, i, none⟩) (by simp; omega)).trans (gf i)
          have b3 := bb.trans (b2.mono (by omega))
          have gs' : B < w2.heap.size := by have := b2.size; omega
          have hdd : decL u = decF u (n + 1 + 1) (47 - (n + 1)) := by rw [hd'.out, show 47 - n = 47 - (n + 1) + 1 by omega, decF_miss hm]
          have hdd' := hid hdd
          clear hdd hnext c0 c1 c2 c3 c4 g0 g1 g2 g3 g4 gf hh
          cases b with
          | false =>
            go_wp2_with fail
            exact ⟨⟨n + 1, by omega, by simp, ⟨g0', g1', g2', g3', g4'⟩, gf', gs', b3, hdd'.out⟩, by simp [intOf]; omega⟩
          | true =>
            have hy' : ¬ y = u := by rcases hy with hy | hy; cases hy; exact hy
            clear hy
            go_wp2_with fail
            exact ⟨⟨n + 1, by omega, by simp, ⟨g0', g1', g2', g3', g4'⟩, gf', gs', b3, hdd'.out⟩, by simp [intOf]; omega⟩
      · rw [hf] at ho
        go_wp2_with fail
        refine (ho _).mono ?_
        rintro e w1 ⟨rfl, b1⟩
        have q0 : w1.cell? ⟨wr.heap.size, 0, none⟩ = some (.int .i64 ((n : Int) + 1)) := own_cell b1 0 _ rfl
        have q1 : w1.cell? ⟨wr.heap.size, 1, none⟩ = some (.int .i64 0) := own_cell b1 1 _ rfl
        have q2 : w1.cell? ⟨wr.heap.size, 2, none⟩ = some (.int .i64 0) := own_cell b1 2 _ rfl
        have q3 : w1.cell? ⟨wr.heap.size, 3, none⟩ = some (.int .i64 0) := own_cell b1 3 _ rfl
        have q4 : w1.cell? ⟨wr.heap.size, 4, none⟩ = some (.int .i32 0) := own_cell b1 4 _ rfl
        have qf : ∀ i, w1.frozen? ⟨wr.heap.size, i, none⟩ = false := fun i => own_frozen b1 i
        go_wp2_with fail
        have hne : ¬ (wr.heap.size = B) := by omega
        have pB : ∀ i, w1.cell? ⟨B, i, none⟩ = wr.cell? ⟨B, i, none⟩ := fun i => (b1.cell (by simp; omega)).trans (za _ i)
        have pF : ∀ i, w1.frozen? ⟨B, i, none⟩ = false := fun i => (b1.frozen (by simp; omega)).trans (zf _ i)
        have c0 : (((w1.setCell ⟨wr.heap.size, 1, none⟩ (.int .i64 (u / 128 % 32))).setCell ⟨wr.heap.size, 2, none⟩ (.int .i64 (u / 32768 % 32))).setCell ⟨wr.heap.size, 4, none⟩ (.int .i32 (u / 1048576 % 32))).cell? ⟨wr.heap.size, 0, none⟩ = some (.int .i64 ((n : Int) + 1)) := by simp [World.cell?_setCell_other, World.cell?_setCell_same', q0, q1, q2, q3, q4]
        have c1 : (((w1.setCell ⟨wr.heap.size, 1, none⟩ (.int .i64 (u / 128 % 32))).setCell ⟨wr.heap.size, 2, none⟩ (.int .i64 (u / 32768 % 32))).setCell ⟨wr.heap.size, 4, none⟩ (.int .i32 (u / 1048576 % 32))).cell? ⟨wr.heap.size, 1, none⟩ = some (.int .i64 (u / 128 % 32)) := by simp [World.cell?_setCell_other, World.cell?_setCell_same', q0, q1, q2, q3, q4]
        have c2 : (((w1.setCell ⟨wr.heap.size, 1, none⟩ (.int .i64 (u / 128 % 32))).setCell ⟨wr.heap.size, 2, none⟩ (.int .i64 (u / 32768 % 32))).setCell ⟨wr.heap.size, 4, none⟩ (.int .i32 (u / 1048576 % 32))).cell? ⟨wr.heap.size, 2, none⟩ = some (.int .i64 (u / 32768 % 32)) := by simp [World.cell?_setCell_other, World.cell?_setCell_same', q0, q1, q2, q3, q4]
        have c3 : (((w1.setCell ⟨wr.heap.size, 1, none⟩ (.int .i64 (u / 128 % 32))).setCell ⟨wr.heap.size, 2, none⟩ (.int .i64 (u / 32768 % 32))).setCell ⟨wr.heap.size, 4, none⟩ (.int .i32 (u / 1048576 % 32))).cell? ⟨wr.heap.size, 3, none⟩ = some (.int .i64 0) := by simp [World.cell?_setCell_other, World.cell?_setCell_same', q0, q1, q2, q3, q4]
        have c4 : (((w1.setCell ⟨wr.heap.size, 1, none⟩ (.int .i64 (u / 128 % 32))).setCell ⟨wr.heap.size, 2, none⟩ (.int .i64 (u / 32768 % 32))).setCell ⟨wr.heap.size, 4, none⟩ (.int .i32 (u / 1048576 % 32))).cell? ⟨wr.heap.size, 4, none⟩ = some (.int .i32 (u / 1048576 % 32)) := by simp [World.cell?_setCell_other, World.cell?_setCell_same', q0, q1, q2, q3, q4]
        have g0 : (((w1.setCell ⟨wr.heap.size, 1, none⟩ (.int .i64 (u / 128 % 32))).setCell ⟨wr.heap.size, 2, none⟩ (.int .i64 (u / 32768 % 32))).setCell ⟨wr.heap.size, 4, none⟩ (.int .i32 (u / 1048576 % 32))).cell? ⟨B, 0, none⟩ = some (.int .i64 0) := by simp [World.cell?_setCell_other, hne, pB, p0, p1, p2, p3, p4]
        have g1 : (((w1.setCell ⟨wr.heap.size, 1, none⟩ (.int .i64 (u / 128 % 32))).setCell ⟨wr.heap.size, 2, none⟩ (.int .i64 (u / 32768 % 32))).setCell ⟨wr.heap.size, 4, none⟩ (.int .i32 (u / 1048576 % 32))).cell? ⟨B, 1, none⟩ = some (.int .i64 0) := by simp [World.cell?_setCell_other, hne, pB, p0, p1, p2, p3, p4]
        have g2 : (((w1.setCell ⟨wr.heap.size, 1, none⟩ (.int .i64 (u / 128 % 32))).setCell ⟨wr.heap.size, 2, none⟩ (.int .i64 (u / 32768 % 32))).setCell ⟨wr.heap.size, 4, none⟩ (.int .i32 (u / 1048576 % 32))).cell? ⟨B, 2, none⟩ = some (.int .i64 0) := by simp [World.cell?_setCell_other, hne, pB, p0, p1, p2, p3, p4]
        have g3 : (((w1.setCell ⟨wr.heap.size, 1, none⟩ (.int .i64 (u / 128 % 32))).setCell ⟨wr.heap.size, 2, none⟩ (.int .i64 (u / 32768 % 32))).setCell ⟨wr.heap.size, 4, none⟩ (.int .i32 (u / 1048576 % 32))).cell? ⟨B, 3, none⟩ = some (.int .i64 0) := by simp [World.cell?_setCell_other, hne, pB, p0, p1, p2, p3, p4]
        have g4 : (((w1.setCell ⟨wr.heap.size, 1, none⟩ (.int .i64 (u / 128 % 32))).setCell ⟨wr.heap.size, 2, none⟩ (.int .i64 (u / 32768 % 32))).setCell ⟨wr.heap.size, 4, none⟩ (.int .i32 (u / 1048576 % 32))).cell? ⟨B, 4, none⟩ = some (.int .i32 0) := by simp [World.cell?_setCell_other, hne, pB, p0, p1, p2, p3, p4]
        have gf : ∀ i, (((w1.setCell ⟨wr.heap.size, 1, none⟩ (.int .i64 (u / 128 % 32))).setCell ⟨wr.heap.size, 2, none⟩ (.int .i64 (u / 32768 % 32))).setCell ⟨wr.heap.size, 4, none⟩ (.int .i32 (u / 1048576 % 32))).frozen? ⟨B, i, none⟩ = false := by intro i; simp [pF]
        have bb : Below B w (((w1.setCell ⟨wr.heap.size, 1, none⟩ (.int .i64 (u / 128 % 32))).setCell ⟨wr.heap.size, 2, none⟩ (.int .i64 (u / 32768 % 32))).setCell ⟨wr.heap.size, 4, none⟩ (.int .i32 (u / 1048576 % 32))) := (((((hba _).trans (b1.mono (by simp; omega))).setCell (by simp; omega) _).setCell (by simp; omega) _).setCell (by simp; omega) _)
        have gs : wr.heap.size < (((w1.setCell ⟨wr.heap.size, 1, none⟩ (.int .i64 (u / 128 % 32))).setCell ⟨wr.heap.size, 2, none⟩ (.int .i64 (u / 32768 % 32))).setCell ⟨wr.heap.size, 4, none⟩ (.int .i32 (u / 1048576 % 32))).heap.size := by have := b1.size; simp at this; simp; omega
        clear pB pF q0 q1 q2 q3 q4 qf b1 ho za zf hba z7 z15 z20 p0 p1 p2 p3 p4 pf
        generalize (((w1.setCell ⟨wr.heap.size, 1, none⟩ (.int .i64 (u / 128 % 32))).setCell ⟨wr.heap.size, 2, none⟩ (.int .i64 (u / 32768 % 32))).setCell ⟨wr.heap.size, 4, none⟩ (.int .i32 (u / 1048576 % 32))) = W2 at *
        cases hm : matchL (n + 1) u with
        | true =>
          have hh := fun w => hit_enc (n + 1) h1 h2 u hu hm w
          rw [hf, ec] at hh
          refine (hh _).mono ?_
          rintro e w2 ⟨rfl, b2⟩
          have c0' := (b2.cell (p := ⟨wr.heap.size, 0, none⟩) gs).trans c0
          have c1' := (b2.cell (p := ⟨wr.heap.size, 1, none⟩) gs).trans c1
          have c2' := (b2.cell (p := ⟨wr.heap.size, 2, none⟩) gs).trans c2
          have c3' := (b2.cell (p := ⟨wr.heap.size, 3, none⟩) gs).trans c3
          have c4' := (b2.cell (p := ⟨wr.heap.size, 4, none⟩) gs).trans c4
          have g0' := (b2.cell (p := ⟨B, 0, none⟩) (by simp; omega)).trans g0
          have g1' := (b2.cell (p := ⟨B, 1, none⟩) (by simp; omega)).trans g1
          have g2' := (b2.cell (p := ⟨B, 2, none⟩) (by simp; omega)).trans g2
          have g3' := (b2.cell (p := ⟨B, 3, none⟩) (by simp; omega)).trans g3
          have g4' := (b2.cell (p := ⟨B, 4, none⟩) (by simp; omega)).trans g4
          have gf' : ∀ i, w2.frozen? ⟨B, i, none⟩ = false := fun i => (b2.frozen (p := ⟨B, i, none⟩) (by simp; omega)).trans (gf i)
          clear c0 c1 c2 c3 c4 g0 g1 g2 g3 g4 gf hh
          go_wp2_with fail
          obtain ⟨s0, s1, s2, s3, s4⟩ := set5 w2 B _ _ _ _ _ (.int .i64 ((n : Int) + 1)) (.int .i64 (u / 128 % 32)) (.int .i64 (u / 32768 % 32)) (.int .i64 0) (.int .i32 (u / 1048576 % 32)) g0' g1' g2' g3' g4' _ rfl
          (try simp only [Exit.inBlock, Exit.then]); refine bodyPost_ret (v := .tuple #[.agg #[.int .i64 ((n : Int) + 1), .int .i64 (u / 128 % 32), .int .i64 (u / 32768 % 32), .int .i64 0, .int .i32 (u / 1048576 % 32)], .bool true]) (by simp [results, Tryd.results12, go_sem, s0, s1, s2, s3, s4]) rfl ?_
          refine ⟨?_, ?_⟩
          · rw [hd'.out, show 47 - n = 46 - n + 1 by omega, decF_hit hm]
            have ew : wordO u (some (n + 1)) = .tuple #[wordV ((n + 1 : Nat) : Int) (dL (formN (n + 1)) u) (sL (formN (n + 1)) u) (tL (formN (n + 1)) u) (immL (formN (n + 1)) u), .bool true] := rfl
            rw [ew, hf, ec]
            rfl
          · have b3 := bb.trans (b2.mono (by omega))
            exact Below.mono ((((((b3.setCell (by simp) _).setCell (by simp) _).setCell (by simp) _).setCell (by simp) _).setCell (by simp) _)) (by omega)
        | false =>
          have hh := fun w => miss_enc (n + 1) h1 h2 u hu hm w
          rw [hf, ec] at hh
          refine (hh _).mono ?_
          rintro e w2 ⟨⟨y, b, rfl, hy⟩, b2⟩
          have hnext : Value.int .i64 ((n : Int) + 1 + 1) = .int .i64 (((n + 1 : Nat) : Int) + 1) := by simp
          have g0' := (b2.cell (p := ⟨B, 0, none⟩) (by simp; omega)).trans g0
          have g1' := (b2.cell (p := ⟨B, 1, none⟩) (by simp; omega)).trans g1
          have g2' := (b2.cell (p := ⟨B, 2, none⟩) (by simp; omega)).trans g2
          have g3' := (b2.cell (p := ⟨B, 3, none⟩) (by simp; omega)).trans g3
          have g4' := (b2.cell (p := ⟨B, 4, none⟩) (by simp; omega)).trans g4
          have gf' : ∀ i, w2.frozen? ⟨B, i, none⟩ = false := fun i => (b2.frozen (p := ⟨B, i, none⟩) (by simp; omega)).trans (gf i)
          have b3 := bb.trans (b2.mono (by omega))
          have gs' : B < w2.heap.size := by have := b2.size; omega
          have hdd : decL u = decF u (n + 1 + 1) (47 - (n + 1)) := by rw [hd'.out, show 47 - n = 47 - (n + 1) + 1 by omega, decF_miss hm]
          have hdd' := hid hdd
          clear hdd hnext c0 c1 c2 c3 c4 g0 g1 g2 g3 g4 gf hh
          cases b with
          | false =>
            go_wp2_with fail
            exact ⟨⟨n + 1, by omega, by simp, ⟨g0', g1', g2', g3', g4'⟩, gf', gs', b3, hdd'.out⟩, by simp [intOf]; omega⟩
          | true =>
            have hy' : ¬ y = u := by rcases hy with hy | hy; cases hy; exact hy
            clear hy
            go_wp2_with fail
            exact ⟨⟨n + 1, by omega, by simp, ⟨g0', g1', g2', g3', g4'⟩, gf', gs', b3, hdd'.out⟩, by simp [intOf]; omega⟩
      · rw [hf] at ho
        go_wp2_with fail
        refine (ho _).mono ?_
        rintro e w1 ⟨rfl, b1⟩
        have q0 : w1.cell? ⟨wr.heap.size, 0, none⟩ = some (.int .i64 ((n : Int) + 1)) := own_cell b1 0 _ rfl
        have q1 : w1.cell? ⟨wr.heap.size, 1, none⟩ = some (.int .i64 0) := own_cell b1 1 _ rfl
        have q2 : w1.cell? ⟨wr.heap.size, 2, none⟩ = some (.int .i64 0) := own_cell b1 2 _ rfl
        have q3 : w1.cell? ⟨wr.heap.size, 3, none⟩ = some (.int .i64 0) := own_cell b1 3 _ rfl
        have q4 : w1.cell? ⟨wr.heap.size, 4, none⟩ = some (.int .i32 0) := own_cell b1 4 _ rfl
        have qf : ∀ i, w1.frozen? ⟨wr.heap.size, i, none⟩ = false := fun i => own_frozen b1 i
        go_wp2_with fail
        have hne : ¬ (wr.heap.size = B) := by omega
        have pB : ∀ i, w1.cell? ⟨B, i, none⟩ = wr.cell? ⟨B, i, none⟩ := fun i => (b1.cell (by simp; omega)).trans (za _ i)
        have pF : ∀ i, w1.frozen? ⟨B, i, none⟩ = false := fun i => (b1.frozen (by simp; omega)).trans (zf _ i)
        have c0 : (((w1.setCell ⟨wr.heap.size, 1, none⟩ (.int .i64 (u / 128 % 32))).setCell ⟨wr.heap.size, 2, none⟩ (.int .i64 (u / 32768 % 32))).setCell ⟨wr.heap.size, 3, none⟩ (.int .i64 (u / 1048576 % 32))).cell? ⟨wr.heap.size, 0, none⟩ = some (.int .i64 ((n : Int) + 1)) := by simp [World.cell?_setCell_other, World.cell?_setCell_same', q0, q1, q2, q3, q4]
        have c1 : (((w1.setCell ⟨wr.heap.size, 1, none⟩ (.int .i64 (u / 128 % 32))).setCell ⟨wr.heap.size, 2, none⟩ (.int .i64 (u / 32768 % 32))).setCell ⟨wr.heap.size, 3, none⟩ (.int .i64 (u / 1048576 % 32))).cell? ⟨wr.heap.size, 1, none⟩ = some (.int .i64 (u / 128 % 32)) := by simp [World.cell?_setCell_other, World.cell?_setCell_same', q0, q1, q2, q3, q4]
        have c2 : (((w1.setCell ⟨wr.heap.size, 1, none⟩ (.int .i64 (u / 128 % 32))).setCell ⟨wr.heap.size, 2, none⟩ (.int .i64 (u / 32768 % 32))).setCell ⟨wr.heap.size, 3, none⟩ (.int .i64 (u / 1048576 % 32))).cell? ⟨wr.heap.size, 2, none⟩ = some (.int .i64 (u / 32768 % 32)) := by simp [World.cell?_setCell_other, World.cell?_setCell_same', q0, q1, q2, q3, q4]
        have c3 : (((w1.setCell ⟨wr.heap.size, 1, none⟩ (.int .i64 (u / 128 % 32))).setCell ⟨wr.heap.size, 2, none⟩ (.int .i64 (u / 32768 % 32))).setCell ⟨wr.heap.size, 3, none⟩ (.int .i64 (u / 1048576 % 32))).cell? ⟨wr.heap.size, 3, none⟩ = some (.int .i64 (u / 1048576 % 32)) := by simp [World.cell?_setCell_other, World.cell?_setCell_same', q0, q1, q2, q3, q4]
        have c4 : (((w1.setCell ⟨wr.heap.size, 1, none⟩ (.int .i64 (u / 128 % 32))).setCell ⟨wr.heap.size, 2, none⟩ (.int .i64 (u / 32768 % 32))).setCell ⟨wr.heap.size, 3, none⟩ (.int .i64 (u / 1048576 % 32))).cell? ⟨wr.heap.size, 4, none⟩ = some (.int .i32 0) := by simp [World.cell?_setCell_other, World.cell?_setCell_same', q0, q1, q2, q3, q4]
        have g0 : (((w1.setCell ⟨wr.heap.size, 1, none⟩ (.int .i64 (u / 128 % 32))).setCell ⟨wr.heap.size, 2, none⟩ (.int .i64 (u / 32768 % 32))).setCell ⟨wr.heap.size, 3, none⟩ (.int .i64 (u / 1048576 % 32))).cell? ⟨B, 0, none⟩ = some (.int .i64 0) := by simp [World.cell?_setCell_other, hne, pB, p0, p1, p2, p3, p4]
        have g1 : (((w1.setCell ⟨wr.heap.size, 1, none⟩ (.int .i64 (u / 128 % 32))).setCell ⟨wr.heap.size, 2, none⟩ (.int .i64 (u / 32768 % 32))).setCell ⟨wr.heap.size, 3, none⟩ (.int .i64 (u / 1048576 % 32))).cell? ⟨B, 1, none⟩ = some (.int .i64 0) := by simp [World.cell?_setCell_other, hne, pB, p0, p1, p2, p3, p4]
        have g2 : (((w1.setCell ⟨wr.heap.size, 1, none⟩ (.int .i64 (u / 128 % 32))).setCell ⟨wr.heap.size, 2, none⟩ (.int .i64 (u / 32768 % 32))).setCell ⟨wr.heap.size, 3, none⟩ (.int .i64 (u / 1048576 % 32))).cell? ⟨B, 2, none⟩ = some (.int .i64 0) := by simp [World.cell?_setCell_other, hne, pB, p0, p1, p2, p3, p4]
        have g3 : (((w1.setCell ⟨wr.heap.size, 1, none⟩ (.int .i64 (u / 128 % 32))).setCell ⟨wr.heap.size, 2, none⟩ (.int .i64 (u / 32768 % 32))).setCell ⟨wr.heap.size, 3, none⟩ (.int .i64 (u / 1048576 % 32))).cell? ⟨B, 3, none⟩ = some (.int .i64 0) := by simp [World.cell?_setCell_other, hne, pB, p0, p1, p2, p3, p4]
        have g4 : (((w1.setCell ⟨wr.heap.size, 1, none⟩ (.int .i64 (u / 128 % 32))).setCell ⟨wr.heap.size, 2, none⟩ (.int .i64 (u / 32768 % 32))).setCell ⟨wr.heap.size, 3, none⟩ (.int .i64 (u / 1048576 % 32))).cell? ⟨B, 4, none⟩ = some (.int .i32 0) := by simp [World.cell?_setCell_other, hne, pB, p0, p1, p2, p3, p4]
        have gf : ∀ i, (((w1.setCell ⟨wr.heap.size, 1, none⟩ (.int .i64 (u / 128 % 32))).setCell ⟨wr.heap.size, 2, none⟩ (.int .i64 (u / 32768 % 32))).setCell ⟨wr.heap.size, 3, none⟩ (.int .i64 (u / 1048576 % 32))).frozen? ⟨B, i, none⟩ = false := by intro i; simp [pF]
        have bb : Below B w (((w1.setCell ⟨wr.heap.size, 1, none⟩ (.int .i64 (u / 128 % 32))).setCell ⟨wr.heap.size, 2, none⟩ (.int .i64 (u / 32768 % 32))).setCell ⟨wr.heap.size, 3, none⟩ (.int .i64 (u / 1048576 % 32))) := (((((hba _).trans (b1.mono (by simp; omega))).setCell (by simp; omega) _).setCell (by simp; omega) _).setCell (by simp; omega) _)
        have gs : wr.heap.size < (((w1.setCell ⟨wr.heap.size, 1, none⟩ (.int .i64 (u / 128 % 32))).setCell ⟨wr.heap.size, 2, none⟩ (.int .i64 (u / 32768 % 32))).setCell ⟨wr.heap.size, 3, none⟩ (.int .i64 (u / 1048576 % 32))).heap.size := by have := b1.size; simp at this; simp; omega
        clear pB pF q0 q1 q2 q3 q4 qf b1 ho za zf hba z7 z15 z20 p0 p1 p2 p3 p4 pf
        generalize (((w1.setCell ⟨wr.heap.size, 1, none⟩ (.int .i64 (u / 128 % 32))).setCell ⟨wr.heap.size, 2, none⟩ (.int .i64 (u / 32768 % 32))).setCell ⟨wr.heap.size, 3, none⟩ (.int .i64 (u / 1048576 % 32))) = W2 at *
        cases hm : matchL (n + 1) u with
        | true =>
          have hh := fun w => hit_enc (n + 1) h1 h2 u hu hm w
          rw [hf, ec] at hh
          refine (hh _).mono ?_
          rintro e w2 ⟨rfl, b2⟩
          have c0' := (b2.cell (p := ⟨wr.heap.size, 0, none⟩) gs).trans c0
          have c1' := (b2.cell (p := ⟨wr.heap.size, 1, none⟩) gs).trans c1
          have c2' := (b2.cell (p := ⟨wr.heap.size, 2, none⟩) gs).trans c2
          have c3' := (b2.cell (p := ⟨wr.heap.size, 3, none⟩) gs).trans c3
          have c4' := (b2.cell (p := ⟨wr.heap.size, 4, none⟩) gs).trans c4
          have g0' := (b2.cell (p := ⟨B, 0, none⟩) (by simp; omega)).trans g0
          have g1' := (b2.cell (p := ⟨B, 1, none⟩) (by simp; omega)).trans g1
          have g2' := (b2.cell (p := ⟨B, 2, none⟩) (by simp; omega)).trans g2
          have g3' := (b2.cell (p := ⟨B, 3, none⟩) (by simp; omega)).trans g3
          have g4' := (b2.cell (p := ⟨B, 4, none⟩) (by simp; omega)).trans g4
          have gf' : ∀ i, w2.frozen? ⟨B, i, none⟩ = false := fun i => (b2.frozen (p := ⟨B, i, none⟩) (by simp; omega)).trans (gf i)
          clear c0 c1 c2 c3 c4 g0 g1 g2 g3 g4 gf hh
          go_wp2_with fail
          obtain ⟨s0, s1, s2, s3, s4⟩ := set5 w2 B _ _ _ _ _ (.int .i64 ((n : Int) + 1)) (.int .i64 (u / 128 % 32)) (.int .i64 (u / 32768 % 32)) (.int .i64 (u / 1048576 % 32)) (.int .i32 0) g0' g1' g2' g3' g4' _ rfl
          (try simp only [Exit.inBlock, Exit.then]); refine bodyPost_ret (v := .tuple #[.agg #[.int .i64 ((n : Int) + 1), .int .i64 (u / 128 % 32), .int .i64 (u / 32768 % 32), .int .i64 (u / 1048576 % 32), .int .i32 0], .bool true]) (by simp [results, Tryd.results12, go_sem, s0, s1, s2, s3, s4]) rfl ?_
          refine ⟨?_, ?_⟩
          · rw [hd'.out, show 47 - n = 46 - n + 1 by omega, decF_hit hm]
            have ew : wordO u (some (n + 1)) = .tuple #[wordV ((n + 1 : Nat) : Int) (dL (formN (n + 1)) u) (sL (formN (n + 1)) u) (tL (formN (n + 1)) u) (immL (formN (n + 1)) u), .bool true] := rfl
            rw [ew, hf, ec]
            rfl
          · have b3 := bb.trans (b2.mono (by omega))
            exact Below.mono ((((((b3.setCell (by simp) _).setCell (by simp) _).setCell (by simp) _).setCell (by simp) _).setCell (by simp) _)) (by omega)
        | false =>
          have hh := fun w => miss_enc (n + 1) h1 h2 u hu hm w
          rw [hf, ec] at hh
          refine (hh _).mono ?_
          rintro e w2 ⟨⟨y, b, rfl, hy⟩, b2⟩
          have hnext : Value.int .i64 ((n : Int) + 1 + 1) = .int .i64 (((n + 1 : Nat) : Int) + 1) := by simp
          have g0' := (b2.cell (p := ⟨B, 0, none⟩) (by simp; omega)).trans g0
          have g1' := (b2.cell (p := ⟨B, 1, none⟩) (by simp; omega)).trans g1
          have g2' := (b2.cell (p := ⟨B, 2, none⟩) (by simp; omega)).trans g2
          have g3' := (b2.cell (p := ⟨B, 3, none⟩) (by simp; omega)).trans g3
          have g4' := (b2.cell (p := ⟨B, 4, none⟩) (by simp; omega)).trans g4
          have gf' : ∀ i, w2.frozen? ⟨B, i, none⟩ = false := fun i => (b2.frozen (p := ⟨B, i, none⟩) (by simp; omega)).trans (gf i)
          have b3 := bb.trans (b2.mono (by omega))
          have gs' : B < w2.heap.size := by have := b2.size; omega
          have hdd : decL u = decF u (n + 1 + 1) (47 - (n + 1)) := by rw [hd'.out, show 47 - n = 47 - (n + 1) + 1 by omega, decF_miss hm]
          have hdd' := hid hdd
          clear hdd hnext c0 c1 c2 c3 c4 g0 g1 g2 g3 g4 gf hh
          cases b with
          | false =>
            go_wp2_with fail
            exact ⟨⟨n + 1, by omega, by simp, ⟨g0', g1', g2', g3', g4'⟩, gf', gs', b3, hdd'.out⟩, by simp [intOf]; omega⟩
          | true =>
            have hy' : ¬ y = u := by rcases hy with hy | hy; cases hy; exact hy
            clear hy
            go_wp2_with fail
            exact ⟨⟨n + 1, by omega, by simp, ⟨g0', g1', g2', g3', g4'⟩, gf', gs', b3, hdd'.out⟩, by simp [intOf]; omega⟩
      · rw [hf] at ho
        go_wp2_with fail
        refine (ho _).mono ?_
        rintro e w1 ⟨rfl, b1⟩
        have q0 : w1.cell? ⟨wr.heap.size, 0, none⟩ = some (.int .i64 ((n : Int) + 1)) := own_cell b1 0 _ rfl
        have q1 : w1.cell? ⟨wr.heap.size, 1, none⟩ = some (.int .i64 0) := own_cell b1 1 _ rfl
        have q2 : w1.cell? ⟨wr.heap.size, 2, none⟩ = some (.int .i64 0) := own_cell b1 2 _ rfl
        have q3 : w1.cell? ⟨wr.heap.size, 3, none⟩ = some (.int .i64 0) := own_cell b1 3 _ rfl
        have q4 : w1.cell? ⟨wr.heap.size, 4, none⟩ = some (.int .i32 0) := own_cell b1 4 _ rfl
        have qf : ∀ i, w1.frozen? ⟨wr.heap.size, i, none⟩ = false := fun i => own_frozen b1 i
        go_wp2_with fail
        have hne : ¬ (wr.heap.size = B) := by omega
        have pB : ∀ i, w1.cell? ⟨B, i, none⟩ = wr.cell? ⟨B, i, none⟩ := fun i => (b1.cell (by simp; omega)).trans (za _ i)
        have pF : ∀ i, w1.frozen? ⟨B, i, none⟩ = false := fun i => (b1.frozen (by simp; omega)).trans (zf _ i)
        have c0 : w1.cell? ⟨wr.heap.size, 0, none⟩ = some (.int .i64 ((n : Int) + 1)) := by simp [World.cell?_setCell_other, World.cell?_setCell_same', q0, q1, q2, q3, q4]
        have c1 : w1.cell? ⟨wr.heap.size, 1, none⟩ = some (.int .i64 0) := by simp [World.cell?_setCell_other, World.cell?_setCell_same', q0, q1, q2, q3, q4]
        have c2 : w1.cell? ⟨wr.heap.size, 2, none⟩ = some (.int .i64 0) := by simp [World.cell?_setCell_other, World.cell?_setCell_same', q0, q1, q2, q3, q4]
        have c3 : w1.cell? ⟨wr.heap.size, 3, none⟩ = some (.int .i64 0) := by simp [World.cell?_setCell_other, World.cell?_setCell_same', q0, q1, q2, q3, q4]
        have c4 : w1.cell? ⟨wr.heap.size, 4, none⟩ = some (.int .i32 0) := by simp [World.cell?_setCell_other, World.cell?_setCell_same', q0, q1, q2, q3, q4]
        have g0 : w1.cell? ⟨B, 0, none⟩ = some (.int .i64 0) := by simp [World.cell?_setCell_other, hne, pB, p0, p1, p2, p3, p4]
        have g1 : w1.cell? ⟨B, 1, none⟩ = some (.int .i64 0) := by simp [World.cell?_setCell_other, hne, pB, p0, p1, p2, p3, p4]
        have g2 : w1.cell? ⟨B, 2, none⟩ = some (.int .i64 0) := by simp [World.cell?_setCell_other, hne, pB, p0, p1, p2, p3, p4]
        have g3 : w1.cell? ⟨B, 3, none⟩ = some (.int .i64 0) := by simp [World.cell?_setCell_other, hne, pB, p0, p1, p2, p3, p4]
        have g4 : w1.cell? ⟨B, 4, none⟩ = some (.int .i32 0) := by simp [World.cell?_setCell_other, hne, pB, p0, p1, p2, p3, p4]
        have gf : ∀ i, w1.frozen? ⟨B, i, none⟩ = false := by intro i; simp [pF]
        have bb : Below B w w1 := ((hba _).trans (b1.mono (by simp; omega)))
        have gs : wr.heap.size < w1.heap.size := by have := b1.size; simp at this; simp; omega
        clear pB pF q0 q1 q2 q3 q4 qf b1 ho za zf hba z7 z15 z20 p0 p1 p2 p3 p4 pf
        generalize w1 = W2 at *
        cases hm : matchL (n + 1) u with
        | true =>
          have hh := fun w => hit_enc (n + 1) h1 h2 u hu hm w
          rw [hf, ec] at hh
          refine (hh _).mono ?_
          rintro e w2 ⟨rfl, b2⟩
          have c0' := (b2.cell (p := ⟨wr.heap.size, 0, none⟩) gs).trans c0
          have c1' := (b2.cell (p := ⟨wr.heap.size, 1, none⟩) gs).trans c1
          have c2' := (b2.cell (p := ⟨wr.heap.size, 2, none⟩) gs).trans c2
          have c3' := (b2.cell (p := ⟨wr.heap.size, 3, none⟩) gs).trans c3
          have c4' := (b2.cell (p := ⟨wr.heap.size, 4, none⟩) gs).trans c4
          have g0' := (b2.cell (p := ⟨B, 0, none⟩) (by simp; omega)).trans g0
          have g1' := (b2.cell (p := ⟨B, 1, none⟩) (by simp; omega)).trans g1
          have g2' := (b2.cell (p := ⟨B, 2, none⟩) (by simp; omega)).trans g2
          have g3' := (b2.cell (p := ⟨B, 3, none⟩) (by simp; omega)).trans g3
          have g4' := (b2.cell (p := ⟨B, 4, none⟩) (by simp; omega)).trans g4
          have gf' : ∀ i, w2.frozen? ⟨B, i, none⟩ = false := fun i => (b2.frozen (p := ⟨B, i, none⟩) (by simp; omega)).trans (gf i)
          clear c0 c1 c2 c3 c4 g0 g1 g2 g3 g4 gf hh
          go_wp2_with fail
          obtain ⟨s0, s1, s2, s3, s4⟩ := set5 w2 B _ _ _ _ _ (.int .i64 ((n : Int) + 1)) (.int .i64 0) (.int .i64 0) (.int .i64 0) (.int .i32 0) g0' g1' g2' g3' g4' _ rfl
          (try simp only [Exit.inBlock, Exit.then]); refine bodyPost_ret (v := .tuple #[.agg #[.int .i64 ((n : Int) + 1), .int .i64 0, .int .i64 0, .int .i64 0, .int .i32 0], .bool true]) (by simp [results, Tryd.results12, go_sem, s0, s1, s2, s3, s4]) rfl ?_
          refine ⟨?_, ?_⟩
          · rw [hd'.out, show 47 - n = 46 - n + 1 by omega, decF_hit hm]
            have ew : wordO u (some (n + 1)) = .tuple #[wordV ((n + 1 : Nat) : Int) (dL (formN (n + 1)) u) (sL (formN (n + 1)) u) (tL (formN (n + 1)) u) (immL (formN (n + 1)) u), .bool true] := rfl
            rw [ew, hf, ec]
            rfl
          · have b3 := bb.trans (b2.mono (by omega))
            exact Below.mono ((((((b3.setCell (by simp) _).setCell (by simp) _).setCell (by simp) _).setCell (by simp) _).setCell (by simp) _)) (by omega)
        | false =>
          have hh := fun w => miss_enc (n + 1) h1 h2 u hu hm w
          rw [hf, ec] at hh
          refine (hh _).mono ?_
          rintro e w2 ⟨⟨y, b, rfl, hy⟩, b2⟩
          have hnext : Value.int .i64 ((n : Int) + 1 + 1) = .int .i64 (((n + 1 : Nat) : Int) + 1) := by simp
          have g0' := (b2.cell (p := ⟨B, 0, none⟩) (by simp; omega)).trans g0
          have g1' := (b2.cell (p := ⟨B, 1, none⟩) (by simp; omega)).trans g1
          have g2' := (b2.cell (p := ⟨B, 2, none⟩) (by simp; omega)).trans g2
          have g3' := (b2.cell (p := ⟨B, 3, none⟩) (by simp; omega)).trans g3
          have g4' := (b2.cell (p := ⟨B, 4, none⟩) (by simp; omega)).trans g4
          have gf' : ∀ i, w2.frozen? ⟨B, i, none⟩ = false := fun i => (b2.frozen (p := ⟨B, i, none⟩) (by simp; omega)).trans (gf i)
          have b3 := bb.trans (b2.mono (by omega))
          have gs' : B < w2.heap.size := by have := b2.size; omega
          have hdd : decL u = decF u (n + 1 + 1) (47 - (n + 1)) := by rw [hd'.out, show 47 - n = 47 - (n + 1) + 1 by omega, decF_miss hm]
          have hdd' := hid hdd
          clear hdd hnext c0 c1 c2 c3 c4 g0 g1 g2 g3 g4 gf hh
          cases b with
          | false =>
            go_wp2_with fail
            exact ⟨⟨n + 1, by omega, by simp, ⟨g0', g1', g2', g3', g4'⟩, gf', gs', b3, hdd'.out⟩, by simp [intOf]; omega⟩
          | true =>
            have hy' : ¬ y = u := by rcases hy with hy | hy; cases hy; exact hy
            clear hy
            go_wp2_with fail
            exact ⟨⟨n + 1, by omega, by simp, ⟨g0', g1', g2', g3', g4'⟩, gf', gs', b3, hdd'.out⟩, by simp [intOf]; omega⟩
    · go_wp2_with fail
      obtain ⟨s0, s1, s2, s3, s4⟩ := set5 wr B _ _ _ _ _ (.int .i64 0) (.int .i64 0) (.int .i64 0) (.int .i64 0) (.int .i32 0) p0 p1 p2 p3 p4 _ rfl
      (try simp only [Exit.inBlock, Exit.then]); refine bodyPost_ret (v := .tuple #[wordV 0 0 0 0 0, .bool false]) (by simp [results, Tryd.results12, go_sem, s0, s1, s2, s3, s4]) rfl ?_
      refine ⟨?_, ?_⟩
      · rw [hd'.out, show 47 - n = 0 by omega]
        rfl
      · exact Below.mono ((((((hbw.setCell (by simp) _).setCell (by simp) _).setCell (by simp) _).setCell (by simp) _).setCell (by simp) _)) (by omega)
end Go.Proofs.YtbalnlodkiejcaaDoor
