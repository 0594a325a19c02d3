import Derived.Test.YtcgleggdochbeaaDoorS30
namespace Go.Proofs.YtcgleggdochbeaaDoor
open Go.RowKit
set_option maxRecDepth 100000
set_option maxHeartbeats 8000000
set_option linter.unusedVariables false
set_option linter.unusedSimpArgs false
set_option linter.unusedSectionVars false
def wayL (o : On) (n : Int) (j : Nat) : List (List Int) := (List.range j).filterMap (fun i => wayT o n ((i % 3 : Nat) : Int) (i / 3 == 1))
theorem wayL_succ (o : On) (n : Int) (j : Nat) : wayL o n (j + 1) = wayL o n j ++ (wayT o n ((j % 3 : Nat) : Int) (j / 3 == 1)).toList := by
 unfold wayL
 rw [List.range_succ, List.filterMap_append]
 congr 1
theorem wayL_6 (o : On) (n : Int) (h : ¬ o.k = 1) : wayL o n 6 = modT o n := by
 unfold wayL modT
 rw [if_neg h]
 simp only [List.range, List.range.loop, List.filterMap_cons, List.filterMap_nil, id]
 rfl
theorem wayL_len (o : On) (n : Int) (j : Nat) (h : j ≤ 6) : (wayL o n j).length ≤ 6 := by
 unfold wayL
 refine Nat.le_trans (List.length_filterMap_le _ _) ?_
 simpa using h
theorem append_lr {ops : Array Oper} {rest : List Oper} {o : Oper} {a : Act} {wr w : World} {Q : Exit → Act → World → Prop} (hgd : o.guard = none) (s x : Operand)
  (ho : o.op = .call { callee := .builtin .append, args := #[s, x], argTypes := #[53, 53] })
  (N : Nat) (v : Value) (L : List (List Int)) (vs : List Value) (hs : a.eval s = v) (h : LR wr N v L vs) (hN : N ≤ wr.heap.size) (b : Below wr.heap.size wr w) {u : Value} {z : List Int} (O : Own w wr.heap.size u z) (hz : z ≠ [])
  (hx : a.eval x = .slice (some ⟨w.heap.size, 0, none⟩) 1 1) (hl : L.length + 1 ≤ 100)
  (k : ∀ v' w', LR w' N v' (L ++ [z]) (vs ++ [u]) → Below N wr w' → wpList Tryd.prog ops Q rest (a.put o.dst v') w') : wpList Tryd.prog ops Q (o :: rest) a (w.alloc (.cells #[u] 28)) := by
 have k1 := (Below.refl w.heap.size w).alloc (Nat.le_refl _) (.cells #[u] 28)
 have b1 := b.trans (k1.mono b.size)
 obtain ⟨bu, hbu, hNu, -⟩ := O.blk hz
 refine wpList_plain hgd fun _ hK => append_lrK s x ho N v L vs hs (h.below b1) (Nat.le_trans hN b1.size) ((O.below k1).base hN) hz ?_ ?_ w.heap.size (Blk.new w 28 #[u]) hx hl (fun v' w' h1 h2 => hK _ _ (k v' w' h1 ((b1.mono hN).trans h2)))
 ·intro e; rw [hbu] at e; have := (h.row.lt bu e.symm).2; omega
 ·intro i hi e
  obtain ⟨bi, hbi, -, hlt⟩ := (h.el i hi).blk (h.ne i hi)
  rw [hbi, hbu] at e; have := Option.some.inj e; omega
theorem RMb.sc {o : On} (h : RMb o) (h1 : ¬ o.k = 1) : o.s = 1 ∨ o.s = 2 ∨ o.s = 4 ∨ o.s = 8 := by
 rcases h.1 with ⟨r, -, -, rfl⟩ | ⟨m, b, x, s, rfl, h8⟩
 ·exact absurd rfl h1
 ·have := mem_of8 h8
  simp only [onMem]
  omega
theorem sx_u32 (m : Int) : wrap32 (IntKind.i8.wrap m) % 4294967296 = sx (m % 256) := by
 have w8 : ∀ n : Int, IntKind.i8.wrap n = (n + 128) % 256 - 128 := fun n => by
  simp only [IntKind.wrap, IntKind.bits, IntKind.signed]
  simp
  split <;> omega
 unfold sx
 rw [w8, w8]; unfold wrap32; omega
theorem fit_no {m : Int} (h : fitI m = false) : (wrap32 (IntKind.i8.wrap m) % 4294967296 != m) = true := by
 rw [sx_u32]; unfold fitI at h; rw [bne, h]; rfl
theorem fit_ok {m : Int} (h : fitI m = true) : (wrap32 (IntKind.i8.wrap m) % 4294967296 != m) = false := by
 rw [sx_u32]; unfold fitI at h; rw [bne, h]; rfl
theorem mod_neg_x {w : World} {p : Value} {xs : List Int} (hp : Bs w p xs) (hx0 : xs ≠ []) (hx9 : xs.length ≤ 9) (m : On) (hm : RMb m) (h1 : (m.k == 1) = false) {n : Int} (hn : 0 ≤ n ∧ n < 8) (hbn : m.b < 0) (hx : 0 ≤ m.x) :
  Calls Tryd.prog 52 #[p, opV m, .int .i64 n] w fun e w' => ∃ v vs, e = .returned v ∧ LR w' w.heap.size v ((modT m n).map (xs ++ ·)) vs ∧ Below w.heap.size w w' := by
 have hb1 : (m.b < 0) = True := eq_true hbn
 have hx1 : (m.x ≥ 0) = True := eq_true hx
 have hx2 : (0 ≤ m.x) = True := eq_true hx
 obtain ⟨pa, pc, rfl, hB⟩ := hp
 have hsc : m.s = 1 ∨ m.s = 2 ∨ m.s = 4 ∨ m.s = 8 := RMb.sc hm (by simpa using h1)
 have hkb := hm.kind.resolve_left (by simpa using h1)
 generalize hpq : xs.length = pl at *
 have hpq := Lib.hid hpq
 go_enter Tryd.func52, Tryd.ntmps52
 have e3 := shl3 hn
 have HP := Lib.hid (fun W N v xs h hN hl => put_any N v xs m.m hm.2 W h hN hl)
 go_upto_region 3 with fail
 have b0 : Below w.heap.size w (w.alloc (.cells (op6 m) 24)) := (Below.refl _ _).alloc (Nat.le_refl _) _
 have hH0 : Blk (w.alloc (.cells (op6 m) 24)) w.heap.size 24 (op6 m) := Blk.new _ _ _
 have hB0 := hB.below b0
 generalize w.alloc (.cells (op6 m) 24) = W0 at *
 go_wp2_with fail
 go_loopw [7, 8] (fun vv jj W => ∃ (j : Nat) (vs : List Value), j ≤ 6 ∧ jj = .int .i64 j ∧ LR W W0.heap.size vv ((wayL m n j).map (xs ++ ·)) vs ∧ Below W0.heap.size W0 W) (fun _ jj _ => 6 - (intOf jj).toNat)
 case atStart => exact ⟨0, [], by omega, rfl, LR.nil _ _, Below.refl _ _⟩
 case round =>
  obtain ⟨j, vs, hj, rfl, hR, b⟩ := hrel
  have hH := hH0.below b hH0.lt
  have hBw := hB0.below b
  by_cases hlt : j < 6
  ·have hz : ((j : Int) < 6) = True := eq_true (by omega)
   have hwr : IntKind.i64.wrap ((j : Int) + 1) = (j : Int) + 1 := by rw [IntKind.wrap_i64]; omega
   have q0 := hH.cell (i := 0) (v := .int .i64 m.k) rfl
   have q2 := hH.cell (i := 2) (v := .int .u32 m.m) rfl
   have q3 := hH.cell (i := 3) (v := .int .i64 m.b) rfl
   have q4 := hH.cell (i := 4) (v := .int .i64 m.x) rfl
   have q5 := hH.cell (i := 5) (v := .int .u32 m.s) rfl
   have hsu := wayL_succ m n j
   have hmd : ((j % 3 : Nat) : Int) = (j : Int) % 3 := by omega
   have hsb : (j / 3 == 1) = decide ((j : Int) / 3 = 1) := by rw [Bool.eq_iff_iff]; simp; omega
   rw [hmd, hsb] at hsu
   have hj3 : (j : Int) % 3 = 0 ∨ (j : Int) % 3 = 1 ∨ (j : Int) % 3 = 2 := by omega
   have hmed : 6 - (intOf (Value.int IntKind.i64 ((j : Int) + 1))).toNat < 6 - (intOf (Value.int IntKind.i64 (j : Int))).toNat := by simp [intOf]; omega
   have hb2 := b.size
   have stay : wayT m n ((j : Int) % 3) (decide ((j : Int) / 3 = 1)) = none → LR wr W0.heap.size u7 ((wayL m n (j + 1)).map (xs ++ ·)) vs := fun e => by rw [hsu, e]; simpa using hR
   clear hsb
   by_cases hm0 : (j : Int) % 3 = 0
   ·rw [hm0] at hsu stay
    by_cases hs : (j : Int) / 3 = 1
    ·have hs1 : ((j : Int) / 3 == 1) = true := by simpa using hs
     rw [decide_eq_true hs] at hsu stay
     go_upto_region 15 with (at_builtin; refine append_bytes rfl _ _ rfl wr.heap.size _ [] xs rfl (Own.nil _ _) (Nat.le_refl _) _ _ _ rfl hBw (by simp; have := hpq.out; omega) ?_; intro v1 w1 O1 c1)
     have hH1 := hH.below c1 hH.lt
     have q1_2 := hH1.cell (i := 2) (v := .int .u32 m.m) rfl
     have q1_3 := hH1.cell (i := 3) (v := .int .i64 m.b) rfl
     have q1_4 := hH1.cell (i := 4) (v := .int .i64 m.x) rfl
     have q1_5 := hH1.cell (i := 5) (v := .int .u32 m.s) rfl
     have eo : bits .or .i64 (bits .or .i64 0 (8 * n)) 4 = 8 * n + 4 := by have := join_i (h := 0) (m := n) (l := 4) (by decide) hn (by omega); simpa using this
     have em : IntKind.u8.wrap (8 * n + 4) = 8 * n + 4 := by rw [IntKind.wrap_u8]; omega
     go_upto_region 17 with (at_builtin; refine append_lit rfl _ _ rfl wr.heap.size _ ([] ++ xs) [8 * n + 4] rfl O1 c1.size _ rfl (by simp; omega) 1 rfl (by decide) rfl (by simp; have := hpq.out; omega) ?_; intro v2 w2 O2 g2 n2)
     have c2 := c1.trans (grown_below g2 c1.size (fun k hk => (O1.row.lt k hk).1))
     have hH2 := hH.below c2 hH.lt
     have q2_2 := hH2.cell (i := 2) (v := .int .u32 m.m) rfl
     have q2_3 := hH2.cell (i := 3) (v := .int .i64 m.b) rfl
     have q2_4 := hH2.cell (i := 4) (v := .int .i64 m.x) rfl
     have q2_5 := hH2.cell (i := 5) (v := .int .u32 m.s) rfl
     go_wp2_with fail
     go_loopw [14, 15] (fun cc ss W => ∃ c s : Int, cc = .int .i64 c ∧ ss = .int .u32 s ∧ (s = 1 ∨ s = 2 ∨ s = 4 ∨ s = 8) ∧ c + scN s = scN m.s ∧ 0 ≤ c ∧ w2 = W) (fun _ ss _ => (intOf ss).toNat)
     case atStart => exact ⟨0, m.s, rfl, rfl, hsc, by omega, by omega, rfl⟩
     case round =>
      obtain ⟨c, s, rfl, rfl, hs4, hcs, hcc, rfl⟩ := hrel
      have hS3 := scN_bd m.s
      have n1 : scN 1 = 0 := rfl
      have n2 : scN 2 = 1 := rfl
      have n4 : scN 4 = 2 := rfl
      have n8 : scN 8 = 3 := rfl
      rcases hs4 with rfl | rfl | rfl | rfl
      rotate_left
      ·have hc1 : IntKind.i64.wrap (c + 1) = c + 1 := by rw [IntKind.wrap_i64]; omega
       have hcs2 : c + 1 + scN 1 = scN m.s := by omega
       clear hcs n1 n2 n4 n8
       go_wp2_with fail
       go_roundw
       case rel => exact ⟨c + 1, 1, rfl, rfl, by decide, hcs2, by omega, trivial⟩
       case measure => simp [intOf]
      ·have hc1 : IntKind.i64.wrap (c + 1) = c + 1 := by rw [IntKind.wrap_i64]; omega
       have hcs2 : c + 1 + scN 2 = scN m.s := by omega
       clear hcs n1 n2 n4 n8
       go_wp2_with fail
       go_roundw
       case rel => exact ⟨c + 1, 2, rfl, rfl, by decide, hcs2, by omega, trivial⟩
       case measure => simp [intOf]
      ·have hc1 : IntKind.i64.wrap (c + 1) = c + 1 := by rw [IntKind.wrap_i64]; omega
       have hcs2 : c + 1 + scN 4 = scN m.s := by omega
       clear hcs n1 n2 n4 n8
       go_wp2_with fail
       go_roundw
       case rel => exact ⟨c + 1, 4, rfl, rfl, by decide, hcs2, by omega, trivial⟩
       case measure => simp [intOf]
      have hce : scN m.s = c := by omega
      clear hcs n1 n2 n4 n8
      have e64 : IntKind.i64.wrap (c * 64) = 64 * c := by rw [IntKind.wrap_i64]; omega
      have e8x : IntKind.i64.wrap (m.x * 8) = 8 * m.x := by rw [IntKind.wrap_i64]; omega
      have eo2 : bits .or .i64 (bits .or .i64 (64 * c) (8 * m.x)) 5 = 64 * c + 8 * m.x + 5 := by have := join_i (h := c) (m := m.x) (l := 5) (by omega) (by omega) (by omega); simpa using this
      have em2 : IntKind.u8.wrap (64 * c + 8 * m.x + 5) = 64 * c + 8 * m.x + 5 := by rw [IntKind.wrap_u8]; omega
      go_upto_region 26 with (at_builtin; refine append_lit rfl _ _ rfl wr.heap.size _ ([] ++ xs ++ [8 * n + 4]) [64 * c + 8 * m.x + 5] rfl O2 c2.size _ rfl (by simp; omega) 1 rfl (by decide) rfl (by simp; have := hpq.out; omega) ?_; intro v3 w3 O3 g3 n3)
      have c3 := c2.trans (grown_below g3 c2.size (fun k hk => (O2.row.lt k hk).1))
      have hH3 := hH.below c3 hH.lt
      have q3_2 := hH3.cell (i := 2) (v := .int .u32 m.m) rfl
      have q3_3 := hH3.cell (i := 3) (v := .int .i64 m.b) rfl
      have q3_4 := hH3.cell (i := 4) (v := .int .i64 m.x) rfl
      have q3_5 := hH3.cell (i := 5) (v := .int .u32 m.s) rfl
      go_upto_region 30 with ((with_reducible refine (HP.out w3 wr.heap.size _ ([] ++ xs ++ [8 * n + 4] ++ [64 * c + 8 * m.x + 5]) O3 c3.size (by simp; have := hpq.out; omega)).mono ?_); rintro e w4 ⟨v4, rfl, O4, g4, n4⟩)
      have c4 := c3.trans (grown_below g4 c3.size (fun k hk => (O3.row.lt k hk).1))
      obtain ⟨ua, uc, hue, -⟩ := id O4.ba
      generalize List.length _ = lq at hue
      subst hue
      go_wp2_with (at_builtin; refine append_lr rfl _ _ rfl W0.heap.size _ _ vs rfl hR hb2 c4 O4 (by simp) rfl (by simp; have := wayL_len m n j hj; omega) ?_; intro v9 w9 R9 c9)
      have hw : wayT m n 0 true = some ([8 * n + 4] ++ [64 * c + 8 * m.x + 5] ++ wB m.m) := by unfold wayT; rw [if_neg (fun h => h.2 rfl), if_neg (by omega), if_neg (by simp)]; simp [hb1, hx2, hce]
      exact ⟨⟨j + 1, vs ++ [.slice ua lq uc], by omega, by go_num, by rw [hsu, hw, List.map_append]; simpa using R9, b.trans c9⟩, hmed⟩
    ·have hs1 : ((j : Int) / 3 == 1) = false := by simpa using hs
     rw [decide_eq_false hs] at hsu stay
     go_upto_region 14 with fail
     exact ⟨⟨j + 1, vs, by omega, by go_num, stay (by unfold wayT; rw [if_neg (fun h => h.2 rfl), if_neg (by omega), if_pos ⟨rfl, .inl hx⟩]), b⟩, hmed⟩
   ·have hnn : ((j : Int) % 3 != 0) = true := by simpa using hm0
    go_upto_region 14 with fail
    exact ⟨⟨j + 1, vs, by omega, by go_num, stay (by unfold wayT; rw [if_pos ⟨hbn, hm0⟩]), b⟩, hmed⟩
  ·have hz : ((j : Int) < 6) = False := eq_false (by omega)
   obtain rfl : j = 6 := by omega
   go_wp2_with fail
   go_ret
   refine ⟨u7, vs, rfl, ?_, ?_⟩
   ·rw [← wayL_6 m n (by simpa using h1)]
    exact hR.base b0.size
   ·exact b0.trans (b.mono b0.size)
theorem mod_neg {w : World} {p : Value} {xs : List Int} (hp : Bs w p xs) (hx0 : xs ≠ []) (hx9 : xs.length ≤ 9) (m : On) (hm : RMb m) (h1 : (m.k == 1) = false) {n : Int} (hn : 0 ≤ n ∧ n < 8) (hbn : m.b < 0) (hx : ¬ 0 ≤ m.x) :
  Calls Tryd.prog 52 #[p, opV m, .int .i64 n] w fun e w' => ∃ v vs, e = .returned v ∧ LR w' w.heap.size v ((modT m n).map (xs ++ ·)) vs ∧ Below w.heap.size w w' := by
 have hb1 : (m.b < 0) = True := eq_true hbn
 have hx1 : (m.x ≥ 0) = False := eq_false hx
 have hx2 : (0 ≤ m.x) = False := eq_false hx
 obtain ⟨pa, pc, rfl, hB⟩ := hp
 have hsc : m.s = 1 ∨ m.s = 2 ∨ m.s = 4 ∨ m.s = 8 := RMb.sc hm (by simpa using h1)
 have hkb := hm.kind.resolve_left (by simpa using h1)
 generalize hpq : xs.length = pl at *
 have hpq := Lib.hid hpq
 go_enter Tryd.func52, Tryd.ntmps52
 have e3 := shl3 hn
 have HP := Lib.hid (fun W N v xs h hN hl => put_any N v xs m.m hm.2 W h hN hl)
 go_upto_region 3 with fail
 have b0 : Below w.heap.size w (w.alloc (.cells (op6 m) 24)) := (Below.refl _ _).alloc (Nat.le_refl _) _
 have hH0 : Blk (w.alloc (.cells (op6 m) 24)) w.heap.size 24 (op6 m) := Blk.new _ _ _
 have hB0 := hB.below b0
 generalize w.alloc (.cells (op6 m) 24) = W0 at *
 go_wp2_with fail
 go_loopw [7, 8] (fun vv jj W => ∃ (j : Nat) (vs : List Value), j ≤ 6 ∧ jj = .int .i64 j ∧ LR W W0.heap.size vv ((wayL m n j).map (xs ++ ·)) vs ∧ Below W0.heap.size W0 W) (fun _ jj _ => 6 - (intOf jj).toNat)
 case atStart => exact ⟨0, [], by omega, rfl, LR.nil _ _, Below.refl _ _⟩
 case round =>
  obtain ⟨j, vs, hj, rfl, hR, b⟩ := hrel
  have hH := hH0.below b hH0.lt
  have hBw := hB0.below b
  by_cases hlt : j < 6
  ·have hz : ((j : Int) < 6) = True := eq_true (by omega)
   have hwr : IntKind.i64.wrap ((j : Int) + 1) = (j : Int) + 1 := by rw [IntKind.wrap_i64]; omega
   have q0 := hH.cell (i := 0) (v := .int .i64 m.k) rfl
   have q2 := hH.cell (i := 2) (v := .int .u32 m.m) rfl
   have q3 := hH.cell (i := 3) (v := .int .i64 m.b) rfl
   have q4 := hH.cell (i := 4) (v := .int .i64 m.x) rfl
   have q5 := hH.cell (i := 5) (v := .int .u32 m.s) rfl
   have hsu := wayL_succ m n j
   have hmd : ((j % 3 : Nat) : Int) = (j : Int) % 3 := by omega
   have hsb : (j / 3 == 1) = decide ((j : Int) / 3 = 1) := by rw [Bool.eq_iff_iff]; simp; omega
   rw [hmd, hsb] at hsu
   have hj3 : (j : Int) % 3 = 0 ∨ (j : Int) % 3 = 1 ∨ (j : Int) % 3 = 2 := by omega
   have hmed : 6 - (intOf (Value.int IntKind.i64 ((j : Int) + 1))).toNat < 6 - (intOf (Value.int IntKind.i64 (j : Int))).toNat := by simp [intOf]; omega
   have hb2 := b.size
   have stay : wayT m n ((j : Int) % 3) (decide ((j : Int) / 3 = 1)) = none → LR wr W0.heap.size u7 ((wayL m n (j + 1)).map (xs ++ ·)) vs := fun e => by rw [hsu, e]; simpa using hR
   clear hsb
   by_cases hm0 : (j : Int) % 3 = 0
   ·rw [hm0] at hsu stay
    by_cases hs : (j : Int) / 3 = 1
    ·have hs1 : ((j : Int) / 3 == 1) = true := by simpa using hs
     rw [decide_eq_true hs] at hsu stay
     go_upto_region 15 with (at_builtin; refine append_bytes rfl _ _ rfl wr.heap.size _ [] xs rfl (Own.nil _ _) (Nat.le_refl _) _ _ _ rfl hBw (by simp; have := hpq.out; omega) ?_; intro v1 w1 O1 c1)
     have hH1 := hH.below c1 hH.lt
     have q1_2 := hH1.cell (i := 2) (v := .int .u32 m.m) rfl
     have q1_3 := hH1.cell (i := 3) (v := .int .i64 m.b) rfl
     have q1_4 := hH1.cell (i := 4) (v := .int .i64 m.x) rfl
     have q1_5 := hH1.cell (i := 5) (v := .int .u32 m.s) rfl
     have eo : bits .or .i64 (bits .or .i64 0 (8 * n)) 4 = 8 * n + 4 := by have := join_i (h := 0) (m := n) (l := 4) (by decide) hn (by omega); simpa using this
     have em : IntKind.u8.wrap (8 * n + 4) = 8 * n + 4 := by rw [IntKind.wrap_u8]; omega
     go_upto_region 17 with (at_builtin; refine append_lit rfl _ _ rfl wr.heap.size _ ([] ++ xs) [8 * n + 4] rfl O1 c1.size _ rfl (by simp; omega) 1 rfl (by decide) rfl (by simp; have := hpq.out; omega) ?_; intro v2 w2 O2 g2 n2)
     have c2 := c1.trans (grown_below g2 c1.size (fun k hk => (O1.row.lt k hk).1))
     have hH2 := hH.below c2 hH.lt
     have q2_2 := hH2.cell (i := 2) (v := .int .u32 m.m) rfl
     have q2_3 := hH2.cell (i := 3) (v := .int .i64 m.b) rfl
     have q2_4 := hH2.cell (i := 4) (v := .int .i64 m.x) rfl
     have q2_5 := hH2.cell (i := 5) (v := .int .u32 m.s) rfl
     go_wp2_with fail
     go_loopw [14, 15] (fun cc ss W => ∃ c s : Int, cc = .int .i64 c ∧ ss = .int .u32 s ∧ (s = 1 ∨ s = 2 ∨ s = 4 ∨ s = 8) ∧ c + scN s = scN m.s ∧ 0 ≤ c ∧ w2 = W) (fun _ ss _ => (intOf ss).toNat)
     case atStart => exact ⟨0, m.s, rfl, rfl, hsc, by omega, by omega, rfl⟩
     case round =>
      obtain ⟨c, s, rfl, rfl, hs4, hcs, hcc, rfl⟩ := hrel
      have hS3 := scN_bd m.s
      have n1 : scN 1 = 0 := rfl
      have n2 : scN 2 = 1 := rfl
      have n4 : scN 4 = 2 := rfl
      have n8 : scN 8 = 3 := rfl
      rcases hs4 with rfl | rfl | rfl | rfl
      rotate_left
      ·have hc1 : IntKind.i64.wrap (c + 1) = c + 1 := by rw [IntKind.wrap_i64]; omega
       have hcs2 : c + 1 + scN 1 = scN m.s := by omega
       clear hcs n1 n2 n4 n8
       go_wp2_with fail
       go_roundw
       case rel => exact ⟨c + 1, 1, rfl, rfl, by decide, hcs2, by omega, trivial⟩
       case measure => simp [intOf]
      ·have hc1 : IntKind.i64.wrap (c + 1) = c + 1 := by rw [IntKind.wrap_i64]; omega
       have hcs2 : c + 1 + scN 2 = scN m.s := by omega
       clear hcs n1 n2 n4 n8
       go_wp2_with fail
       go_roundw
       case rel => exact ⟨c + 1, 2, rfl, rfl, by decide, hcs2, by omega, trivial⟩
       case measure => simp [intOf]
      ·have hc1 : IntKind.i64.wrap (c + 1) = c + 1 := by rw [IntKind.wrap_i64]; omega
       have hcs2 : c + 1 + scN 4 = scN m.s := by omega
       clear hcs n1 n2 n4 n8
       go_wp2_with fail
       go_roundw
       case rel => exact ⟨c + 1, 4, rfl, rfl, by decide, hcs2, by omega, trivial⟩
       case measure => simp [intOf]
      have hce : scN m.s = c := by omega
      clear hcs n1 n2 n4 n8
      have e64 : IntKind.i64.wrap (c * 64) = 64 * c := by rw [IntKind.wrap_i64]; omega
      have e8x := True.intro
      have eo2 : bits .or .i64 (bits .or .i64 (64 * c) (32)) 5 = 64 * c + 32 + 5 := by have := join_i (h := c) (m := 4) (l := 5) (by omega) (by omega) (by omega); simpa using this
      have em2 : IntKind.u8.wrap (64 * c + 32 + 5) = 64 * c + 32 + 5 := by rw [IntKind.wrap_u8]; omega
      go_upto_region 26 with (at_builtin; refine append_lit rfl _ _ rfl wr.heap.size _ ([] ++ xs ++ [8 * n + 4]) [64 * c + 32 + 5] rfl O2 c2.size _ rfl (by simp; omega) 1 rfl (by decide) rfl (by simp; have := hpq.out; omega) ?_; intro v3 w3 O3 g3 n3)
      have c3 := c2.trans (grown_below g3 c2.size (fun k hk => (O2.row.lt k hk).1))
      have hH3 := hH.below c3 hH.lt
      have q3_2 := hH3.cell (i := 2) (v := .int .u32 m.m) rfl
      have q3_3 := hH3.cell (i := 3) (v := .int .i64 m.b) rfl
      have q3_4 := hH3.cell (i := 4) (v := .int .i64 m.x) rfl
      have q3_5 := hH3.cell (i := 5) (v := .int .u32 m.s) rfl
      go_upto_region 30 with ((with_reducible refine (HP.out w3 wr.heap.size _ ([] ++ xs ++ [8 * n + 4] ++ [64 * c + 32 + 5]) O3 c3.size (by simp; have := hpq.out; omega)).mono ?_); rintro e w4 ⟨v4, rfl, O4, g4, n4⟩)
      have c4 := c3.trans (grown_below g4 c3.size (fun k hk => (O3.row.lt k hk).1))
      obtain ⟨ua, uc, hue, -⟩ := id O4.ba
      generalize List.length _ = lq at hue
      subst hue
      go_wp2_with (at_builtin; refine append_lr rfl _ _ rfl W0.heap.size _ _ vs rfl hR hb2 c4 O4 (by simp) rfl (by simp; have := wayL_len m n j hj; omega) ?_; intro v9 w9 R9 c9)
      have hw : wayT m n 0 true = some ([8 * n + 4] ++ [64 * c + 32 + 5] ++ wB m.m) := by unfold wayT; rw [if_neg (fun h => h.2 rfl), if_neg (by omega), if_neg (by simp)]; simp [hb1, hx2, hce]
      exact ⟨⟨j + 1, vs ++ [.slice ua lq uc], by omega, by go_num, by rw [hsu, hw, List.map_append]; simpa using R9, b.trans c9⟩, hmed⟩
    ·have hs1 : ((j : Int) / 3 == 1) = false := by simpa using hs
     rw [decide_eq_false hs] at hsu stay
     go_upto_region 15 with (at_builtin; refine append_bytes rfl _ _ rfl wr.heap.size _ [] xs rfl (Own.nil _ _) (Nat.le_refl _) _ _ _ rfl hBw (by simp; have := hpq.out; omega) ?_; intro v1 w1 O1 c1)
     have hH1 := hH.below c1 hH.lt
     have q1_2 := hH1.cell (i := 2) (v := .int .u32 m.m) rfl
     have q1_3 := hH1.cell (i := 3) (v := .int .i64 m.b) rfl
     have q1_4 := hH1.cell (i := 4) (v := .int .i64 m.x) rfl
     have q1_5 := hH1.cell (i := 5) (v := .int .u32 m.s) rfl
     have eo : bits .or .i64 (bits .or .i64 0 (8 * n)) 5 = 8 * n + 5 := by have := join_i (h := 0) (m := n) (l := 5) (by decide) hn (by omega); simpa using this
     have em : IntKind.u8.wrap (8 * n + 5) = 8 * n + 5 := by rw [IntKind.wrap_u8]; omega
     go_upto_region 26 with (at_builtin; refine append_lit rfl _ _ rfl wr.heap.size _ ([] ++ xs) [8 * n + 5] rfl O1 c1.size _ rfl (by simp; omega) 1 rfl (by decide) rfl (by simp; have := hpq.out; omega) ?_; intro v2 w2 O2 g2 n2)
     have c2 := c1.trans (grown_below g2 c1.size (fun k hk => (O1.row.lt k hk).1))
     have hH2 := hH.below c2 hH.lt
     have q2_2 := hH2.cell (i := 2) (v := .int .u32 m.m) rfl
     have q2_3 := hH2.cell (i := 3) (v := .int .i64 m.b) rfl
     have q2_4 := hH2.cell (i := 4) (v := .int .i64 m.x) rfl
     have q2_5 := hH2.cell (i := 5) (v := .int .u32 m.s) rfl
     go_upto_region 30 with ((with_reducible refine (HP.out w2 wr.heap.size _ ([] ++ xs ++ [8 * n + 5]) O2 c2.size (by simp; have := hpq.out; omega)).mono ?_); rintro e w3 ⟨v3, rfl, O3, g3, n3⟩)
     have c3 := c2.trans (grown_below g3 c2.size (fun k hk => (O2.row.lt k hk).1))
     obtain ⟨ua, uc, hue, -⟩ := id O3.ba
     generalize List.length _ = lq at hue
     subst hue
     go_wp2_with (at_builtin; refine append_lr rfl _ _ rfl W0.heap.size _ _ vs rfl hR hb2 c3 O3 (by simp) rfl (by simp; have := wayL_len m n j hj; omega) ?_; intro v9 w9 R9 c9)
     have hw : wayT m n 0 false = some ([8 * n + 5] ++ wB m.m) := by unfold wayT; rw [if_neg (fun h => h.2 rfl), if_neg (by omega), if_neg (by omega)]; simp [hb1]
     exact ⟨⟨j + 1, vs ++ [.slice ua lq uc], by omega, by go_num, by rw [hsu, hw, List.map_append]; simpa using R9, b.trans c9⟩, hmed⟩
   ·have hnn : ((j : Int) % 3 != 0) = true := by simpa using hm0
    go_upto_region 14 with fail
    exact ⟨⟨j + 1, vs, by omega, by go_num, stay (by unfold wayT; rw [if_pos ⟨hbn, hm0⟩]), b⟩, hmed⟩
  ·have hz : ((j : Int) < 6) = False := eq_false (by omega)
   obtain rfl : j = 6 := by omega
   go_wp2_with fail
   go_ret
   refine ⟨u7, vs, rfl, ?_, ?_⟩
   ·rw [← wayL_6 m n (by simpa using h1)]
    exact hR.base b0.size
   ·exact b0.trans (b.mono b0.size)
theorem mod_pos_x {w : World} {p : Value} {xs : List Int} (hp : Bs w p xs) (hx0 : xs ≠ []) (hx9 : xs.length ≤ 9) (m : On) (hm : RMb m) (h1 : (m.k == 1) = false) {n : Int} (hn : 0 ≤ n ∧ n < 8) (hbn : ¬ m.b < 0) (hx : 0 ≤ m.x) :
  Calls Tryd.prog 52 #[p, opV m, .int .i64 n] w fun e w' => ∃ v vs, e = .returned v ∧ LR w' w.heap.size v ((modT m n).map (xs ++ ·)) vs ∧ Below w.heap.size w w' := by
 have hb1 : (m.b < 0) = False := eq_false hbn
 have hx1 : (m.x ≥ 0) = True := eq_true hx
 have hx2 : (0 ≤ m.x) = True := eq_true hx
 obtain ⟨pa, pc, rfl, hB⟩ := hp
 have hsc : m.s = 1 ∨ m.s = 2 ∨ m.s = 4 ∨ m.s = 8 := RMb.sc hm (by simpa using h1)
 have hkb := hm.kind.resolve_left (by simpa using h1)
 generalize hpq : xs.length = pl at *
 have hpq := Lib.hid hpq
 go_enter Tryd.func52, Tryd.ntmps52
 have e3 := shl3 hn
 have HP := Lib.hid (fun W N v xs h hN hl => put_any N v xs m.m hm.2 W h hN hl)
 go_upto_region 3 with fail
 have b0 : Below w.heap.size w (w.alloc (.cells (op6 m) 24)) := (Below.refl _ _).alloc (Nat.le_refl _) _
 have hH0 : Blk (w.alloc (.cells (op6 m) 24)) w.heap.size 24 (op6 m) := Blk.new _ _ _
 have hB0 := hB.below b0
 generalize w.alloc (.cells (op6 m) 24) = W0 at *
 go_wp2_with fail
 go_loopw [7, 8] (fun vv jj W => ∃ (j : Nat) (vs : List Value), j ≤ 6 ∧ jj = .int .i64 j ∧ LR W W0.heap.size vv ((wayL m n j).map (xs ++ ·)) vs ∧ Below W0.heap.size W0 W) (fun _ jj _ => 6 - (intOf jj).toNat)
 case atStart => exact ⟨0, [], by omega, rfl, LR.nil _ _, Below.refl _ _⟩
 case round =>
  obtain ⟨j, vs, hj, rfl, hR, b⟩ := hrel
  have hH := hH0.below b hH0.lt
  have hBw := hB0.below b
  by_cases hlt : j < 6
  ·have hz : ((j : Int) < 6) = True := eq_true (by omega)
   have hwr : IntKind.i64.wrap ((j : Int) + 1) = (j : Int) + 1 := by rw [IntKind.wrap_i64]; omega
   have q0 := hH.cell (i := 0) (v := .int .i64 m.k) rfl
   have q2 := hH.cell (i := 2) (v := .int .u32 m.m) rfl
   have q3 := hH.cell (i := 3) (v := .int .i64 m.b) rfl
   have q4 := hH.cell (i := 4) (v := .int .i64 m.x) rfl
   have q5 := hH.cell (i := 5) (v := .int .u32 m.s) rfl
   have hsu := wayL_succ m n j
   have hmd : ((j % 3 : Nat) : Int) = (j : Int) % 3 := by omega
   have hsb : (j / 3 == 1) = decide ((j : Int) / 3 = 1) := by rw [Bool.eq_iff_iff]; simp; omega
   rw [hmd, hsb] at hsu
   have hj3 : (j : Int) % 3 = 0 ∨ (j : Int) % 3 = 1 ∨ (j : Int) % 3 = 2 := by omega
   have hmed : 6 - (intOf (Value.int IntKind.i64 ((j : Int) + 1))).toNat < 6 - (intOf (Value.int IntKind.i64 (j : Int))).toNat := by simp [intOf]; omega
   have hb2 := b.size
   have stay : wayT m n ((j : Int) % 3) (decide ((j : Int) / 3 = 1)) = none → LR wr W0.heap.size u7 ((wayL m n (j + 1)).map (xs ++ ·)) vs := fun e => by rw [hsu, e]; simpa using hR
   clear hsb
   rcases hj3 with hm0 | hm0 | hm0
   ·rw [hm0] at hsu stay
    by_cases h5 : m.b = 5
    ·have h51 : (m.b == 5) = true := by simpa using h5
     go_upto_region 14 with fail
     exact ⟨⟨j + 1, vs, by omega, by go_num, stay (by unfold wayT; rw [if_neg (fun h => absurd h.1 (by omega)), if_pos ⟨by omega, .inl ⟨rfl, .inl h5⟩⟩]), b⟩, hmed⟩
    have h51 : (m.b == 5) = false := by simpa using h5
    by_cases hmm : m.m = 0
    ·have hm1 : (m.m != 0) = false := by simpa using hmm
     by_cases hs : (j : Int) / 3 = 1
     ·have hs1 : ((j : Int) / 3 == 1) = true := by simpa using hs
      rw [decide_eq_true hs] at hsu stay
      go_upto_region 15 with (at_builtin; refine append_bytes rfl _ _ rfl wr.heap.size _ [] xs rfl (Own.nil _ _) (Nat.le_refl _) _ _ _ rfl hBw (by simp; have := hpq.out; omega) ?_; intro v1 w1 O1 c1)
      have hH1 := hH.below c1 hH.lt
      have q1_2 := hH1.cell (i := 2) (v := .int .u32 m.m) rfl
      have q1_3 := hH1.cell (i := 3) (v := .int .i64 m.b) rfl
      have q1_4 := hH1.cell (i := 4) (v := .int .i64 m.x) rfl
      have q1_5 := hH1.cell (i := 5) (v := .int .u32 m.s) rfl
      have eo : bits .or .i64 (bits .or .i64 0 (8 * n)) 4 = 8 * n + 4 := by have := join_i (h := 0) (m := n) (l := 4) (by decide) hn (by omega); simpa using this
      have em : IntKind.u8.wrap (8 * n + 4) = 8 * n + 4 := by rw [IntKind.wrap_u8]; omega
      go_upto_region 17 with (at_builtin; refine append_lit rfl _ _ rfl wr.heap.size _ ([] ++ xs) [8 * n + 4] rfl O1 c1.size _ rfl (by simp; omega) 1 rfl (by decide) rfl (by simp; have := hpq.out; omega) ?_; intro v2 w2 O2 g2 n2)
      have c2 := c1.trans (grown_below g2 c1.size (fun k hk => (O1.row.lt k hk).1))
      have hH2 := hH.below c2 hH.lt
      have q2_2 := hH2.cell (i := 2) (v := .int .u32 m.m) rfl
      have q2_3 := hH2.cell (i := 3) (v := .int .i64 m.b) rfl
      have q2_4 := hH2.cell (i := 4) (v := .int .i64 m.x) rfl
      have q2_5 := hH2.cell (i := 5) (v := .int .u32 m.s) rfl
      go_wp2_with fail
      go_loopw [14, 15] (fun cc ss W => ∃ c s : Int, cc = .int .i64 c ∧ ss = .int .u32 s ∧ (s = 1 ∨ s = 2 ∨ s = 4 ∨ s = 8) ∧ c + scN s = scN m.s ∧ 0 ≤ c ∧ w2 = W) (fun _ ss _ => (intOf ss).toNat)
      case atStart => exact ⟨0, m.s, rfl, rfl, hsc, by omega, by omega, rfl⟩
      case round =>
       obtain ⟨c, s, rfl, rfl, hs4, hcs, hcc, rfl⟩ := hrel
       have hS3 := scN_bd m.s
       have n1 : scN 1 = 0 := rfl
       have n2 : scN 2 = 1 := rfl
       have n4 : scN 4 = 2 := rfl
       have n8 : scN 8 = 3 := rfl
       rcases hs4 with rfl | rfl | rfl | rfl
       rotate_left
       ·have hc1 : IntKind.i64.wrap (c + 1) = c + 1 := by rw [IntKind.wrap_i64]; omega
        have hcs2 : c + 1 + scN 1 = scN m.s := by omega
        clear hcs n1 n2 n4 n8
        go_wp2_with fail
        go_roundw
        case rel => exact ⟨c + 1, 1, rfl, rfl, by decide, hcs2, by omega, trivial⟩
        case measure => simp [intOf]
       ·have hc1 : IntKind.i64.wrap (c + 1) = c + 1 := by rw [IntKind.wrap_i64]; omega
        have hcs2 : c + 1 + scN 2 = scN m.s := by omega
        clear hcs n1 n2 n4 n8
        go_wp2_with fail
        go_roundw
        case rel => exact ⟨c + 1, 2, rfl, rfl, by decide, hcs2, by omega, trivial⟩
        case measure => simp [intOf]
       ·have hc1 : IntKind.i64.wrap (c + 1) = c + 1 := by rw [IntKind.wrap_i64]; omega
        have hcs2 : c + 1 + scN 4 = scN m.s := by omega
        clear hcs n1 n2 n4 n8
        go_wp2_with fail
        go_roundw
        case rel => exact ⟨c + 1, 4, rfl, rfl, by decide, hcs2, by omega, trivial⟩
        case measure => simp [intOf]
       have hce : scN m.s = c := by omega
       clear hcs n1 n2 n4 n8
       have e64 : IntKind.i64.wrap (c * 64) = 64 * c := by rw [IntKind.wrap_i64]; omega
       have e8x : IntKind.i64.wrap (m.x * 8) = 8 * m.x := by rw [IntKind.wrap_i64]; omega
       have eo2 : bits .or .i64 (bits .or .i64 (64 * c) (8 * m.x)) m.b = 64 * c + 8 * m.x + m.b := by have := join_i (h := c) (m := m.x) (l := m.b) (by omega) (by omega) (by omega); simpa using this
       have em2 : IntKind.u8.wrap (64 * c + 8 * m.x + m.b) = 64 * c + 8 * m.x + m.b := by rw [IntKind.wrap_u8]; omega
       go_upto_region 26 with (at_builtin; refine append_lit rfl _ _ rfl wr.heap.size _ ([] ++ xs ++ [8 * n + 4]) [64 * c + 8 * m.x + m.b] rfl O2 c2.size _ rfl (by simp; omega) 1 rfl (by decide) rfl (by simp; have := hpq.out; omega) ?_; intro v3 w3 O3 g3 n3)
       have c3 := c2.trans (grown_below g3 c2.size (fun k hk => (O2.row.lt k hk).1))
       have hH3 := hH.below c3 hH.lt
       have q3_2 := hH3.cell (i := 2) (v := .int .u32 m.m) rfl
       have q3_3 := hH3.cell (i := 3) (v := .int .i64 m.b) rfl
       have q3_4 := hH3.cell (i := 4) (v := .int .i64 m.x) rfl
       have q3_5 := hH3.cell (i := 5) (v := .int .u32 m.s) rfl
       go_upto_region 30 with fail
       obtain ⟨ua, uc, hue, -⟩ := id O3.ba
       generalize List.length _ = lq at hue
       subst hue
       go_wp2_with (at_builtin; refine append_lr rfl _ _ rfl W0.heap.size _ _ vs rfl hR hb2 c3 O3 (by simp) rfl (by simp; have := wayL_len m n j hj; omega) ?_; intro v9 w9 R9 c9)
       have hw : wayT m n 0 true = some ([8 * n + 4] ++ [64 * c + 8 * m.x + m.b]) := by unfold wayT; rw [if_neg (fun h => absurd h.1 (by omega)), if_neg (fun h => h.2.elim (fun h => h.2.elim h5 (fun h => h hmm)) (fun h => absurd h.1 (by decide))), if_neg (by simp)]; simp [hb1, hx2, hce]
       exact ⟨⟨j + 1, vs ++ [.slice ua lq uc], by omega, by go_num, by rw [hsu, hw, List.map_append]; simpa using R9, b.trans c9⟩, hmed⟩
     ·have hs1 : ((j : Int) / 3 == 1) = false := by simpa using hs
      rw [decide_eq_false hs] at hsu stay
      go_upto_region 14 with fail
      exact ⟨⟨j + 1, vs, by omega, by go_num, stay (by unfold wayT; rw [if_neg (fun h => absurd h.1 (by omega)), if_neg (fun h => h.2.elim (fun h => h.2.elim h5 (fun h => h hmm)) (fun h => absurd h.1 (by decide))), if_pos ⟨rfl, .inl hx⟩]), b⟩, hmed⟩
    ·have hm1 : (m.m != 0) = true := by simpa using hmm
     go_upto_region 14 with fail
     exact ⟨⟨j + 1, vs, by omega, by go_num, stay (by unfold wayT; rw [if_neg (fun h => absurd h.1 (by omega)), if_pos ⟨by omega, .inl ⟨rfl, .inr hmm⟩⟩]), b⟩, hmed⟩
   ·rw [hm0] at hsu stay
    cases hf : fitI m.m
    ·have hf1 := fit_no hf
     go_upto_region 14 with fail
     exact ⟨⟨j + 1, vs, by omega, by go_num, stay (by unfold wayT; rw [if_neg (fun h => absurd h.1 (by omega)), if_pos ⟨by omega, .inr ⟨rfl, hf⟩⟩]), b⟩, hmed⟩
    ·have hf1 := fit_ok hf
     by_cases hs : (j : Int) / 3 = 1
     ·have hs1 : ((j : Int) / 3 == 1) = true := by simpa using hs
      rw [decide_eq_true hs] at hsu stay
      go_upto_region 15 with (at_builtin; refine append_bytes rfl _ _ rfl wr.heap.size _ [] xs rfl (Own.nil _ _) (Nat.le_refl _) _ _ _ rfl hBw (by simp; have := hpq.out; omega) ?_; intro v1 w1 O1 c1)
      have hH1 := hH.below c1 hH.lt
      have q1_2 := hH1.cell (i := 2) (v := .int .u32 m.m) rfl
      have q1_3 := hH1.cell (i := 3) (v := .int .i64 m.b) rfl
      have q1_4 := hH1.cell (i := 4) (v := .int .i64 m.x) rfl
      have q1_5 := hH1.cell (i := 5) (v := .int .u32 m.s) rfl
      have eo : bits .or .i64 (bits .or .i64 64 (8 * n)) 4 = 64 + 8 * n + 4 := by have := join_i (h := 1) (m := n) (l := 4) (by decide) hn (by omega); simpa using this
      have em : IntKind.u8.wrap (64 + 8 * n + 4) = 64 + 8 * n + 4 := by rw [IntKind.wrap_u8]; omega
      go_upto_region 17 with (at_builtin; refine append_lit rfl _ _ rfl wr.heap.size _ ([] ++ xs) [64 + 8 * n + 4] rfl O1 c1.size _ rfl (by simp; omega) 1 rfl (by decide) rfl (by simp; have := hpq.out; omega) ?_; intro v2 w2 O2 g2 n2)
      have c2 := c1.trans (grown_below g2 c1.size (fun k hk => (O1.row.lt k hk).1))
      have hH2 := hH.below c2 hH.lt
      have q2_2 := hH2.cell (i := 2) (v := .int .u32 m.m) rfl
      have q2_3 := hH2.cell (i := 3) (v := .int .i64 m.b) rfl
      have q2_4 := hH2.cell (i := 4) (v := .int .i64 m.x) rfl
      have q2_5 := hH2.cell (i := 5) (v := .int .u32 m.s) rfl
      go_wp2_with fail
      go_loopw [14, 15] (fun cc ss W => ∃ c s : Int, cc = .int .i64 c ∧ ss = .int .u32 s ∧ (s = 1 ∨ s = 2 ∨ s = 4 ∨ s = 8) ∧ c + scN s = scN m.s ∧ 0 ≤ c ∧ w2 = W) (fun _ ss _ => (intOf ss).toNat)
      case atStart => exact ⟨0, m.s, rfl, rfl, hsc, by omega, by omega, rfl⟩
      case round =>
       obtain ⟨c, s, rfl, rfl, hs4, hcs, hcc, rfl⟩ := hrel
       have hS3 := scN_bd m.s
       have n1 : scN 1 = 0 := rfl
       have n2 : scN 2 = 1 := rfl
       have n4 : scN 4 = 2 := rfl
       have n8 : scN 8 = 3 := rfl
       rcases hs4 with rfl | rfl | rfl | rfl
       rotate_left
       ·have hc1 : IntKind.i64.wrap (c + 1) = c + 1 := by rw [IntKind.wrap_i64]; omega
        have hcs2 : c + 1 + scN 1 = scN m.s := by omega
        clear hcs n1 n2 n4 n8
        go_wp2_with fail
        go_roundw
        case rel => exact ⟨c + 1, 1, rfl, rfl, by decide, hcs2, by omega, trivial⟩
        case measure => simp [intOf]
       ·have hc1 : IntKind.i64.wrap (c + 1) = c + 1 := by rw [IntKind.wrap_i64]; omega
        have hcs2 : c + 1 + scN 2 = scN m.s := by omega
        clear hcs n1 n2 n4 n8
        go_wp2_with fail
        go_roundw
        case rel => exact ⟨c + 1, 2, rfl, rfl, by decide, hcs2, by omega, trivial⟩
        case measure => simp [intOf]
       ·have hc1 : IntKind.i64.wrap (c + 1) = c + 1 := by rw [IntKind.wrap_i64]; omega
        have hcs2 : c + 1 + scN 4 = scN m.s := by omega
        clear hcs n1 n2 n4 n8
        go_wp2_with fail
        go_roundw
        case rel => exact ⟨c + 1, 4, rfl, rfl, by decide, hcs2, by omega, trivial⟩
        case measure => simp [intOf]
       have hce : scN m.s = c := by omega
       clear hcs n1 n2 n4 n8
       have e64 : IntKind.i64.wrap (c * 64) = 64 * c := by rw [IntKind.wrap_i64]; omega
       have e8x : IntKind.i64.wrap (m.x * 8) = 8 * m.x := by rw [IntKind.wrap_i64]; omega
       have eo2 : bits .or .i64 (bits .or .i64 (64 * c) (8 * m.x)) m.b = 64 * c + 8 * m.x + m.b := by have := join_i (h := c) (m := m.x) (l := m.b) (by omega) (by omega) (by omega); simpa using this
       have em2 : IntKind.u8.wrap (64 * c + 8 * m.x + m.b) = 64 * c + 8 * m.x + m.b := by rw [IntKind.wrap_u8]; omega
       go_upto_region 26 with (at_builtin; refine append_lit rfl _ _ rfl wr.heap.size _ ([] ++ xs ++ [64 + 8 * n + 4]) [64 * c + 8 * m.x + m.b] rfl O2 c2.size _ rfl (by simp; omega) 1 rfl (by decide) rfl (by simp; have := hpq.out; omega) ?_; intro v3 w3 O3 g3 n3)
       have c3 := c2.trans (grown_below g3 c2.size (fun k hk => (O2.row.lt k hk).1))
       have hH3 := hH.below c3 hH.lt
       have q3_2 := hH3.cell (i := 2) (v := .int .u32 m.m) rfl
       have q3_3 := hH3.cell (i := 3) (v := .int .i64 m.b) rfl
       have q3_4 := hH3.cell (i := 4) (v := .int .i64 m.x) rfl
       have q3_5 := hH3.cell (i := 5) (v := .int .u32 m.s) rfl
       go_upto_region 30 with (at_builtin; refine append_lit rfl _ _ rfl wr.heap.size _ ([] ++ xs ++ [64 + 8 * n + 4] ++ [64 * c + 8 * m.x + m.b]) [m.m % 256] rfl O3 c3.size _ rfl (by simp; omega) 1 rfl (by decide) rfl (by simp; have := hpq.out; omega) ?_; intro v4 w4 O4 g4 n4)
       have c4 := c3.trans (grown_below g4 c3.size (fun k hk => (O3.row.lt k hk).1))
       obtain ⟨ua, uc, hue, -⟩ := id O4.ba
       generalize List.length _ = lq at hue
       subst hue
       go_wp2_with (at_builtin; refine append_lr rfl _ _ rfl W0.heap.size _ _ vs rfl hR hb2 c4 O4 (by simp) rfl (by simp; have := wayL_len m n j hj; omega) ?_; intro v9 w9 R9 c9)
       have hw : wayT m n 1 true = some ([64 + 8 * n + 4] ++ [64 * c + 8 * m.x + m.b] ++ [m.m % 256]) := by unfold wayT; rw [if_neg (fun h => absurd h.1 (by omega)), if_neg (fun h => h.2.elim (fun h => absurd h.1 (by decide)) (fun h => by rw [hf] at h; cases h.2)), if_neg (by simp)]; simp [hb1, hx2, hce]
       exact ⟨⟨j + 1, vs ++ [.slice ua lq uc], by omega, by go_num, by rw [hsu, hw, List.map_append]; simpa using R9, b.trans c9⟩, hmed⟩
     ·have hs1 : ((j : Int) / 3 == 1) = false := by simpa using hs
      rw [decide_eq_false hs] at hsu stay
      go_upto_region 14 with fail
      exact ⟨⟨j + 1, vs, by omega, by go_num, stay (by unfold wayT; rw [if_neg (fun h => absurd h.1 (by omega)), if_neg (fun h => h.2.elim (fun h => absurd h.1 (by decide)) (fun h => by rw [hf] at h; cases h.2)), if_pos ⟨rfl, .inl hx⟩]), b⟩, hmed⟩
   ·rw [hm0] at hsu stay
    by_cases hs : (j : Int) / 3 = 1
    ·have hs1 : ((j : Int) / 3 == 1) = true := by simpa using hs
     rw [decide_eq_true hs] at hsu stay
     go_upto_region 15 with (at_builtin; refine append_bytes rfl _ _ rfl wr.heap.size _ [] xs rfl (Own.nil _ _) (Nat.le_refl _) _ _ _ rfl hBw (by simp; have := hpq.out; omega) ?_; intro v1 w1 O1 c1)
     have hH1 := hH.below c1 hH.lt
     have q1_2 := hH1.cell (i := 2) (v := .int .u32 m.m) rfl
     have q1_3 := hH1.cell (i := 3) (v := .int .i64 m.b) rfl
     have q1_4 := hH1.cell (i := 4) (v := .int .i64 m.x) rfl
     have q1_5 := hH1.cell (i := 5) (v := .int .u32 m.s) rfl
     have eo : bits .or .i64 (bits .or .i64 128 (8 * n)) 4 = 128 + 8 * n + 4 := by have := join_i (h := 2) (m := n) (l := 4) (by decide) hn (by omega); simpa using this
     have em : IntKind.u8.wrap (128 + 8 * n + 4) = 128 + 8 * n + 4 := by rw [IntKind.wrap_u8]; omega
     go_upto_region 17 with (at_builtin; refine append_lit rfl _ _ rfl wr.heap.size _ ([] ++ xs) [128 + 8 * n + 4] rfl O1 c1.size _ rfl (by simp; omega) 1 rfl (by decide) rfl (by simp; have := hpq.out; omega) ?_; intro v2 w2 O2 g2 n2)
     have c2 := c1.trans (grown_below g2 c1.size (fun k hk => (O1.row.lt k hk).1))
     have hH2 := hH.below c2 hH.lt
     have q2_2 := hH2.cell (i := 2) (v := .int .u32 m.m) rfl
     have q2_3 := hH2.cell (i := 3) (v := .int .i64 m.b) rfl
     have q2_4 := hH2.cell (i := 4) (v := .int .i64 m.x) rfl
     have q2_5 := hH2.cell (i := 5) (v := .int .u32 m.s) rfl
     go_wp2_with fail
     go_loopw [14, 15] (fun cc ss W => ∃ c s : Int, cc = .int .i64 c ∧ ss = .int .u32 s ∧ (s = 1 ∨ s = 2 ∨ s = 4 ∨ s = 8) ∧ c + scN s = scN m.s ∧ 0 ≤ c ∧ w2 = W) (fun _ ss _ => (intOf ss).toNat)
     case atStart => exact ⟨0, m.s, rfl, rfl, hsc, by omega, by omega, rfl⟩
     case round =>
      obtain ⟨c, s, rfl, rfl, hs4, hcs, hcc, rfl⟩ := hrel
      have hS3 := scN_bd m.s
      have n1 : scN 1 = 0 := rfl
      have n2 : scN 2 = 1 := rfl
      have n4 : scN 4 = 2 := rfl
      have n8 : scN 8 = 3 := rfl
      rcases hs4 with rfl | rfl | rfl | rfl
      rotate_left
      ·have hc1 : IntKind.i64.wrap (c + 1) = c + 1 := by rw [IntKind.wrap_i64]; omega
       have hcs2 : c + 1 + scN 1 = scN m.s := by omega
       clear hcs n1 n2 n4 n8
       go_wp2_with fail
       go_roundw
       case rel => exact ⟨c + 1, 1, rfl, rfl, by decide, hcs2, by omega, trivial⟩
       case measure => simp [intOf]
      ·have hc1 : IntKind.i64.wrap (c + 1) = c + 1 := by rw [IntKind.wrap_i64]; omega
       have hcs2 : c + 1 + scN 2 = scN m.s := by omega
       clear hcs n1 n2 n4 n8
       go_wp2_with fail
       go_roundw
       case rel => exact ⟨c + 1, 2, rfl, rfl, by decide, hcs2, by omega, trivial⟩
       case measure => simp [intOf]
      ·have hc1 : IntKind.i64.wrap (c + 1) = c + 1 := by rw [IntKind.wrap_i64]; omega
       have hcs2 : c + 1 + scN 4 = scN m.s := by omega
       clear hcs n1 n2 n4 n8
       go_wp2_with fail
       go_roundw
       case rel => exact ⟨c + 1, 4, rfl, rfl, by decide, hcs2, by omega, trivial⟩
       case measure => simp [intOf]
      have hce : scN m.s = c := by omega
      clear hcs n1 n2 n4 n8
      have e64 : IntKind.i64.wrap (c * 64) = 64 * c := by rw [IntKind.wrap_i64]; omega
      have e8x : IntKind.i64.wrap (m.x * 8) = 8 * m.x := by rw [IntKind.wrap_i64]; omega
      have eo2 : bits .or .i64 (bits .or .i64 (64 * c) (8 * m.x)) m.b = 64 * c + 8 * m.x + m.b := by have := join_i (h := c) (m := m.x) (l := m.b) (by omega) (by omega) (by omega); simpa using this
      have em2 : IntKind.u8.wrap (64 * c + 8 * m.x + m.b) = 64 * c + 8 * m.x + m.b := by rw [IntKind.wrap_u8]; omega
      go_upto_region 26 with (at_builtin; refine append_lit rfl _ _ rfl wr.heap.size _ ([] ++ xs ++ [128 + 8 * n + 4]) [64 * c + 8 * m.x + m.b] rfl O2 c2.size _ rfl (by simp; omega) 1 rfl (by decide) rfl (by simp; have := hpq.out; omega) ?_; intro v3 w3 O3 g3 n3)
      have c3 := c2.trans (grown_below g3 c2.size (fun k hk => (O2.row.lt k hk).1))
      have hH3 := hH.below c3 hH.lt
      have q3_2 := hH3.cell (i := 2) (v := .int .u32 m.m) rfl
      have q3_3 := hH3.cell (i := 3) (v := .int .i64 m.b) rfl
      have q3_4 := hH3.cell (i := 4) (v := .int .i64 m.x) rfl
      have q3_5 := hH3.cell (i := 5) (v := .int .u32 m.s) rfl
      go_upto_region 30 with ((with_reducible refine (HP.out w3 wr.heap.size _ ([] ++ xs ++ [128 + 8 * n + 4] ++ [64 * c + 8 * m.x + m.b]) O3 c3.size (by simp; have := hpq.out; omega)).mono ?_); rintro e w4 ⟨v4, rfl, O4, g4, n4⟩)
      have c4 := c3.trans (grown_below g4 c3.size (fun k hk => (O3.row.lt k hk).1))
      obtain ⟨ua, uc, hue, -⟩ := id O4.ba
      generalize List.length _ = lq at hue
      subst hue
      go_wp2_with (at_builtin; refine append_lr rfl _ _ rfl W0.heap.size _ _ vs rfl hR hb2 c4 O4 (by simp) rfl (by simp; have := wayL_len m n j hj; omega) ?_; intro v9 w9 R9 c9)
      have hw : wayT m n 2 true = some ([128 + 8 * n + 4] ++ [64 * c + 8 * m.x + m.b] ++ wB m.m) := by unfold wayT; rw [if_neg (fun h => absurd h.1 (by omega)), if_neg (fun h => h.2.elim (fun h => absurd h.1 (by decide)) (fun h => absurd h.1 (by decide))), if_neg (by simp)]; simp [hb1, hx2, hce]
      exact ⟨⟨j + 1, vs ++ [.slice ua lq uc], by omega, by go_num, by rw [hsu, hw, List.map_append]; simpa using R9, b.trans c9⟩, hmed⟩
    ·have hs1 : ((j : Int) / 3 == 1) = false := by simpa using hs
     rw [decide_eq_false hs] at hsu stay
     go_upto_region 14 with fail
     exact ⟨⟨j + 1, vs, by omega, by go_num, stay (by unfold wayT; rw [if_neg (fun h => absurd h.1 (by omega)), if_neg (fun h => h.2.elim (fun h => absurd h.1 (by decide)) (fun h => absurd h.1 (by decide))), if_pos ⟨rfl, .inl hx⟩]), b⟩, hmed⟩
  ·have hz : ((j : Int) < 6) = False := eq_false (by omega)
   obtain rfl : j = 6 := by omega
   go_wp2_with fail
   go_ret
   refine ⟨u7, vs, rfl, ?_, ?_⟩
   ·rw [← wayL_6 m n (by simpa using h1)]
    exact hR.base b0.size
   ·exact b0.trans (b.mono b0.size)
theorem mod_pos {w : World} {p : Value} {xs : List Int} (hp : Bs w p xs) (hx0 : xs ≠ []) (hx9 : xs.length ≤ 9) (m : On) (hm : RMb m) (h1 : (m.k == 1) = false) {n : Int} (hn : 0 ≤ n ∧ n < 8) (hbn : ¬ m.b < 0) (hx : ¬ 0 ≤ m.x) :
  Calls Tryd.prog 52 #[p, opV m, .int .i64 n] w fun e w' => ∃ v vs, e = .returned v ∧ LR w' w.heap.size v ((modT m n).map (xs ++ ·)) vs ∧ Below w.heap.size w w' := by
 have hb1 : (m.b < 0) = False := eq_false hbn
 have hx1 : (m.x ≥ 0) = False := eq_false hx
 have hx2 : (0 ≤ m.x) = False := eq_false hx
 obtain ⟨pa, pc, rfl, hB⟩ := hp
 have hsc : m.s = 1 ∨ m.s = 2 ∨ m.s = 4 ∨ m.s = 8 := RMb.sc hm (by simpa using h1)
 have hkb := hm.kind.resolve_left (by simpa using h1)
 generalize hpq : xs.length = pl at *
 have hpq := Lib.hid hpq
 go_enter Tryd.func52, Tryd.ntmps52
 have e3 := shl3 hn
 have HP := Lib.hid (fun W N v xs h hN hl => put_any N v xs m.m hm.2 W h hN hl)
 go_upto_region 3 with fail
 have b0 : Below w.heap.size w (w.alloc (.cells (op6 m) 24)) := (Below.refl _ _).alloc (Nat.le_refl _) _
 have hH0 : Blk (w.alloc (.cells (op6 m) 24)) w.heap.size 24 (op6 m) := Blk.new _ _ _
 have hB0 := hB.below b0
 generalize w.alloc (.cells (op6 m) 24) = W0 at *
 go_wp2_with fail
 go_loopw [7, 8] (fun vv jj W => ∃ (j : Nat) (vs : List Value), j ≤ 6 ∧ jj = .int .i64 j ∧ LR W W0.heap.size vv ((wayL m n j).map (xs ++ ·)) vs ∧ Below W0.heap.size W0 W) (fun _ jj _ => 6 - (intOf jj).toNat)
 case atStart => exact ⟨0, [], by omega, rfl, LR.nil _ _, Below.refl _ _⟩
 case round =>
  obtain ⟨j, vs, hj, rfl, hR, b⟩ := hrel
  have hH := hH0.below b hH0.lt
  have hBw := hB0.below b
  by_cases hlt : j < 6
  ·have hz : ((j : Int) < 6) = True := eq_true (by omega)
   have hwr : IntKind.i64.wrap ((j : Int) + 1) = (j : Int) + 1 := by rw [IntKind.wrap_i64]; omega
   have q0 := hH.cell (i := 0) (v := .int .i64 m.k) rfl
   have q2 := hH.cell (i := 2) (v := .int .u32 m.m) rfl
   have q3 := hH.cell (i := 3) (v := .int .i64 m.b) rfl
   have q4 := hH.cell (i := 4) (v := .int .i64 m.x) rfl
   have q5 := hH.cell (i := 5) (v := .int .u32 m.s) rfl
   have hsu := wayL_succ m n j
   have hmd : ((j % 3 : Nat) : Int) = (j : Int) % 3 := by omega
   have hsb : (j / 3 == 1) = decide ((j : Int) / 3 = 1) := by rw [Bool.eq_iff_iff]; simp; omega
   rw [hmd, hsb] at hsu
   have hj3 : (j : Int) % 3 = 0 ∨ (j : Int) % 3 = 1 ∨ (j : Int) % 3 = 2 := by omega
   have hmed : 6 - (intOf (Value.int IntKind.i64 ((j : Int) + 1))).toNat < 6 - (intOf (Value.int IntKind.i64 (j : Int))).toNat := by simp [intOf]; omega
   have hb2 := b.size
   have stay : wayT m n ((j : Int) % 3) (decide ((j : Int) / 3 = 1)) = none → LR wr W0.heap.size u7 ((wayL m n (j + 1)).map (xs ++ ·)) vs := fun e => by rw [hsu, e]; simpa using hR
   clear hsb
   rcases hj3 with hm0 | hm0 | hm0
   ·rw [hm0] at hsu stay
    by_cases h5 : m.b = 5
    ·have h51 : (m.b == 5) = true := by simpa using h5
     go_upto_region 14 with fail
     exact ⟨⟨j + 1, vs, by omega, by go_num, stay (by unfold wayT; rw [if_neg (fun h => absurd h.1 (by omega)), if_pos ⟨by omega, .inl ⟨rfl, .inl h5⟩⟩]), b⟩, hmed⟩
    have h51 : (m.b == 5) = false := by simpa using h5
    by_cases hmm : m.m = 0
    ·have hm1 : (m.m != 0) = false := by simpa using hmm
     by_cases hs : (j : Int) / 3 = 1
     ·have hs1 : ((j : Int) / 3 == 1) = true := by simpa using hs
      rw [decide_eq_true hs] at hsu stay
      go_upto_region 15 with (at_builtin; refine append_bytes rfl _ _ rfl wr.heap.size _ [] xs rfl (Own.nil _ _) (Nat.le_refl _) _ _ _ rfl hBw (by simp; have := hpq.out; omega) ?_; intro v1 w1 O1 c1)
      have hH1 := hH.below c1 hH.lt
      have q1_2 := hH1.cell (i := 2) (v := .int .u32 m.m) rfl
      have q1_3 := hH1.cell (i := 3) (v := .int .i64 m.b) rfl
      have q1_4 := hH1.cell (i := 4) (v := .int .i64 m.x) rfl
      have q1_5 := hH1.cell (i := 5) (v := .int .u32 m.s) rfl
      have eo : bits .or .i64 (bits .or .i64 0 (8 * n)) 4 = 8 * n + 4 := by have := join_i (h := 0) (m := n) (l := 4) (by decide) hn (by omega); simpa using this
      have em : IntKind.u8.wrap (8 * n + 4) = 8 * n + 4 := by rw [IntKind.wrap_u8]; omega
      go_upto_region 17 with (at_builtin; refine append_lit rfl _ _ rfl wr.heap.size _ ([] ++ xs) [8 * n + 4] rfl O1 c1.size _ rfl (by simp; omega) 1 rfl (by decide) rfl (by simp; have := hpq.out; omega) ?_; intro v2 w2 O2 g2 n2)
      have c2 := c1.trans (grown_below g2 c1.size (fun k hk => (O1.row.lt k hk).1))
      have hH2 := hH.below c2 hH.lt
      have q2_2 := hH2.cell (i := 2) (v := .int .u32 m.m) rfl
      have q2_3 := hH2.cell (i := 3) (v := .int .i64 m.b) rfl
      have q2_4 := hH2.cell (i := 4) (v := .int .i64 m.x) rfl
      have q2_5 := hH2.cell (i := 5) (v := .int .u32 m.s) rfl
      go_wp2_with fail
      go_loopw [14, 15] (fun cc ss W => ∃ c s : Int, cc = .int .i64 c ∧ ss = .int .u32 s ∧ (s = 1 ∨ s = 2 ∨ s = 4 ∨ s = 8) ∧ c + scN s = scN m.s ∧ 0 ≤ c ∧ w2 = W) (fun _ ss _ => (intOf ss).toNat)
      case atStart => exact ⟨0, m.s, rfl, rfl, hsc, by omega, by omega, rfl⟩
      case round =>
       obtain ⟨c, s, rfl, rfl, hs4, hcs, hcc, rfl⟩ := hrel
       have hS3 := scN_bd m.s
       have n1 : scN 1 = 0 := rfl
       have n2 : scN 2 = 1 := rfl
       have n4 : scN 4 = 2 := rfl
       have n8 : scN 8 = 3 := rfl
       rcases hs4 with rfl | rfl | rfl | rfl
       rotate_left
       ·have hc1 : IntKind.i64.wrap (c + 1) = c + 1 := by rw [IntKind.wrap_i64]; omega
        have hcs2 : c + 1 + scN 1 = scN m.s := by omega
        clear hcs n1 n2 n4 n8
        go_wp2_with fail
        go_roundw
        case rel => exact ⟨c + 1, 1, rfl, rfl, by decide, hcs2, by omega, trivial⟩
        case measure => simp [intOf]
       ·have hc1 : IntKind.i64.wrap (c + 1) = c + 1 := by rw [IntKind.wrap_i64]; omega
        have hcs2 : c + 1 + scN 2 = scN m.s := by omega
        clear hcs n1 n2 n4 n8
        go_wp2_with fail
        go_roundw
        case rel => exact ⟨c + 1, 2, rfl, rfl, by decide, hcs2, by omega, trivial⟩
        case measure => simp [intOf]
       ·have hc1 : IntKind.i64.wrap (c + 1) = c + 1 := by rw [IntKind.wrap_i64]; omega
        have hcs2 : c + 1 + scN 4 = scN m.s := by omega
        clear hcs n1 n2 n4 n8
        go_wp2_with fail
        go_roundw
        case rel => exact ⟨c + 1, 4, rfl, rfl, by decide, hcs2, by omega, trivial⟩
        case measure => simp [intOf]
       have hce : scN m.s = c := by omega
       clear hcs n1 n2 n4 n8
       have e64 : IntKind.i64.wrap (c * 64) = 64 * c := by rw [IntKind.wrap_i64]; omega
       have e8x := True.intro
       have eo2 : bits .or .i64 (bits .or .i64 (64 * c) (32)) m.b = 64 * c + 32 + m.b := by have := join_i (h := c) (m := 4) (l := m.b) (by omega) (by omega) (by omega); simpa using this
       have em2 : IntKind.u8.wrap (64 * c + 32 + m.b) = 64 * c + 32 + m.b := by rw [IntKind.wrap_u8]; omega
       go_upto_region 26 with (at_builtin; refine append_lit rfl _ _ rfl wr.heap.size _ ([] ++ xs ++ [8 * n + 4]) [64 * c + 32 + m.b] rfl O2 c2.size _ rfl (by simp; omega) 1 rfl (by decide) rfl (by simp; have := hpq.out; omega) ?_; intro v3 w3 O3 g3 n3)
       have c3 := c2.trans (grown_below g3 c2.size (fun k hk => (O2.row.lt k hk).1))
       have hH3 := hH.below c3 hH.lt
       have q3_2 := hH3.cell (i := 2) (v := .int .u32 m.m) rfl
       have q3_3 := hH3.cell (i := 3) (v := .int .i64 m.b) rfl
       have q3_4 := hH3.cell (i := 4) (v := .int .i64 m.x) rfl
       have q3_5 := hH3.cell (i := 5) (v := .int .u32 m.s) rfl
       go_upto_region 30 with fail
       obtain ⟨ua, uc, hue, -⟩ := id O3.ba
       generalize List.length _ = lq at hue
       subst hue
       go_wp2_with (at_builtin; refine append_lr rfl _ _ rfl W0.heap.size _ _ vs rfl hR hb2 c3 O3 (by simp) rfl (by simp; have := wayL_len m n j hj; omega) ?_; intro v9 w9 R9 c9)
       have hw : wayT m n 0 true = some ([8 * n + 4] ++ [64 * c + 32 + m.b]) := by unfold wayT; rw [if_neg (fun h => absurd h.1 (by omega)), if_neg (fun h => h.2.elim (fun h => h.2.elim h5 (fun h => h hmm)) (fun h => absurd h.1 (by decide))), if_neg (by simp)]; simp [hb1, hx2, hce]
       exact ⟨⟨j + 1, vs ++ [.slice ua lq uc], by omega, by go_num, by rw [hsu, hw, List.map_append]; simpa using R9, b.trans c9⟩, hmed⟩
     ·have hs1 : ((j : Int) / 3 == 1) = false := by simpa using hs
      rw [decide_eq_false hs] at hsu stay
      by_cases h4 : m.b = 4
      ·have h41 : (m.b == 4) = true := by simpa using h4
       go_upto_region 14 with fail
       exact ⟨⟨j + 1, vs, by omega, by go_num, stay (by unfold wayT; rw [if_neg (fun h => absurd h.1 (by omega)), if_neg (fun h => h.2.elim (fun h => h.2.elim h5 (fun h => h hmm)) (fun h => absurd h.1 (by decide))), if_pos ⟨rfl, .inr h4⟩]), b⟩, hmed⟩
      ·have h41 : (m.b == 4) = false := by simpa using h4
       go_upto_region 15 with (at_builtin; refine append_bytes rfl _ _ rfl wr.heap.size _ [] xs rfl (Own.nil _ _) (Nat.le_refl _) _ _ _ rfl hBw (by simp; have := hpq.out; omega) ?_; intro v1 w1 O1 c1)
       have hH1 := hH.below c1 hH.lt
       have q1_2 := hH1.cell (i := 2) (v := .int .u32 m.m) rfl
       have q1_3 := hH1.cell (i := 3) (v := .int .i64 m.b) rfl
       have q1_4 := hH1.cell (i := 4) (v := .int .i64 m.x) rfl
       have q1_5 := hH1.cell (i := 5) (v := .int .u32 m.s) rfl
       have eo : bits .or .i64 (bits .or .i64 0 (8 * n)) m.b = 8 * n + m.b := by have := join_i (h := 0) (m := n) (l := m.b) (by decide) hn (by omega); simpa using this
       have em : IntKind.u8.wrap (8 * n + m.b) = 8 * n + m.b := by rw [IntKind.wrap_u8]; omega
       go_upto_region 26 with (at_builtin; refine append_lit rfl _ _ rfl wr.heap.size _ ([] ++ xs) [8 * n + m.b] rfl O1 c1.size _ rfl (by simp; omega) 1 rfl (by decide) rfl (by simp; have := hpq.out; omega) ?_; intro v2 w2 O2 g2 n2)
       have c2 := c1.trans (grown_below g2 c1.size (fun k hk => (O1.row.lt k hk).1))
       have hH2 := hH.below c2 hH.lt
       have q2_2 := hH2.cell (i := 2) (v := .int .u32 m.m) rfl
       have q2_3 := hH2.cell (i := 3) (v := .int .i64 m.b) rfl
       have q2_4 := hH2.cell (i := 4) (v := .int .i64 m.x) rfl
       have q2_5 := hH2.cell (i := 5) (v := .int .u32 m.s) rfl
       go_upto_region 30 with fail
       obtain ⟨ua, uc, hue, -⟩ := id O2.ba
       generalize List.length _ = lq at hue
       subst hue
       go_wp2_with (at_builtin; refine append_lr rfl _ _ rfl W0.heap.size _ _ vs rfl hR hb2 c2 O2 (by simp) rfl (by simp; have := wayL_len m n j hj; omega) ?_; intro v9 w9 R9 c9)
       have hw : wayT m n 0 false = some ([8 * n + m.b]) := by unfold wayT; rw [if_neg (fun h => absurd h.1 (by omega)), if_neg (fun h => h.2.elim (fun h => h.2.elim h5 (fun h => h hmm)) (fun h => absurd h.1 (by decide))), if_neg (by omega)]; simp [hb1]
       exact ⟨⟨j + 1, vs ++ [.slice ua lq uc], by omega, by go_num, by rw [hsu, hw, List.map_append]; simpa using R9, b.trans c9⟩, hmed⟩
    ·have hm1 : (m.m != 0) = true := by simpa using hmm
     go_upto_region 14 with fail
     exact ⟨⟨j + 1, vs, by omega, by go_num, stay (by unfold wayT; rw [if_neg (fun h => absurd h.1 (by omega)), if_pos ⟨by omega, .inl ⟨rfl, .inr hmm⟩⟩]), b⟩, hmed⟩
   ·rw [hm0] at hsu stay
    cases hf : fitI m.m
    ·have hf1 := fit_no hf
     go_upto_region 14 with fail
     exact ⟨⟨j + 1, vs, by omega, by go_num, stay (by unfold wayT; rw [if_neg (fun h => absurd h.1 (by omega)), if_pos ⟨by omega, .inr ⟨rfl, hf⟩⟩]), b⟩, hmed⟩
    ·have hf1 := fit_ok hf
     by_cases hs : (j : Int) / 3 = 1
     ·have hs1 : ((j : Int) / 3 == 1) = true := by simpa using hs
      rw [decide_eq_true hs] at hsu stay
      go_upto_region 15 with (at_builtin; refine append_bytes rfl _ _ rfl wr.heap.size _ [] xs rfl (Own.nil _ _) (Nat.le_refl _) _ _ _ rfl hBw (by simp; have := hpq.out; omega) ?_; intro v1 w1 O1 c1)
      have hH1 := hH.below c1 hH.lt
      have q1_2 := hH1.cell (i := 2) (v := .int .u32 m.m) rfl
      have q1_3 := hH1.cell (i := 3) (v := .int .i64 m.b) rfl
      have q1_4 := hH1.cell (i := 4) (v := .int .i64 m.x) rfl
      have q1_5 := hH1.cell (i := 5) (v := .int .u32 m.s) rfl
      have eo : bits .or .i64 (bits .or .i64 64 (8 * n)) 4 = 64 + 8 * n + 4 := by have := join_i (h := 1) (m := n) (l := 4) (by decide) hn (by omega); simpa using this
      have em : IntKind.u8.wrap (64 + 8 * n + 4) = 64 + 8 * n + 4 := by rw [IntKind.wrap_u8]; omega
      go_upto_region 17 with (at_builtin; refine append_lit rfl _ _ rfl wr.heap.size _ ([] ++ xs) [64 + 8 * n + 4] rfl O1 c1.size _ rfl (by simp; omega) 1 rfl (by decide) rfl (by simp; have := hpq.out; omega) ?_; intro v2 w2 O2 g2 n2)
      have c2 := c1.trans (grown_below g2 c1.size (fun k hk => (O1.row.lt k hk).1))
      have hH2 := hH.below c2 hH.lt
      have q2_2 := hH2.cell (i := 2) (v := .int .u32 m.m) rfl
      have q2_3 := hH2.cell (i := 3) (v := .int .i64 m.b) rfl
      have q2_4 := hH2.cell (i := 4) (v := .int .i64 m.x) rfl
      have q2_5 := hH2.cell (i := 5) (v := .int .u32 m.s) rfl
      go_wp2_with fail
      go_loopw [14, 15] (fun cc ss W => ∃ c s : Int, cc = .int .i64 c ∧ ss = .int .u32 s ∧ (s = 1 ∨ s = 2 ∨ s = 4 ∨ s = 8) ∧ c + scN s = scN m.s ∧ 0 ≤ c ∧ w2 = W) (fun _ ss _ => (intOf ss).toNat)
      case atStart => exact ⟨0, m.s, rfl, rfl, hsc, by omega, by omega, rfl⟩
      case round =>
       obtain ⟨c, s, rfl, rfl, hs4, hcs, hcc, rfl⟩ := hrel
       have hS3 := scN_bd m.s
       have n1 : scN 1 = 0 := rfl
       have n2 : scN 2 = 1 := rfl
       have n4 : scN 4 = 2 := rfl
       have n8 : scN 8 = 3 := rfl
       rcases hs4 with rfl | rfl | rfl | rfl
       rotate_left
       ·have hc1 : IntKind.i64.wrap (c + 1) = c + 1 := by rw [IntKind.wrap_i64]; omega
        have hcs2 : c + 1 + scN 1 = scN m.s := by omega
        clear hcs n1 n2 n4 n8
        go_wp2_with fail
        go_roundw
        case rel => exact ⟨c + 1, 1, rfl, rfl, by decide, hcs2, by omega, trivial⟩
        case measure => simp [intOf]
       ·have hc1 : IntKind.i64.wrap (c + 1) = c + 1 := by rw [IntKind.wrap_i64]; omega
        have hcs2 : c + 1 + scN 2 = scN m.s := by omega
        clear hcs n1 n2 n4 n8
        go_wp2_with fail
        go_roundw
        case rel => exact ⟨c + 1, 2, rfl, rfl, by decide, hcs2, by omega, trivial⟩
        case measure => simp [intOf]
       ·have hc1 : IntKind.i64.wrap (c + 1) = c + 1 := by rw [IntKind.wrap_i64]; omega
        have hcs2 : c + 1 + scN 4 = scN m.s := by omega
        clear hcs n1 n2 n4 n8
        go_wp2_with fail
        go_roundw
        case rel => exact ⟨c + 1, 4, rfl, rfl, by decide, hcs2, by omega, trivial⟩
        case measure => simp [intOf]
       have hce : scN m.s = c := by omega
       clear hcs n1 n2 n4 n8
       have e64 : IntKind.i64.wrap (c * 64) = 64 * c := by rw [IntKind.wrap_i64]; omega
       have e8x := True.intro
       have eo2 : bits .or .i64 (bits .or .i64 (64 * c) (32)) m.b = 64 * c + 32 + m.b := by have := join_i (h := c) (m := 4) (l := m.b) (by omega) (by omega) (by omega); simpa using this
       have em2 : IntKind.u8.wrap (64 * c + 32 + m.b) = 64 * c + 32 + m.b := by rw [IntKind.wrap_u8]; omega
       go_upto_region 26 with (at_builtin; refine append_lit rfl _ _ rfl wr.heap.size _ ([] ++ xs ++ [64 + 8 * n + 4]) [64 * c + 32 + m.b] rfl O2 c2.size _ rfl (by simp; omega) 1 rfl (by decide) rfl (by simp; have := hpq.out; omega) ?_; intro v3 w3 O3 g3 n3)
       have c3 := c2.trans (grown_below g3 c2.size (fun k hk => (O2.row.lt k hk).1))
       have hH3 := hH.below c3 hH.lt
       have q3_2 := hH3.cell (i := 2) (v := .int .u32 m.m) rfl
       have q3_3 := hH3.cell (i := 3) (v := .int .i64 m.b) rfl
       have q3_4 := hH3.cell (i := 4) (v := .int .i64 m.x) rfl
       have q3_5 := hH3.cell (i := 5) (v := .int .u32 m.s) rfl
       go_upto_region 30 with (at_builtin; refine append_lit rfl _ _ rfl wr.heap.size _ ([] ++ xs ++ [64 + 8 * n + 4] ++ [64 * c + 32 + m.b]) [m.m % 256] rfl O3 c3.size _ rfl (by simp; omega) 1 rfl (by decide) rfl (by simp; have := hpq.out; omega) ?_; intro v4 w4 O4 g4 n4)
       have c4 := c3.trans (grown_below g4 c3.size (fun k hk => (O3.row.lt k hk).1))
       obtain ⟨ua, uc, hue, -⟩ := id O4.ba
       generalize List.length _ = lq at hue
       subst hue
       go_wp2_with (at_builtin; refine append_lr rfl _ _ rfl W0.heap.size _ _ vs rfl hR hb2 c4 O4 (by simp) rfl (by simp; have := wayL_len m n j hj; omega) ?_; intro v9 w9 R9 c9)
       have hw : wayT m n 1 true = some ([64 + 8 * n + 4] ++ [64 * c + 32 + m.b] ++ [m.m % 256]) := by unfold wayT; rw [if_neg (fun h => absurd h.1 (by omega)), if_neg (fun h => h.2.elim (fun h => absurd h.1 (by decide)) (fun h => by rw [hf] at h; cases h.2)), if_neg (by simp)]; simp [hb1, hx2, hce]
       exact ⟨⟨j + 1, vs ++ [.slice ua lq uc], by omega, by go_num, by rw [hsu, hw, List.map_append]; simpa using R9, b.trans c9⟩, hmed⟩
     ·have hs1 : ((j : Int) / 3 == 1) = false := by simpa using hs
      rw [decide_eq_false hs] at hsu stay
      by_cases h4 : m.b = 4
      ·have h41 : (m.b == 4) = true := by simpa using h4
       go_upto_region 14 with fail
       exact ⟨⟨j + 1, vs, by omega, by go_num, stay (by unfold wayT; rw [if_neg (fun h => absurd h.1 (by omega)), if_neg (fun h => h.2.elim (fun h => absurd h.1 (by decide)) (fun h => by rw [hf] at h; cases h.2)), if_pos ⟨rfl, .inr h4⟩]), b⟩, hmed⟩
      ·have h41 : (m.b == 4) = false := by simpa using h4
       go_upto_region 15 with (at_builtin; refine append_bytes rfl _ _ rfl wr.heap.size _ [] xs rfl (Own.nil _ _) (Nat.le_refl _) _ _ _ rfl hBw (by simp; have := hpq.out; omega) ?_; intro v1 w1 O1 c1)
       have hH1 := hH.below c1 hH.lt
       have q1_2 := hH1.cell (i := 2) (v := .int .u32 m.m) rfl
       have q1_3 := hH1.cell (i := 3) (v := .int .i64 m.b) rfl
       have q1_4 := hH1.cell (i := 4) (v := .int .i64 m.x) rfl
       have q1_5 := hH1.cell (i := 5) (v := .int .u32 m.s) rfl
       have eo : bits .or .i64 (bits .or .i64 64 (8 * n)) m.b = 64 + 8 * n + m.b := by have := join_i (h := 1) (m := n) (l := m.b) (by decide) hn (by omega); simpa using this
       have em : IntKind.u8.wrap (64 + 8 * n + m.b) = 64 + 8 * n + m.b := by rw [IntKind.wrap_u8]; omega
       go_upto_region 26 with (at_builtin; refine append_lit rfl _ _ rfl wr.heap.size _ ([] ++ xs) [64 + 8 * n + m.b] rfl O1 c1.size _ rfl (by simp; omega) 1 rfl (by decide) rfl (by simp; have := hpq.out; omega) ?_; intro v2 w2 O2 g2 n2)
       have c2 := c1.trans (grown_below g2 c1.size (fun k hk => (O1.row.lt k hk).1))
       have hH2 := hH.below c2 hH.lt
       have q2_2 := hH2.cell (i := 2) (v := .int .u32 m.m) rfl
       have q2_3 := hH2.cell (i := 3) (v := .int .i64 m.b) rfl
       have q2_4 := hH2.cell (i := 4) (v := .int .i64 m.x) rfl
       have q2_5 := hH2.cell (i := 5) (v := .int .u32 m.s) rfl
       go_upto_region 30 with (at_builtin; refine append_lit rfl _ _ rfl wr.heap.size _ ([] ++ xs ++ [64 + 8 * n + m.b]) [m.m % 256] rfl O2 c2.size _ rfl (by simp; omega) 1 rfl (by decide) rfl (by simp; have := hpq.out; omega) ?_; intro v3 w3 O3 g3 n3)
       have c3 := c2.trans (grown_below g3 c2.size (fun k hk => (O2.row.lt k hk).1))
       obtain ⟨ua, uc, hue, -⟩ := id O3.ba
       generalize List.length _ = lq at hue
       subst hue
       go_wp2_with (at_builtin; refine append_lr rfl _ _ rfl W0.heap.size _ _ vs rfl hR hb2 c3 O3 (by simp) rfl (by simp; have := wayL_len m n j hj; omega) ?_; intro v9 w9 R9 c9)
       have hw : wayT m n 1 false = some ([64 + 8 * n + m.b] ++ [m.m % 256]) := by unfold wayT; rw [if_neg (fun h => absurd h.1 (by omega)), if_neg (fun h => h.2.elim (fun h => absurd h.1 (by decide)) (fun h => by rw [hf] at h; cases h.2)), if_neg (by omega)]; simp [hb1]
       exact ⟨⟨j + 1, vs ++ [.slice ua lq uc], by omega, by go_num, by rw [hsu, hw, List.map_append]; simpa using R9, b.trans c9⟩, hmed⟩
   ·rw [hm0] at hsu stay
    by_cases hs : (j : Int) / 3 = 1
    ·have hs1 : ((j : Int) / 3 == 1) = true := by simpa using hs
     rw [decide_eq_true hs] at hsu stay
     go_upto_region 15 with (at_builtin; refine append_bytes rfl _ _ rfl wr.heap.size _ [] xs rfl (Own.nil _ _) (Nat.le_refl _) _ _ _ rfl hBw (by simp; have := hpq.out; omega) ?_; intro v1 w1 O1 c1)
     have hH1 := hH.below c1 hH.lt
     have q1_2 := hH1.cell (i := 2) (v := .int .u32 m.m) rfl
     have q1_3 := hH1.cell (i := 3) (v := .int .i64 m.b) rfl
     have q1_4 := hH1.cell (i := 4) (v := .int .i64 m.x) rfl
     have q1_5 := hH1.cell (i := 5) (v := .int .u32 m.s) rfl
     have eo : bits .or .i64 (bits .or .i64 128 (8 * n)) 4 = 128 + 8 * n + 4 := by have := join_i (h := 2) (m := n) (l := 4) (by decide) hn (by omega); simpa using this
     have em : IntKind.u8.wrap (128 + 8 * n + 4) = 128 + 8 * n + 4 := by rw [IntKind.wrap_u8]; omega
     go_upto_region 17 with (at_builtin; refine append_lit rfl _ _ rfl wr.heap.size _ ([] ++ xs) [128 + 8 * n + 4] rfl O1 c1.size _ rfl (by simp; omega) 1 rfl (by decide) rfl (by simp; have := hpq.out; omega) ?_; intro v2 w2 O2 g2 n2)
     have c2 := c1.trans (grown_below g2 c1.size (fun k hk => (O1.row.lt k hk).1))
     have hH2 := hH.below c2 hH.lt
     have q2_2 := hH2.cell (i := 2) (v := .int .u32 m.m) rfl
     have q2_3 := hH2.cell (i := 3) (v := .int .i64 m.b) rfl
     have q2_4 := hH2.cell (i := 4) (v := .int .i64 m.x) rfl
     have q2_5 := hH2.cell (i := 5) (v := .int .u32 m.s) rfl
     go_wp2_with fail
     go_loopw [14, 15] (fun cc ss W => ∃ c s : Int, cc = .int .i64 c ∧ ss = .int .u32 s ∧ (s = 1 ∨ s = 2 ∨ s = 4 ∨ s = 8) ∧ c + scN s = scN m.s ∧ 0 ≤ c ∧ w2 = W) (fun _ ss _ => (intOf ss).toNat)
     case atStart => exact ⟨0, m.s, rfl, rfl, hsc, by omega, by omega, rfl⟩
     case round =>
      obtain ⟨c, s, rfl, rfl, hs4, hcs, hcc, rfl⟩ := hrel
      have hS3 := scN_bd m.s
      have n1 : scN 1 = 0 := rfl
      have n2 : scN 2 = 1 := rfl
      have n4 : scN 4 = 2 := rfl
      have n8 : scN 8 = 3 := rfl
      rcases hs4 with rfl | rfl | rfl | rfl
      rotate_left
      ·have hc1 : IntKind.i64.wrap (c + 1) = c + 1 := by rw [IntKind.wrap_i64]; omega
       have hcs2 : c + 1 + scN 1 = scN m.s := by omega
       clear hcs n1 n2 n4 n8
       go_wp2_with fail
       go_roundw
       case rel => exact ⟨c + 1, 1, rfl, rfl, by decide, hcs2, by omega, trivial⟩
       case measure => simp [intOf]
      ·have hc1 : IntKind.i64.wrap (c + 1) = c + 1 := by rw [IntKind.wrap_i64]; omega
       have hcs2 : c + 1 + scN 2 = scN m.s := by omega
       clear hcs n1 n2 n4 n8
       go_wp2_with fail
       go_roundw
       case rel => exact ⟨c + 1, 2, rfl, rfl, by decide, hcs2, by omega, trivial⟩
       case measure => simp [intOf]
      ·have hc1 : IntKind.i64.wrap (c + 1) = c + 1 := by rw [IntKind.wrap_i64]; omega
       have hcs2 : c + 1 + scN 4 = scN m.s := by omega
       clear hcs n1 n2 n4 n8
       go_wp2_with fail
       go_roundw
       case rel => exact ⟨c + 1, 4, rfl, rfl, by decide, hcs2, by omega, trivial⟩
       case measure => simp [intOf]
      have hce : scN m.s = c := by omega
      clear hcs n1 n2 n4 n8
      have e64 : IntKind.i64.wrap (c * 64) = 64 * c := by rw [IntKind.wrap_i64]; omega
      have e8x := True.intro
      have eo2 : bits .or .i64 (bits .or .i64 (64 * c) (32)) m.b = 64 * c + 32 + m.b := by have := join_i (h := c) (m := 4) (l := m.b) (by omega) (by omega) (by omega); simpa using this
      have em2 : IntKind.u8.wrap (64 * c + 32 + m.b) = 64 * c + 32 + m.b := by rw [IntKind.wrap_u8]; omega
      go_upto_region 26 with (at_builtin; refine append_lit rfl _ _ rfl wr.heap.size _ ([] ++ xs ++ [128 + 8 * n + 4]) [64 * c + 32 + m.b] rfl O2 c2.size _ rfl (by simp; omega) 1 rfl (by decide) rfl (by simp; have := hpq.out; omega) ?_; intro v3 w3 O3 g3 n3)
      have c3 := c2.trans (grown_below g3 c2.size (fun k hk => (O2.row.lt k hk).1))
      have hH3 := hH.below c3 hH.lt
      have q3_2 := hH3.cell (i := 2) (v := .int .u32 m.m) rfl
      have q3_3 := hH3.cell (i := 3) (v := .int .i64 m.b) rfl
      have q3_4 := hH3.cell (i := 4) (v := .int .i64 m.x) rfl
      have q3_5 := hH3.cell (i := 5) (v := .int .u32 m.s) rfl
      go_upto_region 30 with ((with_reducible refine (HP.out w3 wr.heap.size _ ([] ++ xs ++ [128 + 8 * n + 4] ++ [64 * c + 32 + m.b]) O3 c3.size (by simp; have := hpq.out; omega)).mono ?_); rintro e w4 ⟨v4, rfl, O4, g4, n4⟩)
      have c4 := c3.trans (grown_below g4 c3.size (fun k hk => (O3.row.lt k hk).1))
      obtain ⟨ua, uc, hue, -⟩ := id O4.ba
      generalize List.length _ = lq at hue
      subst hue
      go_wp2_with (at_builtin; refine append_lr rfl _ _ rfl W0.heap.size _ _ vs rfl hR hb2 c4 O4 (by simp) rfl (by simp; have := wayL_len m n j hj; omega) ?_; intro v9 w9 R9 c9)
      have hw : wayT m n 2 true = some ([128 + 8 * n + 4] ++ [64 * c + 32 + m.b] ++ wB m.m) := by unfold wayT; rw [if_neg (fun h => absurd h.1 (by omega)), if_neg (fun h => h.2.elim (fun h => absurd h.1 (by decide)) (fun h => absurd h.1 (by decide))), if_neg (by simp)]; simp [hb1, hx2, hce]
      exact ⟨⟨j + 1, vs ++ [.slice ua lq uc], by omega, by go_num, by rw [hsu, hw, List.map_append]; simpa using R9, b.trans c9⟩, hmed⟩
    ·have hs1 : ((j : Int) / 3 == 1) = false := by simpa using hs
     rw [decide_eq_false hs] at hsu stay
     by_cases h4 : m.b = 4
     ·have h41 : (m.b == 4) = true := by simpa using h4
      go_upto_region 14 with fail
      exact ⟨⟨j + 1, vs, by omega, by go_num, stay (by unfold wayT; rw [if_neg (fun h => absurd h.1 (by omega)), if_neg (fun h => h.2.elim (fun h => absurd h.1 (by decide)) (fun h => absurd h.1 (by decide))), if_pos ⟨rfl, .inr h4⟩]), b⟩, hmed⟩
     ·have h41 : (m.b == 4) = false := by simpa using h4
      go_upto_region 15 with (at_builtin; refine append_bytes rfl _ _ rfl wr.heap.size _ [] xs rfl (Own.nil _ _) (Nat.le_refl _) _ _ _ rfl hBw (by simp; have := hpq.out; omega) ?_; intro v1 w1 O1 c1)
      have hH1 := hH.below c1 hH.lt
      have q1_2 := hH1.cell (i := 2) (v := .int .u32 m.m) rfl
      have q1_3 := hH1.cell (i := 3) (v := .int .i64 m.b) rfl
      have q1_4 := hH1.cell (i := 4) (v := .int .i64 m.x) rfl
      have q1_5 := hH1.cell (i := 5) (v := .int .u32 m.s) rfl
      have eo : bits .or .i64 (bits .or .i64 128 (8 * n)) m.b = 128 + 8 * n + m.b := by have := join_i (h := 2) (m := n) (l := m.b) (by decide) hn (by omega); simpa using this
      have em : IntKind.u8.wrap (128 + 8 * n + m.b) = 128 + 8 * n + m.b := by rw [IntKind.wrap_u8]; omega
      go_upto_region 26 with (at_builtin; refine append_lit rfl _ _ rfl wr.heap.size _ ([] ++ xs) [128 + 8 * n + m.b] rfl O1 c1.size _ rfl (by simp; omega) 1 rfl (by decide) rfl (by simp; have := hpq.out; omega) ?_; intro v2 w2 O2 g2 n2)
      have c2 := c1.trans (grown_below g2 c1.size (fun k hk => (O1.row.lt k hk).1))
      have hH2 := hH.below c2 hH.lt
      have q2_2 := hH2.cell (i := 2) (v := .int .u32 m.m) rfl
      have q2_3 := hH2.cell (i := 3) (v := .int .i64 m.b) rfl
      have q2_4 := hH2.cell (i := 4) (v := .int .i64 m.x) rfl
      have q2_5 := hH2.cell (i := 5) (v := .int .u32 m.s) rfl
      go_upto_region 30 with ((with_reducible refine (HP.out w2 wr.heap.size _ ([] ++ xs ++ [128 + 8 * n + m.b]) O2 c2.size (by simp; have := hpq.out; omega)).mono ?_); rintro e w3 ⟨v3, rfl, O3, g3, n3⟩)
      have c3 := c2.trans (grown_below g3 c2.size (fun k hk => (O2.row.lt k hk).1))
      obtain ⟨ua, uc, hue, -⟩ := id O3.ba
      generalize List.length _ = lq at hue
      subst hue
      go_wp2_with (at_builtin; refine append_lr rfl _ _ rfl W0.heap.size _ _ vs rfl hR hb2 c3 O3 (by simp) rfl (by simp; have := wayL_len m n j hj; omega) ?_; intro v9 w9 R9 c9)
      have hw : wayT m n 2 false = some ([128 + 8 * n + m.b] ++ wB m.m) := by unfold wayT; rw [if_neg (fun h => absurd h.1 (by omega)), if_neg (fun h => h.2.elim (fun h => absurd h.1 (by decide)) (fun h => absurd h.1 (by decide))), if_neg (by omega)]; simp [hb1]
      exact ⟨⟨j + 1, vs ++ [.slice ua lq uc], by omega, by go_num, by rw [hsu, hw, List.map_append]; simpa using R9, b.trans c9⟩, hmed⟩
  ·have hz : ((j : Int) < 6) = False := eq_false (by omega)
   obtain rfl : j = 6 := by omega
   go_wp2_with fail
   go_ret
   refine ⟨u7, vs, rfl, ?_, ?_⟩
   ·rw [← wayL_6 m n (by simpa using h1)]
    exact hR.base b0.size
   ·exact b0.trans (b.mono b0.size)
end Go.Proofs.YtcgleggdochbeaaDoor
