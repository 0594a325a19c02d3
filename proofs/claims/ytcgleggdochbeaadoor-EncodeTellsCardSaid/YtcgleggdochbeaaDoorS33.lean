import Derived.Test.YtcgleggdochbeaaDoorS31
import Derived.Test.YtcgleggdochbeaaDoorS32
namespace Go.Proofs.YtcgleggdochbeaaDoor
open Go.RowKit
set_option maxRecDepth 100000
set_option maxHeartbeats 8000000
set_option linter.unusedVariables false
set_option linter.unusedSimpArgs false
set_option linter.unusedSectionVars false
theorem mod_any {w : World} {p : Value} {xs : List Int} (hp : Bs w p xs) (hx0 : xs ≠ []) (hx9 : xs.length ≤ 9) (m : On) (hm : RMb m) {n : Int} (hn : 0 ≤ n ∧ n < 8) :
  Calls Tryd.prog 52 #[p, opV m, .int .i64 n] w fun e w' => ∃ v vs, e = .returned v ∧ LR w' w.heap.size v (mW xs m n) vs ∧ Below w.heap.size w w' := by
 by_cases h1 : m.k = 1
 ·have hr : 0 ≤ m.r ∧ m.r < 8 := by
   rcases hm.1 with ⟨r, h2, h3, rfl⟩ | ⟨m, b, x, s, rfl, -⟩
   ·exact ⟨h2, h3⟩
   ·cases h1
  have e : mW xs m n = [xs ++ [192 + 8 * n + m.r]] := by unfold mW modT; rw [if_pos h1]; rfl
  rw [e]
  exact mod_reg hp hx0 hx9 m (by simp [h1]) hr hn
 ·have hk : (m.k == 1) = false := by simp [h1]
  by_cases hb : m.b < 0
  ·by_cases hx : 0 ≤ m.x
   ·exact mod_neg_x hp hx0 hx9 m hm hk hn hb hx
   ·exact mod_neg hp hx0 hx9 m hm hk hn hb hx
  ·by_cases hx : 0 ≤ m.x
   ·exact mod_pos_x hp hx0 hx9 m hm hk hn hb hx
   ·exact mod_pos hp hx0 hx9 m hm hk hn hb hx
theorem mW_len (xs : List Int) (o : On) (n : Int) : (mW xs o n).length ≤ 6 := by
 unfold mW
 rw [List.length_map]
 unfold modT
 split
 ·simp
 ·exact List.length_filterMap_le _ _
theorem LR.ll {W : World} {N : Nat} {v : Value} {L : List (List Int)} {vs : List Value} (h : LR W N v L vs) : LL W N v L :=
 ⟨vs, h.row, fun i hi => by
  obtain ⟨a, c, e, A⟩ := (h.el i hi).ba
  obtain ⟨b, hb, -, hlt⟩ := (h.el i hi).blk (h.ne i hi)
  refine ⟨a, c, e, A, .inr ?_⟩
  rcases (h.el i hi).row.2 with ⟨-, h0⟩ | ⟨g, cap, cur, e2, -, hg, -⟩
  ·exact absurd (List.eq_nil_of_length_eq_zero h0) (h.ne i hi)
  ·rw [e2] at e
   simp only [Value.slice.injEq] at e
   refine ⟨g, 0, e.1.symm, (Array.getElem?_eq_some_iff.1 hg).1, fun e3 => ?_⟩
   have := h.off i hi
   rw [e2, e3] at this
   exact this rfl⟩
theorem append_lsK {o : Oper} {a : Act} {w : World} {K : Act → World → Prop} {Q : Exit → Act → World → Prop} (s x : Operand)
  (ho : o.op = .call { callee := .builtin .append, args := #[s, x], argTypes := #[53, 53] })
  (N M : Nat) (v v2 : Value) (L1 L2 : List (List Int)) (vs2 : List Value) (hs : a.eval s = v) (h : LL w N v L1) (hN : N ≤ w.heap.size)
  (hx : a.eval x = v2) (h2 : LR w M v2 L2 vs2) (hM : ∀ k, v.ownBlock = some k → k < M) (h0 : L2 ≠ []) (hl : L1.length + L2.length ≤ 100)
  (k : ∀ v' w', LL w' N v' (L1 ++ L2) → Below N w w' → K (a.put o.dst v') w') : o.wp Tryd.prog a w K Q := by
 obtain ⟨i, hi, hz, hsz, hby⟩ := info_sl
 obtain ⟨vs, hown, hel⟩ := h
 have hrow : ∀ k, v.ownBlock = some k → N ≤ k := fun k hk => (hown.lt k hk).1
 have hl1 : vs.length = L1.length := by have := hown.1; omega
 have hlen2 : vs2.length = L2.length := by have := h2.row.1; omega
 have hel2 := h2.ll
 obtain ⟨a2, c2, rfl, hB⟩ := h2.lens
 obtain ⟨B, rfl, hMB, hBw, hc⟩ := hB (by cases L2 with | nil => exact absurd rfl h0 | cons => simp)
 refine wp_append_at w s x 53 ho N 28 i _ 1 24 Tryd.underlying53 hi hz hsz hby rfl (by decide) v L1.length vs hs hown ⟨B, 0, none⟩ L2.length c2 vs2 hx (by omega) (fun j u hj => ?_) (fun u hu => ?_) (by simp only [maxLen]; omega) (by omega) hN (fun v' w' h3 h4 _ h5 => k v' w' ⟨vs ++ vs2, ?_, fun j hj => ?_⟩ (grown_below h4 hN hrow))
 ·have e : (⟨B, 0, none⟩ : Addr).add j = ⟨B, j, none⟩ := by unfold Addr.add; split <;> simp_all
  have hj2 : j < vs2.length := (List.getElem?_eq_some_iff.1 hj).1
  rw [e, hc j (by omega), ← hj]
  simp [List.getD_eq_getElem?_getD, hj2]
 ·obtain ⟨j, hj, rfl⟩ := List.getElem_of_mem hu
  obtain ⟨a', c', e, -⟩ := (h2.el j (by omega)).ba
  rw [show vs2.getD j undef = vs2[j] by simp [List.getD_eq_getElem?_getD, hj]] at e
  rw [e]; rfl
 ·rw [List.length_append]; exact h3
 ·have hold : ∀ u zs, El w v.ownBlock u zs → El w' v'.ownBlock u zs := fun u zs he => he.move h4.size (fun b hb hne => h4.block b hb (fun e => hne e.symm)) (fun b hb hne he => by
   rcases h5 with h5 | h5
   ·rw [h5] at he; exact hne he
   ·rw [h5] at he; have := Option.some.inj he; omega)
  by_cases hj1 : j < L1.length
  ·have e1 : (vs ++ vs2).getD j undef = vs.getD j undef := by simp only [List.getD_eq_getElem?_getD]; rw [List.getElem?_append_left (by omega)]
   have e2 : (L1 ++ L2).getD j [] = L1.getD j [] := by simp only [List.getD_eq_getElem?_getD]; rw [List.getElem?_append_left hj1]
   rw [e1, e2]
   exact hold _ _ (hel j hj1)
  ·have e1 : (vs ++ vs2).getD j undef = vs2.getD (j - L1.length) undef := by simp only [List.getD_eq_getElem?_getD]; rw [List.getElem?_append_right (by omega), hl1]
   have e2 : (L1 ++ L2).getD j [] = L2.getD (j - L1.length) [] := by simp only [List.getD_eq_getElem?_getD]; rw [List.getElem?_append_right (by omega)]
   rw [e1, e2]
   rw [List.length_append] at hj
   exact hold _ _ (El.own (h2.el _ (by omega)) hM)
theorem append_ls {ops : Array Oper} {rest : List Oper} {o : Oper} {a : Act} {w : World} {Q : Exit → Act → World → Prop} (hgd : o.guard = none) (s x : Operand)
  (ho : o.op = .call { callee := .builtin .append, args := #[s, x], argTypes := #[53, 53] })
  (N M : Nat) (v v2 : Value) (L1 L2 : List (List Int)) (vs2 : List Value) (hs : a.eval s = v) (h : LL w N v L1) (hN : N ≤ w.heap.size)
  (hx : a.eval x = v2) (h2 : LR w M v2 L2 vs2) (hM : ∀ k, v.ownBlock = some k → k < M) (h0 : L2 ≠ []) (hl : L1.length + L2.length ≤ 100)
  (k : ∀ v' w', LL w' N v' (L1 ++ L2) → Below N w w' → wpList Tryd.prog ops Q rest (a.put o.dst v') w') : wpList Tryd.prog ops Q (o :: rest) a w :=
 wpList_plain hgd fun _ hK => append_lsK s x ho N M v v2 L1 L2 vs2 hs h hN hx h2 hM h0 hl (fun v' w' h b => hK _ _ (k v' w' h b))
theorem bs_one (W : World) (z : Int) (hz : 0 ≤ z ∧ z ≤ 255) : Bs (W.alloc (.cells #[.int .u8 z] 5)) (.slice (some ⟨W.heap.size, 0, none⟩) 1 1) [z] :=
 ⟨_, _, rfl, (Blk.new W 5 #[.int .u8 z]).ba (zs := [z]) (wp_bb z hz) rfl (by simp)⟩
theorem bs_two (W : World) (y z : Int) (hy : 0 ≤ y ∧ y ≤ 255) (hz : 0 ≤ z ∧ z ≤ 255) : Bs (W.alloc (.cells #[.int .u8 y, .int .u8 z] 5)) (.slice (some ⟨W.heap.size, 0, none⟩) 2 2) [y, z] :=
 ⟨_, _, rfl, (Blk.new W 5 #[.int .u8 y, .int .u8 z]).ba (zs := [y, z]) (by simp; omega) rfl (by simp)⟩
theorem mW_ne {o : On} (h : RMb o) (xs : List Int) (n : Int) : mW xs o n ≠ [] := by
 obtain ⟨t, ht⟩ := mod_ex h n
 intro e
 have : xs ++ t ∈ mW xs o n := List.mem_map.2 ⟨t, ht, rfl⟩
 rw [e] at this
 cases this
theorem both_ba (ta fr : Int) (hta : 0 ≤ ta ∧ ta ≤ 255) (hfr : 0 ≤ fr ∧ fr ≤ 255) (A B : On) (hb : (B.k == 1) = true) (ha : (A.k == 1) = true) (hA : RMb A) (hBr : 0 ≤ B.r ∧ B.r < 8) (hB : RMb B) (hAr : 0 ≤ A.r ∧ A.r < 8) (w : World) :
  Calls Tryd.prog 53 #[.int .u8 ta, .int .u8 fr, opV A, opV B] w fun e w' => ∃ v, e = .returned v ∧ LL w' w.heap.size v ([] ++ mW [ta] A B.r ++ mW [fr] B A.r) ∧ Below w.heap.size w w' := by
 have hM := Lib.hid (fun (W : World) (p : Value) (z : Int) (hp : Bs W p [z]) (m : On) (hm : RMb m) (n : Int) (hn : 0 ≤ n ∧ n < 8) => mod_any hp (by simp) (by simp) m hm hn)
 go_enter Tryd.func53, Tryd.ntmps53
 go_upto_region 2 with fail
 have b0 : Below w.heap.size w ((w.alloc (.cells (op6 A) 24)).alloc (.cells (op6 B) 24)) := ((Below.refl _ _).alloc (Nat.le_refl _) _).alloc (by simp) _
 have kA : Blk ((w.alloc (.cells (op6 A) 24)).alloc (.cells (op6 B) 24)) w.heap.size 24 (op6 A) := (Blk.new _ _ _).alloc _
 have kB : Blk ((w.alloc (.cells (op6 A) 24)).alloc (.cells (op6 B) 24)) (w.heap.size + 1) 24 (op6 B) := by have := Blk.new (w.alloc (.cells (op6 A) 24)) 24 (op6 B); rwa [World.size_alloc] at this
 generalize (w.alloc (.cells (op6 A) 24)).alloc (.cells (op6 B) 24) = W0 at *
 have cA0 := kA.cell (i := 0) (v := .int .i64 A.k) rfl
 have cB0 := kB.cell (i := 0) (v := .int .i64 B.k) rfl
 have cB1 := kB.cell (i := 1) (v := .int .i64 B.r) rfl
 have cB1' := (kB.alloc (.cells #[.int .u8 ta] 5)).cell (i := 1) (v := .int .i64 B.r) rfl
 have k1 := (Below.refl W0.heap.size W0).alloc (Nat.le_refl _) (.cells #[.int .u8 ta] 5)
 go_upto_region 4 with (first | (with_reducible refine load_opR rfl _ rfl w.heap.size (op6 A) rfl (kA.alloc _) rfl ?_) | ((with_reducible refine (hM.out _ _ ta (bs_one _ ta hta) A hA B.r hBr).mono ?_); rintro e w2 ⟨v1, vs1, rfl, R1, b1⟩) | (at_builtin; refine append_ls rfl _ _ rfl W0.heap.size _ _ _ [] _ vs1 rfl (LL.nil _ _) (Nat.le_trans k1.size b1.size) rfl R1 (fun k hk => by cases hk) (mW_ne hA _ _) (by have := mW_len [ta] A B.r; simp; omega) ?_; intro v3 w3 L3 b3))
 have bx := (k1.trans (b1.mono k1.size)).trans b3
 have cA0 := (kA.below bx kA.lt).cell (i := 0) (v := .int .i64 A.k) rfl
 have kA3 := kA.below bx kA.lt
 have kB3 := kB.below bx kB.lt
 have L30 := L3
 have bx0 := bx
 have cA1' := (kA3.alloc (.cells #[.int .u8 fr] 5)).cell (i := 1) (v := .int .i64 A.r) rfl
 have k3 := (Below.refl w3.heap.size w3).alloc (Nat.le_refl _) (.cells #[.int .u8 fr] 5)
 go_upto_region 6 with (first | (with_reducible refine load_opR rfl _ rfl (w.heap.size + 1) (op6 B) rfl (kB3.alloc _) rfl ?_) | ((with_reducible refine (hM.out _ _ fr (bs_one _ fr hfr) B hB A.r hAr).mono ?_); rintro e w4 ⟨v4, vs4, rfl, R4, b4⟩) | (at_builtin; refine append_ls rfl _ _ rfl W0.heap.size _ _ _ ([] ++ mW [ta] A B.r) _ vs4 rfl (L30.below (k3.trans (b4.mono k3.size))) (Nat.le_trans bx0.size (Nat.le_trans k3.size b4.size)) rfl R4 (fun k hk => Nat.lt_of_lt_of_le (L30.lt hk).2 k3.size) (mW_ne hB _ _) (by have := mW_len [fr] B A.r; have := mW_len [ta] A B.r; simp; omega) ?_; intro v5 w5 L5 b5))
 have bz := bx0.trans (((k3.trans (b4.mono k3.size)).mono bx0.size).trans b5)
 go_wp2_with fail
 go_ret
 exact ⟨_, rfl, by simpa using LL.base L5 b0.size, b0.trans (Below.mono bz b0.size)⟩
theorem both_b (ta fr : Int) (hta : 0 ≤ ta ∧ ta ≤ 255) (hfr : 0 ≤ fr ∧ fr ≤ 255) (A B : On) (hb : (B.k == 1) = true) (ha : (A.k == 1) = false) (hA : RMb A) (hBr : 0 ≤ B.r ∧ B.r < 8) (w : World) :
  Calls Tryd.prog 53 #[.int .u8 ta, .int .u8 fr, opV A, opV B] w fun e w' => ∃ v, e = .returned v ∧ LL w' w.heap.size v ([] ++ mW [ta] A B.r) ∧ Below w.heap.size w w' := by
 have hM := Lib.hid (fun (W : World) (p : Value) (z : Int) (hp : Bs W p [z]) (m : On) (hm : RMb m) (n : Int) (hn : 0 ≤ n ∧ n < 8) => mod_any hp (by simp) (by simp) m hm hn)
 go_enter Tryd.func53, Tryd.ntmps53
 go_upto_region 2 with fail
 have b0 : Below w.heap.size w ((w.alloc (.cells (op6 A) 24)).alloc (.cells (op6 B) 24)) := ((Below.refl _ _).alloc (Nat.le_refl _) _).alloc (by simp) _
 have kA : Blk ((w.alloc (.cells (op6 A) 24)).alloc (.cells (op6 B) 24)) w.heap.size 24 (op6 A) := (Blk.new _ _ _).alloc _
 have kB : Blk ((w.alloc (.cells (op6 A) 24)).alloc (.cells (op6 B) 24)) (w.heap.size + 1) 24 (op6 B) := by have := Blk.new (w.alloc (.cells (op6 A) 24)) 24 (op6 B); rwa [World.size_alloc] at this
 generalize (w.alloc (.cells (op6 A) 24)).alloc (.cells (op6 B) 24) = W0 at *
 have cA0 := kA.cell (i := 0) (v := .int .i64 A.k) rfl
 have cB0 := kB.cell (i := 0) (v := .int .i64 B.k) rfl
 have cB1 := kB.cell (i := 1) (v := .int .i64 B.r) rfl
 have cB1' := (kB.alloc (.cells #[.int .u8 ta] 5)).cell (i := 1) (v := .int .i64 B.r) rfl
 have k1 := (Below.refl W0.heap.size W0).alloc (Nat.le_refl _) (.cells #[.int .u8 ta] 5)
 go_upto_region 4 with (first | (with_reducible refine load_opR rfl _ rfl w.heap.size (op6 A) rfl (kA.alloc _) rfl ?_) | ((with_reducible refine (hM.out _ _ ta (bs_one _ ta hta) A hA B.r hBr).mono ?_); rintro e w2 ⟨v1, vs1, rfl, R1, b1⟩) | (at_builtin; refine append_ls rfl _ _ rfl W0.heap.size _ _ _ [] _ vs1 rfl (LL.nil _ _) (Nat.le_trans k1.size b1.size) rfl R1 (fun k hk => by cases hk) (mW_ne hA _ _) (by have := mW_len [ta] A B.r; simp; omega) ?_; intro v3 w3 L3 b3))
 have bx := (k1.trans (b1.mono k1.size)).trans b3
 have cA0 := (kA.below bx kA.lt).cell (i := 0) (v := .int .i64 A.k) rfl
 go_upto_region 6 with fail
 go_wp2_with fail
 go_ret
 exact ⟨_, rfl, by simpa using LL.base L3 b0.size, b0.trans (Below.mono bx b0.size)⟩
theorem both_a (ta fr : Int) (hta : 0 ≤ ta ∧ ta ≤ 255) (hfr : 0 ≤ fr ∧ fr ≤ 255) (A B : On) (hb : (B.k == 1) = false) (ha : (A.k == 1) = true) (hB : RMb B) (hAr : 0 ≤ A.r ∧ A.r < 8) (w : World) :
  Calls Tryd.prog 53 #[.int .u8 ta, .int .u8 fr, opV A, opV B] w fun e w' => ∃ v, e = .returned v ∧ LL w' w.heap.size v ([] ++ mW [fr] B A.r) ∧ Below w.heap.size w w' := by
 have hM := Lib.hid (fun (W : World) (p : Value) (z : Int) (hp : Bs W p [z]) (m : On) (hm : RMb m) (n : Int) (hn : 0 ≤ n ∧ n < 8) => mod_any hp (by simp) (by simp) m hm hn)
 go_enter Tryd.func53, Tryd.ntmps53
 go_upto_region 2 with fail
 have b0 : Below w.heap.size w ((w.alloc (.cells (op6 A) 24)).alloc (.cells (op6 B) 24)) := ((Below.refl _ _).alloc (Nat.le_refl _) _).alloc (by simp) _
 have kA : Blk ((w.alloc (.cells (op6 A) 24)).alloc (.cells (op6 B) 24)) w.heap.size 24 (op6 A) := (Blk.new _ _ _).alloc _
 have kB : Blk ((w.alloc (.cells (op6 A) 24)).alloc (.cells (op6 B) 24)) (w.heap.size + 1) 24 (op6 B) := by have := Blk.new (w.alloc (.cells (op6 A) 24)) 24 (op6 B); rwa [World.size_alloc] at this
 generalize (w.alloc (.cells (op6 A) 24)).alloc (.cells (op6 B) 24) = W0 at *
 have cA0 := kA.cell (i := 0) (v := .int .i64 A.k) rfl
 have cB0 := kB.cell (i := 0) (v := .int .i64 B.k) rfl
 have cB1 := kB.cell (i := 1) (v := .int .i64 B.r) rfl
 go_upto_region 4 with fail
 have kA3 := kA.below (Below.refl W0.heap.size W0) kA.lt
 have kB3 := kB.below (Below.refl W0.heap.size W0) kB.lt
 have L30 := (LL.nil W0 W0.heap.size)
 have bx0 := (Below.refl W0.heap.size W0)
 have cA1' := (kA3.alloc (.cells #[.int .u8 fr] 5)).cell (i := 1) (v := .int .i64 A.r) rfl
 have k3 := (Below.refl W0.heap.size W0).alloc (Nat.le_refl _) (.cells #[.int .u8 fr] 5)
 go_upto_region 6 with (first | (with_reducible refine load_opR rfl _ rfl (w.heap.size + 1) (op6 B) rfl (kB3.alloc _) rfl ?_) | ((with_reducible refine (hM.out _ _ fr (bs_one _ fr hfr) B hB A.r hAr).mono ?_); rintro e w4 ⟨v4, vs4, rfl, R4, b4⟩) | (at_builtin; refine append_ls rfl _ _ rfl W0.heap.size _ _ _ [] _ vs4 rfl (L30.below (k3.trans (b4.mono k3.size))) (Nat.le_trans bx0.size (Nat.le_trans k3.size b4.size)) rfl R4 (fun k hk => Nat.lt_of_lt_of_le (L30.lt hk).2 k3.size) (mW_ne hB _ _) (by have := mW_len [fr] B A.r; simp; omega) ?_; intro v5 w5 L5 b5))
 have bz := bx0.trans (((k3.trans (b4.mono k3.size)).mono bx0.size).trans b5)
 go_wp2_with fail
 go_ret
 exact ⟨_, rfl, by simpa using LL.base L5 b0.size, b0.trans (Below.mono bz b0.size)⟩
theorem both_any (ta fr : Int) (hta : 0 ≤ ta ∧ ta ≤ 255) (hfr : 0 ≤ fr ∧ fr ≤ 255) (A B : On) (hA : RMb A) (hB : RMb B) (h : A.k = 1 ∨ B.k = 1) (w : World) :
  Calls Tryd.prog 53 #[.int .u8 ta, .int .u8 fr, opV A, opV B] w fun e w' => ∃ v, e = .returned v ∧ LL w' w.heap.size v (bothW ta fr A B) ∧ Below w.heap.size w w' := by
 have reg : ∀ o, RMb o → o.k = 1 → 0 ≤ o.r ∧ o.r < 8 := by
  intro o ho hk
  rcases ho.1 with ⟨r, h2, h3, rfl⟩ | ⟨m, b, x, s, rfl, -⟩
  ·exact ⟨h2, h3⟩
  ·cases hk
 unfold bothW
 by_cases hb : B.k = 1
 ·by_cases ha : A.k = 1
  ·rw [if_pos hb, if_pos ha]
   exact both_ba ta fr hta hfr A B (by simp [hb]) (by simp [ha]) hA (reg B hB hb) hB (reg A hA ha) w
  ·rw [if_pos hb, if_neg ha, List.append_nil]
   exact both_b ta fr hta hfr A B (by simp [hb]) (by simp [ha]) hA (reg B hB hb) w
 ·have ha := h.resolve_right hb
  rw [if_neg hb, if_pos ha]
  exact both_a ta fr hta hfr A B (by simp [hb]) (by simp [ha]) hB (reg A hA ha) w
end Go.Proofs.YtcgleggdochbeaaDoor
