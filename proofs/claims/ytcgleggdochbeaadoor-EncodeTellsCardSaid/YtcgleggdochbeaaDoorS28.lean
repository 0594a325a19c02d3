import Derived.Test.YtcgleggdochbeaaDoorS27
namespace Go.Proofs.YtcgleggdochbeaaDoor
open Go.RowKit
set_option maxRecDepth 100000
set_option linter.unusedVariables false
set_option linter.unusedSimpArgs false
set_option linter.unusedSectionVars false
def NearB (w : World) (v v' : Value) : Prop := v'.ownBlock = v.ownBlock ∨ ∃ k, v'.ownBlock = some k ∧ w.heap.size ≤ k
theorem grown_alloc {w w' : World} {o : Obj} {r : Option Nat} (h : (w.alloc o).grownBy w' r) : w.grownBy w' r :=
 ⟨h.os, h.tape, h.output, by have := h.size; simp at this; omega, fun k hk hr => (h.block k (by simp; omega) hr).trans (Below.heap_alloc _ _ _ hk)⟩
theorem Own.base {w : World} {N M : Nat} {v : Value} {zs : List Int} (h : Own w N v zs) (hM : M ≤ N) : Own w M v zs := by
 obtain ⟨hb, hl, h | ⟨g, cap, cur, rfl, hN, rest⟩⟩ := h
 ·exact ⟨hb, hl, .inl h⟩
 ·exact ⟨hb, hl, .inr ⟨g, cap, cur, rfl, Nat.le_trans hM hN, rest⟩⟩
theorem append_baK {o : Oper} {a : Act} {W : World} {K : Act → World → Prop} {Q : Exit → Act → World → Prop} (s x : Operand)
  (ho : o.op = .call { callee := .builtin .append, args := #[s, x], argTypes := #[28, 28] })
  (N : Nat) (v : Value) (xs ys : List Int) (hs : a.eval s = v) (h : Own W N v xs) (hN : N ≤ W.heap.size)
  (b : Option Addr) (m c : Nat) (hx : a.eval x = .slice b m c) (B : Ba W b m c ys) (h0 : ys ≠ []) (hl : xs.length + ys.length ≤ 100)
  (k : ∀ v' w', Own w' N v' (xs ++ ys) → W.grownBy w' v.ownBlock → NearB W v v' → K (a.put o.dst v') w') : o.wp Tryd.prog a W K Q := by
 obtain ⟨i, hi, hzz, hsz, hby⟩ := info_u8
 obtain ⟨hl2, hb2, hr⟩ := B.row
 rcases hr with e | ⟨g, off, rfl, -, hc⟩
 ·exact absurd e h0
 refine wp_append_at W s x 28 ho N 5 i (.int .u8 0) 1 1 Tryd.underlying28 hi hzz hsz hby rfl (by decide) v xs.length (xs.map (Value.int .u8)) hs h.row ⟨g, off, none⟩ m c (ys.map (Value.int .u8)) hx (by simp [hl2]) (fun j u hj => ?_) (by simp [Value.oneCell']) (by simp only [maxLen]; omega) (by omega) hN (fun v' w' h1 h2 _ h4 => k v' w' ⟨fun z hz => ?_, ?_⟩ h2 ?_)
 ·have hj2 : j < ys.length := by
   have := (List.getElem?_eq_some_iff.1 hj).1
   simpa using this
  have e : (⟨g, off, none⟩ : Addr).add j = ⟨g, off + j, none⟩ := by unfold Addr.add; split <;> simp_all
  rw [e, hc j (by omega), ← hj]
  simp [List.getD_eq_getElem?_getD, hj2]
 ·rcases List.mem_append.1 hz with h3 | h3
  ·exact h.bd z h3
  ·exact hb2 z h3
 ·rw [List.length_append, List.map_append, hl2]; exact h1
 ·rcases h4 with h4 | h4
  ·exact .inl h4
  ·exact .inr ⟨_, h4, Nat.le_refl _⟩
theorem Blk.ba {W : World} {g : Nat} {zs : List Int} (k : Blk W g 5 (zs.map (Value.int .u8)).toArray) (hz : ∀ z ∈ zs, 0 ≤ z ∧ z ≤ 255) {m : Nat} (hm : zs.length = m) (h1 : m ≤ 100) : Ba W (some ⟨g, 0, none⟩) m m zs := by
 subst hm
 refine ⟨⟨rfl, hz, .inr ⟨g, 0, rfl, k.lt, fun i hi => k.cell ?_⟩⟩, Nat.le_refl _, by omega, fun e => by cases e⟩
 rw [Nat.zero_add]
 simp [List.getD_eq_getElem?_getD, hi]
theorem append_litK {o : Oper} {a : Act} {w : World} {K : Act → World → Prop} {Q : Exit → Act → World → Prop} (s x : Operand)
  (ho : o.op = .call { callee := .builtin .append, args := #[s, x], argTypes := #[28, 28] })
  (N : Nat) (v : Value) (xs zs : List Int) (hs : a.eval s = v) (h : Own w N v xs) (hN : N ≤ w.heap.size) (arr : Array Value) (hc : arr = (zs.map (Value.int .u8)).toArray) (hz : ∀ z ∈ zs, 0 ≤ z ∧ z ≤ 255) (m : Nat) (hm : zs.length = m) (h0 : 0 < m)
  (hx : a.eval x = .slice (some ⟨w.heap.size, 0, none⟩) m m) (hl : xs.length + m ≤ 100)
  (k : ∀ v' w', Own w' N v' (xs ++ zs) → w.grownBy w' v.ownBlock → NearB w v v' → K (a.put o.dst v') w') : o.wp Tryd.prog a (w.alloc (.cells arr 5)) K Q := by
 subst hc hm
 have kk := (Below.refl w.heap.size w).alloc (Nat.le_refl _) (.cells (zs.map (Value.int .u8)).toArray 5)
 refine append_baK s x ho N v xs zs hs (h.below kk) (Nat.le_trans hN kk.size) _ _ _ hx ((Blk.new w 5 _).ba hz rfl (by omega)) (fun e => by rw [e] at h0; cases h0) hl (fun v' w' h1 h2 h3 => k v' w' h1 (grown_alloc h2) ?_)
 rcases h3 with h3 | ⟨b, h3, h4⟩
 ·exact .inl h3
 ·exact .inr ⟨b, h3, by simp at h4; omega⟩
theorem append_lit {ops : Array Oper} {rest : List Oper} {o : Oper} {a : Act} {w : World} {Q : Exit → Act → World → Prop} (hgd : o.guard = none) (s x : Operand)
  (ho : o.op = .call { callee := .builtin .append, args := #[s, x], argTypes := #[28, 28] })
  (N : Nat) (v : Value) (xs zs : List Int) (hs : a.eval s = v) (h : Own w N v xs) (hN : N ≤ w.heap.size) (arr : Array Value) (hc : arr = (zs.map (Value.int .u8)).toArray) (hz : ∀ z ∈ zs, 0 ≤ z ∧ z ≤ 255) (m : Nat) (hm : zs.length = m) (h0 : 0 < m)
  (hx : a.eval x = .slice (some ⟨w.heap.size, 0, none⟩) m m) (hl : xs.length + m ≤ 100)
  (k : ∀ v' w', Own w' N v' (xs ++ zs) → w.grownBy w' v.ownBlock → NearB w v v' → wpList Tryd.prog ops Q rest (a.put o.dst v') w') : wpList Tryd.prog ops Q (o :: rest) a (w.alloc (.cells arr 5)) :=
 wpList_plain hgd fun _ hK => append_litK s x ho N v xs zs hs h hN arr hc hz m hm h0 hx hl (fun v' w' h1 h2 h3 => hK _ _ (k v' w' h1 h2 h3))
/-- A word behind bytes of the call's own. -/
theorem put_any (N : Nat) (v : Value) (xs : List Int) (m : Int) (hm : 0 ≤ m ∧ m ≤ 4294967295) (w : World) (h : Own w N v xs) (hN : N ≤ w.heap.size) (hl : xs.length ≤ 50) :
  Calls Tryd.prog 49 #[v, .int .u32 m] w fun e w' => ∃ v', e = .returned v' ∧ Own w' N v' (xs ++ wB m) ∧ w.grownBy w' v.ownBlock ∧ NearB w v v' := by
 have e4 : m / 16777216 % 256 = m / 16777216 := by omega
 have H := Lib.hid h
 clear h
 go_enter Tryd.func49, Tryd.ntmps49
 go_wp2_with (at_builtin; refine append_lit rfl _ _ rfl N _ xs (wB m) rfl H.out hN _ rfl (wB_bd m hm) 4 rfl (by decide) rfl (by omega) ?_; intro v1 w1 O1 g1 n1)
 go_ret
 exact ⟨_, rfl, O1, g1, n1⟩
theorem fits_any (m : Int) (hm : 0 ≤ m ∧ m ≤ 4294967295) (w : World) : Calls Tryd.prog 50 #[.int .u32 m] w fun e w' => e = .returned (.bool (fitI m)) ∧ w = w' := by
 have e1 : wrap32 (IntKind.i8.wrap m) = IntKind.i8.wrap (m % 256) := by
  have w8 : ∀ n : Int, IntKind.i8.wrap n = (n + 128) % 256 - 128 := fun n => by
   simp only [IntKind.wrap, IntKind.bits, IntKind.signed]
   simp
   split <;> omega
  rw [w8, w8]; unfold wrap32; omega
 have e2 : (IntKind.i8.wrap (m % 256) % 4294967296 == m) = fitI m := rfl
 go_enter Tryd.func50, Tryd.ntmps50
 go_wp2
 go_ret
 exact ⟨rfl, rfl⟩
theorem groups_ref (w : World) : Calls Tryd.prog 43 #[] w fun e w' => e = .returned (.agg #[.int .i64 3, .int .i64 4, .int .i64 5, .int .i64 6, .int .i64 7, .int .i64 8, .int .i64 9, .int .i64 10]) ∧ Below w.heap.size w w' := by
 have kx := (Below.refl w.heap.size w).alloc (Nat.le_refl _) (.cells #[.int .i64 3, .int .i64 4, .int .i64 5, .int .i64 6, .int .i64 7, .int .i64 8, .int .i64 9, .int .i64 10] 43)
 go_enter Tryd.func43, Tryd.ntmps43
 go_wp2
 exact bodyPost_ret (v := .agg _) (by simp [results, Tryd.results43, go_sem]) rfl ⟨rfl, kx⟩
theorem shifts_ref (w : World) : Calls Tryd.prog 44 #[] w fun e w' => e = .returned (.agg #[.int .i64 21, .int .i64 22, .int .i64 0, .int .i64 0, .int .i64 23, .int .i64 24, .int .i64 0, .int .i64 25]) ∧ Below w.heap.size w w' := by
 have kx := (Below.refl w.heap.size w).alloc (Nat.le_refl _) (.cells #[.int .i64 21, .int .i64 22, .int .i64 0, .int .i64 0, .int .i64 23, .int .i64 24, .int .i64 0, .int .i64 25] 43)
 go_enter Tryd.func44, Tryd.ntmps44
 go_wp2
 exact bodyPost_ret (v := .agg _) (by simp [results, Tryd.results44, go_sem]) rfl ⟨rfl, kx⟩
theorem numbers_ref (w : World) : Calls Tryd.prog 45 #[] w fun e w' => e = .returned (.agg #[.int .i64 47, .int .i64 48, .int .i64 53, .int .i64 0, .int .i64 49, .int .i64 0, .int .i64 50, .int .i64 0]) ∧ Below w.heap.size w w' := by
 have kx := (Below.refl w.heap.size w).alloc (Nat.le_refl _) (.cells #[.int .i64 47, .int .i64 48, .int .i64 53, .int .i64 0, .int .i64 49, .int .i64 0, .int .i64 50, .int .i64 0] 43)
 go_enter Tryd.func45, Tryd.ntmps45
 go_wp2
 exact bodyPost_ret (v := .agg _) (by simp [results, Tryd.results45, go_sem]) rfl ⟨rfl, kx⟩
theorem reg_ref (r : Int) (w : World) : Calls Tryd.prog 48 #[.int .i64 r] w fun e w' => e = .returned (opV (onReg r)) ∧ Below w.heap.size w w' := by
 have kx := (Below.refl w.heap.size w).alloc (Nat.le_refl _) (.cells (op6 (onReg r)) 24)
 go_enter Tryd.func48, Tryd.ntmps48
 go_wp2
 exact bodyPost_ret (v := opV (onReg r)) (by simp [results, Tryd.results48, go_sem, onReg]) rfl ⟨rfl, kx⟩
def atN : List Int → Int → Int → Int
 | [], _, _ => -1
 | y :: ys, x, i => if y = x then i else atN ys x (i + 1)
theorem at_any (L : List Int) (x : Int) (w : World) (B n : Nat) (t : TypeId) (hn : L.length = n) (h8 : n ≤ 8) (k : Blk w B t (L.map (Value.int .i64)).toArray) :
  Calls Tryd.prog 47 #[.slice (some ⟨B, 0, none⟩) n n, .int .i64 x] w fun e w' => e = .returned (.int .i64 (atN L x 0)) ∧ w' = w := by
 subst hn
 have hc0 : ∀ i, i < L.length → w.cell? ⟨B, i, none⟩ = some (.int .i64 (L.getD i 0)) := fun i hi => k.cell (by simp [List.getD_eq_getElem?_getD, hi])
 have hc := Lib.hid hc0
 clear k hc0
 go_enter Tryd.func47, Tryd.ntmps47
 go_wp2_with fail
 go_loopw [5] (fun ii W => ∃ j : Nat, j ≤ L.length ∧ RowKit.Hid (atN (L.drop j) x j = atN L x 0) ∧ ii = .int .i64 j ∧ W = w) (fun ii _ => L.length - (intOf ii).toNat)
 case atStart => exact ⟨0, by omega, Lib.hid rfl, rfl, rfl⟩
 case round =>
  obtain ⟨j, hj, hR, rfl, rfl⟩ := hrel
  by_cases hlt : j < L.length
  ·have hz : ((j : Int) < (L.length : Int)) = True := eq_true (by omega)
   have hwr : IntKind.i64.wrap ((j : Int) + 1) = (j : Int) + 1 := by rw [IntKind.wrap_i64]; omega
   have hcj := hc.out j hlt
   have hd : L.drop j = L.getD j 0 :: L.drop (j + 1) := by rw [List.drop_eq_getElem_cons hlt]; simp [List.getD_eq_getElem?_getD, hlt]
   have hRR := hR.out
   rw [hd] at hRR
   generalize L.getD j 0 = y at *
   by_cases e : y = x
   ·subst e
    have hR2 : atN L y 0 = j := by rw [← hRR]; unfold atN; rw [if_pos rfl]
    clear hRR hR
    go_wp2_with fail
    go_ret
    exact ⟨by rw [hR2]; rfl, rfl⟩
   ·have e' : (y == x) = false := by simp [e]
    have hR2 := Lib.hid (show atN (L.drop (j + 1)) x ((j : Int) + 1) = atN L x 0 by rw [← hRR]; rw [atN, if_neg e])
    clear hRR hR
    go_wp2_with fail
    go_roundw
    case rel => exact ⟨j + 1, by omega, by rw [show ((j + 1 : Nat) : Int) = (j : Int) + 1 by omega]; exact hR2, by go_num, trivial⟩
    case measure => simp [intOf]; omega
  ·have hz : ((j : Int) < (L.length : Int)) = False := eq_false (by omega)
   obtain rfl : j = L.length := by omega
   have hR2 : atN L x 0 = -1 := by rw [← hR.out, List.drop_length]; rfl
   go_wp2_with fail
   go_ret
   exact ⟨by rw [hR2]; rfl, rfl⟩
end Go.Proofs.YtcgleggdochbeaaDoor
