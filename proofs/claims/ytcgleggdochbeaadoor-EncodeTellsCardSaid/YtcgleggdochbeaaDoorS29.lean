import Derived.Test.YtcgleggdochbeaaDoorS28
import Derived.Deep.CutRange
namespace Go.Proofs.YtcgleggdochbeaaDoor
open Go.RowKit
set_option maxRecDepth 100000
set_option maxHeartbeats 8000000
set_option linter.unusedVariables false
set_option linter.unusedSimpArgs false
set_option linter.unusedSectionVars false
structure LR (W : World) (N : Nat) (v : Value) (L : List (List Int)) (vs : List Value) : Prop where
 row : W.ownsRow N 28 1 v L.length vs
 el : ∀ i, i < L.length → Own W N (vs.getD i undef) (L.getD i [])
 ne : ∀ i, i < L.length → L.getD i [] ≠ []
 off : ∀ i, i < L.length → (vs.getD i undef).ownBlock ≠ v.ownBlock
 two : ∀ i j, i < L.length → j < L.length → i ≠ j → (vs.getD i undef).ownBlock ≠ (vs.getD j undef).ownBlock
theorem LR.nil (W : World) (N : Nat) : LR W N (.slice none 0 0) [] [] := ⟨World.ownsRow_nil W N _ 1, fun i h => absurd h (by simp), fun i h => absurd h (by simp), fun i h => absurd h (by simp), fun i j h => absurd h (by simp)⟩
theorem row_below {w w' : World} {N n : Nat} {t : TypeId} {v : Value} {vs : List Value} (h : w.ownsRow N t 1 v n vs) (b : Below w.heap.size w w') : w'.ownsRow N t 1 v n vs := by
 obtain ⟨hl, h | ⟨g, cap, cur, rfl, hN, hg, rest⟩⟩ := h
 ·exact ⟨hl, .inl h⟩
 ·exact ⟨hl, .inr ⟨g, cap, cur, rfl, hN, (b.block g (Array.getElem?_eq_some_iff.1 hg).1).trans hg, rest⟩⟩
theorem row_base {w : World} {N M n : Nat} {t : TypeId} {v : Value} {vs : List Value} (h : w.ownsRow N t 1 v n vs) (hM : M ≤ N) : w.ownsRow M t 1 v n vs := by
 obtain ⟨hl, h | ⟨g, cap, cur, rfl, hN, rest⟩⟩ := h
 ·exact ⟨hl, .inl h⟩
 ·exact ⟨hl, .inr ⟨g, cap, cur, rfl, Nat.le_trans hM hN, rest⟩⟩
theorem LR.below {w w' : World} {N : Nat} {v : Value} {L : List (List Int)} {vs : List Value} (h : LR w N v L vs) (b : Below w.heap.size w w') : LR w' N v L vs :=
 ⟨row_below h.row b, fun i hi => (h.el i hi).below b, h.ne, h.off, h.two⟩
theorem LR.base {w : World} {N M : Nat} {v : Value} {L : List (List Int)} {vs : List Value} (h : LR w N v L vs) (hM : M ≤ N) : LR w M v L vs :=
 ⟨row_base h.row hM, fun i hi => (h.el i hi).base hM, h.ne, h.off, h.two⟩
theorem Own.blk {w : World} {N : Nat} {v : Value} {zs : List Int} (h : Own w N v zs) (h0 : zs ≠ []) : ∃ b, v.ownBlock = some b ∧ N ≤ b ∧ b < w.heap.size := by
 obtain ⟨hb, hl, ⟨h, h1⟩ | ⟨g, cap, cur, rfl, hN, hg, rest⟩⟩ := h
 ·exact absurd (List.eq_nil_of_length_eq_zero h1) h0
 ·exact ⟨g, rfl, hN, (Array.getElem?_eq_some_iff.1 hg).1⟩
theorem Own.grown {w w' : World} {N : Nat} {v : Value} {zs : List Int} {r : Option Nat} (h : Own w N v zs) (hg : w.grownBy w' r) (hne : v.ownBlock = none ∨ v.ownBlock ≠ r) : Own w' N v zs :=
 ⟨h.bd, h.row.kept hg hne⟩
theorem append_lrK {o : Oper} {a : Act} {W : World} {K : Act → World → Prop} {Q : Exit → Act → World → Prop} (s x : Operand)
  (ho : o.op = .call { callee := .builtin .append, args := #[s, x], argTypes := #[53, 53] })
  (N : Nat) (v : Value) (L : List (List Int)) (vs : List Value) (hs : a.eval s = v) (h : LR W N v L vs) (hN : N ≤ W.heap.size) {u : Value} {z : List Int} (O : Own W N u z) (hz : z ≠ [])
  (h1 : u.ownBlock ≠ v.ownBlock) (h2 : ∀ i, i < L.length → (vs.getD i undef).ownBlock ≠ u.ownBlock) (g : Nat) (kB : Blk W g 28 #[u]) (hx : a.eval x = .slice (some ⟨g, 0, none⟩) 1 1) (hl : L.length + 1 ≤ 100)
  (k : ∀ v' w', LR w' N v' (L ++ [z]) (vs ++ [u]) → Below N W w' → K (a.put o.dst v') w') : o.wp Tryd.prog a W K Q := by
 obtain ⟨i, hi, hzz, hsz, hby⟩ := info_sl
 have hrow : ∀ k, v.ownBlock = some k → N ≤ k := fun k hk => (h.row.lt k hk).1
 have hl1 : vs.length = L.length := by have := h.row.1; omega
 have hone : u.oneCell' = true := by obtain ⟨a', c', e, -⟩ := O.ba; rw [e]; rfl
 refine wp_append_at W s x 53 ho N 28 i _ 1 24 Tryd.underlying53 hi hzz hsz hby rfl (by decide) v L.length vs hs h.row ⟨g, 0, none⟩ 1 1 [u] hx rfl (fun j y hj => ?_) (by simpa using hone) (by simp only [maxLen]; omega) (by omega) hN (fun v' w' h3 h4 _ h5 => k v' w' ⟨?_, ?_, ?_, ?_, ?_⟩ (grown_below h4 hN hrow))
 ·match j, hj with
  | 0, hj =>
   obtain rfl : u = y := by simpa using hj
   have e : (⟨g, 0, none⟩ : Addr).add 0 = ⟨g, 0, none⟩ := by unfold Addr.add; split <;> simp_all
   rw [e]
   exact kB.cell rfl
  | (j + 1), hj => exact absurd hj (by simp)
 ·rw [List.length_append]; exact h3
 ·intro j hj
  by_cases hj1 : j < L.length
  ·have e1 : (vs ++ [u]).getD j undef = vs.getD j undef := by simp only [List.getD_eq_getElem?_getD]; rw [List.getElem?_append_left (by omega)]
   have e2 : (L ++ [z]).getD j [] = L.getD j [] := by simp only [List.getD_eq_getElem?_getD]; rw [List.getElem?_append_left hj1]
   rw [e1, e2]
   exact (h.el j hj1).grown h4 (.inr (h.off j hj1))
  ·obtain rfl : j = L.length := by rw [List.length_append] at hj; simp at hj; omega
   have e1 : (vs ++ [u]).getD L.length undef = u := by simp only [List.getD_eq_getElem?_getD]; rw [List.getElem?_append_right (by omega), hl1]; simp
   have e2 : (L ++ [z]).getD L.length [] = z := by simp [List.getD_eq_getElem?_getD]
   rw [e1, e2]
   exact O.grown h4 (.inr h1)
 ·intro j hj
  by_cases hj1 : j < L.length
  ·have e2 : (L ++ [z]).getD j [] = L.getD j [] := by simp only [List.getD_eq_getElem?_getD]; rw [List.getElem?_append_left hj1]
   rw [e2]; exact h.ne j hj1
  ·obtain rfl : j = L.length := by rw [List.length_append] at hj; simp at hj; omega
   have e2 : (L ++ [z]).getD L.length [] = z := by simp [List.getD_eq_getElem?_getD]
   rw [e2]; exact hz
 ·intro j hj e
  have old : ∀ b, (w : Value) → w.ownBlock = some b → b < W.heap.size → w.ownBlock ≠ v.ownBlock → w.ownBlock ≠ v'.ownBlock := fun b w h6 h7 h8 h9 => by
   rcases h5 with h5 | h5
   ·rw [h5] at h9; exact h8 h9
   ·rw [h5, h6] at h9; have := Option.some.inj h9; omega
  by_cases hj1 : j < L.length
  ·have e1 : (vs ++ [u]).getD j undef = vs.getD j undef := by simp only [List.getD_eq_getElem?_getD]; rw [List.getElem?_append_left (by omega)]
   rw [e1] at e
   obtain ⟨b, hb, -, hlt⟩ := (h.el j hj1).blk (h.ne j hj1)
   exact old b _ hb hlt (h.off j hj1) e
  ·obtain rfl : j = L.length := by rw [List.length_append] at hj; simp at hj; omega
   have e1 : (vs ++ [u]).getD L.length undef = u := by simp only [List.getD_eq_getElem?_getD]; rw [List.getElem?_append_right (by omega), hl1]; simp
   rw [e1] at e
   obtain ⟨b, hb, -, hlt⟩ := O.blk hz
   exact old b _ hb hlt h1 e
 ·have at1 : ∀ j, j < L.length → (vs ++ [u]).getD j undef = vs.getD j undef := fun j hj => by simp only [List.getD_eq_getElem?_getD]; rw [List.getElem?_append_left (by omega)]
  have at2 : (vs ++ [u]).getD L.length undef = u := by simp only [List.getD_eq_getElem?_getD]; rw [List.getElem?_append_right (by omega), hl1]; simp
  intro p q hp hq hne
  rw [List.length_append] at hp hq
  simp at hp hq
  by_cases hp1 : p < L.length
  ·rw [at1 p hp1]
   by_cases hq1 : q < L.length
   ·rw [at1 q hq1]; exact h.two p q hp1 hq1 hne
   ·obtain rfl : q = L.length := by omega
    rw [at2]; exact h2 p hp1
  ·obtain rfl : p = L.length := by omega
   rw [at2, at1 q (by omega)]
   exact fun e => h2 q (by omega) e.symm
theorem LR.lens {W : World} {N : Nat} {v : Value} {L : List (List Int)} {vs : List Value} (h : LR W N v L vs) : ∃ a cap, v = .slice a L.length cap ∧ (0 < L.length → ∃ B, a = some ⟨B, 0, none⟩ ∧ N ≤ B ∧ B < W.heap.size ∧ ∀ i, i < L.length → W.cell? ⟨B, i, none⟩ = some (vs.getD i undef)) := by
 obtain ⟨hl, ⟨rfl, h0⟩ | ⟨g, cap, cur, rfl, hN, hg, hn, hm, hs, ht⟩⟩ := h.row
 ·exact ⟨none, 0, by rw [h0], fun h => by omega⟩
 ·refine ⟨_, cap, rfl, fun _ => ⟨g, rfl, hN, (Array.getElem?_eq_some_iff.1 hg).1, fun i hi => ?_⟩⟩
  have hi2 : i < vs.length := by omega
  have e : vs[i]? = some (vs.getD i undef) := by simp [List.getD_eq_getElem?_getD, hi2]
  generalize vs.getD i undef = u at *
  rw [← ht, List.getElem?_take, if_pos (by omega)] at e
  simp only [World.cell?, hg]
  simpa using e
theorem LR.swap {W w1 : World} {N B cap : Nat} {v : Value} {L : List (List Int)} {vs : List Value} (h : LR W N v L vs) (hN : N ≤ W.heap.size) (hv : v = .slice (some ⟨B, 0, none⟩) L.length cap) {i : Nat} (hi : i < L.length) {u : Value} {z : List Int}
  (O : Own w1 N u z) (hz : z ≠ []) (g : W.grownBy w1 (vs.getD i undef).ownBlock) (nb : NearB W (vs.getD i undef) u) :
  w1.cell? ⟨B, i, none⟩ = some (vs.getD i undef) ∧ w1.frozen? ⟨B, i, none⟩ = false ∧ LR (w1.setCell ⟨B, i, none⟩ u) N v (L.set i z) (vs.set i u) ∧ Below N W (w1.setCell ⟨B, i, none⟩ u) := by
 obtain ⟨hl, ⟨e, h0⟩ | ⟨g2, cap2, cur, e, hNB, hg, hn, hm, hs, ht⟩⟩ := id h.row
 ·omega
 subst hv
 obtain rfl : B = g2 := by simp only [Value.slice.injEq, Option.some.injEq, Addr.mk.injEq] at e; exact e.1.1
 obtain rfl : cap = cap2 := by simp only [Value.slice.injEq] at e; exact e.2.2
 have hBW : B < W.heap.size := (Array.getElem?_eq_some_iff.1 hg).1
 have ob : (Value.slice (some ⟨B, 0, none⟩) L.length cap).ownBlock = some B := rfl
 have offi := h.off i hi
 rw [ob] at offi
 have hg1 : w1.heap[B]? = some (.cells cur 28 (0, 0)) := (g.block B hBW (fun e => offi e.symm)).trans hg
 have hil : i < vs.length := by omega
 have hcur : cur[i]? = some (vs.getD i undef) := by
  have e2 : vs[i]? = some (vs.getD i undef) := by simp [List.getD_eq_getElem?_getD, hil]
  generalize vs.getD i undef = q at *
  rw [← ht, List.getElem?_take, if_pos (by omega)] at e2
  simpa using e2
 obtain ⟨bi, hbi, hNi, hlti⟩ := (h.el i hi).blk (h.ne i hi)
 obtain ⟨bu, hbu, hNu, hltu⟩ := O.blk hz
 have huB : bu ≠ B := by
  rcases nb with n | ⟨k, n1, n2⟩
  ·rw [n, hbi] at hbu; intro e; rw [hbi] at offi; exact offi (by rw [Option.some.inj hbu, e])
  ·rw [hbu] at n1; have := Option.some.inj n1; omega
 have hset : ∀ b, b ≠ B → (w1.setCell ⟨B, i, none⟩ u).heap[b]? = w1.heap[b]? := fun b hb => Below.heap_setCell _ _ _ _ hb
 refine ⟨by simp only [World.cell?, hg1]; simpa using hcur, by simp only [World.frozen?, hg1]; simp, ⟨?_, ?_, ?_, ?_, ?_⟩, ?_⟩
 ·refine ⟨by simp [hl], .inr ⟨B, cap, cur.setIfInBounds i u, by simp, hNB, heap_set hg1, by simpa using hn, hm, by simpa using hs, ?_⟩⟩
  rw [Array.toList_setIfInBounds, List.length_set, Nat.mul_one, List.take_set]
  rw [Nat.mul_one] at ht
  rw [ht]
 ·intro j hj
  rw [List.length_set] at hj
  by_cases e : j = i
  ·subst e
   have e1 : (vs.set j u).getD j undef = u := by simp [List.getD_eq_getElem?_getD, hil]
   have e2 : (L.set j z).getD j [] = z := by simp [List.getD_eq_getElem?_getD, hi]
   rw [e1, e2]
   refine ⟨O.bd, O.row.1, ?_⟩
   rcases O.row.2 with ⟨-, h0⟩ | ⟨g3, c3, cur3, e3, hN3, hg3, rest⟩
   ·exact absurd (List.eq_nil_of_length_eq_zero h0) hz
   ·have : g3 = bu := by rw [e3] at hbu; exact Option.some.inj hbu
    exact .inr ⟨g3, c3, cur3, e3, hN3, (hset g3 (by rw [this]; exact huB)).trans hg3, rest⟩
  ·have e1 : (vs.set i u).getD j undef = vs.getD j undef := by simp [List.getD_eq_getElem?_getD, List.getElem?_set_ne (fun x => e x.symm)]
   have e2 : (L.set i z).getD j [] = L.getD j [] := by simp [List.getD_eq_getElem?_getD, List.getElem?_set_ne (fun x => e x.symm)]
   rw [e1, e2]
   have O2 := (h.el j hj).grown g (.inr (h.two j i hj hi e))
   obtain ⟨bj, hbj, -, -⟩ := (h.el j hj).blk (h.ne j hj)
   refine ⟨O2.bd, O2.row.1, ?_⟩
   rcases O2.row.2 with ⟨-, h0⟩ | ⟨g3, c3, cur3, e3, hN3, hg3, rest⟩
   ·exact absurd (List.eq_nil_of_length_eq_zero h0) (h.ne j hj)
   ·have hx : some g3 = some bj := by rw [e3] at hbj; exact hbj
    refine .inr ⟨g3, c3, cur3, e3, hN3, (hset g3 (fun x => ?_)).trans hg3, rest⟩
    have h4 := h.off j hj
    rw [ob, hbj, ← hx] at h4
    exact h4 (by rw [x])
 ·intro j hj
  rw [List.length_set] at hj
  by_cases e : j = i
  ·subst e
   have e2 : (L.set j z).getD j [] = z := by simp [List.getD_eq_getElem?_getD, hi]
   rw [e2]; exact hz
  ·have e2 : (L.set i z).getD j [] = L.getD j [] := by simp [List.getD_eq_getElem?_getD, List.getElem?_set_ne (fun x => e x.symm)]
   rw [e2]; exact h.ne j hj
 ·intro j hj
  rw [List.length_set] at hj
  by_cases e : j = i
  ·subst e
   have e1 : (vs.set j u).getD j undef = u := by simp [List.getD_eq_getElem?_getD, hil]
   rw [e1, ob, hbu]
   exact fun x => huB (Option.some.inj x)
  ·have e1 : (vs.set i u).getD j undef = vs.getD j undef := by simp [List.getD_eq_getElem?_getD, List.getElem?_set_ne (fun x => e x.symm)]
   rw [e1]; exact h.off j hj
 ·have at1 : ∀ j, j ≠ i → (vs.set i u).getD j undef = vs.getD j undef := fun j e => by simp [List.getD_eq_getElem?_getD, List.getElem?_set_ne (fun x => e x.symm)]
  have at2 : (vs.set i u).getD i undef = u := by simp [List.getD_eq_getElem?_getD, hil]
  have key : ∀ j, j < L.length → j ≠ i → (vs.getD j undef).ownBlock ≠ u.ownBlock := fun j hj e x => by
   rcases nb with n | ⟨k, n1, n2⟩
   ·exact h.two j i hj hi e (x.trans n)
   ·obtain ⟨bj, hbj, -, hlt⟩ := (h.el j hj).blk (h.ne j hj)
    rw [hbj, n1] at x; have := Option.some.inj x; omega
  intro p q hp hq hne
  rw [List.length_set] at hp hq
  by_cases hp1 : p = i
  ·subst hp1
   rw [at2, at1 q (fun x => hne x.symm)]
   exact fun x => key q hq (fun y => hne y.symm) x.symm
  ·rw [at1 p hp1]
   by_cases hq1 : q = i
   ·subst hq1; rw [at2]; exact key p hp hp1
   ·rw [at1 q hq1]; exact h.two p q hp hq hne
 ·exact (grown_below g hN (fun k hk => by rw [hbi] at hk; have := Option.some.inj hk; omega)).setCell (p := ⟨B, i, none⟩) hNB u
theorem getD_mapdrop {L : List (List Int)} {f : List Int → List Int} {j : Nat} (hj : j < L.length) : ((L.take j).map f ++ L.drop j).getD j [] = L.getD j [] := by
 simp only [List.getD_eq_getElem?_getD]
 rw [List.getElem?_append_right (by simp; omega), List.length_map, List.length_take, Nat.min_eq_left (by omega), Nat.sub_self, List.getElem?_drop, Nat.add_zero]
theorem set_mapdrop {L : List (List Int)} {f : List Int → List Int} {j : Nat} (hj : j < L.length) : ((L.take j).map f ++ L.drop j).set j (f (L.getD j [])) = (L.take (j + 1)).map f ++ L.drop (j + 1) := by
 have hd : L.drop j = L.getD j [] :: L.drop (j + 1) := by rw [List.drop_eq_getElem_cons hj]; simp [List.getD_eq_getElem?_getD, hj]
 rw [List.set_append_right _ _ (by simp; omega), List.length_map, List.length_take, Nat.min_eq_left (by omega), Nat.sub_self, hd, List.set_cons_zero, List.take_add_one, List.map_append]
 simp [List.getD_eq_getElem?_getD, hj]
/-- A number behind each of them. -/
theorem behind_one (N : Nat) (v : Value) (L : List (List Int)) (vs : List Value) (m : Int) (hm : 0 ≤ m ∧ m ≤ 4294967295) (w : World) (h : LR w N v L vs) (hN : N ≤ w.heap.size) (hl : ∀ z ∈ L, z.length ≤ 40) (h10 : L.length ≤ 10) :
  Calls Tryd.prog 51 #[v, .int .u32 m, .int .i64 1] w fun e w' => e = .returned v ∧ (∃ vs', LR w' N v (b1 L m) vs') ∧ Below N w w' := by
 obtain ⟨a, cap, hv, hB⟩ := h.lens
 have ef : b1 L m = L.map (fun z => z ++ [m % 256]) := rfl
 have hmb : 0 ≤ m % 256 ∧ m % 256 ≤ 255 := by omega
 generalize hF : (fun z => z ++ [m % 256]) = F at *
 have Fne : ∀ z, F z ≠ [] := by intro z; rw [← hF]; simp [wB]
 have HF := Lib.hid hF
 have Hef := Lib.hid ef
 subst hv
 clear hF ef
 have HP := Lib.hid (fun W N v xs h hN hl => put_any N v xs m hm W h hN hl)
 go_enter Tryd.func51, Tryd.ntmps51
 go_wp2_with fail
 go_loopw [7] (fun ii W => ∃ (j : Nat) (vs' : List Value), j ≤ L.length ∧ LR W N (.slice a L.length cap) ((L.take j).map F ++ L.drop j) vs' ∧ ii = .int .i64 j ∧ Below N w W) (fun ii _ => L.length - (intOf ii).toNat)
 case atStart => exact ⟨0, vs, by omega, by simpa using h, rfl, Below.refl _ _⟩
 case round =>
  obtain ⟨j, vs', hj, hR, rfl, b⟩ := hrel
  by_cases hlt : j < L.length
  ·have hz : ((j : Int) < (L.length : Int)) = True := eq_true (by omega)
   have hwr : IntKind.i64.wrap ((j : Int) + 1) = (j : Int) + 1 := by rw [IntKind.wrap_i64]; omega
   have hlen : ((L.take j).map F ++ L.drop j).length = L.length := by simp; omega
   have hg := getD_mapdrop (f := F) hlt
   have hs := set_mapdrop (f := F) hlt
   have hjl : j < ((L.take j).map F ++ L.drop j).length := by omega
   obtain ⟨a', cap', hv2, hB2⟩ := hR.lens
   rw [hlen] at hB2 hv2
   obtain ⟨B, rfl, hNB, hBW, hcl⟩ := hB2 (by omega)
   obtain ⟨e1, e2⟩ : a = some ⟨B, 0, none⟩ ∧ cap = cap' := by simp only [Value.slice.injEq] at hv2; exact ⟨hv2.1, hv2.2.2⟩
   subst e1
   subst e2
   have hcj := hcl j hlt
   have O := hR.el j hjl
   rw [hg] at O
   have hne := hl (L.getD j []) (by simp [List.getD_eq_getElem?_getD, hlt])
   have hsw := Lib.hid (fun (w1 : World) (u : Value) (z : List Int) (O : Own w1 N u z) hz g nb => LR.swap (W := wr) (w1 := w1) (B := B) (cap := cap) (i := j) hR (Nat.le_trans hN b.size) (by rw [hlen]) hjl O hz g nb)
   generalize hu : vs'.getD j undef = u at *
   have HO := Lib.hid O
   have HB2 := Lib.hid hB2
   have Hcl := Lib.hid hcl
   have hNW := Nat.le_trans hN b.size
   generalize hzj : L.getD j [] = zj at *
   clear hB2 hcl O
   go_wp2_with (at_builtin; refine append_lit rfl _ _ rfl N _ zj [m % 256] rfl HO.out hNW _ rfl (by simpa using hmb) 1 rfl (by decide) rfl (by omega) ?_; intro u1 w1 O1 g1 n1; obtain ⟨c1, f1, R2, b2⟩ := hsw.out w1 u1 _ O1 (by simp) g1 n1; obtain ⟨ua, uc, hue, -⟩ := O1.ba; generalize List.length _ = lq at hue; subst hue)
   go_roundw
   case rel => exact ⟨j + 1, vs'.set j (.slice ua lq uc), by omega, by rw [← hs, ← show (fun z => z ++ [m % 256]) zj = F zj from congrFun HF.out zj]; exact R2, by go_num, b.trans b2⟩
   case measure => simp [intOf]; omega
  ·have hz : ((j : Int) < (L.length : Int)) = False := eq_false (by omega)
   obtain rfl : j = L.length := by omega
   go_wp2_with fail
   go_ret
   refine ⟨rfl, ⟨vs', ?_⟩, b⟩
   rw [Hef.out]
   simpa using hR
/-- A number behind each of them. -/
theorem behind_four (N : Nat) (v : Value) (L : List (List Int)) (vs : List Value) (m : Int) (hm : 0 ≤ m ∧ m ≤ 4294967295) (w : World) (h : LR w N v L vs) (hN : N ≤ w.heap.size) (hl : ∀ z ∈ L, z.length ≤ 40) (h10 : L.length ≤ 10) :
  Calls Tryd.prog 51 #[v, .int .u32 m, .int .i64 4] w fun e w' => e = .returned v ∧ (∃ vs', LR w' N v (b4 L m) vs') ∧ Below N w w' := by
 obtain ⟨a, cap, hv, hB⟩ := h.lens
 have ef : b4 L m = L.map (fun z => z ++ wB m) := rfl
 have hmb : 0 ≤ m % 256 ∧ m % 256 ≤ 255 := by omega
 generalize hF : (fun z => z ++ wB m) = F at *
 have Fne : ∀ z, F z ≠ [] := by intro z; rw [← hF]; simp [wB]
 have HF := Lib.hid hF
 have Hef := Lib.hid ef
 subst hv
 clear hF ef
 have HP := Lib.hid (fun W N v xs h hN hl => put_any N v xs m hm W h hN hl)
 go_enter Tryd.func51, Tryd.ntmps51
 go_wp2_with fail
 go_loopw [7] (fun ii W => ∃ (j : Nat) (vs' : List Value), j ≤ L.length ∧ LR W N (.slice a L.length cap) ((L.take j).map F ++ L.drop j) vs' ∧ ii = .int .i64 j ∧ Below N w W) (fun ii _ => L.length - (intOf ii).toNat)
 case atStart => exact ⟨0, vs, by omega, by simpa using h, rfl, Below.refl _ _⟩
 case round =>
  obtain ⟨j, vs', hj, hR, rfl, b⟩ := hrel
  by_cases hlt : j < L.length
  ·have hz : ((j : Int) < (L.length : Int)) = True := eq_true (by omega)
   have hwr : IntKind.i64.wrap ((j : Int) + 1) = (j : Int) + 1 := by rw [IntKind.wrap_i64]; omega
   have hlen : ((L.take j).map F ++ L.drop j).length = L.length := by simp; omega
   have hg := getD_mapdrop (f := F) hlt
   have hs := set_mapdrop (f := F) hlt
   have hjl : j < ((L.take j).map F ++ L.drop j).length := by omega
   obtain ⟨a', cap', hv2, hB2⟩ := hR.lens
   rw [hlen] at hB2 hv2
   obtain ⟨B, rfl, hNB, hBW, hcl⟩ := hB2 (by omega)
   obtain ⟨e1, e2⟩ : a = some ⟨B, 0, none⟩ ∧ cap = cap' := by simp only [Value.slice.injEq] at hv2; exact ⟨hv2.1, hv2.2.2⟩
   subst e1
   subst e2
   have hcj := hcl j hlt
   have O := hR.el j hjl
   rw [hg] at O
   have hne := hl (L.getD j []) (by simp [List.getD_eq_getElem?_getD, hlt])
   have hsw := Lib.hid (fun (w1 : World) (u : Value) (z : List Int) (O : Own w1 N u z) hz g nb => LR.swap (W := wr) (w1 := w1) (B := B) (cap := cap) (i := j) hR (Nat.le_trans hN b.size) (by rw [hlen]) hjl O hz g nb)
   generalize hu : vs'.getD j undef = u at *
   have HO := Lib.hid O
   have HB2 := Lib.hid hB2
   have Hcl := Lib.hid hcl
   have hNW := Nat.le_trans hN b.size
   generalize hzj : L.getD j [] = zj at *
   clear hB2 hcl O
   go_wp2_with ((with_reducible refine (HP.out _ N _ zj HO.out hNW (by omega)).mono ?_); rintro e w1 ⟨u1, rfl, O1, g1, n1⟩; obtain ⟨c1, f1, R2, b2⟩ := hsw.out w1 u1 _ O1 (by simp [wB]) g1 n1; obtain ⟨ua, uc, hue, -⟩ := O1.ba; generalize List.length _ = lq at hue; subst hue)
   go_roundw
   case rel => exact ⟨j + 1, vs'.set j (.slice ua lq uc), by omega, by rw [← hs, ← show (fun z => z ++ wB m) zj = F zj from congrFun HF.out zj]; exact R2, by go_num, b.trans b2⟩
   case measure => simp [intOf]; omega
  ·have hz : ((j : Int) < (L.length : Int)) = False := eq_false (by omega)
   obtain rfl : j = L.length := by omega
   go_wp2_with fail
   go_ret
   refine ⟨rfl, ⟨vs', ?_⟩, b⟩
   rw [Hef.out]
   simpa using hR
end Go.Proofs.YtcgleggdochbeaaDoor
