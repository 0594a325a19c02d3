import Derived.Test.YtcgleggdochbeaaDoorS27
namespace Go.Proofs.YtcgleggdochbeaaDoor
open Go.RowKit
set_option maxRecDepth 100000
set_option maxHeartbeats 8000000
set_option linter.unusedVariables false
set_option linter.unusedSimpArgs false
set_option linter.unusedSectionVars false
theorem Ls.two {W : World} {u1 u2 : Value} {z1 z2 : List Int} (h1 : Bs W u1 z1) (h2 : Bs W u2 z2) : Ls (W.alloc (.cells #[u1, u2] 28)) W.heap.size [u1, u2] [z1, z2] := by
 have k := (Below.refl W.heap.size W).alloc (Nat.le_refl _) (.cells #[u1, u2] 28)
 refine ⟨Blk.new W 28 _, rfl, fun i hi => ?_⟩
 match i, hi with
 | 0, _ => exact h1.below k
 | 1, _ => exact h2.below k
 | (n + 2), h => exact absurd h (by simp)
theorem concat_lit {W : World} {u : Value} {zs : List Int} (h : Bs W u zs) (z : List Int) (hz : Byt z) {cells : Array Value} (hc : cells = (z.map (Value.int .u8)).toArray) {n : Nat} (hn : z.length = n) (hl : z.length + zs.length ≤ 100) :
  Calls Tryd.prog 35 #[.slice (some ⟨W.heap.size + 1, 0, none⟩) 2 2] ((W.alloc (.cells cells 5)).alloc (.cells #[.slice (some ⟨W.heap.size, 0, none⟩) n n, u] 28)) fun e w' => ∃ v, e = .returned v ∧ Own w' (W.heap.size + 2) v (z ++ zs) ∧ Below W.heap.size W w' := by
 subst hn
 have k := (Below.refl W.heap.size W).alloc (Nat.le_refl _) (.cells cells 5)
 have h1 := (Own.new W W.heap.size (Nat.le_refl _) z hz (by omega) hc).bs
 have hL := Ls.two h1 (h.below k)
 have e1 : (W.alloc (.cells cells 5)).heap.size = W.heap.size + 1 := by simp
 rw [e1] at hL
 have k2 := k.alloc k.size (.cells #[.slice (some ⟨W.heap.size, 0, none⟩) z.length z.length, u] 28)
 refine (concat_any hL rfl (by simp) (by simp; omega)).mono ?_
 rintro e w' ⟨v, rfl, o, b⟩
 refine ⟨v, rfl, ?_, k2.trans (b.mono k2.size)⟩
 have e2 : ((W.alloc (.cells cells 5)).alloc (.cells #[.slice (some ⟨W.heap.size, 0, none⟩) z.length z.length, u] 28)).heap.size = W.heap.size + 2 := by simp
 rw [e2] at o
 simpa using o
theorem el2 {W : World} {g : Option Nat} {u1 u2 : Value} {z1 z2 : List Int} (h1 : El W g u1 z1) (h2 : El W g u2 z2) : ∀ i, i < [z1, z2].length → El W g ([u1, u2].getD i undef) ([z1, z2].getD i []) := by
 intro i hi
 match i, hi with
 | 0, _ => exact h1
 | 1, _ => exact h2
 | (n + 2), h => exact absurd h (by simp)
def memT (o : On) (n : Int) (k : Nat) : List (List Int) := (List.range k).flatMap (fun md : Nat => memE o n (md : Int))
theorem memT_succ (o : On) (n : Int) (k : Nat) : memT o n (k + 1) = memT o n k ++ memE o n k := by unfold memT; rw [List.range_succ, List.flatMap_append]; simp
theorem dis_len (o : On) (md : Int) : (disE o md).length ≤ 4 := by unfold disE wB; (repeat' split) <;> simp
theorem sib_bd {o : On} (h : OkO o) : 0 ≤ sibE o ∧ sibE o ≤ 255 := by
 have := h.b
 have := h.x
 have := scN_bd o.s
 unfold sibE; (repeat' split) <;> omega
theorem append_two {ops : Array Oper} {rest : List Oper} {o : Oper} {a : Act} {w : World} {Q : Exit → Act → World → Prop} (hgd : o.guard = none) (s x : Operand)
  (ho : o.op = .call { callee := .builtin .append, args := #[s, x], argTypes := #[53, 53] })
  (N : Nat) (v : Value) (L : List (List Int)) (hs : a.eval s = v) (h : LL w N v L) (hN : N ≤ w.heap.size) {u1 u2 : Value} {z1 z2 : List Int} {M1 M2 : Nat} (o1 : Own w M1 u1 z1) (o2 : Own w M2 u2 z2)
  (h1 : ∀ k, v.ownBlock = some k → k < M1 ∧ k < M2) (hx : a.eval x = .slice (some ⟨w.heap.size, 0, none⟩) 2 2) (hl : L.length + 2 ≤ 100)
  (k : ∀ v' w', LL w' N v' (L ++ [z1, z2]) → Below N w w' → wpList Tryd.prog ops Q rest (a.put o.dst v') w') : wpList Tryd.prog ops Q (o :: rest) a (w.alloc (.cells #[u1, u2] 28)) := by
 have kk := (Below.refl w.heap.size w).alloc (Nat.le_refl _) (.cells #[u1, u2] 28)
 refine append_ll hgd s x ho N v L [z1, z2] hs (h.below kk) (Nat.le_trans hN kk.size) w.heap.size 2 [u1, u2] hx rfl (Ls.two o1.bs o2.bs) (el2 ((El.own o1 (fun k hk => (h1 k hk).1)).below kk) ((El.own o2 (fun k hk => (h1 k hk).2)).below kk)) hl (fun v' w' h2 b => k v' w' h2 ((kk.mono hN).trans b))
theorem append_one {ops : Array Oper} {rest : List Oper} {o : Oper} {a : Act} {w : World} {Q : Exit → Act → World → Prop} (hgd : o.guard = none) (s x : Operand)
  (ho : o.op = .call { callee := .builtin .append, args := #[s, x], argTypes := #[53, 53] })
  (N : Nat) (v : Value) (L : List (List Int)) (hs : a.eval s = v) (h : LL w N v L) (hN : N ≤ w.heap.size) {u1 : Value} {z1 : List Int} {M1 : Nat} (o1 : Own w M1 u1 z1)
  (h1 : ∀ k, v.ownBlock = some k → k < M1) (hx : a.eval x = .slice (some ⟨w.heap.size, 0, none⟩) 1 1) (hl : L.length + 1 ≤ 100)
  (k : ∀ v' w', LL w' N v' (L ++ [z1]) → Below N w w' → wpList Tryd.prog ops Q rest (a.put o.dst v') w') : wpList Tryd.prog ops Q (o :: rest) a (w.alloc (.cells #[u1] 28)) := by
 have kk := (Below.refl w.heap.size w).alloc (Nat.le_refl _) (.cells #[u1] 28)
 have hS : Ls (w.alloc (.cells #[u1] 28)) w.heap.size [u1] [z1] := by
  refine ⟨Blk.new w 28 _, rfl, fun i hi => ?_⟩
  match i, hi with
  | 0, _ => exact o1.bs.below kk
  | (n + 1), h => exact absurd h (by simp)
 have hE : ∀ i, i < [z1].length → El (w.alloc (.cells #[u1] 28)) v.ownBlock ([u1].getD i undef) ([z1].getD i []) := by
  intro i hi
  match i, hi with
  | 0, _ => exact (El.own o1 h1).below kk
  | (n + 1), h => exact absurd h (by simp)
 refine append_ll hgd s x ho N v L [z1] hs (h.below kk) (Nat.le_trans hN kk.size) w.heap.size 1 [u1] hx rfl hS hE hl (fun v' w' h2 b => k v' w' h2 ((kk.mono hN).trans b))
theorem inMemory_bx (o : On) (ho : OkO o) {n : Int} (hn : 0 ≤ n ∧ n < 8) (h1 : (o.b == -1) = true) (h2 : (o.x == -1) = true) (w : World) :
  Calls Tryd.prog 63 #[opV o, .int .i64 n] w fun e w' => ∃ v, e = .returned v ∧ LL w' w.heap.size v (memT o n 3) ∧ Below w.heap.size w w' := by
 have hB := ho.b
 have hX := ho.x
 have hS := scN_bd o.s
 have hbb : 0 ≤ (5 : Int) ∧ (5 : Int) < 8 := by simp at h1; omega
 have hxx : 0 ≤ (4 : Int) ∧ (4 : Int) < 8 := by simp at h2; omega
 have hbE : (if o.b = -1 then (5 : Int) else o.b) = 5 := by simp at h1; simp [h1]
 have hxE : (if o.x = -1 then (4 : Int) else o.x) = 4 := by simp at h2; simp [h2]
 have hsib : 64 * scN o.s + 8 * 4 + 5 = sibE o := by unfold sibE; rw [hbE, hxE]
 have hd := Lib.hid (fun W => distances_any o ho W)
 have he := Lib.hid (fun W => exponent_any o.s W)
 have hj := Lib.hid (fun W => joined_any (h := scN o.s) (m := 4) (l := 5) (by omega) hxx hbb W)
 rw [hsib] at hj
 have HbE := Lib.hid hbE
 clear hsib hbE hxE
 go_enter Tryd.func63, Tryd.ntmps63
 go_upto_region 1 with fail
 go_region
 go_upto_region 6 with fail
 have kw : Below w.heap.size w (w.alloc (.cells (op6 o) 24)).drew := ((Below.refl _ _).alloc (Nat.le_refl _) _).trans (drew_below _ (by simp))
 have kO : Blk (w.alloc (.cells (op6 o) 24)).drew w.heap.size 24 (op6 o) := (Blk.new w 24 (op6 o)).drew
 generalize (w.alloc (.cells (op6 o) 24)).drew = W1 at *
 have c5 := kO.cell (i := 5) (v := .int .u32 o.s) rfl
 go_upto_region 8 with (first | ((with_reducible refine (he.out _).mono ?_); rintro e w1 ⟨rfl, rfl⟩) | ((with_reducible refine (hj.out _).mono ?_); rintro e w2 ⟨rfl, rfl⟩))
 clear c5
 go_wp2_with (first | (with_reducible refine load_opR rfl _ rfl w.heap.size (op6 o) rfl kO (op6_size _) ?_) | ((with_reducible refine (hd.out _).mono ?_); rintro e W2 ⟨v0, v1, v2, rfl, hv0, hv1, hv2, b2⟩; obtain ⟨a0, q0, rfl, -⟩ := id hv0; obtain ⟨a1, q1, rfl, -⟩ := id hv1; obtain ⟨a2, q2, rfl, -⟩ := id hv2))
 have k2 := kw.trans (b2.mono kw.size)
 clear kO hd he hj kw
 go_loopw [8, 27] (fun vv ii W => ∃ k : Nat, k ≤ 3 ∧ ii = .int .i64 k ∧ LL W W2.heap.size vv (memT o n k) ∧ Below W2.heap.size W2 W) (fun _ ii _ => 3 - (intOf ii).toNat)
 case atStart => exact ⟨0, by omega, rfl, LL.nil _ _, Below.refl _ _⟩
 case round =>
  obtain ⟨k, hk, rfl, hL, b⟩ := hrel
  rcases (by omega : k = 0 ∨ k = 1 ∨ k = 2 ∨ k = 3) with rfl | rfl | rfl | rfl
  ·rw [show ((0 : Nat) : Int) = 0 from rfl]
   have hB0 := hv0.below b
   have hn100 := Lib.hid (show (memT o n 0).length + 2 ≤ 100 by unfold memT memE; simp [List.range, List.range.loop])
   have ht := Lib.hid (show memT o n 1 = memT o n 0 ++ [[64 * 0 + 8 * n + 5] ++ disE o 0, [64 * 0 + 8 * n + 4, sibE o] ++ disE o 0] by rw [memT_succ]; unfold memE; rw [HbE.out]; rfl)
   have hj1 := Lib.hid (fun W => joined_any (h := 0) (m := n) (l := 5) (by decide) hn hbb W)
   have hj2 := Lib.hid (fun W => joined_any (h := 0) (m := n) (l := 4) (by decide) hn (by decide) W)
   have hc1 := Lib.hid (fun W (h : Bs W (.slice a0 (disE o 0).length q0) (disE o 0)) => concat_lit h [64 * 0 + 8 * n + 5] (by intro z hz; simp at hz; omega) (cells := #[.int .u8 (64 * 0 + 8 * n + 5)]) rfl rfl (by have := dis_len o 0; simp; omega))
   have hc2 := Lib.hid (fun W (h : Bs W (.slice a0 (disE o 0).length q0) (disE o 0)) => concat_lit h [64 * 0 + 8 * n + 4, sibE o] (by intro z hz; simp at hz; have := sib_bd ho; omega) (cells := #[.int .u8 (64 * 0 + 8 * n + 4), .int .u8 (sibE o)]) rfl rfl (by have := dis_len o 0; simp; omega))
   have hix : ∀ W, (Instr.index 105 (.agg #[.slice a0 (disE o 0).length q0, .slice a1 (disE o 1).length q1, .slice a2 (disE o 2).length q2]) (.int .i64 0)).run Tryd.prog W = .ok (.slice a0 (disE o 0).length q0) W := fun W => by kernel_rfl
   generalize memT o n 0 = T at *
   generalize disE o 0 = D at *
   generalize 64 * 0 + 8 * n + 5 = j1 at *
   generalize 64 * 0 + 8 * n + 4 = j2 at *
   go_wp2_with (first | ((with_reducible refine (hj1.out _).mono ?_); rintro e w1 ⟨rfl, rfl⟩))
   refine (hc1.out _ hB0).mono ?_
   rintro e w3 ⟨x1, rfl, o1, b1⟩
   obtain ⟨y1, r1, rfl, -⟩ := o1.ba
   replace hB0 := hB0.below b1
   have hL3 := hL.below b1
   have hlt := fun k hk => (hL.lt (k := k) hk).2
   clear hc1 hj1
   go_wp2_with (first | ((with_reducible refine (hj2.out _).mono ?_); rintro e w2 ⟨rfl, rfl⟩))
   refine (hc2.out _ hB0).mono ?_
   rintro e w4 ⟨x2, rfl, o2, b2⟩
   obtain ⟨y2, r2, rfl, -⟩ := o2.ba
   clear hc2 hj2
   have hL4 := hL3.below b2
   have o1' := o1.below b2
   have s3 := b1.size
   have b14 := b.trans ((b1.trans (b2.mono b1.size)).mono b.size)
   have hN4 := b14.size
   go_wp2_with (at_builtin; refine append_two rfl _ _ rfl W2.heap.size _ T rfl hL4 hN4 o1' o2 (fun k hk => by have := hlt k hk; omega) rfl hn100.out ?_; intro v5 w5 hL5 b5)
   go_roundw
   case rel => exact ⟨1, by omega, by go_num, by rw [ht.out]; exact hL5, b14.trans b5⟩
   case measure => simp [intOf]
  ·rw [show ((1 : Nat) : Int) = 1 from rfl]
   have hB1 := hv1.below b
   have hn100 := Lib.hid (show (memT o n 1).length + 2 ≤ 100 by unfold memT memE; simp [List.range, List.range.loop])
   have ht := Lib.hid (show memT o n 2 = memT o n 1 ++ [[64 * 1 + 8 * n + 5] ++ disE o 1, [64 * 1 + 8 * n + 4, sibE o] ++ disE o 1] by rw [memT_succ]; unfold memE; rw [HbE.out]; rfl)
   have hj1 := Lib.hid (fun W => joined_any (h := 1) (m := n) (l := 5) (by decide) hn hbb W)
   have hj2 := Lib.hid (fun W => joined_any (h := 1) (m := n) (l := 4) (by decide) hn (by decide) W)
   have hc1 := Lib.hid (fun W (h : Bs W (.slice a1 (disE o 1).length q1) (disE o 1)) => concat_lit h [64 * 1 + 8 * n + 5] (by intro z hz; simp at hz; omega) (cells := #[.int .u8 (64 * 1 + 8 * n + 5)]) rfl rfl (by have := dis_len o 1; simp; omega))
   have hc2 := Lib.hid (fun W (h : Bs W (.slice a1 (disE o 1).length q1) (disE o 1)) => concat_lit h [64 * 1 + 8 * n + 4, sibE o] (by intro z hz; simp at hz; have := sib_bd ho; omega) (cells := #[.int .u8 (64 * 1 + 8 * n + 4), .int .u8 (sibE o)]) rfl rfl (by have := dis_len o 1; simp; omega))
   have hix : ∀ W, (Instr.index 105 (.agg #[.slice a0 (disE o 0).length q0, .slice a1 (disE o 1).length q1, .slice a2 (disE o 2).length q2]) (.int .i64 1)).run Tryd.prog W = .ok (.slice a1 (disE o 1).length q1) W := fun W => by kernel_rfl
   generalize memT o n 1 = T at *
   generalize disE o 1 = D at *
   generalize 64 * 1 + 8 * n + 5 = j1 at *
   generalize 64 * 1 + 8 * n + 4 = j2 at *
   go_wp2_with (first | ((with_reducible refine (hj1.out _).mono ?_); rintro e w1 ⟨rfl, rfl⟩))
   refine (hc1.out _ hB1).mono ?_
   rintro e w3 ⟨x1, rfl, o1, b1⟩
   obtain ⟨y1, r1, rfl, -⟩ := o1.ba
   replace hB1 := hB1.below b1
   have hL3 := hL.below b1
   have hlt := fun k hk => (hL.lt (k := k) hk).2
   clear hc1 hj1
   go_wp2_with (first | ((with_reducible refine (hj2.out _).mono ?_); rintro e w2 ⟨rfl, rfl⟩))
   refine (hc2.out _ hB1).mono ?_
   rintro e w4 ⟨x2, rfl, o2, b2⟩
   obtain ⟨y2, r2, rfl, -⟩ := o2.ba
   clear hc2 hj2
   have hL4 := hL3.below b2
   have o1' := o1.below b2
   have s3 := b1.size
   have b14 := b.trans ((b1.trans (b2.mono b1.size)).mono b.size)
   have hN4 := b14.size
   go_wp2_with (at_builtin; refine append_two rfl _ _ rfl W2.heap.size _ T rfl hL4 hN4 o1' o2 (fun k hk => by have := hlt k hk; omega) rfl hn100.out ?_; intro v5 w5 hL5 b5)
   go_roundw
   case rel => exact ⟨2, by omega, by go_num, by rw [ht.out]; exact hL5, b14.trans b5⟩
   case measure => simp [intOf]
  ·rw [show ((2 : Nat) : Int) = 2 from rfl]
   have hB2 := hv2.below b
   have hn100 := Lib.hid (show (memT o n 2).length + 2 ≤ 100 by unfold memT memE; simp [List.range, List.range.loop])
   have ht := Lib.hid (show memT o n 3 = memT o n 2 ++ [[64 * 2 + 8 * n + 5] ++ disE o 2, [64 * 2 + 8 * n + 4, sibE o] ++ disE o 2] by rw [memT_succ]; unfold memE; rw [HbE.out]; rfl)
   have hj1 := Lib.hid (fun W => joined_any (h := 2) (m := n) (l := 5) (by decide) hn hbb W)
   have hj2 := Lib.hid (fun W => joined_any (h := 2) (m := n) (l := 4) (by decide) hn (by decide) W)
   have hc1 := Lib.hid (fun W (h : Bs W (.slice a2 (disE o 2).length q2) (disE o 2)) => concat_lit h [64 * 2 + 8 * n + 5] (by intro z hz; simp at hz; omega) (cells := #[.int .u8 (64 * 2 + 8 * n + 5)]) rfl rfl (by have := dis_len o 2; simp; omega))
   have hc2 := Lib.hid (fun W (h : Bs W (.slice a2 (disE o 2).length q2) (disE o 2)) => concat_lit h [64 * 2 + 8 * n + 4, sibE o] (by intro z hz; simp at hz; have := sib_bd ho; omega) (cells := #[.int .u8 (64 * 2 + 8 * n + 4), .int .u8 (sibE o)]) rfl rfl (by have := dis_len o 2; simp; omega))
   have hix : ∀ W, (Instr.index 105 (.agg #[.slice a0 (disE o 0).length q0, .slice a1 (disE o 1).length q1, .slice a2 (disE o 2).length q2]) (.int .i64 2)).run Tryd.prog W = .ok (.slice a2 (disE o 2).length q2) W := fun W => by kernel_rfl
   generalize memT o n 2 = T at *
   generalize disE o 2 = D at *
   generalize 64 * 2 + 8 * n + 5 = j1 at *
   generalize 64 * 2 + 8 * n + 4 = j2 at *
   go_wp2_with (first | ((with_reducible refine (hj1.out _).mono ?_); rintro e w1 ⟨rfl, rfl⟩))
   refine (hc1.out _ hB2).mono ?_
   rintro e w3 ⟨x1, rfl, o1, b1⟩
   obtain ⟨y1, r1, rfl, -⟩ := o1.ba
   replace hB2 := hB2.below b1
   have hL3 := hL.below b1
   have hlt := fun k hk => (hL.lt (k := k) hk).2
   clear hc1 hj1
   go_wp2_with (first | ((with_reducible refine (hj2.out _).mono ?_); rintro e w2 ⟨rfl, rfl⟩))
   refine (hc2.out _ hB2).mono ?_
   rintro e w4 ⟨x2, rfl, o2, b2⟩
   obtain ⟨y2, r2, rfl, -⟩ := o2.ba
   clear hc2 hj2
   have hL4 := hL3.below b2
   have o1' := o1.below b2
   have s3 := b1.size
   have b14 := b.trans ((b1.trans (b2.mono b1.size)).mono b.size)
   have hN4 := b14.size
   go_wp2_with (at_builtin; refine append_two rfl _ _ rfl W2.heap.size _ T rfl hL4 hN4 o1' o2 (fun k hk => by have := hlt k hk; omega) rfl hn100.out ?_; intro v5 w5 hL5 b5)
   go_roundw
   case rel => exact ⟨3, by omega, by go_num, by rw [ht.out]; exact hL5, b14.trans b5⟩
   case measure => simp [intOf]
  ·rw [show ((3 : Nat) : Int) = 3 from rfl]
   go_wp2_with fail
   go_ret
   exact ⟨_, rfl, hL.base k2.size, k2.trans (b.mono k2.size)⟩
theorem inMemory_b (o : On) (ho : OkO o) {n : Int} (hn : 0 ≤ n ∧ n < 8) (h1 : (o.b == -1) = true) (h2 : (o.x == -1) = false) (w : World) :
  Calls Tryd.prog 63 #[opV o, .int .i64 n] w fun e w' => ∃ v, e = .returned v ∧ LL w' w.heap.size v (memT o n 3) ∧ Below w.heap.size w w' := by
 have hB := ho.b
 have hX := ho.x
 have hS := scN_bd o.s
 have hbb : 0 ≤ (5 : Int) ∧ (5 : Int) < 8 := by simp at h1; omega
 have hxx : 0 ≤ (o.x : Int) ∧ (o.x : Int) < 8 := by simp at h2; omega
 have hbE : (if o.b = -1 then (5 : Int) else o.b) = 5 := by simp at h1; simp [h1]
 have hxE : (if o.x = -1 then (4 : Int) else o.x) = o.x := by simp at h2; simp [h2]
 have hsib : 64 * scN o.s + 8 * o.x + 5 = sibE o := by unfold sibE; rw [hbE, hxE]
 have hd := Lib.hid (fun W => distances_any o ho W)
 have he := Lib.hid (fun W => exponent_any o.s W)
 have hj := Lib.hid (fun W => joined_any (h := scN o.s) (m := o.x) (l := 5) (by omega) hxx hbb W)
 rw [hsib] at hj
 have HbE := Lib.hid hbE
 clear hsib hbE hxE
 go_enter Tryd.func63, Tryd.ntmps63
 go_upto_region 1 with fail
 go_region
 go_upto_region 6 with fail
 have kw : Below w.heap.size w (w.alloc (.cells (op6 o) 24)).drew := ((Below.refl _ _).alloc (Nat.le_refl _) _).trans (drew_below _ (by simp))
 have kO : Blk (w.alloc (.cells (op6 o) 24)).drew w.heap.size 24 (op6 o) := (Blk.new w 24 (op6 o)).drew
 generalize (w.alloc (.cells (op6 o) 24)).drew = W1 at *
 have c5 := kO.cell (i := 5) (v := .int .u32 o.s) rfl
 go_upto_region 8 with (first | ((with_reducible refine (he.out _).mono ?_); rintro e w1 ⟨rfl, rfl⟩) | ((with_reducible refine (hj.out _).mono ?_); rintro e w2 ⟨rfl, rfl⟩))
 clear c5
 go_wp2_with (first | (with_reducible refine load_opR rfl _ rfl w.heap.size (op6 o) rfl kO (op6_size _) ?_) | ((with_reducible refine (hd.out _).mono ?_); rintro e W2 ⟨v0, v1, v2, rfl, hv0, hv1, hv2, b2⟩; obtain ⟨a0, q0, rfl, -⟩ := id hv0; obtain ⟨a1, q1, rfl, -⟩ := id hv1; obtain ⟨a2, q2, rfl, -⟩ := id hv2))
 have k2 := kw.trans (b2.mono kw.size)
 clear kO hd he hj kw
 go_loopw [8, 27] (fun vv ii W => ∃ k : Nat, k ≤ 3 ∧ ii = .int .i64 k ∧ LL W W2.heap.size vv (memT o n k) ∧ Below W2.heap.size W2 W) (fun _ ii _ => 3 - (intOf ii).toNat)
 case atStart => exact ⟨0, by omega, rfl, LL.nil _ _, Below.refl _ _⟩
 case round =>
  obtain ⟨k, hk, rfl, hL, b⟩ := hrel
  rcases (by omega : k = 0 ∨ k = 1 ∨ k = 2 ∨ k = 3) with rfl | rfl | rfl | rfl
  ·rw [show ((0 : Nat) : Int) = 0 from rfl]
   have hB0 := hv0.below b
   have hn100 := Lib.hid (show (memT o n 0).length + 2 ≤ 100 by unfold memT memE; simp [List.range, List.range.loop])
   have ht := Lib.hid (show memT o n 1 = memT o n 0 ++ [[64 * 0 + 8 * n + 5] ++ disE o 0, [64 * 0 + 8 * n + 4, sibE o] ++ disE o 0] by rw [memT_succ]; unfold memE; rw [HbE.out]; rfl)
   have hj1 := Lib.hid (fun W => joined_any (h := 0) (m := n) (l := 5) (by decide) hn hbb W)
   have hj2 := Lib.hid (fun W => joined_any (h := 0) (m := n) (l := 4) (by decide) hn (by decide) W)
   have hc1 := Lib.hid (fun W (h : Bs W (.slice a0 (disE o 0).length q0) (disE o 0)) => concat_lit h [64 * 0 + 8 * n + 5] (by intro z hz; simp at hz; omega) (cells := #[.int .u8 (64 * 0 + 8 * n + 5)]) rfl rfl (by have := dis_len o 0; simp; omega))
   have hc2 := Lib.hid (fun W (h : Bs W (.slice a0 (disE o 0).length q0) (disE o 0)) => concat_lit h [64 * 0 + 8 * n + 4, sibE o] (by intro z hz; simp at hz; have := sib_bd ho; omega) (cells := #[.int .u8 (64 * 0 + 8 * n + 4), .int .u8 (sibE o)]) rfl rfl (by have := dis_len o 0; simp; omega))
   have hix : ∀ W, (Instr.index 105 (.agg #[.slice a0 (disE o 0).length q0, .slice a1 (disE o 1).length q1, .slice a2 (disE o 2).length q2]) (.int .i64 0)).run Tryd.prog W = .ok (.slice a0 (disE o 0).length q0) W := fun W => by kernel_rfl
   generalize memT o n 0 = T at *
   generalize disE o 0 = D at *
   generalize 64 * 0 + 8 * n + 5 = j1 at *
   generalize 64 * 0 + 8 * n + 4 = j2 at *
   go_wp2_with (first | ((with_reducible refine (hj1.out _).mono ?_); rintro e w1 ⟨rfl, rfl⟩))
   refine (hc1.out _ hB0).mono ?_
   rintro e w3 ⟨x1, rfl, o1, b1⟩
   obtain ⟨y1, r1, rfl, -⟩ := o1.ba
   replace hB0 := hB0.below b1
   have hL3 := hL.below b1
   have hlt := fun k hk => (hL.lt (k := k) hk).2
   clear hc1 hj1
   go_wp2_with (first | ((with_reducible refine (hj2.out _).mono ?_); rintro e w2 ⟨rfl, rfl⟩))
   refine (hc2.out _ hB0).mono ?_
   rintro e w4 ⟨x2, rfl, o2, b2⟩
   obtain ⟨y2, r2, rfl, -⟩ := o2.ba
   clear hc2 hj2
   have hL4 := hL3.below b2
   have o1' := o1.below b2
   have s3 := b1.size
   have b14 := b.trans ((b1.trans (b2.mono b1.size)).mono b.size)
   have hN4 := b14.size
   go_wp2_with (at_builtin; refine append_two rfl _ _ rfl W2.heap.size _ T rfl hL4 hN4 o1' o2 (fun k hk => by have := hlt k hk; omega) rfl hn100.out ?_; intro v5 w5 hL5 b5)
   go_roundw
   case rel => exact ⟨1, by omega, by go_num, by rw [ht.out]; exact hL5, b14.trans b5⟩
   case measure => simp [intOf]
  ·rw [show ((1 : Nat) : Int) = 1 from rfl]
   have hB1 := hv1.below b
   have hn100 := Lib.hid (show (memT o n 1).length + 2 ≤ 100 by unfold memT memE; simp [List.range, List.range.loop])
   have ht := Lib.hid (show memT o n 2 = memT o n 1 ++ [[64 * 1 + 8 * n + 5] ++ disE o 1, [64 * 1 + 8 * n + 4, sibE o] ++ disE o 1] by rw [memT_succ]; unfold memE; rw [HbE.out]; rfl)
   have hj1 := Lib.hid (fun W => joined_any (h := 1) (m := n) (l := 5) (by decide) hn hbb W)
   have hj2 := Lib.hid (fun W => joined_any (h := 1) (m := n) (l := 4) (by decide) hn (by decide) W)
   have hc1 := Lib.hid (fun W (h : Bs W (.slice a1 (disE o 1).length q1) (disE o 1)) => concat_lit h [64 * 1 + 8 * n + 5] (by intro z hz; simp at hz; omega) (cells := #[.int .u8 (64 * 1 + 8 * n + 5)]) rfl rfl (by have := dis_len o 1; simp; omega))
   have hc2 := Lib.hid (fun W (h : Bs W (.slice a1 (disE o 1).length q1) (disE o 1)) => concat_lit h [64 * 1 + 8 * n + 4, sibE o] (by intro z hz; simp at hz; have := sib_bd ho; omega) (cells := #[.int .u8 (64 * 1 + 8 * n + 4), .int .u8 (sibE o)]) rfl rfl (by have := dis_len o 1; simp; omega))
   have hix : ∀ W, (Instr.index 105 (.agg #[.slice a0 (disE o 0).length q0, .slice a1 (disE o 1).length q1, .slice a2 (disE o 2).length q2]) (.int .i64 1)).run Tryd.prog W = .ok (.slice a1 (disE o 1).length q1) W := fun W => by kernel_rfl
   generalize memT o n 1 = T at *
   generalize disE o 1 = D at *
   generalize 64 * 1 + 8 * n + 5 = j1 at *
   generalize 64 * 1 + 8 * n + 4 = j2 at *
   go_wp2_with (first | ((with_reducible refine (hj1.out _).mono ?_); rintro e w1 ⟨rfl, rfl⟩))
   refine (hc1.out _ hB1).mono ?_
   rintro e w3 ⟨x1, rfl, o1, b1⟩
   obtain ⟨y1, r1, rfl, -⟩ := o1.ba
   replace hB1 := hB1.below b1
   have hL3 := hL.below b1
   have hlt := fun k hk => (hL.lt (k := k) hk).2
   clear hc1 hj1
   go_wp2_with (first | ((with_reducible refine (hj2.out _).mono ?_); rintro e w2 ⟨rfl, rfl⟩))
   refine (hc2.out _ hB1).mono ?_
   rintro e w4 ⟨x2, rfl, o2, b2⟩
   obtain ⟨y2, r2, rfl, -⟩ := o2.ba
   clear hc2 hj2
   have hL4 := hL3.below b2
   have o1' := o1.below b2
   have s3 := b1.size
   have b14 := b.trans ((b1.trans (b2.mono b1.size)).mono b.size)
   have hN4 := b14.size
   go_wp2_with (at_builtin; refine append_two rfl _ _ rfl W2.heap.size _ T rfl hL4 hN4 o1' o2 (fun k hk => by have := hlt k hk; omega) rfl hn100.out ?_; intro v5 w5 hL5 b5)
   go_roundw
   case rel => exact ⟨2, by omega, by go_num, by rw [ht.out]; exact hL5, b14.trans b5⟩
   case measure => simp [intOf]
  ·rw [show ((2 : Nat) : Int) = 2 from rfl]
   have hB2 := hv2.below b
   have hn100 := Lib.hid (show (memT o n 2).length + 2 ≤ 100 by unfold memT memE; simp [List.range, List.range.loop])
   have ht := Lib.hid (show memT o n 3 = memT o n 2 ++ [[64 * 2 + 8 * n + 5] ++ disE o 2, [64 * 2 + 8 * n + 4, sibE o] ++ disE o 2] by rw [memT_succ]; unfold memE; rw [HbE.out]; rfl)
   have hj1 := Lib.hid (fun W => joined_any (h := 2) (m := n) (l := 5) (by decide) hn hbb W)
   have hj2 := Lib.hid (fun W => joined_any (h := 2) (m := n) (l := 4) (by decide) hn (by decide) W)
   have hc1 := Lib.hid (fun W (h : Bs W (.slice a2 (disE o 2).length q2) (disE o 2)) => concat_lit h [64 * 2 + 8 * n + 5] (by intro z hz; simp at hz; omega) (cells := #[.int .u8 (64 * 2 + 8 * n + 5)]) rfl rfl (by have := dis_len o 2; simp; omega))
   have hc2 := Lib.hid (fun W (h : Bs W (.slice a2 (disE o 2).length q2) (disE o 2)) => concat_lit h [64 * 2 + 8 * n + 4, sibE o] (by intro z hz; simp at hz; have := sib_bd ho; omega) (cells := #[.int .u8 (64 * 2 + 8 * n + 4), .int .u8 (sibE o)]) rfl rfl (by have := dis_len o 2; simp; omega))
   have hix : ∀ W, (Instr.index 105 (.agg #[.slice a0 (disE o 0).length q0, .slice a1 (disE o 1).length q1, .slice a2 (disE o 2).length q2]) (.int .i64 2)).run Tryd.prog W = .ok (.slice a2 (disE o 2).length q2) W := fun W => by kernel_rfl
   generalize memT o n 2 = T at *
   generalize disE o 2 = D at *
   generalize 64 * 2 + 8 * n + 5 = j1 at *
   generalize 64 * 2 + 8 * n + 4 = j2 at *
   go_wp2_with (first | ((with_reducible refine (hj1.out _).mono ?_); rintro e w1 ⟨rfl, rfl⟩))
   refine (hc1.out _ hB2).mono ?_
   rintro e w3 ⟨x1, rfl, o1, b1⟩
   obtain ⟨y1, r1, rfl, -⟩ := o1.ba
   replace hB2 := hB2.below b1
   have hL3 := hL.below b1
   have hlt := fun k hk => (hL.lt (k := k) hk).2
   clear hc1 hj1
   go_wp2_with (first | ((with_reducible refine (hj2.out _).mono ?_); rintro e w2 ⟨rfl, rfl⟩))
   refine (hc2.out _ hB2).mono ?_
   rintro e w4 ⟨x2, rfl, o2, b2⟩
   obtain ⟨y2, r2, rfl, -⟩ := o2.ba
   clear hc2 hj2
   have hL4 := hL3.below b2
   have o1' := o1.below b2
   have s3 := b1.size
   have b14 := b.trans ((b1.trans (b2.mono b1.size)).mono b.size)
   have hN4 := b14.size
   go_wp2_with (at_builtin; refine append_two rfl _ _ rfl W2.heap.size _ T rfl hL4 hN4 o1' o2 (fun k hk => by have := hlt k hk; omega) rfl hn100.out ?_; intro v5 w5 hL5 b5)
   go_roundw
   case rel => exact ⟨3, by omega, by go_num, by rw [ht.out]; exact hL5, b14.trans b5⟩
   case measure => simp [intOf]
  ·rw [show ((3 : Nat) : Int) = 3 from rfl]
   go_wp2_with fail
   go_ret
   exact ⟨_, rfl, hL.base k2.size, k2.trans (b.mono k2.size)⟩
theorem inMemory_x (o : On) (ho : OkO o) {n : Int} (hn : 0 ≤ n ∧ n < 8) (h1 : (o.b == -1) = false) (h2 : (o.x == -1) = true) (w : World) :
  Calls Tryd.prog 63 #[opV o, .int .i64 n] w fun e w' => ∃ v, e = .returned v ∧ LL w' w.heap.size v (memT o n 3) ∧ Below w.heap.size w w' := by
 have hB := ho.b
 have hX := ho.x
 have hS := scN_bd o.s
 have hbb : 0 ≤ (o.b : Int) ∧ (o.b : Int) < 8 := by simp at h1; omega
 have hxx : 0 ≤ (4 : Int) ∧ (4 : Int) < 8 := by simp at h2; omega
 have hbE : (if o.b = -1 then (5 : Int) else o.b) = o.b := by simp at h1; simp [h1]
 have hxE : (if o.x = -1 then (4 : Int) else o.x) = 4 := by simp at h2; simp [h2]
 have hsib : 64 * scN o.s + 8 * 4 + o.b = sibE o := by unfold sibE; rw [hbE, hxE]
 have hd := Lib.hid (fun W => distances_any o ho W)
 have he := Lib.hid (fun W => exponent_any o.s W)
 have hj := Lib.hid (fun W => joined_any (h := scN o.s) (m := 4) (l := o.b) (by omega) hxx hbb W)
 rw [hsib] at hj
 have HbE := Lib.hid hbE
 clear hsib hbE hxE
 go_enter Tryd.func63, Tryd.ntmps63
 go_upto_region 1 with fail
 go_region
 go_upto_region 6 with fail
 have kw : Below w.heap.size w (w.alloc (.cells (op6 o) 24)).drew := ((Below.refl _ _).alloc (Nat.le_refl _) _).trans (drew_below _ (by simp))
 have kO : Blk (w.alloc (.cells (op6 o) 24)).drew w.heap.size 24 (op6 o) := (Blk.new w 24 (op6 o)).drew
 generalize (w.alloc (.cells (op6 o) 24)).drew = W1 at *
 have c5 := kO.cell (i := 5) (v := .int .u32 o.s) rfl
 go_upto_region 8 with (first | ((with_reducible refine (he.out _).mono ?_); rintro e w1 ⟨rfl, rfl⟩) | ((with_reducible refine (hj.out _).mono ?_); rintro e w2 ⟨rfl, rfl⟩))
 clear c5
 go_wp2_with (first | (with_reducible refine load_opR rfl _ rfl w.heap.size (op6 o) rfl kO (op6_size _) ?_) | ((with_reducible refine (hd.out _).mono ?_); rintro e W2 ⟨v0, v1, v2, rfl, hv0, hv1, hv2, b2⟩; obtain ⟨a0, q0, rfl, -⟩ := id hv0; obtain ⟨a1, q1, rfl, -⟩ := id hv1; obtain ⟨a2, q2, rfl, -⟩ := id hv2))
 have k2 := kw.trans (b2.mono kw.size)
 clear kO hd he hj kw
 go_loopw [8, 27] (fun vv ii W => ∃ k : Nat, k ≤ 3 ∧ ii = .int .i64 k ∧ LL W W2.heap.size vv (memT o n k) ∧ Below W2.heap.size W2 W) (fun _ ii _ => 3 - (intOf ii).toNat)
 case atStart => exact ⟨0, by omega, rfl, LL.nil _ _, Below.refl _ _⟩
 case round =>
  obtain ⟨k, hk, rfl, hL, b⟩ := hrel
  rcases (by omega : k = 0 ∨ k = 1 ∨ k = 2 ∨ k = 3) with rfl | rfl | rfl | rfl
  ·rw [show ((0 : Nat) : Int) = 0 from rfl]
   have hB0 := hv0.below b
   have hn100 := Lib.hid (show (memT o n 0).length + 2 ≤ 100 by unfold memT memE; simp [List.range, List.range.loop])
   have ht := Lib.hid (show memT o n 1 = memT o n 0 ++ [[64 * 0 + 8 * n + o.b] ++ disE o 0, [64 * 0 + 8 * n + 4, sibE o] ++ disE o 0] by rw [memT_succ]; unfold memE; rw [HbE.out]; rfl)
   have hj1 := Lib.hid (fun W => joined_any (h := 0) (m := n) (l := o.b) (by decide) hn hbb W)
   have hj2 := Lib.hid (fun W => joined_any (h := 0) (m := n) (l := 4) (by decide) hn (by decide) W)
   have hc1 := Lib.hid (fun W (h : Bs W (.slice a0 (disE o 0).length q0) (disE o 0)) => concat_lit h [64 * 0 + 8 * n + o.b] (by intro z hz; simp at hz; omega) (cells := #[.int .u8 (64 * 0 + 8 * n + o.b)]) rfl rfl (by have := dis_len o 0; simp; omega))
   have hc2 := Lib.hid (fun W (h : Bs W (.slice a0 (disE o 0).length q0) (disE o 0)) => concat_lit h [64 * 0 + 8 * n + 4, sibE o] (by intro z hz; simp at hz; have := sib_bd ho; omega) (cells := #[.int .u8 (64 * 0 + 8 * n + 4), .int .u8 (sibE o)]) rfl rfl (by have := dis_len o 0; simp; omega))
   have hix : ∀ W, (Instr.index 105 (.agg #[.slice a0 (disE o 0).length q0, .slice a1 (disE o 1).length q1, .slice a2 (disE o 2).length q2]) (.int .i64 0)).run Tryd.prog W = .ok (.slice a0 (disE o 0).length q0) W := fun W => by kernel_rfl
   generalize memT o n 0 = T at *
   generalize disE o 0 = D at *
   generalize 64 * 0 + 8 * n + o.b = j1 at *
   generalize 64 * 0 + 8 * n + 4 = j2 at *
   go_wp2_with (first | ((with_reducible refine (hj1.out _).mono ?_); rintro e w1 ⟨rfl, rfl⟩))
   refine (hc1.out _ hB0).mono ?_
   rintro e w3 ⟨x1, rfl, o1, b1⟩
   obtain ⟨y1, r1, rfl, -⟩ := o1.ba
   replace hB0 := hB0.below b1
   have hL3 := hL.below b1
   have hlt := fun k hk => (hL.lt (k := k) hk).2
   clear hc1 hj1
   go_wp2_with (first | ((with_reducible refine (hj2.out _).mono ?_); rintro e w2 ⟨rfl, rfl⟩))
   refine (hc2.out _ hB0).mono ?_
   rintro e w4 ⟨x2, rfl, o2, b2⟩
   obtain ⟨y2, r2, rfl, -⟩ := o2.ba
   clear hc2 hj2
   have hL4 := hL3.below b2
   have o1' := o1.below b2
   have s3 := b1.size
   have b14 := b.trans ((b1.trans (b2.mono b1.size)).mono b.size)
   have hN4 := b14.size
   go_wp2_with (at_builtin; refine append_two rfl _ _ rfl W2.heap.size _ T rfl hL4 hN4 o1' o2 (fun k hk => by have := hlt k hk; omega) rfl hn100.out ?_; intro v5 w5 hL5 b5)
   go_roundw
   case rel => exact ⟨1, by omega, by go_num, by rw [ht.out]; exact hL5, b14.trans b5⟩
   case measure => simp [intOf]
  ·rw [show ((1 : Nat) : Int) = 1 from rfl]
   have hB1 := hv1.below b
   have hn100 := Lib.hid (show (memT o n 1).length + 2 ≤ 100 by unfold memT memE; simp [List.range, List.range.loop])
   have ht := Lib.hid (show memT o n 2 = memT o n 1 ++ [[64 * 1 + 8 * n + o.b] ++ disE o 1, [64 * 1 + 8 * n + 4, sibE o] ++ disE o 1] by rw [memT_succ]; unfold memE; rw [HbE.out]; rfl)
   have hj1 := Lib.hid (fun W => joined_any (h := 1) (m := n) (l := o.b) (by decide) hn hbb W)
   have hj2 := Lib.hid (fun W => joined_any (h := 1) (m := n) (l := 4) (by decide) hn (by decide) W)
   have hc1 := Lib.hid (fun W (h : Bs W (.slice a1 (disE o 1).length q1) (disE o 1)) => concat_lit h [64 * 1 + 8 * n + o.b] (by intro z hz; simp at hz; omega) (cells := #[.int .u8 (64 * 1 + 8 * n + o.b)]) rfl rfl (by have := dis_len o 1; simp; omega))
   have hc2 := Lib.hid (fun W (h : Bs W (.slice a1 (disE o 1).length q1) (disE o 1)) => concat_lit h [64 * 1 + 8 * n + 4, sibE o] (by intro z hz; simp at hz; have := sib_bd ho; omega) (cells := #[.int .u8 (64 * 1 + 8 * n + 4), .int .u8 (sibE o)]) rfl rfl (by have := dis_len o 1; simp; omega))
   have hix : ∀ W, (Instr.index 105 (.agg #[.slice a0 (disE o 0).length q0, .slice a1 (disE o 1).length q1, .slice a2 (disE o 2).length q2]) (.int .i64 1)).run Tryd.prog W = .ok (.slice a1 (disE o 1).length q1) W := fun W => by kernel_rfl
   generalize memT o n 1 = T at *
   generalize disE o 1 = D at *
   generalize 64 * 1 + 8 * n + o.b = j1 at *
   generalize 64 * 1 + 8 * n + 4 = j2 at *
   go_wp2_with (first | ((with_reducible refine (hj1.out _).mono ?_); rintro e w1 ⟨rfl, rfl⟩))
   refine (hc1.out _ hB1).mono ?_
   rintro e w3 ⟨x1, rfl, o1, b1⟩
   obtain ⟨y1, r1, rfl, -⟩ := o1.ba
   replace hB1 := hB1.below b1
   have hL3 := hL.below b1
   have hlt := fun k hk => (hL.lt (k := k) hk).2
   clear hc1 hj1
   go_wp2_with (first | ((with_reducible refine (hj2.out _).mono ?_); rintro e w2 ⟨rfl, rfl⟩))
   refine (hc2.out _ hB1).mono ?_
   rintro e w4 ⟨x2, rfl, o2, b2⟩
   obtain ⟨y2, r2, rfl, -⟩ := o2.ba
   clear hc2 hj2
   have hL4 := hL3.below b2
   have o1' := o1.below b2
   have s3 := b1.size
   have b14 := b.trans ((b1.trans (b2.mono b1.size)).mono b.size)
   have hN4 := b14.size
   go_wp2_with (at_builtin; refine append_two rfl _ _ rfl W2.heap.size _ T rfl hL4 hN4 o1' o2 (fun k hk => by have := hlt k hk; omega) rfl hn100.out ?_; intro v5 w5 hL5 b5)
   go_roundw
   case rel => exact ⟨2, by omega, by go_num, by rw [ht.out]; exact hL5, b14.trans b5⟩
   case measure => simp [intOf]
  ·rw [show ((2 : Nat) : Int) = 2 from rfl]
   have hB2 := hv2.below b
   have hn100 := Lib.hid (show (memT o n 2).length + 2 ≤ 100 by unfold memT memE; simp [List.range, List.range.loop])
   have ht := Lib.hid (show memT o n 3 = memT o n 2 ++ [[64 * 2 + 8 * n + o.b] ++ disE o 2, [64 * 2 + 8 * n + 4, sibE o] ++ disE o 2] by rw [memT_succ]; unfold memE; rw [HbE.out]; rfl)
   have hj1 := Lib.hid (fun W => joined_any (h := 2) (m := n) (l := o.b) (by decide) hn hbb W)
   have hj2 := Lib.hid (fun W => joined_any (h := 2) (m := n) (l := 4) (by decide) hn (by decide) W)
   have hc1 := Lib.hid (fun W (h : Bs W (.slice a2 (disE o 2).length q2) (disE o 2)) => concat_lit h [64 * 2 + 8 * n + o.b] (by intro z hz; simp at hz; omega) (cells := #[.int .u8 (64 * 2 + 8 * n + o.b)]) rfl rfl (by have := dis_len o 2; simp; omega))
   have hc2 := Lib.hid (fun W (h : Bs W (.slice a2 (disE o 2).length q2) (disE o 2)) => concat_lit h [64 * 2 + 8 * n + 4, sibE o] (by intro z hz; simp at hz; have := sib_bd ho; omega) (cells := #[.int .u8 (64 * 2 + 8 * n + 4), .int .u8 (sibE o)]) rfl rfl (by have := dis_len o 2; simp; omega))
   have hix : ∀ W, (Instr.index 105 (.agg #[.slice a0 (disE o 0).length q0, .slice a1 (disE o 1).length q1, .slice a2 (disE o 2).length q2]) (.int .i64 2)).run Tryd.prog W = .ok (.slice a2 (disE o 2).length q2) W := fun W => by kernel_rfl
   generalize memT o n 2 = T at *
   generalize disE o 2 = D at *
   generalize 64 * 2 + 8 * n + o.b = j1 at *
   generalize 64 * 2 + 8 * n + 4 = j2 at *
   go_wp2_with (first | ((with_reducible refine (hj1.out _).mono ?_); rintro e w1 ⟨rfl, rfl⟩))
   refine (hc1.out _ hB2).mono ?_
   rintro e w3 ⟨x1, rfl, o1, b1⟩
   obtain ⟨y1, r1, rfl, -⟩ := o1.ba
   replace hB2 := hB2.below b1
   have hL3 := hL.below b1
   have hlt := fun k hk => (hL.lt (k := k) hk).2
   clear hc1 hj1
   go_wp2_with (first | ((with_reducible refine (hj2.out _).mono ?_); rintro e w2 ⟨rfl, rfl⟩))
   refine (hc2.out _ hB2).mono ?_
   rintro e w4 ⟨x2, rfl, o2, b2⟩
   obtain ⟨y2, r2, rfl, -⟩ := o2.ba
   clear hc2 hj2
   have hL4 := hL3.below b2
   have o1' := o1.below b2
   have s3 := b1.size
   have b14 := b.trans ((b1.trans (b2.mono b1.size)).mono b.size)
   have hN4 := b14.size
   go_wp2_with (at_builtin; refine append_two rfl _ _ rfl W2.heap.size _ T rfl hL4 hN4 o1' o2 (fun k hk => by have := hlt k hk; omega) rfl hn100.out ?_; intro v5 w5 hL5 b5)
   go_roundw
   case rel => exact ⟨3, by omega, by go_num, by rw [ht.out]; exact hL5, b14.trans b5⟩
   case measure => simp [intOf]
  ·rw [show ((3 : Nat) : Int) = 3 from rfl]
   go_wp2_with fail
   go_ret
   exact ⟨_, rfl, hL.base k2.size, k2.trans (b.mono k2.size)⟩
theorem inMemory_n (o : On) (ho : OkO o) {n : Int} (hn : 0 ≤ n ∧ n < 8) (h1 : (o.b == -1) = false) (h2 : (o.x == -1) = false) (w : World) :
  Calls Tryd.prog 63 #[opV o, .int .i64 n] w fun e w' => ∃ v, e = .returned v ∧ LL w' w.heap.size v (memT o n 3) ∧ Below w.heap.size w w' := by
 have hB := ho.b
 have hX := ho.x
 have hS := scN_bd o.s
 have hbb : 0 ≤ (o.b : Int) ∧ (o.b : Int) < 8 := by simp at h1; omega
 have hxx : 0 ≤ (o.x : Int) ∧ (o.x : Int) < 8 := by simp at h2; omega
 have hbE : (if o.b = -1 then (5 : Int) else o.b) = o.b := by simp at h1; simp [h1]
 have hxE : (if o.x = -1 then (4 : Int) else o.x) = o.x := by simp at h2; simp [h2]
 have hsib : 64 * scN o.s + 8 * o.x + o.b = sibE o := by unfold sibE; rw [hbE, hxE]
 have hd := Lib.hid (fun W => distances_any o ho W)
 have he := Lib.hid (fun W => exponent_any o.s W)
 have hj := Lib.hid (fun W => joined_any (h := scN o.s) (m := o.x) (l := o.b) (by omega) hxx hbb W)
 rw [hsib] at hj
 have HbE := Lib.hid hbE
 clear hsib hbE hxE
 go_enter Tryd.func63, Tryd.ntmps63
 go_upto_region 1 with fail
 go_region
 go_upto_region 6 with fail
 have kw : Below w.heap.size w (w.alloc (.cells (op6 o) 24)).drew := ((Below.refl _ _).alloc (Nat.le_refl _) _).trans (drew_below _ (by simp))
 have kO : Blk (w.alloc (.cells (op6 o) 24)).drew w.heap.size 24 (op6 o) := (Blk.new w 24 (op6 o)).drew
 generalize (w.alloc (.cells (op6 o) 24)).drew = W1 at *
 have c5 := kO.cell (i := 5) (v := .int .u32 o.s) rfl
 go_upto_region 8 with (first | ((with_reducible refine (he.out _).mono ?_); rintro e w1 ⟨rfl, rfl⟩) | ((with_reducible refine (hj.out _).mono ?_); rintro e w2 ⟨rfl, rfl⟩))
 clear c5
 go_wp2_with (first | (with_reducible refine load_opR rfl _ rfl w.heap.size (op6 o) rfl kO (op6_size _) ?_) | ((with_reducible refine (hd.out _).mono ?_); rintro e W2 ⟨v0, v1, v2, rfl, hv0, hv1, hv2, b2⟩; obtain ⟨a0, q0, rfl, -⟩ := id hv0; obtain ⟨a1, q1, rfl, -⟩ := id hv1; obtain ⟨a2, q2, rfl, -⟩ := id hv2))
 have k2 := kw.trans (b2.mono kw.size)
 clear kO hd he hj kw
 go_loopw [8, 27] (fun vv ii W => ∃ k : Nat, k ≤ 3 ∧ ii = .int .i64 k ∧ LL W W2.heap.size vv (memT o n k) ∧ Below W2.heap.size W2 W) (fun _ ii _ => 3 - (intOf ii).toNat)
 case atStart => exact ⟨0, by omega, rfl, LL.nil _ _, Below.refl _ _⟩
 case round =>
  obtain ⟨k, hk, rfl, hL, b⟩ := hrel
  rcases (by omega : k = 0 ∨ k = 1 ∨ k = 2 ∨ k = 3) with rfl | rfl | rfl | rfl
  ·rw [show ((0 : Nat) : Int) = 0 from rfl]
   have hB0 := hv0.below b
   have hn100 := Lib.hid (show (memT o n 0).length + 2 ≤ 100 by unfold memT memE; simp [List.range, List.range.loop])
   have ht := Lib.hid (show memT o n 1 = memT o n 0 ++ [[64 * 0 + 8 * n + o.b] ++ disE o 0, [64 * 0 + 8 * n + 4, sibE o] ++ disE o 0] by rw [memT_succ]; unfold memE; rw [HbE.out]; rfl)
   have hj1 := Lib.hid (fun W => joined_any (h := 0) (m := n) (l := o.b) (by decide) hn hbb W)
   have hj2 := Lib.hid (fun W => joined_any (h := 0) (m := n) (l := 4) (by decide) hn (by decide) W)
   have hc1 := Lib.hid (fun W (h : Bs W (.slice a0 (disE o 0).length q0) (disE o 0)) => concat_lit h [64 * 0 + 8 * n + o.b] (by intro z hz; simp at hz; omega) (cells := #[.int .u8 (64 * 0 + 8 * n + o.b)]) rfl rfl (by have := dis_len o 0; simp; omega))
   have hc2 := Lib.hid (fun W (h : Bs W (.slice a0 (disE o 0).length q0) (disE o 0)) => concat_lit h [64 * 0 + 8 * n + 4, sibE o] (by intro z hz; simp at hz; have := sib_bd ho; omega) (cells := #[.int .u8 (64 * 0 + 8 * n + 4), .int .u8 (sibE o)]) rfl rfl (by have := dis_len o 0; simp; omega))
   have hix : ∀ W, (Instr.index 105 (.agg #[.slice a0 (disE o 0).length q0, .slice a1 (disE o 1).length q1, .slice a2 (disE o 2).length q2]) (.int .i64 0)).run Tryd.prog W = .ok (.slice a0 (disE o 0).length q0) W := fun W => by kernel_rfl
   generalize memT o n 0 = T at *
   generalize disE o 0 = D at *
   generalize 64 * 0 + 8 * n + o.b = j1 at *
   generalize 64 * 0 + 8 * n + 4 = j2 at *
   go_wp2_with (first | ((with_reducible refine (hj1.out _).mono ?_); rintro e w1 ⟨rfl, rfl⟩))
   refine (hc1.out _ hB0).mono ?_
   rintro e w3 ⟨x1, rfl, o1, b1⟩
   obtain ⟨y1, r1, rfl, -⟩ := o1.ba
   replace hB0 := hB0.below b1
   have hL3 := hL.below b1
   have hlt := fun k hk => (hL.lt (k := k) hk).2
   clear hc1 hj1
   go_wp2_with (first | ((with_reducible refine (hj2.out _).mono ?_); rintro e w2 ⟨rfl, rfl⟩))
   refine (hc2.out _ hB0).mono ?_
   rintro e w4 ⟨x2, rfl, o2, b2⟩
   obtain ⟨y2, r2, rfl, -⟩ := o2.ba
   clear hc2 hj2
   have hL4 := hL3.below b2
   have o1' := o1.below b2
   have s3 := b1.size
   have b14 := b.trans ((b1.trans (b2.mono b1.size)).mono b.size)
   have hN4 := b14.size
   go_wp2_with (at_builtin; refine append_two rfl _ _ rfl W2.heap.size _ T rfl hL4 hN4 o1' o2 (fun k hk => by have := hlt k hk; omega) rfl hn100.out ?_; intro v5 w5 hL5 b5)
   go_roundw
   case rel => exact ⟨1, by omega, by go_num, by rw [ht.out]; exact hL5, b14.trans b5⟩
   case measure => simp [intOf]
  ·rw [show ((1 : Nat) : Int) = 1 from rfl]
   have hB1 := hv1.below b
   have hn100 := Lib.hid (show (memT o n 1).length + 2 ≤ 100 by unfold memT memE; simp [List.range, List.range.loop])
   have ht := Lib.hid (show memT o n 2 = memT o n 1 ++ [[64 * 1 + 8 * n + o.b] ++ disE o 1, [64 * 1 + 8 * n + 4, sibE o] ++ disE o 1] by rw [memT_succ]; unfold memE; rw [HbE.out]; rfl)
   have hj1 := Lib.hid (fun W => joined_any (h := 1) (m := n) (l := o.b) (by decide) hn hbb W)
   have hj2 := Lib.hid (fun W => joined_any (h := 1) (m := n) (l := 4) (by decide) hn (by decide) W)
   have hc1 := Lib.hid (fun W (h : Bs W (.slice a1 (disE o 1).length q1) (disE o 1)) => concat_lit h [64 * 1 + 8 * n + o.b] (by intro z hz; simp at hz; omega) (cells := #[.int .u8 (64 * 1 + 8 * n + o.b)]) rfl rfl (by have := dis_len o 1; simp; omega))
   have hc2 := Lib.hid (fun W (h : Bs W (.slice a1 (disE o 1).length q1) (disE o 1)) => concat_lit h [64 * 1 + 8 * n + 4, sibE o] (by intro z hz; simp at hz; have := sib_bd ho; omega) (cells := #[.int .u8 (64 * 1 + 8 * n + 4), .int .u8 (sibE o)]) rfl rfl (by have := dis_len o 1; simp; omega))
   have hix : ∀ W, (Instr.index 105 (.agg #[.slice a0 (disE o 0).length q0, .slice a1 (disE o 1).length q1, .slice a2 (disE o 2).length q2]) (.int .i64 1)).run Tryd.prog W = .ok (.slice a1 (disE o 1).length q1) W := fun W => by kernel_rfl
   generalize memT o n 1 = T at *
   generalize disE o 1 = D at *
   generalize 64 * 1 + 8 * n + o.b = j1 at *
   generalize 64 * 1 + 8 * n + 4 = j2 at *
   go_wp2_with (first | ((with_reducible refine (hj1.out _).mono ?_); rintro e w1 ⟨rfl, rfl⟩))
   refine (hc1.out _ hB1).mono ?_
   rintro e w3 ⟨x1, rfl, o1, b1⟩
   obtain ⟨y1, r1, rfl, -⟩ := o1.ba
   replace hB1 := hB1.below b1
   have hL3 := hL.below b1
   have hlt := fun k hk => (hL.lt (k := k) hk).2
   clear hc1 hj1
   go_wp2_with (first | ((with_reducible refine (hj2.out _).mono ?_); rintro e w2 ⟨rfl, rfl⟩))
   refine (hc2.out _ hB1).mono ?_
   rintro e w4 ⟨x2, rfl, o2, b2⟩
   obtain ⟨y2, r2, rfl, -⟩ := o2.ba
   clear hc2 hj2
   have hL4 := hL3.below b2
   have o1' := o1.below b2
   have s3 := b1.size
   have b14 := b.trans ((b1.trans (b2.mono b1.size)).mono b.size)
   have hN4 := b14.size
   go_wp2_with (at_builtin; refine append_two rfl _ _ rfl W2.heap.size _ T rfl hL4 hN4 o1' o2 (fun k hk => by have := hlt k hk; omega) rfl hn100.out ?_; intro v5 w5 hL5 b5)
   go_roundw
   case rel => exact ⟨2, by omega, by go_num, by rw [ht.out]; exact hL5, b14.trans b5⟩
   case measure => simp [intOf]
  ·rw [show ((2 : Nat) : Int) = 2 from rfl]
   have hB2 := hv2.below b
   have hn100 := Lib.hid (show (memT o n 2).length + 2 ≤ 100 by unfold memT memE; simp [List.range, List.range.loop])
   have ht := Lib.hid (show memT o n 3 = memT o n 2 ++ [[64 * 2 + 8 * n + o.b] ++ disE o 2, [64 * 2 + 8 * n + 4, sibE o] ++ disE o 2] by rw [memT_succ]; unfold memE; rw [HbE.out]; rfl)
   have hj1 := Lib.hid (fun W => joined_any (h := 2) (m := n) (l := o.b) (by decide) hn hbb W)
   have hj2 := Lib.hid (fun W => joined_any (h := 2) (m := n) (l := 4) (by decide) hn (by decide) W)
   have hc1 := Lib.hid (fun W (h : Bs W (.slice a2 (disE o 2).length q2) (disE o 2)) => concat_lit h [64 * 2 + 8 * n + o.b] (by intro z hz; simp at hz; omega) (cells := #[.int .u8 (64 * 2 + 8 * n + o.b)]) rfl rfl (by have := dis_len o 2; simp; omega))
   have hc2 := Lib.hid (fun W (h : Bs W (.slice a2 (disE o 2).length q2) (disE o 2)) => concat_lit h [64 * 2 + 8 * n + 4, sibE o] (by intro z hz; simp at hz; have := sib_bd ho; omega) (cells := #[.int .u8 (64 * 2 + 8 * n + 4), .int .u8 (sibE o)]) rfl rfl (by have := dis_len o 2; simp; omega))
   have hix : ∀ W, (Instr.index 105 (.agg #[.slice a0 (disE o 0).length q0, .slice a1 (disE o 1).length q1, .slice a2 (disE o 2).length q2]) (.int .i64 2)).run Tryd.prog W = .ok (.slice a2 (disE o 2).length q2) W := fun W => by kernel_rfl
   generalize memT o n 2 = T at *
   generalize disE o 2 = D at *
   generalize 64 * 2 + 8 * n + o.b = j1 at *
   generalize 64 * 2 + 8 * n + 4 = j2 at *
   go_wp2_with (first | ((with_reducible refine (hj1.out _).mono ?_); rintro e w1 ⟨rfl, rfl⟩))
   refine (hc1.out _ hB2).mono ?_
   rintro e w3 ⟨x1, rfl, o1, b1⟩
   obtain ⟨y1, r1, rfl, -⟩ := o1.ba
   replace hB2 := hB2.below b1
   have hL3 := hL.below b1
   have hlt := fun k hk => (hL.lt (k := k) hk).2
   clear hc1 hj1
   go_wp2_with (first | ((with_reducible refine (hj2.out _).mono ?_); rintro e w2 ⟨rfl, rfl⟩))
   refine (hc2.out _ hB2).mono ?_
   rintro e w4 ⟨x2, rfl, o2, b2⟩
   obtain ⟨y2, r2, rfl, -⟩ := o2.ba
   clear hc2 hj2
   have hL4 := hL3.below b2
   have o1' := o1.below b2
   have s3 := b1.size
   have b14 := b.trans ((b1.trans (b2.mono b1.size)).mono b.size)
   have hN4 := b14.size
   go_wp2_with (at_builtin; refine append_two rfl _ _ rfl W2.heap.size _ T rfl hL4 hN4 o1' o2 (fun k hk => by have := hlt k hk; omega) rfl hn100.out ?_; intro v5 w5 hL5 b5)
   go_roundw
   case rel => exact ⟨3, by omega, by go_num, by rw [ht.out]; exact hL5, b14.trans b5⟩
   case measure => simp [intOf]
  ·rw [show ((3 : Nat) : Int) = 3 from rfl]
   go_wp2_with fail
   go_ret
   exact ⟨_, rfl, hL.base k2.size, k2.trans (b.mono k2.size)⟩
theorem inMemory_any (o : On) (ho : OkO o) {n : Int} (hn : 0 ≤ n ∧ n < 8) (w : World) : Calls Tryd.prog 63 #[opV o, .int .i64 n] w fun e w' => ∃ v, e = .returned v ∧ LL w' w.heap.size v (memE o n 0 ++ memE o n 1 ++ memE o n 2) ∧ Below w.heap.size w w' := by
 rw [show memE o n 0 ++ memE o n 1 ++ memE o n 2 = memT o n 3 by rw [memT_succ, memT_succ, memT_succ]; rfl]
 cases h1 : (o.b == -1) <;> cases h2 : (o.x == -1)
 ·exact inMemory_n o ho hn h1 h2 w
 ·exact inMemory_x o ho hn h1 h2 w
 ·exact inMemory_b o ho hn h1 h2 w
 ·exact inMemory_bx o ho hn h1 h2 w
end Go.Proofs.YtcgleggdochbeaaDoor
namespace Go.Proofs.YtcgleggdochbeaaDoor
open Go.RowKit
set_option maxRecDepth 100000
set_option maxHeartbeats 8000000
set_option linter.unusedVariables false
set_option linter.unusedSimpArgs false
set_option linter.unusedSectionVars false
theorem szEn (r : En) : (Tryd.prog.info? 52).map (·.size) = some (enC r).size := by kernel_rfl
theorem LL.one {W : World} {N : Nat} {v : Value} {zs : List Int} (hN : N ≤ W.heap.size) (h : El W (some W.heap.size) v zs) : LL (W.alloc (.cells #[v] 28)) N (.slice (some ⟨W.heap.size, 0, none⟩) 1 1) [zs] := by
 have kk := (Below.refl W.heap.size W).alloc (Nat.le_refl _) (.cells #[v] 28)
 refine ⟨[v], ⟨rfl, .inr ⟨W.heap.size, 1, _, rfl, hN, alloc_new _ _, Nat.le_refl _, by decide, rfl, rfl⟩⟩, fun i hi => ?_⟩
 match i, hi with
 | 0, _ => exact h.below kk
 | (n + 1), h => exact absurd h (by simp)
structure RK (w W : World) (r : En) (k : In) : Prop where
 er : Blk W w.heap.size 52 (enC r)
 ik : Blk W (w.heap.size + 1) 26 (in16 k)
 b : Below w.heap.size w W
theorem RK.start (w : World) (r : En) (k : In) : RK w ((w.alloc (.cells (enC r) 52)).alloc (.cells (in16 k) 26)) r k := by
 refine ⟨(Blk.new w 52 (enC r)).alloc _, ?_, ((Below.refl _ _).alloc (Nat.le_refl _) _).alloc (by simp) _⟩
 have := Blk.new (w.alloc (.cells (enC r) 52)) 26 (in16 k)
 simpa using this
theorem RK.below {w W W' : World} {r : En} {k : In} (h : RK w W r k) (b : Below W.heap.size W W') : RK w W' r k := ⟨h.er.below b h.er.lt, h.ik.below b h.ik.lt, h.b.trans (b.mono h.b.size)⟩
theorem RK.drew {w W : World} {r : En} {k : In} (h : RK w W r k) : RK w W.drew r k := h.below (drew_below _ (Nat.le_refl _))
section
variable {w W : World} {r : En} {k : In}
theorem RK.r0 (h : RK w W r k) : W.cell? ⟨w.heap.size, 0, none⟩ = some (.int .i64 r.code) := h.er.cell rfl
theorem RK.r1 (h : RK w W r k) : W.cell? ⟨w.heap.size, 1, none⟩ = some (.int .i64 r.num) := h.er.cell rfl
theorem RK.r2 (h : RK w W r k) : W.cell? ⟨w.heap.size, 2, none⟩ = some (.int .i64 r.a) := h.er.cell rfl
theorem RK.r3 (h : RK w W r k) : W.cell? ⟨w.heap.size, 3, none⟩ = some (.int .i64 r.b) := h.er.cell rfl
theorem RK.k1 (h : RK w W r k) : W.cell? ⟨w.heap.size + 1, 1, none⟩ = some (.int .i64 k.c) := h.ik.cell rfl
theorem RK.k14 (h : RK w W r k) : W.cell? ⟨w.heap.size + 1, 14, none⟩ = some (.bool k.rep) := h.ik.cell rfl
end
theorem load_en {ops : Array Oper} {rest : List Oper} {o : Oper} {a : Act} {w : World} {Q : Exit → Act → World → Prop} (hgd : o.guard = none) (x : Operand) (ho : o.op = .load 52 x)
  (b : Nat) (r : En) (hx : a.eval x = .pointer (some ⟨b, 0, none⟩)) (hb : Blk w b 52 (enC r)) (h : wpList Tryd.prog ops Q rest (a.put o.dst (enV r)) w) : wpList Tryd.prog ops Q (o :: rest) a w :=
 wpList_load_row hgd 52 x ho b hx 52 (enC r) (0, 0) _ hb.h Tryd.underlying52 rfl (szEn r) h
theorem places_none (r : En) (k : In) (ha : (r.a != 3) = true) (hb : (r.b != 3) = true) (w : World) : Calls Tryd.prog 34 #[enV r, inV k] w fun e w' => ∃ v, e = .returned v ∧ LL w' w.heap.size v [[]] ∧ Below w.heap.size w w' := by
 have K := RK.start w r k
 go_enter Tryd.func34, Tryd.ntmps34
 go_upto_region 1 with fail
 generalize (w.alloc (.cells (enC r) 52)).alloc (.cells (in16 k) 26) = W at *
 have c2 := K.r2
 have c3 := K.r3
 go_wp2_with fail
 go_ret
 exact ⟨_, rfl, LL.one K.b.size (El.nil _ _), K.b.alloc K.b.size _⟩
theorem or_mid {k : In} {r : En} (h : OkI k) (hr : OkE r) : bits .or .i64 r.num (oprE r k 2).r = r.num + (oprE r k 2).r := by
 have ho := (h.opr r 2).r
 have hn := hr.num
 have z1 : ∀ n : Nat, n < 8 → bits .or .i64 0 (n : Int) = (n : Int) := of_decide_eq_true (by kernel_rfl)
 have z2 : ∀ n : Nat, n < 8 → bits .or .i64 (n : Int) 0 = (n : Int) := of_decide_eq_true (by kernel_rfl)
 rcases hr.mid with h0 | ⟨h1, h2⟩
 ·rw [h0]
  obtain ⟨n, e⟩ := Int.eq_ofNat_of_zero_le ho.1
  rw [e, z1 n (by omega)]; omega
 ·have : oprE r k 2 = onZ := by unfold oprE; rw [if_neg (by omega), if_neg (by omega)]
  rw [this]
  obtain ⟨n, e⟩ := Int.eq_ofNat_of_zero_le hn.1
  rw [e]
  show bits .or .i64 (n : Int) 0 = (n : Int) + 0
  rw [z2 n (by omega)]; omega
theorem El.own' {W : World} {M : Nat} {G : Nat} {u : Value} {zs : List Int} (h : Own W M u zs) (hG : W.heap.size ≤ G) : El W (some G) u zs := by
 obtain ⟨a, c, rfl, A⟩ := h.ba
 obtain ⟨hb, -, h | ⟨g, cap, cur, e, hM, hg, rest⟩⟩ := h
 ·exact ⟨_, _, rfl, A, .inl (List.eq_nil_of_length_eq_zero h.2)⟩
 ·simp only [Value.slice.injEq] at e
  obtain ⟨rfl, -, -⟩ := e
  have hlt := (Array.getElem?_eq_some_iff.1 hg).1
  refine ⟨_, _, rfl, A, .inr ⟨g, 0, rfl, hlt, fun h => ?_⟩⟩
  have := Option.some.inj h
  omega
theorem places_regA {r : En} {k : In} (hr : OkE r) (hk : OkI k) (ha : (r.a != 3) = false) (h1 : ((oprE r k 3).k == 1) = true) (w : World) : Calls Tryd.prog 34 #[enV r, inV k] w fun e w' => ∃ v, e = .returned v ∧ LL w' w.heap.size v [[192 + 8 * (r.num + (oprE r k 2).r) + (oprE r k 3).r]] ∧ Below w.heap.size w w' := by
 have K := RK.start w r k
 have hO := Lib.hid (fun W => operand_any r k 2 W)
 have hP := Lib.hid (fun W => operand_any r k 3 W)
 have hor := or_mid hk hr
 have hm := mid_bd hk hr
 have ho := hk.opr r 3
 generalize oprE r k 2 = x at *
 generalize oprE r k 3 = o at *
 generalize r.num + x.r = mid at *
 go_enter Tryd.func34, Tryd.ntmps34
 go_upto_region 1 with fail
 generalize (w.alloc (.cells (enC r) 52)).alloc (.cells (in16 k) 26) = W at *
 have c2 := K.r2
 have c3 := K.r3
 go_upto_region 3 with fail
 clear c2 c3
 refine wp_region_held_drew (S := fun W => RK w W r k) (by kernel_rfl) K.drew (fun hHeld => ?_)
 refine tk 0 ?_ ?_ hHeld ?_
 rotate_left
 ·intro W hS
  go_simp
  try rfl
 simp only [pT]
 refine tk 1 ?_ ?_ hHeld ?_
 rotate_left
 ·intro W hS
  have c1 := hS.r1
  go_simp
  try rfl
 simp only [pT]
 refine tk 2 (enV r) ?_ hHeld ?_
 ·intro W hS
  exact run_load_row (by rfl) (by rfl) 52 _ (0, 0) _ hS.er.h Tryd.underlying52 rfl (szEn r)
 simp only [pS]
 refine tk 3 (inV k) ?_ hHeld ?_
 ·intro W hS
  exact run_load_row (by rfl) (by rfl) 26 _ (0, 0) _ hS.ik.h Tryd.underlying26 rfl (szIn k)
 simp only [pS]
 refine rd 4 (fun K hK => ?_)
 go_simp
 with_reducible refine (hO.out _).mono ?_
 rintro e w2 ⟨rfl, b2⟩
 have hHeld2 := hHeld.below b2
 refine hK.out _ _ hHeld2 (fun _ => ?_)
 clear hK K
 try simp only [pS]
 refine tk 5 ?_ ?_ hHeld2 ?_
 rotate_left
 ·intro W hS
  go_simp
  try rfl
 simp only [pT]
 refine tk 6 ?_ ?_ hHeld2 ?_
 rotate_left
 ·intro W hS
  go_simp
  try rfl
 simp only [pT]
 refine tk 7 ?_ ?_ hHeld2 ?_
 rotate_left
 ·intro W hS
  go_simp
  try rfl
 simp only [pT]
 refine wpAnyH_done (by kernel_rfl) ?_ _
 go_upto_region 5 with (first | (with_reducible refine load_en rfl _ rfl w.heap.size r rfl hHeld2.er ?_) | (with_reducible refine load_inR rfl _ rfl (w.heap.size + 1) (in16 k) rfl hHeld2.ik (in16_size _) ?_) | ((with_reducible refine (hP.out _).mono ?_); rintro e w3 ⟨rfl, b3⟩; have hHeld3 := hHeld2.below b3) | ((with_reducible refine store_op_as rfl _ _ rfl (op6 o) (op6_size _) (op6_one _) rfl rfl ?_); intro w4 kO b4; have hHeld4 := hHeld3.below b4))
 have b := hHeld4.b
 clear hHeld hHeld2 hHeld3 hHeld4 hO hP
 generalize w3.heap.size = B at *
 have hj := Lib.hid (fun W => joined_any (h := 3) (m := mid) (l := o.r) (by decide) hm ho.r W)
 have hz : Byt [192 + 8 * mid + o.r] := by have := ho.r; intro z hz; simp at hz; omega
 have c0 := kO.cell (i := 0) (v := .int .i64 o.k) rfl
 have c1 := kO.cell (i := 1) (v := .int .i64 o.r) rfl
 go_wp2_with (first | ((with_reducible refine (hj.out _).mono ?_); rintro e w5 ⟨rfl, rfl⟩))
 go_ret
 refine ⟨_, rfl, ?_, (b.alloc b.size _).alloc (Nat.le_trans b.size (by simp)) _⟩
 have hw := Own.new w4 w4.heap.size (Nat.le_refl _) [192 + 8 * mid + o.r] hz (by simp) (cells := #[.int .u8 (64 * 3 + 8 * mid + o.r)]) (by simp)
 have hone := LL.one (W := w4.alloc (.cells #[.int .u8 (64 * 3 + 8 * mid + o.r)] 5)) (N := w.heap.size) (Nat.le_trans b.size (by simp)) (El.own' hw (by simp))
 simpa using hone
theorem places_memA {r : En} {k : In} (hr : OkE r) (hk : OkI k) (ha : (r.a != 3) = false) (h1 : ((oprE r k 3).k == 1) = false) (h3 : ((oprE r k 3).k == 3) = true) (w : World) : Calls Tryd.prog 34 #[enV r, inV k] w fun e w' => ∃ v, e = .returned v ∧ LL w' w.heap.size v (memE (oprE r k 3) (r.num + (oprE r k 2).r) 0 ++ memE (oprE r k 3) (r.num + (oprE r k 2).r) 1 ++ memE (oprE r k 3) (r.num + (oprE r k 2).r) 2) ∧ Below w.heap.size w w' := by
 have K := RK.start w r k
 have hO := Lib.hid (fun W => operand_any r k 2 W)
 have hP := Lib.hid (fun W => operand_any r k 3 W)
 have hor := or_mid hk hr
 have hm := mid_bd hk hr
 have ho := hk.opr r 3
 generalize oprE r k 2 = x at *
 generalize oprE r k 3 = o at *
 generalize r.num + x.r = mid at *
 go_enter Tryd.func34, Tryd.ntmps34
 go_upto_region 1 with fail
 generalize (w.alloc (.cells (enC r) 52)).alloc (.cells (in16 k) 26) = W at *
 have c2 := K.r2
 have c3 := K.r3
 go_upto_region 3 with fail
 clear c2 c3
 refine wp_region_held_drew (S := fun W => RK w W r k) (by kernel_rfl) K.drew (fun hHeld => ?_)
 refine tk 0 ?_ ?_ hHeld ?_
 rotate_left
 ·intro W hS
  go_simp
  try rfl
 simp only [pT]
 refine tk 1 ?_ ?_ hHeld ?_
 rotate_left
 ·intro W hS
  have c1 := hS.r1
  go_simp
  try rfl
 simp only [pT]
 refine tk 2 (enV r) ?_ hHeld ?_
 ·intro W hS
  exact run_load_row (by rfl) (by rfl) 52 _ (0, 0) _ hS.er.h Tryd.underlying52 rfl (szEn r)
 simp only [pS]
 refine tk 3 (inV k) ?_ hHeld ?_
 ·intro W hS
  exact run_load_row (by rfl) (by rfl) 26 _ (0, 0) _ hS.ik.h Tryd.underlying26 rfl (szIn k)
 simp only [pS]
 refine rd 4 (fun K hK => ?_)
 go_simp
 with_reducible refine (hO.out _).mono ?_
 rintro e w2 ⟨rfl, b2⟩
 have hHeld2 := hHeld.below b2
 refine hK.out _ _ hHeld2 (fun _ => ?_)
 clear hK K
 try simp only [pS]
 refine tk 5 ?_ ?_ hHeld2 ?_
 rotate_left
 ·intro W hS
  go_simp
  try rfl
 simp only [pT]
 refine tk 6 ?_ ?_ hHeld2 ?_
 rotate_left
 ·intro W hS
  go_simp
  try rfl
 simp only [pT]
 refine tk 7 ?_ ?_ hHeld2 ?_
 rotate_left
 ·intro W hS
  go_simp
  try rfl
 simp only [pT]
 refine wpAnyH_done (by kernel_rfl) ?_ _
 go_upto_region 5 with (first | (with_reducible refine load_en rfl _ rfl w.heap.size r rfl hHeld2.er ?_) | (with_reducible refine load_inR rfl _ rfl (w.heap.size + 1) (in16 k) rfl hHeld2.ik (in16_size _) ?_) | ((with_reducible refine (hP.out _).mono ?_); rintro e w3 ⟨rfl, b3⟩; have hHeld3 := hHeld2.below b3) | ((with_reducible refine store_op_as rfl _ _ rfl (op6 o) (op6_size _) (op6_one _) rfl rfl ?_); intro w4 kO b4; have hHeld4 := hHeld3.below b4))
 have b := hHeld4.b
 clear hHeld hHeld2 hHeld3 hHeld4 hO hP
 generalize w3.heap.size = B at *
 have hM := Lib.hid (fun W => inMemory_any o ho hm W)
 have c0 := kO.cell (i := 0) (v := .int .i64 o.k) rfl
 go_wp2_with (first | (with_reducible refine load_opR rfl _ rfl B (op6 o) rfl kO (op6_size _) ?_) | ((with_reducible refine (hM.out _).mono ?_); rintro e w5 ⟨v5, rfl, L5, b5⟩))
 go_ret
 exact ⟨_, rfl, L5.base b.size, b.trans (b5.mono b.size)⟩
theorem places_zA {r : En} {k : In} (hr : OkE r) (hk : OkI k) (ha : (r.a != 3) = false) (h1 : ((oprE r k 3).k == 1) = false) (h3 : ((oprE r k 3).k == 3) = false) (w : World) : Calls Tryd.prog 34 #[enV r, inV k] w fun e w' => ∃ v, e = .returned v ∧ LL w' w.heap.size v [] ∧ Below w.heap.size w w' := by
 have K := RK.start w r k
 have hO := Lib.hid (fun W => operand_any r k 2 W)
 have hP := Lib.hid (fun W => operand_any r k 3 W)
 have hor := or_mid hk hr
 have hm := mid_bd hk hr
 have ho := hk.opr r 3
 generalize oprE r k 2 = x at *
 generalize oprE r k 3 = o at *
 generalize r.num + x.r = mid at *
 go_enter Tryd.func34, Tryd.ntmps34
 go_upto_region 1 with fail
 generalize (w.alloc (.cells (enC r) 52)).alloc (.cells (in16 k) 26) = W at *
 have c2 := K.r2
 have c3 := K.r3
 go_upto_region 3 with fail
 clear c2 c3
 refine wp_region_held_drew (S := fun W => RK w W r k) (by kernel_rfl) K.drew (fun hHeld => ?_)
 refine tk 0 ?_ ?_ hHeld ?_
 rotate_left
 ·intro W hS
  go_simp
  try rfl
 simp only [pT]
 refine tk 1 ?_ ?_ hHeld ?_
 rotate_left
 ·intro W hS
  have c1 := hS.r1
  go_simp
  try rfl
 simp only [pT]
 refine tk 2 (enV r) ?_ hHeld ?_
 ·intro W hS
  exact run_load_row (by rfl) (by rfl) 52 _ (0, 0) _ hS.er.h Tryd.underlying52 rfl (szEn r)
 simp only [pS]
 refine tk 3 (inV k) ?_ hHeld ?_
 ·intro W hS
  exact run_load_row (by rfl) (by rfl) 26 _ (0, 0) _ hS.ik.h Tryd.underlying26 rfl (szIn k)
 simp only [pS]
 refine rd 4 (fun K hK => ?_)
 go_simp
 with_reducible refine (hO.out _).mono ?_
 rintro e w2 ⟨rfl, b2⟩
 have hHeld2 := hHeld.below b2
 refine hK.out _ _ hHeld2 (fun _ => ?_)
 clear hK K
 try simp only [pS]
 refine tk 5 ?_ ?_ hHeld2 ?_
 rotate_left
 ·intro W hS
  go_simp
  try rfl
 simp only [pT]
 refine tk 6 ?_ ?_ hHeld2 ?_
 rotate_left
 ·intro W hS
  go_simp
  try rfl
 simp only [pT]
 refine tk 7 ?_ ?_ hHeld2 ?_
 rotate_left
 ·intro W hS
  go_simp
  try rfl
 simp only [pT]
 refine wpAnyH_done (by kernel_rfl) ?_ _
 go_upto_region 5 with (first | (with_reducible refine load_en rfl _ rfl w.heap.size r rfl hHeld2.er ?_) | (with_reducible refine load_inR rfl _ rfl (w.heap.size + 1) (in16 k) rfl hHeld2.ik (in16_size _) ?_) | ((with_reducible refine (hP.out _).mono ?_); rintro e w3 ⟨rfl, b3⟩; have hHeld3 := hHeld2.below b3) | ((with_reducible refine store_op_as rfl _ _ rfl (op6 o) (op6_size _) (op6_one _) rfl rfl ?_); intro w4 kO b4; have hHeld4 := hHeld3.below b4))
 have b := hHeld4.b
 clear hHeld hHeld2 hHeld3 hHeld4 hO hP
 generalize w3.heap.size = B at *
 have c0 := kO.cell (i := 0) (v := .int .i64 o.k) rfl
 go_wp2_with fail
 go_ret
 exact ⟨_, rfl, LL.nil _ _, b⟩
theorem places_regB {r : En} {k : In} (hr : OkE r) (hk : OkI k) (ha : (r.a != 3) = true) (hb : (r.b != 3) = false) (h1 : ((oprE r k 3).k == 1) = true) (w : World) : Calls Tryd.prog 34 #[enV r, inV k] w fun e w' => ∃ v, e = .returned v ∧ LL w' w.heap.size v [[192 + 8 * (r.num + (oprE r k 2).r) + (oprE r k 3).r]] ∧ Below w.heap.size w w' := by
 have K := RK.start w r k
 have hO := Lib.hid (fun W => operand_any r k 2 W)
 have hP := Lib.hid (fun W => operand_any r k 3 W)
 have hor := or_mid hk hr
 have hm := mid_bd hk hr
 have ho := hk.opr r 3
 generalize oprE r k 2 = x at *
 generalize oprE r k 3 = o at *
 generalize r.num + x.r = mid at *
 go_enter Tryd.func34, Tryd.ntmps34
 go_upto_region 1 with fail
 generalize (w.alloc (.cells (enC r) 52)).alloc (.cells (in16 k) 26) = W at *
 have c2 := K.r2
 have c3 := K.r3
 go_upto_region 3 with fail
 clear c2 c3
 refine wp_region_held_drew (S := fun W => RK w W r k) (by kernel_rfl) K.drew (fun hHeld => ?_)
 refine tk 0 ?_ ?_ hHeld ?_
 rotate_left
 ·intro W hS
  go_simp
  try rfl
 simp only [pT]
 refine tk 1 ?_ ?_ hHeld ?_
 rotate_left
 ·intro W hS
  have c1 := hS.r1
  go_simp
  try rfl
 simp only [pT]
 refine tk 2 (enV r) ?_ hHeld ?_
 ·intro W hS
  exact run_load_row (by rfl) (by rfl) 52 _ (0, 0) _ hS.er.h Tryd.underlying52 rfl (szEn r)
 simp only [pS]
 refine tk 3 (inV k) ?_ hHeld ?_
 ·intro W hS
  exact run_load_row (by rfl) (by rfl) 26 _ (0, 0) _ hS.ik.h Tryd.underlying26 rfl (szIn k)
 simp only [pS]
 refine rd 4 (fun K hK => ?_)
 go_simp
 with_reducible refine (hO.out _).mono ?_
 rintro e w2 ⟨rfl, b2⟩
 have hHeld2 := hHeld.below b2
 refine hK.out _ _ hHeld2 (fun _ => ?_)
 clear hK K
 try simp only [pS]
 refine tk 5 ?_ ?_ hHeld2 ?_
 rotate_left
 ·intro W hS
  go_simp
  try rfl
 simp only [pT]
 refine tk 6 ?_ ?_ hHeld2 ?_
 rotate_left
 ·intro W hS
  go_simp
  try rfl
 simp only [pT]
 refine tk 7 ?_ ?_ hHeld2 ?_
 rotate_left
 ·intro W hS
  go_simp
  try rfl
 simp only [pT]
 refine wpAnyH_done (by kernel_rfl) ?_ _
 go_upto_region 5 with (first | (with_reducible refine load_en rfl _ rfl w.heap.size r rfl hHeld2.er ?_) | (with_reducible refine load_inR rfl _ rfl (w.heap.size + 1) (in16 k) rfl hHeld2.ik (in16_size _) ?_) | ((with_reducible refine (hP.out _).mono ?_); rintro e w3 ⟨rfl, b3⟩; have hHeld3 := hHeld2.below b3) | ((with_reducible refine store_op_as rfl _ _ rfl (op6 o) (op6_size _) (op6_one _) rfl rfl ?_); intro w4 kO b4; have hHeld4 := hHeld3.below b4))
 have b := hHeld4.b
 clear hHeld hHeld2 hHeld3 hHeld4 hO hP
 generalize w3.heap.size = B at *
 have hj := Lib.hid (fun W => joined_any (h := 3) (m := mid) (l := o.r) (by decide) hm ho.r W)
 have hz : Byt [192 + 8 * mid + o.r] := by have := ho.r; intro z hz; simp at hz; omega
 have c0 := kO.cell (i := 0) (v := .int .i64 o.k) rfl
 have c1 := kO.cell (i := 1) (v := .int .i64 o.r) rfl
 go_wp2_with (first | ((with_reducible refine (hj.out _).mono ?_); rintro e w5 ⟨rfl, rfl⟩))
 go_ret
 refine ⟨_, rfl, ?_, (b.alloc b.size _).alloc (Nat.le_trans b.size (by simp)) _⟩
 have hw := Own.new w4 w4.heap.size (Nat.le_refl _) [192 + 8 * mid + o.r] hz (by simp) (cells := #[.int .u8 (64 * 3 + 8 * mid + o.r)]) (by simp)
 have hone := LL.one (W := w4.alloc (.cells #[.int .u8 (64 * 3 + 8 * mid + o.r)] 5)) (N := w.heap.size) (Nat.le_trans b.size (by simp)) (El.own' hw (by simp))
 simpa using hone
theorem places_memB {r : En} {k : In} (hr : OkE r) (hk : OkI k) (ha : (r.a != 3) = true) (hb : (r.b != 3) = false) (h1 : ((oprE r k 3).k == 1) = false) (h3 : ((oprE r k 3).k == 3) = true) (w : World) : Calls Tryd.prog 34 #[enV r, inV k] w fun e w' => ∃ v, e = .returned v ∧ LL w' w.heap.size v (memE (oprE r k 3) (r.num + (oprE r k 2).r) 0 ++ memE (oprE r k 3) (r.num + (oprE r k 2).r) 1 ++ memE (oprE r k 3) (r.num + (oprE r k 2).r) 2) ∧ Below w.heap.size w w' := by
 have K := RK.start w r k
 have hO := Lib.hid (fun W => operand_any r k 2 W)
 have hP := Lib.hid (fun W => operand_any r k 3 W)
 have hor := or_mid hk hr
 have hm := mid_bd hk hr
 have ho := hk.opr r 3
 generalize oprE r k 2 = x at *
 generalize oprE r k 3 = o at *
 generalize r.num + x.r = mid at *
 go_enter Tryd.func34, Tryd.ntmps34
 go_upto_region 1 with fail
 generalize (w.alloc (.cells (enC r) 52)).alloc (.cells (in16 k) 26) = W at *
 have c2 := K.r2
 have c3 := K.r3
 go_upto_region 3 with fail
 clear c2 c3
 refine wp_region_held_drew (S := fun W => RK w W r k) (by kernel_rfl) K.drew (fun hHeld => ?_)
 refine tk 0 ?_ ?_ hHeld ?_
 rotate_left
 ·intro W hS
  go_simp
  try rfl
 simp only [pT]
 refine tk 1 ?_ ?_ hHeld ?_
 rotate_left
 ·intro W hS
  have c1 := hS.r1
  go_simp
  try rfl
 simp only [pT]
 refine tk 2 (enV r) ?_ hHeld ?_
 ·intro W hS
  exact run_load_row (by rfl) (by rfl) 52 _ (0, 0) _ hS.er.h Tryd.underlying52 rfl (szEn r)
 simp only [pS]
 refine tk 3 (inV k) ?_ hHeld ?_
 ·intro W hS
  exact run_load_row (by rfl) (by rfl) 26 _ (0, 0) _ hS.ik.h Tryd.underlying26 rfl (szIn k)
 simp only [pS]
 refine rd 4 (fun K hK => ?_)
 go_simp
 with_reducible refine (hO.out _).mono ?_
 rintro e w2 ⟨rfl, b2⟩
 have hHeld2 := hHeld.below b2
 refine hK.out _ _ hHeld2 (fun _ => ?_)
 clear hK K
 try simp only [pS]
 refine tk 5 ?_ ?_ hHeld2 ?_
 rotate_left
 ·intro W hS
  go_simp
  try rfl
 simp only [pT]
 refine tk 6 ?_ ?_ hHeld2 ?_
 rotate_left
 ·intro W hS
  go_simp
  try rfl
 simp only [pT]
 refine tk 7 ?_ ?_ hHeld2 ?_
 rotate_left
 ·intro W hS
  go_simp
  try rfl
 simp only [pT]
 refine wpAnyH_done (by kernel_rfl) ?_ _
 go_upto_region 5 with (first | (with_reducible refine load_en rfl _ rfl w.heap.size r rfl hHeld2.er ?_) | (with_reducible refine load_inR rfl _ rfl (w.heap.size + 1) (in16 k) rfl hHeld2.ik (in16_size _) ?_) | ((with_reducible refine (hP.out _).mono ?_); rintro e w3 ⟨rfl, b3⟩; have hHeld3 := hHeld2.below b3) | ((with_reducible refine store_op_as rfl _ _ rfl (op6 o) (op6_size _) (op6_one _) rfl rfl ?_); intro w4 kO b4; have hHeld4 := hHeld3.below b4))
 have b := hHeld4.b
 clear hHeld hHeld2 hHeld3 hHeld4 hO hP
 generalize w3.heap.size = B at *
 have hM := Lib.hid (fun W => inMemory_any o ho hm W)
 have c0 := kO.cell (i := 0) (v := .int .i64 o.k) rfl
 go_wp2_with (first | (with_reducible refine load_opR rfl _ rfl B (op6 o) rfl kO (op6_size _) ?_) | ((with_reducible refine (hM.out _).mono ?_); rintro e w5 ⟨v5, rfl, L5, b5⟩))
 go_ret
 exact ⟨_, rfl, L5.base b.size, b.trans (b5.mono b.size)⟩
theorem places_zB {r : En} {k : In} (hr : OkE r) (hk : OkI k) (ha : (r.a != 3) = true) (hb : (r.b != 3) = false) (h1 : ((oprE r k 3).k == 1) = false) (h3 : ((oprE r k 3).k == 3) = false) (w : World) : Calls Tryd.prog 34 #[enV r, inV k] w fun e w' => ∃ v, e = .returned v ∧ LL w' w.heap.size v [] ∧ Below w.heap.size w w' := by
 have K := RK.start w r k
 have hO := Lib.hid (fun W => operand_any r k 2 W)
 have hP := Lib.hid (fun W => operand_any r k 3 W)
 have hor := or_mid hk hr
 have hm := mid_bd hk hr
 have ho := hk.opr r 3
 generalize oprE r k 2 = x at *
 generalize oprE r k 3 = o at *
 generalize r.num + x.r = mid at *
 go_enter Tryd.func34, Tryd.ntmps34
 go_upto_region 1 with fail
 generalize (w.alloc (.cells (enC r) 52)).alloc (.cells (in16 k) 26) = W at *
 have c2 := K.r2
 have c3 := K.r3
 go_upto_region 3 with fail
 clear c2 c3
 refine wp_region_held_drew (S := fun W => RK w W r k) (by kernel_rfl) K.drew (fun hHeld => ?_)
 refine tk 0 ?_ ?_ hHeld ?_
 rotate_left
 ·intro W hS
  go_simp
  try rfl
 simp only [pT]
 refine tk 1 ?_ ?_ hHeld ?_
 rotate_left
 ·intro W hS
  have c1 := hS.r1
  go_simp
  try rfl
 simp only [pT]
 refine tk 2 (enV r) ?_ hHeld ?_
 ·intro W hS
  exact run_load_row (by rfl) (by rfl) 52 _ (0, 0) _ hS.er.h Tryd.underlying52 rfl (szEn r)
 simp only [pS]
 refine tk 3 (inV k) ?_ hHeld ?_
 ·intro W hS
  exact run_load_row (by rfl) (by rfl) 26 _ (0, 0) _ hS.ik.h Tryd.underlying26 rfl (szIn k)
 simp only [pS]
 refine rd 4 (fun K hK => ?_)
 go_simp
 with_reducible refine (hO.out _).mono ?_
 rintro e w2 ⟨rfl, b2⟩
 have hHeld2 := hHeld.below b2
 refine hK.out _ _ hHeld2 (fun _ => ?_)
 clear hK K
 try simp only [pS]
 refine tk 5 ?_ ?_ hHeld2 ?_
 rotate_left
 ·intro W hS
  go_simp
  try rfl
 simp only [pT]
 refine tk 6 ?_ ?_ hHeld2 ?_
 rotate_left
 ·intro W hS
  go_simp
  try rfl
 simp only [pT]
 refine tk 7 ?_ ?_ hHeld2 ?_
 rotate_left
 ·intro W hS
  go_simp
  try rfl
 simp only [pT]
 refine wpAnyH_done (by kernel_rfl) ?_ _
 go_upto_region 5 with (first | (with_reducible refine load_en rfl _ rfl w.heap.size r rfl hHeld2.er ?_) | (with_reducible refine load_inR rfl _ rfl (w.heap.size + 1) (in16 k) rfl hHeld2.ik (in16_size _) ?_) | ((with_reducible refine (hP.out _).mono ?_); rintro e w3 ⟨rfl, b3⟩; have hHeld3 := hHeld2.below b3) | ((with_reducible refine store_op_as rfl _ _ rfl (op6 o) (op6_size _) (op6_one _) rfl rfl ?_); intro w4 kO b4; have hHeld4 := hHeld3.below b4))
 have b := hHeld4.b
 clear hHeld hHeld2 hHeld3 hHeld4 hO hP
 generalize w3.heap.size = B at *
 have c0 := kO.cell (i := 0) (v := .int .i64 o.k) rfl
 go_wp2_with fail
 go_ret
 exact ⟨_, rfl, LL.nil _ _, b⟩
theorem places_any {r : En} {k : In} (hr : OkE r) (hk : OkI k) (w : World) : Calls Tryd.prog 34 #[enV r, inV k] w fun e w' => ∃ v, e = .returned v ∧ LL w' w.heap.size v (placesE r k) ∧ Below w.heap.size w w' := by
 unfold placesE
 by_cases ha : r.a = 3
 ·have ha' : (r.a != 3) = false := by simp [ha]
  rw [if_neg (fun h => h.1 ha)]
  unfold plE
  by_cases h1 : (oprE r k 3).k = 1
  ·rw [if_pos h1]; exact places_regA hr hk ha' (by simp [h1]) w
  ·rw [if_neg h1]
   by_cases h3 : (oprE r k 3).k = 3
   ·rw [if_pos h3]; exact places_memA hr hk ha' (by simp [h1]) (by simp [h3]) w
   ·rw [if_neg h3]; exact places_zA hr hk ha' (by simp [h1]) (by simp [h3]) w
 ·have ha' : (r.a != 3) = true := by simp [ha]
  by_cases hb : r.b = 3
  ·have hb' : (r.b != 3) = false := by simp [hb]
   rw [if_neg (fun h => h.2 hb)]
   unfold plE
   by_cases h1 : (oprE r k 3).k = 1
   ·rw [if_pos h1]; exact places_regB hr hk ha' hb' (by simp [h1]) w
   ·rw [if_neg h1]
    by_cases h3 : (oprE r k 3).k = 3
    ·rw [if_pos h3]; exact places_memB hr hk ha' hb' (by simp [h1]) (by simp [h3]) w
    ·rw [if_neg h3]; exact places_zB hr hk ha' hb' (by simp [h1]) (by simp [h3]) w
  ·rw [if_pos ⟨ha, hb⟩]; exact places_none r k ha' (by simp [hb]) w
end Go.Proofs.YtcgleggdochbeaaDoor
namespace Go.Proofs.YtcgleggdochbeaaDoor
open Go.RowKit
set_option maxRecDepth 100000
set_option maxHeartbeats 8000000
set_option linter.unusedVariables false
set_option linter.unusedSimpArgs false
set_option linter.unusedSectionVars false
theorem Own.base {w : World} {N M : Nat} {v : Value} {zs : List Int} (h : Own w N v zs) (hM : M ≤ N) : Own w M v zs := by
 obtain ⟨hb, hl, h | ⟨g, cap, cur, rfl, hN, rest⟩⟩ := h
 ·exact ⟨hb, hl, .inl h⟩
 ·exact ⟨hb, hl, .inr ⟨g, cap, cur, rfl, Nat.le_trans hM hN, rest⟩⟩
theorem opening_ff {r : En} {k : In} (hr : OkE r) (hk : OkI k) (h1 : k.rep = false) (h2 : (decide (r.code > 255)) = false) (w : World) : Calls Tryd.prog 36 #[enV r, inV k] w fun e w' => ∃ v, e = .returned v ∧ Own w' w.heap.size v ([] ++ [(r.code + k.c + (oprE r k 1).r) % 256]) ∧ Below w.heap.size w w' := by
 have K := RK.start w r k
 have hO := Lib.hid (fun W => operand_any r k 1 W)
 have ho := (hk.opr r 1).r
 have hc := hr.code
 have hkc := hk.c
 generalize oprE r k 1 = x at *
 have s1 : IntKind.i64.wrap (r.code + k.c) = r.code + k.c := by rw [IntKind.wrap_i64]; omega
 have s2 : IntKind.i64.wrap (r.code + k.c + x.r) = r.code + k.c + x.r := by rw [IntKind.wrap_i64]; omega
 have hz : 0 ≤ (r.code + k.c + x.r) % 256 ∧ (r.code + k.c + x.r) % 256 ≤ 255 := by omega
 have hz2 : 0 ≤ r.code / 256 ∧ r.code / 256 ≤ 255 := by omega
 have s3 : r.code / 256 % 256 = r.code / 256 := by omega
 go_enter Tryd.func36, Tryd.ntmps36
 go_upto_region 1 with fail
 generalize (w.alloc (.cells (enC r) 52)).alloc (.cells (in16 k) 26) = W at *
 have O := Own.nil W W.heap.size
 have K00 := K
 have b0 := Below.refl W.heap.size W
 have c14 := K.k14
 rw [h1] at c14
 have c0 := K.r0
 go_upto_region 6 with fail
 have bb := b0
 have hK := K
 clear c0 c14
 replace O := O.drew
 have bd := bb.trans (drew_below W bb.size)
 refine wp_region_held_drew (S := fun W => RK w W r k) (by kernel_rfl) hK.drew (fun hHeld => ?_)
 refine tk 0 ?_ ?_ hHeld ?_
 rotate_left
 ·intro W hS
  go_simp
  try rfl
 simp only [pT]
 refine tk 1 ?_ ?_ hHeld ?_
 rotate_left
 ·intro W hS
  go_simp
  try rfl
 simp only [pT]
 refine tk 2 ?_ ?_ hHeld ?_
 rotate_left
 ·intro W hS
  have c0 := hS.r0
  go_simp
  try rfl
 simp only [pT]
 refine tk 3 ?_ ?_ hHeld ?_
 rotate_left
 ·intro W hS
  go_simp
  try rfl
 simp only [pT]
 refine tk 4 ?_ ?_ hHeld ?_
 rotate_left
 ·intro W hS
  have c1 := hS.k1
  go_simp
  try rfl
 simp only [pT]
 refine tk 5 ?_ ?_ hHeld ?_
 rotate_left
 ·intro W hS
  go_simp
  try rfl
 simp only [pT]
 refine tk 6 (enV r) ?_ hHeld ?_
 ·intro W hS
  exact run_load_row (by rfl) (by rfl) 52 _ (0, 0) _ hS.er.h Tryd.underlying52 rfl (szEn r)
 simp only [pS]
 refine tk 7 (inV k) ?_ hHeld ?_
 ·intro W hS
  exact run_load_row (by rfl) (by rfl) 26 _ (0, 0) _ hS.ik.h Tryd.underlying26 rfl (szIn k)
 simp only [pS]
 refine rd 8 (fun K hK => ?_)
 go_simp
 with_reducible refine (hO.out _).mono ?_
 rintro e w3 ⟨rfl, b3⟩
 have hH3 := hHeld.below b3
 have O3 := O.below b3
 refine hK.out _ _ hH3 (fun _ => ?_)
 clear hK K
 try simp only [pS]
 refine tk 9 ?_ ?_ hH3 ?_
 rotate_left
 ·intro W hS
  go_simp
  try rfl
 simp only [pT]
 refine tk 10 ?_ ?_ hH3 ?_
 rotate_left
 ·intro W hS
  go_simp
  try rfl
 simp only [pT]
 refine tk 11 ?_ ?_ hH3 ?_
 rotate_left
 ·intro W hS
  go_simp
  try rfl
 simp only [pT]
 refine rd 12 (fun K hK => ?_)
 go_simp
 have hH4 := hH3.below ((Below.refl _ w3).alloc (Nat.le_refl _) (.cells #[.int .u8 ((r.code + k.c + x.r) % 256)] 5))
 refine hK.out _ _ hH4 (fun _ => ?_)
 clear hK K
 try simp only [pT]
 refine rd 13 (fun K hK => ?_)
 refine append_byteK _ _ rfl W.heap.size _ ([]) rfl O3 (Nat.le_trans bd.size b3.size) _ hz rfl (by simp) (fun v5 w5 O5 b5 => ?_)
 have hH5 : RK w w5 r k := K00.below ((bd.trans (b3.mono bd.size)).trans b5)
 refine hK.out _ _ hH5 (fun _ => ?_)
 clear hK K
 try simp only [pT]
 refine tk 14 ?_ ?_ hH5 ?_
 rotate_left
 ·intro W hS
  go_simp
  try rfl
 simp only [pT]
 refine wpAnyH_done (by kernel_rfl) ?_ _
 go_wp2_with fail
 go_ret
 exact ⟨_, rfl, O5.base K00.b.size, hH5.b⟩
theorem opening_tf {r : En} {k : In} (hr : OkE r) (hk : OkI k) (h1 : k.rep = true) (h2 : (decide (r.code > 255)) = false) (w : World) : Calls Tryd.prog 36 #[enV r, inV k] w fun e w' => ∃ v, e = .returned v ∧ Own w' w.heap.size v ([] ++ [243] ++ [(r.code + k.c + (oprE r k 1).r) % 256]) ∧ Below w.heap.size w w' := by
 have K := RK.start w r k
 have hO := Lib.hid (fun W => operand_any r k 1 W)
 have ho := (hk.opr r 1).r
 have hc := hr.code
 have hkc := hk.c
 generalize oprE r k 1 = x at *
 have s1 : IntKind.i64.wrap (r.code + k.c) = r.code + k.c := by rw [IntKind.wrap_i64]; omega
 have s2 : IntKind.i64.wrap (r.code + k.c + x.r) = r.code + k.c + x.r := by rw [IntKind.wrap_i64]; omega
 have hz : 0 ≤ (r.code + k.c + x.r) % 256 ∧ (r.code + k.c + x.r) % 256 ≤ 255 := by omega
 have hz2 : 0 ≤ r.code / 256 ∧ r.code / 256 ≤ 255 := by omega
 have s3 : r.code / 256 % 256 = r.code / 256 := by omega
 go_enter Tryd.func36, Tryd.ntmps36
 go_upto_region 1 with fail
 generalize (w.alloc (.cells (enC r) 52)).alloc (.cells (in16 k) 26) = W at *
 have O := Own.nil W W.heap.size
 have K00 := K
 have b0 := Below.refl W.heap.size W
 have c14 := K.k14
 rw [h1] at c14
 have c0 := K.r0
 go_upto_region 4 with (at_builtin; refine append_byte rfl _ _ rfl W.heap.size _ [] rfl O b0.size 243 (by decide) rfl (by decide) ?_; intro v1 W1 O1 b1)
 replace K := K.below b1
 have c0 := K.r0
 go_upto_region 6 with fail
 have bb := b1
 have hK := K
 clear c0 c14
 replace O1 := O1.drew
 have bd := bb.trans (drew_below W1 bb.size)
 refine wp_region_held_drew (S := fun W => RK w W r k) (by kernel_rfl) hK.drew (fun hHeld => ?_)
 refine tk 0 ?_ ?_ hHeld ?_
 rotate_left
 ·intro W hS
  go_simp
  try rfl
 simp only [pT]
 refine tk 1 ?_ ?_ hHeld ?_
 rotate_left
 ·intro W hS
  go_simp
  try rfl
 simp only [pT]
 refine tk 2 ?_ ?_ hHeld ?_
 rotate_left
 ·intro W hS
  have c0 := hS.r0
  go_simp
  try rfl
 simp only [pT]
 refine tk 3 ?_ ?_ hHeld ?_
 rotate_left
 ·intro W hS
  go_simp
  try rfl
 simp only [pT]
 refine tk 4 ?_ ?_ hHeld ?_
 rotate_left
 ·intro W hS
  have c1 := hS.k1
  go_simp
  try rfl
 simp only [pT]
 refine tk 5 ?_ ?_ hHeld ?_
 rotate_left
 ·intro W hS
  go_simp
  try rfl
 simp only [pT]
 refine tk 6 (enV r) ?_ hHeld ?_
 ·intro W hS
  exact run_load_row (by rfl) (by rfl) 52 _ (0, 0) _ hS.er.h Tryd.underlying52 rfl (szEn r)
 simp only [pS]
 refine tk 7 (inV k) ?_ hHeld ?_
 ·intro W hS
  exact run_load_row (by rfl) (by rfl) 26 _ (0, 0) _ hS.ik.h Tryd.underlying26 rfl (szIn k)
 simp only [pS]
 refine rd 8 (fun K hK => ?_)
 go_simp
 with_reducible refine (hO.out _).mono ?_
 rintro e w3 ⟨rfl, b3⟩
 have hH3 := hHeld.below b3
 have O3 := O1.below b3
 refine hK.out _ _ hH3 (fun _ => ?_)
 clear hK K
 try simp only [pS]
 refine tk 9 ?_ ?_ hH3 ?_
 rotate_left
 ·intro W hS
  go_simp
  try rfl
 simp only [pT]
 refine tk 10 ?_ ?_ hH3 ?_
 rotate_left
 ·intro W hS
  go_simp
  try rfl
 simp only [pT]
 refine tk 11 ?_ ?_ hH3 ?_
 rotate_left
 ·intro W hS
  go_simp
  try rfl
 simp only [pT]
 refine rd 12 (fun K hK => ?_)
 go_simp
 have hH4 := hH3.below ((Below.refl _ w3).alloc (Nat.le_refl _) (.cells #[.int .u8 ((r.code + k.c + x.r) % 256)] 5))
 refine hK.out _ _ hH4 (fun _ => ?_)
 clear hK K
 try simp only [pT]
 refine rd 13 (fun K hK => ?_)
 refine append_byteK _ _ rfl W.heap.size _ ([] ++ [243]) rfl O3 (Nat.le_trans bd.size b3.size) _ hz rfl (by simp) (fun v5 w5 O5 b5 => ?_)
 have hH5 : RK w w5 r k := K00.below ((bd.trans (b3.mono bd.size)).trans b5)
 refine hK.out _ _ hH5 (fun _ => ?_)
 clear hK K
 try simp only [pT]
 refine tk 14 ?_ ?_ hH5 ?_
 rotate_left
 ·intro W hS
  go_simp
  try rfl
 simp only [pT]
 refine wpAnyH_done (by kernel_rfl) ?_ _
 go_wp2_with fail
 go_ret
 exact ⟨_, rfl, O5.base K00.b.size, hH5.b⟩
theorem opening_ft {r : En} {k : In} (hr : OkE r) (hk : OkI k) (h1 : k.rep = false) (h2 : (decide (r.code > 255)) = true) (w : World) : Calls Tryd.prog 36 #[enV r, inV k] w fun e w' => ∃ v, e = .returned v ∧ Own w' w.heap.size v ([] ++ [r.code / 256] ++ [(r.code + k.c + (oprE r k 1).r) % 256]) ∧ Below w.heap.size w w' := by
 have K := RK.start w r k
 have hO := Lib.hid (fun W => operand_any r k 1 W)
 have ho := (hk.opr r 1).r
 have hc := hr.code
 have hkc := hk.c
 generalize oprE r k 1 = x at *
 have s1 : IntKind.i64.wrap (r.code + k.c) = r.code + k.c := by rw [IntKind.wrap_i64]; omega
 have s2 : IntKind.i64.wrap (r.code + k.c + x.r) = r.code + k.c + x.r := by rw [IntKind.wrap_i64]; omega
 have hz : 0 ≤ (r.code + k.c + x.r) % 256 ∧ (r.code + k.c + x.r) % 256 ≤ 255 := by omega
 have hz2 : 0 ≤ r.code / 256 ∧ r.code / 256 ≤ 255 := by omega
 have s3 : r.code / 256 % 256 = r.code / 256 := by omega
 go_enter Tryd.func36, Tryd.ntmps36
 go_upto_region 1 with fail
 generalize (w.alloc (.cells (enC r) 52)).alloc (.cells (in16 k) 26) = W at *
 have O := Own.nil W W.heap.size
 have K00 := K
 have b0 := Below.refl W.heap.size W
 have c14 := K.k14
 rw [h1] at c14
 have c0 := K.r0
 have K0 := K
 go_upto_region 6 with (at_builtin; refine append_byte rfl _ _ rfl W.heap.size _ ([]) rfl O b0.size (r.code / 256) hz2 rfl (by simp) ?_; intro v2 W2 O2 b2)
 have K2 : RK w W2 r k := K0.below (b0.trans b2)
 clear K
 have K := K2
 have bb := b0.trans b2
 have hK := K
 clear c0 c14
 replace O2 := O2.drew
 have bd := bb.trans (drew_below W2 bb.size)
 refine wp_region_held_drew (S := fun W => RK w W r k) (by kernel_rfl) hK.drew (fun hHeld => ?_)
 refine tk 0 ?_ ?_ hHeld ?_
 rotate_left
 ·intro W hS
  go_simp
  try rfl
 simp only [pT]
 refine tk 1 ?_ ?_ hHeld ?_
 rotate_left
 ·intro W hS
  go_simp
  try rfl
 simp only [pT]
 refine tk 2 ?_ ?_ hHeld ?_
 rotate_left
 ·intro W hS
  have c0 := hS.r0
  go_simp
  try rfl
 simp only [pT]
 refine tk 3 ?_ ?_ hHeld ?_
 rotate_left
 ·intro W hS
  go_simp
  try rfl
 simp only [pT]
 refine tk 4 ?_ ?_ hHeld ?_
 rotate_left
 ·intro W hS
  have c1 := hS.k1
  go_simp
  try rfl
 simp only [pT]
 refine tk 5 ?_ ?_ hHeld ?_
 rotate_left
 ·intro W hS
  go_simp
  try rfl
 simp only [pT]
 refine tk 6 (enV r) ?_ hHeld ?_
 ·intro W hS
  exact run_load_row (by rfl) (by rfl) 52 _ (0, 0) _ hS.er.h Tryd.underlying52 rfl (szEn r)
 simp only [pS]
 refine tk 7 (inV k) ?_ hHeld ?_
 ·intro W hS
  exact run_load_row (by rfl) (by rfl) 26 _ (0, 0) _ hS.ik.h Tryd.underlying26 rfl (szIn k)
 simp only [pS]
 refine rd 8 (fun K hK => ?_)
 go_simp
 with_reducible refine (hO.out _).mono ?_
 rintro e w3 ⟨rfl, b3⟩
 have hH3 := hHeld.below b3
 have O3 := O2.below b3
 refine hK.out _ _ hH3 (fun _ => ?_)
 clear hK K
 try simp only [pS]
 refine tk 9 ?_ ?_ hH3 ?_
 rotate_left
 ·intro W hS
  go_simp
  try rfl
 simp only [pT]
 refine tk 10 ?_ ?_ hH3 ?_
 rotate_left
 ·intro W hS
  go_simp
  try rfl
 simp only [pT]
 refine tk 11 ?_ ?_ hH3 ?_
 rotate_left
 ·intro W hS
  go_simp
  try rfl
 simp only [pT]
 refine rd 12 (fun K hK => ?_)
 go_simp
 have hH4 := hH3.below ((Below.refl _ w3).alloc (Nat.le_refl _) (.cells #[.int .u8 ((r.code + k.c + x.r) % 256)] 5))
 refine hK.out _ _ hH4 (fun _ => ?_)
 clear hK K
 try simp only [pT]
 refine rd 13 (fun K hK => ?_)
 refine append_byteK _ _ rfl W.heap.size _ ([] ++ [r.code / 256]) rfl O3 (Nat.le_trans bd.size b3.size) _ hz rfl (by simp) (fun v5 w5 O5 b5 => ?_)
 have hH5 : RK w w5 r k := K00.below ((bd.trans (b3.mono bd.size)).trans b5)
 refine hK.out _ _ hH5 (fun _ => ?_)
 clear hK K
 try simp only [pT]
 refine tk 14 ?_ ?_ hH5 ?_
 rotate_left
 ·intro W hS
  go_simp
  try rfl
 simp only [pT]
 refine wpAnyH_done (by kernel_rfl) ?_ _
 go_wp2_with fail
 go_ret
 exact ⟨_, rfl, O5.base K00.b.size, hH5.b⟩
theorem opening_tt {r : En} {k : In} (hr : OkE r) (hk : OkI k) (h1 : k.rep = true) (h2 : (decide (r.code > 255)) = true) (w : World) : Calls Tryd.prog 36 #[enV r, inV k] w fun e w' => ∃ v, e = .returned v ∧ Own w' w.heap.size v ([] ++ [243] ++ [r.code / 256] ++ [(r.code + k.c + (oprE r k 1).r) % 256]) ∧ Below w.heap.size w w' := by
 have K := RK.start w r k
 have hO := Lib.hid (fun W => operand_any r k 1 W)
 have ho := (hk.opr r 1).r
 have hc := hr.code
 have hkc := hk.c
 generalize oprE r k 1 = x at *
 have s1 : IntKind.i64.wrap (r.code + k.c) = r.code + k.c := by rw [IntKind.wrap_i64]; omega
 have s2 : IntKind.i64.wrap (r.code + k.c + x.r) = r.code + k.c + x.r := by rw [IntKind.wrap_i64]; omega
 have hz : 0 ≤ (r.code + k.c + x.r) % 256 ∧ (r.code + k.c + x.r) % 256 ≤ 255 := by omega
 have hz2 : 0 ≤ r.code / 256 ∧ r.code / 256 ≤ 255 := by omega
 have s3 : r.code / 256 % 256 = r.code / 256 := by omega
 go_enter Tryd.func36, Tryd.ntmps36
 go_upto_region 1 with fail
 generalize (w.alloc (.cells (enC r) 52)).alloc (.cells (in16 k) 26) = W at *
 have O := Own.nil W W.heap.size
 have K00 := K
 have b0 := Below.refl W.heap.size W
 have c14 := K.k14
 rw [h1] at c14
 have c0 := K.r0
 go_upto_region 4 with (at_builtin; refine append_byte rfl _ _ rfl W.heap.size _ [] rfl O b0.size 243 (by decide) rfl (by decide) ?_; intro v1 W1 O1 b1)
 have K0 := K
 replace K := K.below b1
 have c0 := K.r0
 go_upto_region 6 with (at_builtin; refine append_byte rfl _ _ rfl W.heap.size _ ([] ++ [243]) rfl O1 b1.size (r.code / 256) hz2 rfl (by simp) ?_; intro v2 W2 O2 b2)
 have K2 : RK w W2 r k := K0.below (b1.trans b2)
 clear K
 have K := K2
 have bb := b1.trans b2
 have hK := K
 clear c0 c14
 replace O2 := O2.drew
 have bd := bb.trans (drew_below W2 bb.size)
 refine wp_region_held_drew (S := fun W => RK w W r k) (by kernel_rfl) hK.drew (fun hHeld => ?_)
 refine tk 0 ?_ ?_ hHeld ?_
 rotate_left
 ·intro W hS
  go_simp
  try rfl
 simp only [pT]
 refine tk 1 ?_ ?_ hHeld ?_
 rotate_left
 ·intro W hS
  go_simp
  try rfl
 simp only [pT]
 refine tk 2 ?_ ?_ hHeld ?_
 rotate_left
 ·intro W hS
  have c0 := hS.r0
  go_simp
  try rfl
 simp only [pT]
 refine tk 3 ?_ ?_ hHeld ?_
 rotate_left
 ·intro W hS
  go_simp
  try rfl
 simp only [pT]
 refine tk 4 ?_ ?_ hHeld ?_
 rotate_left
 ·intro W hS
  have c1 := hS.k1
  go_simp
  try rfl
 simp only [pT]
 refine tk 5 ?_ ?_ hHeld ?_
 rotate_left
 ·intro W hS
  go_simp
  try rfl
 simp only [pT]
 refine tk 6 (enV r) ?_ hHeld ?_
 ·intro W hS
  exact run_load_row (by rfl) (by rfl) 52 _ (0, 0) _ hS.er.h Tryd.underlying52 rfl (szEn r)
 simp only [pS]
 refine tk 7 (inV k) ?_ hHeld ?_
 ·intro W hS
  exact run_load_row (by rfl) (by rfl) 26 _ (0, 0) _ hS.ik.h Tryd.underlying26 rfl (szIn k)
 simp only [pS]
 refine rd 8 (fun K hK => ?_)
 go_simp
 with_reducible refine (hO.out _).mono ?_
 rintro e w3 ⟨rfl, b3⟩
 have hH3 := hHeld.below b3
 have O3 := O2.below b3
 refine hK.out _ _ hH3 (fun _ => ?_)
 clear hK K
 try simp only [pS]
 refine tk 9 ?_ ?_ hH3 ?_
 rotate_left
 ·intro W hS
  go_simp
  try rfl
 simp only [pT]
 refine tk 10 ?_ ?_ hH3 ?_
 rotate_left
 ·intro W hS
  go_simp
  try rfl
 simp only [pT]
 refine tk 11 ?_ ?_ hH3 ?_
 rotate_left
 ·intro W hS
  go_simp
  try rfl
 simp only [pT]
 refine rd 12 (fun K hK => ?_)
 go_simp
 have hH4 := hH3.below ((Below.refl _ w3).alloc (Nat.le_refl _) (.cells #[.int .u8 ((r.code + k.c + x.r) % 256)] 5))
 refine hK.out _ _ hH4 (fun _ => ?_)
 clear hK K
 try simp only [pT]
 refine rd 13 (fun K hK => ?_)
 refine append_byteK _ _ rfl W.heap.size _ ([] ++ [243] ++ [r.code / 256]) rfl O3 (Nat.le_trans bd.size b3.size) _ hz rfl (by simp) (fun v5 w5 O5 b5 => ?_)
 have hH5 : RK w w5 r k := K00.below ((bd.trans (b3.mono bd.size)).trans b5)
 refine hK.out _ _ hH5 (fun _ => ?_)
 clear hK K
 try simp only [pT]
 refine tk 14 ?_ ?_ hH5 ?_
 rotate_left
 ·intro W hS
  go_simp
  try rfl
 simp only [pT]
 refine wpAnyH_done (by kernel_rfl) ?_ _
 go_wp2_with fail
 go_ret
 exact ⟨_, rfl, O5.base K00.b.size, hH5.b⟩
theorem opening_any {r : En} {k : In} (hr : OkE r) (hk : OkI k) (w : World) : Calls Tryd.prog 36 #[enV r, inV k] w fun e w' => ∃ v, e = .returned v ∧ Own w' w.heap.size v (openE r k) ∧ Below w.heap.size w w' := by
 unfold openE
 by_cases h2 : 255 < r.code
 ·rw [if_pos h2]
  cases h1 : k.rep
  ·exact opening_ft hr hk h1 (by simp; omega) w
  ·exact opening_tt hr hk h1 (by simp; omega) w
 ·rw [if_neg h2]
  cases h1 : k.rep
  ·exact opening_ff hr hk h1 (by simp; omega) w
  ·exact opening_tf hr hk h1 (by simp; omega) w
theorem places_len {k : In} {r : En} : (placesE r k).length ≤ 6 ∧ ∀ t ∈ placesE r k, t.length ≤ 6 := by
 unfold placesE
 split
 ·exact ⟨by simp, fun t ht => by simp at ht; subst ht; simp⟩
 ·generalize oprE r k 3 = o
  generalize r.num + (oprE r k 2).r = n
  unfold plE
  split
  ·exact ⟨by simp, fun t ht => by simp at ht; subst ht; simp⟩
  ·split
   ·have h0 := dis_len o 0
    have h1 := dis_len o 1
    have h2 := dis_len o 2
    unfold memE
    refine ⟨by simp, fun t ht => ?_⟩
    simp only [List.mem_append, List.mem_cons, List.not_mem_nil, or_false] at ht
    rcases ht with ((rfl | rfl) | rfl | rfl) | rfl | rfl <;> simp <;> omega
   ·exact ⟨by simp, fun t ht => by simp at ht⟩
theorem open_len {k : In} {r : En} : (openE r k).length ≤ 3 := by unfold openE; (repeat' split) <;> simp
theorem num_len (o : On) (d : Int) : (numE o d).length ≤ 4 := by unfold numE wB; (repeat' split) <;> simp
theorem Ls.four {W : World} {u1 u2 u3 u4 : Value} {z1 z2 z3 z4 : List Int} (h1 : Bs W u1 z1) (h2 : Bs W u2 z2) (h3 : Bs W u3 z3) (h4 : Bs W u4 z4) : Ls (W.alloc (.cells #[u1, u2, u3, u4] 28)) W.heap.size [u1, u2, u3, u4] [z1, z2, z3, z4] := by
 have k := (Below.refl W.heap.size W).alloc (Nat.le_refl _) (.cells #[u1, u2, u3, u4] 28)
 refine ⟨Blk.new W 28 _, rfl, fun i hi => ?_⟩
 match i, hi with
 | 0, _ => exact h1.below k
 | 1, _ => exact h2.below k
 | 2, _ => exact h3.below k
 | 3, _ => exact h4.below k
 | (n + 4), h => exact absurd h (by simp)
theorem concat_four {W : World} {u1 u2 u3 u4 : Value} {z1 z2 z3 z4 : List Int} (h1 : Bs W u1 z1) (h2 : Bs W u2 z2) (h3 : Bs W u3 z3) (h4 : Bs W u4 z4) (hl : z1.length + z2.length + z3.length + z4.length ≤ 100) :
  Calls Tryd.prog 35 #[.slice (some ⟨W.heap.size, 0, none⟩) 4 4] (W.alloc (.cells #[u1, u2, u3, u4] 28)) fun e w' => ∃ v, e = .returned v ∧ Own w' (W.heap.size + 1) v (z1 ++ z2 ++ z3 ++ z4) ∧ Below W.heap.size W w' := by
 have k := (Below.refl W.heap.size W).alloc (Nat.le_refl _) (.cells #[u1, u2, u3, u4] 28)
 refine (concat_any (Ls.four h1 h2 h3 h4) rfl (by simp) (by simp; omega)).mono ?_
 rintro e w' ⟨v, rfl, o, b⟩
 refine ⟨v, rfl, ?_, k.trans (b.mono k.size)⟩
 have e2 : (W.alloc (.cells #[u1, u2, u3, u4] 28)).heap.size = W.heap.size + 1 := by simp
 rw [e2] at o
 simpa using o
theorem append_oneK {o : Oper} {a : Act} {w : World} {K : Act → World → Prop} {Q : Exit → Act → World → Prop} (s x : Operand)
  (ho : o.op = .call { callee := .builtin .append, args := #[s, x], argTypes := #[53, 53] })
  (N : Nat) (v : Value) (L : List (List Int)) (hs : a.eval s = v) (h : LL w N v L) (hN : N ≤ w.heap.size) {u1 : Value} {z1 : List Int} {M1 : Nat} (o1 : Own w M1 u1 z1)
  (h1 : ∀ k, v.ownBlock = some k → k < M1) (hx : a.eval x = .slice (some ⟨w.heap.size, 0, none⟩) 1 1) (hl : L.length + 1 ≤ 100)
  (k : ∀ v' w', LL w' N v' (L ++ [z1]) → Below N w w' → K (a.put o.dst v') w') : o.wp Tryd.prog a (w.alloc (.cells #[u1] 28)) K Q := by
 have kk := (Below.refl w.heap.size w).alloc (Nat.le_refl _) (.cells #[u1] 28)
 have hS : Ls (w.alloc (.cells #[u1] 28)) w.heap.size [u1] [z1] := by
  refine ⟨Blk.new w 28 _, rfl, fun i hi => ?_⟩
  match i, hi with
  | 0, _ => exact o1.bs.below kk
  | (n + 1), h => exact absurd h (by simp)
 have hE : ∀ i, i < [z1].length → El (w.alloc (.cells #[u1] 28)) v.ownBlock ([u1].getD i undef) ([z1].getD i []) := by
  intro i hi
  match i, hi with
  | 0, _ => exact (El.own o1 h1).below kk
  | (n + 1), h => exact absurd h (by simp)
 exact append_llK s x ho N v L [z1] hs (h.below kk) (Nat.le_trans hN kk.size) w.heap.size 1 [u1] hx rfl hS hE hl (fun v' w' h2 b => k v' w' h2 ((kk.mono hN).trans b))
theorem map_take_succ {f : List Int → List Int} (L : List (List Int)) {n : Nat} (h : n < L.length) : (L.take (n + 1)).map f = (L.take n).map f ++ [f (L.getD n [])] := by
 rw [List.take_add_one, List.map_append]
 simp [List.getD_eq_getElem?_getD, h]
theorem tries_any {r : En} {k : In} (hr : OkE r) (hk : OkI k) (w : World) : Calls Tryd.prog 19 #[enV r, inV k] w fun e w' => ∃ v, e = .returned v ∧ LL w' w.heap.size v (triesE r k) ∧ Below w.heap.size w w' := by
 have K := RK.start w r k
 have hOp := Lib.hid (fun W => opening_any hr hk W)
 have hPl := Lib.hid (fun W => places_any hr hk W)
 have hNA := Lib.hid (fun W => num_any k.A hk.A r.a W)
 have hNB := Lib.hid (fun W => num_any k.B hk.B r.b W)
 have hpl := Lib.hid (places_len (k := k) (r := r))
 have ht : triesE r k = (placesE r k).map (fun p => openE r k ++ p ++ numE k.A r.a ++ numE k.B r.b) := rfl
 rw [ht]
 clear ht
 generalize placesE r k = P at *
 go_enter Tryd.func19, Tryd.ntmps19
 go_upto_region 1 with fail
 generalize (w.alloc (.cells (enC r) 52)).alloc (.cells (in16 k) 26) = W at *
 go_wp2_with (first | (with_reducible refine load_en rfl _ rfl w.heap.size r rfl K.er ?_) | (with_reducible refine load_inR rfl _ rfl (w.heap.size + 1) (in16 k) rfl K.ik (in16_size _) ?_) | ((with_reducible refine (hPl.out _).mono ?_); rintro e W2 ⟨v2, rfl, L2, b2⟩; obtain ⟨g2, c2, rfl, hg2⟩ := L2.lens))
 have K2 := K.below b2
 clear hPl
 go_loopw [5, 12] (fun vv ii X => ∃ n : Nat, n ≤ P.length ∧ ii = .int .i64 n ∧ LL X W2.heap.size vv ((P.take n).map (fun p => openE r k ++ p ++ numE k.A r.a ++ numE k.B r.b)) ∧ Below W2.heap.size W2 X) (fun _ ii _ => P.length - (intOf ii).toNat)
 case atStart => exact ⟨0, by omega, rfl, LL.nil _ _, Below.refl _ _⟩
 case round =>
  obtain ⟨n, hn, rfl, hL, b⟩ := hrel
  have L2' := L2.below b
  have K3 := K2.below b
  by_cases hlt : n < P.length
  ·have hz : ((n : Int) < (P.length : Int)) = True := eq_true (by omega)
   have hP6 := hpl.out.1
   have hwr : IntKind.i64.wrap ((n : Int) + 1) = (n : Int) + 1 := by rw [IntKind.wrap_i64]; omega
   obtain ⟨g3, c3, e3, hg3⟩ := L2'.lens
   simp only [Value.slice.injEq, true_and] at e3
   obtain ⟨rfl, rfl⟩ := e3
   obtain ⟨G, rfl, hG⟩ := hg3 (by omega)
   obtain ⟨u, hcu, hbu⟩ := hG n hlt
   have hpm : P.getD n [] ∈ P := by simp [List.getD_eq_getElem?_getD, hlt]
   have hp6 := hpl.out.2 _ hpm
   have hlen : (openE r k).length + (P.getD n []).length + (numE k.A r.a).length + (numE k.B r.b).length ≤ 100 := by
    have := open_len (k := k) (r := r)
    have := num_len k.A r.a
    have := num_len k.B r.b
    omega
   have hts := Lib.hid (show (P.take (n + 1)).map (fun p => openE r k ++ p ++ numE k.A r.a ++ numE k.B r.b) = (P.take n).map (fun p => openE r k ++ p ++ numE k.A r.a ++ numE k.B r.b) ++ [openE r k ++ P.getD n [] ++ numE k.A r.a ++ numE k.B r.b] from map_take_succ P hlt)
   have hn100 : ((P.take n).map (fun p => openE r k ++ p ++ numE k.A r.a ++ numE k.B r.b)).length + 1 ≤ 100 := by have := hpl.out.1; simp; omega
   generalize P.getD n [] = p at *
   obtain ⟨pa, pc, rfl, hpa⟩ := hbu
   go_upto_region 5 with fail
   have hp : Bs wr.drew (.slice pa p.length pc) p := ⟨pa, pc, rfl, hpa.below (drew_below _ (Nat.le_refl _))⟩
   refine wp_region_held_drew (S := fun W => RK w W r k) (by kernel_rfl) K3.drew (fun hHeld => ?_)
   refine tk 0 ?_ ?_ hHeld ?_
   rotate_left
   ·intro W hS
    go_simp
    try rfl
   simp only [pT]
   refine tk 1 (enV r) ?_ hHeld ?_
   ·intro W hS
    exact run_load_row (by rfl) (by rfl) 52 _ (0, 0) _ hS.er.h Tryd.underlying52 rfl (szEn r)
   simp only [pS]
   refine tk 2 (inV k) ?_ hHeld ?_
   ·intro W hS
    exact run_load_row (by rfl) (by rfl) 26 _ (0, 0) _ hS.ik.h Tryd.underlying26 rfl (szIn k)
   simp only [pS]
   refine tk 4 ?_ ?_ hHeld ?_
   rotate_left
   ·intro W hS
    go_simp
    try rfl
   simp only [pT]
   refine tk 5 ?_ ?_ hHeld ?_
   rotate_left
   ·intro W hS
    go_simp
    try rfl
   simp only [pT]
   refine tk 6 (opV k.A) ?_ hHeld ?_
   ·intro W hS
    have q0 := hS.ik.cell (i := 2) (v := .int .i64 k.A.k) rfl; have q1 := hS.ik.cell (i := 3) (v := .int .i64 k.A.r) rfl; have q2 := hS.ik.cell (i := 4) (v := .int .u32 k.A.m) rfl; have q3 := hS.ik.cell (i := 5) (v := .int .i64 k.A.b) rfl; have q4 := hS.ik.cell (i := 6) (v := .int .i64 k.A.x) rfl; have q5 := hS.ik.cell (i := 7) (v := .int .u32 k.A.s) rfl; go_simp
   simp only [pS]
   refine tk 7 ?_ ?_ hHeld ?_
   rotate_left
   ·intro W hS
    go_simp
    try rfl
   simp only [pT]
   refine tk 8 ?_ ?_ hHeld ?_
   rotate_left
   ·intro W hS
    have c0 := hS.r2
    go_simp
    try rfl
   simp only [pT]
   refine tk 10 ?_ ?_ hHeld ?_
   rotate_left
   ·intro W hS
    go_simp
    try rfl
   simp only [pT]
   refine tk 11 (opV k.B) ?_ hHeld ?_
   ·intro W hS
    have q0 := hS.ik.cell (i := 8) (v := .int .i64 k.B.k) rfl; have q1 := hS.ik.cell (i := 9) (v := .int .i64 k.B.r) rfl; have q2 := hS.ik.cell (i := 10) (v := .int .u32 k.B.m) rfl; have q3 := hS.ik.cell (i := 11) (v := .int .i64 k.B.b) rfl; have q4 := hS.ik.cell (i := 12) (v := .int .i64 k.B.x) rfl; have q5 := hS.ik.cell (i := 13) (v := .int .u32 k.B.s) rfl; go_simp
   simp only [pS]
   refine tk 12 ?_ ?_ hHeld ?_
   rotate_left
   ·intro W hS
    go_simp
    try rfl
   simp only [pT]
   refine tk 13 ?_ ?_ hHeld ?_
   rotate_left
   ·intro W hS
    have c1 := hS.r3
    go_simp
    try rfl
   simp only [pT]
   refine rd 3 (fun K hK => ?_)
   go_simp
   with_reducible refine (hOp.out _).mono ?_
   rintro e w3 ⟨x1, rfl, o3, b3⟩
   obtain ⟨y1, t1, rfl, -⟩ := o3.ba
   have hH3 := hHeld.below b3
   have hp3 := hp.below b3
   refine hK.out _ _ hH3 (fun _ => ?_)
   clear hK K
   try simp only [pS]
   refine rd 9 (fun K hK => ?_)
   go_simp
   with_reducible refine (hNA.out _).mono ?_
   rintro e w4 ⟨x2, rfl, o4, b4⟩
   obtain ⟨y2, t2, rfl, -⟩ := id o4
   have hH4 := hH3.below b4
   have hp4 := hp3.below b4
   refine hK.out _ _ hH4 (fun _ => ?_)
   clear hK K
   try simp only [pS]
   refine rd 14 (fun K hK => ?_)
   go_simp
   with_reducible refine (hNB.out _).mono ?_
   rintro e w5 ⟨x3, rfl, o5, b5⟩
   obtain ⟨y3, t3, rfl, -⟩ := id o5
   have hH5 := hH4.below b5
   have hp5 := hp4.below b5
   refine hK.out _ _ hH5 (fun _ => ?_)
   clear hK K
   try simp only [pS]
   refine rd 15 (fun K hK => ?_)
   go_simp
   have hH6 := hH5.below ((Below.refl _ w5).alloc (Nat.le_refl _) (.cells #[.slice y1 (openE r k).length t1, .slice pa p.length pc, .slice y2 (numE k.A r.a).length t2, .slice y3 (numE k.B r.b).length t3] 28))
   refine hK.out _ _ hH6 (fun _ => ?_)
   clear hK K
   try simp only [pT]
   refine rd 16 (fun K hK => ?_)
   go_simp
   with_reducible refine (concat_four (o3.bs.below (b4.trans (b5.mono b4.size))) hp5 (o4.below b5) o5 hlen).mono ?_
   rintro e w7 ⟨x4, rfl, o7, b7⟩
   replace hts := Lib.hid hts.out
   generalize hq : openE r k ++ p ++ numE k.A r.a ++ numE k.B r.b = q at o7
   have HQ := Lib.hid hq
   clear hq
   obtain ⟨y4, t4, rfl, -⟩ := o7.ba
   have hH7 := hH5.below b7
   refine hK.out _ _ hH7 (fun _ => ?_)
   clear hK K
   try simp only [pS]
   refine rd 17 (fun K hK => ?_)
   go_simp
   have hH8 := fun (c : Obj) => hH7.below ((Below.refl _ w7).alloc (Nat.le_refl _) c)
   refine hK.out _ _ (hH8 _) (fun _ => ?_)
   clear hK K
   try simp only [pT]
   refine rd 18 (fun K hK => ?_)
   rw [if_pos (by kernel_rfl)]
   have s35 := Nat.le_trans b3.size (Nat.le_trans b4.size b5.size)
   have k7 := ((b3.trans (b4.mono b3.size)).trans (b5.mono (Nat.le_trans b3.size b4.size))).trans (b7.mono s35)
   have k9 := (b.trans (drew_below wr b.size)).trans (k7.mono b.size)
   have hL7 := (hL.below (drew_below wr (Nat.le_refl _))).below k7
   refine append_oneK _ _ rfl W2.heap.size _ _ rfl hL7 k9.size o7 (fun j hj => by have := (hL.lt hj).2; have e : wr.drew.heap.size = wr.heap.size := rfl; omega) rfl hn100 (fun v9 w9 L9 b9 => ?_)
   have hH9 : RK w w9 r k := K2.below (k9.trans b9)
   refine hK.out _ _ hH9 (fun _ => ?_)
   clear hK K
   try simp only [pT]
   refine tk 19 ?_ ?_ hH9 ?_
   rotate_left
   ·intro W hS
    go_simp
    try rfl
   simp only [pT]
   refine wpAnyH_done (by kernel_rfl) ?_ _
   go_wp2_with fail
   go_roundw
   case rel => exact ⟨n + 1, by omega, by go_num, by rw [hts.out, HQ.out]; exact L9, k9.trans b9⟩
   case measure => simp [intOf]; omega
  ·have hz : ((n : Int) < (P.length : Int)) = False := eq_false (by omega)
   obtain rfl : n = P.length := by omega
   go_wp2_with fail
   go_ret
   exact ⟨_, rfl, by rw [List.take_length] at hL; exact hL.base K2.b.size, K2.b.trans (b.mono K2.b.size)⟩
end Go.Proofs.YtcgleggdochbeaaDoor
