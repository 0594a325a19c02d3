import Derived.Test.YtcgleggdochbeaaDoorS29
namespace Go.Proofs.YtcgleggdochbeaaDoor
open Go.RowKit
set_option maxRecDepth 100000
set_option maxHeartbeats 8000000
set_option linter.unusedVariables false
set_option linter.unusedSimpArgs false
set_option linter.unusedSectionVars false
theorem wp_bb (z : Int) (hz : 0 ≤ z ∧ z ≤ 255) : ∀ y ∈ [z], 0 ≤ y ∧ y ≤ 255 := by simpa using hz
theorem shl3 {n : Int} (h : 0 ≤ n ∧ n < 8) : IntKind.i64.wrap (n * 8) = 8 * n := by rw [IntKind.wrap_i64]; omega
theorem or_192 : ∀ n : Nat, n < 8 → ∀ r : Nat, r < 8 → bits .or .i64 (bits .or .i64 192 (8 * (n : Int))) (r : Int) = 192 + 8 * (n : Int) + (r : Int) := of_decide_eq_true (by kernel_rfl)
theorem Blk.grown {W W' : World} {N : Nat} {t : TypeId} {cs : Array Value} {r : Option Nat} (k : Blk W N t cs) (g : W.grownBy W' r) (h : some N ≠ r) : Blk W' N t cs := ⟨(g.block N k.lt h).trans k.h⟩
theorem LR.one {w : World} {N g : Nat} {u : Value} {z : List Int} (k : Blk w g 28 #[u]) (hN : N ≤ g) (O : Own w N u z) (hz : z ≠ []) (h : u.ownBlock ≠ some g) : LR w N (.slice (some ⟨g, 0, none⟩) 1 1) [z] [u] := by
 refine ⟨⟨rfl, .inr ⟨g, 1, _, rfl, hN, k.h, Nat.le_refl _, by decide, rfl, rfl⟩⟩, ?_, ?_, ?_, ?_⟩
 ·intro i hi; match i, hi with | 0, _ => exact O | (n + 1), h => exact absurd h (by simp)
 ·intro i hi; match i, hi with | 0, _ => exact hz | (n + 1), h => exact absurd h (by simp)
 ·intro i hi; match i, hi with | 0, _ => exact h | (n + 1), h => exact absurd h (by simp)
 ·intro i j hi hj hne; simp at hi hj; omega
theorem mod_reg {w : World} {p : Value} {xs : List Int} (hp : Bs w p xs) (hx0 : xs ≠ []) (hx9 : xs.length ≤ 9) (m : On) (h1 : (m.k == 1) = true) (hr : 0 ≤ m.r ∧ m.r < 8) {n : Int} (hn : 0 ≤ n ∧ n < 8) :
  Calls Tryd.prog 52 #[p, opV m, .int .i64 n] w fun e w' => ∃ v vs, e = .returned v ∧ LR w' w.heap.size v [xs ++ [192 + 8 * n + m.r]] vs ∧ Below w.heap.size w w' := by
 have hzz := wp_bb (192 + 8 * n + m.r) (by omega)
 have e3 := shl3 hn
 have eo : bits .or .i64 (bits .or .i64 192 (8 * n)) m.r = 192 + 8 * n + m.r := by
  obtain ⟨a, rfl⟩ := Int.eq_ofNat_of_zero_le hn.1
  obtain ⟨b, hb⟩ := Int.eq_ofNat_of_zero_le hr.1
  rw [hb]
  exact or_192 a (by omega) b (by omega)
 have em : IntKind.u8.wrap (192 + 8 * n + m.r) = 192 + 8 * n + m.r := by rw [IntKind.wrap_u8]; omega
 obtain ⟨pa, pc, rfl, hB⟩ := hp
 have hpl : xs.length ≤ 9 := hx9
 generalize hpq : xs.length = pl at *
 have hpq := Lib.hid hpq
 go_enter Tryd.func52, Tryd.ntmps52
 go_upto_region 2 with fail
 have b0 : Below w.heap.size w (w.alloc (.cells (op6 m) 24)).drew := ((Below.refl _ _).alloc (Nat.le_refl _) _).trans (drew_below _ (by simp))
 have hH0 : Blk (w.alloc (.cells (op6 m) 24)).drew w.heap.size 24 (op6 m) := (Blk.new _ _ _).drew
 have hB0 := hB.below b0
 refine wp_region_held_drew (S := fun W => Blk W w.heap.size 24 (op6 m)) (by kernel_rfl) hH0 (fun hHeld => ?_)
 generalize (w.alloc (.cells (op6 m) 24)).drew = W0 at *
 refine tk 0 ?_ ?_ hHeld ?_
 rotate_left
 ·intro W hS
  go_simp
  try rfl
 simp only [pT]
 refine tk 2 ?_ ?_ hHeld ?_
 rotate_left
 ·intro W hS
  go_simp
  try rfl
 simp only [pT]
 refine tk 3 ?_ ?_ hHeld ?_
 rotate_left
 ·intro W hS
  go_simp
  try rfl
 simp only [pT]
 refine tk 4 ?_ ?_ hHeld ?_
 rotate_left
 ·intro W hS
  go_simp
  try rfl
 simp only [pT]
 refine tk 5 ?_ ?_ hHeld ?_
 rotate_left
 ·intro W hS
  go_simp
  try rfl
 simp only [pT]
 refine tk 6 ?_ ?_ hHeld ?_
 rotate_left
 ·intro W hS
  have c1 := hS.cell (i := 1) (v := .int .i64 m.r) rfl
  go_simp
  try rfl
 simp only [pT]
 refine tk 7 ?_ ?_ hHeld ?_
 rotate_left
 ·intro W hS
  go_simp
  try rfl
 simp only [pT]
 refine tk 8 ?_ ?_ hHeld ?_
 rotate_left
 ·intro W hS
  go_simp
  try rfl
 simp only [pT]
 refine wpAnyH_ready (rs := [1, 9]) (by kernel_rfl) (by simp) ?_
 refine AllReadyH.cons rfl (fun K hK => ?_) (AllReadyH.cons rfl (fun K hK => ?_) AllReadyH.nil)
 ·
  refine append_baK _ _ rfl w.heap.size _ [] xs rfl (Own.nil W0 _) b0.size _ _ _ rfl hB0 hx0 (by simp; have := hpq.out; omega) (fun v1 w1 O1 g1 n1 => ?_)
  have b1 := grown_below g1 (Nat.le_refl _) (fun k hk => by cases hk)
  have hH1 := hH0.below b1 hH0.lt
  refine hK.out _ _ hH1 (fun _ => ?_)
  clear hK K
  try simp only [pT]
  refine rd 9 (fun K hK => ?_)
  go_simp
  have hH := hH1.alloc (.cells #[.int .u8 (192 + 8 * n + m.r)] 5)
  have kB := Blk.new w1 5 #[.int .u8 (192 + 8 * n + m.r)]
  have b2 := (Below.refl w1.heap.size w1).alloc (Nat.le_refl _) (.cells #[.int .u8 (192 + 8 * n + m.r)] 5)
  have bb := (b0.trans (b1.mono b0.size)).trans (b2.mono (Nat.le_trans b0.size b1.size))
  replace O1 := O1.below b2
  have hnv : ¬ v1.ownBlock = some w.heap.size := fun e => by rcases n1 with n1 | ⟨q, n1, n2⟩; (rw [n1] at e; cases e); (rw [e] at n1; have := Option.some.inj n1; have := hH0.lt; omega)
  refine hK.out _ _ hH (fun _ => ?_)
  clear hK K
  try simp only [pT]
  refine rd 10 (fun K hK => ?_)
  refine append_baK _ _ rfl w.heap.size _ _ [192 + 8 * n + m.r] rfl O1 bb.size _ _ _ rfl (kB.ba (zs := [192 + 8 * n + m.r]) hzz rfl (by decide)) (by simp) (by simp; have := hpq.out; omega) (fun v3 w3 O3 g3 n3 => ?_)
  have hH3 := hH.grown g3 (fun e => hnv e.symm)
  have b3 := grown_below g3 bb.size (fun k hk => (O1.row.lt k hk).1)
  obtain ⟨a3, c3, e3, -⟩ := id O3.ba
  generalize List.length _ = l3 at e3
  subst e3
  refine hK.out _ _ hH3 (fun _ => ?_)
  clear hK K
  try simp only [pT]
  refine rd 11 (fun K hK => ?_)
  go_simp
  have hH4 := hH3.alloc (.cells #[.slice a3 l3 c3] 28)
  have k4 := Blk.new w3 28 #[.slice a3 l3 c3]
  have b4 := (Below.refl w3.heap.size w3).alloc (Nat.le_refl _) (.cells #[.slice a3 l3 c3] 28)
  refine hK.out _ _ hH4 (fun _ => ?_)
  clear hK K
  try simp only [pT]
  refine tk 12 ?_ ?_ hH4 ?_
  rotate_left
  ·intro W hS
   go_simp
   try rfl
  simp only [pT]
  refine wpAnyH_done (by kernel_rfl) ?_ _
  go_wp2_with fail
  go_ret
  have b34 := bb.trans (b3.trans (b4.mono (Nat.le_trans bb.size b3.size)))
  exact ⟨_, _, rfl, LR.one k4 (Nat.le_trans bb.size b3.size) (O3.below b4) (by simp) (fun e => by have := (O3.row.lt _ e).2; omega), b34⟩
 ·
  go_simp
  have hH1 := hH0.alloc (.cells #[.int .u8 (192 + 8 * n + m.r)] 5)
  have kB0 := Blk.new W0 5 #[.int .u8 (192 + 8 * n + m.r)]
  have b2 := (Below.refl W0.heap.size W0).alloc (Nat.le_refl _) (.cells #[.int .u8 (192 + 8 * n + m.r)] 5)
  have hB1 := hB0.below b2
  have b02 := b0.trans (b2.mono b0.size)
  generalize W0.alloc (.cells #[.int .u8 (192 + 8 * n + m.r)] 5) = W1 at *
  refine hK.out _ _ hH1 (fun _ => ?_)
  clear hK K
  try simp only [pT]
  refine rd 1 (fun K hK => ?_)
  refine append_baK _ _ rfl w.heap.size _ [] xs rfl (Own.nil W1 _) b02.size _ _ _ rfl hB1 hx0 (by simp; have := hpq.out; omega) (fun v1 w1 O1 g1 n1 => ?_)
  have b1 := grown_below g1 (Nat.le_refl _) (fun k hk => by cases hk)
  have hH := hH1.below b1 hH1.lt
  have kB := kB0.below b1 kB0.lt
  have bb := b02.trans (b1.mono b02.size)
  have hnv : ¬ v1.ownBlock = some w.heap.size := fun e => by rcases n1 with n1 | ⟨q, n1, n2⟩; (rw [n1] at e; cases e); (rw [e] at n1; have := Option.some.inj n1; have := hH1.lt; omega)
  refine hK.out _ _ hH (fun _ => ?_)
  clear hK K
  try simp only [pT]
  refine rd 10 (fun K hK => ?_)
  refine append_baK _ _ rfl w.heap.size _ _ [192 + 8 * n + m.r] rfl O1 bb.size _ _ _ rfl (kB.ba (zs := [192 + 8 * n + m.r]) hzz rfl (by decide)) (by simp) (by simp; have := hpq.out; omega) (fun v3 w3 O3 g3 n3 => ?_)
  have hH3 := hH.grown g3 (fun e => hnv e.symm)
  have b3 := grown_below g3 bb.size (fun k hk => (O1.row.lt k hk).1)
  obtain ⟨a3, c3, e3, -⟩ := id O3.ba
  generalize List.length _ = l3 at e3
  subst e3
  refine hK.out _ _ hH3 (fun _ => ?_)
  clear hK K
  try simp only [pT]
  refine rd 11 (fun K hK => ?_)
  go_simp
  have hH4 := hH3.alloc (.cells #[.slice a3 l3 c3] 28)
  have k4 := Blk.new w3 28 #[.slice a3 l3 c3]
  have b4 := (Below.refl w3.heap.size w3).alloc (Nat.le_refl _) (.cells #[.slice a3 l3 c3] 28)
  refine hK.out _ _ hH4 (fun _ => ?_)
  clear hK K
  try simp only [pT]
  refine tk 12 ?_ ?_ hH4 ?_
  rotate_left
  ·intro W hS
   go_simp
   try rfl
  simp only [pT]
  refine wpAnyH_done (by kernel_rfl) ?_ _
  go_wp2_with fail
  go_ret
  have b34 := bb.trans (b3.trans (b4.mono (Nat.le_trans bb.size b3.size)))
  exact ⟨_, _, rfl, LR.one k4 (Nat.le_trans bb.size b3.size) (O3.below b4) (by simp) (fun e => by have := (O3.row.lt _ e).2; omega), b34⟩
end Go.Proofs.YtcgleggdochbeaaDoor
