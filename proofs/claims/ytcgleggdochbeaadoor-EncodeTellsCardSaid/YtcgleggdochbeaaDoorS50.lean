import Derived.Test.YtcgleggdochbeaaDoorS39
import Derived.Test.YtcgleggdochbeaaDoorS47
import Derived.Test.YtcgleggdochbeaaDoorS49
namespace Go.Proofs.YtcgleggdochbeaaDoor
open Go.RowKit
set_option maxRecDepth 100000
set_option maxHeartbeats 8000000
set_option linter.unusedVariables false
set_option linter.unusedSimpArgs false
set_option linter.unusedSectionVars false
theorem run_conv {ev : Operand → Value} {o : Oper} {w : World} {x : Operand} (ho : o.op = .convert 28 9 x) {v : Value} (hx : ev x = v) {zs : List Int} (h : Bs w v zs) : (execOp ev o).run Tryd.prog w = .ok (.value (.string (strB zs))) w := by
 unfold execOp
 simp only [ho, hx, conv_bs h, Sem.run_bind, Sem.run_pure, Result.andThen_ok]
theorem byt_lt {x y : Int} (hx : 0 ≤ x ∧ x ≤ 255) (hy : 0 ≤ y ∧ y ≤ 255) : decide (UInt8.ofNat x.toNat < UInt8.ofNat y.toNat) = decide (x < y) := by
 refine decide_eq_decide.2 ?_
 rw [UInt8.lt_iff_toNat_lt, UInt8.toNat_ofNat_of_lt' (by simp [UInt8.size]; omega), UInt8.toNat_ofNat_of_lt' (by simp [UInt8.size]; omega)]
 omega
theorem byt_eq {x y : Int} (hx : 0 ≤ x ∧ x ≤ 255) (hy : 0 ≤ y ∧ y ≤ 255) : (UInt8.ofNat x.toNat == UInt8.ofNat y.toNat) = (x == y) := by
 rw [Bool.eq_iff_iff, beq_iff_eq, beq_iff_eq, ← UInt8.toNat_inj, UInt8.toNat_ofNat_of_lt' (by simp [UInt8.size]; omega), UInt8.toNat_ofNat_of_lt' (by simp [UInt8.size]; omega)]
 omega
theorem lex_less : ∀ (u v : List Int), (∀ z ∈ u, 0 ≤ z ∧ z ≤ 255) → (∀ z ∈ v, 0 ≤ z ∧ z ≤ 255) → Op.bytesLess (u.map fun n => UInt8.ofNat n.toNat) (v.map fun n => UInt8.ofNat n.toNat) = lexLt u v
 | [], [], _, _ => rfl
 | [], y :: v, _, _ => rfl
 | x :: u, [], _, _ => rfl
 | x :: u, y :: v, hu, hv => by
  have hx := hu x (by simp)
  have hy := hv y (by simp)
  have ih := lex_less u v (fun z hz => hu z (by simp [hz])) (fun z hz => hv z (by simp [hz]))
  simp only [List.map_cons]
  unfold Op.bytesLess lexLt
  rw [byt_lt hx hy, byt_eq hx hy, ih]
theorem Bs.byt {W : World} {v : Value} {zs : List Int} (h : Bs W v zs) : ∀ z ∈ zs, 0 ≤ z ∧ z ≤ 255 := by
 obtain ⟨a, c, -, ⟨-, h2, -⟩, -⟩ := h
 exact h2
theorem str_less {W : World} {u v : Value} {y z : List Int} (hy : Bs W u y) (hz : Bs W v z) : Op.bytesLess (strB y).toList (strB z).toList = lexLt y z := by
 rw [strB_list, strB_list]
 exact lex_less y z hy.byt hz.byt
def BestIs (W : World) (bv : Value) : Option (List Int) → Prop
 | none => bv = .slice none 0 0
 | some b => b ≠ [] ∧ Bs W bv b
theorem BestIs.below {W W' : World} {bv : Value} {o : Option (List Int)} (h : BestIs W bv o) (b : Below W.heap.size W W') : BestIs W' bv o := by
 cases o with
 | none => exact h
 | some z => exact ⟨h.1, h.2.below b⟩
theorem best_step (L : List (List Int)) {j : Nat} (h : j < L.length) : bestW (L.take (j + 1)) = betterW (bestW (L.take j)) (L.getD j []) := by
 unfold bestW
 rw [List.take_add_one, List.foldl_append, List.getElem?_eq_getElem h]
 simp [List.getD_eq_getElem?_getD, h]
theorem LL.long {W : World} {N : Nat} {v : Value} {L : List (List Int)} (h : LL W N v L) : L.length ≤ maxLen := by
 obtain ⟨vs, ⟨hl, ho⟩, -⟩ := h
 rcases ho with ⟨-, h0⟩ | ⟨g, cap, cur, -, -, -, hn, hm, -⟩
 ·omega
 ·omega
theorem best_enc {k : In} (hi : isB k = true) (hA : 0 ≤ k.A.m ∧ k.A.m ≤ 4294967295) (hB : 0 ≤ k.B.m ∧ k.B.m ≤ 4294967295) {L : List (List Int)} (h : ∀ z, z ∈ L ↔ z ∈ waysL k) : bestW L = some (encM k) := by
 obtain ⟨-, h2, h3⟩ := enc_best hi hA hB
 obtain ⟨m, e, m1, m2⟩ := best_of ⟨_, (h _).2 h2⟩
 rw [e, leW_anti (m2 _ ((h _).2 h2)) (h3 _ ((h _).1 m1))]
theorem ref_none {k : In} (hi : isB (withLen k 0) = false) (w : World) : Calls Tryd.prog 10 #[inV k] w fun e w' => e = .returned (.tuple #[.slice none 0 0, .bool false]) ∧ Below w.heap.size w w' := by
 have hS := is_any (withLen k 0)
 rw [hi] at hS
 have hs := Lib.hid hS
 clear hS
 have kI := Blk.new w 26 (in16 k)
 have b0 := (Below.refl w.heap.size w).alloc (Nat.le_refl _) (.cells (in16 k) 26)
 go_enter Tryd.func10, Tryd.ntmps10
 go_upto_region 1 with fail
 generalize w.alloc (.cells (in16 k) 26) = W at *
 have c15 := kI.cell (i := 15) (v := .int .i64 k.len) rfl
 have f15 := kI.fr 15
 go_upto_region 2 with fail
 have kI2 : Blk (W.setCell ⟨w.heap.size, 15, none⟩ (.int .i64 0)) w.heap.size 26 (in16 (withLen k 0)) := kI.set 15 (.int .i64 0)
 have b2 : Below w.heap.size w (W.setCell ⟨w.heap.size, 15, none⟩ (.int .i64 0)) := b0.setCell (p := ⟨w.heap.size, 15, none⟩) (Nat.le_refl _) _
 clear c15 f15
 generalize W.setCell ⟨w.heap.size, 15, none⟩ (.int .i64 0) = W2 at *
 go_wp2_with (first | (with_reducible refine load_inR rfl _ rfl w.heap.size (in16 (withLen k 0)) rfl kI2 (in16_size _) ?_) | ((with_reducible refine (hs.out _).mono ?_); rintro e W3 ⟨rfl, b3⟩))
 exact bodyPost_ret (v := .tuple #[.slice none 0 0, .bool false]) (by simp [results, Tryd.results10, go_sem]) rfl ⟨rfl, b2.trans (b3.mono b2.size)⟩
theorem ref_some {k : In} (hi : isB (withLen k 0) = true) (hk : Wd k) (w : World) : Calls Tryd.prog 10 #[inV k] w fun e w' => ∃ v, e = .returned (.tuple #[v, .bool true]) ∧ Bs w' v (encM k) ∧ Below w.heap.size w w' := by
 have hS := is_any (withLen k 0)
 rw [hi] at hS
 have hs := Lib.hid hS
 clear hS
 obtain ⟨L, hG, hL⟩ := wy_any hi hk.A hk.B
 have hbest : bestW L = some (encM k) := best_enc hi hk.A hk.B hL
 have hne : ∀ z ∈ L, z ≠ [] := fun z hz e => by
  have := (ways_read hi hk.A hk.B ((hL z).1 hz) []).2.1
  rw [e] at this; simp at this
 have hBest := Lib.hid hbest
 have hNe := Lib.hid hne
 have hw := Lib.hid hG
 clear hbest hne hG hL
 have kI := Blk.new w 26 (in16 k)
 have b0 := (Below.refl w.heap.size w).alloc (Nat.le_refl _) (.cells (in16 k) 26)
 go_enter Tryd.func10, Tryd.ntmps10
 go_upto_region 1 with fail
 generalize w.alloc (.cells (in16 k) 26) = W at *
 have c15 := kI.cell (i := 15) (v := .int .i64 k.len) rfl
 have f15 := kI.fr 15
 go_upto_region 2 with fail
 have kI2 : Blk (W.setCell ⟨w.heap.size, 15, none⟩ (.int .i64 0)) w.heap.size 26 (in16 (withLen k 0)) := kI.set 15 (.int .i64 0)
 have b2 : Below w.heap.size w (W.setCell ⟨w.heap.size, 15, none⟩ (.int .i64 0)) := b0.setCell (p := ⟨w.heap.size, 15, none⟩) (Nat.le_refl _) _
 clear c15 f15
 generalize W.setCell ⟨w.heap.size, 15, none⟩ (.int .i64 0) = W2 at *
 go_upto_region 5 with (first | (with_reducible refine load_inR rfl _ rfl w.heap.size (in16 (withLen k 0)) rfl kI2 (in16_size _) ?_) | ((with_reducible refine (hs.out _).mono ?_); rintro e W3 ⟨rfl, b3⟩; replace kI2 := kI2.below b3 kI2.lt) | ((with_reducible refine (hw.out _).mono ?_); rintro e W4 ⟨v, rfl, LL0, b4⟩))
 have hLM := LL0.long
 simp only [maxLen] at hLM
 replace LL0 := LL0.base (Nat.le_trans b2.size b3.size)
 have b34 := (b2.trans (b3.mono b2.size)).trans (b4.mono (Nat.le_trans b2.size b3.size))
 clear b0 b2 b3 b4 kI kI2 hs hw
 obtain ⟨va, vc, hv, -⟩ := LL0.lens
 subst hv
 go_wp2_with fail
 go_loopw [5, 6] (fun bv ii V => ∃ j : Nat, j ≤ L.length ∧ ii = .int .i64 j ∧ RowKit.Hid (BestIs V bv (bestW (L.take j))) ∧ LL V w.heap.size (.slice va L.length vc) L ∧ Below w.heap.size w V) (fun _ ii _ => L.length - (intOf ii).toNat)
 case atStart => exact ⟨0, by omega, rfl, Lib.hid rfl, LL0, b34⟩
 case round =>
  obtain ⟨j, hj, rfl, hB, L1, b1⟩ := hrel
  by_cases hlt : j < L.length
  ·have hz : ((j : Int) < (L.length : Int)) = True := eq_true (by omega)
   have hj0 : ((j : Int) < 0) = False := eq_false (by omega)
   have hwr : IntKind.i64.wrap ((j : Int) + 1) = (j : Int) + 1 := by rw [IntKind.wrap_i64]; omega
   obtain ⟨va', vc', e1, hel0⟩ := L1.lens
   obtain ⟨g, rfl, hel⟩ := hel0 (by omega)
   obtain ⟨u, hu, Bu⟩ := hel j hlt
   simp only [Value.slice.injEq] at e1
   obtain ⟨rfl, -, rfl⟩ := e1
   have hzn := hNe.out (L.getD j []) (by rw [List.getD_eq_getElem?_getD, List.getElem?_eq_getElem hlt]; exact List.getElem_mem hlt)
   have hst := best_step L hlt
   generalize hzd : L.getD j [] = z at *
   obtain ⟨ua, uc, rfl, hua⟩ := id Bu
   have huas : ∃ q, ua = some q := by
    obtain ⟨⟨-, -, h3⟩, -⟩ := hua
    rcases h3 with h3 | ⟨b, off, e, -⟩
    ·exact absurd h3 hzn
    ·exact ⟨_, e⟩
   obtain ⟨uq, rfl⟩ := huas
   have Hst := Lib.hid hst
   clear hst hzd hel hel0
   have hB' := hB.out
   cases hb : bestW (L.take j) with
   | none =>
    rw [hb] at hB'
    unfold BestIs at hB'
    subst hB'
    rw [hb] at Hst
    clear hB hb
    go_upto_region 9 with fail
    have bd := (Below.refl wr.heap.size wr).drew
    have L2 := L1.below bd
    have b2 := b1.trans (bd.mono b1.size)
    refine wp_region_held_drew (S := fun V => V.cell? ⟨g, j, none⟩ = some (.slice (some uq) z.length uc)) (by kernel_rfl) hu (fun hH => ?_)
    have Bd := Bu.below bd
    clear bd L1 b1 hu Bu hua
    generalize wr.drew = V2 at *
    refine tk 0 ?_ ?_ hH ?_
    rotate_left
    ·intro W hS
     go_simp
     try rfl
    simp only [pT]
    refine tk 1 ?_ ?_ hH ?_
    rotate_left
    ·intro W hS
     go_simp
     try rfl
    simp only [pT]
    refine tk 2 ?_ ?_ hH ?_
    rotate_left
    ·intro W hS
     go_simp
     try rfl
    simp only [pT]
    refine wpAnyH_take (i := 3) (v := undef) rfl (by kernel_rfl) (by kernel_rfl) (by kernel_rfl) (fun _ _ _ h => h) (Or.inr ⟨by kernel_rfl, rfl⟩) hH ?_
    simp only [pS]
    refine wpAnyH_take (i := 4) (v := undef) rfl (by kernel_rfl) (by kernel_rfl) (by kernel_rfl) (fun _ _ _ h => h) (Or.inr ⟨by kernel_rfl, rfl⟩) hH ?_
    simp only [pS]
    refine wpAnyH_take (i := 5) (v := undef) rfl (by kernel_rfl) (by kernel_rfl) (by kernel_rfl) (fun _ _ _ h => h) (Or.inr ⟨by kernel_rfl, rfl⟩) hH ?_
    simp only [pS]
    refine wpAnyH_take (i := 6) (v := undef) rfl (by kernel_rfl) (by kernel_rfl) (by kernel_rfl) (fun _ _ _ h => h) (Or.inr ⟨by kernel_rfl, rfl⟩) hH ?_
    simp only [pS]
    refine wpAnyH_take (i := 7) (v := undef) rfl (by kernel_rfl) (by kernel_rfl) (by kernel_rfl) (fun _ _ _ h => h) (Or.inr ⟨by kernel_rfl, rfl⟩) hH ?_
    simp only [pS]
    refine wpAnyH_take (i := 8) (v := undef) rfl (by kernel_rfl) (by kernel_rfl) (by kernel_rfl) (fun _ _ _ h => h) (Or.inr ⟨by kernel_rfl, rfl⟩) hH ?_
    simp only [pS]
    refine wpAnyH_take (i := 9) (v := undef) rfl (by kernel_rfl) (by kernel_rfl) (by kernel_rfl) (fun _ _ _ h => h) (Or.inr ⟨by kernel_rfl, rfl⟩) hH ?_
    simp only [pS]
    refine wpAnyH_take (i := 10) (v := undef) rfl (by kernel_rfl) (by kernel_rfl) (by kernel_rfl) (fun _ _ _ h => h) (Or.inr ⟨by kernel_rfl, rfl⟩) hH ?_
    simp only [pS]
    refine tk 11 ?_ ?_ hH ?_
    rotate_left
    ·intro W hS
     go_simp
     try rfl
    simp only [pT]
    refine tk 12 ?_ ?_ hH ?_
    rotate_left
    ·intro W hS
     go_simp
     try rfl
    simp only [pT]
    refine wpAnyH_take (i := 13) (v := undef) rfl (by kernel_rfl) (by kernel_rfl) (by kernel_rfl) (fun _ _ _ h => h) (Or.inr ⟨by kernel_rfl, rfl⟩) hH ?_
    simp only [pS]
    refine wpAnyH_take (i := 14) (v := undef) rfl (by kernel_rfl) (by kernel_rfl) (by kernel_rfl) (fun _ _ _ h => h) (Or.inr ⟨by kernel_rfl, rfl⟩) hH ?_
    simp only [pS]
    refine wpAnyH_take (i := 15) (v := undef) rfl (by kernel_rfl) (by kernel_rfl) (by kernel_rfl) (fun _ _ _ h => h) (Or.inr ⟨by kernel_rfl, rfl⟩) hH ?_
    simp only [pS]
    refine wpAnyH_take (i := 16) (v := undef) rfl (by kernel_rfl) (by kernel_rfl) (by kernel_rfl) (fun _ _ _ h => h) (Or.inr ⟨by kernel_rfl, rfl⟩) hH ?_
    simp only [pS]
    refine wpAnyH_take (i := 17) (v := undef) rfl (by kernel_rfl) (by kernel_rfl) (by kernel_rfl) (fun _ _ _ h => h) (Or.inr ⟨by kernel_rfl, rfl⟩) hH ?_
    simp only [pS]
    refine wpAnyH_take (i := 18) (v := undef) rfl (by kernel_rfl) (by kernel_rfl) (by kernel_rfl) (fun _ _ _ h => h) (Or.inr ⟨by kernel_rfl, rfl⟩) hH ?_
    simp only [pS]
    refine wpAnyH_take (i := 19) (v := undef) rfl (by kernel_rfl) (by kernel_rfl) (by kernel_rfl) (fun _ _ _ h => h) (Or.inr ⟨by kernel_rfl, rfl⟩) hH ?_
    simp only [pS]
    refine wpAnyH_take (i := 20) (v := undef) rfl (by kernel_rfl) (by kernel_rfl) (by kernel_rfl) (fun _ _ _ h => h) (Or.inr ⟨by kernel_rfl, rfl⟩) hH ?_
    simp only [pS]
    refine wpAnyH_take (i := 21) (v := undef) rfl (by kernel_rfl) (by kernel_rfl) (by kernel_rfl) (fun _ _ _ h => h) (Or.inr ⟨by kernel_rfl, rfl⟩) hH ?_
    simp only [pS]
    refine wpAnyH_take (i := 22) (v := undef) rfl (by kernel_rfl) (by kernel_rfl) (by kernel_rfl) (fun _ _ _ h => h) (Or.inr ⟨by kernel_rfl, rfl⟩) hH ?_
    simp only [pS]
    refine wpAnyH_take (i := 23) (v := undef) rfl (by kernel_rfl) (by kernel_rfl) (by kernel_rfl) (fun _ _ _ h => h) (Or.inr ⟨by kernel_rfl, rfl⟩) hH ?_
    simp only [pS]
    refine wpAnyH_take (i := 24) (v := undef) rfl (by kernel_rfl) (by kernel_rfl) (by kernel_rfl) (fun _ _ _ h => h) (Or.inr ⟨by kernel_rfl, rfl⟩) hH ?_
    simp only [pS]
    refine wpAnyH_take (i := 25) (v := undef) rfl (by kernel_rfl) (by kernel_rfl) (by kernel_rfl) (fun _ _ _ h => h) (Or.inr ⟨by kernel_rfl, rfl⟩) hH ?_
    simp only [pS]
    refine wpAnyH_take (i := 26) (v := undef) rfl (by kernel_rfl) (by kernel_rfl) (by kernel_rfl) (fun _ _ _ h => h) (Or.inr ⟨by kernel_rfl, rfl⟩) hH ?_
    simp only [pS]
    refine wpAnyH_take (i := 27) (v := undef) rfl (by kernel_rfl) (by kernel_rfl) (by kernel_rfl) (fun _ _ _ h => h) (Or.inr ⟨by kernel_rfl, rfl⟩) hH ?_
    simp only [pS]
    refine wpAnyH_take (i := 28) (v := undef) rfl (by kernel_rfl) (by kernel_rfl) (by kernel_rfl) (fun _ _ _ h => h) (Or.inr ⟨by kernel_rfl, rfl⟩) hH ?_
    simp only [pS]
    refine wpAnyH_take (i := 29) (v := undef) rfl (by kernel_rfl) (by kernel_rfl) (by kernel_rfl) (fun _ _ _ h => h) (Or.inr ⟨by kernel_rfl, rfl⟩) hH ?_
    simp only [pS]
    refine wpAnyH_take (i := 30) (v := undef) rfl (by kernel_rfl) (by kernel_rfl) (by kernel_rfl) (fun _ _ _ h => h) (Or.inr ⟨by kernel_rfl, rfl⟩) hH ?_
    simp only [pS]
    refine tk 31 ?_ ?_ hH ?_
    rotate_left
    ·intro W hS
     go_simp
     try rfl
    simp only [pT]
    refine wpAnyH_done (by kernel_rfl) ?_ _
    go_wp2_with fail
    go_roundw
    case rel => exact ⟨j + 1, by omega, by go_num, Lib.hid (by rw [Hst.out]; exact ⟨hzn, Bd⟩), L2, b2⟩
    case measure => simp [intOf]; omega
   | some b =>
    rw [hb] at hB'
    obtain ⟨hbn, hbs⟩ := hB'
    rw [hb] at Hst
    clear hB hb
    obtain ⟨ba, bc, rfl, hba⟩ := id hbs
    have hbas : ∃ q, ba = some q := by
     obtain ⟨⟨-, -, h3⟩, -⟩ := hba
     rcases h3 with h3 | ⟨b, off, e, -⟩
     ·exact absurd h3 hbn
     ·exact ⟨_, e⟩
    obtain ⟨bq, rfl⟩ := hbas
    have hstr := Lib.hid (str_less Bu hbs)
    go_upto_region 9 with fail
    have bd := (Below.refl wr.heap.size wr).drew
    have L2 := L1.below bd
    have b2 := b1.trans (bd.mono b1.size)
    have Bd := Bu.below bd
    have Cd := hbs.below bd
    refine wp_region_held_drew (S := fun V => V.cell? ⟨g, j, none⟩ = some (.slice (some uq) z.length uc) ∧ Bs V (.slice (some uq) z.length uc) z ∧ Bs V (.slice (some bq) b.length bc) b) (by kernel_rfl) ⟨hu, Bd, Cd⟩ (fun hH => ?_)
    clear bd L1 b1 hu Bu hua hbs hba
    generalize wr.drew = V2 at *
    have hltw : ltW z b = (decide (z.length < b.length) || (z.length == b.length && lexLt z b)) := rfl
    by_cases hl1 : z.length < b.length
    ·have h1 : ((z.length : Int) < (b.length : Int)) = True := eq_true (by omega)
     have hq := Lib.hid (show ltW z b = true by rw [hltw]; simp [hl1])
     clear hltw hl1
     refine tk 0 ?_ ?_ hH ?_
     rotate_left
     ·intro W hS
      go_simp
      try rfl
     simp only [pT]
     refine tk 1 ?_ ?_ hH ?_
     rotate_left
     ·intro W hS
      go_simp
      try rfl
     simp only [pT]
     refine tk 2 ?_ ?_ hH ?_
     rotate_left
     ·intro W hS
      go_simp
      try rfl
     simp only [pT]
     refine tk 3 ?_ ?_ hH ?_
     rotate_left
     ·intro W hS
      go_simp
      try rfl
     simp only [pT]
     refine tk 4 ?_ ?_ hH ?_
     rotate_left
     ·intro W hS
      go_simp
      try rfl
     simp only [pT]
     refine tk 5 ?_ ?_ hH ?_
     rotate_left
     ·intro W hS
      go_simp
      try rfl
     simp only [pT]
     refine tk 6 ?_ ?_ hH ?_
     rotate_left
     ·intro W hS
      have cj := hS.1
      go_simp
      try rfl
     simp only [pT]
     refine tk 7 ?_ ?_ hH ?_
     rotate_left
     ·intro W hS
      go_simp
      try rfl
     simp only [pT]
     refine tk 8 ?_ ?_ hH ?_
     rotate_left
     ·intro W hS
      go_simp
      try rfl
     simp only [pT]
     refine tk 9 ?_ ?_ hH ?_
     rotate_left
     ·intro W hS
      go_simp
      try rfl
     simp only [pT]
     refine tk 10 ?_ ?_ hH ?_
     rotate_left
     ·intro W hS
      skip
      go_simp
      try rfl
     simp only [pT]
     refine tk 11 ?_ ?_ hH ?_
     rotate_left
     ·intro W hS
      go_simp
      try rfl
     simp only [pT]
     refine tk 12 ?_ ?_ hH ?_
     rotate_left
     ·intro W hS
      go_simp
      try rfl
     simp only [pT]
     refine wpAnyH_take (i := 13) (v := undef) rfl (by kernel_rfl) (by kernel_rfl) (by kernel_rfl) (fun _ _ _ h => h) (Or.inr ⟨by kernel_rfl, rfl⟩) hH ?_
     simp only [pS]
     refine wpAnyH_take (i := 14) (v := undef) rfl (by kernel_rfl) (by kernel_rfl) (by kernel_rfl) (fun _ _ _ h => h) (Or.inr ⟨by kernel_rfl, rfl⟩) hH ?_
     simp only [pS]
     refine wpAnyH_take (i := 15) (v := undef) rfl (by kernel_rfl) (by kernel_rfl) (by kernel_rfl) (fun _ _ _ h => h) (Or.inr ⟨by kernel_rfl, rfl⟩) hH ?_
     simp only [pS]
     refine wpAnyH_take (i := 16) (v := undef) rfl (by kernel_rfl) (by kernel_rfl) (by kernel_rfl) (fun _ _ _ h => h) (Or.inr ⟨by kernel_rfl, rfl⟩) hH ?_
     simp only [pS]
     refine wpAnyH_take (i := 17) (v := undef) rfl (by kernel_rfl) (by kernel_rfl) (by kernel_rfl) (fun _ _ _ h => h) (Or.inr ⟨by kernel_rfl, rfl⟩) hH ?_
     simp only [pS]
     refine wpAnyH_take (i := 18) (v := undef) rfl (by kernel_rfl) (by kernel_rfl) (by kernel_rfl) (fun _ _ _ h => h) (Or.inr ⟨by kernel_rfl, rfl⟩) hH ?_
     simp only [pS]
     refine wpAnyH_take (i := 19) (v := undef) rfl (by kernel_rfl) (by kernel_rfl) (by kernel_rfl) (fun _ _ _ h => h) (Or.inr ⟨by kernel_rfl, rfl⟩) hH ?_
     simp only [pS]
     refine wpAnyH_take (i := 20) (v := undef) rfl (by kernel_rfl) (by kernel_rfl) (by kernel_rfl) (fun _ _ _ h => h) (Or.inr ⟨by kernel_rfl, rfl⟩) hH ?_
     simp only [pS]
     refine wpAnyH_take (i := 21) (v := undef) rfl (by kernel_rfl) (by kernel_rfl) (by kernel_rfl) (fun _ _ _ h => h) (Or.inr ⟨by kernel_rfl, rfl⟩) hH ?_
     simp only [pS]
     refine wpAnyH_take (i := 22) (v := undef) rfl (by kernel_rfl) (by kernel_rfl) (by kernel_rfl) (fun _ _ _ h => h) (Or.inr ⟨by kernel_rfl, rfl⟩) hH ?_
     simp only [pS]
     refine wpAnyH_take (i := 23) (v := undef) rfl (by kernel_rfl) (by kernel_rfl) (by kernel_rfl) (fun _ _ _ h => h) (Or.inr ⟨by kernel_rfl, rfl⟩) hH ?_
     simp only [pS]
     refine wpAnyH_take (i := 24) (v := undef) rfl (by kernel_rfl) (by kernel_rfl) (by kernel_rfl) (fun _ _ _ h => h) (Or.inr ⟨by kernel_rfl, rfl⟩) hH ?_
     simp only [pS]
     refine wpAnyH_take (i := 25) (v := undef) rfl (by kernel_rfl) (by kernel_rfl) (by kernel_rfl) (fun _ _ _ h => h) (Or.inr ⟨by kernel_rfl, rfl⟩) hH ?_
     simp only [pS]
     refine wpAnyH_take (i := 26) (v := undef) rfl (by kernel_rfl) (by kernel_rfl) (by kernel_rfl) (fun _ _ _ h => h) (Or.inr ⟨by kernel_rfl, rfl⟩) hH ?_
     simp only [pS]
     refine wpAnyH_take (i := 27) (v := undef) rfl (by kernel_rfl) (by kernel_rfl) (by kernel_rfl) (fun _ _ _ h => h) (Or.inr ⟨by kernel_rfl, rfl⟩) hH ?_
     simp only [pS]
     refine wpAnyH_take (i := 28) (v := undef) rfl (by kernel_rfl) (by kernel_rfl) (by kernel_rfl) (fun _ _ _ h => h) (Or.inr ⟨by kernel_rfl, rfl⟩) hH ?_
     simp only [pS]
     refine wpAnyH_take (i := 29) (v := undef) rfl (by kernel_rfl) (by kernel_rfl) (by kernel_rfl) (fun _ _ _ h => h) (Or.inr ⟨by kernel_rfl, rfl⟩) hH ?_
     simp only [pS]
     refine wpAnyH_take (i := 30) (v := undef) rfl (by kernel_rfl) (by kernel_rfl) (by kernel_rfl) (fun _ _ _ h => h) (Or.inr ⟨by kernel_rfl, rfl⟩) hH ?_
     simp only [pS]
     refine tk 31 ?_ ?_ hH ?_
     rotate_left
     ·intro W hS
      go_simp
      try rfl
     simp only [pT]
     refine wpAnyH_done (by kernel_rfl) ?_ _
     go_wp2_with fail
     go_roundw
     case rel => exact ⟨j + 1, by omega, by go_num, Lib.hid (by rw [Hst.out]; show BestIs _ _ (if ltW z b = true then some z else some b); rw [if_pos hq.out]; exact ⟨hzn, Bd⟩), L2, b2⟩
     case measure => simp [intOf]; omega
    ·have h1 : ((z.length : Int) < (b.length : Int)) = False := eq_false (by omega)
     by_cases hl2 : z.length = b.length
     ·have h2 : ((z.length : Int) == (b.length : Int)) = true := by simp [hl2]
      have hq0 : ltW z b = lexLt z b := by rw [hltw]; simp [hl1, hl2]
      generalize lexLt z b = q at *
      have hq := Lib.hid hq0
      clear hltw hl1 hl2 hq0
      refine tk 0 ?_ ?_ hH ?_
      rotate_left
      ·intro W hS
       go_simp
       try rfl
      simp only [pT]
      refine tk 1 ?_ ?_ hH ?_
      rotate_left
      ·intro W hS
       go_simp
       try rfl
      simp only [pT]
      refine tk 2 ?_ ?_ hH ?_
      rotate_left
      ·intro W hS
       go_simp
       try rfl
      simp only [pT]
      refine tk 3 ?_ ?_ hH ?_
      rotate_left
      ·intro W hS
       go_simp
       try rfl
      simp only [pT]
      refine tk 4 ?_ ?_ hH ?_
      rotate_left
      ·intro W hS
       go_simp
       try rfl
      simp only [pT]
      refine tk 5 ?_ ?_ hH ?_
      rotate_left
      ·intro W hS
       go_simp
       try rfl
      simp only [pT]
      refine tk 6 ?_ ?_ hH ?_
      rotate_left
      ·intro W hS
       have cj := hS.1
       go_simp
       try rfl
      simp only [pT]
      refine tk 7 ?_ ?_ hH ?_
      rotate_left
      ·intro W hS
       go_simp
       try rfl
      simp only [pT]
      refine tk 8 ?_ ?_ hH ?_
      rotate_left
      ·intro W hS
       go_simp
       try rfl
      simp only [pT]
      refine tk 9 ?_ ?_ hH ?_
      rotate_left
      ·intro W hS
       go_simp
       try rfl
      simp only [pT]
      refine tk 10 ?_ ?_ hH ?_
      rotate_left
      ·intro W hS
       skip
       go_simp
       try rfl
      simp only [pT]
      refine tk 11 ?_ ?_ hH ?_
      rotate_left
      ·intro W hS
       go_simp
       try rfl
      simp only [pT]
      refine tk 12 ?_ ?_ hH ?_
      rotate_left
      ·intro W hS
       go_simp
       try rfl
      simp only [pT]
      refine tk 13 ?_ ?_ hH ?_
      rotate_left
      ·intro W hS
       go_simp
       try rfl
      simp only [pT]
      refine tk 14 ?_ ?_ hH ?_
      rotate_left
      ·intro W hS
       go_simp
       try rfl
      simp only [pT]
      refine tk 15 ?_ ?_ hH ?_
      rotate_left
      ·intro W hS
       go_simp
       try rfl
      simp only [pT]
      refine tk 16 ?_ ?_ hH ?_
      rotate_left
      ·intro W hS
       have cj := hS.1
       go_simp
       try rfl
      simp only [pT]
      refine tk 17 ?_ ?_ hH ?_
      rotate_left
      ·intro W hS
       go_simp
       try rfl
      simp only [pT]
      refine tk 18 ?_ ?_ hH ?_
      rotate_left
      ·intro W hS
       go_simp
       try rfl
      simp only [pT]
      refine tk 19 ?_ ?_ hH ?_
      rotate_left
      ·intro W hS
       go_simp
       try rfl
      simp only [pT]
      refine tk 20 ?_ ?_ hH ?_
      rotate_left
      ·intro W hS
       go_simp
       try rfl
      simp only [pT]
      refine tk 21 ?_ ?_ hH ?_
      rotate_left
      ·intro W hS
       go_simp
       try rfl
      simp only [pT]
      refine tk 22 ?_ ?_ hH ?_
      rotate_left
      ·intro W hS
       go_simp
       try rfl
      simp only [pT]
      refine tk 23 ?_ ?_ hH ?_
      rotate_left
      ·intro W hS
       go_simp
       try rfl
      simp only [pT]
      refine tk 24 ?_ ?_ hH ?_
      rotate_left
      ·intro W hS
       go_simp
       try rfl
      simp only [pT]
      refine tk 25 ?_ ?_ hH ?_
      rotate_left
      ·intro W hS
       have cj := hS.1
       go_simp
       try rfl
      simp only [pT]
      refine tk 26 (.string (strB z)) ?_ hH ?_
      ·intro W hS
       exact run_conv (v := .slice (some uq) z.length uc) rfl rfl hS.2.1
      simp only [pS]
      refine tk 27 ?_ ?_ hH ?_
      rotate_left
      ·intro W hS
       go_simp
       try rfl
      simp only [pT]
      refine tk 28 (.string (strB b)) ?_ hH ?_
      ·intro W hS
       exact run_conv (v := .slice (some bq) b.length bc) rfl rfl hS.2.2
      simp only [pS]
      refine tk 29 (.bool q) ?_ hH ?_
      ·intro W hS
       go_simp
       exact hstr.out
      simp only [pS]
      refine tk 30 ?_ ?_ hH ?_
      rotate_left
      ·intro W hS
       go_simp
       try rfl
      simp only [pT]
      refine tk 31 ?_ ?_ hH ?_
      rotate_left
      ·intro W hS
       go_simp
       try rfl
      simp only [pT]
      refine wpAnyH_done (by kernel_rfl) ?_ _
      cases q
      ·go_wp2_with fail
       go_roundw
       case rel => exact ⟨j + 1, by omega, by go_num, Lib.hid (by rw [Hst.out]; show BestIs _ _ (if ltW z b = true then some z else some b); rw [hq.out, if_neg Bool.false_ne_true]; exact ⟨hbn, Cd⟩), L2, b2⟩
       case measure => simp [intOf]; omega
      ·go_wp2_with fail
       go_roundw
       case rel => exact ⟨j + 1, by omega, by go_num, Lib.hid (by rw [Hst.out]; show BestIs _ _ (if ltW z b = true then some z else some b); rw [hq.out, if_pos rfl]; exact ⟨hzn, Bd⟩), L2, b2⟩
       case measure => simp [intOf]; omega
     ·have h2 : ((z.length : Int) == (b.length : Int)) = false := by simp; omega
      have hq := Lib.hid (show ltW z b = false by rw [hltw]; simp [hl1, hl2])
      clear hltw hl1 hl2
      refine tk 0 ?_ ?_ hH ?_
      rotate_left
      ·intro W hS
       go_simp
       try rfl
      simp only [pT]
      refine tk 1 ?_ ?_ hH ?_
      rotate_left
      ·intro W hS
       go_simp
       try rfl
      simp only [pT]
      refine tk 2 ?_ ?_ hH ?_
      rotate_left
      ·intro W hS
       go_simp
       try rfl
      simp only [pT]
      refine tk 3 ?_ ?_ hH ?_
      rotate_left
      ·intro W hS
       go_simp
       try rfl
      simp only [pT]
      refine tk 4 ?_ ?_ hH ?_
      rotate_left
      ·intro W hS
       go_simp
       try rfl
      simp only [pT]
      refine tk 5 ?_ ?_ hH ?_
      rotate_left
      ·intro W hS
       go_simp
       try rfl
      simp only [pT]
      refine tk 6 ?_ ?_ hH ?_
      rotate_left
      ·intro W hS
       have cj := hS.1
       go_simp
       try rfl
      simp only [pT]
      refine tk 7 ?_ ?_ hH ?_
      rotate_left
      ·intro W hS
       go_simp
       try rfl
      simp only [pT]
      refine tk 8 ?_ ?_ hH ?_
      rotate_left
      ·intro W hS
       go_simp
       try rfl
      simp only [pT]
      refine tk 9 ?_ ?_ hH ?_
      rotate_left
      ·intro W hS
       go_simp
       try rfl
      simp only [pT]
      refine tk 10 ?_ ?_ hH ?_
      rotate_left
      ·intro W hS
       skip
       go_simp
       try rfl
      simp only [pT]
      refine tk 11 ?_ ?_ hH ?_
      rotate_left
      ·intro W hS
       go_simp
       try rfl
      simp only [pT]
      refine tk 12 ?_ ?_ hH ?_
      rotate_left
      ·intro W hS
       go_simp
       try rfl
      simp only [pT]
      refine tk 13 ?_ ?_ hH ?_
      rotate_left
      ·intro W hS
       go_simp
       try rfl
      simp only [pT]
      refine tk 14 ?_ ?_ hH ?_
      rotate_left
      ·intro W hS
       go_simp
       try rfl
      simp only [pT]
      refine tk 15 ?_ ?_ hH ?_
      rotate_left
      ·intro W hS
       go_simp
       try rfl
      simp only [pT]
      refine tk 16 ?_ ?_ hH ?_
      rotate_left
      ·intro W hS
       have cj := hS.1
       go_simp
       try rfl
      simp only [pT]
      refine tk 17 ?_ ?_ hH ?_
      rotate_left
      ·intro W hS
       go_simp
       try rfl
      simp only [pT]
      refine tk 18 ?_ ?_ hH ?_
      rotate_left
      ·intro W hS
       go_simp
       try rfl
      simp only [pT]
      refine tk 19 ?_ ?_ hH ?_
      rotate_left
      ·intro W hS
       go_simp
       try rfl
      simp only [pT]
      refine tk 20 ?_ ?_ hH ?_
      rotate_left
      ·intro W hS
       go_simp
       try rfl
      simp only [pT]
      refine tk 21 ?_ ?_ hH ?_
      rotate_left
      ·intro W hS
       go_simp
       try rfl
      simp only [pT]
      refine wpAnyH_take (i := 22) (v := undef) rfl (by kernel_rfl) (by kernel_rfl) (by kernel_rfl) (fun _ _ _ h => h) (Or.inr ⟨by kernel_rfl, rfl⟩) hH ?_
      simp only [pS]
      refine wpAnyH_take (i := 23) (v := undef) rfl (by kernel_rfl) (by kernel_rfl) (by kernel_rfl) (fun _ _ _ h => h) (Or.inr ⟨by kernel_rfl, rfl⟩) hH ?_
      simp only [pS]
      refine wpAnyH_take (i := 24) (v := undef) rfl (by kernel_rfl) (by kernel_rfl) (by kernel_rfl) (fun _ _ _ h => h) (Or.inr ⟨by kernel_rfl, rfl⟩) hH ?_
      simp only [pS]
      refine wpAnyH_take (i := 25) (v := undef) rfl (by kernel_rfl) (by kernel_rfl) (by kernel_rfl) (fun _ _ _ h => h) (Or.inr ⟨by kernel_rfl, rfl⟩) hH ?_
      simp only [pS]
      refine wpAnyH_take (i := 26) (v := undef) rfl (by kernel_rfl) (by kernel_rfl) (by kernel_rfl) (fun _ _ _ h => h) (Or.inr ⟨by kernel_rfl, rfl⟩) hH ?_
      simp only [pS]
      refine wpAnyH_take (i := 27) (v := undef) rfl (by kernel_rfl) (by kernel_rfl) (by kernel_rfl) (fun _ _ _ h => h) (Or.inr ⟨by kernel_rfl, rfl⟩) hH ?_
      simp only [pS]
      refine wpAnyH_take (i := 28) (v := undef) rfl (by kernel_rfl) (by kernel_rfl) (by kernel_rfl) (fun _ _ _ h => h) (Or.inr ⟨by kernel_rfl, rfl⟩) hH ?_
      simp only [pS]
      refine wpAnyH_take (i := 29) (v := undef) rfl (by kernel_rfl) (by kernel_rfl) (by kernel_rfl) (fun _ _ _ h => h) (Or.inr ⟨by kernel_rfl, rfl⟩) hH ?_
      simp only [pS]
      refine tk 30 ?_ ?_ hH ?_
      rotate_left
      ·intro W hS
       go_simp
       try rfl
      simp only [pT]
      refine tk 31 ?_ ?_ hH ?_
      rotate_left
      ·intro W hS
       go_simp
       try rfl
      simp only [pT]
      refine wpAnyH_done (by kernel_rfl) ?_ _
      go_wp2_with fail
      go_roundw
      case rel => exact ⟨j + 1, by omega, by go_num, Lib.hid (by rw [Hst.out]; show BestIs _ _ (if ltW z b = true then some z else some b); rw [hq.out, if_neg Bool.false_ne_true]; exact ⟨hbn, Cd⟩), L2, b2⟩
      case measure => simp [intOf]; omega
  ·have hz : ((j : Int) < (L.length : Int)) = False := eq_false (by omega)
   obtain rfl : j = L.length := by omega
   have hB' := hB.out
   rw [List.take_length, hBest.out] at hB'
   obtain ⟨hbn, hbs⟩ := hB'
   obtain ⟨ba, bc, rfl, hba⟩ := id hbs
   have hbas : ∃ q, ba = some q := by
    obtain ⟨⟨-, -, h3⟩, -⟩ := hba
    rcases h3 with h3 | ⟨b, off, e, -⟩
    ·exact absurd h3 hbn
    ·exact ⟨_, e⟩
   obtain ⟨bq, rfl⟩ := hbas
   clear hB hBest hba
   go_wp2_with fail
   exact bodyPost_ret (v := .tuple #[.slice (some bq) (encM k).length bc, .bool true]) (by simp [results, Tryd.results10, go_sem]) rfl ⟨_, rfl, hbs, b1⟩
end Go.Proofs.YtcgleggdochbeaaDoor
