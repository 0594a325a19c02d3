/- EncodeBack. -/
import Derived.Test.YtbfkgakkkibejaaDoorZW
import Derived.Deep.CutRange
namespace Go.Proofs.YtbfkgakkkibejaaDoor
open Go.RowKit
set_option linter.unusedVariables false
set_option linter.unusedSimpArgs false
set_option linter.unusedSectionVars false

theorem opF_m {k c n : Int} {X : On} (h : opF k c n X) : 0 ≤ X.m ∧ X.m ≤ 4294967295 := by
  unfold opF at h
  (repeat' split at h) <;> first | (rw [h]; simp [onReg, onImm, onZ]; done) | (obtain ⟨-, h1, h2⟩ := h; omega) | (obtain ⟨-, -, h1, h2⟩ := h; omega)
theorem dec_wd {zs : List Int} (hz : ∀ z ∈ zs, 0 ≤ z ∧ z ≤ 255) {k : In} (h : decM zs = .ok k) : Wd k := by
  obtain ⟨r, c, n, t, H, -⟩ := dom_row hz h
  constructor
  · have hA := H.A
    split at hA
    · exact hA.1.2
    · exact opF_m hA
  · have hB := H.B
    split at hB
    · exact hB.1.2
    · exact opF_m hB
set_option maxRecDepth 20000 in
set_option maxHeartbeats 2000000 in
theorem RSame_any (a b : In) (w : World) : Calls Tryd.prog 13 #[inV a, inV b] w fun e w' => e = .returned (.bool (sameI (withLen a 0) (withLen b 0))) ∧ Below w.heap.size w w' := by
  obtain ⟨kA, kB, kw⟩ := two_in w a b
  have heq : ∀ W, (Op.equalIn 10000 26 (.agg (in16 (withLen a 0))) (.agg (in16 (withLen b 0)))).run Tryd.prog W = .ok (sameI (withLen a 0) (withLen b 0)) W := eqv_in (withLen a 0) (withLen b 0)
  have zA := in16_size (withLen a 0)
  have zB := in16_size (withLen b 0)
  have hlt := kA.lt
  have hlt2 := kB.lt
  generalize sameI (withLen a 0) (withLen b 0) = q at *
  go_enter Tryd.func13, Tryd.ntmps13
  go_upto_region 1 with fail
  generalize (w.alloc (.cells (in16 a) 26)).alloc (.cells (in16 b) 26) = W at *
  have a15 := kA.cell (i := 15) (v := .int .i64 a.len) rfl
  have f15a := kA.fr 15
  have b15 := kB.cell (i := 15) (v := .int .i64 b.len) rfl
  have f15 := kB.fr 15
  go_upto_region 2 with fail
  have kA1 : Blk (W.setCell ⟨w.heap.size, 15, none⟩ (.int .i64 0)) w.heap.size 26 (in16 (withLen a 0)) := kA.set 15 (.int .i64 0)
  have kB1 := kB.other (M := w.heap.size) 15 (.int .i64 0) (by omega)
  have kw1 : Below w.heap.size w (W.setCell ⟨w.heap.size, 15, none⟩ (.int .i64 0)) := kw.trans ((But.cell1 W w.heap.size 15 (.int .i64 0)).below kw.size (by simp))
  have kB2 : Blk ((W.setCell ⟨w.heap.size, 15, none⟩ (.int .i64 0)).setCell ⟨w.heap.size + 1, 15, none⟩ (.int .i64 0)) (w.heap.size + 1) 26 (in16 (withLen b 0)) := kB1.set 15 (.int .i64 0)
  have kA2 := kA1.other (M := w.heap.size + 1) 15 (.int .i64 0) (by omega)
  have kw2 : Below w.heap.size w ((W.setCell ⟨w.heap.size, 15, none⟩ (.int .i64 0)).setCell ⟨w.heap.size + 1, 15, none⟩ (.int .i64 0)) := kw1.trans ((But.cell1 _ (w.heap.size + 1) 15 (.int .i64 0)).below kw1.size (by simp))
  generalize (W.setCell ⟨w.heap.size, 15, none⟩ (.int .i64 0)).setCell ⟨w.heap.size + 1, 15, none⟩ (.int .i64 0) = W2 at *
  clear a15 b15 f15 f15a kA kB kA1 kB1
  generalize in16 (withLen a 0) = CA at *
  generalize in16 (withLen b 0) = CB at *
  go_wp2_with (first | (with_reducible refine load_inR rfl _ rfl w.heap.size CA rfl kA2 zA ?_) | (with_reducible refine load_inR rfl _ rfl (w.heap.size + 1) CB rfl kB2 zB ?_))
  go_ret
  exact ⟨rfl, kw2⟩
def byt (n : Int) : UInt8 := UInt8.ofNat n.toNat
theorem byt_nat {x : Int} (hx : 0 ≤ x ∧ x ≤ 255) : ((byt x).toNat : Int) = x := by
  unfold byt
  rw [UInt8.toNat_ofNat_of_lt' (show x.toNat < UInt8.size by unfold UInt8.size; omega)]
  omega
theorem byt_lt {x y : Int} (hx : 0 ≤ x ∧ x ≤ 255) (hy : 0 ≤ y ∧ y ≤ 255) : decide (byt x < byt y) = decide (x < y) := by
  have h1 := byt_nat hx
  have h2 := byt_nat hy
  refine decide_eq_decide.2 ?_
  rw [UInt8.lt_iff_toNat_lt]
  omega
theorem byt_eq {x y : Int} (hx : 0 ≤ x ∧ x ≤ 255) (hy : 0 ≤ y ∧ y ≤ 255) : (byt x == byt y) = (x == y) := by
  have h1 := byt_nat hx
  have h2 := byt_nat hy
  rw [Bool.eq_iff_iff, beq_iff_eq, beq_iff_eq, ← UInt8.toNat_inj]
  omega
theorem lex_str : ∀ (u v : List Int), Byt u → Byt v → lexLe u v = true → (Op.bytesLess (u.map byt) (v.map byt) || (u.map byt == v.map byt)) = true
  | [], [], _, _, _ => rfl
  | [], y :: v, _, _, _ => rfl
  | x :: u, [], _, _, h => by unfold lexLe at h; cases h
  | x :: u, y :: v, hu, hv, h => by
    have hx := hu x (by simp)
    have hy := hv y (by simp)
    unfold lexLe at h
    simp only [List.map_cons]
    unfold Op.bytesLess
    have ih := lex_str u v (fun z hz => hu z (by simp [hz])) (fun z hz => hv z (by simp [hz]))
    rw [byt_lt hx hy, byt_eq hx hy]
    rw [List.cons_beq_cons, byt_eq hx hy]
    cases hlt : decide (x < y)
    · rw [hlt, Bool.false_or] at h
      simp only [Bool.and_eq_true] at h
      rw [h.1, Bool.true_and, Bool.true_and, Bool.false_or]
      exact ih h.2
    · rfl
theorem str_lb {u v : List Int} (hu : Byt u) (hv : Byt v) (h : lexLe u v = true) : (Op.bytesLess (strB u).toList (strB v).toList || (strB u).toList == (strB v).toList) = true := by
  rw [strB_list, strB_list]
  exact lex_str u v hu hv h
theorem enc_byt {k : In} (hi : isB k = true) (hA : 0 ≤ k.A.m ∧ k.A.m ≤ 4294967295) (hB : 0 ≤ k.B.m ∧ k.B.m ≤ 4294967295) : Byt (encM k) := by
  obtain ⟨r, c, n, t, H, hw⟩ := bw_any hi hA hB (enc_best hi hA hB).2.1
  have h : encM k ∈ candsE k := by rw [hw]; exact way_in H
  exact Byt.cands (OkI.of hi hA hB) _ h
theorem isE_of {k : In} (h : isB k = true) : isE k = true := isB_len h (by decide)
theorem dec_isE {zs : List Int} {i : In} (h : decM zs = .ok i) : isE i = true := isE_of (dec_len h).1
theorem Bs.take {W : World} {g off n c : Nat} {zs : List Int} (h : Ba W (some ⟨g, off, none⟩) n c zs) (k : Nat) (hk : k ≤ n) : Bs W (.slice (some ⟨g, off, none⟩) k c) (zs.take k) := by
  obtain ⟨⟨h1, h2, h3⟩, h4, h5, h6⟩ := h
  have hl : (zs.take k).length = k := by rw [List.length_take]; omega
  refine ⟨_, c, by rw [hl], ⟨⟨rfl, fun z hz => h2 z (List.mem_of_mem_take hz), ?_⟩, by omega, h5, fun e => by cases e⟩⟩
  rcases h3 with rfl | ⟨b', off', e, hlt, hc⟩
  · exact .inl (by simp)
  · refine .inr ⟨b', off', e, hlt, fun i hi => ?_⟩
    rw [hl] at hi
    rw [hc i (by omega)]
    simp [List.getD_eq_getElem?_getD, List.getElem?_take, hi]
theorem cutTo (b off len cap k : Nat) (hk : k ≤ cap) (W : World) : (Instr.slice 28 (.slice (some ⟨b, off, none⟩) len cap) none (some (.int .i64 (k : Int))) none).run Tryd.prog W = .ok (.slice (some ⟨b, off, none⟩) k cap) W := by
  simp [Instr.slice, go_sem, hk]
set_option maxRecDepth 100000 in
set_option maxHeartbeats 8000000 in
theorem back_far {k : In} {a : Option Addr} {n c : Nat} {zs : List Int} (w : World) (A : Ba w a n c zs) (hk : Wd k) (tabs : Tabs w) (hn : (20 : Int) < (n : Int)) : Calls Tryd.prog 4 #[inV k, .slice a n c] w fun e w' => e = .returned (.bool true) ∧ Below w.heap.size w w' := by
  have b0 := (Below.refl w.heap.size w).alloc (Nat.le_refl _) (.cells (in16 k) 26)
  have kB := Blk.new w 26 (in16 k)
  have hK := Lib.hid (known_any _ (tabs.below b0))
  go_enter Tryd.func4, Tryd.ntmps4
  go_upto_region 1 with fail
  generalize w.alloc (.cells (in16 k) 26) = W0 at *
  go_wp2_with ((with_reducible refine hK.out.mono ?_); rintro e W1 ⟨rfl, b1⟩)
  go_ret
  exact ⟨rfl, b0.trans (b1.mono b0.size)⟩
set_option maxRecDepth 100000 in
set_option maxHeartbeats 8000000 in
theorem back_none {k : In} {a : Option Addr} {n c : Nat} {zs : List Int} (w : World) (A : Ba w a n c zs) (hk : Wd k) (tabs : Tabs w) (hn : ¬ (20 : Int) < (n : Int)) (hi : isE k = false) : Calls Tryd.prog 4 #[inV k, .slice a n c] w fun e w' => e = .returned (.bool true) ∧ Below w.heap.size w w' := by
  have b0 := (Below.refl w.heap.size w).alloc (Nat.le_refl _) (.cells (in16 k) 26)
  have kB := Blk.new w 26 (in16 k)
  have hK := Lib.hid (known_any _ (tabs.below b0))
  have hE := Lib.hid (fun W t => Encode_at hk (x := 90) (z := []) (by unfold errE; rw [hi]; rfl) (by unfold bytesE; rw [hi]; rfl) W t)
  go_enter Tryd.func4, Tryd.ntmps4
  go_upto_region 1 with fail
  generalize w.alloc (.cells (in16 k) 26) = W0 at *
  go_wp2_with (first | ((with_reducible refine hK.out.mono ?_); rintro e W1 ⟨rfl, b1⟩; have b01 := b0.trans (b1.mono b0.size); have kB1 := kB.below b1 kB.lt) | (with_reducible refine load_inR rfl _ rfl w.heap.size (in16 k) rfl kB1 (in16_size _) ?_) | ((with_reducible refine (hE.out _ (tabs.below b01)).mono ?_); rintro e W2 ⟨v, rfl, ⟨va, vc, rfl, hv⟩, b2⟩))
  go_ret
  exact ⟨rfl, b01.trans (b2.mono b01.size)⟩
theorem Decode_ba2 {w : World} {a : Option Addr} {n c : Nat} {zs : List Int} (A : Ba w a n c zs) (tabs : Tabs w) {i : In} {x l : Int} (h : decI zs = i ∧ decE zs = x ∧ i.len = l) :
    Calls Tryd.prog 12 #[.slice a n c] w fun e w' => e = .returned (.tuple #[inV i, .int .i64 l, .int .i64 x]) ∧ Below w.heap.size w w' := by
  obtain ⟨rfl, rfl, rfl⟩ := h
  exact Decode_any A tabs
set_option maxRecDepth 100000 in
set_option maxHeartbeats 8000000 in
theorem back_bad {k : In} {a : Option Addr} {n c : Nat} {zs : List Int} (w : World) (A : Ba w a n c zs) (hk : Wd k) (tabs : Tabs w) (hn : ¬ (20 : Int) < (n : Int)) (hi : isE k = true) {i : In} {x : Int} (hd2 : decI zs = i ∧ decE zs = x) (hx : (x != 0) = true) : Calls Tryd.prog 4 #[inV k, .slice a n c] w fun e w' => e = .returned (.bool true) ∧ Below w.heap.size w w' := by
  have b0 := (Below.refl w.heap.size w).alloc (Nat.le_refl _) (.cells (in16 k) 26)
  have kB := Blk.new w 26 (in16 k)
  have hK := Lib.hid (known_any _ (tabs.below b0))
  obtain ⟨j, hj⟩ : ∃ j : In, j = ⟨k.op, k.c, k.A, k.B, k.rep, (encM k).length⟩ := ⟨_, rfl⟩
  have hbz : bytesE k = encM k := by unfold bytesE; rw [if_pos hi]
  have hE := Lib.hid (fun W t => Encode_at hk (x := 0) (z := encM k) (by unfold errE; rw [hi]; rfl) hbz W t)
  have hread := (enc_read (k := withLen k 0) hi hk.A hk.B []).1
  rw [List.append_nil] at hread
  have hd : decI (encM k) = j ∧ decE (encM k) = 0 ∧ j.len = ((encM k).length : Int) := by
    have h : decM (encM k) = .ok j := by rw [hj]; exact hread
    refine ⟨by unfold decI; rw [h], by unfold decE; rw [h], by rw [hj]⟩
  have hS := Lib.hid (fun W => RSame_any k j W)
  rw [show sameI (withLen k 0) (withLen j 0) = true by rw [hj, sameI_iff]; rfl] at hS
  clear hread hbz hj
  generalize encM k = z at *
  go_enter Tryd.func4, Tryd.ntmps4
  go_upto_region 1 with fail
  generalize w.alloc (.cells (in16 k) 26) = W0 at *
  go_upto_region 9 with (first | ((with_reducible refine hK.out.mono ?_); rintro e W1 ⟨rfl, b1⟩; have b01 := b0.trans (b1.mono b0.size); have kB1 := kB.below b1 kB.lt) | (with_reducible refine load_inR rfl _ rfl w.heap.size (in16 k) rfl kB1 (in16_size _) ?_) | ((with_reducible refine (hE.out _ (tabs.below b01)).mono ?_); rintro e W2 ⟨v, rfl, ⟨va, vc, rfl, hv⟩, b2⟩; have b02 := b01.trans (b2.mono b01.size); have hD1 := Lib.hid (Decode_ba2 hv (tabs.below b02) hd)) | ((with_reducible refine hD1.out.mono ?_); rintro e W3 ⟨rfl, b3⟩) | ((with_reducible refine store_in_as rfl _ _ rfl (in16 j) (in16_size _) (in16_one _) rfl rfl ?_); intro W4 kJ b4))
  have b24 := b3.trans (b4.mono b3.size)
  have b04 := b02.trans (b24.mono b02.size)
  have kB4 := (kB1.below b2 kB1.lt).below b24 (Nat.lt_of_lt_of_le kB1.lt b2.size)
  have hv4 := hv.below b24
  have zJ := in16_size j
  have zK := in16_size k
  generalize W3.heap.size = BJ at *
  go_upto_region 11 with (first | (with_reducible refine load_inG (by kernel_rfl) _ rfl BJ rfl (in16 j) zJ kJ ?_) | (with_reducible refine load_inG (by kernel_rfl) _ rfl w.heap.size rfl (in16 k) zK kB4 ?_) | ((with_reducible refine (hS.out _).mono ?_); rintro e W5 ⟨rfl, b5⟩))
  have b05 := b04.trans (b5.mono b04.size)
  have hv5 := hv4.below b5
  have A5 := A.below b05
  have kJ5 := kJ.below b5 kJ.lt
  have hD2 := Lib.hid (Decode_ba2 A5 (tabs.below b05) ⟨hd2.1, hd2.2, rfl⟩)
  go_wp2_with (first | ((with_reducible refine hD2.out.mono ?_); rintro e W6 ⟨rfl, b6⟩) | ((with_reducible refine store_in_as rfl _ _ rfl (in16 i) (in16_size _) (in16_one _) rfl rfl ?_); intro W7 kI b7))
  go_ret
  exact ⟨rfl, b05.trans ((b6.trans (b7.mono b6.size)).mono b05.size)⟩
set_option maxRecDepth 100000 in
set_option maxHeartbeats 8000000 in
theorem back_lt {k : In} {a : Option Addr} {n c : Nat} {zs : List Int} (w : World) (A : Ba w a n c zs) (hk : Wd k) (tabs : Tabs w) (hn : ¬ (20 : Int) < (n : Int)) (hi : isE k = true) {i : In} {m : Nat} (hd2 : decI zs = i ∧ decE zs = 0) (him : i.len = (m : Int)) (hwi : Wd i) (hii : isE i = true) (hmn : m ≤ n) (hlt : (encM i).length < m) : Calls Tryd.prog 4 #[inV k, .slice a n c] w fun e w' => e = .returned (.bool true) ∧ Below w.heap.size w w' := by
  have b0 := (Below.refl w.heap.size w).alloc (Nat.le_refl _) (.cells (in16 k) 26)
  have kB := Blk.new w 26 (in16 k)
  have hK := Lib.hid (known_any _ (tabs.below b0))
  obtain ⟨j, hj⟩ : ∃ j : In, j = ⟨k.op, k.c, k.A, k.B, k.rep, (encM k).length⟩ := ⟨_, rfl⟩
  have hbz : bytesE k = encM k := by unfold bytesE; rw [if_pos hi]
  have hE := Lib.hid (fun W t => Encode_at hk (x := 0) (z := encM k) (by unfold errE; rw [hi]; rfl) hbz W t)
  have hread := (enc_read (k := withLen k 0) hi hk.A hk.B []).1
  rw [List.append_nil] at hread
  have hd : decI (encM k) = j ∧ decE (encM k) = 0 ∧ j.len = ((encM k).length : Int) := by
    have h : decM (encM k) = .ok j := by rw [hj]; exact hread
    refine ⟨by unfold decI; rw [h], by unfold decE; rw [h], by rw [hj]⟩
  have hS := Lib.hid (fun W => RSame_any k j W)
  rw [show sameI (withLen k 0) (withLen j 0) = true by rw [hj, sameI_iff]; rfl] at hS
  clear hread hbz hj
  generalize encM k = z at *
  have hE2 := Lib.hid (fun W t => Encode_at hwi (x := 0) (z := encM i) (by unfold errE; rw [hii]; rfl) (by unfold bytesE; rw [if_pos hii]) W t)
  have h1 : (((encM i).length : Int) ≤ (m : Int)) = True := eq_true (by omega)
  have h2 : (((encM i).length : Int) < (m : Int)) = True := eq_true (by omega)
  clear hlt
  generalize encM i = z2 at *
  go_enter Tryd.func4, Tryd.ntmps4
  go_upto_region 1 with fail
  generalize w.alloc (.cells (in16 k) 26) = W0 at *
  go_upto_region 9 with (first | ((with_reducible refine hK.out.mono ?_); rintro e W1 ⟨rfl, b1⟩; have b01 := b0.trans (b1.mono b0.size); have kB1 := kB.below b1 kB.lt) | (with_reducible refine load_inR rfl _ rfl w.heap.size (in16 k) rfl kB1 (in16_size _) ?_) | ((with_reducible refine (hE.out _ (tabs.below b01)).mono ?_); rintro e W2 ⟨v, rfl, ⟨va, vc, rfl, hv⟩, b2⟩; have b02 := b01.trans (b2.mono b01.size); have hD1 := Lib.hid (Decode_ba2 hv (tabs.below b02) hd)) | ((with_reducible refine hD1.out.mono ?_); rintro e W3 ⟨rfl, b3⟩) | ((with_reducible refine store_in_as rfl _ _ rfl (in16 j) (in16_size _) (in16_one _) rfl rfl ?_); intro W4 kJ b4))
  have b24 := b3.trans (b4.mono b3.size)
  have b04 := b02.trans (b24.mono b02.size)
  have kB4 := (kB1.below b2 kB1.lt).below b24 (Nat.lt_of_lt_of_le kB1.lt b2.size)
  have hv4 := hv.below b24
  have zJ := in16_size j
  have zK := in16_size k
  generalize W3.heap.size = BJ at *
  go_upto_region 11 with (first | (with_reducible refine load_inG (by kernel_rfl) _ rfl BJ rfl (in16 j) zJ kJ ?_) | (with_reducible refine load_inG (by kernel_rfl) _ rfl w.heap.size rfl (in16 k) zK kB4 ?_) | ((with_reducible refine (hS.out _).mono ?_); rintro e W5 ⟨rfl, b5⟩))
  have b05 := b04.trans (b5.mono b04.size)
  have hv5 := hv4.below b5
  have A5 := A.below b05
  have kJ5 := kJ.below b5 kJ.lt
  have hD2 := Lib.hid (Decode_ba2 A5 (tabs.below b05) ⟨hd2.1, hd2.2, him⟩)
  go_upto_region 15 with (first | ((with_reducible refine hD2.out.mono ?_); rintro e W6 ⟨rfl, b6⟩) | ((with_reducible refine store_in_as rfl _ _ rfl (in16 i) (in16_size _) (in16_one _) rfl rfl ?_); intro W7 kI b7; have b67 := b6.trans (b7.mono b6.size); have b07 := b05.trans (b67.mono b05.size)) | (with_reducible refine load_inR rfl _ rfl W6.heap.size (in16 i) rfl kI (in16_size _) ?_) | ((with_reducible refine (hE2.out _ (tabs.below b07)).mono ?_); rintro e W8 ⟨v2, rfl, ⟨ua, uc, rfl, hu⟩, b8⟩))
  have b08 := b07.trans (b8.mono b07.size)
  have A8 := (A5.below b67).below b8
  go_region
  go_wp2_with fail
  go_ret
  exact ⟨rfl, b08.trans (drew_below _ b08.size)⟩
set_option maxRecDepth 100000 in
set_option maxHeartbeats 8000000 in
theorem back_eq {k : In} {a : Option Addr} {n c : Nat} {zs : List Int} (w : World) (A : Ba w a n c zs) (hk : Wd k) (tabs : Tabs w) (hn : ¬ (20 : Int) < (n : Int)) (hi : isE k = true) {i : In} {m : Nat} (hd2 : decI zs = i ∧ decE zs = 0) (him : i.len = (m : Int)) (hwi : Wd i) (hii : isE i = true) (hmn : m ≤ n) (heq : (encM i).length = m) {g off : Nat} (ha : a = some ⟨g, off, none⟩) (hlb : (Op.bytesLess (strB (encM i)).toList (strB (zs.take m)).toList || (strB (encM i)).toList == (strB (zs.take m)).toList) = true) : Calls Tryd.prog 4 #[inV k, .slice a n c] w fun e w' => e = .returned (.bool true) ∧ Below w.heap.size w w' := by
  have b0 := (Below.refl w.heap.size w).alloc (Nat.le_refl _) (.cells (in16 k) 26)
  have kB := Blk.new w 26 (in16 k)
  have hK := Lib.hid (known_any _ (tabs.below b0))
  obtain ⟨j, hj⟩ : ∃ j : In, j = ⟨k.op, k.c, k.A, k.B, k.rep, (encM k).length⟩ := ⟨_, rfl⟩
  have hbz : bytesE k = encM k := by unfold bytesE; rw [if_pos hi]
  have hE := Lib.hid (fun W t => Encode_at hk (x := 0) (z := encM k) (by unfold errE; rw [hi]; rfl) hbz W t)
  have hread := (enc_read (k := withLen k 0) hi hk.A hk.B []).1
  rw [List.append_nil] at hread
  have hd : decI (encM k) = j ∧ decE (encM k) = 0 ∧ j.len = ((encM k).length : Int) := by
    have h : decM (encM k) = .ok j := by rw [hj]; exact hread
    refine ⟨by unfold decI; rw [h], by unfold decE; rw [h], by rw [hj]⟩
  have hS := Lib.hid (fun W => RSame_any k j W)
  rw [show sameI (withLen k 0) (withLen j 0) = true by rw [hj, sameI_iff]; rfl] at hS
  clear hread hbz hj
  generalize encM k = z at *
  have hE2 := Lib.hid (fun W t => Encode_at hwi (x := 0) (z := encM i) (by unfold errE; rw [hii]; rfl) (by unfold bytesE; rw [if_pos hii]) W t)
  subst ha
  have h1 : (((encM i).length : Int) ≤ (m : Int)) = True := eq_true (by omega)
  have h2 : (((encM i).length : Int) < (m : Int)) = False := eq_false (by omega)
  have hc := A.lc
  have hcut := cutTo g off n c m (by omega)
  have HL := Lib.hid hlb
  clear heq hlb
  generalize encM i = z2 at *
  go_enter Tryd.func4, Tryd.ntmps4
  go_upto_region 1 with fail
  generalize w.alloc (.cells (in16 k) 26) = W0 at *
  go_upto_region 9 with (first | ((with_reducible refine hK.out.mono ?_); rintro e W1 ⟨rfl, b1⟩; have b01 := b0.trans (b1.mono b0.size); have kB1 := kB.below b1 kB.lt) | (with_reducible refine load_inR rfl _ rfl w.heap.size (in16 k) rfl kB1 (in16_size _) ?_) | ((with_reducible refine (hE.out _ (tabs.below b01)).mono ?_); rintro e W2 ⟨v, rfl, ⟨va, vc, rfl, hv⟩, b2⟩; have b02 := b01.trans (b2.mono b01.size); have hD1 := Lib.hid (Decode_ba2 hv (tabs.below b02) hd)) | ((with_reducible refine hD1.out.mono ?_); rintro e W3 ⟨rfl, b3⟩) | ((with_reducible refine store_in_as rfl _ _ rfl (in16 j) (in16_size _) (in16_one _) rfl rfl ?_); intro W4 kJ b4))
  have b24 := b3.trans (b4.mono b3.size)
  have b04 := b02.trans (b24.mono b02.size)
  have kB4 := (kB1.below b2 kB1.lt).below b24 (Nat.lt_of_lt_of_le kB1.lt b2.size)
  have hv4 := hv.below b24
  have zJ := in16_size j
  have zK := in16_size k
  generalize W3.heap.size = BJ at *
  go_upto_region 11 with (first | (with_reducible refine load_inG (by kernel_rfl) _ rfl BJ rfl (in16 j) zJ kJ ?_) | (with_reducible refine load_inG (by kernel_rfl) _ rfl w.heap.size rfl (in16 k) zK kB4 ?_) | ((with_reducible refine (hS.out _).mono ?_); rintro e W5 ⟨rfl, b5⟩))
  have b05 := b04.trans (b5.mono b04.size)
  have hv5 := hv4.below b5
  have A5 := A.below b05
  have kJ5 := kJ.below b5 kJ.lt
  have hD2 := Lib.hid (Decode_ba2 A5 (tabs.below b05) ⟨hd2.1, hd2.2, him⟩)
  go_upto_region 15 with (first | ((with_reducible refine hD2.out.mono ?_); rintro e W6 ⟨rfl, b6⟩) | ((with_reducible refine store_in_as rfl _ _ rfl (in16 i) (in16_size _) (in16_one _) rfl rfl ?_); intro W7 kI b7; have b67 := b6.trans (b7.mono b6.size); have b07 := b05.trans (b67.mono b05.size)) | (with_reducible refine load_inR rfl _ rfl W6.heap.size (in16 i) rfl kI (in16_size _) ?_) | ((with_reducible refine (hE2.out _ (tabs.below b07)).mono ?_); rintro e W8 ⟨v2, rfl, ⟨ua, uc, rfl, hu⟩, b8⟩))
  have b08 := b07.trans (b8.mono b07.size)
  have A8 := (A5.below b67).below b8
  have hT := Bs.take A8 m hmn
  have cT := fun W (h : Below W8.heap.size W8 W) => conv_bs (hT.below h)
  have hU : Bs W8 (.slice ua z2.length uc) z2 := ⟨ua, uc, rfl, hu⟩
  have cT1 := conv_bs (hT.below (drew_below W8 (Nat.le_refl _)))
  have cU1 := conv_bs (hU.below (drew_below W8 (Nat.le_refl _)))
  have cT2 := conv_bs hT
  have cU2 := conv_bs hU
  generalize strB (zs.take m) = sT at *
  generalize strB z2 = sU at *
  clear cT
  go_region
  go_wp2_with fail
  go_ret
  exact ⟨congrArg (fun b => Ending.returned (Value.bool b)) HL.out, b08.trans (drew_below _ b08.size)⟩
theorem back_any {k : In} {a : Option Addr} {n c : Nat} {zs : List Int} (w : World) (A : Ba w a n c zs) (hk : Wd k) (tabs : Tabs w) : Calls Tryd.prog 4 #[inV k, .slice a n c] w fun e w' => e = .returned (.bool true) ∧ Below w.heap.size w w' := by
  by_cases hn : (20 : Int) < (n : Int)
  · exact back_far w A hk tabs hn
  cases hi : isE k
  · exact back_none w A hk tabs hn hi
  have hz := A.row.2.1
  cases hd : decM zs with
  | error x => exact back_bad w A hk tabs hn hi (i := inZ) (x := x) ⟨by unfold decI; rw [hd], by unfold decE; rw [hd]⟩ (by simpa using decE_err hd)
  | ok i =>
    have hwi := dec_wd hz hd
    have hii := dec_isE hd
    have hlen := dec_len hd
    obtain ⟨m, hm⟩ := Int.eq_ofNat_of_zero_le (show 0 ≤ i.len by have := hlen.2; omega)
    have hzn : zs.length = n := A.row.1
    have hmn : m ≤ n := by have := hlen.2; omega
    have hle := enc_least hz hd hwi.A hwi.B
    rw [hm, Int.toNat_natCast] at hle
    have htl : (zs.take m).length = m := by rw [List.length_take]; omega
    have hd2 : decI zs = i ∧ decE zs = 0 := ⟨by unfold decI; rw [hd], by unfold decE; rw [hd]⟩
    rcases hle with h | ⟨h, hlex⟩
    · exact back_lt w A hk tabs hn hi hd2 hm hwi hii hmn (by omega)
    · have h1 := (enc_read (k := withLen i 0) hii hwi.A hwi.B []).2.1
      have h2 : (encM i).length = m := by omega
      obtain ⟨g, off, ha⟩ : ∃ g off, a = some ⟨g, off, none⟩ := by
        rcases A.row.2.2 with rfl | ⟨g, off, e, -⟩
        · exfalso
          have h3 : 1 ≤ (encM i).length := h1
          simp at hzn
          omega
        · exact ⟨g, off, e⟩
      refine back_eq w A hk tabs hn hi hd2 hm hwi hii hmn h2 ha (str_lb ?_ (fun z hz2 => hz z (List.mem_of_mem_take hz2)) hlex)
      exact enc_byt (k := withLen i 0) hii hwi.A hwi.B
end Go.Proofs.YtbfkgakkkibejaaDoor
